/-
  Layer 5 (conf): the reference's comparison of lists of numbers. By the verifier.
-/
import Derived.Test.YthdagjlgfffpbaaGreatGKey
import Derived.BigQuiet
set_option linter.unusedVariables false
namespace Go.Proofs.YthdagjlgfffpbaaGreat
open Go.RowKit

/-- The world has been asked for orders alone. -/
def Qt (w w' : World) : Prop := ∃ n, w' = w.drewN n
theorem Qt.refl (w : World) : Qt w w := ⟨0, rfl⟩
theorem Qt.more {w w' : World} (h : Qt w w') (m : Nat) : Qt w (w'.drewN m) := by
  obtain ⟨n, rfl⟩ := h
  exact ⟨n + m, by simp [World.drewN, Nat.add_assoc]⟩
theorem Qt.below {w w' : World} (h : Qt w w') (B : Nat) : Below B w w' := by
  obtain ⟨n, rfl⟩ := h
  exact below_drewN (Below.refl _ _) n

/-- Number k of a slice of numbers. -/
theorem cells_num {w wr : World} {A : Option Addr} {l : List Nat} (h : Cells w A (l.map U64)) (hq : Qt w wr) {k : Nat} (hk : k < l.length) : ∃ b o, A = some ⟨b, o, none⟩ ∧ wr.cell? ⟨b, o + k, none⟩ = some (.int .u64 ((l.getD k 0 : Nat) : Int)) := by
  obtain ⟨b, o, hA, -, hc⟩ := (h.below (Nat.le_refl _) (hq.below _)).some (by rw [List.length_map]; omega)
  refine ⟨b, o, hA, ?_⟩
  rw [hc k (U64 (l.getD k 0)) (by rw [List.getElem?_map, List.getElem?_eq_getElem hk]; simp [List.getD, hk])]
  rfl

theorem take_next {k : Nat} {x y : List Nat} (hx : k < x.length) (hy : k < y.length) (h : x.take k = y.take k) (he : x.getD k 0 = y.getD k 0) : x.take (k + 1) = y.take (k + 1) := by
  rw [List.take_succ_eq_append_getElem hx, List.take_succ_eq_append_getElem hy, h]
  have e1 : x.getD k 0 = x[k] := by simp [List.getD, hx]
  have e2 : y.getD k 0 = y[k] := by simp [List.getD, hy]
  rw [← e1, ← e2, he]

set_option maxHeartbeats 4000000 in
theorem less_ok (l m : List Nat) (A B : Option Addr) (ca cb : Nat) (w : World) (hA : Cells w A (l.map U64)) (hB : Cells w B (m.map U64)) (hl : l.length ≤ 100000) (hm : m.length ≤ 100000) :
    Calls Tryz.prog 36 #[.slice A l.length ca, .slice B m.length cb] w fun e w' => e = .returned (.bool (lessN l m)) ∧ ∃ n, w' = w.drewN n := by
  have HA := Lib.hid (fun (wr : World) (hq : Qt w wr) (k : Nat) (hk : k < l.length) => cells_num hA hq hk)
  have HB := Lib.hid (fun (wr : World) (hq : Qt w wr) (k : Nat) (hk : k < m.length) => cells_num hB hq hk)
  clear hA hB
  go_enter Tryz.func36, Tryz.ntmps36
  go_wp2_with fail
  go_loopw [5] (fun i wr => ∃ k : Nat, k ≤ l.length ∧ k ≤ m.length ∧ i = .int .i64 (k : Int) ∧ Hid (Qt w wr ∧ l.take k = m.take k)) (fun i _ => l.length - (intOf i).toNat)
  case atStart => exact ⟨0, by omega, by omega, rfl, Lib.hid ⟨Qt.refl _, rfl⟩⟩
  case round =>
    obtain ⟨k, hk1, hk2, rfl, ho⟩ := hrel
    by_cases h1 : k < l.length
    · have h1i : (k : Int) < (l.length : Int) := by omega
      by_cases h2 : k < m.length
      · have h2i : (k : Int) < (m.length : Int) := by omega
        have hwk : wrap64 ((k : Int) + 1) = (k : Int) + 1 := by unfold wrap64; omega
        obtain ⟨b, o, rfl, hc⟩ := HA.out wr ho.out.1 k h1
        obtain ⟨b2, o2, rfl, hc2⟩ := HB.out wr ho.out.1 k h2
        have HE := Lib.hid (fun hne => lessN_at h1 h2 ho.out.2 hne)
        have HN := Lib.hid (take_next h1 h2 ho.out.2)
        generalize l.getD k 0 = x at *
        generalize m.getD k 0 = y at *
        by_cases he : x = y
        · subst he
          have HN2 := Lib.hid (HN.out rfl)
          clear HN HE
          go_wp2_with fail
          go_quiet (fail)
          go_wp2_with fail
          go_roundw
          case rel => exact ⟨k + 1, by omega, by omega, by go_num, Lib.hid ⟨ho.out.1.more _, HN2.out⟩⟩
          case measure => simp [intOf]; omega
        · have hei : ¬ (x : Int) = (y : Int) := by omega
          go_wp2_with fail
          go_quiet (fail)
          go_wp2_with fail
          go_quiet (fail)
          go_wp2_with fail
          go_ret
          exact ⟨by rw [HE.out he]; simp, (ho.out.1.more _).more _⟩
      · have h2i : ¬ (k : Int) < (m.length : Int) := by omega
        have HE := Lib.hid (lessN_end hk1 hk2 (Or.inr (by omega)) ho.out.2)
        go_wp2_with fail
        go_ret
        exact ⟨by rw [HE.out]; simp, ho.out.1⟩
    · have h1i : ¬ (k : Int) < (l.length : Int) := by omega
      have HE := Lib.hid (lessN_end hk1 hk2 (Or.inl (by omega)) ho.out.2)
      go_wp2_with fail
      go_ret
      exact ⟨by rw [HE.out]; simp, ho.out.1⟩

end Go.Proofs.YthdagjlgfffpbaaGreat
