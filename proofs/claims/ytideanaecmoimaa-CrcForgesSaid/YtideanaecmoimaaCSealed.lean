/-
  Layer 2 (crc): Sealed. By the verifier.
-/
import Derived.Test.YtideanaecmoimaaCEq
import Derived.Deep.RegionHeld3
import Derived.WalkSpells
import Derived.Laws.Cover3
set_option linter.unusedVariables false
namespace Go.Proofs.Ytideanaecmoimaa
open Go.RowKit

theorem sealed_short (A : Option Addr) (n c : Nat) (hn : n < 4) (w : World) :
    Calls Try.prog 18 #[.slice A n c] w fun e w' => e = .returned (.bool false) ∧ Below w.heap.size w w' := by
  have hd : decide (0 ≤ (n : Int) - 4) = false := by simp; omega
  have hd2 : decide ((4 : Int) ≤ (n : Int)) = false := by simp; omega
  go_enter Try.func18, Try.ntmps18
  go_wp2_with fail
  go_quiet (fail)
  go_wp2_with fail
  go_ret
  exact ⟨rfl, below_drewN (Below.refl _ _) _⟩

set_option maxHeartbeats 2000000 in
theorem sealed_long (b o c : Nat) (p : List Nat) (x0 x1 x2 x3 : Nat) (w : World) (hl : Bys w (some ⟨b, o, none⟩) (p ++ [x0, x1, x2, x3])) (hc : p.length + 4 ≤ c) :
    Calls Try.prog 18 #[.slice (some ⟨b, o, none⟩) (p.length + 4) c] w fun e w' => e = .returned (.bool (decide (le (crc p) = [x0, x1, x2, x3]))) ∧ Below w.heap.size w w' := by
  have HL := Lib.hid hl
  have hm := hl.2.2
  unfold maxLen at hm
  simp only [List.length_append, List.length_cons, List.length_nil] at hm
  obtain ⟨y0, hy0⟩ : ∃ y : Int, y = (x0 : Int) := ⟨_, rfl⟩
  obtain ⟨y1, hy1⟩ : ∃ y : Int, y = (x1 : Int) := ⟨_, rfl⟩
  obtain ⟨y2, hy2⟩ : ∃ y : Int, y = (x2 : Int) := ⟨_, rfl⟩
  obtain ⟨y3, hy3⟩ : ∃ y : Int, y = (x3 : Int) := ⟨_, rfl⟩
  have HY := Lib.hid (And.intro hy0 (And.intro hy1 (And.intro hy2 hy3)))
  have HP : Hid (∀ W, Below w.heap.size w W → Bys W (some ⟨b, o, none⟩) p) := by
    refine Lib.hid fun W hW => ?_
    have h1 := hl.below (Nat.le_refl _) hW
    refine ⟨fun i hi => ?_, fun x hx => h1.2.1 x (List.mem_append_left _ hx), by unfold maxLen; omega⟩
    obtain ⟨b', o', h2, h3, h4⟩ := h1.1 i (by rw [List.length_append]; omega)
    refine ⟨b', o', h2, h3, ?_⟩
    rw [h4]
    simp [List.getD, List.getElem?_append_left hi]
  have HS : Hid (∀ W, Below w.heap.size w W → (W.cell? ⟨b, o + p.length, none⟩ = some (.int .u8 y0) ∧ W.cell? ⟨b, o + p.length + 1, none⟩ = some (.int .u8 y1) ∧ W.cell? ⟨b, o + p.length + 2, none⟩ = some (.int .u8 y2) ∧ W.cell? ⟨b, o + p.length + 3, none⟩ = some (.int .u8 y3))) := by
    refine Lib.hid fun W hW => ?_
    have h1 := hl.below (Nat.le_refl _) hW
    have hcl : ∀ j, j < 4 → ∃ v, W.cell? ⟨b, o + p.length + j, none⟩ = some (V8 ((p ++ [x0, x1, x2, x3]).getD (p.length + j) 0)) ∧ v = 0 := by
      intro j hj
      obtain ⟨b', o', h2, h3, h4⟩ := h1.1 (p.length + j) (by rw [List.length_append]; simp; omega)
      injection h2 with h2
      injection h2 with h5 h6
      subst h5 h6
      exact ⟨0, by rw [Nat.add_assoc]; exact h4, rfl⟩
    have e : ∀ j, (p ++ [x0, x1, x2, x3]).getD (p.length + j) 0 = [x0, x1, x2, x3].getD j 0 := fun j => by
      simp [List.getD, List.getElem?_append_right (Nat.le_add_right p.length j)]
    obtain ⟨_, c0, _⟩ := hcl 0 (by omega)
    obtain ⟨_, c1, _⟩ := hcl 1 (by omega)
    obtain ⟨_, c2, _⟩ := hcl 2 (by omega)
    obtain ⟨_, c3, _⟩ := hcl 3 (by omega)
    rw [e] at c0 c1 c2 c3
    rw [hy0, hy1, hy2, hy3]
    exact ⟨c0, c1, c2, c3⟩
  have hbw : b < w.heap.size := by
    obtain ⟨b', o', h2, h3, h4⟩ := hl.1 p.length (by rw [List.length_append]; simp)
    injection h2 with h2
    injection h2 with h5 h6
    subst h5
    exact h3
  obtain ⟨b0, b1, b2, b3, hle, hlv⟩ := leArr_ints (crc p)
  have HB : Hid (∀ W, Calls Try.prog 28 #[.int .u32 (crc p : Nat)] W fun e w' => e = .returned (.agg #[.int .u8 b0, .int .u8 b1, .int .u8 b2, .int .u8 b3]) ∧ Below W.heap.size W w') := Lib.hid fun W => by rw [← hle]; exact bytesOf_ok _ _
  obtain ⟨r, hr⟩ : ∃ r : Bool, r = ((b0 == y0) && ((b1 == y1) && ((b2 == y2) && (b3 == y3)))) := ⟨_, rfl⟩
  have HR : Hid (r = decide (le (crc p) = [x0, x1, x2, x3])) := by
    refine Lib.hid ?_
    have hv : [V8 x0, V8 x1, V8 x2, V8 x3] = [Value.int .u8 y0, .int .u8 y1, .int .u8 y2, .int .u8 y3] := by rw [hy0, hy1, hy2, hy3]; rfl
    have hinj : ∀ l m : List Nat, l.map V8 = m.map V8 → l = m := fun l m h => by
      refine List.map_inj_right (f := V8) (fun x y hxy => ?_) |>.1 h
      unfold V8 at hxy
      injection hxy with _ hxy
      omega
    rw [hr, Bool.eq_iff_iff]
    simp only [Bool.and_eq_true, beq_iff_eq, decide_eq_true_eq]
    constructor
    · rintro ⟨rfl, rfl, rfl, rfl⟩
      refine hinj _ _ ?_
      rw [← hlv]
      exact hv.symm
    · intro h
      rw [h] at hlv
      have h2 := hlv.trans hv
      simp only [List.cons.injEq, Value.int.injEq, true_and, and_true] at h2
      exact h2
  have heq : ∀ W, (Op.equalIn 10000 49 (.agg #[.int .u8 b0, .int .u8 b1, .int .u8 b2, .int .u8 b3]) (.agg #[.int .u8 y0, .int .u8 y1, .int .u8 y2, .int .u8 y3])).run Try.prog W = .ok r W := fun W => by rw [hr]; exact run_eq4 ..
  clear hr
  obtain ⟨q0, q1, q2, q3⟩ := HS.out w (Below.refl _ _)
  clear hl hy0 hy1 hy2 hy3 hle hlv
  have hge : (0 : Int) ≤ (p.length : Int) := by omega
  have hcc : (p.length : Int) ≤ (c : Int) := by omega
  have hcl : (p.length : Int) ≤ (p.length : Int) + 4 := by omega
  have hat : ∀ (a : Addr) (k : Nat) (W : World), (Instr.arrayAt 49 (.slice (some a) 4 k)).run Try.prog W = .ok (.pointer (some a)) W := fun a k W => run_arrayAt W 49 _ 4 (some a) 4 k Try.underlying49 (by omega)
  have hne : (c = p.length) = False := by simp; omega
  go_enter Try.func18, Try.ntmps18
  go_wp2_with fail
  go_region_held3 (fun W => W.cell? ⟨b, o + p.length, none⟩ = some (.int .u8 y0) ∧ W.cell? ⟨b, o + p.length + 1, none⟩ = some (.int .u8 y1) ∧ W.cell? ⟨b, o + p.length + 2, none⟩ = some (.int .u8 y2) ∧ W.cell? ⟨b, o + p.length + 3, none⟩ = some (.int .u8 y3))
    (first | go_keep | exact HS.out _ (by assumption))
    (first | (go_at_call 11; refine (sum1_ok _ (some ⟨b, o, none⟩) p c (HP.out _ (Below.refl _ _).drew)).mono ?_; rintro e w1 ⟨rfl, hb1⟩; have hB1 : Below w.heap.size w w1 := (Below.refl w.heap.size w).drew.trans hb1; clear hb1)
           | (go_at_call 28; refine (HB.out _).mono ?_; rintro e w2 ⟨rfl, hb2⟩; have hB2 : Below w.heap.size w w2 := hB1.trans (hb2.mono hB1.size); clear hb2))
  all_goals go_wp2_with fail
  all_goals go_ret
  all_goals exact ⟨congrArg (fun r => Ending.returned (.bool r)) HR.out, by assumption⟩
end Go.Proofs.Ytideanaecmoimaa
