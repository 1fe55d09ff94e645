/-
  Layer 5 (conf): the program's sameChannel, the library's EqualFunc of channels, the program's Same. By the verifier.
-/
import Derived.Test.YthdagjlgfffpbaaGreatPEql
import Derived.Test.YthdagjlgfffpbaaGreatPOrd
import Derived.Test.YthdagjlgfffpbaaGreatGSame
set_option linter.unusedVariables false
namespace Go.Proofs.YthdagjlgfffpbaaGreat
open Go.RowKit

theorem cmpI_eq (a b : Nat) : cmpI (a : Int) (b : Int) = 0 ↔ a = b := by
  unfold cmpI
  constructor
  · intro h
    split at h
    · omega
    · split at h <;> omega
  · rintro rfl
    simp
theorem cmpD_eq : ∀ (l m : List Nat), cmpD l m = 0 ↔ l = m
  | [], [] => by simp [cmpD]
  | [], _ :: _ => by simp [cmpD]
  | _ :: _, [] => by simp [cmpD]
  | a :: x, b :: y => by
    have ih := cmpD_eq x y
    rw [cmpD]
    by_cases h1 : (a : Int) < b
    · rw [if_pos h1]
      constructor
      · intro h; omega
      · intro h; simp only [List.cons.injEq] at h; omega
    · rw [if_neg h1]
      by_cases h2 : (b : Int) < a
      · rw [if_pos h2]
        constructor
        · intro h; omega
        · intro h; simp only [List.cons.injEq] at h; omega
      · rw [if_neg h2, ih, List.cons.injEq]
        constructor
        · intro h; exact ⟨by omega, h⟩
        · intro h; exact h.2
theorem orI_zero : ∀ (l : List Int), orI l = 0 ↔ ∀ x ∈ l, x = 0
  | [] => by simp [orI]
  | a :: l => by
    have ih := orI_zero l
    rw [orI]
    by_cases h : a = 0
    · rw [if_pos h, ih]
      simp [h]
    · rw [if_neg h]
      constructor
      · intro h'; exact absurd h' h
      · intro h'; exact absurd (h' a (List.mem_cons_self ..)) h
theorem cfC_zero (x y : ChanR) : (cfC x y == 0) = decide (x.key = y.key) := by
  rw [Bool.eq_iff_iff, beq_iff_eq, decide_eq_true_eq]
  unfold cfC ChanR.key
  rw [orI_zero]
  simp only [List.mem_cons, List.not_mem_nil, or_false, forall_eq_or_imp, forall_eq, cmpI_eq, cmpD_eq, List.cons.injEq]

set_option maxHeartbeats 1000000 in
theorem schan_ok (x y : ChanC) (w : World) (hA : Cells w x.A (x.r.dests.map U16)) (hB : Cells w y.A (y.r.dests.map U16)) (hl : x.r.dests.length ≤ 1000) (hm : y.r.dests.length ≤ 1000) :
    Calls Tryz.prog 60 #[.agg #[.int .u16 (x.r.id : Int), .int .u16 (x.r.src : Int), .slice x.A x.r.dests.length x.cap], .agg #[.int .u16 (y.r.id : Int), .int .u16 (y.r.src : Int), .slice y.A y.r.dests.length y.cap]] w fun e w' => e = .returned (.bool (decide (x.r.key = y.r.key))) ∧ Gd w w' := by
  have hz := cfC_zero x.r y.r
  have hcon := fun W (hW : Below w.heap.size w W) => ccmp_ok (x.r.id : Int) (y.r.id : Int) (x.r.src : Int) (y.r.src : Int) x.A y.A x.r.dests y.r.dests x.cap y.cap W (hA.below (Nat.le_refl _) hW) (hB.below (Nat.le_refl _) hW) hl hm
  unfold cfC at hz
  generalize orI [cmpI (x.r.id : Int) (y.r.id : Int), cmpI (x.r.src : Int) (y.r.src : Int), cmpD x.r.dests y.r.dests] = r at *
  rw [← hz]
  have hg : ∀ t, Gd w ((w.alloc (.cells #[.int .u16 (x.r.id : Int), .int .u16 (x.r.src : Int), .slice x.A x.r.dests.length x.cap] t)).alloc (.cells #[.int .u16 (y.r.id : Int), .int .u16 (y.r.src : Int), .slice y.A y.r.dests.length y.cap] t)) := fun t => ((Gd.refl w).alloc _).alloc _
  have HC := Lib.hid hcon
  have HG := Lib.hid hg
  clear hcon hA hB hl hm hz hg
  go_enter Tryz.func60, Tryz.ntmps60
  go_wp2_with (go_at_call 52; refine (HC.out _ (HG.out _).1).mono ?_; rintro e w1 ⟨rfl, hg⟩)
  go_ret
  exact ⟨by simp, (HG.out _).trans hg⟩

theorem lists_key {α : Type} {f : α → List Nat} {l m : List α} (hl : l.length = m.length) (h : ∀ i (hi : i < l.length) (hj : i < m.length), f l[i] = f m[i]) : l.map f = m.map f := by
  refine List.ext_getElem (by simpa using hl) fun i h1 h2 => ?_
  simp only [List.getElem_map]
  exact h i (by simpa using h1) (by simpa using h2)

/-- The first k channels have equal keys. -/
def EqTo (l m : List ChanC) (k : Nat) : Prop := ∀ i (hi : i < l.length) (hj : i < m.length), i < k → l[i].r.key = m[i].r.key

set_option maxHeartbeats 4000000 in
theorem eqf_ok (l m : List ChanC) (A B : Option Addr) (ca cb : Nat) (w : World) (hA : Recs w A ca l chanV) (hB : Recs w B cb m chanV)
    (hd : ∀ x ∈ l, Cells w x.A (x.r.dests.map U16) ∧ x.r.dests.length ≤ 1000) (he : ∀ x ∈ m, Cells w x.A (x.r.dests.map U16) ∧ x.r.dests.length ≤ 1000) :
    Calls Tryz.prog 59 #[.slice A l.length ca, .slice B m.length cb, .func (.func 60) #[] #[]] w fun e w' => e = .returned (.bool (decide (l.map (·.r.key) = m.map (·.r.key)))) ∧ Gd w w' := by
  have HNL : Hid (l.length ≠ m.length → decide (l.map (·.r.key) = m.map (·.r.key)) = false) := Lib.hid (fun hne => decide_eq_false fun h => hne (by have := congrArg List.length h; simpa using this))
  have HNE : Hid (∀ k (h1 : k < l.length) (h2 : k < m.length), l[k].r.key ≠ m[k].r.key → decide (l.map (·.r.key) = m.map (·.r.key)) = false) := Lib.hid (fun k h1 h2 hne => decide_eq_false fun h => hne (by
    have : (l.map (·.r.key))[k]? = (m.map (·.r.key))[k]? := by rw [h]
    rw [List.getElem?_map, List.getElem?_map, List.getElem?_eq_getElem h1, List.getElem?_eq_getElem h2] at this
    simpa using this))
  have HALL : Hid (l.length = m.length → (∀ i (hi : i < l.length) (hj : i < m.length), l[i].r.key = m[i].r.key) → decide (l.map (·.r.key) = m.map (·.r.key)) = true) := Lib.hid (fun hl h => decide_eq_true (lists_key hl h))
  have HA := Lib.hid hA
  have HB := Lib.hid hB
  have HD := Lib.hid hd
  have HE := Lib.hid he
  have hml := hA.max
  generalize decide (l.map (·.r.key) = m.map (·.r.key)) = r at *
  clear hA hB hd he
  go_enter Tryz.func59, Tryz.ntmps59
  by_cases hlen : l.length = m.length
  · have hli : (l.length : Int) = (m.length : Int) := by omega
    have HLE := Lib.hid hlen
    clear hlen
    go_wp2_with fail
    clear hli
    go_loopw [17] (fun i wr => ∃ k : Nat, k ≤ l.length ∧ i = .int .i64 (k : Int) ∧ Hid (Gd w wr ∧ EqTo l m k)) (fun i _ => l.length - (intOf i).toNat)
    case atStart => exact ⟨0, by omega, rfl, Lib.hid ⟨Gd.refl _, fun i _ _ h => absurd h (by omega)⟩⟩
    case round =>
      obtain ⟨k, hk, rfl, hq⟩ := hrel
      by_cases hlt : k < l.length
      · have hki : (k : Int) < (l.length : Int) := by omega
        have hlt2 : k < m.length := by have := HLE.out; omega
        have hkj : (k : Int) < (m.length : Int) := by omega
        have hwk : wrap64 ((k : Int) + 1) = (k : Int) + 1 := by unfold wrap64; omega
        obtain ⟨b, o, rfl, -, hc⟩ := (HA.out.below (Nat.le_refl _) hq.out.1.1).at 3 chanV_len (by omega) hlt
        obtain ⟨b2, o2, rfl, -, hd⟩ := (HB.out.below (Nat.le_refl _) hq.out.1.1).at 3 chanV_len (by omega) hlt2
        have x0 : wr.cell? ⟨b, o + k * 3, none⟩ = some (.int .u16 (l[k].r.id : Int)) := hc 0 _ rfl
        have x1 : wr.cell? ⟨b, o + k * 3 + 1, none⟩ = some (.int .u16 (l[k].r.src : Int)) := hc 1 _ rfl
        have x2 : wr.cell? ⟨b, o + k * 3 + 2, none⟩ = some (.slice l[k].A l[k].r.dests.length l[k].cap) := hc 2 _ rfl
        have y0 : wr.cell? ⟨b2, o2 + k * 3, none⟩ = some (.int .u16 (m[k].r.id : Int)) := hd 0 _ rfl
        have y1 : wr.cell? ⟨b2, o2 + k * 3 + 1, none⟩ = some (.int .u16 (m[k].r.src : Int)) := hd 1 _ rfl
        have y2 : wr.cell? ⟨b2, o2 + k * 3 + 2, none⟩ = some (.slice m[k].A m[k].r.dests.length m[k].cap) := hd 2 _ rfl
        have h1 := HD.out l[k] (List.getElem_mem hlt)
        have h2 := HE.out m[k] (List.getElem_mem hlt2)
        have hvb : ∀ j v, (chanV m[k])[j]? = some v → ∀ C, (wr.alloc C).cell? ⟨b2, o2 + k * 3 + j, none⟩ = some v := fun j v hv C => Lib.cell?_alloc_some _ (hd j v hv)
        have z0 : ∀ C, (wr.alloc C).cell? ⟨b2, o2 + k * 3, none⟩ = some (.int .u16 (m[k].r.id : Int)) := fun C => hvb 0 _ rfl C
        have z1 : ∀ C, (wr.alloc C).cell? ⟨b2, o2 + k * 3 + 1, none⟩ = some (.int .u16 (m[k].r.src : Int)) := fun C => hvb 1 _ rfl C
        have z2 : ∀ C, (wr.alloc C).cell? ⟨b2, o2 + k * 3 + 2, none⟩ = some (.slice m[k].A m[k].r.dests.length m[k].cap) := fun C => hvb 2 _ rfl C
        obtain ⟨V, hV⟩ : ∃ V, (wr.alloc (.cells #[.int .u16 (l[k].r.id : Int), .int .u16 (l[k].r.src : Int), .slice l[k].A l[k].r.dests.length l[k].cap] 34)).alloc (.cells #[.int .u16 (m[k].r.id : Int), .int .u16 (m[k].r.src : Int), .slice m[k].A m[k].r.dests.length m[k].cap] 34) = V := ⟨_, rfl⟩
        have HGV : Hid (Gd w V) := Lib.hid (by rw [← hV]; exact (hq.out.1.alloc _).alloc _)
        have HCON := Lib.hid (schan_ok l[k] m[k] V (h1.1.below (Nat.le_refl _) HGV.out.1) (h2.1.below (Nat.le_refl _) HGV.out.1) h1.2 h2.2)
        have HN2 := Lib.hid (HNE.out k hlt hlt2)
        have HY2 : Hid (l[k].r.key = m[k].r.key → EqTo l m (k + 1)) := Lib.hid (fun h i hi hj hik => by
          rcases Nat.lt_or_ge i k with h3 | h3
          · exact hq.out.2 i hi hj h3
          · obtain rfl : i = k := by omega
            exact h)
        obtain ⟨u, hu⟩ : ∃ u, u = decide (l[k].r.key = m[k].r.key) := ⟨_, rfl⟩
        rw [← hu] at HCON
        have HU := Lib.hid hu
        have HV := Lib.hid hV
        clear hc hd h1 h2 hq hu hV hvb
        generalize l[k] = x at *
        generalize m[k] = y at *
        cases u with
        | true =>
          have HK := Lib.hid (HY2.out (of_decide_eq_true HU.out.symm))
          clear HY2 HN2 HU
          go_wp2_with fail
          rw [HV.out]
          refine HCON.out.mono ?_
          rintro e w1 ⟨rfl, hg⟩
          have HG := Lib.hid (HGV.out.trans hg)
          clear hg HCON
          go_wp2_with fail
          go_roundw
          case rel => exact ⟨k + 1, by omega, by go_num, Lib.hid ⟨HG.out, HK.out⟩⟩
          case measure => simp [intOf]; omega
        | false =>
          have HK := Lib.hid (HN2.out (of_decide_eq_false HU.out.symm))
          clear HY2 HN2 HU
          go_wp2_with fail
          rw [HV.out]
          refine HCON.out.mono ?_
          rintro e w1 ⟨rfl, hg⟩
          have HG := Lib.hid (HGV.out.trans hg)
          clear hg HCON
          go_wp2_with fail
          go_ret
          exact ⟨by rw [HK.out]; simp, HG.out⟩
      · have hki : ¬ (k : Int) < (m.length : Int) := by have := HLE.out; omega
        have HK := Lib.hid (HALL.out HLE.out (fun i hi hj => hq.out.2 i hi hj (by omega)))
        have HG := Lib.hid hq.out.1
        clear hq hlt hml hk HNL HNE HALL HA HB HD HE HLE
        go_wp2_with fail
        go_ret
        exact ⟨by rw [HK.out]; simp, HG.out⟩
  · have hli : ¬ (l.length : Int) = (m.length : Int) := by omega
    have HK := Lib.hid (HNL.out hlen)
    clear hlen
    go_wp2_with fail
    go_ret
    exact ⟨by rw [HK.out]; simp, Gd.refl _⟩

end Go.Proofs.YthdagjlgfffpbaaGreat
