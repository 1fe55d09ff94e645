/-
  Layer 3 (buf): the example of the chapter holds. By the verifier.
-/
import Derived.Test.YtajkneekehkhbaaBMeth
set_option linter.unusedVariables false
namespace Go.Proofs.Ytajkneekehkhbaa
open Go.RowKit

set_option maxHeartbeats 1000000 in
theorem alive_ok (w : World) :
    Calls Try.prog 8 #[] w fun e w' => e = .returned (.bool true) ∧ Below w.heap.size w w' := by
  have hb9 : Bs [9, 2, 1] := by intro x hx; simp at hx; omega
  have H9 := Lib.hid hb9
  have HN : Hid (Calls Try.prog 20 #[.slice (some ⟨w.heap.size, 0, none⟩) 1 1] (w.alloc (.cells #[.int .u8 9] 5)) fun e w' => ∃ B g, e = .returned (.pointer (some ⟨B, 0, none⟩)) ∧ Bld w' B g [9] ∧ Below w.heap.size w w' ∧ w.heap.size ≤ B ∧ ∀ k, g = some k → w.heap.size ≤ k) := by
    have h0 : Below w.heap.size w (w.alloc (.cells #[.int .u8 9] 5)) := (Below.refl _ _).alloc (Nat.le_refl _) _
    have hy : Bys (w.alloc (.cells #[.int .u8 9] 5)) (some ⟨w.heap.size, 0, none⟩) [9] := bys_lit w _ _ _ rfl (by intro x hx; simp at hx; omega) (by unfold maxLen; simp)
    refine Lib.hid ((new_ok (some ⟨w.heap.size, 0, none⟩) [9] 1 _ hy (by simp)).mono ?_)
    rintro e w' ⟨B, g, he, hb, hw, hB, hg⟩
    have hs := h0.size
    exact ⟨B, g, he, hb, h0.trans (hw.mono hs), Nat.le_trans hs hB, fun k hk => Nat.le_trans hs (hg k hk)⟩
  have HL : Hid ([9] ++ leB 2 258 = [9, 2, 1]) := Lib.hid (by decide)
  have HV : Hid (∀ (A : Option Addr) (c : Nat) (W : World), Bys W A [9, 2, 1] → 3 ≤ c → Calls Try.prog 10 #[.slice A 3 c, .int .i64 1] W fun e w' => e = .returned (.tuple #[.int .u16 258, .bool true]) ∧ W = w') := by
    refine Lib.hid fun A c W hl hc => ?_
    have h1 := view16_ok A [9, 2, 1] c 1 W hl hc (by unfold I64; omega)
    have e1 : numV [9, 2, 1] 1 2 = 258 := by decide
    have e2 : exB [9, 2, 1] 1 2 = true := by decide
    rw [e1, e2] at h1
    exact h1
  have HE : Hid (∀ (A : Option Addr) (c : Nat) (W W' : World), Bys W A [9, 2, 1] → W.alloc (.cells #[.int .u8 9, .int .u8 2, .int .u8 1] 5) = W' → Calls Try.prog 18 #[.slice A 3 c, .slice (some ⟨W.heap.size, 0, none⟩) 3 3] W' fun e w' => e = .returned (.bool true) ∧ Below W'.heap.size W' w') := by
    refine Lib.hid fun A c W W' hl hW => ?_
    subst hW
    have h0 : Below W.heap.size W (W.alloc (.cells #[.int .u8 9, .int .u8 2, .int .u8 1] 5)) := (Below.refl _ _).alloc (Nat.le_refl _) _
    have := equal_ok A (some ⟨W.heap.size, 0, none⟩) [9, 2, 1] [9, 2, 1] c 3 _ (hl.below (Nat.le_refl _) h0) (bys_lit W _ _ _ rfl hb9 (by unfold maxLen; simp))
    rwa [decide_eq_true rfl] at this
  clear hb9
  go_enter Try.func8, Try.ntmps8
  go_wp2_with fail
  refine HN.out.mono ?_
  rintro e w1 ⟨B, g, rfl, hb1, hB1, hB, hg⟩
  have HB := Lib.hid (And.intro hB hg)
  have H1 := Lib.hid hb1
  clear hb1 hB hg HN
  go_wp2_with fail
  refine (u16_ok B g [9] 258 (by omega) _ H1.out (by simp)).mono ?_
  rintro e w2 ⟨rfl, g2, hm⟩
  rw [HL.out] at hm
  have HM := Lib.hid hm.bld
  have hB2 : Below w.heap.size w w2 := hB1.trans (hm.below hB1.size HB.out.1 HB.out.2)
  clear hm hB1 H1
  go_wp2_with fail
  refine (bytes_ok B g2 [9, 2, 1] _ HM.out (by simp)).mono ?_
  rintro e w3 ⟨v3, rfl, ho3, hb3⟩
  obtain ⟨A3, c3, rfl, hy3, hc3, -⟩ := ho3.slice H9.out (by unfold maxLen; simp)
  have HM3 := Lib.hid (HM.out.below hb3)
  have hB3 := hB2.trans (hb3.mono hB2.size)
  have HY3 := Lib.hid hy3
  have HC3 := Lib.hid hc3
  clear ho3 hb3 hy3 hc3 hB2 HM
  simp only [List.length_cons, List.length_nil, Nat.zero_add, Nat.reduceAdd] at *
  go_wp2_with fail
  refine (HV.out A3 c3 w3 HY3.out HC3.out).mono ?_
  rintro e w' ⟨rfl, rfl⟩
  go_wp2_with fail
  refine (bytes_ok B g2 [9, 2, 1] _ HM3.out (by simp)).mono ?_
  rintro e w4 ⟨v4, rfl, ho4, hb4⟩
  obtain ⟨A4, c4, rfl, hy4, hc4, -⟩ := ho4.slice H9.out (by unfold maxLen; simp)
  have HM4 := Lib.hid (HM3.out.below hb4)
  have hB4 := hB3.trans (hb4.mono hB3.size)
  have HY4 := Lib.hid hy4
  clear ho4 hb4 hy4 hc4 hB3 HM3 HY3 HC3
  simp only [List.length_cons, List.length_nil, Nat.zero_add, Nat.reduceAdd] at *
  go_wp2_with fail
  refine (HE.out A4 c4 w4 _ HY4.out rfl).mono ?_
  rintro e w5 ⟨rfl, hb5⟩
  have h0 : Below w4.heap.size w4 (w4.alloc (.cells #[.int .u8 9, .int .u8 2, .int .u8 1] 5)) := (Below.refl _ _).alloc (Nat.le_refl _) _
  have hb45 := h0.trans (hb5.mono h0.size)
  have HM5 := Lib.hid (HM4.out.below hb45)
  have hB5 := hB4.trans (hb45.mono hB4.size)
  clear hb5 h0 hb45 hB4 HM4 HY4
  go_wp2_with fail
  refine (len_ok B g2 [9, 2, 1] _ HM5.out (by simp)).mono ?_
  rintro e w' ⟨rfl, rfl⟩
  go_wp2_with fail
  go_ret
  exact ⟨rfl, hB5⟩

end Go.Proofs.Ytajkneekehkhbaa
