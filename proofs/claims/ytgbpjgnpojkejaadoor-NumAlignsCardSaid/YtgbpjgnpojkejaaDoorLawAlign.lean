/-
  NumAligns: for all numbers, Align returns the number of the reference, or false: a multiple that is not less than the number, by less than the divisor. No condition.
-/
import Derived.Test.YtgbpjgnpojkejaaDoorAlive
import Derived.Test.YtgbpjgnpojkejaaDoorLaid
import Derived.Test.YtgbpjgnpojkejaaDoorLaw
import Derived.Test.YtgbpjgnpojkejaaDoorCards
import Derived.Test.YtgbpjgnpojkejaaDoorTie
import Derived.SevenTiedAt
set_option linter.unusedVariables false
namespace Go.Proofs.YtgbpjgnpojkejaaDoor.LawAlign
open Go.RowKit Go.ChangeShapes Go.WideShapes Go.ChangeAt

theorem align_same (x b : Int) (hx : U x) (hb : U b) : ralignO x b = alignO x b := by
  have x0 := hx.lo; have b0 := hb.lo; have x1 := hx.hi
  unfold ralignO alignO
  by_cases h : b = 0
  · rw [if_pos h, if_pos h]
  · rw [if_neg h, if_neg h]
    have hd := Int.emod_add_mul_ediv x b
    have m0 : 0 ≤ x % b := Int.emod_nonneg _ h
    have m1 : x % b < b := Int.emod_lt_of_pos _ (by omega)
    have q0 : 0 ≤ x / b := Int.ediv_nonneg x0 b0
    have q1 : x / b ≤ x := Int.ediv_le_self _ x0
    rw [Int.mul_comm] at hd
    by_cases hm : x % b = 0
    · rw [if_pos hm]
      have hp : parts x b = x / b := if_neg (by omega)
      have e : x / b * b = x := by omega
      rw [hp, mulO_pair _ _ ⟨q0, by omega⟩ hb]
      unfold timesO
      rw [e, if_pos x1]
    · rw [if_neg hm]
      have hp : parts x b = x / b + 1 := if_pos (by omega)
      have hb2 : 2 ≤ b := by
        have : b ≠ 1 := by rintro rfl; rw [Int.emod_one] at hm; exact hm rfl
        omega
      have hq := quo_le x b hx hb2
      have e : (x / b + 1) * b = x + (b - x % b) := by rw [Int.add_mul, Int.one_mul]; omega
      rw [hp, mulO_pair _ _ ⟨by omega, by omega⟩ hb]
      unfold timesO plusO
      rw [e]

theorem align_facts (x b n : Int) (hx : U x) (hb : U b) (h : alignO x b = some n) : U n ∧ dividesB b n = true ∧ x ≤ n ∧ n - x < b := by
  have x0 := hx.lo; have b0 := hb.lo; have x1 := hx.hi
  unfold alignO at h
  split at h
  · cases h
  · rename_i h0
    have hd := Int.emod_add_mul_ediv x b
    have m0 : 0 ≤ x % b := Int.emod_nonneg _ h0
    have m1 : x % b < b := Int.emod_lt_of_pos _ (by omega)
    split at h
    · rename_i hm
      injection h with h
      subst h
      exact ⟨hx, by unfold dividesB; rw [hm]; simp; omega, by omega, by omega⟩
    · unfold plusO at h
      split at h
      · rename_i ho
        injection h with h
        subst h
        have e : x + (b - x % b) = b * (x / b + 1) := by rw [Int.mul_add, Int.mul_one]; omega
        refine ⟨⟨by omega, ho⟩, ?_, by omega, by omega⟩
        unfold dividesB
        rw [e, Int.mul_emod_right]
        simp
        omega
      · cases h

theorem walk (x b : Int) (hx : U x) (hb : U b) (w : World) (he : Env w) :
    Calls Tryd.prog 7 #[.int .u64 x, .int .u64 b] w fun e w' => e = .returned (.bool true) ∧ Below w.heap.size w w' := by
  have x0 := hx.lo; have b0 := hb.lo
  have HE := Lib.hid he
  have hs := align_same x b hx hb
  have HA : Hid (∀ W, Calls Tryd.prog 18 #[.int .u64 x, .int .u64 b] W fun e w' => FoldRes (alignO x b) e ∧ Below W.heap.size W w') := Lib.hid fun W => align_ok x b W hx hb
  have HR : Hid (∀ W, Calls Tryd.prog 19 #[.int .u64 x, .int .u64 b] W fun e w' => FoldRes (alignO x b) e ∧ Below W.heap.size W w') := Lib.hid fun W => by rw [← hs]; exact ralign_ok x b W hx hb
  have hf := fun n => align_facts x b n hx hb
  generalize alignO x b = r at *
  clear he hs
  rcases r with _ | n
  · clear hf
    go_enter Tryd.func7, Tryd.ntmps7
    go_wp2_with fail
    refine (HA.out _).mono ?_
    rintro e w1 ⟨rfl, hb1⟩
    unfold opt
    go_wp2_with fail
    refine (HR.out _).mono ?_
    rintro e w2 ⟨rfl, hb2⟩
    unfold opt
    have hB := hb1.trans (hb2.mono hb1.size)
    clear hb1 hb2
    go_wp2_with fail
    refine (alive_ok w2 (HE.out.below hB)).mono ?_
    rintro e w3 ⟨rfl, hb3⟩
    have hB3 := hB.trans (hb3.mono hB.size)
    clear hb3 hB
    go_wp2_with fail
    go_ret
    exact ⟨rfl, hB3⟩
  · obtain ⟨hn, hd, h1, h2⟩ := hf n rfl
    have n0 := hn.lo; have n1 := hn.hi
    have HD : Hid (∀ W, Calls Tryd.prog 16 #[.int .u64 b, .int .u64 n] W fun e w' => e = .returned (.bool true) ∧ W = w') := Lib.hid fun W => by rw [← hd]; exact divides_ok b n W hb hn
    clear hf hd
    go_enter Tryd.func7, Tryd.ntmps7
    go_wp2_with fail
    refine (HA.out _).mono ?_
    rintro e w1 ⟨rfl, hb1⟩
    unfold opt
    go_wp2_with fail
    refine (HR.out _).mono ?_
    rintro e w2 ⟨rfl, hb2⟩
    unfold opt
    have hB := hb1.trans (hb2.mono hb1.size)
    clear hb1 hb2
    go_wp2_with fail
    refine (alive_ok w2 (HE.out.below hB)).mono ?_
    rintro e w3 ⟨rfl, hb3⟩
    have hB3 := hB.trans (hb3.mono hB.size)
    clear hb3 hB
    go_wp2_with fail
    refine (HD.out _).mono ?_
    rintro e w4 ⟨rfl, rfl⟩
    go_wp2_with fail
    go_ret
    exact ⟨rfl, hB3⟩

set_option maxRecDepth 100000 in
theorem lifted (os : Os) (started : os.Started) (H : Type) (enc : TypeId × Value → H) :
    ReturnsInHanded {} Tryd.checked os 7 .any (fun w args => (Rows.numAlignsSpec.pre enc Tryd.prog Tryd.f7 [] false w args ∧ laidMetH Tryd.prog laid1 w) ∧ sizedMet enc Tryd.prog Tryd.f7 (OpenSpec.ofChange Rows.numAlignsSpec) false w args)
      (Rows.numAlignsSpec.post enc Tryd.prog Tryd.f7 false true false false) := by
  refine returnsInHanded_of_change_and (C := Tryd.checked) (X := fun w _ => laidMetH Tryd.prog laid1 w) (fun _ _ _ hh h => h.of_heap hh) own started (by kernel_rfl) Tryd.func7
    (ChangeSpec.witness_shaped (enc := enc) (C := Tryd.checked) (os := os) (X := fun w _ => laidMetH Tryd.prog laid1 w) false (World.doorLaid Tryd.prog 62 os) #[.int .u64 0, .int .u64 0] 8 rfl (World.shaped_of_RefB (by kernel_rfl) (by kernel_rfl)) (by kernel_rfl) (by kernel_rfl) (by kernel_rfl) (door_met os _)) ?_
  intro W base args ds gs before hval0 hW _ _ hL _
  have hval : ∀ (j : Nat) t v, Tryd.f7.params[j]? = some t → args[j]? = some v → Value.okWide Tryd.prog W .any base t v := hval0
  have hW' := hW
  obtain ⟨p, q, hA0, hV, rfl, hfz, hnd⟩ := hW
  have hA : DataW.TrodAll enc Tryd.prog W 0 (fun _ => true) true Tryd.f7.params.toList args.toList ds p := hA0
  rw [Tryd.params7] at hA hval
  obtain ⟨v0, vs0, d0, ds0, p0, q0, hargs, rfl, rfl, h0, r0⟩ := trodAll_cons hA
  obtain ⟨v1, vs1, d1, ds1, p1, q1, rfl, rfl, rfl, h1, r1⟩ := trodAll_cons r0
  obtain ⟨rfl, rfl, rfl⟩ := trodAll_nil r1
  obtain rfl : args = #[v0, v1] := by cases args; simp_all
  obtain ⟨rfl, rfl⟩ := trodVars_none hV
  obtain ⟨a0, rfl, rfl, rfl, w0⟩ := open_int Tryd.underlying24 (hval 0 24 v0 rfl rfl) h0
  obtain ⟨a1, rfl, rfl, rfl, w1⟩ := open_int Tryd.underlying24 (hval 1 24 v1 rfl rfl) h1
  clear hA0 hval0
  simp only [List.append_nil] at hW'
  refine (walk a0 a1 (u_of_wf w0) (u_of_wf w1) W (env_of_laid hL)).mono fun e W' ⟨he, hg⟩ => ?_
  subst he
  exact law_post (by kernel_rfl) rfl rfl (by kernel_rfl) (by kernel_rfl) Tryd.underlying4 hW' hg

theorem over : Rows.NumAlignsSaid :=
  OpenClaim.holds_of_wide 7 Tryd.f7 rfl rfl rfl rfl rfl rfl rfl ⟨rfl, rfl, rfl, rfl, rfl⟩ rfl rfl rfl rfl rfl (by kernel_rfl) Tryd.func7 (by kernel_rfl)
    (of_decide_eq_true (by kernel_rfl)) (by unfold Func.isWrapper; first | (rw [if_pos (by decide +kernel)]; kernel_rfl) | (rw [if_neg (by decide +kernel)]; exact ⟨rfl, rfl⟩))
    (fun os started H enc _ => lifted os started H enc)

theorem proved : Rows.NumAlignsCardSaid :=
  Claim7.holds_tied_plain_at .later [] Rows.numAlignsCard.laidKinds true Rows.numAlignsCard.stood.harness Rows.numAlignsCard.stood.looks
    over (fun _ h => by cases h) (by kernel_rfl) (fun _ h => by cases h) numAligns_row_tie rfl ⟨rfl, rfl⟩ (by kernel_rfl) rfl
    (fun f fn hf hfn => by
      obtain rfl : f = 7 := Option.some.inj ((show Tryd.prog.funcNamed "fenestra/fenestralaw01.NumAligns" = some 7 by kernel_rfl).symm.trans hf) |>.symm
      obtain rfl : fn = Tryd.f7 := (Option.some.inj (Tryd.func7.symm.trans hfn)).symm
      exact ⟨by kernel_rfl, fun j t ht => by
        rw [Tryd.params7] at ht
        have hm : t ∈ [24, 24] := by simpa using Array.mem_of_getElem? ht
        have hall : ([24, 24].all fun u => !Tryd.prog.wantsStandIn u) = true := by kernel_rfl
        exact (show Tryd.prog.wantsStandIn t = false by simpa using List.all_eq_true.1 hall t hm)⟩)
    (by kernel_rfl)

end Go.Proofs.YtgbpjgnpojkejaaDoor.LawAlign
