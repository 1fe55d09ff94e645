/-
  NumDivides: for all numbers, Divides returns the result of the reference, and each number that is greater than 0 divides its products. No condition.
-/
import Derived.Test.YtgbpjgnpojkejaaDoorAlive
import Derived.Test.YtgbpjgnpojkejaaDoorLaid
import Derived.Test.YtgbpjgnpojkejaaDoorLaw
import Derived.Test.YtgbpjgnpojkejaaDoorCards
import Derived.Test.YtgbpjgnpojkejaaDoorTie
import Derived.SevenTiedAt
set_option linter.unusedVariables false
namespace Go.Proofs.YtgbpjgnpojkejaaDoor.LawDiv
open Go.RowKit Go.ChangeShapes Go.WideShapes Go.ChangeAt

theorem divides_prod (a b : Int) (h : 0 < a) : dividesB a (a * b) = true := by
  unfold dividesB
  rw [Int.mul_emod_right]
  simp [h]

theorem walk (a b : Int) (ha : U a) (hb : U b) (w : World) (he : Env w) :
    Calls Tryd.prog 6 #[.int .u64 a, .int .u64 b] w fun e w' => e = .returned (.bool true) ∧ Below w.heap.size w w' := by
  have a0 := ha.lo; have b0 := hb.lo
  have hm := mulO_pair a b ha hb
  have HM : Hid (∀ (W : World) A, Nums W A [a, b] → Calls Tryd.prog 12 #[.slice A 2 2] W fun e w' => FoldRes (timesO a b) e ∧ Below W.heap.size W w') :=
    Lib.hid fun W A hn => by rw [← hm]; exact mul2_ok A a b W hn
  have HE := Lib.hid he
  have HD : Hid (∀ W, Calls Tryd.prog 16 #[.int .u64 a, .int .u64 b] W fun e w' => e = .returned (.bool (dividesB a b)) ∧ W = w') := Lib.hid fun W => divides_ok a b W ha hb
  have HR : Hid (∀ W, Calls Tryd.prog 17 #[.int .u64 a, .int .u64 b] W fun e w' => e = .returned (.bool (dividesB a b)) ∧ W = w') := Lib.hid fun W => rdivides_ok a b W ha hb
  have HZ : Hid (∀ W, Calls Tryd.prog 16 #[.int .u64 0, .int .u64 b] W fun e w' => e = .returned (.bool false) ∧ W = w') := Lib.hid fun W => divides_ok 0 b W ⟨by omega, by omega⟩ hb
  generalize dividesB a b = d at *
  clear he hm
  by_cases ho : a * b < 18446744073709551616
  · have ht : timesO a b = some (a * b) := if_pos ho
    rw [ht] at HM
    have hp0 := Int.mul_nonneg a0 b0
    by_cases hz : a = 0
    · have hzb : (a == 0) = true := by rw [beq_iff_eq]; exact hz
      clear hz ht ho
      go_enter Tryd.func6, Tryd.ntmps6
      go_wp2_with fail
      refine (HM.out _ _ (by exact nums_two _ _ _ _ ha hb)).mono ?_
      rintro e w1 ⟨rfl, hb1⟩
      have hB := ((Below.refl w.heap.size w).alloc (Nat.le_refl _) _).trans (hb1.mono (by simp))
      clear hb1
      unfold opt
      go_wp2_with fail
      refine (alive_ok w1 (HE.out.below hB)).mono ?_
      rintro e w2 ⟨rfl, hb2⟩
      have hB2 := hB.trans (hb2.mono hB.size)
      clear hb2 hB
      go_wp2_with fail
      refine (HD.out _).mono ?_
      rintro e w3 ⟨rfl, rfl⟩
      go_wp2_with fail
      refine (HR.out _).mono ?_
      rintro e w3 ⟨rfl, rfl⟩
      go_wp2_with fail
      refine (HZ.out _).mono ?_
      rintro e w3 ⟨rfl, rfl⟩
      go_wp2_with fail
      go_ret
      exact ⟨rfl, hB2⟩
    · have hzb : (a == 0) = false := by rw [beq_eq_false_iff_ne]; exact hz
      have HP : Hid (∀ W, Calls Tryd.prog 16 #[.int .u64 a, .int .u64 (a * b)] W fun e w' => e = .returned (.bool true) ∧ W = w') :=
        Lib.hid fun W => by
          have := divides_ok a (a * b) W ha ⟨hp0, ho⟩
          rw [divides_prod a b (by omega)] at this
          exact this
      clear hz ht ho
      go_enter Tryd.func6, Tryd.ntmps6
      go_wp2_with fail
      refine (HM.out _ _ (by exact nums_two _ _ _ _ ha hb)).mono ?_
      rintro e w1 ⟨rfl, hb1⟩
      have hB := ((Below.refl w.heap.size w).alloc (Nat.le_refl _) _).trans (hb1.mono (by simp))
      clear hb1
      unfold opt
      go_wp2_with fail
      refine (alive_ok w1 (HE.out.below hB)).mono ?_
      rintro e w2 ⟨rfl, hb2⟩
      have hB2 := hB.trans (hb2.mono hB.size)
      clear hb2 hB
      go_wp2_with fail
      refine (HD.out _).mono ?_
      rintro e w3 ⟨rfl, rfl⟩
      go_wp2_with fail
      refine (HR.out _).mono ?_
      rintro e w3 ⟨rfl, rfl⟩
      go_wp2_with fail
      refine (HP.out _).mono ?_
      rintro e w3 ⟨rfl, rfl⟩
      go_wp2_with fail
      refine (HZ.out _).mono ?_
      rintro e w3 ⟨rfl, rfl⟩
      go_wp2_with fail
      go_ret
      exact ⟨rfl, hB2⟩
  · have ht : timesO a b = none := if_neg ho
    rw [ht] at HM
    clear ht ho
    go_enter Tryd.func6, Tryd.ntmps6
    go_wp2_with fail
    refine (HM.out _ _ (by exact nums_two _ _ _ _ ha hb)).mono ?_
    rintro e w1 ⟨rfl, hb1⟩
    have hB := ((Below.refl w.heap.size w).alloc (Nat.le_refl _) _).trans (hb1.mono (by simp))
    clear hb1
    unfold opt
    go_wp2_with fail
    refine (alive_ok w1 (HE.out.below hB)).mono ?_
    rintro e w2 ⟨rfl, hb2⟩
    have hB2 := hB.trans (hb2.mono hB.size)
    clear hb2 hB
    go_wp2_with fail
    refine (HD.out _).mono ?_
    rintro e w3 ⟨rfl, rfl⟩
    go_wp2_with fail
    refine (HR.out _).mono ?_
    rintro e w3 ⟨rfl, rfl⟩
    go_wp2_with fail
    refine (HZ.out _).mono ?_
    rintro e w3 ⟨rfl, rfl⟩
    go_wp2_with fail
    go_ret
    exact ⟨rfl, hB2⟩

set_option maxRecDepth 100000 in
theorem lifted (os : Os) (started : os.Started) (H : Type) (enc : TypeId × Value → H) :
    ReturnsInHanded {} Tryd.checked os 6 .any (fun w args => (Rows.numDividesSpec.pre enc Tryd.prog Tryd.f6 [] false w args ∧ laidMetH Tryd.prog laid1 w) ∧ sizedMet enc Tryd.prog Tryd.f6 (OpenSpec.ofChange Rows.numDividesSpec) false w args)
      (Rows.numDividesSpec.post enc Tryd.prog Tryd.f6 false true false false) := by
  refine returnsInHanded_of_change_and (C := Tryd.checked) (X := fun w _ => laidMetH Tryd.prog laid1 w) (fun _ _ _ hh h => h.of_heap hh) own started (by kernel_rfl) Tryd.func6
    (ChangeSpec.witness_shaped (enc := enc) (C := Tryd.checked) (os := os) (X := fun w _ => laidMetH Tryd.prog laid1 w) false (World.doorLaid Tryd.prog 62 os) #[.int .u64 0, .int .u64 0] 8 rfl (World.shaped_of_RefB (by kernel_rfl) (by kernel_rfl)) (by kernel_rfl) (by kernel_rfl) (by kernel_rfl) (door_met os _)) ?_
  intro W base args ds gs before hval0 hW _ _ hL _
  have hval : ∀ (j : Nat) t v, Tryd.f6.params[j]? = some t → args[j]? = some v → Value.okWide Tryd.prog W .any base t v := hval0
  have hW' := hW
  obtain ⟨p, q, hA0, hV, rfl, hfz, hnd⟩ := hW
  have hA : DataW.TrodAll enc Tryd.prog W 0 (fun _ => true) true Tryd.f6.params.toList args.toList ds p := hA0
  rw [Tryd.params6] at hA hval
  obtain ⟨v0, vs0, d0, ds0, p0, q0, hargs, rfl, rfl, h0, r0⟩ := trodAll_cons hA
  obtain ⟨v1, vs1, d1, ds1, p1, q1, rfl, rfl, rfl, h1, r1⟩ := trodAll_cons r0
  obtain ⟨rfl, rfl, rfl⟩ := trodAll_nil r1
  obtain rfl : args = #[v0, v1] := by cases args; simp_all
  obtain ⟨rfl, rfl⟩ := trodVars_none hV
  obtain ⟨a0, rfl, rfl, rfl, w0⟩ := open_int Tryd.underlying24 (hval 0 24 v0 rfl rfl) h0
  obtain ⟨a1, rfl, rfl, rfl, w1⟩ := open_int Tryd.underlying24 (hval 1 24 v1 rfl rfl) h1
  clear hA0 hval0
  simp only [List.append_nil] at hW'
  refine (walk a0 a1 (u_of_wf w0) (u_of_wf w1) W (env_of_laid hL)).mono fun e W' ⟨he, hg⟩ => ?_
  subst he
  exact law_post (by kernel_rfl) rfl rfl (by kernel_rfl) (by kernel_rfl) Tryd.underlying4 hW' hg

theorem over : Rows.NumDividesSaid :=
  OpenClaim.holds_of_wide 6 Tryd.f6 rfl rfl rfl rfl rfl rfl rfl ⟨rfl, rfl, rfl, rfl, rfl⟩ rfl rfl rfl rfl rfl (by kernel_rfl) Tryd.func6 (by kernel_rfl)
    (of_decide_eq_true (by kernel_rfl)) (by unfold Func.isWrapper; first | (rw [if_pos (by decide +kernel)]; kernel_rfl) | (rw [if_neg (by decide +kernel)]; exact ⟨rfl, rfl⟩))
    (fun os started H enc _ => lifted os started H enc)

theorem proved : Rows.NumDividesCardSaid :=
  Claim7.holds_tied_plain_at .later [] Rows.numDividesCard.laidKinds true Rows.numDividesCard.stood.harness Rows.numDividesCard.stood.looks
    over (fun _ h => by cases h) (by kernel_rfl) (fun _ h => by cases h) numDivides_row_tie rfl ⟨rfl, rfl⟩ (by kernel_rfl) rfl
    (fun f fn hf hfn => by
      obtain rfl : f = 6 := Option.some.inj ((show Tryd.prog.funcNamed "fenestra/fenestralaw01.NumDivides" = some 6 by kernel_rfl).symm.trans hf) |>.symm
      obtain rfl : fn = Tryd.f6 := (Option.some.inj (Tryd.func6.symm.trans hfn)).symm
      exact ⟨by kernel_rfl, fun j t ht => by
        rw [Tryd.params6] at ht
        have hm : t ∈ [24, 24] := by simpa using Array.mem_of_getElem? ht
        have hall : ([24, 24].all fun u => !Tryd.prog.wantsStandIn u) = true := by kernel_rfl
        exact (show Tryd.prog.wantsStandIn t = false by simpa using List.all_eq_true.1 hall t hm)⟩)
    (by kernel_rfl)

end Go.Proofs.YtgbpjgnpojkejaaDoor.LawDiv
