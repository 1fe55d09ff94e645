/-
  NumForms: for all numbers, both forms are those of the reference, and Parse inverts them; for every string, Parse returns the number of the reference. No condition.
-/
import Derived.Test.YtgbpjgnpojkejaaDoorAlive
import Derived.Test.YtgbpjgnpojkejaaDoorLaid
import Derived.Test.YtgbpjgnpojkejaaDoorLaw
import Derived.Test.YtgbpjgnpojkejaaDoorCards
import Derived.Test.YtgbpjgnpojkejaaDoorTie
import Derived.SevenTiedAt
import Derived.Test.YtgbpjgnpojkejaaDoorFormLaws
import Derived.ChangeMaps5
set_option linter.unusedVariables false
namespace Go.Proofs.YtgbpjgnpojkejaaDoor.LawForms
open Go.RowKit Go.ChangeShapes Go.WideShapes Go.ChangeAt

set_option maxHeartbeats 1600000 in
theorem walk (n : Nat) (hn : n < 18446744073709551616) (s : List UInt8) (hs : s.length ≤ 9223372036854775807) (w : World) (he : Env w) :
    Calls Tryd.prog 8 #[.int .u64 n, .string ⟨s.toArray⟩] w fun e w' => e = .returned (.bool true) ∧ Below w.heap.size w w' := by
  have HE := Lib.hid he
  by_cases h300 : 300 < s.length
  · clear he
    go_enter Tryd.func8, Tryd.ntmps8
    go_wp2_with fail
    refine (alive_ok w HE.out).mono ?_
    rintro e w1 ⟨rfl, hb1⟩
    go_wp2_with fail
    go_ret
    exact ⟨rfl, hb1⟩
  · have hU : U (n : Int) := ⟨by omega, by omega⟩
    have HD : Hid (∀ W, Env W → Calls Tryd.prog 20 #[.int .u64 n] W fun e w' => e = .returned (.string ⟨(form10 n).toArray⟩) ∧ Below W.heap.size W w') := Lib.hid fun W h => decimal_ok n hn W h
    have HH : Hid (∀ W, Env W → Calls Tryd.prog 21 #[.int .u64 n] W fun e w' => e = .returned (.string ⟨(form16 n).toArray⟩) ∧ Below W.heap.size W w') := Lib.hid fun W h => hex_ok n hn W h
    have l10 : (form10 n).length ≤ 20 := digs_len (by omega) 19 n (by omega)
    have l16 : (form16 n).length ≤ 18 := by have : (digs 16 n).length ≤ 16 := digs_len (by omega) 15 n (by omega)
                                            unfold form16; simp; omega
    have HPD : Hid (∀ W, Env W → Calls Tryd.prog 22 #[.string ⟨(form10 n).toArray⟩] W fun e w' => e = .returned (.tuple #[.int .u64 n, .bool true]) ∧ Below W.heap.size W w') :=
      Lib.hid fun W h => by have := parse_ok (form10 n) (by omega) W h; rwa [parse_form10 n hn] at this
    have HPH : Hid (∀ W, Env W → Calls Tryd.prog 22 #[.string ⟨(form16 n).toArray⟩] W fun e w' => e = .returned (.tuple #[.int .u64 n, .bool true]) ∧ Below W.heap.size W w') :=
      Lib.hid fun W h => by have := parse_ok (form16 n) (by omega) W h; rwa [parse_form16 n hn] at this
    have HPS : Hid (∀ W, Env W → Calls Tryd.prog 22 #[.string ⟨s.toArray⟩] W fun e w' => FoldRes (parseO s) e ∧ Below W.heap.size W w') := Lib.hid fun W h => parse_ok s (by omega) W h
    have HRS : Hid (∀ W, Calls Tryd.prog 23 #[.string ⟨s.toArray⟩] W fun e w' => FoldRes (parseO s) e ∧ Below W.heap.size W w') := Lib.hid fun W => by rw [← parse_same]; exact rparse_ok s (by omega) W
    have HRD : Hid (∀ W, Calls Tryd.prog 24 #[.int .u64 n] W fun e w' => e = .returned (.string ⟨(form10 n).toArray⟩) ∧ Below W.heap.size W w') := Lib.hid fun W => rdecimal_ok n hU W
    have HRH : Hid (∀ W, Calls Tryd.prog 25 #[.int .u64 n] W fun e w' => e = .returned (.string ⟨(form16 n).toArray⟩) ∧ Below W.heap.size W w') := Lib.hid fun W => rhex_ok n hU W
    generalize parseO s = r at *
    generalize form10 n = d at *
    generalize form16 n = h at *
    clear he hU l10 l16
    rcases r with _ | r
    · go_enter Tryd.func8, Tryd.ntmps8
      go_wp2_with fail
      refine (HD.out _ HE.out).mono ?_
      rintro e w1 ⟨rfl, hb1⟩
      go_wp2_with fail
      refine (HH.out _ (HE.out.below hb1)).mono ?_
      rintro e w2 ⟨rfl, hb2⟩
      have hB2 := hb1.trans (hb2.mono hb1.size)
      clear hb1 hb2
      go_wp2_with fail
      refine (HPD.out _ (HE.out.below hB2)).mono ?_
      rintro e w3 ⟨rfl, hb3⟩
      have hB3 := hB2.trans (hb3.mono hB2.size)
      clear hB2 hb3
      go_wp2_with fail
      refine (HPH.out _ (HE.out.below hB3)).mono ?_
      rintro e w4 ⟨rfl, hb4⟩
      have hB4 := hB3.trans (hb4.mono hB3.size)
      clear hB3 hb4
      go_wp2_with fail
      refine (HPS.out _ (HE.out.below hB4)).mono ?_
      rintro e w5 ⟨rfl, hb5⟩
      unfold opt
      have hB5 := hB4.trans (hb5.mono hB4.size)
      clear hB4 hb5
      go_wp2_with fail
      refine (HRS.out _).mono ?_
      rintro e w6 ⟨rfl, hb6⟩
      unfold opt
      have hB6 := hB5.trans (hb6.mono hB5.size)
      clear hB5 hb6
      go_wp2_with fail
      refine (alive_ok _ (HE.out.below hB6)).mono ?_
      rintro e w7 ⟨rfl, hb7⟩
      have hB7 := hB6.trans (hb7.mono hB6.size)
      clear hB6 hb7
      go_wp2_with fail
      refine (HRD.out _).mono ?_
      rintro e w8 ⟨rfl, hb8⟩
      have hB8 := hB7.trans (hb8.mono hB7.size)
      clear hB7 hb8
      go_wp2_with fail
      refine (HRH.out _).mono ?_
      rintro e w9 ⟨rfl, hb9⟩
      have hB9 := hB8.trans (hb9.mono hB8.size)
      clear hB8 hb9
      go_wp2_with fail
      go_ret
      exact ⟨rfl, hB9⟩
    · go_enter Tryd.func8, Tryd.ntmps8
      go_wp2_with fail
      refine (HD.out _ HE.out).mono ?_
      rintro e w1 ⟨rfl, hb1⟩
      go_wp2_with fail
      refine (HH.out _ (HE.out.below hb1)).mono ?_
      rintro e w2 ⟨rfl, hb2⟩
      have hB2 := hb1.trans (hb2.mono hb1.size)
      clear hb1 hb2
      go_wp2_with fail
      refine (HPD.out _ (HE.out.below hB2)).mono ?_
      rintro e w3 ⟨rfl, hb3⟩
      have hB3 := hB2.trans (hb3.mono hB2.size)
      clear hB2 hb3
      go_wp2_with fail
      refine (HPH.out _ (HE.out.below hB3)).mono ?_
      rintro e w4 ⟨rfl, hb4⟩
      have hB4 := hB3.trans (hb4.mono hB3.size)
      clear hB3 hb4
      go_wp2_with fail
      refine (HPS.out _ (HE.out.below hB4)).mono ?_
      rintro e w5 ⟨rfl, hb5⟩
      unfold opt
      have hB5 := hB4.trans (hb5.mono hB4.size)
      clear hB4 hb5
      go_wp2_with fail
      refine (HRS.out _).mono ?_
      rintro e w6 ⟨rfl, hb6⟩
      unfold opt
      have hB6 := hB5.trans (hb6.mono hB5.size)
      clear hB5 hb6
      go_wp2_with fail
      refine (alive_ok _ (HE.out.below hB6)).mono ?_
      rintro e w7 ⟨rfl, hb7⟩
      have hB7 := hB6.trans (hb7.mono hB6.size)
      clear hB6 hb7
      go_wp2_with fail
      refine (HRD.out _).mono ?_
      rintro e w8 ⟨rfl, hb8⟩
      have hB8 := hB7.trans (hb8.mono hB7.size)
      clear hB7 hb8
      go_wp2_with fail
      refine (HRH.out _).mono ?_
      rintro e w9 ⟨rfl, hb9⟩
      have hB9 := hB8.trans (hb9.mono hB8.size)
      clear hB8 hb9
      go_wp2_with fail
      go_ret
      exact ⟨rfl, hB9⟩

set_option maxRecDepth 100000 in
theorem lifted (os : Os) (started : os.Started) (H : Type) (enc : TypeId × Value → H) :
    ReturnsInHanded {} Tryd.checked os 8 .any (fun w args => (Rows.numFormsSpec.pre enc Tryd.prog Tryd.f8 [] false w args ∧ laidMetH Tryd.prog laid1 w) ∧ sizedMet enc Tryd.prog Tryd.f8 (OpenSpec.ofChange Rows.numFormsSpec) false w args)
      (Rows.numFormsSpec.post enc Tryd.prog Tryd.f8 false true false false) := by
  refine returnsInHanded_of_change_and (C := Tryd.checked) (X := fun w _ => laidMetH Tryd.prog laid1 w) (fun _ _ _ hh h => h.of_heap hh) own started (by kernel_rfl) Tryd.func8
    (ChangeSpec.witness_shaped (enc := enc) (C := Tryd.checked) (os := os) (X := fun w _ => laidMetH Tryd.prog laid1 w) false (World.doorLaid Tryd.prog 62 os) #[.int .u64 0, .string ⟨#[]⟩] 8 rfl (World.shaped_of_RefB (by kernel_rfl) (by kernel_rfl)) (by kernel_rfl) (by kernel_rfl) (by kernel_rfl) (door_met os _)) ?_
  intro W base args ds gs before hval0 hW _ _ hL _
  have hval : ∀ (j : Nat) t v, Tryd.f8.params[j]? = some t → args[j]? = some v → Value.okWide Tryd.prog W .any base t v := hval0
  have hW' := hW
  obtain ⟨p, q, hA0, hV, rfl, hfz, hnd⟩ := hW
  have hA : DataW.TrodAll enc Tryd.prog W 0 (fun _ => true) true Tryd.f8.params.toList args.toList ds p := hA0
  rw [Tryd.params8] at hA hval
  obtain ⟨v0, vs0, d0, ds0, p0, q0, hargs, rfl, rfl, h0, r0⟩ := trodAll_cons hA
  obtain ⟨v1, vs1, d1, ds1, p1, q1, rfl, rfl, rfl, h1, r1⟩ := trodAll_cons r0
  obtain ⟨rfl, rfl, rfl⟩ := trodAll_nil r1
  obtain rfl : args = #[v0, v1] := by cases args; simp_all
  obtain ⟨rfl, rfl⟩ := trodVars_none hV
  obtain ⟨a0, rfl, rfl, rfl, w0⟩ := open_int Tryd.underlying24 (hval 0 24 v0 rfl rfl) h0
  obtain ⟨s1, rfl, rfl, rfl, ws⟩ := ChangeMaps.open_string Tryd.underlying9 (hval 1 9 v1 rfl rfl) h1
  obtain ⟨n0, rfl⟩ := Int.eq_ofNat_of_zero_le (u_of_wf w0).lo
  obtain ⟨⟨l1⟩⟩ := s1
  clear hA0 hval0
  simp only [List.append_nil] at hW'
  refine (walk n0 (by have := (u_of_wf w0).hi; omega) l1 (by unfold maxLen at ws; exact ws) W (env_of_laid hL)).mono fun e W' ⟨he, hg⟩ => ?_
  subst he
  exact law_post (by kernel_rfl) rfl rfl (by kernel_rfl) (by kernel_rfl) Tryd.underlying4 hW' hg

theorem over : Rows.NumFormsSaid :=
  OpenClaim.holds_of_wide 8 Tryd.f8 rfl rfl rfl rfl rfl rfl rfl ⟨rfl, rfl, rfl, rfl, rfl⟩ rfl rfl rfl rfl rfl (by kernel_rfl) Tryd.func8 (by kernel_rfl)
    (of_decide_eq_true (by kernel_rfl)) (by unfold Func.isWrapper; first | (rw [if_pos (by decide +kernel)]; kernel_rfl) | (rw [if_neg (by decide +kernel)]; exact ⟨rfl, rfl⟩))
    (fun os started H enc _ => lifted os started H enc)

theorem proved : Rows.NumFormsCardSaid :=
  Claim7.holds_tied_plain_at .later [] Rows.numFormsCard.laidKinds true Rows.numFormsCard.stood.harness Rows.numFormsCard.stood.looks
    over (fun _ h => by cases h) (by kernel_rfl) (fun _ h => by cases h) numForms_row_tie rfl ⟨rfl, rfl⟩ (by kernel_rfl) rfl
    (fun f fn hf hfn => by
      obtain rfl : f = 8 := Option.some.inj ((show Tryd.prog.funcNamed "fenestra/fenestralaw01.NumForms" = some 8 by kernel_rfl).symm.trans hf) |>.symm
      obtain rfl : fn = Tryd.f8 := (Option.some.inj (Tryd.func8.symm.trans hfn)).symm
      exact ⟨by kernel_rfl, fun j t ht => by
        rw [Tryd.params8] at ht
        have hm : t ∈ [24, 9] := by simpa using Array.mem_of_getElem? ht
        have hall : ([24, 9].all fun u => !Tryd.prog.wantsStandIn u) = true := by kernel_rfl
        exact (show Tryd.prog.wantsStandIn t = false by simpa using List.all_eq_true.1 hall t hm)⟩)
    (by kernel_rfl)

end Go.Proofs.YtgbpjgnpojkejaaDoor.LawForms
