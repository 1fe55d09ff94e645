/-
  The law CrcSeals returns true: Seal returns the sealed bytes of the reference, Sealed accepts exactly what the reference accepts, and the argument is not changed. For every input: no condition. By the verifier.
-/
import Derived.Test.YtideanaecmoimaaCLaw
import Derived.Test.YtideanaecmoimaaRows
set_option linter.unusedVariables false
namespace Go.Proofs.Ytideanaecmoimaa.LawSeals
open Go.RowKit Go.ChangeShapes Go.WideShapes Go.ChangeAt

set_option maxHeartbeats 2000000 in
theorem walk (A : Option Addr) (l : List Nat) (c : Nat) (w : World) (hl : Bys w A l) (hc : l.length ≤ c) :
    Calls Try.prog 5 #[.slice A l.length c] w fun e w' => e = .returned (.bool true) ∧ Below w.heap.size w w' := by
  by_cases h1 : 1000 < l.length
  · have hq : (1000 : Int) < (l.length : Int) := by omega
    go_enter Try.func5, Try.ntmps5
    go_wp2_with fail
    refine (alive_ok _).mono ?_
    rintro e w1 ⟨rfl, hb1⟩
    go_wp2_with fail
    go_ret
    exact ⟨rfl, hb1⟩
  · have hq : ¬ (1000 : Int) < (l.length : Int) := by omega
    have hbs := hl.2.1
    have hbS : Bs (l ++ le (crc l)) := hbs.append (le_bs _)
    have hSl : (l ++ le (crc l)).length ≤ 1004 := by rw [List.length_append, le_len]; omega
    have hss := seal_sealed l
    have hown : ∀ (W : World) (base : Nat) (v : Value), OwnB W base v l → ∃ A2 c2, v = .slice A2 l.length c2 ∧ Bys W A2 l :=
      fun W base v ho => by
        obtain ⟨A2, c2, hv, hby, -, -⟩ := ho.shape hbs (by unfold maxLen; omega)
        exact ⟨A2, c2, hv, hby⟩
    have hrs := fun (W : World) (hW : Below w.heap.size w W) => rseal_ok A l c W (hl.below (Nat.le_refl _) hW) (by omega)
    have hsl := fun (W : World) (A2 : Option Addr) (c2 : Nat) (h : Bys W A2 l) => seal_ok A2 l c2 W h (by omega)
    obtain ⟨S, hS⟩ : ∃ S, S = l ++ le (crc l) := ⟨_, rfl⟩
    rw [← hS] at hbS hSl hss
    simp only [← hS] at hrs hsl
    have HRS := Lib.hid hrs
    have HSL := Lib.hid hsl
    have HOWN := Lib.hid hown
    have HEQ : Hid (∀ (W : World) (B : Nat) (A3 : Option Addr) (c3 : Nat), BRow W B S → Bys W A3 S → Calls Try.prog 16 #[.slice (some ⟨B, 0, none⟩) S.length S.length, .slice A3 S.length c3] W (fun e w' => e = .returned (.bool true) ∧ Below W.heap.size W w')) :=
      Lib.hid fun W B A3 c3 h1 h2 => by
        have := equal_ok (some ⟨B, 0, none⟩) A3 S S S.length c3 W (h1.bys hbS (by unfold maxLen; omega)) h2
        rwa [decide_eq_true rfl] at this
    have HEQ2 : Hid (∀ (W : World) (A3 : Option Addr) (c3 : Nat), Bys W A3 l → Below w.heap.size w W → Calls Try.prog 16 #[.slice A3 l.length c3, .slice A l.length c] W (fun e w' => e = .returned (.bool true) ∧ Below W.heap.size W w')) :=
      Lib.hid fun W A3 c3 h2 hW => by
        have := equal_ok A3 A l l c3 c W h2 (hl.below (Nat.le_refl _) hW)
        rwa [decide_eq_true rfl] at this
    have HSD : Hid (∀ (W : World) (B : Nat), BRow W B S → Calls Try.prog 18 #[.slice (some ⟨B, 0, none⟩) S.length S.length] W (fun e w' => e = .returned (.bool true) ∧ Below W.heap.size W w')) :=
      Lib.hid fun W B h1 => by
        have := sealed_ok (some ⟨B, 0, none⟩) S S.length W (h1.bys hbS (by unfold maxLen; omega)) (Nat.le_refl _)
        rwa [hss] at this
    obtain ⟨r, hr⟩ : ∃ r : Bool, r = sealedB l := ⟨_, rfl⟩
    have HSB : Hid (∀ (W : World), Below w.heap.size w W → Calls Try.prog 18 #[.slice A l.length c] W (fun e w' => e = .returned (.bool r) ∧ Below W.heap.size W w')) :=
      Lib.hid fun W hW => by rw [hr]; exact sealed_ok A l c W (hl.below (Nat.le_refl _) hW) hc
    have HRB : Hid (∀ (W : World), Below w.heap.size w W → Calls Try.prog 19 #[.slice A l.length c] W (fun e w' => e = .returned (.bool r) ∧ Below W.heap.size W w')) :=
      Lib.hid fun W hW => by rw [hr]; exact rsealed_ok A l c W (hl.below (Nat.le_refl _) hW) hc (by omega)
    have HBS := Lib.hid hbS
    have HO := Lib.hid (own_lit w)
    have hA1 : Below w.heap.size w (w.alloc (.cells #[] 5)) := (Below.refl _ _).alloc (Nat.le_refl _) _
    have HBA := Lib.hid (hl.below (Nat.le_refl _) hA1)
    have hsz : w.heap.size ≤ (w.alloc (.cells #[] 5)).heap.size := by simp
    clear hl hr hrs hsl hown hS hss hbS
    go_enter Try.func5, Try.ntmps5
    go_wp2_with (refine wpList_append8 (by rfl) (.tmp 9) (.tmp 10) (by rfl) w.heap.size (.slice (some ⟨w.heap.size, 0, none⟩) 0 0) [] (by rfl) HO.out A l l.length c rfl (by rfl) HBA.out (by simp; omega) hsz ?_; intro v1 w1 ho1 hg1; have hb1 := grown_below hA1 HO.out hg1 hsz; rw [List.nil_append] at ho1; obtain ⟨A2, c2, rfl, hy⟩ := HOWN.out w1 _ v1 ho1; have HY := Lib.hid hy; clear ho1 hg1 hy)
    refine (HSL.out w1 A2 c2 HY.out).mono ?_
    rintro e w2 ⟨B, rfl, hr2, -, hb2⟩
    have hB2 := hb1.trans (hb2.mono hb1.size)
    have HR2 := Lib.hid hr2
    have HY2 := Lib.hid (HY.out.below (Nat.le_refl _) hb2)
    clear hr2 hb2 hb1 HY HO HBA hA1 hsz
    go_wp2_with fail
    refine (alive_ok _).mono ?_
    rintro e w3 ⟨rfl, hb3⟩
    have hB3 := hB2.trans (hb3.mono hB2.size)
    have HR3 := Lib.hid (HR2.out.below HR2.out.row.lt hb3)
    have HY3 := Lib.hid (HY2.out.below (Nat.le_refl _) hb3)
    clear hb3 hB2 HR2 HY2
    go_wp2_with fail
    refine (HRS.out w3 hB3).mono ?_
    rintro e w4 ⟨v4, rfl, ho4, hb4⟩
    obtain ⟨A4, c4, rfl, hy4, -, -⟩ := ho4.shape HBS.out (by unfold maxLen; omega)
    have hB4 := hB3.trans (hb4.mono hB3.size)
    have HR4 := Lib.hid (HR3.out.below HR3.out.row.lt hb4)
    have HY4 := Lib.hid (HY3.out.below (Nat.le_refl _) hb4)
    have HZ4 := Lib.hid hy4
    clear hb4 hB3 HR3 HY3 ho4 hy4
    go_wp2_with fail
    refine (HEQ.out w4 B A4 c4 HR4.out HZ4.out).mono ?_
    rintro e w5 ⟨rfl, hb5⟩
    have hB5 := hB4.trans (hb5.mono hB4.size)
    have HR5 := Lib.hid (HR4.out.below HR4.out.row.lt hb5)
    have HY5 := Lib.hid (HY4.out.below (Nat.le_refl _) hb5)
    clear hb5 hB4 HR4 HY4 HZ4
    go_wp2_with fail
    refine (HSD.out w5 B HR5.out).mono ?_
    rintro e w6 ⟨rfl, hb6⟩
    have hB6 := hB5.trans (hb6.mono hB5.size)
    have HY6 := Lib.hid (HY5.out.below (Nat.le_refl _) hb6)
    clear hb6 hB5 HR5 HY5
    go_wp2_with fail
    refine (HSB.out w6 hB6).mono ?_
    rintro e w7 ⟨rfl, hb7⟩
    have hB7 := hB6.trans (hb7.mono hB6.size)
    have HY7 := Lib.hid (HY6.out.below (Nat.le_refl _) hb7)
    clear hb7 hB6 HY6
    go_wp2_with fail
    refine (HRB.out w7 hB7).mono ?_
    rintro e w8 ⟨rfl, hb8⟩
    have hB8 := hB7.trans (hb8.mono hB7.size)
    have HY8 := Lib.hid (HY7.out.below (Nat.le_refl _) hb8)
    clear hb8 hB7 HY7
    go_wp2_with fail
    refine (HEQ2.out w8 A2 c2 HY8.out hB8).mono ?_
    rintro e w9 ⟨rfl, hb9⟩
    have hB9 := hB8.trans (hb9.mono hB8.size)
    go_wp2_with fail
    go_ret
    exact ⟨rfl, hB9⟩

theorem own : ownKnob Try.prog.godebug = none := by kernel_rfl

set_option maxRecDepth 100000 in
theorem lifted (os : Os) (started : os.Started) (H : Type) (enc : TypeId × Value → H) :
    ReturnsInHanded {} Try.checked os 5 .any (Rows.crcSealsSpec.pre6 enc Try.prog Try.f5 Rows.crcSealsRow.domain false) (Rows.crcSealsSpec.post enc Try.prog Try.f5 false true false false) := by
  refine returnsInHanded_of_change (C := Try.checked) own started (by kernel_rfl) Try.func5
    (ChangeSpec.witness6 (enc := enc) (C := Try.checked) false ⟨#[], #[.slice none 0 0], []⟩ 8 (by kernel_rfl) (by kernel_rfl) (by kernel_rfl) (by kernel_rfl)) ?_
  intro W base args ds gs before hval0 hW hcnd _
  have hval : ∀ (j : Nat) t v, Try.f5.params[j]? = some t → args[j]? = some v → Value.okWide Try.prog W .any base t v := hval0
  have hW' := hW
  obtain ⟨p, q, hA0, hV, rfl, hfz, hnd⟩ := hW
  have hA : DataW.TrodAll enc Try.prog W 0 (fun _ => true) true Try.f5.params.toList args.toList ds p := hA0
  rw [Try.params5] at hA hval
  obtain ⟨v0, vs0, d0, ds0, p0, q0, hargs, rfl, rfl, h0, r0⟩ := trodAll_cons hA
  obtain ⟨rfl, rfl, rfl⟩ := trodAll_nil r0
  obtain rfl : args = #[v0] := by cases args; simp_all
  obtain ⟨rfl, rfl⟩ := trodVars_none hV
  obtain ⟨A0, l0, c0, rfl, hb0, hc0⟩ := open_bytes Try.underlying24 Try.underlying5 (by kernel_rfl) (hval 0 24 v0 rfl rfl) h0
  clear hA0 hval0
  simp only [List.append_nil] at hW'
  refine (walk A0 l0 c0 W hb0 hc0).mono fun e W' ⟨he, hg⟩ => ?_
  subst he
  exact law_post (by kernel_rfl) rfl rfl (by kernel_rfl) (by kernel_rfl) Try.underlying4 hW' hg

/-- WHAT IS PROVED. -/
theorem proved : Rows.CrcSealsSaid :=
  OpenClaim.holds_of_wide 5 Try.f5 rfl rfl rfl rfl rfl rfl rfl ⟨rfl, rfl, rfl, rfl, rfl⟩ rfl rfl rfl rfl rfl (by kernel_rfl) Try.func5 (by kernel_rfl)
    (of_decide_eq_true (by kernel_rfl)) (by unfold Func.isWrapper; first | (rw [if_pos (by decide +kernel)]; kernel_rfl) | (rw [if_neg (by decide +kernel)]; exact ⟨rfl, rfl⟩))
    (fun os started H enc _ => lifted os started H enc)

end Go.Proofs.Ytideanaecmoimaa.LawSeals
