/-
  The law CrcJoins returns true: Join returns the checksum of both parts together, and 0 for a negative length. For every input: no condition. By the verifier.
-/
import Derived.Test.YtideanaecmoimaaCLaw
import Derived.Test.YtideanaecmoimaaRows
set_option linter.unusedVariables false
namespace Go.Proofs.Ytideanaecmoimaa.LawJoins
open Go.RowKit Go.ChangeShapes Go.WideShapes Go.ChangeAt

set_option maxHeartbeats 2000000 in
theorem walk (A B : Option Addr) (l m : List Nat) (c d : Nat) (w : World) (hl : Bys w A l) (hm : Bys w B m) :
    Calls Try.prog 4 #[.slice A l.length c, .slice B m.length d] w fun e w' => e = .returned (.bool true) ∧ Below w.heap.size w w' := by
  by_cases h1 : 300 < l.length
  · have hq : (300 : Int) < (l.length : Int) := by omega
    go_enter Try.func4, Try.ntmps4
    go_wp2_with fail
    refine (alive_ok _).mono ?_
    rintro e w1 ⟨rfl, hb1⟩
    go_wp2_with fail
    go_ret
    exact ⟨rfl, hb1⟩
  · by_cases h2 : 300 < m.length
    · have hq : ¬ (300 : Int) < (l.length : Int) := by omega
      have hq2 : (300 : Int) < (m.length : Int) := by omega
      go_enter Try.func4, Try.ntmps4
      go_wp2_with fail
      refine (alive_ok _).mono ?_
      rintro e w1 ⟨rfl, hb1⟩
      go_wp2_with fail
      go_ret
      exact ⟨rfl, hb1⟩
    · have hq : ¬ (300 : Int) < (l.length : Int) := by omega
      have hq2 : ¬ (300 : Int) < (m.length : Int) := by omega
      obtain ⟨ca, hca⟩ : ∃ ca : Int, ca = (crc l : Int) := ⟨_, rfl⟩
      obtain ⟨cb, hcb⟩ : ∃ cb : Int, cb = (crc m : Int) := ⟨_, rfl⟩
      obtain ⟨cab, hcab⟩ : ∃ cab : Int, cab = (crc (l ++ m) : Int) := ⟨_, rfl⟩
      have HSA : Hid (∀ W, Below w.heap.size w W → Calls Try.prog 11 #[.slice (some ⟨W.heap.size, 0, none⟩) 1 1] (W.alloc (.cells #[.slice A l.length c] 24)) (fun e w' => e = .returned (.int .u32 ca) ∧ Below W.heap.size W w')) :=
        Lib.hid fun W hW => by rw [hca]; exact sum1_ok W A l c (hl.below (Nat.le_refl _) hW)
      have HSB : Hid (∀ W, Below w.heap.size w W → Calls Try.prog 11 #[.slice (some ⟨W.heap.size, 0, none⟩) 1 1] (W.alloc (.cells #[.slice B m.length d] 24)) (fun e w' => e = .returned (.int .u32 cb) ∧ Below W.heap.size W w')) :=
        Lib.hid fun W hW => by rw [hcb]; exact sum1_ok W B m d (hm.below (Nat.le_refl _) hW)
      have HJ : Hid (∀ W, Calls Try.prog 14 #[.int .u32 ca, .int .u32 cb, .int .i64 (m.length : Int)] W (fun e w' => e = .returned (.int .u32 cab) ∧ W = w')) :=
        Lib.hid fun W => by rw [hca, hcb, hcab, crc_join]; exact join_ok _ _ m.length (crc_lt hl.2.1) (crc_lt hm.2.1) (by omega) W
      have HJN : Hid (∀ W n, n < 0 → Calls Try.prog 14 #[.int .u32 ca, .int .u32 cb, .int .i64 n] W (fun e w' => e = .returned (.int .u32 0) ∧ W = w')) :=
        Lib.hid fun W n hn => join_neg ca cb n hn W
      have HREF : Hid (∀ (W : World) (base : Nat) (v : Value), OwnB W base v (l ++ m) → ∃ A2 c2, v = .slice A2 (l.length + m.length) c2 ∧ Calls Try.prog 12 #[.slice A2 (l.length + m.length) c2] W (fun e w' => e = .returned (.int .u32 cab) ∧ W = w')) := by
        refine Lib.hid fun W base v ho => ?_
        obtain ⟨A2, c2, hv, hby, -, -⟩ := ho.shape (hl.2.1.append hm.2.1) (by rw [List.length_append]; unfold maxLen; omega)
        have := rsum_ok A2 (l ++ m) c2 W hby
        rw [List.length_append] at hv this
        exact ⟨A2, c2, hv, by rw [hcab]; exact this⟩
      have HL := Lib.hid hl
      have HM := Lib.hid hm
      clear hl hm hca hcb hcab
      go_enter Try.func4, Try.ntmps4
      go_wp2_with fail
      refine (alive_ok _).mono ?_
      rintro e w1 ⟨rfl, hb1⟩
      go_wp2_with fail
      refine (HSA.out w1 hb1).mono ?_
      rintro e w2 ⟨rfl, hb2⟩
      have hB2 := hb1.trans (hb2.mono hb1.size)
      clear hb1 hb2
      go_wp2_with fail
      refine (HSB.out w2 hB2).mono ?_
      rintro e w3 ⟨rfl, hb3⟩
      have hB3 := hB2.trans (hb3.mono hB2.size)
      clear hB2 hb3
      go_wp2_with fail
      refine (HJ.out w3).mono ?_
      rintro e w3' ⟨rfl, rfl⟩
      have HO := Lib.hid (own_lit w3)
      have hA1 : Below w.heap.size w (w3.alloc (.cells #[] 5)) := hB3.alloc hB3.size _
      have HBA := Lib.hid (HL.out.below (Nat.le_refl _) hA1)
      have hsz : w3.heap.size ≤ (w3.alloc (.cells #[] 5)).heap.size := by simp
      have h03 : Below w3.heap.size w3 (w3.alloc (.cells #[] 5)) := (Below.refl _ _).alloc (Nat.le_refl _) _
      go_wp2_with (first
        | (refine wpList_append8w (by rfl) (.tmp 25) (.tmp 26) (by rfl) w3.heap.size (.slice (some ⟨w3.heap.size, 0, none⟩) 0 0) [] (by rfl) HO.out A l l.length c rfl (by rfl) HBA.out (by simp; omega) hsz ?_; intro v1 w4 ho1 hg1; have hb4 := grown_below h03 HO.out hg1 hsz; have hB4 := hB3.trans (hb4.mono hB3.size); rw [List.nil_append] at ho1; have HO1 := Lib.hid ho1; have HBB := Lib.hid (HM.out.below (Nat.le_refl _) hB4); clear ho1 hg1)
        | (refine wpList_append8w (by rfl) (.tmp 27) (.tmp 28) (by rfl) w3.heap.size v1 l (by rfl) HO1.out B m m.length d rfl (by rfl) HBB.out (by omega) hb4.size ?_; intro v2 w5 ho2 hg2; have hb5 := grown_below hb4 HO1.out hg2 hb4.size; have hB5 := hB3.trans (hb5.mono hB3.size); obtain ⟨A2, c2, rfl, hcall⟩ := HREF.out w5 _ v2 ho2; have HC := Lib.hid hcall; clear ho2 hg2 hcall))
      refine HC.out.mono ?_
      rintro e w6 ⟨rfl, rfl⟩
      clear HO HO1 HBA HBB hb4 hb5 hB4 h03 hA1 hsz
      go_wp2_with fail
      refine (HSA.out w5 hB5).mono ?_
      rintro e w7 ⟨rfl, hb7⟩
      have hB7 := hB5.trans (hb7.mono hB5.size)
      clear hb7
      go_wp2_with fail
      refine (HSB.out w7 hB7).mono ?_
      rintro e w8 ⟨rfl, hb8⟩
      have hB8 := hB7.trans (hb8.mono hB7.size)
      clear hb8
      go_wp2_with fail
      refine (HJN.out w8 _ (by omega)).mono ?_
      rintro e w9 ⟨rfl, rfl⟩
      go_wp2_with fail
      go_ret
      exact ⟨rfl, hB8⟩

theorem own : ownKnob Try.prog.godebug = none := by kernel_rfl

set_option maxRecDepth 100000 in
theorem lifted (os : Os) (started : os.Started) (H : Type) (enc : TypeId × Value → H) :
    ReturnsInHanded {} Try.checked os 4 .any (Rows.crcJoinsSpec.pre6 enc Try.prog Try.f4 Rows.crcJoinsRow.domain false) (Rows.crcJoinsSpec.post enc Try.prog Try.f4 false true false false) := by
  refine returnsInHanded_of_change (C := Try.checked) own started (by kernel_rfl) Try.func4
    (ChangeSpec.witness6 (enc := enc) (C := Try.checked) false ⟨#[], #[.slice none 0 0, .slice none 0 0], []⟩ 8 (by kernel_rfl) (by kernel_rfl) (by kernel_rfl) (by kernel_rfl)) ?_
  intro W base args ds gs before hval0 hW hcnd _
  have hval : ∀ (j : Nat) t v, Try.f4.params[j]? = some t → args[j]? = some v → Value.okWide Try.prog W .any base t v := hval0
  have hW' := hW
  obtain ⟨p, q, hA0, hV, rfl, hfz, hnd⟩ := hW
  have hA : DataW.TrodAll enc Try.prog W 0 (fun _ => true) true Try.f4.params.toList args.toList ds p := hA0
  rw [Try.params4] at hA hval
  obtain ⟨v0, vs0, d0, ds0, p0, q0, hargs, rfl, rfl, h0, r0⟩ := trodAll_cons hA
  obtain ⟨v1, vs1, d1, ds1, p1, q1, rfl, rfl, rfl, h1, r1⟩ := trodAll_cons r0
  obtain ⟨rfl, rfl, rfl⟩ := trodAll_nil r1
  obtain rfl : args = #[v0, v1] := by cases args; simp_all
  obtain ⟨rfl, rfl⟩ := trodVars_none hV
  obtain ⟨A0, l0, c0, rfl, hb0, hc0⟩ := open_bytes Try.underlying24 Try.underlying5 (by kernel_rfl) (hval 0 24 v0 rfl rfl) h0
  obtain ⟨A1, l1, c1, rfl, hb1, hc1⟩ := open_bytes Try.underlying24 Try.underlying5 (by kernel_rfl) (hval 1 24 v1 rfl rfl) h1
  clear hA0 hval0
  simp only [List.append_nil] at hW'
  refine (walk A0 A1 l0 l1 c0 c1 W hb0 hb1).mono fun e W' ⟨he, hg⟩ => ?_
  subst he
  exact law_post (by kernel_rfl) rfl rfl (by kernel_rfl) (by kernel_rfl) Try.underlying4 hW' hg

/-- WHAT IS PROVED. -/
theorem proved : Rows.CrcJoinsSaid :=
  OpenClaim.holds_of_wide 4 Try.f4 rfl rfl rfl rfl rfl rfl rfl ⟨rfl, rfl, rfl, rfl, rfl⟩ rfl rfl rfl rfl rfl (by kernel_rfl) Try.func4 (by kernel_rfl)
    (of_decide_eq_true (by kernel_rfl)) (by unfold Func.isWrapper; first | (rw [if_pos (by decide +kernel)]; kernel_rfl) | (rw [if_neg (by decide +kernel)]; exact ⟨rfl, rfl⟩))
    (fun os started H enc _ => lifted os started H enc)

end Go.Proofs.Ytideanaecmoimaa.LawJoins
