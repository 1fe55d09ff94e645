/-
  The law CrcOnce returns true: forging the checksum that bytes have already leads to these bytes. For every input: no condition. By the verifier.
-/
import Derived.Test.YtideanaecmoimaaCLaw
import Derived.Test.YtideanaecmoimaaCForge2
import Derived.Test.YtideanaecmoimaaRows
import Derived.Outline
set_option linter.unusedVariables false
namespace Go.Proofs.Ytideanaecmoimaa.LawOnce
open Go.RowKit Go.ChangeShapes Go.WideShapes Go.ChangeAt

set_option maxHeartbeats 2000000 in
theorem walk (A : Option Addr) (l : List Nat) (c : Nat) (at_ : Nat) (hat : at_ < 256) (w : World) (hl : Bys w A l) (hc : l.length ≤ c) :
    Calls Try.prog 7 #[.slice A l.length c, .int .u8 (at_ : Int)] w fun e w' => e = .returned (.bool true) ∧ Below w.heap.size w w' := by
  by_cases h1 : 300 < l.length
  · have hq : (300 : Int) < (l.length : Int) := by omega
    go_enter Try.func7, Try.ntmps7
    go_wp2_with fail
    refine (alive_ok _).mono ?_
    rintro e w1 ⟨rfl, hb1⟩
    go_wp2_with fail
    go_ret
    exact ⟨rfl, hb1⟩
  · by_cases h2 : l.length < 4
    · have hq : ¬ (300 : Int) < (l.length : Int) := by omega
      have hq2 : (l.length : Int) < 4 := by omega
      go_enter Try.func7, Try.ntmps7
      go_wp2_with fail
      refine (alive_ok _).mono ?_
      rintro e w1 ⟨rfl, hb1⟩
      go_wp2_with fail
      go_ret
      exact ⟨rfl, hb1⟩
    · have hq : ¬ (300 : Int) < (l.length : Int) := by omega
      have hq2 : ¬ (l.length : Int) < 4 := by omega
      obtain ⟨k, hk, hk2⟩ : ∃ k : Nat, (at_ : Int) % ((l.length : Int) - 3) = (k : Int) ∧ k + 4 ≤ l.length := by
        have e1 : 0 ≤ (at_ : Int) % ((l.length : Int) - 3) := Int.emod_nonneg _ (by omega)
        have e2 : (at_ : Int) % ((l.length : Int) - 3) < (l.length : Int) - 3 := Int.emod_lt_of_pos _ (by omega)
        obtain ⟨k, hk⟩ := Int.eq_ofNat_of_zero_le e1
        exact ⟨k, hk, by omega⟩
      obtain ⟨b, o, rfl, -, -⟩ := hl.1 0 (by omega)
      have hsplit : l = l.take k ++ ((l.drop k).take 4 ++ l.drop (k + 4)) := by
        rw [← List.drop_drop, List.take_append_drop, List.take_append_drop]
      have hbt := hl.2.1.take k
      have hb4 := (hl.2.1.drop k).take 4
      have hbd := hl.2.1.drop (k + 4)
      have h4 : ((l.drop k).take 4).length = 4 := by rw [List.length_take, List.length_drop]; omega
      have HF : Hid (∀ W, Below w.heap.size w W → Calls Try.prog 20 #[.slice (some ⟨b, o, none⟩) l.length c, .int .i64 (k : Int), .int .u32 (crc l : Int)] W (fun e w' => ∃ B, e = .returned (.tuple #[.slice (some ⟨B, 0, none⟩) l.length l.length, .bool true]) ∧ BRow w' B l ∧ Below W.heap.size W w')) := by
        refine Lib.hid fun W hW => ?_
        have := forge_yes b o l.length c k (l.take k) ((l.drop k).take 4) (l.drop (k + 4)) (crc l) (crc_lt hl.2.1) W (by rw [← hsplit]; exact hl.below (Nat.le_refl _) hW) (by rw [List.length_take]; omega) h4 (by rw [List.length_drop]; omega) hc (by omega)
        have hfo : le (forged (l.take k) (l.drop (k + 4)) (crc l)) = (l.drop k).take 4 := by
          have := forged_once hbt hb4 h4 hbd
          rwa [← hsplit] at this
        rw [hfo, ← hsplit] at this
        exact this
      have HS : Hid (∀ W, Below w.heap.size w W → Calls Try.prog 12 #[.slice (some ⟨b, o, none⟩) l.length c] W (fun e w' => e = .returned (.int .u32 (crc l : Int)) ∧ W = w')) :=
        Lib.hid fun W hW => rsum_ok (some ⟨b, o, none⟩) l c W (hl.below (Nat.le_refl _) hW)
      have HE : Hid (∀ (W : World) (B : Nat), Below w.heap.size w W → BRow W B l → Calls Try.prog 16 #[.slice (some ⟨B, 0, none⟩) l.length l.length, .slice (some ⟨b, o, none⟩) l.length c] W (fun e w' => e = .returned (.bool true) ∧ Below W.heap.size W w')) :=
        Lib.hid fun W B hW hr => by
          have := equal_ok (some ⟨B, 0, none⟩) (some ⟨b, o, none⟩) l l l.length c W (hr.bys hl.2.1 hl.2.2) (hl.below (Nat.le_refl _) hW)
          rwa [decide_eq_true rfl] at this
      obtain ⟨cr, hcr⟩ : ∃ cr : Int, cr = (crc l : Int) := ⟨_, rfl⟩
      rw [← hcr] at HF HS
      have hw1 : IntKind.i64.wrap ((l.length : Int) - 3) = (l.length : Int) - 3 := IntWalk.i64_in _ (by omega)
      have hw2 : IntKind.i64.wrap (at_ : Int) = (at_ : Int) := IntWalk.i64_in _ (by omega)
      have hw3 : (at_ : Int).tmod ((l.length : Int) - 3) = (k : Int) := by rw [Int.tmod_eq_emod_of_nonneg (by omega)]; exact hk
      have hw4 : IntKind.i64.wrap (k : Int) = (k : Int) := IntWalk.i64_in _ (by omega)
      have hz1 : ¬ (l.length : Int) - 3 = 0 := by omega
      have hz2 : ((l.length : Int) - 3 == 0) = false := by rw [beq_eq_false_iff_ne]; exact hz1
      have hz3 : ¬ (l.length : Int) = 3 := by omega
      clear hl hsplit hbt hb4 hbd h4 hcr
      go_enter Try.func7, Try.ntmps7
      go_wp2_with fail
      go_region_with (first
        | (go_at_call 12; refine (HS.out _ (Below.refl _ _).drew).mono ?_; rintro e w' ⟨rfl, rfl⟩)
        | (go_at_call 20; refine (HF.out _ (Below.refl _ _).drew).mono ?_; rintro e w2 ⟨B, rfl, hr2, hb2⟩; have HR2 := Lib.hid hr2; have hB2 : Below w.heap.size w w2 := (Below.refl w.heap.size w).drew.trans hb2; clear hr2 hb2))
      all_goals
        go_wp2_with fail
        refine (alive_ok _).mono ?_
        rintro e w3 ⟨rfl, hb3⟩
        have hB3 := hB2.trans (hb3.mono hB2.size)
        have HR3 := Lib.hid (HR2.out.below HR2.out.row.lt hb3)
        go_wp2_with fail
        refine (HE.out w3 B hB3 HR3.out).mono ?_
        rintro e w4 ⟨rfl, hb4⟩
        have hB4 := hB3.trans (hb4.mono hB3.size)
        go_wp2_with fail
        go_ret
        exact ⟨rfl, hB4⟩

theorem own : ownKnob Try.prog.godebug = none := by kernel_rfl

set_option maxRecDepth 100000 in
theorem lifted (os : Os) (started : os.Started) (H : Type) (enc : TypeId × Value → H) :
    ReturnsInHanded {} Try.checked os 7 .any (Rows.crcOnceSpec.pre6 enc Try.prog Try.f7 Rows.crcOnceRow.domain false) (Rows.crcOnceSpec.post enc Try.prog Try.f7 false true false false) := by
  refine returnsInHanded_of_change (C := Try.checked) own started (by kernel_rfl) Try.func7
    (ChangeSpec.witness6 (enc := enc) (C := Try.checked) false ⟨#[], #[.slice none 0 0, .int .u8 0], []⟩ 8 (by kernel_rfl) (by kernel_rfl) (by kernel_rfl) (by kernel_rfl)) ?_
  intro W base args ds gs before hval0 hW hcnd _
  have hval : ∀ (j : Nat) t v, Try.f7.params[j]? = some t → args[j]? = some v → Value.okWide Try.prog W .any base t v := hval0
  have hW' := hW
  obtain ⟨p, q, hA0, hV, rfl, hfz, hnd⟩ := hW
  have hA : DataW.TrodAll enc Try.prog W 0 (fun _ => true) true Try.f7.params.toList args.toList ds p := hA0
  rw [Try.params7] at hA hval
  obtain ⟨v0, vs0, d0, ds0, p0, q0, hargs, rfl, rfl, h0, r0⟩ := trodAll_cons hA
  obtain ⟨v1, vs1, d1, ds1, p1, q1, rfl, rfl, rfl, h1, r1⟩ := trodAll_cons r0
  obtain ⟨rfl, rfl, rfl⟩ := trodAll_nil r1
  obtain rfl : args = #[v0, v1] := by cases args; simp_all
  obtain ⟨rfl, rfl⟩ := trodVars_none hV
  obtain ⟨A0, l0, c0, rfl, hb0, hc0⟩ := open_bytes Try.underlying24 Try.underlying5 (by kernel_rfl) (hval 0 24 v0 rfl rfl) h0
  obtain ⟨a1, rfl, rfl, rfl, w1⟩ := open_int Try.underlying5 (hval 1 5 v1 rfl rfl) h1
  obtain ⟨n1, rfl⟩ := Int.eq_ofNat_of_zero_le (show (0 : Int) ≤ a1 from by simp [Lit.wf, IntKind.min, IntKind.max, IntKind.signed, IntKind.bits] at w1; omega)
  clear hA0 hval0
  simp only [List.append_nil] at hW'
  refine (walk A0 l0 c0 n1 (by simp [Lit.wf, IntKind.min, IntKind.max, IntKind.signed, IntKind.bits] at w1; omega) W hb0 hc0).mono fun e W' ⟨he, hg⟩ => ?_
  subst he
  exact law_post (by kernel_rfl) rfl rfl (by kernel_rfl) (by kernel_rfl) Try.underlying4 hW' hg

/-- WHAT IS PROVED. -/
theorem proved : Rows.CrcOnceSaid :=
  OpenClaim.holds_of_wide 7 Try.f7 rfl rfl rfl rfl rfl rfl rfl ⟨rfl, rfl, rfl, rfl, rfl⟩ rfl rfl rfl rfl rfl (by kernel_rfl) Try.func7 (by kernel_rfl)
    (of_decide_eq_true (by kernel_rfl)) (by unfold Func.isWrapper; first | (rw [if_pos (by decide +kernel)]; kernel_rfl) | (rw [if_neg (by decide +kernel)]; exact ⟨rfl, rfl⟩))
    (fun os started H enc _ => lifted os started H enc)

end Go.Proofs.Ytideanaecmoimaa.LawOnce
