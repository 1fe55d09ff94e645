/-
  The law ConfLimits returns true: with as many records as the limit of a section says, a configuration is within limits, and with one more it is not. For every input: no condition. By the verifier.
-/
import Derived.Test.YthdagjlgfffpbaaGreatCLim
import Derived.Test.YthdagjlgfffpbaaGreatLCfg
import Derived.Test.YthdagjlgfffpbaaGreatRows
import Derived.ChangeMaps5
set_option linter.unusedVariables false
namespace Go.Proofs.YthdagjlgfffpbaaGreat.LawLimits
open Go.RowKit Go.ChangeShapes Go.WideShapes Go.ChangeAt

theorem walk (kk : Int) (hk0 : 0 ≤ kk) (hk1 : kk < 256) (w : World) : Calls Tryz.prog 3 #[.int .u8 kk] w fun e w' => e = .returned (.bool true) ∧ Below w.heap.size w w' := by
  have e := Int.tmod_eq_emod_of_nonneg (a := kk) (b := 6) hk0
  rcases (by omega : kk % 6 = 0 ∨ kk % 6 = 1 ∨ kk % 6 = 2 ∨ kk % 6 = 3 ∨ kk % 6 = 4 ∨ kk % 6 = 5) with h | h | h | h | h | h
  · exact LawLim.walk1 kk hk0 hk1 (by rw [e]; exact h) w
  · exact LawLim.walk2 kk hk0 hk1 (by rw [e]; exact h) w
  · exact LawLim.walk3 kk hk0 hk1 (by rw [e]; exact h) w
  · exact LawLim.walk4 kk hk0 hk1 (by rw [e]; exact h) w
  · exact LawLim.walk5 kk hk0 hk1 (by rw [e]; exact h) w
  · exact LawLim.walk6 kk hk0 hk1 (by rw [e]; exact h) w

theorem own : ownKnob Tryz.prog.godebug = none := by kernel_rfl

set_option maxRecDepth 100000 in
theorem lifted (os : Os) (started : os.Started) (H : Type) (enc : TypeId × Value → H) :
    ReturnsInHanded {} Tryz.checked os 3 .any (Rows.confLimitsSpec.pre6 enc Tryz.prog Tryz.f3 Rows.confLimitsRow.domain false) (Rows.confLimitsSpec.post enc Tryz.prog Tryz.f3 false true false false) := by
  refine returnsInHanded_of_change (C := Tryz.checked) own started (by kernel_rfl) Tryz.func3
    (ChangeSpec.witness6 (enc := enc) (C := Tryz.checked) false ⟨#[], #[.int .u8 0], []⟩ 8 (by kernel_rfl) (by kernel_rfl) (by kernel_rfl) (by kernel_rfl)) ?_
  intro W base args ds gs before hval0 hW hcnd _
  have hval : ∀ (j : Nat) t v, Tryz.f3.params[j]? = some t → args[j]? = some v → Value.okWide Tryz.prog W .any base t v := hval0
  have hW' := hW
  obtain ⟨p, q, hA0, hV, rfl, hfz, hnd⟩ := hW
  have hA : DataW.TrodAll enc Tryz.prog W 0 (fun _ => true) true Tryz.f3.params.toList args.toList ds p := hA0
  rw [Tryz.params3] at hA hval
  obtain ⟨v0, vs0, d0, ds0, p0, q0, hargs, rfl, rfl, h0, r0⟩ := trodAll_cons hA
  obtain ⟨rfl, rfl, rfl⟩ := trodAll_nil r0
  obtain rfl : args = #[v0] := by cases args; simp_all
  obtain ⟨rfl, rfl⟩ := trodVars_none hV
  obtain ⟨a0, rfl, rfl, rfl, w0⟩ := open_int Tryz.underlying5 (hval 0 5 v0 rfl rfl) h0
  have hb8 : 0 ≤ a0 ∧ a0 < 256 := by simp [Lit.wf, IntKind.min, IntKind.max, IntKind.signed, IntKind.bits] at w0; omega
  clear hA0 hval0
  simp only [List.append_nil] at hW'
  refine (walk a0 hb8.1 hb8.2 W).mono fun e W' ⟨he, hg⟩ => ?_
  subst he
  exact law_post (by kernel_rfl) rfl rfl (by kernel_rfl) (by kernel_rfl) Tryz.underlying4 hW' hg

/-- WHAT IS PROVED. -/
theorem proved : Rows.ConfLimitsSaid :=
  OpenClaim.holds_of_wide 3 Tryz.f3 rfl rfl rfl rfl rfl rfl rfl ⟨rfl, rfl, rfl, rfl, rfl⟩ rfl rfl rfl rfl rfl (by kernel_rfl) Tryz.func3 (by kernel_rfl)
    (of_decide_eq_true (by kernel_rfl)) (by unfold Func.isWrapper; first | (rw [if_pos (by decide +kernel)]; kernel_rfl) | (rw [if_neg (by decide +kernel)]; exact ⟨rfl, rfl⟩))
    (fun os started H enc _ => lifted os started H enc)

end Go.Proofs.YthdagjlgfffpbaaGreat.LawLimits
