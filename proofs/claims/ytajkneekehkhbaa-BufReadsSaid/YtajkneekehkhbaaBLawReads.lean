/-
  The law BufReads returns true: for all bytes and offsets the numbers are those of the reference, or do not exist, and the arguments are not changed. For every input: no condition. By the verifier.
-/
import Derived.Test.YtajkneekehkhbaaBAlive
import Derived.Test.YtajkneekehkhbaaRows
set_option linter.unusedVariables false
namespace Go.Proofs.Ytajkneekehkhbaa.LawReads
open Go.RowKit Go.ChangeShapes Go.WideShapes Go.ChangeAt

theorem walk_long (A : Option Addr) (L c : Nat) (x : Int) (h1 : 1000 < L) (w : World) :
    Calls Try.prog 3 #[.slice A L c, .int .i64 x] w fun e w' => e = .returned (.bool true) ∧ Below w.heap.size w w' := by
  have hq : (1000 : Int) < (L : Int) := by omega
  go_enter Try.func3, Try.ntmps3
  go_wp2_with fail
  refine (alive_ok _).mono ?_
  rintro e w1 ⟨rfl, hb1⟩
  go_wp2_with fail
  go_ret
  exact ⟨rfl, hb1⟩

set_option maxHeartbeats 2000000 in
set_option maxRecDepth 100000 in
theorem walk (A : Option Addr) (l : List Nat) (c : Nat) (x : Int) (w : World) (hl : Bys w A l) (hc : l.length ≤ c) (hx : I64 x) :
    Calls Try.prog 3 #[.slice A l.length c, .int .i64 x] w fun e w' => e = .returned (.bool true) ∧ Below w.heap.size w w' := by
  by_cases h1 : 1000 < l.length
  · exact walk_long A l.length c x h1 w
  · have hq : ¬ (1000 : Int) < (l.length : Int) := by omega
    have HV8 := Lib.hid (view8_ok A l c x w hl hc hx)
    have HR8 := Lib.hid (rnumber_ok A l c x 1 (by omega) w hl hc hx)
    have hl8 := numV_nonneg l x 1
    have hu8 := numV_lt hl.2.1 x 1
    have HV16 := Lib.hid (view16_ok A l c x w hl hc hx)
    have HR16 := Lib.hid (rnumber_ok A l c x 2 (by omega) w hl hc hx)
    have hl16 := numV_nonneg l x 2
    have hu16 := numV_lt hl.2.1 x 2
    have HV32 := Lib.hid (view32_ok A l c x w hl hc hx)
    have HR32 := Lib.hid (rnumber_ok A l c x 4 (by omega) w hl hc hx)
    have hl32 := numV_nonneg l x 4
    have hu32 := numV_lt hl.2.1 x 4
    have HV64 := Lib.hid (view64_ok A l c x w hl hc hx)
    have HR64 := Lib.hid (rnumber_ok A l c x 8 (by omega) w hl hc hx)
    have hl64 := numV_nonneg l x 8
    have hu64 := numV_lt hl.2.1 x 8
    generalize l.length = L at *
    clear h1 hc
    simp only [Nat.reducePow, Int.cast_ofNat_Int] at *
    generalize numV l x 1 = a8 at *
    generalize exB l x 1 = b8 at *
    generalize numV l x 2 = a16 at *
    generalize exB l x 2 = b16 at *
    generalize numV l x 4 = a32 at *
    generalize exB l x 4 = b32 at *
    generalize numV l x 8 = a64 at *
    generalize exB l x 8 = b64 at *
    clear hl hx hu64
    go_enter Try.func3, Try.ntmps3
    go_wp2_with fail
    refine HV8.out.mono ?_
    rintro e w' ⟨rfl, rfl⟩
    go_wp2_with fail
    refine HV16.out.mono ?_
    rintro e w' ⟨rfl, rfl⟩
    go_wp2_with fail
    refine HV32.out.mono ?_
    rintro e w' ⟨rfl, rfl⟩
    go_wp2_with fail
    refine HV64.out.mono ?_
    rintro e w' ⟨rfl, rfl⟩
    go_wp2_with fail
    refine HR8.out.mono ?_
    rintro e w' ⟨rfl, rfl⟩
    go_wp2_with fail
    refine HR16.out.mono ?_
    rintro e w' ⟨rfl, rfl⟩
    go_wp2_with fail
    refine HR32.out.mono ?_
    rintro e w' ⟨rfl, rfl⟩
    go_wp2_with fail
    refine HR64.out.mono ?_
    rintro e w' ⟨rfl, rfl⟩
    go_wp2_with fail
    refine (alive_ok _).mono ?_
    rintro e w1 ⟨rfl, hb1⟩
    go_wp2_with fail
    go_ret
    exact ⟨rfl, hb1⟩

theorem own : ownKnob Try.prog.godebug = none := by kernel_rfl

set_option maxRecDepth 100000 in
theorem lifted (os : Os) (started : os.Started) (H : Type) (enc : TypeId × Value → H) :
    ReturnsInHanded {} Try.checked os 3 .any (Rows.bufReadsSpec.pre6 enc Try.prog Try.f3 Rows.bufReadsRow.domain false) (Rows.bufReadsSpec.post enc Try.prog Try.f3 false true false false) := by
  refine returnsInHanded_of_change (C := Try.checked) own started (by kernel_rfl) Try.func3
    (ChangeSpec.witness6 (enc := enc) (C := Try.checked) false ⟨#[], #[.slice none 0 0, .int .i64 0], []⟩ 8 (by kernel_rfl) (by kernel_rfl) (by kernel_rfl) (by kernel_rfl)) ?_
  intro W base args ds gs before hval0 hW hcnd _
  have hval : ∀ (j : Nat) t v, Try.f3.params[j]? = some t → args[j]? = some v → Value.okWide Try.prog W .any base t v := hval0
  have hW' := hW
  obtain ⟨p, q, hA0, hV, rfl, hfz, hnd⟩ := hW
  have hA : DataW.TrodAll enc Try.prog W 0 (fun _ => true) true Try.f3.params.toList args.toList ds p := hA0
  rw [Try.params3] at hA hval
  obtain ⟨v0, vs0, d0, ds0, p0, q0, hargs, rfl, rfl, h0, r0⟩ := trodAll_cons hA
  obtain ⟨v1, vs1, d1, ds1, p1, q1, rfl, rfl, rfl, h1, r1⟩ := trodAll_cons r0
  obtain ⟨rfl, rfl, rfl⟩ := trodAll_nil r1
  obtain rfl : args = #[v0, v1] := by cases args; simp_all
  obtain ⟨rfl, rfl⟩ := trodVars_none hV
  obtain ⟨A0, l0, c0, rfl, hb0, hc0⟩ := open_bytes Try.underlying22 Try.underlying5 (by kernel_rfl) (hval 0 22 v0 rfl rfl) h0
  obtain ⟨a1, rfl, rfl, rfl, w1⟩ := open_int Try.underlying3 (hval 1 3 v1 rfl rfl) h1
  have hx : I64 a1 := by simp [Lit.wf, IntKind.min, IntKind.max, IntKind.signed, IntKind.bits] at w1; unfold I64; omega
  clear hA0 hval0
  simp only [List.append_nil] at hW'
  refine (walk A0 l0 c0 a1 W hb0 hc0 hx).mono fun e W' ⟨he, hg⟩ => ?_
  subst he
  exact law_post (by kernel_rfl) rfl rfl (by kernel_rfl) (by kernel_rfl) Try.underlying4 hW' hg

/-- WHAT IS PROVED. -/
theorem proved : Rows.BufReadsSaid :=
  OpenClaim.holds_of_wide 3 Try.f3 rfl rfl rfl rfl rfl rfl rfl ⟨rfl, rfl, rfl, rfl, rfl⟩ rfl rfl rfl rfl rfl (by kernel_rfl) Try.func3 (by kernel_rfl)
    (of_decide_eq_true (by kernel_rfl)) (by unfold Func.isWrapper; first | (rw [if_pos (by decide +kernel)]; kernel_rfl) | (rw [if_neg (by decide +kernel)]; exact ⟨rfl, rfl⟩))
    (fun os started H enc _ => lifted os started H enc)

end Go.Proofs.Ytajkneekehkhbaa.LawReads
