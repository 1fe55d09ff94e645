/-
  The law LexTokens returns true: for every text, Tokens returns the tokens of the reference, or its fault. For every input: no condition. By the verifier.
-/
import Derived.Test.YtmgohahjocdeeaaDoorTAlv
import Derived.Test.YtmgohahjocdeeaaDoorTSam
import Derived.Test.YtmgohahjocdeeaaDoorTJoin
import Derived.Test.YtmgohahjocdeeaaDoorLaid
import Derived.Test.YtmgohahjocdeeaaDoorCards
import Derived.Test.YtmgohahjocdeeaaDoorTie
import Derived.SevenTiedAt
import Derived.ChangeMaps5
set_option linter.unusedVariables false
namespace Go.Proofs.YtmgohahjocdeeaaDoor.LawTokens
open Go.RowKit Go.ChangeShapes Go.WideShapes Go.ChangeAt

theorem walk_long (s : ByteArray) (h1 : (3000 : Int) < (s.size : Int)) (w : World) (hE : Env w) :
    Calls Tryd.prog 3 #[.string s] w fun e w' => e = .returned (.bool true) ∧ Below w.heap.size w w' := by
  have HE := Lib.hid hE
  clear hE
  go_enter Tryd.func3, Tryd.ntmps3
  go_wp2_with fail
  refine (alive_ok _ HE.out).mono ?_
  rintro e w1 ⟨rfl, hb1⟩
  go_wp2_with fail
  go_ret
  exact ⟨rfl, hb1⟩

set_option maxHeartbeats 4000000 in
set_option maxRecDepth 20000 in
theorem walk (s : ByteArray) (w : World) (hE : Env w) :
    Calls Tryd.prog 3 #[.string s] w fun e w' => e = .returned (.bool true) ∧ Below w.heap.size w w' := by
  by_cases h1 : (3000 : Int) < (s.size : Int)
  · exact walk_long s h1 w hE
  · have hs := Str.of s
    have hsz := hs.size
    have hln : (tokensV numV (bytesOf s)).1.length ≤ 100000 := by have := toks_len numV ((bytesOf s).length + 1) (bytesOf s) (1, 1); unfold tokensV; omega
    have HP := Lib.hid (ptokens_ok s _ hs (by omega) hln w hE)
    have HR := Lib.hid (fun W => rtokens_ok s _ hs (by omega) hln W)
    have HE := Lib.hid hE
    generalize tokensV numV (bytesOf s) = r at *
    obtain ⟨ts, o⟩ := r
    have HLN : Hid (ts.length ≤ 100000) := Lib.hid hln
    clear hs hsz hE hln
    unfold TkP at HP
    unfold RtP at HR
    cases o with
    | none =>
      go_enter Tryd.func3, Tryd.ntmps3
      go_wp2_with fail
      refine HP.out.mono ?_
      rintro e w1 ⟨hb1, hn1, hf1⟩
      obtain ⟨A, c, rfl, hoo⟩ := hn1 (by trivial)
      obtain ⟨A0, c0, hv, ho1, -⟩ := hoo.cells
      injection hv with hA hn hc
      subst hA
      clear hoo hn
      obtain ⟨X, hX⟩ : ∃ X, X = w1.alloc (.cells #[.int .i64 0, .int .i64 0, .int .i64 0] 26) := ⟨_, rfl⟩
      have hXb : Below w1.heap.size w1 X := by rw [hX]; exact (Below.refl _ _).alloc (Nat.le_refl _) _
      have hXr : X.heap[w1.heap.size]? = some (.cells #[.int .i64 0, .int .i64 0, .int .i64 0] 26 (0, 0)) := by rw [hX]; exact heap_alloc_new _ _
      have HX := Lib.hid hX.symm
      have HX1 := Lib.hid (And.intro hXr (And.intro (ho1.below (Nat.le_refl _) hXb) (hb1.trans (hXb.mono hb1.size))))
      clear hX hXb hXr ho1 hb1 hn1 hf1
      unfold faultA
      go_wp2_with fail
      rw [HX.out]
      refine (HR.out X).mono ?_
      rintro e w2 ⟨hb2, hn2, hf2⟩
      obtain ⟨A2, c2, rfl, hoo⟩ := hn2 (by trivial)
      obtain ⟨A3, c3, hv, ho2, -⟩ := hoo.cells
      injection hv with hA hn hc
      subst hA
      clear hoo hn
      have HX2 := Lib.hid (And.intro (show w2.heap[w1.heap.size]? = some (.cells #[.int .i64 0, .int .i64 0, .int .i64 0] 26 (0, 0)) by rw [hb2.block _ (heap_lt HX1.out.1)]; exact HX1.out.1) (And.intro (HX1.out.2.1.below (Nat.le_refl _) hb2) (And.intro ho2 (HX1.out.2.2.trans (hb2.mono HX1.out.2.2.size)))))
      clear hb2 ho2 hn2 hf2
      go_wp2_with fail
      refine (alive_ok _ (HE.out.below HX2.out.2.2.2)).mono ?_
      rintro e w3 ⟨rfl, hb3⟩
      have HX3 := Lib.hid (And.intro (show w3.heap[w1.heap.size]? = some (.cells #[.int .i64 0, .int .i64 0, .int .i64 0] 26 (0, 0)) by rw [hb3.block _ (heap_lt HX2.out.1)]; exact HX2.out.1) (And.intro (HX2.out.2.1.below (Nat.le_refl _) hb3) (And.intro (HX2.out.2.2.1.below (Nat.le_refl _) hb3) (HX2.out.2.2.2.trans (hb3.mono HX2.out.2.2.2.size)))))
      clear hb3
      go_wp2_with fail
      refine (same_ok ts HLN.out _ _ _ _ w3 HX3.out.2.1 HX3.out.2.2.1).mono ?_
      rintro e w4 ⟨rfl, hb4⟩
      have r4 : w4.heap[w1.heap.size]? = some (.cells #[.int .i64 0, .int .i64 0, .int .i64 0] 26 (0, 0)) := by rw [hb4.block _ (heap_lt HX3.out.1)]; exact HX3.out.1
      have HB4 := Lib.hid (HX3.out.2.2.2.trans (hb4.mono HX3.out.2.2.2.size))
      have x0 := cell_of_row _ _ 0 _ _ _ r4
      have x1 := cell_of_row _ _ 1 _ _ _ r4
      have x2 := cell_of_row _ _ 2 _ _ _ r4
      simp only [List.getElem?_toArray, List.getElem?_cons_zero, List.getElem?_cons_succ] at x0 x1 x2
      clear r4 hb4
      go_wp2_with fail
      go_ret
      exact ⟨rfl, HB4.out⟩
    | some q =>
      obtain ⟨fc, fa, fb⟩ := q
      go_enter Tryd.func3, Tryd.ntmps3
      go_wp2_with fail
      refine HP.out.mono ?_
      rintro e w1 ⟨hb1, hn1, hf1⟩
      obtain rfl := hf1 fc fa fb rfl
      have ho1 : Cells w1 none (([] : List Tok).flatMap tokV) := Cells.nil _ _
      obtain ⟨X, hX⟩ : ∃ X, X = w1.alloc (.cells #[.int .i64 (fc : Int), .int .i64 (fa : Int), .int .i64 (fb : Int)] 26) := ⟨_, rfl⟩
      have hXb : Below w1.heap.size w1 X := by rw [hX]; exact (Below.refl _ _).alloc (Nat.le_refl _) _
      have hXr : X.heap[w1.heap.size]? = some (.cells #[.int .i64 (fc : Int), .int .i64 (fa : Int), .int .i64 (fb : Int)] 26 (0, 0)) := by rw [hX]; exact heap_alloc_new _ _
      have HX := Lib.hid hX.symm
      have HX1 := Lib.hid (And.intro hXr (And.intro (ho1.below (Nat.le_refl _) hXb) (hb1.trans (hXb.mono hb1.size))))
      clear hX hXb hXr ho1 hb1 hn1 hf1
      unfold faultA
      go_wp2_with fail
      rw [HX.out]
      refine (HR.out X).mono ?_
      rintro e w2 ⟨hb2, hn2, hf2⟩
      obtain rfl := hf2 fc fa fb rfl
      have ho2 : Cells w2 none (([] : List Tok).flatMap tokV) := Cells.nil _ _
      have HX2 := Lib.hid (And.intro (show w2.heap[w1.heap.size]? = some (.cells #[.int .i64 (fc : Int), .int .i64 (fa : Int), .int .i64 (fb : Int)] 26 (0, 0)) by rw [hb2.block _ (heap_lt HX1.out.1)]; exact HX1.out.1) (And.intro (HX1.out.2.1.below (Nat.le_refl _) hb2) (And.intro ho2 (HX1.out.2.2.trans (hb2.mono HX1.out.2.2.size)))))
      clear hb2 ho2 hn2 hf2
      go_wp2_with fail
      refine (alive_ok _ (HE.out.below HX2.out.2.2.2)).mono ?_
      rintro e w3 ⟨rfl, hb3⟩
      have HX3 := Lib.hid (And.intro (show w3.heap[w1.heap.size]? = some (.cells #[.int .i64 (fc : Int), .int .i64 (fa : Int), .int .i64 (fb : Int)] 26 (0, 0)) by rw [hb3.block _ (heap_lt HX2.out.1)]; exact HX2.out.1) (And.intro (HX2.out.2.1.below (Nat.le_refl _) hb3) (And.intro (HX2.out.2.2.1.below (Nat.le_refl _) hb3) (HX2.out.2.2.2.trans (hb3.mono HX2.out.2.2.2.size)))))
      clear hb3
      go_wp2_with fail
      refine (same_ok [] (Nat.zero_le _) _ _ _ _ w3 HX3.out.2.1 HX3.out.2.2.1).mono ?_
      rintro e w4 ⟨rfl, hb4⟩
      have r4 : w4.heap[w1.heap.size]? = some (.cells #[.int .i64 (fc : Int), .int .i64 (fa : Int), .int .i64 (fb : Int)] 26 (0, 0)) := by rw [hb4.block _ (heap_lt HX3.out.1)]; exact HX3.out.1
      have HB4 := Lib.hid (HX3.out.2.2.2.trans (hb4.mono HX3.out.2.2.2.size))
      have x0 := cell_of_row _ _ 0 _ _ _ r4
      have x1 := cell_of_row _ _ 1 _ _ _ r4
      have x2 := cell_of_row _ _ 2 _ _ _ r4
      simp only [List.getElem?_toArray, List.getElem?_cons_zero, List.getElem?_cons_succ] at x0 x1 x2
      clear r4 hb4
      go_wp2_with fail
      go_ret
      exact ⟨rfl, HB4.out⟩

set_option maxRecDepth 100000 in
theorem lifted (os : Os) (started : os.Started) (H : Type) (enc : TypeId × Value → H) :
    ReturnsInHanded {} Tryd.checked os 3 .any (fun w args => (Rows.lexTokensSpec.pre enc Tryd.prog Tryd.f3 [] false w args ∧ laidMetH Tryd.prog laid1 w) ∧ sizedMet enc Tryd.prog Tryd.f3 (OpenSpec.ofChange Rows.lexTokensSpec) false w args)
      (Rows.lexTokensSpec.post enc Tryd.prog Tryd.f3 false true false false) := by
  refine returnsInHanded_of_change_and (C := Tryd.checked) (X := fun w _ => laidMetH Tryd.prog laid1 w) (fun _ _ _ hh h => h.of_heap hh) own started (by kernel_rfl) Tryd.func3
    (ChangeSpec.witness_shaped (enc := enc) (C := Tryd.checked) (os := os) (X := fun w _ => laidMetH Tryd.prog laid1 w) false (World.doorLaid Tryd.prog 62 os) #[.string ⟨#[]⟩] 8 rfl (World.shaped_of_RefB (by kernel_rfl) (by kernel_rfl)) (by kernel_rfl) (by kernel_rfl) (by kernel_rfl) (door_met os _)) ?_
  intro W base args ds gs before hval0 hW _ _ hL _
  have hval : ∀ (j : Nat) t v, Tryd.f3.params[j]? = some t → args[j]? = some v → Value.okWide Tryd.prog W .any base t v := hval0
  have hW' := hW
  obtain ⟨p, q, hA0, hV, rfl, hfz, hnd⟩ := hW
  have hA : DataW.TrodAll enc Tryd.prog W 0 (fun _ => true) true Tryd.f3.params.toList args.toList ds p := hA0
  rw [Tryd.params3] at hA hval
  obtain ⟨v0, vs0, d0, ds0, p0, q0, hargs, rfl, rfl, h0, r0⟩ := trodAll_cons hA
  obtain ⟨rfl, rfl, rfl⟩ := trodAll_nil r0
  obtain rfl : args = #[v0] := by cases args; simp_all
  obtain ⟨rfl, rfl⟩ := trodVars_none hV
  obtain ⟨s0, rfl, rfl, rfl, ws0⟩ := ChangeMaps.open_string Tryd.underlying9 (hval 0 9 v0 rfl rfl) h0
  clear hA0 hval0
  simp only [List.append_nil] at hW'
  refine (walk s0 W (env_of_laid hL)).mono fun e W' ⟨he, hg⟩ => ?_
  subst he
  exact law_post (by kernel_rfl) rfl rfl (by kernel_rfl) (by kernel_rfl) Tryd.underlying4 hW' hg

theorem over : Rows.LexTokensSaid :=
  OpenClaim.holds_of_wide 3 Tryd.f3 rfl rfl rfl rfl rfl rfl rfl ⟨rfl, rfl, rfl, rfl, rfl⟩ rfl rfl rfl rfl rfl (by kernel_rfl) Tryd.func3 (by kernel_rfl)
    (of_decide_eq_true (by kernel_rfl)) (by unfold Func.isWrapper; first | (rw [if_pos (by decide +kernel)]; kernel_rfl) | (rw [if_neg (by decide +kernel)]; exact ⟨rfl, rfl⟩))
    (fun os started H enc _ => lifted os started H enc)

theorem proved : Rows.LexTokensCardSaid :=
  Claim7.holds_tied_plain_at .later [] Rows.lexTokensCard.laidKinds true Rows.lexTokensCard.stood.harness Rows.lexTokensCard.stood.looks
    over (fun _ h => by cases h) (by kernel_rfl) (fun _ h => by cases h) lexTokens_row_tie rfl ⟨rfl, rfl⟩ (by kernel_rfl) rfl
    (fun f fn hf hfn => by
      obtain rfl : f = 3 := Option.some.inj ((show Tryd.prog.funcNamed "fenestra/fenestralaw06.LexTokens" = some 3 by kernel_rfl).symm.trans hf) |>.symm
      obtain rfl : fn = Tryd.f3 := (Option.some.inj (Tryd.func3.symm.trans hfn)).symm
      exact ⟨by kernel_rfl, fun j t ht => by
        rw [Tryd.params3] at ht
        have hm : t ∈ [9] := by simpa using Array.mem_of_getElem? ht
        have hall : ([9].all fun u => !Tryd.prog.wantsStandIn u) = true := by kernel_rfl
        exact (show Tryd.prog.wantsStandIn t = false by simpa using List.all_eq_true.1 hall t hm)⟩)
    (by kernel_rfl)

end Go.Proofs.YtmgohahjocdeeaaDoor.LawTokens
