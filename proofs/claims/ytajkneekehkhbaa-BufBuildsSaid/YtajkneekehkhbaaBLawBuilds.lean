/-
  The law BufBuilds returns true: for all calls the results and the bytes are those of the reference, and the arguments are not changed. For every input: no condition. By the verifier.
-/
import Derived.Test.YtajkneekehkhbaaBDoAny
import Derived.Test.YtajkneekehkhbaaRows
set_option linter.unusedVariables false
namespace Go.Proofs.Ytajkneekehkhbaa.LawBuilds
open Go.RowKit Go.ChangeShapes Go.WideShapes Go.ChangeAt

theorem walk_long (A : Option Addr) (L c : Nat) (A2 : Option Addr) (L2 c2 : Nat) (h1 : 300 < L) (w : World) :
    Calls Try.prog 5 #[.slice A L c, .slice A2 L2 c2] w fun e w' => e = .returned (.bool true) ∧ Below w.heap.size w w' := by
  have hq : decide ((300 : Int) < (L : Int)) = true := by simp; omega
  go_enter Try.func5, Try.ntmps5
  go_wp2_with fail
  all_goals (refine (alive_ok _).mono ?_)
  all_goals rintro e w1 ⟨rfl, hb1⟩
  all_goals go_wp2_with fail
  all_goals go_ret
  all_goals exact ⟨rfl, hb1⟩

/-- The state at the head of the loop. -/
def Head (w wr : World) (B P : Nat) (k : Nat) : Prop := ∃ l g A c, Inv w.heap.size wr B P l l g A c ∧ (∀ a, A = some a → a.block < wr.heap.size) ∧ l.length ≤ 300 + 1000 * k ∧ Below w.heap.size w wr

set_option maxHeartbeats 4000000 in
set_option maxRecDepth 100000 in
theorem walk (A : Option Addr) (f : List Nat) (c : Nat) (A2 : Option Addr) (l : List OpV) (c2 : Nat) (w : World) (hf : Bys w A f) (hl : Ops w A2 l) :
    Calls Try.prog 5 #[.slice A f.length c, .slice A2 l.length c2] w fun e w' => e = .returned (.bool true) ∧ Below w.heap.size w w' := by
  by_cases h1 : 300 < f.length
  · exact walk_long A f.length c A2 l.length c2 h1 w
  have hq1 : ¬ (300 : Int) < (f.length : Int) := by omega
  have HF := Lib.hid hf
  have HL := Lib.hid hl
  have HFL : Hid (f.length ≤ 300) := Lib.hid (by omega)
  have hlm : (l.length : Int) ≤ 9223372036854775807 := by have := hl.2; unfold maxLen at this; omega
  clear hf hl h1
  go_enter Try.func5, Try.ntmps5
  go_wp2_with fail
  refine (few_ok A2 l c2 w HL.out).mono ?_
  rintro e w1 ⟨b, rfl, hb1, hfew⟩
  have HB1 := Lib.hid hb1
  have HFW := Lib.hid hfew
  clear hb1 hfew
  cases b with
  | false =>
    go_wp2_with fail
    refine (alive_ok _).mono ?_
    rintro e w2 ⟨rfl, hb2⟩
    have HB2 := Lib.hid (HB1.out.trans (hb2.mono HB1.out.size))
    clear hb2
    go_wp2_with fail
    go_ret
    exact ⟨rfl, HB2.out⟩
  | true =>
    have HSM := Lib.hid (HFW.out rfl)
    clear HFW
    go_wp2_with fail
    refine (new_ok A f c w1 (HF.out.below (Nat.le_refl _) HB1.out) (by have := HFL.out; omega)).mono ?_
    rintro e w2 ⟨B, g, rfl, hbld, hb2, hB, hg⟩
    have HB2 := Lib.hid (HB1.out.trans (hb2.mono HB1.out.size))
    have HN := Lib.hid (And.intro hbld (And.intro (Nat.le_trans HB1.out.size hB) (fun k hk => Nat.le_trans HB1.out.size (hg k hk))))
    clear hbld hb2 hB hg
    have HO := Lib.hid (own_lit w2)
    have hA1 : Below w2.heap.size w2 (w2.alloc (.cells #[] 5)) := (Below.refl _ _).alloc (Nat.le_refl _) _
    have HBF := Lib.hid ((HF.out.below (Nat.le_refl _) HB2.out).below (Nat.le_refl _) hA1)
    have hsz : w2.heap.size ≤ (w2.alloc (.cells #[] 5)).heap.size := by simp
    go_wp2_with ((with_reducible refine wpList_append_t 22 Try.underlying22 rfl (.tmp 22) (.tmp 23) rfl w2.heap.size (.slice (some ⟨w2.heap.size, 0, none⟩) 0 0) [] rfl HO.out A f f.length c rfl rfl HBF.out (by have := HFL.out; simp; omega) hsz ?_); intro v1 w3 ho1 hg1 hf1; have hb1 := grown_below hA1 HO.out hg1 hsz; rw [List.nil_append] at ho1; obtain ⟨A1, c1, rfl, hy1, hc1, ha1⟩ := ho1.shape HBF.out.2.1 HBF.out.2.2; have HW3 := Lib.hid (And.intro hy1 (And.intro hc1 (And.intro hb1 ha1))); clear ho1 hg1 hf1 hb1 hy1 hc1 ha1)
    have HH0 : Hid (Head w (w3.alloc (.cells #[.slice A1 f.length c1] 22)) B w3.heap.size 0) := by
      obtain ⟨hy, hc, hb3, ha⟩ := HW3.out
      have hb4 : Below w3.heap.size w3 (w3.alloc (.cells #[.slice A1 f.length c1] 22)) := (Below.refl _ _).alloc (Nat.le_refl _) _
      have hb24 := hb3.trans (hb4.mono hb3.size)
      have hlt := HN.out.1.lt
      have hs := hb3.size
      have hs2 := HB2.out.size
      refine Lib.hid ⟨f, g, A1, c1, ⟨HN.out.1.below hb24, heap_alloc_new w3 _, hy.below (Nat.le_refl _) hb4, hc, fun a haa => ⟨?_, ?_⟩, ?_, HN.out.2.1, by omega, HN.out.2.2, Nat.le_trans hs2 hb24.size⟩, fun a haa => Nat.lt_of_lt_of_le (ha a haa).1 hb4.size, by have := HFL.out; omega, HB2.out.trans (hb24.mono hs2)⟩
      · have h2 := (ha a haa).2
        rintro (e | e)
        · have := hlt.1; omega
        · have := hlt.2 _ e; omega
      · have := (ha a haa).1; omega
      · rintro (e | e)
        · have := hlt.1; omega
        · have := hlt.2 _ e; omega
    obtain ⟨P, hP⟩ : ∃ P, P = w3.heap.size := ⟨_, rfl⟩
    rw [← hP] at HH0 ⊢
    clear hP HW3 HBF hA1 hsz HO HN HB1
    go_loopw [27] (fun i wr => ∃ k : Nat, k ≤ l.length ∧ i = .int .i64 (k : Int) ∧ Hid (Head w wr B P k)) (fun i _ => l.length - (intOf i).toNat)
    case atStart => exact ⟨0, by omega, rfl, HH0⟩
    case round =>
      obtain ⟨k, hk, rfl, hh⟩ := hrel
      obtain ⟨m, g1, A3, c3, hI, hA3, hml, hbw⟩ := hh.out
      by_cases hlt : k < l.length
      · obtain ⟨b, fo, Ad, cd, rfl, ho⟩ := HL.out.1 k hlt
        have hor := ho.below hbw
        have hkl : (k : Int) < (l.length : Int) := by omega
        have d0 := hor.c0
        have d1 := hor.c1
        have d2 := hor.c2
        have d3 := hor.c3
        have hk60 := HSM.out.1
        have HDO : Hid (∀ W, Below wr.heap.size wr W → Calls Try.prog 21 #[.pointer (some ⟨B, 0, none⟩), .pointer (some ⟨P, 0, none⟩), .agg #[.int .i64 l[k].k, .int .i64 l[k].n, .int .u64 (l[k].x : Int), .slice Ad l[k].d.length cd]] W fun e w' => DoRes w.heap.size W B P m e w') := Lib.hid fun W hW =>
          doAny_ok w.heap.size B P m g1 A3 c3 l[k] Ad cd W (hI.below hW) (fun a ha => Nat.lt_of_lt_of_le (hA3 a ha) hW.size) (by omega) (hor.bys.below (Nat.le_refl _) hW) ho.ha (HSM.out.2 k hlt) ho.hk ho.hn ho.hx
        have HNX : Hid (∀ W w', Below wr.heap.size wr W → DoRes w.heap.size W B P m (.returned (.bool true)) w' → ∃ l' g' A' c', Inv w.heap.size w' B P l' l' g' A' c' ∧ l'.length ≤ 400000 ∧ w'.cell? ⟨P, 0, none⟩ = some (.slice A' l'.length c') ∧ Hid (∀ W2, Below w'.heap.size w' W2 → Head w W2 B P (k + 1))) := Lib.hid fun W w' hW hd => by
          obtain ⟨-, l', g', A', c', hI', hA', hl', hb'⟩ := hd
          refine ⟨l', g', A', c', hI', by omega, hI'.row.cell (i := 0) (by omega), Lib.hid fun W2 hW2 => ⟨l', g', A', c', hI'.below hW2, fun a ha => Nat.lt_of_lt_of_le (hA' a ha) hW2.size, by omega, ?_⟩⟩
          exact ((hbw.trans (hW.mono hbw.size)).trans hb').trans (hW2.mono hI'.low)
        have HBA : Hid (∀ ob, Below wr.heap.size wr (wr.alloc ob)) := Lib.hid fun ob => (Below.refl _ _).alloc (Nat.le_refl _) _
        generalize l[k] = o at *
        clear hI hA3 hml hbw ho hor hh
        go_wp2_with fail
        go_region_with (first | (go_at_call 21; (refine (HDO.out _ (HBA.out _).drew).mono ?_); rintro e w5 hd5; have he5 := hd5.1; subst he5; obtain ⟨l5, g5, A5, c5, hI5, hl5, hP5, HH5⟩ := HNX.out _ w5 (HBA.out _).drew hd5; have HI5 := Lib.hid (And.intro hI5 hl5); clear hI5 hl5 hd5)
                              | (go_at_call 22; (refine (len_ok B g5 l5 _ HI5.out.1.bld (by have := HI5.out.2; omega)).mono ?_); rintro e w6 ⟨rfl, rfl⟩))
        all_goals go_wp2_with fail
        all_goals go_roundw
        all_goals (first
          | (case rel => exact ⟨k + 1, by omega, by go_num, Lib.hid (HH5.out _ (by first | exact Below.refl _ _ | exact (Below.refl _ _).drew | exact below_drewN (Below.refl _ _) _))⟩)
          | (case measure => simp [intOf]; omega))
        all_goals (simp [intOf]; omega)
      · have hkl : ¬ (k : Int) < (l.length : Int) := by omega
        have hk60 := HSM.out.1
        have HI := Lib.hid (And.intro hI (And.intro hbw (show m.length ≤ 100000 by omega)))
        have hP := hI.row.cell (i := 0) (by omega)
        replace hP : wr.cell? ⟨P, 0, none⟩ = some (.slice A3 m.length c3) := hP
        have HAL : Hid (∀ w', Below wr.heap.size wr w' → Hid (Below wr.heap.size wr w') ∧ w'.cell? ⟨P, 0, none⟩ = some (.slice A3 m.length c3)) := Lib.hid fun w' hW => ⟨Lib.hid hW, (hI.below hW).row.cell (i := 0) (by omega)⟩
        have HEQ : Hid (∀ (W : World) (A6 : Option Addr) (c6 : Nat), Below wr.heap.size wr W → Bys W A6 m → Calls Try.prog 18 #[.slice A6 m.length c6, .slice A3 m.length c3] W fun e w' => e = .returned (.bool true) ∧ Below w.heap.size w w') := Lib.hid fun W A6 c6 hW hy => by
          have h0 := equal_ok A6 A3 m m c6 c3 W hy (hI.below hW).bys
          rw [decide_eq_true rfl] at h0
          refine h0.mono ?_
          rintro e w' ⟨he, hb⟩
          have h5 := hbw.trans (hW.mono hbw.size)
          exact ⟨he, h5.trans (hb.mono h5.size)⟩
        clear hI hA3 hml hbw hh
        go_wp2_with fail
        go_region_with (first | (go_at_call 8; (refine (alive_ok _).mono ?_); rintro e w5 ⟨rfl, hb5⟩; obtain ⟨HB5, hP5⟩ := HAL.out w5 ((Below.refl wr.heap.size wr).drew.trans hb5); clear hb5)
                              | (go_at_call 23; (refine (bytes_ok B g1 m _ (HI.out.1.below HB5.out).bld HI.out.2.2).mono ?_); rintro e w6 ⟨v6, rfl, ho6, hb6⟩; obtain ⟨A6, c6, hv6, hy6, -⟩ := ho6.slice HI.out.1.bys.2.1 HI.out.1.bys.2.2; subst hv6; obtain ⟨HB6, hP6⟩ := HAL.out w6 (HB5.out.trans (hb6.mono HB5.out.size)); have HY6 := Lib.hid hy6; clear ho6 hb6 hy6)
                              | (go_at_call 18; (refine (HEQ.out w6 A6 c6 HB6.out HY6.out).mono ?_); rintro e w7 ⟨rfl, hb7⟩))
        all_goals go_wp2_with fail
        all_goals go_ret
        all_goals exact ⟨rfl, by assumption⟩

theorem own : ownKnob Try.prog.godebug = none := by kernel_rfl

set_option maxRecDepth 100000 in
theorem lifted (os : Os) (started : os.Started) (H : Type) (enc : TypeId × Value → H) :
    ReturnsInHanded {} Try.checked os 5 .any (Rows.bufBuildsSpec.pre6 enc Try.prog Try.f5 Rows.bufBuildsRow.domain false) (Rows.bufBuildsSpec.post enc Try.prog Try.f5 false true false false) := by
  refine returnsInHanded_of_change (C := Try.checked) own started (by kernel_rfl) Try.func5
    (ChangeSpec.witness6 (enc := enc) (C := Try.checked) false ⟨#[], #[.slice none 0 0, .slice none 0 0], []⟩ 8 (by kernel_rfl) (by kernel_rfl) (by kernel_rfl) (by kernel_rfl)) ?_
  intro W base args ds gs before hval0 hW hcnd _
  have hval : ∀ (j : Nat) t v, Try.f5.params[j]? = some t → args[j]? = some v → Value.okWide Try.prog W .any base t v := hval0
  have hW' := hW
  obtain ⟨p, q, hA0, hV, rfl, hfz, hnd⟩ := hW
  have hA : DataW.TrodAll enc Try.prog W 0 (fun _ => true) true Try.f5.params.toList args.toList ds p := hA0
  rw [Try.params5] at hA hval
  obtain ⟨v0, vs0, d0, ds0, p0, q0, hargs, rfl, rfl, h0, r0⟩ := trodAll_cons hA
  obtain ⟨v1, vs1, d1, ds1, p1, q1, rfl, rfl, rfl, h1, r1⟩ := trodAll_cons r0
  obtain ⟨rfl, rfl, rfl⟩ := trodAll_nil r1
  obtain rfl : args = #[v0, v1] := by cases args; simp_all
  obtain ⟨rfl, rfl⟩ := trodVars_none hV
  obtain ⟨A0, l0, c0, rfl, hb0, hc0⟩ := open_bytes Try.underlying22 Try.underlying5 (by kernel_rfl) (hval 0 22 v0 rfl rfl) h0
  obtain ⟨A1, l1, c1, rfl, hb1⟩ := open_ops (hval 1 44 v1 rfl rfl) h1
  clear hA0 hval0
  simp only [List.append_nil] at hW'
  refine (walk A0 l0 c0 A1 l1 c1 W hb0 hb1).mono fun e W' ⟨he, hg⟩ => ?_
  subst he
  exact law_post (by kernel_rfl) rfl rfl (by kernel_rfl) (by kernel_rfl) Try.underlying4 hW' hg

/-- WHAT IS PROVED. -/
theorem proved : Rows.BufBuildsSaid :=
  OpenClaim.holds_of_wide 5 Try.f5 rfl rfl rfl rfl rfl rfl rfl ⟨rfl, rfl, rfl, rfl, rfl⟩ rfl rfl rfl rfl rfl (by kernel_rfl) Try.func5 (by kernel_rfl)
    (of_decide_eq_true (by kernel_rfl)) (by unfold Func.isWrapper; first | (rw [if_pos (by decide +kernel)]; kernel_rfl) | (rw [if_neg (by decide +kernel)]; exact ⟨rfl, rfl⟩))
    (fun os started H enc _ => lifted os started H enc)

end Go.Proofs.Ytajkneekehkhbaa.LawBuilds
