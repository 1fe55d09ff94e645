/-
  The law LexNext returns true: at every offset of every text, Next returns the token of the reference and the offset after it, or the fault. For every input: no condition. By the verifier.
-/
import Derived.Test.YtmgohahjocdeeaaDoorTAlv
import Derived.Test.YtmgohahjocdeeaaDoorTRNx
import Derived.Test.YtmgohahjocdeeaaDoorTPNx
import Derived.Test.YtmgohahjocdeeaaDoorLaid
import Derived.Test.YtmgohahjocdeeaaDoorCards
import Derived.Test.YtmgohahjocdeeaaDoorTie
import Derived.SevenTiedAt
import Derived.ChangeMaps5
set_option linter.unusedVariables false
namespace Go.Proofs.YtmgohahjocdeeaaDoor.LawNext
open Go.RowKit Go.ChangeShapes Go.WideShapes Go.ChangeAt

theorem walk_long (s : ByteArray) (x : Int) (h1 : (2000 : Int) < (s.size : Int)) (w : World) (hE : Env w) :
    Calls Tryd.prog 4 #[.string s, .int .u16 x] w fun e w' => e = .returned (.bool true) ∧ Below w.heap.size w w' := by
  have HE := Lib.hid hE
  clear hE
  go_enter Tryd.func4, Tryd.ntmps4
  go_wp2_with fail
  refine (alive_ok _ HE.out).mono ?_
  rintro e w1 ⟨rfl, hb1⟩
  go_wp2_with fail
  go_ret
  exact ⟨rfl, hb1⟩

set_option maxHeartbeats 4000000 in
set_option maxRecDepth 20000 in
theorem walk (s : ByteArray) (x : Int) (hx0 : 0 ≤ x) (hx1 : x ≤ 65535) (w : World) (hE : Env w) :
    Calls Tryd.prog 4 #[.string s, .int .u16 x] w fun e w' => e = .returned (.bool true) ∧ Below w.heap.size w w' := by
  by_cases h1 : (2000 : Int) < (s.size : Int)
  · exact walk_long s x h1 w hE
  · have hs := Str.of s
    have hsz := hs.size
    have HE := Lib.hid hE
    obtain ⟨k, hk⟩ : ∃ k : Nat, (k : Int) = x % ((s.size : Int) + 1) := ⟨(x % ((s.size : Int) + 1)).toNat, by have := Int.emod_nonneg x (show (s.size : Int) + 1 ≠ 0 by omega); omega⟩
    have hkl : k ≤ (bytesOf s).length := by have := Int.emod_lt_of_pos x (show (0 : Int) < (s.size : Int) + 1 by omega); omega
    have HP := Lib.hid (pplace_ok s _ hs (by omega) k hkl)
    have HN := Lib.hid (fun W (hW : Env W) => pnext_ok s _ hs (by omega) k hkl W hW)
    have HR := Lib.hid (rnext_ok s _ hs (by omega) k hkl)
    generalize atV (bytesOf s) k = q at *
    generalize readL numV ((bytesOf s).drop q) = R at *
    obtain ⟨rc, rk, rt, rv, rl⟩ := R
    unfold PnP at HN
    unfold RnP at HR
    obtain ⟨p, hp⟩ : ∃ p, p = placeV (bytesOf s) k := ⟨_, rfl⟩
    obtain ⟨p2, hp2⟩ : ∃ p2, p2 = placeV (bytesOf s) q := ⟨_, rfl⟩
    rw [← hp] at HP HN
    rw [← hp2] at HN HR
    obtain ⟨p0a, p0b⟩ := p
    obtain ⟨pa, pb⟩ := p2
    have ht : tokA ⟨rk, rt, rv, pa, pb⟩ = #[.int .i64 (rk : Int), .string (strB rt), .int .u64 rv, .int .i64 (pa : Int), .int .i64 (pb : Int)] := rfl
    have hmod : x.tmod ((s.size : Int) + 1) = (k : Int) := by rw [Int.tmod_eq_emod_of_nonneg hx0, hk]
    generalize hz : (s.size : Int) = z at *
    have hz0 : 0 ≤ z := by omega
    have hz1 : z ≤ 2000 := by omega
    have hk2 : (k : Int) ≤ 2000 := by omega
    have hmod2 : x % (z + 1) = (k : Int) := hk.symm
    clear hs hsz hE hp hp2 hkl hk
    by_cases h0 : rc = 0
    · subst h0
      have HN0 : Hid (∀ W, Env W → Calls Tryd.prog 14 #[.string s, .int .i64 (k : Int), .int .i64 (p0a : Int), .int .i64 (p0b : Int)] W fun e w' => e = .returned (.tuple #[.agg #[.int .i64 (rk : Int), .string (strB rt), .int .u64 rv, .int .i64 (pa : Int), .int .i64 (pb : Int)], .int .i64 ((q + rl : Nat) : Int), .agg #[.int .i64 0, .int .i64 0, .int .i64 0]]) ∧ Below W.heap.size W w') := Lib.hid fun W hW => (HN.out W hW).mono fun e w' h => ⟨h.1 rfl, h.2.2⟩
      have HR0 : Hid (∀ W, Calls Tryd.prog 15 #[.string s, .int .i64 (k : Int)] W fun e w' => e = .returned (.tuple #[.agg #[.int .i64 (rk : Int), .string (strB rt), .int .u64 rv, .int .i64 (pa : Int), .int .i64 (pb : Int)], .int .i64 ((q + rl : Nat) : Int), .int .i64 0]) ∧ Below W.heap.size W w') := Lib.hid fun W => (HR.out W).mono fun e w' h => ⟨h.1, h.2⟩
      generalize strB rt = tv at *
      generalize ((q + rl : Nat) : Int) = N at *
      clear HN HR ht
      go_enter Tryd.func4, Tryd.ntmps4
      go_wp2_with (first
        | (go_at_call 13; refine (HP.out _).mono ?_; rintro e w1 ⟨rfl, hb1⟩; have HB1 := Lib.hid hb1; clear hb1)
        | (go_at_call 14; refine (HN0.out _ (HE.out.below HB1.out)).mono ?_; rintro e w2 ⟨rfl, hb2⟩; have HB2 := Lib.hid (HB1.out.trans (hb2.mono HB1.out.size)); clear hb2))
      obtain ⟨X, hX⟩ : ∃ X, X = (w2.alloc (.cells #[.int .i64 (rk : Int), .string tv, .int .u64 rv, .int .i64 (pa : Int), .int .i64 (pb : Int)] 39)).alloc (.cells #[.int .i64 0, .int .i64 0, .int .i64 0] 26) := ⟨_, rfl⟩
      have HX := Lib.hid hX.symm
      have hX1 : X.heap[w2.heap.size]? = some (.cells #[.int .i64 (rk : Int), .string tv, .int .u64 rv, .int .i64 (pa : Int), .int .i64 (pb : Int)] 39 (0, 0)) := by rw [hX]; exact rw_row _ _ _ _ _
      have hX2 : X.heap[w2.heap.size + 1]? = some (.cells #[.int .i64 0, .int .i64 0, .int .i64 0] 26 (0, 0)) := by rw [hX]; exact rw_two _ _ _ _ _
      have hXb : Below w.heap.size w X := HB2.out.trans ((show Below w2.heap.size w2 X by rw [hX]; exact rw_below _ _ _ _ _).mono HB2.out.size)
      have HX1 := Lib.hid (And.intro hX1 (And.intro hX2 hXb))
      clear hX hX1 hX2 hXb
      rw [HX.out]
      refine (HR0.out X).mono ?_
      rintro e w3 ⟨rfl, hb3⟩
      obtain ⟨Y, hY⟩ : ∃ Y, Y = w3.alloc (.cells #[.int .i64 (rk : Int), .string tv, .int .u64 rv, .int .i64 (pa : Int), .int .i64 (pb : Int)] 42) := ⟨_, rfl⟩
      have hY3 : Y.heap[w3.heap.size]? = some (.cells #[.int .i64 (rk : Int), .string tv, .int .u64 rv, .int .i64 (pa : Int), .int .i64 (pb : Int)] 42 (0, 0)) := by rw [hY]; exact heap_alloc_new _ _
      have hYb : Below X.heap.size X Y := hb3.trans ((show Below w3.heap.size w3 Y by rw [hY]; exact (Below.refl _ _).alloc (Nat.le_refl _) _).mono hb3.size)
      have hY1 : Y.heap[w2.heap.size]? = some (.cells #[.int .i64 (rk : Int), .string tv, .int .u64 rv, .int .i64 (pa : Int), .int .i64 (pb : Int)] 39 (0, 0)) := by rw [hYb.block _ (heap_lt HX1.out.1)]; exact HX1.out.1
      have hY2 : Y.heap[w2.heap.size + 1]? = some (.cells #[.int .i64 0, .int .i64 0, .int .i64 0] 26 (0, 0)) := by rw [hYb.block _ (heap_lt HX1.out.2.1)]; exact HX1.out.2.1
      have hYw : Below w.heap.size w Y := HX1.out.2.2.trans (hYb.mono HX1.out.2.2.size)
      have HY := Lib.hid (And.intro hY1 (And.intro hY2 (And.intro hY3 hYw)))
      have HYX := Lib.hid hY.symm
      clear hY hY3 hYb hY1 hY2 hYw hb3
      go_wp2_with fail
      rw [HYX.out]
      refine (alive_ok _ (HE.out.below HY.out.2.2.2)).mono ?_
      rintro e w5 ⟨rfl, hb5⟩
      have r1 : w5.heap[w2.heap.size]? = some (.cells #[.int .i64 (rk : Int), .string tv, .int .u64 rv, .int .i64 (pa : Int), .int .i64 (pb : Int)] 39 (0, 0)) := by rw [hb5.block _ (heap_lt HY.out.1)]; exact HY.out.1
      have r2 : w5.heap[w2.heap.size + 1]? = some (.cells #[.int .i64 0, .int .i64 0, .int .i64 0] 26 (0, 0)) := by rw [hb5.block _ (heap_lt HY.out.2.1)]; exact HY.out.2.1
      have r3 : w5.heap[w3.heap.size]? = some (.cells #[.int .i64 (rk : Int), .string tv, .int .u64 rv, .int .i64 (pa : Int), .int .i64 (pb : Int)] 42 (0, 0)) := by rw [hb5.block _ (heap_lt HY.out.2.2.1)]; exact HY.out.2.2.1
      have HB5 := Lib.hid (HY.out.2.2.2.trans (hb5.mono HY.out.2.2.2.size))
      have a0 := cell_of_row _ _ 0 _ _ _ r1
      have c0 := cell_of_row _ _ 0 _ _ _ r3
      have a1 := cell_of_row _ _ 1 _ _ _ r1
      have c1 := cell_of_row _ _ 1 _ _ _ r3
      have a2 := cell_of_row _ _ 2 _ _ _ r1
      have c2 := cell_of_row _ _ 2 _ _ _ r3
      have a3 := cell_of_row _ _ 3 _ _ _ r1
      have c3 := cell_of_row _ _ 3 _ _ _ r3
      have a4 := cell_of_row _ _ 4 _ _ _ r1
      have c4 := cell_of_row _ _ 4 _ _ _ r3
      have b0 := cell_of_row _ _ 0 _ _ _ r2
      have b1 := cell_of_row _ _ 1 _ _ _ r2
      have b2 := cell_of_row _ _ 2 _ _ _ r2
      simp only [List.getElem?_toArray, List.getElem?_cons_zero, List.getElem?_cons_succ] at a0 a1 a2 a3 a4 b0 b1 b2 c0 c1 c2 c3 c4
      clear r1 r2 r3 hb5
      go_wp2_with fail
      go_ret
      exact ⟨rfl, HB5.out⟩
    · have HN0 : Hid (∀ W, Env W → Calls Tryd.prog 14 #[.string s, .int .i64 (k : Int), .int .i64 (p0a : Int), .int .i64 (p0b : Int)] W fun e w' => e = .returned (.tuple #[.agg #[.int .i64 0, .string ⟨#[]⟩, .int .u64 0, .int .i64 0, .int .i64 0], .int .i64 0, .agg #[.int .i64 (rc : Int), .int .i64 (pa : Int), .int .i64 (pb : Int)]]) ∧ Below W.heap.size W w') := Lib.hid fun W hW => (HN.out W hW).mono fun e w' h => ⟨h.2.1 h0, h.2.2⟩
      have HR0 : Hid (∀ W, Calls Tryd.prog 15 #[.string s, .int .i64 (k : Int)] W fun e w' => e = .returned (.tuple #[.agg #[.int .i64 (rk : Int), .string (strB rt), .int .u64 rv, .int .i64 (pa : Int), .int .i64 (pb : Int)], .int .i64 0, .int .i64 (rc : Int)]) ∧ Below W.heap.size W w') := Lib.hid fun W => (HR.out W).mono fun e w' h => ⟨by rw [h.1]; show Ending.returned (.tuple #[_, .int .i64 ((if rc = 0 then q + rl else 0 : Nat) : Int), _]) = _; rw [if_neg h0]; rfl, h.2⟩
      generalize strB rt = tv at *
      have e0 : ((rc : Int) != 0) = true := ne_bne h0 0 rfl
      have e1 : ((rc : Int) == 0) = false := ne_beq h0 0 rfl
      have e2 : ¬ (rc : Int) = 0 := by omega
      clear h0
      clear HN HR ht
      go_enter Tryd.func4, Tryd.ntmps4
      go_wp2_with (first
        | (go_at_call 13; refine (HP.out _).mono ?_; rintro e w1 ⟨rfl, hb1⟩; have HB1 := Lib.hid hb1; clear hb1)
        | (go_at_call 14; refine (HN0.out _ (HE.out.below HB1.out)).mono ?_; rintro e w2 ⟨rfl, hb2⟩; have HB2 := Lib.hid (HB1.out.trans (hb2.mono HB1.out.size)); clear hb2))
      obtain ⟨X, hX⟩ : ∃ X, X = (w2.alloc (.cells #[.int .i64 0, .string ⟨#[]⟩, .int .u64 0, .int .i64 0, .int .i64 0] 39)).alloc (.cells #[.int .i64 (rc : Int), .int .i64 (pa : Int), .int .i64 (pb : Int)] 26) := ⟨_, rfl⟩
      have HX := Lib.hid hX.symm
      have hX1 : X.heap[w2.heap.size]? = some (.cells #[.int .i64 0, .string ⟨#[]⟩, .int .u64 0, .int .i64 0, .int .i64 0] 39 (0, 0)) := by rw [hX]; exact rw_row _ _ _ _ _
      have hX2 : X.heap[w2.heap.size + 1]? = some (.cells #[.int .i64 (rc : Int), .int .i64 (pa : Int), .int .i64 (pb : Int)] 26 (0, 0)) := by rw [hX]; exact rw_two _ _ _ _ _
      have hXb : Below w.heap.size w X := HB2.out.trans ((show Below w2.heap.size w2 X by rw [hX]; exact rw_below _ _ _ _ _).mono HB2.out.size)
      have HX1 := Lib.hid (And.intro hX1 (And.intro hX2 hXb))
      clear hX hX1 hX2 hXb
      rw [HX.out]
      refine (HR0.out X).mono ?_
      rintro e w3 ⟨rfl, hb3⟩
      obtain ⟨Y, hY⟩ : ∃ Y, Y = w3.alloc (.cells #[.int .i64 (rk : Int), .string tv, .int .u64 rv, .int .i64 (pa : Int), .int .i64 (pb : Int)] 42) := ⟨_, rfl⟩
      have hY3 : Y.heap[w3.heap.size]? = some (.cells #[.int .i64 (rk : Int), .string tv, .int .u64 rv, .int .i64 (pa : Int), .int .i64 (pb : Int)] 42 (0, 0)) := by rw [hY]; exact heap_alloc_new _ _
      have hYb : Below X.heap.size X Y := hb3.trans ((show Below w3.heap.size w3 Y by rw [hY]; exact (Below.refl _ _).alloc (Nat.le_refl _) _).mono hb3.size)
      have hY1 : Y.heap[w2.heap.size]? = some (.cells #[.int .i64 0, .string ⟨#[]⟩, .int .u64 0, .int .i64 0, .int .i64 0] 39 (0, 0)) := by rw [hYb.block _ (heap_lt HX1.out.1)]; exact HX1.out.1
      have hY2 : Y.heap[w2.heap.size + 1]? = some (.cells #[.int .i64 (rc : Int), .int .i64 (pa : Int), .int .i64 (pb : Int)] 26 (0, 0)) := by rw [hYb.block _ (heap_lt HX1.out.2.1)]; exact HX1.out.2.1
      have hYw : Below w.heap.size w Y := HX1.out.2.2.trans (hYb.mono HX1.out.2.2.size)
      have HY := Lib.hid (And.intro hY1 (And.intro hY2 (And.intro hY3 hYw)))
      have HYX := Lib.hid hY.symm
      clear hY hY3 hYb hY1 hY2 hYw hb3
      go_wp2_with fail
      rw [HYX.out]
      refine (alive_ok _ (HE.out.below HY.out.2.2.2)).mono ?_
      rintro e w5 ⟨rfl, hb5⟩
      have r1 : w5.heap[w2.heap.size]? = some (.cells #[.int .i64 0, .string ⟨#[]⟩, .int .u64 0, .int .i64 0, .int .i64 0] 39 (0, 0)) := by rw [hb5.block _ (heap_lt HY.out.1)]; exact HY.out.1
      have r2 : w5.heap[w2.heap.size + 1]? = some (.cells #[.int .i64 (rc : Int), .int .i64 (pa : Int), .int .i64 (pb : Int)] 26 (0, 0)) := by rw [hb5.block _ (heap_lt HY.out.2.1)]; exact HY.out.2.1
      have r3 : w5.heap[w3.heap.size]? = some (.cells #[.int .i64 (rk : Int), .string tv, .int .u64 rv, .int .i64 (pa : Int), .int .i64 (pb : Int)] 42 (0, 0)) := by rw [hb5.block _ (heap_lt HY.out.2.2.1)]; exact HY.out.2.2.1
      have HB5 := Lib.hid (HY.out.2.2.2.trans (hb5.mono HY.out.2.2.2.size))
      have a0 := cell_of_row _ _ 0 _ _ _ r1
      have c0 := cell_of_row _ _ 0 _ _ _ r3
      have a1 := cell_of_row _ _ 1 _ _ _ r1
      have c1 := cell_of_row _ _ 1 _ _ _ r3
      have a2 := cell_of_row _ _ 2 _ _ _ r1
      have c2 := cell_of_row _ _ 2 _ _ _ r3
      have a3 := cell_of_row _ _ 3 _ _ _ r1
      have c3 := cell_of_row _ _ 3 _ _ _ r3
      have a4 := cell_of_row _ _ 4 _ _ _ r1
      have c4 := cell_of_row _ _ 4 _ _ _ r3
      have b0 := cell_of_row _ _ 0 _ _ _ r2
      have b1 := cell_of_row _ _ 1 _ _ _ r2
      have b2 := cell_of_row _ _ 2 _ _ _ r2
      simp only [List.getElem?_toArray, List.getElem?_cons_zero, List.getElem?_cons_succ] at a0 a1 a2 a3 a4 b0 b1 b2 c0 c1 c2 c3 c4
      clear r1 r2 r3 hb5
      go_wp2_with fail
      go_ret
      exact ⟨rfl, HB5.out⟩
set_option maxRecDepth 100000 in
theorem lifted (os : Os) (started : os.Started) (H : Type) (enc : TypeId × Value → H) :
    ReturnsInHanded {} Tryd.checked os 4 .any (fun w args => (Rows.lexNextSpec.pre enc Tryd.prog Tryd.f4 [] false w args ∧ laidMetH Tryd.prog laid1 w) ∧ sizedMet enc Tryd.prog Tryd.f4 (OpenSpec.ofChange Rows.lexNextSpec) false w args)
      (Rows.lexNextSpec.post enc Tryd.prog Tryd.f4 false true false false) := by
  refine returnsInHanded_of_change_and (C := Tryd.checked) (X := fun w _ => laidMetH Tryd.prog laid1 w) (fun _ _ _ hh h => h.of_heap hh) own started (by kernel_rfl) Tryd.func4
    (ChangeSpec.witness_shaped (enc := enc) (C := Tryd.checked) (os := os) (X := fun w _ => laidMetH Tryd.prog laid1 w) false (World.doorLaid Tryd.prog 62 os) #[.string ⟨#[]⟩, .int .u16 0] 8 rfl (World.shaped_of_RefB (by kernel_rfl) (by kernel_rfl)) (by kernel_rfl) (by kernel_rfl) (by kernel_rfl) (door_met os _)) ?_
  intro W base args ds gs before hval0 hW _ _ hL _
  have hval : ∀ (j : Nat) t v, Tryd.f4.params[j]? = some t → args[j]? = some v → Value.okWide Tryd.prog W .any base t v := hval0
  have hW' := hW
  obtain ⟨p, q, hA0, hV, rfl, hfz, hnd⟩ := hW
  have hA : DataW.TrodAll enc Tryd.prog W 0 (fun _ => true) true Tryd.f4.params.toList args.toList ds p := hA0
  rw [Tryd.params4] at hA hval
  obtain ⟨v0, vs0, d0, ds0, p0, q0, hargs, rfl, rfl, h0, r0⟩ := trodAll_cons hA
  obtain ⟨v1, vs1, d1, ds1, p1, q1, rfl, rfl, rfl, h1, r1⟩ := trodAll_cons r0
  obtain ⟨rfl, rfl, rfl⟩ := trodAll_nil r1
  obtain rfl : args = #[v0, v1] := by cases args; simp_all
  obtain ⟨rfl, rfl⟩ := trodVars_none hV
  obtain ⟨s0, rfl, rfl, rfl, ws0⟩ := ChangeMaps.open_string Tryd.underlying9 (hval 0 9 v0 rfl rfl) h0
  obtain ⟨a1, rfl, rfl, rfl, w1⟩ := open_int Tryd.underlying34 (hval 1 34 v1 rfl rfl) h1
  clear hA0 hval0
  simp only [List.append_nil] at hW'
  refine (walk s0 a1 (bounds_u16 w1).1 (bounds_u16 w1).2 W (env_of_laid hL)).mono fun e W' ⟨he, hg⟩ => ?_
  subst he
  exact law_post (by kernel_rfl) rfl rfl (by kernel_rfl) (by kernel_rfl) Tryd.underlying4 hW' hg

theorem over : Rows.LexNextSaid :=
  OpenClaim.holds_of_wide 4 Tryd.f4 rfl rfl rfl rfl rfl rfl rfl ⟨rfl, rfl, rfl, rfl, rfl⟩ rfl rfl rfl rfl rfl (by kernel_rfl) Tryd.func4 (by kernel_rfl)
    (of_decide_eq_true (by kernel_rfl)) (by unfold Func.isWrapper; first | (rw [if_pos (by decide +kernel)]; kernel_rfl) | (rw [if_neg (by decide +kernel)]; exact ⟨rfl, rfl⟩))
    (fun os started H enc _ => lifted os started H enc)

theorem proved : Rows.LexNextCardSaid :=
  Claim7.holds_tied_plain_at .later [] Rows.lexNextCard.laidKinds true Rows.lexNextCard.stood.harness Rows.lexNextCard.stood.looks
    over (fun _ h => by cases h) (by kernel_rfl) (fun _ h => by cases h) lexNext_row_tie rfl ⟨rfl, rfl⟩ (by kernel_rfl) rfl
    (fun f fn hf hfn => by
      obtain rfl : f = 4 := Option.some.inj ((show Tryd.prog.funcNamed "fenestra/fenestralaw06.LexNext" = some 4 by kernel_rfl).symm.trans hf) |>.symm
      obtain rfl : fn = Tryd.f4 := (Option.some.inj (Tryd.func4.symm.trans hfn)).symm
      exact ⟨by kernel_rfl, fun j t ht => by
        rw [Tryd.params4] at ht
        have hm : t ∈ [9, 34] := by simpa using Array.mem_of_getElem? ht
        have hall : ([9, 34].all fun u => !Tryd.prog.wantsStandIn u) = true := by kernel_rfl
        exact (show Tryd.prog.wantsStandIn t = false by simpa using List.all_eq_true.1 hall t hm)⟩)
    (by kernel_rfl)

end Go.Proofs.YtmgohahjocdeeaaDoor.LawNext
