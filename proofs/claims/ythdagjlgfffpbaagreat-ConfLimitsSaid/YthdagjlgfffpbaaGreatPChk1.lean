/-
  Layer 5 (conf): the program's Check: faults, crowded. By the verifier.
-/
import Derived.Test.YthdagjlgfffpbaaGreatGChk
import Derived.Test.YthdagjlgfffpbaaGreatPCln
import Derived.Test.YthdagjlgfffpbaaGreatPCnt
import Derived.Test.YthdagjlgfffpbaaGreatPEql
import Derived.Test.YthdagjlgfffpbaaGreatNVal
import Derived.Test.YthdagjlgfffpbaaGreatMLst
set_option linter.unusedVariables false
namespace Go.Proofs.YthdagjlgfffpbaaGreat
open Go.RowKit

/-- A fault. -/
def fltA (r : Int × Int × Int) : Array Value := #[.int .i64 r.1, .int .i64 r.2.1, .int .i64 r.2.2]
def fltV (r : Int × Int × Int) : Value := .agg (fltA r)
/-- The fault of limits. -/
def crowdV (c : ConfR) : Int × Int × Int := match firstTo (overB c) 7 with
  | some j => (7, (j : Int), limV (j : Int))
  | none => (0, 0, 0)

theorem size3 : (Tryz.prog.info? 42).map (·.size) = some 3 := by kernel_rfl
def zeroF : Array Value := #[.int .i64 0, .int .i64 0, .int .i64 0]
theorem flt_one (r : Int × Int × Int) : (fltA r).all (·.oneCell') = true := by
  simp only [fltA, List.all_toArray, List.all_cons, List.all_nil]
  rfl

/-- The numbers of Counts as an array. -/
def cntB7 (c : ConfR) : Array Value := #[.int .i64 0, .int .i64 (cntN c 1), .int .i64 (cntN c 2), .int .i64 (cntN c 3), .int .i64 (cntN c 4), .int .i64 (cntN c 5), .int .i64 (cntN c 6)]
theorem cntV_b7 (c : ConfR) : cntV c = .agg (cntB7 c) := by
  unfold cntV cntB7 cntN
  simp

theorem run_index_arr (cs : Array Value) (k : Nat) (v : Value) (h : k < 7) (hv : cs[k]? = some v) (w : World) :
    (Instr.index 68 (.agg cs) (.int .i64 (k : Int))).run Tryz.prog w = .ok v w := by
  have hu := @run_underlying Tryz.prog _ _ Tryz.underlying68 w
  have hs := Tryz.sizeOf3 w
  have ha := Tryz.isAgg3 w
  simp [Instr.index, Sem.run_bind, asIntOf, hu, hs, part, hv, h]
theorem run_index_seven (x0 x1 x2 x3 x4 x5 x6 : Int) (k : Nat) (v : Value) (h : k < 7) (hv : (#[.int .i64 x0, .int .i64 x1, .int .i64 x2, .int .i64 x3, .int .i64 x4, .int .i64 x5, .int .i64 x6] : Array Value)[k]? = some v) (w : World) :
    (Instr.index 68 (.agg #[.int .i64 x0, .int .i64 x1, .int .i64 x2, .int .i64 x3, .int .i64 x4, .int .i64 x5, .int .i64 x6]) (.int .i64 (k : Int))).run Tryz.prog w = .ok v w :=
  run_index_arr _ k v h hv w

/-- crowded at its loop. -/
structure CrW (w W : World) : Prop where
  res : W.heap[w.heap.size + 1]? = some (.cells zeroF 42)
  lim : W.heap[w.heap.size + 2]? = some (.cells #[.int .i64 0, .int .i64 64, .int .i64 1024, .int .i64 1024, .int .i64 1024, .int .i64 512, .int .i64 1024] 68)
  below : Below w.heap.size w W
  lt : w.heap.size + 2 < W.heap.size
theorem CrW.more {w W W' : World} (h : CrW w W) (hb : Below W.heap.size W W') : CrW w W' :=
  ⟨by rw [hb.block _ (by have := h.lt; omega)]; exact h.res, by rw [hb.block _ h.lt]; exact h.lim, h.below.trans (hb.mono h.below.size), Nat.lt_of_lt_of_le h.lt hb.size⟩

set_option maxHeartbeats 8000000 in
set_option maxRecDepth 50000 in
theorem crowded_ok (c : ConfR) (q : CfgQ) (w : World) (hc : CfgIn w c q) : Calls Tryz.prog 21 #[cfgV c q] w fun e w' => e = .returned (fltV (crowdV c)) ∧ Below w.heap.size w w' := by
  obtain ⟨W1, hW1⟩ : ∃ W1, W1 = ((w.alloc (.cells (cfgA c q) 30)).alloc (.cells zeroF 42)).alloc (.cells #[.int .i64 0, .int .i64 64, .int .i64 1024, .int .i64 1024, .int .i64 1024, .int .i64 512, .int .i64 1024] 68) := ⟨_, rfl⟩
  obtain ⟨V1, hV1⟩ : ∃ V1, V1 = (w.alloc (.cells (cfgA c q) 30)).alloc (.cells zeroF 42) := ⟨_, rfl⟩
  rw [← hV1] at hW1
  have hA1 : Below w.heap.size w V1 := by rw [hV1]; exact ((Below.refl _ _).alloc (Nat.le_refl _) _).alloc (by simp) _
  have hs1 : V1.heap.size = w.heap.size + 2 := by rw [hV1]; simp
  have hB1 : Below V1.heap.size V1 W1 := by rw [hW1]; exact (Below.refl _ _).alloc (Nat.le_refl _) _
  have hcr : CrW w W1 := ⟨by rw [hB1.block _ (by omega), hV1]; exact alloc2_row w _ _, by rw [← hs1, hW1]; exact heap_alloc_new V1 _, hA1.trans (hB1.mono hA1.size), by rw [hW1]; simp [hs1]⟩
  have hbx : W1.heap[w.heap.size]? = some (.cells #[.int .u64 (c.frame : Int), .slice q.A1 c.ps.length q.c1, .slice q.A2 c.ws.length q.c2, .slice q.A3 c.rs.length q.c3, .slice q.A4 c.ts.length q.c4, .slice q.A5 c.cs.length q.c5] 30) := by
    have hb0 : Below (w.alloc (.cells (cfgA c q) 30)).heap.size (w.alloc (.cells (cfgA c q) 30)) V1 := by rw [hV1]; exact (Below.refl _ _).alloc (Nat.le_refl _) _
    rw [hB1.block _ (by omega), hb0.block _ (by simp)]
    exact heap_alloc_new w _
  have HCO := Lib.hid (pcounts_ok c q W1 (hc.below (Nat.le_refl _) hcr.below))
  rw [cntV_b7] at HCO
  unfold cntB7 at HCO
  unfold cfgV at *
  have HCR := Lib.hid hcr
  have HBX := Lib.hid hbx
  have HBOX : Hid (((w.alloc (.cells #[.int .u64 (c.frame : Int), .slice q.A1 c.ps.length q.c1, .slice q.A2 c.ws.length q.c2, .slice q.A3 c.rs.length q.c3, .slice q.A4 c.ts.length q.c4, .slice q.A5 c.cs.length q.c5] 30)).alloc (.cells #[.int .i64 0, .int .i64 0, .int .i64 0] 42)).alloc (.cells #[.int .i64 0, .int .i64 64, .int .i64 1024, .int .i64 1024, .int .i64 1024, .int .i64 512, .int .i64 1024] 68) = W1) := Lib.hid (by rw [hW1, hV1]; rfl)
  have HF1 : Hid (∀ k, overB c k = true → (∀ j, j < k → overB c j = false) → k < 7 → crowdV c = (7, (k : Int), limV (k : Int))) := Lib.hid (fun k h1 h2 h3 => by unfold crowdV; rw [firstTo_some h1 h2 h3])
  have HF0 : Hid ((∀ j, j < 7 → overB c j = false) → crowdV c = (0, 0, 0)) := Lib.hid (fun h => by unfold crowdV; rw [firstTo_none h])
  have HOV := Lib.hid (fun k (h : 1 ≤ k) => over_at c h)
  have HO0 := Lib.hid (over0 c)
  generalize crowdV c = r at *
  generalize overB c = ov at *
  have ho1 := HOV.out 1 (by omega)
  have ho2 := HOV.out 2 (by omega)
  have ho3 := HOV.out 3 (by omega)
  have ho4 := HOV.out 4 (by omega)
  have ho5 := HOV.out 5 (by omega)
  have ho6 := HOV.out 6 (by omega)
  simp only [limV] at ho1 ho2 ho3 ho4 ho5 ho6
  generalize cntN c 1 = n1 at *
  generalize cntN c 2 = n2 at *
  generalize cntN c 3 = n3 at *
  generalize cntN c 4 = n4 at *
  generalize cntN c 5 = n5 at *
  generalize cntN c 6 = n6 at *
  have HOK := Lib.hid (And.intro ho1 (And.intro ho2 (And.intro ho3 (And.intro ho4 (And.intro ho5 ho6)))))
  clear ho1 ho2 ho3 ho4 ho5 ho6 HOV hc hA1 hB1 hcr hbx hW1 hV1 hs1
  go_enter Tryz.func21, Tryz.ntmps21
  go_wp2_with fail
  rw [HBOX.out]
  refine HCO.out.mono ?_
  rintro e wr ⟨rfl, hb⟩
  have hcr := HCR.out.more hb
  have HC2 := Lib.hid hcr
  clear hb hcr HCO HCR HBX HBOX
  go_wp2_with fail
  obtain ⟨W2, rfl⟩ : ∃ W2, W2 = wr := ⟨_, rfl⟩
  go_loopw [4, 5, 9] (fun _ _ i w' => ∃ k : Nat, k ≤ 7 ∧ i = .int .i64 (k : Int) ∧ w' = W2 ∧ Hid (∀ j, j < k → ov j = false)) (fun _ _ i _ => 7 - (intOf i).toNat)
  case atStart => exact ⟨0, by omega, rfl, rfl, Lib.hid (fun j hj => absurd hj (by omega))⟩
  case round =>
    obtain ⟨k, hk, rfl, rfl, ho⟩ := hrel
    have hk8 : k = 0 ∨ k = 1 ∨ k = 2 ∨ k = 3 ∨ k = 4 ∨ k = 5 ∨ k = 6 ∨ k = 7 := by omega
    rcases hk8 with rfl | rfl | rfl | rfl | rfl | rfl | rfl | rfl
    · have hix : ∀ W, (Instr.index 68 (.agg #[.int .i64 0, .int .i64 n1, .int .i64 n2, .int .i64 n3, .int .i64 n4, .int .i64 n5, .int .i64 n6]) (.int .i64 0)).run Tryz.prog W = .ok (.int .i64 0) W := fun W => run_index_seven 0 n1 n2 n3 n4 n5 n6 0 _ (by omega) rfl W
      have hl : wr.cell? ⟨w.heap.size + 1 + 1, 0, none⟩ = some (.int .i64 0) := cell_of_row _ _ 0 _ _ _ HC2.out.lim
      have HN : Hid (∀ j, j < 1 → ov j = false) := Lib.hid (fun j hj => by
        obtain rfl : j = 0 := by omega
        exact HO0.out)
      clear hk
      go_wp2_with fail
      go_roundw
      case rel => exact ⟨1, by omega, rfl, by trivial, HN⟩
      case measure => simp [intOf]
    · have hix : ∀ W, (Instr.index 68 (.agg #[.int .i64 0, .int .i64 n1, .int .i64 n2, .int .i64 n3, .int .i64 n4, .int .i64 n5, .int .i64 n6]) (.int .i64 1)).run Tryz.prog W = .ok (.int .i64 n1) W := fun W => run_index_seven 0 n1 n2 n3 n4 n5 n6 1 _ (by omega) rfl W
      have hl : wr.cell? ⟨w.heap.size + 1 + 1, 1, none⟩ = some (.int .i64 64) := cell_of_row _ _ 1 _ _ _ HC2.out.lim
      have hov : ov 1 = decide (64 < n1) := HOK.out.1
      clear hk
      by_cases h : (64 : Int) < n1
      · have HE := Lib.hid (HF1.out 1 (by rw [hov]; exact decide_eq_true h) ho.out (by omega))
        have HR := Lib.hid HC2.out.res
        have HB := Lib.hid (below_setRow HC2.out.below (g := w.heap.size + 1) (by omega) #[.int .i64 7, .int .i64 1, .int .i64 64])
        clear hov HF1 HF0 HOK HO0 ho
        go_wp2_with ((refine wpList_store_row rfl _ _ _ rfl (w.heap.size + 1) #[.int .i64 7, .int .i64 1, .int .i64 64] rfl rfl _ _ HR.out size3 rfl (flt_one (7, 1, 64)) ?_))
        refine bodyPost_ret (v := .agg #[.int .i64 7, .int .i64 1, .int .i64 64]) ?_ rfl ⟨by rw [HE.out]; rfl, HB.out⟩
        exact results_cell_row rfl _ _ (w.heap.size + 1) _ #[.int .i64 7, .int .i64 1, .int .i64 64] _ _ rfl (setRow_heap wr _ _ _ _ _ HR.out) Tryz.underlying42 rfl size3
      · have HN : Hid (∀ j, j < 2 → ov j = false) := Lib.hid (fun j hj => by
          rcases Nat.lt_or_ge j 1 with h3 | h3
          · exact ho.out j h3
          · obtain rfl : j = 1 := by omega
            rw [hov]
            exact decide_eq_false h)
        clear hov HF1 HF0 HOK HO0 ho
        go_wp2_with fail
        go_roundw
        case rel => exact ⟨2, by omega, rfl, by trivial, HN⟩
        case measure => simp [intOf]
    · have hix : ∀ W, (Instr.index 68 (.agg #[.int .i64 0, .int .i64 n1, .int .i64 n2, .int .i64 n3, .int .i64 n4, .int .i64 n5, .int .i64 n6]) (.int .i64 2)).run Tryz.prog W = .ok (.int .i64 n2) W := fun W => run_index_seven 0 n1 n2 n3 n4 n5 n6 2 _ (by omega) rfl W
      have hl : wr.cell? ⟨w.heap.size + 1 + 1, 2, none⟩ = some (.int .i64 1024) := cell_of_row _ _ 2 _ _ _ HC2.out.lim
      have hov : ov 2 = decide (1024 < n2) := HOK.out.2.1
      clear hk
      by_cases h : (1024 : Int) < n2
      · have HE := Lib.hid (HF1.out 2 (by rw [hov]; exact decide_eq_true h) ho.out (by omega))
        have HR := Lib.hid HC2.out.res
        have HB := Lib.hid (below_setRow HC2.out.below (g := w.heap.size + 1) (by omega) #[.int .i64 7, .int .i64 2, .int .i64 1024])
        clear hov HF1 HF0 HOK HO0 ho
        go_wp2_with ((refine wpList_store_row rfl _ _ _ rfl (w.heap.size + 1) #[.int .i64 7, .int .i64 2, .int .i64 1024] rfl rfl _ _ HR.out size3 rfl (flt_one (7, 2, 1024)) ?_))
        refine bodyPost_ret (v := .agg #[.int .i64 7, .int .i64 2, .int .i64 1024]) ?_ rfl ⟨by rw [HE.out]; rfl, HB.out⟩
        exact results_cell_row rfl _ _ (w.heap.size + 1) _ #[.int .i64 7, .int .i64 2, .int .i64 1024] _ _ rfl (setRow_heap wr _ _ _ _ _ HR.out) Tryz.underlying42 rfl size3
      · have HN : Hid (∀ j, j < 3 → ov j = false) := Lib.hid (fun j hj => by
          rcases Nat.lt_or_ge j 2 with h3 | h3
          · exact ho.out j h3
          · obtain rfl : j = 2 := by omega
            rw [hov]
            exact decide_eq_false h)
        clear hov HF1 HF0 HOK HO0 ho
        go_wp2_with fail
        go_roundw
        case rel => exact ⟨3, by omega, rfl, by trivial, HN⟩
        case measure => simp [intOf]
    · have hix : ∀ W, (Instr.index 68 (.agg #[.int .i64 0, .int .i64 n1, .int .i64 n2, .int .i64 n3, .int .i64 n4, .int .i64 n5, .int .i64 n6]) (.int .i64 3)).run Tryz.prog W = .ok (.int .i64 n3) W := fun W => run_index_seven 0 n1 n2 n3 n4 n5 n6 3 _ (by omega) rfl W
      have hl : wr.cell? ⟨w.heap.size + 1 + 1, 3, none⟩ = some (.int .i64 1024) := cell_of_row _ _ 3 _ _ _ HC2.out.lim
      have hov : ov 3 = decide (1024 < n3) := HOK.out.2.2.1
      clear hk
      by_cases h : (1024 : Int) < n3
      · have HE := Lib.hid (HF1.out 3 (by rw [hov]; exact decide_eq_true h) ho.out (by omega))
        have HR := Lib.hid HC2.out.res
        have HB := Lib.hid (below_setRow HC2.out.below (g := w.heap.size + 1) (by omega) #[.int .i64 7, .int .i64 3, .int .i64 1024])
        clear hov HF1 HF0 HOK HO0 ho
        go_wp2_with ((refine wpList_store_row rfl _ _ _ rfl (w.heap.size + 1) #[.int .i64 7, .int .i64 3, .int .i64 1024] rfl rfl _ _ HR.out size3 rfl (flt_one (7, 3, 1024)) ?_))
        refine bodyPost_ret (v := .agg #[.int .i64 7, .int .i64 3, .int .i64 1024]) ?_ rfl ⟨by rw [HE.out]; rfl, HB.out⟩
        exact results_cell_row rfl _ _ (w.heap.size + 1) _ #[.int .i64 7, .int .i64 3, .int .i64 1024] _ _ rfl (setRow_heap wr _ _ _ _ _ HR.out) Tryz.underlying42 rfl size3
      · have HN : Hid (∀ j, j < 4 → ov j = false) := Lib.hid (fun j hj => by
          rcases Nat.lt_or_ge j 3 with h3 | h3
          · exact ho.out j h3
          · obtain rfl : j = 3 := by omega
            rw [hov]
            exact decide_eq_false h)
        clear hov HF1 HF0 HOK HO0 ho
        go_wp2_with fail
        go_roundw
        case rel => exact ⟨4, by omega, rfl, by trivial, HN⟩
        case measure => simp [intOf]
    · have hix : ∀ W, (Instr.index 68 (.agg #[.int .i64 0, .int .i64 n1, .int .i64 n2, .int .i64 n3, .int .i64 n4, .int .i64 n5, .int .i64 n6]) (.int .i64 4)).run Tryz.prog W = .ok (.int .i64 n4) W := fun W => run_index_seven 0 n1 n2 n3 n4 n5 n6 4 _ (by omega) rfl W
      have hl : wr.cell? ⟨w.heap.size + 1 + 1, 4, none⟩ = some (.int .i64 1024) := cell_of_row _ _ 4 _ _ _ HC2.out.lim
      have hov : ov 4 = decide (1024 < n4) := HOK.out.2.2.2.1
      clear hk
      by_cases h : (1024 : Int) < n4
      · have HE := Lib.hid (HF1.out 4 (by rw [hov]; exact decide_eq_true h) ho.out (by omega))
        have HR := Lib.hid HC2.out.res
        have HB := Lib.hid (below_setRow HC2.out.below (g := w.heap.size + 1) (by omega) #[.int .i64 7, .int .i64 4, .int .i64 1024])
        clear hov HF1 HF0 HOK HO0 ho
        go_wp2_with ((refine wpList_store_row rfl _ _ _ rfl (w.heap.size + 1) #[.int .i64 7, .int .i64 4, .int .i64 1024] rfl rfl _ _ HR.out size3 rfl (flt_one (7, 4, 1024)) ?_))
        refine bodyPost_ret (v := .agg #[.int .i64 7, .int .i64 4, .int .i64 1024]) ?_ rfl ⟨by rw [HE.out]; rfl, HB.out⟩
        exact results_cell_row rfl _ _ (w.heap.size + 1) _ #[.int .i64 7, .int .i64 4, .int .i64 1024] _ _ rfl (setRow_heap wr _ _ _ _ _ HR.out) Tryz.underlying42 rfl size3
      · have HN : Hid (∀ j, j < 5 → ov j = false) := Lib.hid (fun j hj => by
          rcases Nat.lt_or_ge j 4 with h3 | h3
          · exact ho.out j h3
          · obtain rfl : j = 4 := by omega
            rw [hov]
            exact decide_eq_false h)
        clear hov HF1 HF0 HOK HO0 ho
        go_wp2_with fail
        go_roundw
        case rel => exact ⟨5, by omega, rfl, by trivial, HN⟩
        case measure => simp [intOf]
    · have hix : ∀ W, (Instr.index 68 (.agg #[.int .i64 0, .int .i64 n1, .int .i64 n2, .int .i64 n3, .int .i64 n4, .int .i64 n5, .int .i64 n6]) (.int .i64 5)).run Tryz.prog W = .ok (.int .i64 n5) W := fun W => run_index_seven 0 n1 n2 n3 n4 n5 n6 5 _ (by omega) rfl W
      have hl : wr.cell? ⟨w.heap.size + 1 + 1, 5, none⟩ = some (.int .i64 512) := cell_of_row _ _ 5 _ _ _ HC2.out.lim
      have hov : ov 5 = decide (512 < n5) := HOK.out.2.2.2.2.1
      clear hk
      by_cases h : (512 : Int) < n5
      · have HE := Lib.hid (HF1.out 5 (by rw [hov]; exact decide_eq_true h) ho.out (by omega))
        have HR := Lib.hid HC2.out.res
        have HB := Lib.hid (below_setRow HC2.out.below (g := w.heap.size + 1) (by omega) #[.int .i64 7, .int .i64 5, .int .i64 512])
        clear hov HF1 HF0 HOK HO0 ho
        go_wp2_with ((refine wpList_store_row rfl _ _ _ rfl (w.heap.size + 1) #[.int .i64 7, .int .i64 5, .int .i64 512] rfl rfl _ _ HR.out size3 rfl (flt_one (7, 5, 512)) ?_))
        refine bodyPost_ret (v := .agg #[.int .i64 7, .int .i64 5, .int .i64 512]) ?_ rfl ⟨by rw [HE.out]; rfl, HB.out⟩
        exact results_cell_row rfl _ _ (w.heap.size + 1) _ #[.int .i64 7, .int .i64 5, .int .i64 512] _ _ rfl (setRow_heap wr _ _ _ _ _ HR.out) Tryz.underlying42 rfl size3
      · have HN : Hid (∀ j, j < 6 → ov j = false) := Lib.hid (fun j hj => by
          rcases Nat.lt_or_ge j 5 with h3 | h3
          · exact ho.out j h3
          · obtain rfl : j = 5 := by omega
            rw [hov]
            exact decide_eq_false h)
        clear hov HF1 HF0 HOK HO0 ho
        go_wp2_with fail
        go_roundw
        case rel => exact ⟨6, by omega, rfl, by trivial, HN⟩
        case measure => simp [intOf]
    · have hix : ∀ W, (Instr.index 68 (.agg #[.int .i64 0, .int .i64 n1, .int .i64 n2, .int .i64 n3, .int .i64 n4, .int .i64 n5, .int .i64 n6]) (.int .i64 6)).run Tryz.prog W = .ok (.int .i64 n6) W := fun W => run_index_seven 0 n1 n2 n3 n4 n5 n6 6 _ (by omega) rfl W
      have hl : wr.cell? ⟨w.heap.size + 1 + 1, 6, none⟩ = some (.int .i64 1024) := cell_of_row _ _ 6 _ _ _ HC2.out.lim
      have hov : ov 6 = decide (1024 < n6) := HOK.out.2.2.2.2.2
      clear hk
      by_cases h : (1024 : Int) < n6
      · have HE := Lib.hid (HF1.out 6 (by rw [hov]; exact decide_eq_true h) ho.out (by omega))
        have HR := Lib.hid HC2.out.res
        have HB := Lib.hid (below_setRow HC2.out.below (g := w.heap.size + 1) (by omega) #[.int .i64 7, .int .i64 6, .int .i64 1024])
        clear hov HF1 HF0 HOK HO0 ho
        go_wp2_with ((refine wpList_store_row rfl _ _ _ rfl (w.heap.size + 1) #[.int .i64 7, .int .i64 6, .int .i64 1024] rfl rfl _ _ HR.out size3 rfl (flt_one (7, 6, 1024)) ?_))
        refine bodyPost_ret (v := .agg #[.int .i64 7, .int .i64 6, .int .i64 1024]) ?_ rfl ⟨by rw [HE.out]; rfl, HB.out⟩
        exact results_cell_row rfl _ _ (w.heap.size + 1) _ #[.int .i64 7, .int .i64 6, .int .i64 1024] _ _ rfl (setRow_heap wr _ _ _ _ _ HR.out) Tryz.underlying42 rfl size3
      · have HN : Hid (∀ j, j < 7 → ov j = false) := Lib.hid (fun j hj => by
          rcases Nat.lt_or_ge j 6 with h3 | h3
          · exact ho.out j h3
          · obtain rfl : j = 6 := by omega
            rw [hov]
            exact decide_eq_false h)
        clear hov HF1 HF0 HOK HO0 ho
        go_wp2_with fail
        go_roundw
        case rel => exact ⟨7, by omega, rfl, by trivial, HN⟩
        case measure => simp [intOf]
    · have HE := Lib.hid (HF0.out ho.out)
      have HR := Lib.hid HC2.out.res
      have HB := Lib.hid (below_setRow HC2.out.below (g := w.heap.size + 1) (by omega) #[.int .i64 0, .int .i64 0, .int .i64 0])
      clear HF1 HF0 HOK HO0 ho
      go_wp2_with ((refine wpList_store_row rfl _ _ _ rfl (w.heap.size + 1) #[.int .i64 0, .int .i64 0, .int .i64 0] rfl rfl _ _ HR.out size3 rfl (flt_one (0, 0, 0)) ?_))
      refine bodyPost_ret (v := .agg #[.int .i64 0, .int .i64 0, .int .i64 0]) ?_ rfl ⟨by rw [HE.out]; rfl, HB.out⟩
      exact results_cell_row rfl _ _ (w.heap.size + 1) _ #[.int .i64 0, .int .i64 0, .int .i64 0] _ _ rfl (setRow_heap wr _ _ _ _ _ HR.out) Tryz.underlying42 rfl size3

end Go.Proofs.YthdagjlgfffpbaaGreat

/-
  Layer 5 (conf): the program's Check: the first record that is wrong. By the verifier.
-/
set_option linter.unusedVariables false
namespace Go.Proofs.YthdagjlgfffpbaaGreat
open Go.RowKit Go.Lib

theorem firstTo_of : ∀ (p : Nat → Bool) (n : Nat), (∃ k, k < n ∧ p k = true ∧ (∀ j, j < k → p j = false) ∧ firstTo p n = some k) ∨ ((∀ j, j < n → p j = false) ∧ firstTo p n = none)
  | p, 0 => Or.inr ⟨fun j hj => absurd hj (by omega), rfl⟩
  | p, n + 1 => by
    rcases firstTo_of p n with ⟨k, h1, h2, h3, h4⟩ | ⟨h1, h2⟩
    · exact Or.inl ⟨k, by omega, h2, h3, firstTo_some h2 h3 (by omega)⟩
    · cases hp : p n with
      | true => exact Or.inl ⟨n, by omega, hp, h1, firstTo_some hp h1 (by omega)⟩
      | false =>
        have hall : ∀ j, j < n + 1 → p j = false := fun j hj => by
          rcases Nat.lt_or_ge j n with h | h
          · exact h1 j h
          · obtain rfl : j = n := by omega
            exact hp
        exact Or.inr ⟨hall, firstTo_none hall⟩

/-- The place of the first, or -1. -/
def placeV (p : Nat → Bool) (n : Nat) : Int := match firstTo p n with
  | some k => (k : Int)
  | none => -1
/-- The fault of the first. -/
def firstV (code sec : Int) (p : Nat → Bool) (n : Nat) : Int × Int × Int := match firstTo p n with
  | some k => (code, sec, (k : Int))
  | none => (0, 0, 0)

theorem idx_place {α : Type} [Inhabited α] (f : α → Bool) (zs : List α) (p : Nat → Bool) (h : ∀ j, j < zs.length → f zs[j]! = p j) : Lib.idxBy (fun _ y => f y) (zs.take zs.length) default = placeV p zs.length := by
  unfold placeV
  rcases firstTo_of p zs.length with ⟨k, h1, h2, h3, h4⟩ | ⟨h1, h2⟩
  · rw [h4, Lib.idxBy_hit (fun _ y => f y) zs zs.length k default h1 (Nat.le_refl _) (by rw [h k h1]; exact h2) (fun j hj => by rw [h j (by omega)]; exact h3 j hj)]
  · rw [h2, Lib.idxBy_miss (fun _ y => f y) zs zs.length default (fun j hj => by rw [h j hj]; exact h1 j hj)]

theorem chkP_ok (x : PartR) (hx : x.ok) (w : World) : Calls Tryz.prog 23 #[.agg (partV x).toArray] w fun e w' => e = .returned (.bool (!nameB (bytesOf x.name))) ∧ Below w.heap.size w w' := by
  have hlen : (bytesOf x.name).length ≤ maxLen := by
    have h1 : (bytesOf x.name).length = x.name.size := (Str.of x.name).size.symm
    obtain ⟨-, h2, -⟩ := hx
    unfold maxLen
    omega
  have HV := Lib.hid (fun W => valid_ok x.name (bytesOf x.name) (Str.of x.name) hlen W)
  generalize nameB (bytesOf x.name) = r at *
  clear hlen hx
  unfold partV
  go_enter Tryz.func23, Tryz.ntmps23
  go_wp2_with (go_at_call 24; refine (HV.out _).mono ?_; rintro e w1 ⟨rfl, rfl⟩)
  go_ret
  exact ⟨by simp, (Below.refl _ _).alloc (Nat.le_refl _) _⟩

def atP (l : List PartR) (i : Nat) : Bool := match l[i]? with
  | some x => !nameB (bytesOf x.name)
  | none => false

theorem ixP_ok (l : List PartR) (A : Option Addr) (c : Nat) (w : World) (hA : Recs w A c l partV) (hok : ∀ x ∈ l, x.ok) :
    Calls Tryz.prog 61 #[.slice A l.length c, .func (.func 23) #[] #[]] w fun e w' => e = .returned (.int .i64 (placeV (atP l) l.length)) ∧ Below w.heap.size w w' := by
  rcases Nat.eq_zero_or_pos l.length with h0 | h0
  · have e1 : l = [] := List.eq_nil_of_length_eq_zero h0
    subst e1
    show Calls Tryz.prog _ #[.slice A 0 c, _] w _
    clear hA hok h0
    go_enter Tryz.func61, Tryz.ntmps61
    go_wp2
    refine wp_loop_rounds 1 ?_
    rw [rounds_succ]
    go_wp2
    go_ret
    exact ⟨rfl, Below.refl _ _⟩
  · obtain ⟨zs, hzs⟩ : ∃ zs : List {x : PartR // x.ok}, zs = l.attachWith PartR.ok hok := ⟨_, rfl⟩
    have hzl : zs.length = l.length := by rw [hzs]; simp
    haveI : Inhabited {x : PartR // x.ok} := ⟨⟨l[0], hok _ (List.getElem_mem h0)⟩⟩
    have hz : ∀ j (hj : j < l.length), (zs[j]!).1 = l[j] := fun j hj => by
      rw [getElem!_pos zs j (by omega)]
      subst hzs
      simp
    obtain ⟨b, o, rfl, hb, hc⟩ := recs_at hA 4 (fun _ => rfl) (by omega) h0
    have hmax := hA.max
    have hcon := AnyQ.slices_IndexFunc Tryz.idx61 4 Tryz.isAgg36 Tryz.sizeOf36 (fun x : {x : PartR // x.ok} => partV x.1) (fun _ => rfl) (fun x => !nameB (bytesOf x.1.name)) 23 #[] (enters_of Tryz.func23 (by kernel_rfl) rfl) b o zs.length c zs w
      (fun W x hW => (chkP_ok x.1 x.2 W).mono fun e w' h => ⟨h.1, hW.trans (h.2.mono hW.size)⟩) (Nat.le_refl _) (by omega) hb (fun j hj i v hv => hc j (by omega) i v (by rw [hz j (by omega)] at hv; rw [getElem!_pos l j (by omega)]; exact hv))
    rw [idx_place (fun x : {x : PartR // x.ok} => !nameB (bytesOf x.1.name)) zs (atP l) (fun j hj => by
      have hj' : j < l.length := by omega
      show (!nameB (bytesOf (zs[j]!).1.name)) = _
      rw [hz j hj']
      unfold atP
      rw [List.getElem?_eq_getElem hj']), hzl] at hcon
    exact hcon

theorem fstP_ok (code sec : Int) (l : List PartR) (A : Option Addr) (c : Nat) (w : World) (hA : Recs w A c l partV) (hok : ∀ x ∈ l, x.ok) :
    Calls Tryz.prog 22 #[.int .i64 code, .int .i64 sec, .slice A l.length c, .func (.func 23) #[] #[]] w fun e w' => e = .returned (fltV (firstV code sec (atP l) l.length)) ∧ Below w.heap.size w w' := by
  obtain ⟨W1, hW1⟩ : ∃ W1, W1 = w.alloc (.cells #[.int .i64 0, .int .i64 0, .int .i64 0] 42) := ⟨_, rfl⟩
  have hb1 : Below w.heap.size w W1 := by rw [hW1]; exact (Below.refl _ _).alloc (Nat.le_refl _) _
  have hr1 : W1.heap[w.heap.size]? = some (.cells zeroF 42) := by rw [hW1]; exact heap_alloc_new w _
  have hl1 : w.heap.size < W1.heap.size := by rw [hW1]; simp
  have hI := ixP_ok l A c W1 (hA.below (Nat.le_refl _) hb1) hok
  have hF : firstV code sec (atP l) l.length = if placeV (atP l) l.length < 0 then (0, 0, 0) else (code, sec, placeV (atP l) l.length) := by
    unfold firstV placeV
    cases firstTo (atP l) l.length with
    | none => rfl
    | some k => rw [if_neg (show ¬ (k : Int) < 0 by omega)]
  rw [hF]
  generalize placeV (atP l) l.length = p at *
  have HI := Lib.hid (hI.mono fun e w' h => And.intro h.1 (And.intro (show w'.heap[w.heap.size]? = some (.cells zeroF 42) by rw [h.2.block _ hl1]; exact hr1) (show Below w.heap.size w w' from hb1.trans (h.2.mono hb1.size))))
  have hbox := hW1.symm
  clear hA hok hI hb1 hr1 hl1 hF hW1
  go_enter Tryz.func22, Tryz.ntmps22
  by_cases hp : p < 0
  · rw [if_pos hp]
    go_wp2_with fail
    refine HI.out.mono ?_
    rintro e wr ⟨rfl, hr, hb⟩
    have HR := Lib.hid hr
    have HB := Lib.hid (below_setRow hb (g := w.heap.size) (Nat.le_refl _) #[.int .i64 0, .int .i64 0, .int .i64 0])
    clear hr hb HI
    go_wp2_with ((refine wpList_store_row rfl _ _ _ rfl w.heap.size #[.int .i64 0, .int .i64 0, .int .i64 0] rfl rfl _ _ HR.out size3 rfl (flt_one (0, 0, 0)) ?_))
    refine bodyPost_ret (v := .agg #[.int .i64 0, .int .i64 0, .int .i64 0]) ?_ rfl ⟨rfl, HB.out⟩
    exact results_cell_row rfl _ _ w.heap.size _ #[.int .i64 0, .int .i64 0, .int .i64 0] _ _ rfl (setRow_heap wr _ _ _ _ _ HR.out) Tryz.underlying42 rfl size3
  · rw [if_neg hp]
    go_wp2_with fail
    refine HI.out.mono ?_
    rintro e wr ⟨rfl, hr, hb⟩
    have HR := Lib.hid hr
    have HB := Lib.hid (below_setRow hb (g := w.heap.size) (Nat.le_refl _) #[.int .i64 code, .int .i64 sec, .int .i64 p])
    clear hr hb HI
    go_wp2_with ((refine wpList_store_row rfl _ _ _ rfl w.heap.size #[.int .i64 code, .int .i64 sec, .int .i64 p] rfl rfl _ _ HR.out size3 rfl (flt_one (code, sec, p)) ?_))
    refine bodyPost_ret (v := .agg #[.int .i64 code, .int .i64 sec, .int .i64 p]) ?_ rfl ⟨rfl, HB.out⟩
    exact results_cell_row rfl _ _ w.heap.size _ #[.int .i64 code, .int .i64 sec, .int .i64 p] _ _ rfl (setRow_heap wr _ _ _ _ _ HR.out) Tryz.underlying42 rfl size3

theorem chkT_ok (x : PortR) (hx : x.ok) (w : World) : Calls Tryz.prog 26 #[.agg (portV x).toArray] w fun e w' => e = .returned (.bool (!nameB (bytesOf x.name))) ∧ Below w.heap.size w w' := by
  have hlen : (bytesOf x.name).length ≤ maxLen := by
    have h1 : (bytesOf x.name).length = x.name.size := (Str.of x.name).size.symm
    obtain ⟨-, -, h2, -⟩ := hx
    unfold maxLen
    omega
  have HV := Lib.hid (fun W => valid_ok x.name (bytesOf x.name) (Str.of x.name) hlen W)
  generalize nameB (bytesOf x.name) = r at *
  clear hlen hx
  unfold portV
  go_enter Tryz.func26, Tryz.ntmps26
  go_wp2_with (go_at_call 24; refine (HV.out _).mono ?_; rintro e w1 ⟨rfl, rfl⟩)
  go_ret
  exact ⟨by simp, (Below.refl _ _).alloc (Nat.le_refl _) _⟩

def atT (l : List PortR) (i : Nat) : Bool := match l[i]? with
  | some x => !nameB (bytesOf x.name)
  | none => false

theorem ixT_ok (l : List PortR) (A : Option Addr) (c : Nat) (w : World) (hA : Recs w A c l portV) (hok : ∀ x ∈ l, x.ok) :
    Calls Tryz.prog 63 #[.slice A l.length c, .func (.func 26) #[] #[]] w fun e w' => e = .returned (.int .i64 (placeV (atT l) l.length)) ∧ Below w.heap.size w w' := by
  rcases Nat.eq_zero_or_pos l.length with h0 | h0
  · have e1 : l = [] := List.eq_nil_of_length_eq_zero h0
    subst e1
    show Calls Tryz.prog _ #[.slice A 0 c, _] w _
    clear hA hok h0
    go_enter Tryz.func63, Tryz.ntmps63
    go_wp2
    refine wp_loop_rounds 1 ?_
    rw [rounds_succ]
    go_wp2
    go_ret
    exact ⟨rfl, Below.refl _ _⟩
  · obtain ⟨zs, hzs⟩ : ∃ zs : List {x : PortR // x.ok}, zs = l.attachWith PortR.ok hok := ⟨_, rfl⟩
    have hzl : zs.length = l.length := by rw [hzs]; simp
    haveI : Inhabited {x : PortR // x.ok} := ⟨⟨l[0], hok _ (List.getElem_mem h0)⟩⟩
    have hz : ∀ j (hj : j < l.length), (zs[j]!).1 = l[j] := fun j hj => by
      rw [getElem!_pos zs j (by omega)]
      subst hzs
      simp
    obtain ⟨b, o, rfl, hb, hc⟩ := recs_at hA 6 (fun _ => rfl) (by omega) h0
    have hmax := hA.max
    have hcon := AnyQ.slices_IndexFunc Tryz.idx63 6 Tryz.isAgg39 Tryz.sizeOf39 (fun x : {x : PortR // x.ok} => portV x.1) (fun _ => rfl) (fun x => !nameB (bytesOf x.1.name)) 26 #[] (enters_of Tryz.func26 (by kernel_rfl) rfl) b o zs.length c zs w
      (fun W x hW => (chkT_ok x.1 x.2 W).mono fun e w' h => ⟨h.1, hW.trans (h.2.mono hW.size)⟩) (Nat.le_refl _) (by omega) hb (fun j hj i v hv => hc j (by omega) i v (by rw [hz j (by omega)] at hv; rw [getElem!_pos l j (by omega)]; exact hv))
    rw [idx_place (fun x : {x : PortR // x.ok} => !nameB (bytesOf x.1.name)) zs (atT l) (fun j hj => by
      have hj' : j < l.length := by omega
      show (!nameB (bytesOf (zs[j]!).1.name)) = _
      rw [hz j hj']
      unfold atT
      rw [List.getElem?_eq_getElem hj']), hzl] at hcon
    exact hcon

theorem fstT_ok (code sec : Int) (l : List PortR) (A : Option Addr) (c : Nat) (w : World) (hA : Recs w A c l portV) (hok : ∀ x ∈ l, x.ok) :
    Calls Tryz.prog 25 #[.int .i64 code, .int .i64 sec, .slice A l.length c, .func (.func 26) #[] #[]] w fun e w' => e = .returned (fltV (firstV code sec (atT l) l.length)) ∧ Below w.heap.size w w' := by
  obtain ⟨W1, hW1⟩ : ∃ W1, W1 = w.alloc (.cells #[.int .i64 0, .int .i64 0, .int .i64 0] 42) := ⟨_, rfl⟩
  have hb1 : Below w.heap.size w W1 := by rw [hW1]; exact (Below.refl _ _).alloc (Nat.le_refl _) _
  have hr1 : W1.heap[w.heap.size]? = some (.cells zeroF 42) := by rw [hW1]; exact heap_alloc_new w _
  have hl1 : w.heap.size < W1.heap.size := by rw [hW1]; simp
  have hI := ixT_ok l A c W1 (hA.below (Nat.le_refl _) hb1) hok
  have hF : firstV code sec (atT l) l.length = if placeV (atT l) l.length < 0 then (0, 0, 0) else (code, sec, placeV (atT l) l.length) := by
    unfold firstV placeV
    cases firstTo (atT l) l.length with
    | none => rfl
    | some k => rw [if_neg (show ¬ (k : Int) < 0 by omega)]
  rw [hF]
  generalize placeV (atT l) l.length = p at *
  have HI := Lib.hid (hI.mono fun e w' h => And.intro h.1 (And.intro (show w'.heap[w.heap.size]? = some (.cells zeroF 42) by rw [h.2.block _ hl1]; exact hr1) (show Below w.heap.size w w' from hb1.trans (h.2.mono hb1.size))))
  have hbox := hW1.symm
  clear hA hok hI hb1 hr1 hl1 hF hW1
  go_enter Tryz.func25, Tryz.ntmps25
  by_cases hp : p < 0
  · rw [if_pos hp]
    go_wp2_with fail
    refine HI.out.mono ?_
    rintro e wr ⟨rfl, hr, hb⟩
    have HR := Lib.hid hr
    have HB := Lib.hid (below_setRow hb (g := w.heap.size) (Nat.le_refl _) #[.int .i64 0, .int .i64 0, .int .i64 0])
    clear hr hb HI
    go_wp2_with ((refine wpList_store_row rfl _ _ _ rfl w.heap.size #[.int .i64 0, .int .i64 0, .int .i64 0] rfl rfl _ _ HR.out size3 rfl (flt_one (0, 0, 0)) ?_))
    refine bodyPost_ret (v := .agg #[.int .i64 0, .int .i64 0, .int .i64 0]) ?_ rfl ⟨rfl, HB.out⟩
    exact results_cell_row rfl _ _ w.heap.size _ #[.int .i64 0, .int .i64 0, .int .i64 0] _ _ rfl (setRow_heap wr _ _ _ _ _ HR.out) Tryz.underlying42 rfl size3
  · rw [if_neg hp]
    go_wp2_with fail
    refine HI.out.mono ?_
    rintro e wr ⟨rfl, hr, hb⟩
    have HR := Lib.hid hr
    have HB := Lib.hid (below_setRow hb (g := w.heap.size) (Nat.le_refl _) #[.int .i64 code, .int .i64 sec, .int .i64 p])
    clear hr hb HI
    go_wp2_with ((refine wpList_store_row rfl _ _ _ rfl w.heap.size #[.int .i64 code, .int .i64 sec, .int .i64 p] rfl rfl _ _ HR.out size3 rfl (flt_one (code, sec, p)) ?_))
    refine bodyPost_ret (v := .agg #[.int .i64 code, .int .i64 sec, .int .i64 p]) ?_ rfl ⟨rfl, HB.out⟩
    exact results_cell_row rfl _ _ w.heap.size _ #[.int .i64 code, .int .i64 sec, .int .i64 p] _ _ rfl (setRow_heap wr _ _ _ _ _ HR.out) Tryz.underlying42 rfl size3

theorem chkR_ok (x : RegR) (hx : x.ok) (w : World) : Calls Tryz.prog 28 #[.agg (regV x).toArray] w fun e w' => e = .returned (.bool (decide (7 < x.rights))) ∧ Below w.heap.size w w' := by
  by_cases h : 7 < x.rights
  · have hi : (7 : Int) < (x.rights : Int) := by omega
    rw [decide_eq_true h]
    clear h hx
    unfold regV
    go_enter Tryz.func28, Tryz.ntmps28
    go_wp2_with fail
    go_ret
    exact ⟨by simp, (Below.refl _ _).alloc (Nat.le_refl _) _⟩
  · have hi : ¬ (7 : Int) < (x.rights : Int) := by omega
    rw [decide_eq_false h]
    clear h hx
    unfold regV
    go_enter Tryz.func28, Tryz.ntmps28
    go_wp2_with fail
    go_ret
    exact ⟨by simp, (Below.refl _ _).alloc (Nat.le_refl _) _⟩

def atR (l : List RegR) (i : Nat) : Bool := match l[i]? with
  | some x => decide (7 < x.rights)
  | none => false

theorem ixR_ok (l : List RegR) (A : Option Addr) (c : Nat) (w : World) (hA : Recs w A c l regV) (hok : ∀ x ∈ l, x.ok) :
    Calls Tryz.prog 64 #[.slice A l.length c, .func (.func 28) #[] #[]] w fun e w' => e = .returned (.int .i64 (placeV (atR l) l.length)) ∧ Below w.heap.size w w' := by
  rcases Nat.eq_zero_or_pos l.length with h0 | h0
  · have e1 : l = [] := List.eq_nil_of_length_eq_zero h0
    subst e1
    show Calls Tryz.prog _ #[.slice A 0 c, _] w _
    clear hA hok h0
    go_enter Tryz.func64, Tryz.ntmps64
    go_wp2
    refine wp_loop_rounds 1 ?_
    rw [rounds_succ]
    go_wp2
    go_ret
    exact ⟨rfl, Below.refl _ _⟩
  · obtain ⟨zs, hzs⟩ : ∃ zs : List {x : RegR // x.ok}, zs = l.attachWith RegR.ok hok := ⟨_, rfl⟩
    have hzl : zs.length = l.length := by rw [hzs]; simp
    haveI : Inhabited {x : RegR // x.ok} := ⟨⟨l[0], hok _ (List.getElem_mem h0)⟩⟩
    have hz : ∀ j (hj : j < l.length), (zs[j]!).1 = l[j] := fun j hj => by
      rw [getElem!_pos zs j (by omega)]
      subst hzs
      simp
    obtain ⟨b, o, rfl, hb, hc⟩ := recs_at hA 5 (fun _ => rfl) (by omega) h0
    have hmax := hA.max
    have hcon := AnyQ.slices_IndexFunc Tryz.idx64 5 Tryz.isAgg47 Tryz.sizeOf47 (fun x : {x : RegR // x.ok} => regV x.1) (fun _ => rfl) (fun x => decide (7 < x.1.rights)) 28 #[] (enters_of Tryz.func28 (by kernel_rfl) rfl) b o zs.length c zs w
      (fun W x hW => (chkR_ok x.1 x.2 W).mono fun e w' h => ⟨h.1, hW.trans (h.2.mono hW.size)⟩) (Nat.le_refl _) (by omega) hb (fun j hj i v hv => hc j (by omega) i v (by rw [hz j (by omega)] at hv; rw [getElem!_pos l j (by omega)]; exact hv))
    rw [idx_place (fun x : {x : RegR // x.ok} => decide (7 < x.1.rights)) zs (atR l) (fun j hj => by
      have hj' : j < l.length := by omega
      show decide (7 < (zs[j]!).1.rights) = _
      rw [hz j hj']
      unfold atR
      rw [List.getElem?_eq_getElem hj']), hzl] at hcon
    exact hcon

theorem fstR_ok (code sec : Int) (l : List RegR) (A : Option Addr) (c : Nat) (w : World) (hA : Recs w A c l regV) (hok : ∀ x ∈ l, x.ok) :
    Calls Tryz.prog 27 #[.int .i64 code, .int .i64 sec, .slice A l.length c, .func (.func 28) #[] #[]] w fun e w' => e = .returned (fltV (firstV code sec (atR l) l.length)) ∧ Below w.heap.size w w' := by
  obtain ⟨W1, hW1⟩ : ∃ W1, W1 = w.alloc (.cells #[.int .i64 0, .int .i64 0, .int .i64 0] 42) := ⟨_, rfl⟩
  have hb1 : Below w.heap.size w W1 := by rw [hW1]; exact (Below.refl _ _).alloc (Nat.le_refl _) _
  have hr1 : W1.heap[w.heap.size]? = some (.cells zeroF 42) := by rw [hW1]; exact heap_alloc_new w _
  have hl1 : w.heap.size < W1.heap.size := by rw [hW1]; simp
  have hI := ixR_ok l A c W1 (hA.below (Nat.le_refl _) hb1) hok
  have hF : firstV code sec (atR l) l.length = if placeV (atR l) l.length < 0 then (0, 0, 0) else (code, sec, placeV (atR l) l.length) := by
    unfold firstV placeV
    cases firstTo (atR l) l.length with
    | none => rfl
    | some k => rw [if_neg (show ¬ (k : Int) < 0 by omega)]
  rw [hF]
  generalize placeV (atR l) l.length = p at *
  have HI := Lib.hid (hI.mono fun e w' h => And.intro h.1 (And.intro (show w'.heap[w.heap.size]? = some (.cells zeroF 42) by rw [h.2.block _ hl1]; exact hr1) (show Below w.heap.size w w' from hb1.trans (h.2.mono hb1.size))))
  have hbox := hW1.symm
  clear hA hok hI hb1 hr1 hl1 hF hW1
  go_enter Tryz.func27, Tryz.ntmps27
  by_cases hp : p < 0
  · rw [if_pos hp]
    go_wp2_with fail
    refine HI.out.mono ?_
    rintro e wr ⟨rfl, hr, hb⟩
    have HR := Lib.hid hr
    have HB := Lib.hid (below_setRow hb (g := w.heap.size) (Nat.le_refl _) #[.int .i64 0, .int .i64 0, .int .i64 0])
    clear hr hb HI
    go_wp2_with ((refine wpList_store_row rfl _ _ _ rfl w.heap.size #[.int .i64 0, .int .i64 0, .int .i64 0] rfl rfl _ _ HR.out size3 rfl (flt_one (0, 0, 0)) ?_))
    refine bodyPost_ret (v := .agg #[.int .i64 0, .int .i64 0, .int .i64 0]) ?_ rfl ⟨rfl, HB.out⟩
    exact results_cell_row rfl _ _ w.heap.size _ #[.int .i64 0, .int .i64 0, .int .i64 0] _ _ rfl (setRow_heap wr _ _ _ _ _ HR.out) Tryz.underlying42 rfl size3
  · rw [if_neg hp]
    go_wp2_with fail
    refine HI.out.mono ?_
    rintro e wr ⟨rfl, hr, hb⟩
    have HR := Lib.hid hr
    have HB := Lib.hid (below_setRow hb (g := w.heap.size) (Nat.le_refl _) #[.int .i64 code, .int .i64 sec, .int .i64 p])
    clear hr hb HI
    go_wp2_with ((refine wpList_store_row rfl _ _ _ rfl w.heap.size #[.int .i64 code, .int .i64 sec, .int .i64 p] rfl rfl _ _ HR.out size3 rfl (flt_one (code, sec, p)) ?_))
    refine bodyPost_ret (v := .agg #[.int .i64 code, .int .i64 sec, .int .i64 p]) ?_ rfl ⟨rfl, HB.out⟩
    exact results_cell_row rfl _ _ w.heap.size _ #[.int .i64 code, .int .i64 sec, .int .i64 p] _ _ rfl (setRow_heap wr _ _ _ _ _ HR.out) Tryz.underlying42 rfl size3

end Go.Proofs.YthdagjlgfffpbaaGreat

/-
  Layer 5 (conf): the program's Check: the first of four faults. By the verifier.
-/
set_option linter.unusedVariables false
namespace Go.Proofs.YthdagjlgfffpbaaGreat
open Go.RowKit Go.Lib

def fltL (r : Int × Int × Int) : List Value := [.int .i64 r.1, .int .i64 r.2.1, .int .i64 r.2.2]
/-- Whether it is a fault. -/
def fltB (r : Int × Int × Int) : Bool := !((r.1 == 0) && (r.2.1 == 0) && (r.2.2 == 0))
theorem fltB_false {r : Int × Int × Int} (h : fltB r = false) : r = (0, 0, 0) := by
  obtain ⟨a, b, c⟩ := r
  simp only [fltB, Bool.not_eq_false', Bool.and_eq_true, beq_iff_eq] at h
  obtain ⟨⟨rfl, rfl⟩, rfl⟩ := h
  rfl
/-- The first fault. -/
def orF : List (Int × Int × Int) → Int × Int × Int
  | [] => (0, 0, 0)
  | r :: l => if fltB r then r else orF l
theorem orF_drop {l : List (Int × Int × Int)} {k : Nat} (h : k < l.length) : orF (l.drop k) = if fltB l[k] then l[k] else orF (l.drop (k + 1)) := by
  rw [List.drop_eq_getElem_cons h]
  rfl

theorem neqF (a b c : Int) (w : World) : (binOp .neq 42 (.agg #[.int .i64 a, .int .i64 b, .int .i64 c]) (.agg #[.int .i64 0, .int .i64 0, .int .i64 0])).run Tryz.prog w = .ok (.bool (fltB (a, b, c))) w := by
  have u0 := Tryz.underlying3
  have a0 := Tryz.isAgg3
  have z0 := Tryz.sizeOf3
  have hS : Tryz.prog.underlying 42 = some (.struct (Tryz.prog.fieldsOf 42)) := by kernel_rfl
  have hp : Tryz.prog.stoodInHeld 42 = false := by kernel_rfl
  unfold fltB
  rw [run_neq_struct, show (10000 : Nat) = 9999 + 1 from rfl, run_equalIn_agg w 9999 42 _ _ hS hp]
  simp only [Program.fieldsOf, Tryz.underlying42]
  go_simp
  cases hb0 : (a == 0) <;> cases hb1 : (b == 0) <;> cases hb2 : (c == 0) <;> simp_all

/-- Or at its loop. -/
structure OrW (w W : World) : Prop where
  res : W.heap[w.heap.size]? = some (.cells zeroF 42)
  zero : ∀ X k v, zeroF[k]? = some v → (W.alloc X).cell? ⟨w.heap.size + 1, k, none⟩ = some v
  zero0 : ∀ k v, zeroF[k]? = some v → W.cell? ⟨w.heap.size + 1, k, none⟩ = some v
  below : Below w.heap.size w W
  lt : w.heap.size + 1 < W.heap.size
theorem OrW.mk' {w W : World} (h1 : W.heap[w.heap.size]? = some (.cells zeroF 42)) (h2 : W.heap[w.heap.size + 1]? = some (.cells zeroF 42)) (h3 : Below w.heap.size w W) (h4 : w.heap.size + 1 < W.heap.size) : OrW w W := by
  refine ⟨h1, fun X k v hv => ?_, fun k v hv => ?_, h3, h4⟩
  · have hb : Below W.heap.size W (W.alloc X) := (Below.refl _ _).alloc (Nat.le_refl _) _
    rw [cell_of_row _ _ k _ _ (0, 0) (by rw [hb.block _ h4]; exact h2)]
    exact hv
  · rw [cell_of_row _ _ k _ _ (0, 0) h2]
    exact hv
theorem OrW.more {w W : World} (h : OrW w W) (X : Obj) (hh : W.heap[w.heap.size + 1]? = some (.cells zeroF 42)) : OrW w (W.alloc X) := by
  have hb : Below W.heap.size W (W.alloc X) := (Below.refl _ _).alloc (Nat.le_refl _) _
  exact OrW.mk' (by rw [hb.block _ (by have := h.lt; omega)]; exact h.res) (by rw [hb.block _ h.lt]; exact hh) (h.below.trans (hb.mono h.below.size)) (Nat.lt_of_lt_of_le h.lt hb.size)

set_option maxHeartbeats 4000000 in
set_option maxRecDepth 50000 in
theorem orf_ok (l : List (Int × Int × Int)) (A : Option Addr) (c : Nat) (w : World) (hA : Recs w A c l fltL) (hl : l.length ≤ 100) :
    Calls Tryz.prog 20 #[.slice A l.length c] w fun e w' => e = .returned (fltV (orF l)) ∧ Below w.heap.size w w' := by
  obtain ⟨W2, hW2⟩ : ∃ W2, W2 = (w.alloc (.cells #[.int .i64 0, .int .i64 0, .int .i64 0] 42)).alloc (.cells #[.int .i64 0, .int .i64 0, .int .i64 0] 42) := ⟨_, rfl⟩
  have hb1 : Below w.heap.size w W2 := by rw [hW2]; exact ((Below.refl _ _).alloc (Nat.le_refl _) _).alloc (by simp) _
  have hs2 : W2.heap.size = w.heap.size + 2 := by rw [hW2]; simp
  have hz2 : W2.heap[w.heap.size + 1]? = some (.cells zeroF 42) := by
    have hs1 : (w.alloc (.cells #[.int .i64 0, .int .i64 0, .int .i64 0] 42)).heap.size = w.heap.size + 1 := by simp
    rw [hW2, ← hs1]
    exact heap_alloc_new _ _
  have hr2 : W2.heap[w.heap.size]? = some (.cells zeroF 42) := by rw [hW2]; exact (by
    have hb : Below (w.alloc (.cells zeroF 42)).heap.size (w.alloc (.cells zeroF 42)) ((w.alloc (.cells zeroF 42)).alloc (.cells zeroF 42)) := (Below.refl _ _).alloc (Nat.le_refl _) _
    exact (hb.block _ (by simp)).trans (heap_alloc_new w _))
  have HW := Lib.hid (OrW.mk' hr2 hz2 hb1 (by omega))
  have HZ := Lib.hid hz2
  have HR := Lib.hid (hA.below (Nat.le_refl _) hb1)
  have HS := Lib.hid hs2
  have HE : Hid (orF (l.drop 0) = orF l) := Lib.hid (by rw [List.drop_zero])
  have HD : Hid (∀ k x, l[k]? = some x → orF (l.drop k) = if fltB x then x else orF (l.drop (k + 1))) := Lib.hid fun k x h => by
    obtain ⟨h1, rfl⟩ := List.getElem?_eq_some_iff.1 h
    exact orF_drop h1
  have HN : Hid (orF (l.drop l.length) = (0, 0, 0)) := Lib.hid (by rw [List.drop_length]; rfl)
  have HBOX := Lib.hid hW2.symm
  generalize hn : l.length = n at *
  have HL := Lib.hid hn
  clear hA hb1 hs2 hz2 hr2 hn hW2
  go_enter Tryz.func20, Tryz.ntmps20
  go_wp2_with fail
  rw [HBOX.out]
  clear HBOX
  go_loopw [8] (fun i wr => ∃ k : Nat, k ≤ n ∧ i = .int .i64 (k : Int) ∧ Hid (orF (l.drop k) = orF l) ∧ Hid (OrW w wr ∧ wr.heap[w.heap.size + 1]? = some (.cells zeroF 42) ∧ Below W2.heap.size W2 wr)) (fun i _ => n - (intOf i).toNat)
  case atStart => exact ⟨0, by omega, rfl, HE, Lib.hid ⟨HW.out, HZ.out, Below.refl _ _⟩⟩
  case round =>
    obtain ⟨k, hk, rfl, he, ho⟩ := hrel
    by_cases hlt : k < n
    · have hki : (k : Int) < (n : Int) := by omega
      have hkl : k < l.length := by have := HL.out; omega
      obtain ⟨b, o, hA5, hb, hcell⟩ := (HR.out.below (Nat.le_refl _) ho.out.2.2).at 3 (fun _ => rfl) (by omega) (i := k) hkl
      have hc0 := hcell 0 _ rfl
      have hc1 := hcell 1 _ rfl
      have hc2 := hcell 2 _ rfl
      have hdk := HD.out k _ (List.getElem?_eq_getElem hkl)
      rw [he.out] at hdk
      obtain ⟨x, hx⟩ : ∃ x, x = l[k] := ⟨_, rfl⟩
      rw [← hx] at hc0 hc1 hc2 hdk
      obtain ⟨x0, x1, x2⟩ := x
      simp only at hc0 hc1 hc2
      rw [Nat.add_zero] at hc0
      have hne := fun W => neqF x0 x1 x2 W
      have hgd : Tryz.prog.eqGuardType Tryz.prog.depth 42 = false := by kernel_rfl
      have z0 : ∀ X, (wr.alloc X).cell? ⟨w.heap.size + 1, 0, none⟩ = some (.int .i64 0) := fun X => ho.out.1.zero X 0 _ rfl
      have z1 : ∀ X, (wr.alloc X).cell? ⟨w.heap.size + 1, 1, none⟩ = some (.int .i64 0) := fun X => ho.out.1.zero X 1 _ rfl
      have z2 : ∀ X, (wr.alloc X).cell? ⟨w.heap.size + 1, 2, none⟩ = some (.int .i64 0) := fun X => ho.out.1.zero X 2 _ rfl
      have HK := Lib.hid hdk
      rw [hA5]
      clear hcell hA5 hx hdk hkl
      cases hfb : fltB (x0, x1, x2) with
      | true =>
        rw [hfb] at hne HK
        have HR2 : Hid (∀ X, (wr.alloc X).heap[w.heap.size]? = some (.cells zeroF 42)) := Lib.hid fun X => by
          have hb : Below wr.heap.size wr (wr.alloc X) := (Below.refl _ _).alloc (Nat.le_refl _) _
          rw [hb.block _ (by have := ho.out.1.lt; omega)]
          exact ho.out.1.res
        have HB : Hid (∀ X, Below w.heap.size w ((wr.alloc X).setRow w.heap.size #[.int .i64 x0, .int .i64 x1, .int .i64 x2])) := Lib.hid fun X => below_setRow (ho.out.1.below.alloc ho.out.1.below.size X) (Nat.le_refl _) _
        clear hfb HD HL he ho
        go_wp2_with ((refine wpList_store_row rfl _ _ _ rfl w.heap.size #[.int .i64 x0, .int .i64 x1, .int .i64 x2] rfl rfl _ _ (HR2.out _) size3 rfl (flt_one (x0, x1, x2)) ?_))
        refine bodyPost_ret (v := .agg #[.int .i64 x0, .int .i64 x1, .int .i64 x2]) ?_ rfl ⟨by rw [HK.out]; rfl, HB.out _⟩
        exact results_cell_row rfl _ _ w.heap.size _ #[.int .i64 x0, .int .i64 x1, .int .i64 x2] _ _ rfl (setRow_heap _ _ _ _ _ _ (HR2.out _)) Tryz.underlying42 rfl size3
      | false =>
        rw [hfb] at hne HK
        clear hfb HD HL
        go_wp2_with fail
        go_roundw
        case rel => exact ⟨k + 1, by omega, by go_num, Lib.hid HK.out.symm, Lib.hid ⟨ho.out.1.more _ ho.out.2.1, by
          have hb := (Below.refl wr.heap.size wr).alloc (Nat.le_refl _) (.cells #[.int .i64 x0, .int .i64 x1, .int .i64 x2] 42)
          rw [hb.block _ ho.out.1.lt]
          exact ho.out.2.1, ho.out.2.2.alloc ho.out.2.2.size _⟩⟩
        case measure => simp [intOf]; omega
    · have hki : ¬ (k : Int) < (n : Int) := by omega
      have hkk : k = n := by omega
      subst hkk
      have HK : Hid (orF l = (0, 0, 0)) := Lib.hid (by rw [← he.out]; exact HN.out)
      have z0 : wr.cell? ⟨w.heap.size + 1, 0, none⟩ = some (.int .i64 0) := ho.out.1.zero0 0 _ rfl
      have z1 : wr.cell? ⟨w.heap.size + 1, 1, none⟩ = some (.int .i64 0) := ho.out.1.zero0 1 _ rfl
      have z2 : wr.cell? ⟨w.heap.size + 1, 2, none⟩ = some (.int .i64 0) := ho.out.1.zero0 2 _ rfl
      have HR2 := Lib.hid ho.out.1.res
      have HB := Lib.hid (below_setRow ho.out.1.below (g := w.heap.size) (Nat.le_refl _) #[.int .i64 0, .int .i64 0, .int .i64 0])
      clear HD HL he ho HN HE hlt
      go_wp2_with ((refine wpList_store_row rfl _ _ _ rfl w.heap.size #[.int .i64 0, .int .i64 0, .int .i64 0] rfl rfl _ _ HR2.out size3 rfl (flt_one (0, 0, 0)) ?_))
      refine bodyPost_ret (v := .agg #[.int .i64 0, .int .i64 0, .int .i64 0]) ?_ rfl ⟨by rw [HK.out]; rfl, HB.out⟩
      exact results_cell_row rfl _ _ w.heap.size _ #[.int .i64 0, .int .i64 0, .int .i64 0] _ _ rfl (setRow_heap wr _ _ _ _ _ HR2.out) Tryz.underlying42 rfl size3

end Go.Proofs.YthdagjlgfffpbaaGreat

/-
  Layer 5 (conf): the program's Check (printed by bin/conf_chk4.py). By the verifier.
-/
set_option linter.unusedVariables false
namespace Go.Proofs.YthdagjlgfffpbaaGreat
open Go.RowKit Go.Lib

theorem or_of (l : List (Int × Int × Int)) {base : Nat} {v : Value} (W : World) (h : OwnC W base 42 3 v l.length (l.flatMap fltL)) (hl : l.length ≤ 100) : Calls Tryz.prog 20 #[v] W fun e w' => e = .returned (fltV (orF l)) ∧ Below W.heap.size W w' := by
  obtain ⟨A, c, rfl, hc, hA, hn, -, -⟩ := h.cells
  exact orf_ok l A c W ⟨hc, hA, by omega, by omega⟩ hl

/-- The first of the four faults is Check's. -/
theorem orF_check (c : ConfR) : orF [crowdV c, firstV 6 1 (atP c.ps) c.ps.length, firstV 6 4 (atT c.ts) c.ts.length, firstV 15 3 (atR c.rs) c.rs.length] = checkV c := by
  have e1 : atP c.ps = badP c := rfl
  have e2 : atT c.ts = badT c := rfl
  have e3 : atR c.rs = badR c := rfl
  have hz : fltB (0, 0, 0) = false := rfl
  have h7 : ∀ y z, fltB (7, y, z) = true := fun y z => by simp [fltB]
  have h6 : ∀ y z, fltB (6, y, z) = true := fun y z => by simp [fltB]
  have h15 : ∀ y z, fltB (15, y, z) = true := fun y z => by simp [fltB]
  rw [e1, e2, e3]
  unfold checkV crowdV firstV
  cases firstTo (overB c) 7 with
  | some j => simp only [orF, h7, if_true]
  | none =>
    cases firstTo (badP c) c.ps.length with
    | some j => simp [orF, h6, hz]
    | none =>
      cases firstTo (badT c) c.ts.length with
      | some j => simp [orF, h6, hz]
      | none =>
        cases firstTo (badR c) c.rs.length with
        | some j => simp [orF, h15, hz]
        | none => simp [orF, hz]

set_option maxHeartbeats 8000000 in
theorem pcheck_ok (c : ConfR) (q : CfgQ) (w : World) (hc : CfgIn w c q) : Calls Tryz.prog 6 #[cfgV c q] w fun e w' => e = .returned (fltV (checkV c)) ∧ Below w.heap.size w w' := by
  obtain ⟨W0, hW0⟩ : ∃ W0, W0 = w.alloc (.cells (cfgA c q) 30) := ⟨_, rfl⟩
  obtain ⟨W1, hW1⟩ : ∃ W1, W1 = W0.alloc (.cells zeroF 42) := ⟨_, rfl⟩
  have hA0 : Below w.heap.size w W0 := by rw [hW0]; exact (Below.refl _ _).alloc (Nat.le_refl _) _
  have hs0 : W0.heap.size = w.heap.size + 1 := by rw [hW0]; simp
  have hA1 : Below W0.heap.size W0 W1 := by rw [hW1]; exact (Below.refl _ _).alloc (Nat.le_refl _) _
  have hs1 : W1.heap.size = w.heap.size + 2 := by rw [hW1]; simp [hs0]
  have hB := hA0.trans (hA1.mono hA0.size)
  have hbox : W1.heap[w.heap.size]? = some (.cells (cfgA c q) 30) := by
    rw [hA1.block _ (by omega), hW0]
    exact heap_alloc_new w _
  have HRES : Hid (∀ W, Below W1.heap.size W1 W → W.heap[w.heap.size + 1]? = some (.cells zeroF 42)) := Lib.hid fun W hW => by
    rw [hW.block _ (by omega), ← hs0, hW1]
    exact heap_alloc_new _ _
  have HP : Hid (∀ W, Below W1.heap.size W1 W → ∀ k v, (#[.int .u64 (c.frame : Int), .slice q.A1 c.ps.length q.c1, .slice q.A2 c.ws.length q.c2, .slice q.A3 c.rs.length q.c3, .slice q.A4 c.ts.length q.c4, .slice q.A5 c.cs.length q.c5] : Array Value)[k]? = some v → W.cell? ⟨w.heap.size, k, none⟩ = some v) := Lib.hid fun W hW k v hv => by
    rw [cell_of_row W _ k (cfgA c q) _ (0, 0) (by rw [hW.block _ (by omega)]; exact hbox)]
    exact hv
  have hcw : ∀ W, Below W1.heap.size W1 W → CfgIn W c q := fun W hW => hc.below (Nat.le_refl _) (hB.trans (hW.mono hB.size))
  have HB := Lib.hid hB
  have HS := Lib.hid hs1
  have H0 : Hid (∀ W, Below W1.heap.size W1 W → Calls Tryz.prog 21 #[.agg #[.int .u64 (c.frame : Int), .slice q.A1 c.ps.length q.c1, .slice q.A2 c.ws.length q.c2, .slice q.A3 c.rs.length q.c3, .slice q.A4 c.ts.length q.c4, .slice q.A5 c.cs.length q.c5]] W fun e w' => e = .returned (fltV (crowdV c)) ∧ Below W.heap.size W w') := Lib.hid fun W hW => crowded_ok c q W (hcw W hW)
  have H1 : Hid (∀ W, Below W1.heap.size W1 W → Calls Tryz.prog 22 #[.int .i64 6, .int .i64 1, .slice q.A1 c.ps.length q.c1, .func (.func 23) #[] #[]] W fun e w' => e = .returned (fltV (firstV 6 1 (atP c.ps) c.ps.length)) ∧ Below W.heap.size W w') := Lib.hid fun W hW => fstP_ok 6 1 c.ps q.A1 q.c1 W (hcw W hW).ps (hcw W hW).okp
  have H2 : Hid (∀ W, Below W1.heap.size W1 W → Calls Tryz.prog 25 #[.int .i64 6, .int .i64 4, .slice q.A4 c.ts.length q.c4, .func (.func 26) #[] #[]] W fun e w' => e = .returned (fltV (firstV 6 4 (atT c.ts) c.ts.length)) ∧ Below W.heap.size W w') := Lib.hid fun W hW => fstT_ok 6 4 c.ts q.A4 q.c4 W (hcw W hW).ts (hcw W hW).okt
  have H3 : Hid (∀ W, Below W1.heap.size W1 W → Calls Tryz.prog 27 #[.int .i64 15, .int .i64 3, .slice q.A3 c.rs.length q.c3, .func (.func 28) #[] #[]] W fun e w' => e = .returned (fltV (firstV 15 3 (atR c.rs) c.rs.length)) ∧ Below W.heap.size W w') := Lib.hid fun W hW => fstR_ok 15 3 c.rs q.A3 q.c3 W (hcw W hW).rs (hcw W hW).okr
  have HCK := Lib.hid (orF_check c)
  have HBOX : Hid ((w.alloc (.cells #[.int .u64 (c.frame : Int), .slice q.A1 c.ps.length q.c1, .slice q.A2 c.ws.length q.c2, .slice q.A3 c.rs.length q.c3, .slice q.A4 c.ts.length q.c4, .slice q.A5 c.cs.length q.c5] 30)).alloc (.cells #[.int .i64 0, .int .i64 0, .int .i64 0] 42) = W1) := Lib.hid (by rw [hW1, hW0]; rfl)
  unfold cfgV
  clear hcw hbox hB hA0 hA1 hs0 hs1 hW0 hW1 hc
  generalize crowdV c = r0 at *
  generalize firstV 6 1 (atP c.ps) c.ps.length = r1 at *
  generalize firstV 6 4 (atT c.ts) c.ts.length = r2 at *
  generalize firstV 15 3 (atR c.rs) c.rs.length = r3 at *
  generalize checkV c = r at *
  generalize (c.frame : Int) = v0 at *
  generalize c.ps.length = n1 at *
  generalize q.A1 = A1 at *
  generalize q.c1 = c1 at *
  generalize c.ws.length = n2 at *
  generalize q.A2 = A2 at *
  generalize q.c2 = c2 at *
  generalize c.rs.length = n3 at *
  generalize q.A3 = A3 at *
  generalize q.c3 = c3 at *
  generalize c.ts.length = n4 at *
  generalize q.A4 = A4 at *
  generalize q.c4 = c4 at *
  generalize c.cs.length = n5 at *
  generalize q.A5 = A5 at *
  generalize q.c5 = c5 at *
  obtain ⟨x0, y0, z0⟩ := r0
  obtain ⟨x1, y1, z1⟩ := r1
  obtain ⟨x2, y2, z2⟩ := r2
  obtain ⟨x3, y3, z3⟩ := r3
  obtain ⟨x, y, z⟩ := r
  simp only [fltV, fltA] at H0 H1 H2 H3
  have HO : Hid (∀ W base v, OwnC W base 42 3 v 4 [.int .i64 x0, .int .i64 y0, .int .i64 z0, .int .i64 x1, .int .i64 y1, .int .i64 z1, .int .i64 x2, .int .i64 y2, .int .i64 z2, .int .i64 x3, .int .i64 y3, .int .i64 z3] → Calls Tryz.prog 20 #[v] W fun e w' => e = .returned (.agg #[.int .i64 x, .int .i64 y, .int .i64 z]) ∧ Below W.heap.size W w') := Lib.hid (fun W base v h => (or_of [(x0, y0, z0), (x1, y1, z1), (x2, y2, z2), (x3, y3, z3)] W h (by simp)).mono fun e w' h => ⟨by rw [h.1, HCK.out]; rfl, h.2⟩)
  have HZ := Lib.hid (fun W (hW : Below W1.heap.size W1 W) => below_setRow (HB.out.trans (hW.mono HB.out.size)) (g := w.heap.size + 1) (by omega) #[.int .i64 x, .int .i64 y, .int .i64 z])
  clear HB
  generalize hb1 : w.heap.size = bz at *
  go_enter Tryz.func6, Tryz.ntmps6
  go_wp2_with fail
  rw [HBOX.out]
  try simp only [hb1]
  clear HBOX
  refine region_invL (fun _ => True) [] W1 [(3, Sp.val (.agg #[.int .u64 v0, .slice A1 n1 c1, .slice A2 n2 c2, .slice A3 n3 c3, .slice A4 n4 c4, .slice A5 n5 c5])), (4, Sp.val (.agg #[.int .i64 x0, .int .i64 y0, .int .i64 z0])), (5, Sp.val (.pointer (some ⟨bz, 1, none⟩))), (6, Sp.val (.slice A1 n1 c1)), (7, Sp.val (.agg #[.int .i64 x1, .int .i64 y1, .int .i64 z1])), (8, Sp.val (.pointer (some ⟨bz, 4, none⟩))), (9, Sp.val (.slice A4 n4 c4)), (10, Sp.val (.agg #[.int .i64 x2, .int .i64 y2, .int .i64 z2])), (11, Sp.val (.pointer (some ⟨bz, 3, none⟩))), (12, Sp.val (.slice A3 n3 c3)), (13, Sp.val (.agg #[.int .i64 x3, .int .i64 y3, .int .i64 z3])), (14, Sp.row 42 3 4 [.int .i64 x0, .int .i64 y0, .int .i64 z0, .int .i64 x1, .int .i64 y1, .int .i64 z1, .int .i64 x2, .int .i64 y2, .int .i64 z2, .int .i64 x3, .int .i64 y3, .int .i64 z3]), (15, Sp.val (.agg #[.int .i64 x, .int .i64 y, .int .i64 z]))] [14] 13 rfl (by kernel_rfl) ?_ trivial (by kernel_rfl) (by kernel_rfl) (by kernel_rfl) ?_ ?_
  case refine_1 => exact (Below.refl _ _).drew
  case refine_2 =>
    refine ⟨?_, ?_, ?_, ?_, ?_, ?_, ?_, ?_, ?_, ?_, ?_, ?_, ?_, trivial⟩
    case refine_1 =>
      refine ⟨_, rfl, Nat.le_of_ble_eq_true rfl, fun listed a W hst hn hdep K hK => ?_⟩
      (have e1 := hst.oldOf hn 1 (by kernel_rfl) rfl; simp only [Array.getD_eq_getD_getElem?] at e1)
      have c0' := (HP.out W hst.glob) 0 _ rfl
      have c1' := (HP.out W hst.glob) 1 _ rfl
      have c2' := (HP.out W hst.glob) 2 _ rfl
      have c3' := (HP.out W hst.glob) 3 _ rfl
      have c4' := (HP.out W hst.glob) 4 _ rfl
      have c5' := (HP.out W hst.glob) 5 _ rfl
      go_simp
      exact hK _ _ (Or.inr (Below.refl _ _)) hst.glob (Sp.of_val rfl) trivial
    case refine_2 =>
      refine ⟨_, rfl, Nat.le_of_ble_eq_true rfl, fun listed a W hst hn hdep K hK => ?_⟩
      (have dd := dep_of hdep 0 (by kernel_rfl); have e1 := hst.valOf 0 3 (by kernel_rfl) dd rfl; clear dd)
      go_simp
      go_wp2_with (go_at_call 21; with_reducible refine (H0.out W hst.glob).mono ?_; rintro e w1 ⟨rfl, hb⟩)
      exact hK _ _ (Or.inr hb) (hst.glob.trans (Below.mono hb hst.glob.size)) (Sp.of_val rfl) trivial
    case refine_3 => (refine ⟨_, rfl, Nat.le_of_ble_eq_true rfl, fun listed a W hst hn hdep K hK => ?_⟩; (have e1 := hst.oldOf hn 1 (by kernel_rfl) rfl; simp only [Array.getD_eq_getD_getElem?] at e1); go_simp; exact hK _ _ (Or.inr (Below.refl _ _)) hst.glob (Sp.of_val rfl) trivial)
    case refine_4 =>
      refine ⟨_, rfl, Nat.le_of_ble_eq_true rfl, fun listed a W hst hn hdep K hK => ?_⟩
      (have dd := dep_of hdep 2 (by kernel_rfl); have e1 := hst.valOf 2 5 (by kernel_rfl) dd rfl; clear dd)
      have c := (HP.out W hst.glob) 1 _ rfl
      go_simp
      exact hK _ _ (Or.inr (Below.refl _ _)) hst.glob (Sp.of_val rfl) trivial
    case refine_5 =>
      refine ⟨_, rfl, Nat.le_of_ble_eq_true rfl, fun listed a W hst hn hdep K hK => ?_⟩
      (have dd := dep_of hdep 3 (by kernel_rfl); have e1 := hst.valOf 3 6 (by kernel_rfl) dd rfl; clear dd)
      go_simp
      go_wp2_with (go_at_call 22; with_reducible refine (H1.out W hst.glob).mono ?_; rintro e w1 ⟨rfl, hb⟩)
      exact hK _ _ (Or.inr hb) (hst.glob.trans (Below.mono hb hst.glob.size)) (Sp.of_val rfl) trivial
    case refine_6 => (refine ⟨_, rfl, Nat.le_of_ble_eq_true rfl, fun listed a W hst hn hdep K hK => ?_⟩; (have e1 := hst.oldOf hn 1 (by kernel_rfl) rfl; simp only [Array.getD_eq_getD_getElem?] at e1); go_simp; exact hK _ _ (Or.inr (Below.refl _ _)) hst.glob (Sp.of_val rfl) trivial)
    case refine_7 =>
      refine ⟨_, rfl, Nat.le_of_ble_eq_true rfl, fun listed a W hst hn hdep K hK => ?_⟩
      (have dd := dep_of hdep 5 (by kernel_rfl); have e1 := hst.valOf 5 8 (by kernel_rfl) dd rfl; clear dd)
      have c := (HP.out W hst.glob) 4 _ rfl
      go_simp
      exact hK _ _ (Or.inr (Below.refl _ _)) hst.glob (Sp.of_val rfl) trivial
    case refine_8 =>
      refine ⟨_, rfl, Nat.le_of_ble_eq_true rfl, fun listed a W hst hn hdep K hK => ?_⟩
      (have dd := dep_of hdep 6 (by kernel_rfl); have e1 := hst.valOf 6 9 (by kernel_rfl) dd rfl; clear dd)
      go_simp
      go_wp2_with (go_at_call 25; with_reducible refine (H2.out W hst.glob).mono ?_; rintro e w1 ⟨rfl, hb⟩)
      exact hK _ _ (Or.inr hb) (hst.glob.trans (Below.mono hb hst.glob.size)) (Sp.of_val rfl) trivial
    case refine_9 => (refine ⟨_, rfl, Nat.le_of_ble_eq_true rfl, fun listed a W hst hn hdep K hK => ?_⟩; (have e1 := hst.oldOf hn 1 (by kernel_rfl) rfl; simp only [Array.getD_eq_getD_getElem?] at e1); go_simp; exact hK _ _ (Or.inr (Below.refl _ _)) hst.glob (Sp.of_val rfl) trivial)
    case refine_10 =>
      refine ⟨_, rfl, Nat.le_of_ble_eq_true rfl, fun listed a W hst hn hdep K hK => ?_⟩
      (have dd := dep_of hdep 8 (by kernel_rfl); have e1 := hst.valOf 8 11 (by kernel_rfl) dd rfl; clear dd)
      have c := (HP.out W hst.glob) 3 _ rfl
      go_simp
      exact hK _ _ (Or.inr (Below.refl _ _)) hst.glob (Sp.of_val rfl) trivial
    case refine_11 =>
      refine ⟨_, rfl, Nat.le_of_ble_eq_true rfl, fun listed a W hst hn hdep K hK => ?_⟩
      (have dd := dep_of hdep 9 (by kernel_rfl); have e1 := hst.valOf 9 12 (by kernel_rfl) dd rfl; clear dd)
      go_simp
      go_wp2_with (go_at_call 27; with_reducible refine (H3.out W hst.glob).mono ?_; rintro e w1 ⟨rfl, hb⟩)
      exact hK _ _ (Or.inr hb) (hst.glob.trans (Below.mono hb hst.glob.size)) (Sp.of_val rfl) trivial
    case refine_12 =>
      refine ⟨_, rfl, Nat.le_of_ble_eq_true rfl, fun listed a W hst hn hdep K hK => ?_⟩
      (have dd := dep_of hdep 1 (by kernel_rfl); have e0 := hst.valOf 1 4 (by kernel_rfl) dd rfl; clear dd)
      (have dd := dep_of hdep 4 (by kernel_rfl); have e1 := hst.valOf 4 7 (by kernel_rfl) dd rfl; clear dd)
      (have dd := dep_of hdep 7 (by kernel_rfl); have e2 := hst.valOf 7 10 (by kernel_rfl) dd rfl; clear dd)
      (have dd := dep_of hdep 10 (by kernel_rfl); have e3 := hst.valOf 10 13 (by kernel_rfl) dd rfl; clear dd)
      go_simp
      have hb : Below W.heap.size W (W.alloc (.cells #[.int .i64 x0, .int .i64 y0, .int .i64 z0, .int .i64 x1, .int .i64 y1, .int .i64 z1, .int .i64 x2, .int .i64 y2, .int .i64 z2, .int .i64 x3, .int .i64 y3, .int .i64 z3] 42)) := (Below.refl _ _).alloc (Nat.le_refl _) _
      exact hK _ _ (Or.inr hb) (hst.glob.trans (Below.mono hb hst.glob.size)) (Sp.of_row rfl (lit_own (n := 4) hst.glob rfl (by unfold maxLen; omega) rfl)) trivial
    case refine_13 =>
      refine ⟨_, rfl, Nat.le_of_ble_eq_true rfl, fun listed a W hst hn hdep K hK => ?_⟩
      (have dd := dep_of hdep 11 (by kernel_rfl); have r1 := hst.rowOf hn 11 14 (by kernel_rfl) dd (by kernel_rfl) rfl; clear dd)
      have HOc := HO.out W _ _ r1.1
      go_simp
      generalize a.tmps[14]?.getD undef = v at HOc ⊢
      go_wp2_with (go_at_call 20; with_reducible refine HOc.mono ?_; rintro e w1 ⟨rfl, hb⟩)
      exact hK _ _ (Or.inr hb) (hst.glob.trans (Below.mono hb hst.glob.size)) (Sp.of_val rfl) trivial
  case refine_3 =>
    intro ok listed a' W ho hst hn hall K hK
    have h2 := hst.oldEnd 2 (by kernel_rfl) rfl
    have h15 := hst.valOf 12 15 (by kernel_rfl) (hall 12 (Nat.le_of_ble_eq_true rfl) (by omega)) rfl
    have hd : a'.defers = [] := hst.defers
    have hg := hst.glob
    have hres := HRES.out W hg
    clear hst hall hn
    have hgd : ok.guard = none := by injection ho with ho; subst ho; rfl
    have hdst : ok.dst = none := by injection ho with ho; subst ho; rfl
    have hop : ok.op = .store 42 (.tmp 2) (.tmp 15) := by injection ho with ho; subst ho; rfl
    rw [if_pos (by simp [Region.wanted, hgd])]
    refine wp_store_row _ _ _ hop (bz + 1) #[.int .i64 x, .int .i64 y, .int .i64 z] ?_ ?_ _ _ hres size3 rfl (flt_one (x, y, z)) (hK _ _ ?_)
    · rw [eval_tmp]; exact h2
    · rw [eval_tmp]; exact h15
    · rw [hdst]
      obtain ⟨tm, df⟩ := a'
      obtain rfl : df = [] := hd
      have HR := Lib.hid hres
      have HZZ := Lib.hid (HZ.out W hg)
      have H2 := Lib.hid h2
      clear ho hgd hdst hop h15 hK hres h2 hg
      go_wp2_with fail
      refine bodyPost_ret (v := .agg #[.int .i64 x, .int .i64 y, .int .i64 z]) ?_ rfl ⟨rfl, HZZ.out⟩
      exact results_cell_row rfl _ _ (bz + 1) _ #[.int .i64 x, .int .i64 y, .int .i64 z] _ _ (by simpa using H2.out) (setRow_heap _ _ _ _ _ _ HR.out) Tryz.underlying42 rfl size3

end Go.Proofs.YthdagjlgfffpbaaGreat
