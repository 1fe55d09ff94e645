/-
  Layer 5 (conf): the program's Clone. By the verifier.
-/
import Derived.Test.YthdagjlgfffpbaaGreatPMer
set_option linter.unusedVariables false
namespace Go.Proofs.YthdagjlgfffpbaaGreat
open Go.RowKit

theorem mergeR_one (c : ConfR) : mergeR c.frame [c] = c := by
  simp [mergeR]

/-- A configuration is handed back. -/
def CfgRes (w : World) (c : ConfR) (e : Ending) (w' : World) : Prop := ∃ q, e = .returned (cfgV c q) ∧ OwnCfg w' w.heap.size c q ∧ Below w.heap.size w w'

/-- A configuration boxed, with a result beside it. -/
structure Bx (w W : World) (cs : Array Value) : Prop where
  x : W.heap[w.heap.size]? = some (.cells cs 30)
  r : W.heap[w.heap.size + 1]? = some (.cells zeroC 30)
  below : Below w.heap.size w W
  lt : w.heap.size + 1 < W.heap.size
theorem bx_start (w : World) (cs : Array Value) : Bx w ((w.alloc (.cells cs 30)).alloc (.cells zeroC 30)) cs := by
  have hA : Below w.heap.size w (w.alloc (.cells cs 30)) := (Below.refl _ _).alloc (Nat.le_refl _) _
  have hB : Below (w.alloc (.cells cs 30)).heap.size (w.alloc (.cells cs 30)) ((w.alloc (.cells cs 30)).alloc (.cells zeroC 30)) := (Below.refl _ _).alloc (Nat.le_refl _) _
  exact ⟨by rw [hB.block _ (by simp)]; exact heap_alloc_new w _, alloc2_row w _ _, hA.trans (hB.mono hA.size), by simp⟩
theorem Bx.more {w W W' : World} {cs : Array Value} (h : Bx w W cs) (hb : Below W.heap.size W W') : Bx w W' cs :=
  ⟨by rw [hb.block _ (by have := h.lt; omega)]; exact h.x, by rw [hb.block _ h.lt]; exact h.r, h.below.trans (hb.mono h.below.size), Nat.lt_of_lt_of_le h.lt hb.size⟩

theorem res_end {w W wr : World} {c : ConfR} {q : CfgQ} {cs : Array Value} (hb : Bx w W cs) (ho : OwnCfg wr W.heap.size c q) (hw : Below W.heap.size W wr) : OwnCfg (wr.setRow (w.heap.size + 1) (cfgA c q)) w.heap.size c q ∧ Below w.heap.size w (wr.setRow (w.heap.size + 1) (cfgA c q)) := by
  have ht : Turn (fun b => b = w.heap.size + 1) wr (wr.setRow (w.heap.size + 1) (cfgA c q)) := ⟨rfl, rfl, rfl, by simp, fun k _ hk => setRow_other wr _ k _ hk⟩
  have hbw := hb.below.trans (hw.mono hb.below.size)
  have h1 := ho.stay ht fun b hb' he => by have := (ho.lt hb').1; have := hb.lt; omega
  refine ⟨⟨h1.ps.base hb.below.size, h1.ws.base hb.below.size, h1.rs.base hb.below.size, h1.ts.base hb.below.size, h1.cs.base hb.below.size, h1.ch, fun x hx => (h1.ds x hx).base hb.below.size, h1.sep⟩, hbw.trans (ht.below (fun b hb => by omega) hbw.size)⟩

set_option maxHeartbeats 4000000 in
theorem clone_ok (c : ConfR) (q : CfgQ) (w : World) (hc : CfgIn w c q) (hs : Small c 1000) : Calls Tryz.prog 9 #[cfgV c q] w fun e w' => CfgRes w c e w' := by
  obtain ⟨W1, hW1⟩ : ∃ W1, W1 = (w.alloc (.cells (cfgA c q) 30)).alloc (.cells zeroC 30) := ⟨_, rfl⟩
  have hbx : Bx w W1 (cfgA c q) := by rw [hW1]; exact bx_start w _
  obtain ⟨W2, hW2⟩ : ∃ W2, W1.alloc (.cells (cfgA c q) 30) = W2 := ⟨_, rfl⟩
  have hb2 : Below W1.heap.size W1 W2 := by rw [← hW2]; exact (Below.refl _ _).alloc (Nat.le_refl _) _
  have hbx2 := hbx.more hb2
  have hcl : Cells W2 (some ⟨W1.heap.size, 0, none⟩) ([(c, q)].flatMap fun p => (cfgA p.1 p.2).toList) := by rw [← hW2]; exact cells_lit W1 _ _ _ (by simp)
  have HM := Lib.hid (merge_ok c.frame [(c, q)] (some ⟨W1.heap.size, 0, none⟩) 1 W2 hcl (fun p hp => by rw [List.mem_singleton] at hp; subst hp; exact ⟨hc.below (Nat.le_refl _) hbx2.below, hs⟩) (by simp))
  change Hid (Calls Tryz.prog 32 #[.int .u64 (c.frame : Int), .slice (some ⟨W1.heap.size, 0, none⟩) 1 1] W2 fun e w' => ∃ q', e = .returned (cfgV (mergeR c.frame [c]) q') ∧ OwnCfg w' W2.heap.size (mergeR c.frame [c]) q' ∧ Below W2.heap.size W2 w') at HM
  rw [mergeR_one] at HM
  have HBX := Lib.hid hbx
  have HBX2 := Lib.hid hbx2
  have hf : W1.cell? ⟨w.heap.size, 0, none⟩ = some (.int .u64 (c.frame : Int)) := cell_of_row _ _ 0 _ _ _ hbx.x
  have hbox : (w.alloc (.cells #[.int .u64 (c.frame : Int), .slice q.A1 c.ps.length q.c1, .slice q.A2 c.ws.length q.c2, .slice q.A3 c.rs.length q.c3, .slice q.A4 c.ts.length q.c4, .slice q.A5 c.cs.length q.c5] 30)).alloc (.cells #[.int .u64 0, .slice none 0 0, .slice none 0 0, .slice none 0 0, .slice none 0 0, .slice none 0 0] 30) = W1 := hW1.symm
  have hbox2 : W1.alloc (.cells #[.int .u64 (c.frame : Int), .slice q.A1 c.ps.length q.c1, .slice q.A2 c.ws.length q.c2, .slice q.A3 c.rs.length q.c3, .slice q.A4 c.ts.length q.c4, .slice q.A5 c.cs.length q.c5] 30) = W2 := hW2
  have hx : W1.heap[w.heap.size]? = some (.cells #[.int .u64 (c.frame : Int), .slice q.A1 c.ps.length q.c1, .slice q.A2 c.ws.length q.c2, .slice q.A3 c.rs.length q.c3, .slice q.A4 c.ts.length q.c4, .slice q.A5 c.cs.length q.c5] 30) := hbx.x
  have HX := Lib.hid hx
  unfold cfgV
  obtain ⟨Z, hZ⟩ : ∃ Z, Z = W1.heap.size := ⟨_, rfl⟩
  have hZ' := hZ.symm
  rw [← hZ] at HM
  clear hc hs hbx hbx2 hcl hb2 hW1 hW2 hZ hx
  go_enter Tryz.func9, Tryz.ntmps9
  go_wp2_with ((with_reducible refine load_cfg rfl (.tmp 1) rfl w.heap.size rfl #[.int .u64 (c.frame : Int), .slice q.A1 c.ps.length q.c1, .slice q.A2 c.ws.length q.c2, .slice q.A3 c.rs.length q.c3, .slice q.A4 c.ts.length q.c4, .slice q.A5 c.cs.length q.c5] rfl HX.out ?_))
  refine HM.out.mono ?_
  rintro e wr ⟨q', rfl, ho, hb⟩
  have HE := Lib.hid (res_end HBX2.out ho hb)
  have hrr := (HBX2.out.more hb).r
  have HR := Lib.hid hrr
  obtain ⟨RV, hRV⟩ : ∃ RV, RV = cfgA c q' := ⟨_, rfl⟩
  have HI : Hid ((Tryz.prog.info? 30).map (·.size) = some RV.size) := Lib.hid (by rw [hRV]; kernel_rfl)
  have HO : Hid (zeroC.size = RV.size ∧ RV.all (·.oneCell') = true) := Lib.hid (by rw [hRV]; refine ⟨rfl, ?_⟩; simp only [cfgA, List.all_toArray, List.all_cons, List.all_nil]; rfl)
  rw [show cfgV c q' = .agg RV by rw [hRV]; rfl]
  rw [← hRV] at HE
  have HRV := Lib.hid hRV
  clear ho hb hrr hRV
  go_wp2_with ((with_reducible refine wpList_store_row rfl _ _ _ rfl (w.heap.size + 1) RV rfl rfl _ _ HR.out HI.out HO.out.1 HO.out.2 ?_))
  refine bodyPost_ret (v := .agg RV) ?_ rfl ⟨q', by rw [HRV.out]; rfl, HE.out.1, HE.out.2⟩
  exact results_cell_row rfl _ _ (w.heap.size + 1) _ RV _ _ rfl (setRow_heap wr _ _ _ _ _ HR.out) Tryz.underlying30 rfl HI.out

end Go.Proofs.YthdagjlgfffpbaaGreat
