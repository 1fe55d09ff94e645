/-
  Layer 5 (conf): the program's Counts. By the verifier.
-/
import Derived.Test.YthdagjlgfffpbaaGreatGCnt
set_option linter.unusedVariables false
namespace Go.Proofs.YthdagjlgfffpbaaGreat
open Go.RowKit

set_option maxHeartbeats 4000000 in
theorem pcounts_ok (c : ConfR) (q : CfgQ) (w : World) (hc : CfgIn w c q) :
    Calls Tryz.prog 30 #[cfgV c q] w fun e w' => e = .returned (cntV c) ∧ Below w.heap.size w w' := by
  obtain ⟨W2, hW2⟩ : ∃ W2, W2 = (w.alloc (.cells #[.int .u64 (c.frame : Int), .slice q.A1 c.ps.length q.c1, .slice q.A2 c.ws.length q.c2, .slice q.A3 c.rs.length q.c3, .slice q.A4 c.ts.length q.c4, .slice q.A5 c.cs.length q.c5] 30)).alloc (.cells #[.int .i64 0, .int .i64 0, .int .i64 0, .int .i64 0, .int .i64 0, .int .i64 0, .int .i64 0] 68) := ⟨_, rfl⟩
  have hA2 : Below (boxC w c q).heap.size (boxC w c q) W2 := by rw [hW2]; exact (Below.refl _ _).alloc (Nat.le_refl _) _
  have hB2 := (boxC_in w c q).below hA2
  have hA := (boxC_below w c q).trans (hA2.mono (boxC_below w c q).size)
  have hs1 : (boxC w c q).heap.size = w.heap.size + 1 := by simp [boxC]
  have hs2 : W2.heap.size = w.heap.size + 2 := by rw [hW2]; simp
  have hrow : W2.heap[w.heap.size + 1]? = some (.cells #[.int .i64 0, .int .i64 0, .int .i64 0, .int .i64 0, .int .i64 0, .int .i64 0, .int .i64 0] 68 (0, 0)) := by
    rw [← hs1, hW2]
    exact heap_alloc_new _ _
  have HC := Lib.hid (hc.below (Nat.le_refl _) hA)
  have hm5 := hc.cs.max
  have hl5 := hc.len5
  have HALL := Lib.hid (linksTo_all c)
  have HB2 := Lib.hid hB2
  have HBS := Lib.hid (And.intro hA (And.intro hrow hs2))
  have HC2 := Lib.hid hB2.b5
  have b5 := hB2.b5
  unfold cfgV
  generalize hn5 : c.cs.length = n5 at *
  have HN5 := Lib.hid hn5
  clear hc hA2 hs1 hs2 hA hrow hn5 hB2
  go_enter Tryz.func30, Tryz.ntmps30
  go_wp2_with fail
  rw [← hW2]
  clear hW2 b5 HC2
  go_loopw [3, 9] (fun n i wr => ∃ k : Nat, k ≤ n5 ∧ i = .int .i64 (k : Int) ∧ n = .int .i64 (wrap64 (linksTo c.cs k : Int)) ∧ Hid (Below W2.heap.size W2 wr)) (fun _ i _ => n5 - (intOf i).toNat)
  case atStart => exact ⟨0, by omega, rfl, by rw [linksTo_zero], Lib.hid (Below.refl _ _)⟩
  case round =>
    obtain ⟨k, hk, rfl, rfl, ho⟩ := hrel
    by_cases hlt : k < n5
    · have hki : (k : Int) < (n5 : Int) := by omega
      obtain ⟨hq, hqr⟩ := HC.out.chan (i := k) (by have := HN5.out; omega)
      obtain ⟨b, o, hA5, hb, hcell⟩ := (HC.out.cs.below (Nat.le_refl _) ho.out).at 3 chanV_len (by omega) (i := k) hq
      have hc0 := hcell 0 _ rfl
      have hc1 := hcell 1 _ rfl
      have hc2 := hcell 2 _ rfl
      rw [hqr] at hc2
      have hls := linksTo_succ (cs := c.cs) (k := k) (by have := HN5.out; omega)
      obtain ⟨xa, xc, d, hcd, HS⟩ : ∃ xa xc d, wr.cell? ⟨b, o + k * 3 + 2, none⟩ = some (.slice xa d xc) ∧ Hid (linksTo c.cs (k + 1) = linksTo c.cs k + d) := ⟨_, _, _, hc2, Lib.hid hls⟩
      rw [Nat.add_zero] at hc0
      generalize linksTo c.cs k = s at *
      generalize q.ch[k].r.id = y0 at *
      generalize q.ch[k].r.src = y1 at *
      rw [hA5]
      generalize hws : wrap64 (s : Int) = ws
      have HWS := Lib.hid hws
      clear hcell hc2 hls hq hqr hA5 hws
      go_wp2_with fail
      go_roundw
      case rel => exact ⟨k + 1, by omega, by go_num, by rw [HS.out]; show Value.int IntKind.i64 (wrap64 (ws + (d : Int))) = _; rw [← HWS.out, wrap_add]; rfl, Lib.hid (ho.out.alloc ho.out.size _)⟩
      case measure => simp [intOf]; omega
    · have hki : ¬ (k : Int) < (n5 : Int) := by omega
      have hkk : k = n5 := by omega
      subst hkk
      have HL : Hid (linksTo c.cs k = c.links) := HALL
      rw [HL.out]
      obtain ⟨-, -, c1, c2, c3, c4, c5⟩ := HB2.out.below ho.out
      have hrow : wr.heap[w.heap.size + 1]? = some (.cells #[.int .i64 0, .int .i64 0, .int .i64 0, .int .i64 0, .int .i64 0, .int .i64 0, .int .i64 0] 68 (0, 0)) := by
        rw [ho.out.block _ (by have := HBS.out.2.2; omega)]
        exact HBS.out.2.1
      have hbel : Below w.heap.size w wr := HBS.out.1.trans (ho.out.mono HBS.out.1.size)
      rw [HN5.out] at c5
      obtain ⟨NV, hNV⟩ : ∃ NV : Array Value, NV = #[.int .i64 0, .int .i64 (c.ps.length : Int), .int .i64 (c.ws.length : Int), .int .i64 (c.rs.length : Int), .int .i64 (c.ts.length : Int), .int .i64 (k : Int), .int .i64 (wrap64 (c.links : Int))] := ⟨_, rfl⟩
      have HCN : Hid (cntV c = .agg NV) := Lib.hid (by rw [hNV]; unfold cntV; rw [HN5.out])
      generalize wrap64 (c.links : Int) = nl at *
      generalize c.ps.length = n1 at *
      generalize c.ws.length = n2 at *
      generalize c.rs.length = n3 at *
      generalize c.ts.length = n4 at *
      have HR := Lib.hid hrow
      have HI : Hid ((Tryz.prog.info? 68).map (·.size) = some NV.size) := Lib.hid (by rw [hNV]; exact size7)
      have HO : Hid ((#[.int .i64 0, .int .i64 0, .int .i64 0, .int .i64 0, .int .i64 0, .int .i64 0, .int .i64 0] : Array Value).size = NV.size ∧ NV.all (·.oneCell') = true) := Lib.hid (by rw [hNV]; refine ⟨rfl, ?_⟩; simp only [List.all_toArray, List.all_cons, List.all_nil]; rfl)
      have HB := Lib.hid (below_setRow hbel (g := w.heap.size + 1) (by omega) NV)
      have HNV := Lib.hid hNV
      clear HBS HALL HN5 HL hlt hk hNV hrow hbel ho HB2
      go_wp2_with ((with_reducible refine wpList_store_row rfl _ _ _ rfl (w.heap.size + 1) NV rfl ?_ _ _ HR.out HI.out HO.out.1 HO.out.2 ?_); exact congrArg Value.agg HNV.out.symm)
      refine bodyPost_ret (v := .agg NV) ?_ rfl ⟨by rw [HCN.out], HB.out⟩
      exact results_cell_row rfl _ _ (w.heap.size + 1) _ NV _ _ rfl (setRow_heap wr _ _ _ _ _ HR.out) Tryz.underlying68 rfl HI.out

end Go.Proofs.YthdagjlgfffpbaaGreat
