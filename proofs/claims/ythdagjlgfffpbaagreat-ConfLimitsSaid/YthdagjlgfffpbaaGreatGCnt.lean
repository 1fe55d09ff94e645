/-
  Layer 5 (conf): the reference's Counts, Limit, Few, Check, Within. By the verifier.
-/
import Derived.Test.YthdagjlgfffpbaaGreatGCfg
import Derived.Deep.LoopGhost
set_option linter.unusedVariables false
namespace Go.Proofs.YthdagjlgfffpbaaGreat
open Go.RowKit

/-- The limit of a section. -/
def limV (s : Int) : Int := if s = 1 then 64 else if s = 5 then 512 else 1024

/-- The seven numbers of Counts. -/
def cntV (c : ConfR) : Value := .agg #[.int .i64 0, .int .i64 (c.ps.length : Int), .int .i64 (c.ws.length : Int), .int .i64 (c.rs.length : Int), .int .i64 (c.ts.length : Int), .int .i64 (c.cs.length : Int), .int .i64 (wrap64 (c.links : Int))]

def linksTo (cs : List ChanR) (k : Nat) : Nat := ((cs.take k).map fun d => d.dests.length).sum

theorem linksTo_succ {cs : List ChanR} {k : Nat} (h : k < cs.length) : linksTo cs (k + 1) = linksTo cs k + cs[k].dests.length := by
  unfold linksTo
  rw [List.take_succ_eq_append_getElem h, List.map_append, List.sum_append]
  simp
theorem linksTo_all (c : ConfR) : linksTo c.cs c.cs.length = c.links := by
  unfold linksTo ConfR.links
  rw [List.take_length]
theorem linksTo_zero (cs : List ChanR) : wrap64 ((linksTo cs 0 : Nat) : Int) = 0 := by simp [linksTo, wrap64]

theorem wrap_add (a b : Int) : wrap64 (wrap64 a + b) = wrap64 (a + b) := by
  unfold wrap64
  omega
theorem wrap_small {a : Int} (h0 : 0 ≤ a) (h1 : a ≤ 9223372036854775807) : wrap64 a = a := by
  unfold wrap64
  omega

/-- The block that a configuration is boxed in. -/
def boxC (w : World) (c : ConfR) (q : CfgQ) : World := w.alloc (.cells #[.int .u64 (c.frame : Int), .slice q.A1 c.ps.length q.c1, .slice q.A2 c.ws.length q.c2, .slice q.A3 c.rs.length q.c3, .slice q.A4 c.ts.length q.c4, .slice q.A5 c.cs.length q.c5] 30)

theorem boxC_below (w : World) (c : ConfR) (q : CfgQ) : Below w.heap.size w (boxC w c q) := (Below.refl _ _).alloc (Nat.le_refl _) _
theorem boxC_size (w : World) (c : ConfR) (q : CfgQ) : w.heap.size < (boxC w c q).heap.size := by simp [boxC]
theorem boxC_heap (w : World) (c : ConfR) (q : CfgQ) : (boxC w c q).heap[w.heap.size]? = some (.cells #[.int .u64 (c.frame : Int), .slice q.A1 c.ps.length q.c1, .slice q.A2 c.ws.length q.c2, .slice q.A3 c.rs.length q.c3, .slice q.A4 c.ts.length q.c4, .slice q.A5 c.cs.length q.c5] 30 (0, 0)) := heap_alloc_new w _

/-- The cells of a boxed configuration. -/
structure BoxIn (W : World) (B : Nat) (c : ConfR) (q : CfgQ) : Prop where
  lt : B < W.heap.size
  b0 : W.cell? ⟨B, 0, none⟩ = some (.int .u64 (c.frame : Int))
  b1 : W.cell? ⟨B, 1, none⟩ = some (.slice q.A1 c.ps.length q.c1)
  b2 : W.cell? ⟨B, 2, none⟩ = some (.slice q.A2 c.ws.length q.c2)
  b3 : W.cell? ⟨B, 3, none⟩ = some (.slice q.A3 c.rs.length q.c3)
  b4 : W.cell? ⟨B, 4, none⟩ = some (.slice q.A4 c.ts.length q.c4)
  b5 : W.cell? ⟨B, 5, none⟩ = some (.slice q.A5 c.cs.length q.c5)

theorem BoxIn.below {W W' : World} {B : Nat} {c : ConfR} {q : CfgQ} (h : BoxIn W B c q) (hb : Below W.heap.size W W') : BoxIn W' B c q :=
  ⟨Nat.lt_of_lt_of_le h.lt hb.size, (bcell hb B _ h.lt).trans h.b0, (bcell hb B _ h.lt).trans h.b1, (bcell hb B _ h.lt).trans h.b2, (bcell hb B _ h.lt).trans h.b3, (bcell hb B _ h.lt).trans h.b4, (bcell hb B _ h.lt).trans h.b5⟩
theorem boxC_in (w : World) (c : ConfR) (q : CfgQ) : BoxIn (boxC w c q) w.heap.size c q := by
  have h := boxC_heap w c q
  refine ⟨boxC_size w c q, ?_, ?_, ?_, ?_, ?_, ?_⟩
  all_goals
    rw [cell_of_row _ _ _ _ _ _ h]
    rfl

theorem size7 : (Tryz.prog.info? 68).map (·.size) = some 7 := by kernel_rfl

set_option maxHeartbeats 4000000 in
theorem counts_ok (c : ConfR) (q : CfgQ) (w : World) (hc : CfgIn w c q) :
    Calls Tryz.prog 31 #[cfgV c q] w fun e w' => e = .returned (cntV c) ∧ Below w.heap.size w w' := by
  obtain ⟨W2, hW2⟩ : ∃ W2, W2 = (w.alloc (.cells #[.int .u64 (c.frame : Int), .slice q.A1 c.ps.length q.c1, .slice q.A2 c.ws.length q.c2, .slice q.A3 c.rs.length q.c3, .slice q.A4 c.ts.length q.c4, .slice q.A5 c.cs.length q.c5] 30)).alloc (.cells #[.int .i64 0, .int .i64 0, .int .i64 0, .int .i64 0, .int .i64 0, .int .i64 0, .int .i64 0] 68) := ⟨_, rfl⟩
  have hA2 : Below (boxC w c q).heap.size (boxC w c q) W2 := by rw [hW2]; exact (Below.refl _ _).alloc (Nat.le_refl _) _
  have hB2 := (boxC_in w c q).below hA2
  have hA := (boxC_below w c q).trans (hA2.mono (boxC_below w c q).size)
  have hs1 : (boxC w c q).heap.size = w.heap.size + 1 := by simp [boxC]
  have hrow : W2.heap[w.heap.size + 1]? = some (.cells #[.int .i64 0, .int .i64 0, .int .i64 0, .int .i64 0, .int .i64 0, .int .i64 0, .int .i64 0] 68 (0, 0)) := by
    rw [← hs1, hW2]
    exact heap_alloc_new _ _
  have HC := Lib.hid (hc.below (Nat.le_refl _) hA)
  have hm5 := hc.cs.max
  have hl5 := hc.len5
  have HALL := Lib.hid (linksTo_all c)
  obtain ⟨b0, -, c1, c2, c3, c4, c5⟩ := hB2
  have HBS := Lib.hid (And.intro hA hrow)
  unfold cfgV
  generalize hn5 : c.cs.length = n5 at *
  have HN5 := Lib.hid hn5
  clear hc hA2 hs1 hA hrow hn5
  go_enter Tryz.func31, Tryz.ntmps31
  go_wp2_with fail
  rw [← hW2]
  clear hW2
  go_loopw [3, 4] (fun n i wr => ∃ k : Nat, k ≤ n5 ∧ i = .int .i64 (k : Int) ∧ n = .int .i64 (wrap64 (linksTo c.cs k : Int)) ∧ wr = W2) (fun _ i _ => n5 - (intOf i).toNat)
  case atStart => exact ⟨0, by omega, rfl, by rw [linksTo_zero], rfl⟩
  case round =>
    obtain ⟨k, hk, rfl, rfl, rfl⟩ := hrel
    by_cases hlt : k < n5
    · have hki : (k : Int) < (n5 : Int) := by omega
      obtain ⟨hq, hqr⟩ := HC.out.chan (i := k) (by have := HN5.out; omega)
      obtain ⟨b, o, hA5, hb, hcell⟩ := HC.out.cs.at 3 chanV_len (by omega) (i := k) hq
      have hc2 := hcell 2 _ rfl
      rw [hqr] at hc2
      have hls := linksTo_succ (cs := c.cs) (k := k) (by have := HN5.out; omega)
      obtain ⟨xa, xc, d, hcd, HS⟩ : ∃ xa xc d, wr.cell? ⟨b, o + k * 3 + 2, none⟩ = some (.slice xa d xc) ∧ Hid (linksTo c.cs (k + 1) = linksTo c.cs k + d) := ⟨_, _, _, hc2, Lib.hid hls⟩
      generalize linksTo c.cs k = s at *
      rw [hA5] at c5
      generalize hws : wrap64 (s : Int) = ws
      have HWS := Lib.hid hws
      clear hcell hc2 hls hq hqr hA5 hws
      go_wp2_with fail
      go_roundw
      case rel => exact ⟨k + 1, by omega, by go_num, by rw [HS.out]; show Value.int IntKind.i64 (wrap64 (ws + (d : Int))) = _; rw [← HWS.out, wrap_add]; rfl, by trivial⟩
      case measure => simp [intOf]; omega
    · have hki : ¬ (k : Int) < (n5 : Int) := by omega
      have hkk : k = n5 := by omega
      subst hkk
      have HL : Hid (linksTo c.cs k = c.links) := HALL
      rw [HL.out]
      obtain ⟨NV, hNV⟩ : ∃ NV : Array Value, NV = #[.int .i64 0, .int .i64 (c.ps.length : Int), .int .i64 (c.ws.length : Int), .int .i64 (c.rs.length : Int), .int .i64 (c.ts.length : Int), .int .i64 (k : Int), .int .i64 (wrap64 (c.links : Int))] := ⟨_, rfl⟩
      have HCN : Hid (cntV c = .agg NV) := Lib.hid (by rw [hNV]; unfold cntV; rw [HN5.out])
      generalize wrap64 (c.links : Int) = nl at *
      generalize c.ps.length = n1 at *
      generalize c.ws.length = n2 at *
      generalize c.rs.length = n3 at *
      generalize c.ts.length = n4 at *
      have HR := Lib.hid HBS.out.2
      have HI : Hid ((Tryz.prog.info? 68).map (·.size) = some NV.size) := Lib.hid (by rw [hNV]; exact size7)
      have HO : Hid ((#[.int .i64 0, .int .i64 0, .int .i64 0, .int .i64 0, .int .i64 0, .int .i64 0, .int .i64 0] : Array Value).size = NV.size ∧ NV.all (·.oneCell') = true) := Lib.hid (by rw [hNV]; refine ⟨rfl, ?_⟩; simp only [List.all_toArray, List.all_cons, List.all_nil]; rfl)
      have HB := Lib.hid (below_setRow HBS.out.1 (g := w.heap.size + 1) (by omega) NV)
      have HNV := Lib.hid hNV
      clear HBS HALL HN5 HL hlt hk hNV
      go_wp2_with ((with_reducible refine wpList_store_row rfl _ _ _ rfl (w.heap.size + 1) NV rfl ?_ _ _ HR.out HI.out HO.out.1 HO.out.2 ?_); exact congrArg Value.agg HNV.out.symm)
      refine bodyPost_ret (v := .agg NV) ?_ rfl ⟨by rw [HCN.out], HB.out⟩
      exact results_cell_row rfl _ _ (w.heap.size + 1) _ NV _ _ rfl (setRow_heap wr _ _ _ _ _ HR.out) Tryz.underlying68 rfl HI.out

theorem limit_ok (s : Int) (w : World) : Calls Tryz.prog 5 #[.int .i64 s] w fun e w' => e = .returned (.int .i64 (limV s)) ∧ w = w' := by
  by_cases h1 : s = 1
  · subst h1
    go_enter Tryz.func5, Tryz.ntmps5
    go_wp2_with fail
    go_ret
    exact ⟨rfl, rfl⟩
  · by_cases h5 : s = 5
    · subst h5
      go_enter Tryz.func5, Tryz.ntmps5
      go_wp2_with fail
      go_ret
      exact ⟨rfl, rfl⟩
    · have hr : limV s = 1024 := by unfold limV; rw [if_neg h1, if_neg h5]
      rw [hr]
      have g1 : (s == 1) = false := by rw [beq_eq_false_iff_ne]; exact h1
      have g5 : (s == 5) = false := by rw [beq_eq_false_iff_ne]; exact h5
      clear hr h1 h5
      go_enter Tryz.func5, Tryz.ntmps5
      go_wp2_with fail
      go_ret
      exact ⟨rfl, rfl⟩

end Go.Proofs.YthdagjlgfffpbaaGreat
