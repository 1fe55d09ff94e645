/-
  Layer 5 (conf): the program's IsNormal. By the verifier.
-/
import Derived.Test.YthdagjlgfffpbaaGreatPNof
import Derived.Deep.RegionWith
set_option linter.unusedVariables false
namespace Go.Proofs.YthdagjlgfffpbaaGreat
open Go.RowKit Go.Sort

theorem Small.more {c : ConfR} {n m : Nat} (h : Small c n) (hm : n ≤ m) : Small c m :=
  ⟨Nat.le_trans h.ps hm, Nat.le_trans h.ws hm, Nat.le_trans h.rs hm, Nat.le_trans h.ts hm, Nat.le_trans h.cs hm, fun x hx => Nat.le_trans (h.ds x hx) hm⟩

set_option maxHeartbeats 4000000 in
theorem isn_ok (c : ConfR) (q : CfgQ) (w : World) (hc : CfgIn w c q) (hs : Small c 1000) (hS : c.cs = [] ∨ SortU16) : Calls Tryz.prog 29 #[cfgV c q] w fun e w' => e = .returned (.bool (sameV c (normR c))) ∧ Below w.heap.size w w' := by
  obtain ⟨W1, hW1⟩ : ∃ W1, W1 = w.alloc (.cells (cfgA c q) 30) := ⟨_, rfl⟩
  have hb1 : Below w.heap.size w W1 := by rw [hW1]; exact (Below.refl _ _).alloc (Nat.le_refl _) _
  have HX : Hid (∀ W, Below W1.heap.size W1 W → ∀ k, W.cell? ⟨w.heap.size, k, none⟩ = (cfgA c q)[k]?) := Lib.hid (fun W hW k => by rw [hW1] at hW; exact par_cell hW k)
  have HN : Hid (∀ W, Below W1.heap.size W1 W → Calls Tryz.prog 17 #[cfgV c q] W fun e w' => ∃ n s, NormOf c n ∧ e = .returned (cfgV n s) ∧ OwnCfg w' W.heap.size n s ∧ Below W.heap.size W w') := Lib.hid (fun W hW => (normal_ok c q W ((hc.below (Nat.le_refl _) hb1).below (Nat.le_refl _) hW) hs hS).mono fun e w' h => by
    obtain ⟨n, hn, s, he, ho, hb⟩ := h
    exact ⟨n, s, hn, he, ho, hb⟩)
  have HS : Hid (∀ W n s, Below W1.heap.size W1 W → NormOf c n → CfgIn W n s → Calls Tryz.prog 19 #[cfgV c q, cfgV n s] W fun e w' => e = .returned (.bool (sameV c (normR c))) ∧ Below W.heap.size W w') := Lib.hid (fun W n s hW hn hin => (psame_ok c n q s W ((hc.below (Nat.le_refl _) hb1).below (Nat.le_refl _) hW) hin hs.ds (hn.small hs).ds).mono fun e w' h => ⟨by rw [h.1, sameV_right (hn.same (normR_of c))], h.2.1⟩)
  have HK : Hid (∀ n s W B, NormOf c n → OwnCfg W B n s → CfgIn W n s) := Lib.hid (fun n s W B hn ho => ho.cfg (hn.nums hc.nums) (hn.small hs) (by omega))
  have HB := Lib.hid hb1
  generalize sameV c (normR c) = r at *
  have hbox : w.alloc (.cells #[.int .u64 (c.frame : Int), .slice q.A1 c.ps.length q.c1, .slice q.A2 c.ws.length q.c2, .slice q.A3 c.rs.length q.c3, .slice q.A4 c.ts.length q.c4, .slice q.A5 c.cs.length q.c5] 30) = W1 := hW1.symm
  unfold cfgV at *
  clear hc hs hS hb1 hW1
  go_enter Tryz.func29, Tryz.ntmps29
  have x0 : W1.cell? ⟨w.heap.size, 0, none⟩ = some (.int .u64 (c.frame : Int)) := HX.out _ (Below.refl _ _) 0; have x1 : W1.cell? ⟨w.heap.size, 1, none⟩ = some (.slice q.A1 c.ps.length q.c1) := HX.out _ (Below.refl _ _) 1; have x2 : W1.cell? ⟨w.heap.size, 2, none⟩ = some (.slice q.A2 c.ws.length q.c2) := HX.out _ (Below.refl _ _) 2; have x3 : W1.cell? ⟨w.heap.size, 3, none⟩ = some (.slice q.A3 c.rs.length q.c3) := HX.out _ (Below.refl _ _) 3; have x4 : W1.cell? ⟨w.heap.size, 4, none⟩ = some (.slice q.A4 c.ts.length q.c4) := HX.out _ (Below.refl _ _) 4; have x5 : W1.cell? ⟨w.heap.size, 5, none⟩ = some (.slice q.A5 c.cs.length q.c5) := HX.out _ (Below.refl _ _) 5
  go_wp2_with fail
  go_region_with (first
    | (go_at_call 17; refine (HN.out _ ?_).mono ?_; exact (Below.refl _ _).drew; rintro e w1 ⟨n, s, hn, rfl, ho, hb⟩; have hb2 : Below W1.heap.size W1 w1 := (Below.refl _ _).drew.trans hb; have HNN := Lib.hid hn; have HCI := Lib.hid (HK.out n s _ _ hn ho); have HB2 := Lib.hid hb2; have y0 : w1.cell? ⟨w.heap.size, 0, none⟩ = some (.int .u64 (c.frame : Int)) := HX.out _ hb2 0; have y1 : w1.cell? ⟨w.heap.size, 1, none⟩ = some (.slice q.A1 c.ps.length q.c1) := HX.out _ hb2 1; have y2 : w1.cell? ⟨w.heap.size, 2, none⟩ = some (.slice q.A2 c.ws.length q.c2) := HX.out _ hb2 2; have y3 : w1.cell? ⟨w.heap.size, 3, none⟩ = some (.slice q.A3 c.rs.length q.c3) := HX.out _ hb2 3; have y4 : w1.cell? ⟨w.heap.size, 4, none⟩ = some (.slice q.A4 c.ts.length q.c4) := HX.out _ hb2 4; have y5 : w1.cell? ⟨w.heap.size, 5, none⟩ = some (.slice q.A5 c.cs.length q.c5) := HX.out _ hb2 5; clear hn ho hb hb2)
    | (go_at_call 19; refine (HS.out _ n s ?_ HNN.out ?_).mono ?_; exact HB2.out; exact HCI.out; rintro e w2 ⟨rfl, hb3⟩; have HB3 := Lib.hid hb3; clear hb3))
  all_goals
    go_wp2_with fail
    go_ret
    exact ⟨by first | rfl | simp [Act.put], HB.out.trans ((HB2.out.trans (HB3.out.mono HB2.out.size)).mono HB.out.size)⟩

end Go.Proofs.YthdagjlgfffpbaaGreat
