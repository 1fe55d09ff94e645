/-
  The law ConfChecks returns true: for all configurations, Check and Counts return the results of the reference, and the argument is not changed. For every input: no condition. By the verifier.
-/
import Derived.Test.YtfbdehpdnoefjaaGreatPChk1
import Derived.Test.YtfbdehpdnoefjaaGreatPAlv
import Derived.Test.YtfbdehpdnoefjaaGreatLCfg
import Derived.Test.YtfbdehpdnoefjaaGreatRows
import Derived.ChangeMaps5
set_option linter.unusedVariables false
namespace Go.Proofs.YtfbdehpdnoefjaaGreat.LawChecks
open Go.RowKit Go.ChangeShapes Go.WideShapes Go.ChangeAt

theorem getD_bool {l : Array Value} {i : Nat} {b : Bool} (h : l[i]?.getD undef = .bool b) : l[i]? = some (.bool b) := by
  cases hl : l[i]? with
  | none => rw [hl] at h; cases h
  | some v => rw [hl] at h; exact congrArg some h

theorem eqlF (a b c : Int) (w : World) : (binOp .eql 36 (.agg #[.int .i64 a, .int .i64 b, .int .i64 c]) (.agg #[.int .i64 a, .int .i64 b, .int .i64 c])).run Tryz.prog w = .ok (.bool true) w := by
  have u0 := Tryz.underlying3
  have a0 := Tryz.isAgg3
  have z0 := Tryz.sizeOf3
  have hS : Tryz.prog.underlying 36 = some (.struct (Tryz.prog.fieldsOf 36)) := by kernel_rfl
  have hp : Tryz.prog.stoodInHeld 36 = false := by kernel_rfl
  rw [run_eql_struct, show (10000 : Nat) = 9999 + 1 from rfl, run_equalIn_agg w 9999 36 _ _ hS hp]
  simp only [Program.fieldsOf, Tryz.underlying36]
  go_simp

theorem eqi7 (x1 x2 x3 x4 x5 x6 : Int) (w : World) : (Op.equalIn 10000 38 (.agg #[.int .i64 0, .int .i64 x1, .int .i64 x2, .int .i64 x3, .int .i64 x4, .int .i64 x5, .int .i64 x6]) (.agg #[.int .i64 0, .int .i64 x1, .int .i64 x2, .int .i64 x3, .int .i64 x4, .int .i64 x5, .int .i64 x6])).run Tryz.prog w = .ok true w := by
  have hi : ∃ i, Tryz.prog.info? 3 = some i := by
    have : (Tryz.prog.info? 3).isSome = true := by kernel_rfl
    exact Option.isSome_iff_exists.1 this
  obtain ⟨i, hi⟩ := hi
  rw [show (10000 : Nat) = 9999 + 1 from rfl, run_equalIn_array w 9999 _ _ Tryz.underlying38 hi, cells_int, show List.range 7 = [0, 1, 2, 3, 4, 5, 6] from rfl, show (9999 : Nat) = 9998 + 1 from rfl]
  rw [items_int 9998 _ _ w 0 _ 0 0 rfl rfl, items_int 9998 _ _ w 1 _ x1 x1 rfl rfl, items_int 9998 _ _ w 2 _ x2 x2 rfl rfl, items_int 9998 _ _ w 3 _ x3 x3 rfl rfl, items_int 9998 _ _ w 4 _ x4 x4 rfl rfl, items_int 9998 _ _ w 5 _ x5 x5 rfl rfl, items_int 9998 _ _ w 6 _ x6 x6 rfl rfl]
  simp only [BEq.rfl, if_true]
  rfl

set_option maxHeartbeats 8000000 in
set_option maxRecDepth 50000 in
theorem walk (c : ConfR) (q : CfgQ) (w : World) (hc : CfgIn w c q) : Calls Tryz.prog 3 #[cfgV c q] w fun e w' => e = .returned (.bool true) ∧ Below w.heap.size w w' := by
  obtain ⟨W0, hW0⟩ : ∃ W0, W0 = w.alloc (.cells (cfgA c q) 29) := ⟨_, rfl⟩
  have hA0 : Below w.heap.size w W0 := by rw [hW0]; exact (Below.refl _ _).alloc (Nat.le_refl _) _
  have hs0 : W0.heap.size = w.heap.size + 1 := by rw [hW0]; simp
  have hbox : W0.heap[w.heap.size]? = some (.cells (cfgA c q) 29) := by rw [hW0]; exact heap_alloc_new w _
  have hcell : ∀ W, Below W0.heap.size W0 W → ∀ k v, (#[.int .u64 (c.frame : Int), .slice q.A1 c.ps.length q.c1, .slice q.A2 c.ws.length q.c2, .slice q.A3 c.rs.length q.c3, .slice q.A4 c.ts.length q.c4, .slice q.A5 c.cs.length q.c5] : Array Value)[k]? = some v → W.cell? ⟨w.heap.size, k, none⟩ = some v := fun W hW k v hv => by
    rw [cell_of_row W _ k (cfgA c q) _ (0, 0) (by rw [hW.block _ (by omega)]; exact hbox)]
    exact hv
  have hcw : ∀ W, Below W0.heap.size W0 W → CfgIn W c q := fun W hW => hc.below (Nat.le_refl _) (hA0.trans (hW.mono hA0.size))
  have HFE := Lib.hid (few_ok c q W0 (hcw W0 (Below.refl _ _)))
  have HCW := Lib.hid hcw
  have HP0 := Lib.hid hcell
  have HA0 := Lib.hid hA0
  have HBOX : Hid (w.alloc (.cells #[.int .u64 (c.frame : Int), .slice q.A1 c.ps.length q.c1, .slice q.A2 c.ws.length q.c2, .slice q.A3 c.rs.length q.c3, .slice q.A4 c.ts.length q.c4, .slice q.A5 c.cs.length q.c5] 29) = W0) := Lib.hid (by rw [hW0]; rfl)
  unfold cfgV at *
  generalize hfe : fewV c = few at *
  clear hcw hcell hbox hs0 hA0 hW0 hc hfe
  go_enter Tryz.func3, Tryz.ntmps3
  go_wp2_with fail
  rw [HBOX.out]
  have b0 : W0.cell? ⟨w.heap.size, 0, none⟩ = some (.int .u64 (c.frame : Int)) := HP0.out W0 (Below.refl _ _) 0 _ rfl
  have b1 : W0.cell? ⟨w.heap.size, 1, none⟩ = some (.slice q.A1 c.ps.length q.c1) := HP0.out W0 (Below.refl _ _) 1 _ rfl
  have b2 : W0.cell? ⟨w.heap.size, 2, none⟩ = some (.slice q.A2 c.ws.length q.c2) := HP0.out W0 (Below.refl _ _) 2 _ rfl
  have b3 : W0.cell? ⟨w.heap.size, 3, none⟩ = some (.slice q.A3 c.rs.length q.c3) := HP0.out W0 (Below.refl _ _) 3 _ rfl
  have b4 : W0.cell? ⟨w.heap.size, 4, none⟩ = some (.slice q.A4 c.ts.length q.c4) := HP0.out W0 (Below.refl _ _) 4 _ rfl
  have b5 : W0.cell? ⟨w.heap.size, 5, none⟩ = some (.slice q.A5 c.cs.length q.c5) := HP0.out W0 (Below.refl _ _) 5 _ rfl
  go_wp2_with fail
  refine HFE.out.mono ?_
  rintro e w1 ⟨rfl, hb1⟩
  clear b0 b1 b2 b3 b4 b5 HFE HBOX
  have HB1 := Lib.hid hb1
  clear hb1
  cases few with
  | false =>
    go_wp2_with fail
    refine (alive_ok _).mono ?_
    rintro e w2 ⟨rfl, hb2⟩
    have HB2 := Lib.hid hb2
    clear hb2
    go_wp2_with fail
    go_ret
    exact ⟨rfl, HA0.out.trans ((HB1.out.trans (HB2.out.mono HB1.out.size)).mono HA0.out.size)⟩
  | true =>
    have b0 : w1.cell? ⟨w.heap.size, 0, none⟩ = some (.int .u64 (c.frame : Int)) := HP0.out w1 HB1.out 0 _ rfl
    have b1 : w1.cell? ⟨w.heap.size, 1, none⟩ = some (.slice q.A1 c.ps.length q.c1) := HP0.out w1 HB1.out 1 _ rfl
    have b2 : w1.cell? ⟨w.heap.size, 2, none⟩ = some (.slice q.A2 c.ws.length q.c2) := HP0.out w1 HB1.out 2 _ rfl
    have b3 : w1.cell? ⟨w.heap.size, 3, none⟩ = some (.slice q.A3 c.rs.length q.c3) := HP0.out w1 HB1.out 3 _ rfl
    have b4 : w1.cell? ⟨w.heap.size, 4, none⟩ = some (.slice q.A4 c.ts.length q.c4) := HP0.out w1 HB1.out 4 _ rfl
    have b5 : w1.cell? ⟨w.heap.size, 5, none⟩ = some (.slice q.A5 c.cs.length q.c5) := HP0.out w1 HB1.out 5 _ rfl
    have HRK := Lib.hid (check_ok c q w1 (HCW.out w1 HB1.out))
    unfold cfgV ThreeIs at HRK
    generalize hr : checkV c = r at HRK
    have HR := Lib.hid hr
    clear hr
    obtain ⟨x, y, z⟩ := r
    go_wp2_with fail
    refine HRK.out.mono ?_
    rintro e w2 ⟨rfl, hb2⟩
    clear b0 b1 b2 b3 b4 b5 HRK
    have hB2 := HB1.out.trans (hb2.mono HB1.out.size)
    have hcw : ∀ W, Below w2.heap.size w2 W → CfgIn W c q := fun W hW => HCW.out W (hB2.trans (hW.mono hB2.size))
    have HP : Hid (∀ W, Below w2.heap.size w2 W → ∀ k v, (#[.int .u64 (c.frame : Int), .slice q.A1 c.ps.length q.c1, .slice q.A2 c.ws.length q.c2, .slice q.A3 c.rs.length q.c3, .slice q.A4 c.ts.length q.c4, .slice q.A5 c.cs.length q.c5] : Array Value)[k]? = some v → W.cell? ⟨w.heap.size, k, none⟩ = some v) := Lib.hid fun W hW => HP0.out W (hB2.trans (hW.mono hB2.size))
    have HALL := Lib.hid (HA0.out.trans (hB2.mono HA0.out.size))
    have HAL : Hid (∀ W, Below w2.heap.size w2 W → Calls Tryz.prog 10 #[] W fun e w' => e = .returned (.bool true) ∧ Below W.heap.size W w') := Lib.hid fun W _ => alive_ok W
    have HCH : Hid (∀ W, Below w2.heap.size w2 W → Calls Tryz.prog 12 #[.agg #[.int .u64 (c.frame : Int), .slice q.A1 c.ps.length q.c1, .slice q.A2 c.ws.length q.c2, .slice q.A3 c.rs.length q.c3, .slice q.A4 c.ts.length q.c4, .slice q.A5 c.cs.length q.c5]] W fun e w' => e = .returned (.agg #[.int .i64 x, .int .i64 y, .int .i64 z]) ∧ Below W.heap.size W w') := Lib.hid fun W hW => (pcheck_ok c q W (hcw W hW)).mono fun e w' h => ⟨by rw [h.1, HR.out]; rfl, h.2⟩
    have HPC : Hid (∀ W, Below w2.heap.size w2 W → Calls Tryz.prog 13 #[.agg #[.int .u64 (c.frame : Int), .slice q.A1 c.ps.length q.c1, .slice q.A2 c.ws.length q.c2, .slice q.A3 c.rs.length q.c3, .slice q.A4 c.ts.length q.c4, .slice q.A5 c.cs.length q.c5]] W fun e w' => e = .returned (cntV c) ∧ Below W.heap.size W w') := Lib.hid fun W hW => pcounts_ok c q W (hcw W hW)
    have HRC : Hid (∀ W, Below w2.heap.size w2 W → Calls Tryz.prog 14 #[.agg #[.int .u64 (c.frame : Int), .slice q.A1 c.ps.length q.c1, .slice q.A2 c.ws.length q.c2, .slice q.A3 c.rs.length q.c3, .slice q.A4 c.ts.length q.c4, .slice q.A5 c.cs.length q.c5]] W fun e w' => e = .returned (cntV c) ∧ Below W.heap.size W w') := Lib.hid fun W hW => counts_ok c q W (hcw W hW)
    have HEQ := Lib.hid (fun W => eqlF x y z W)
    unfold cntV at HPC HRC
    generalize (c.ps.length : Int) = n1 at HPC HRC
    generalize (c.ws.length : Int) = n2 at HPC HRC
    generalize (c.rs.length : Int) = n3 at HPC HRC
    generalize (c.ts.length : Int) = n4 at HPC HRC
    generalize (c.cs.length : Int) = n5 at HPC HRC
    generalize wrap64 (c.links : Int) = n6 at HPC HRC
    have HE7 : Hid (∀ W : World, (Op.equalIn 10000 38 (.agg #[.int .i64 0, .int .i64 n1, .int .i64 n2, .int .i64 n3, .int .i64 n4, .int .i64 n5, .int .i64 n6]) (.agg #[.int .i64 0, .int .i64 n1, .int .i64 n2, .int .i64 n3, .int .i64 n4, .int .i64 n5, .int .i64 n6])).run Tryz.prog W = .ok true W) := Lib.hid fun W => eqi7 n1 n2 n3 n4 n5 n6 W
    clear hcw hB2 hb2 HCW HP0 HR HA0 HB1
    obtain ⟨W1, hW1⟩ : ∃ W1, W1 = w2 := ⟨_, rfl⟩
    go_wp2_with fail
    refine region_inv [] w2 [(16, Sp.val (.bool true)), (17, Sp.val (.bool true)), (18, Sp.val (.agg #[.int .u64 (c.frame : Int), .slice q.A1 c.ps.length q.c1, .slice q.A2 c.ws.length q.c2, .slice q.A3 c.rs.length q.c3, .slice q.A4 c.ts.length q.c4, .slice q.A5 c.cs.length q.c5])), (19, Sp.val (.agg #[.int .i64 x, .int .i64 y, .int .i64 z])), (20, Sp.val (.int .i64 x)), (21, Sp.val (.int .i64 y)), (22, Sp.val (.int .i64 z)), (23, Sp.val (.agg #[.int .i64 x, .int .i64 y, .int .i64 z])), (24, Sp.val (.bool true)), (25, Sp.val (.bool true)), (26, Sp.val (.bool true)), (27, Sp.val (.agg #[.int .u64 (c.frame : Int), .slice q.A1 c.ps.length q.c1, .slice q.A2 c.ws.length q.c2, .slice q.A3 c.rs.length q.c3, .slice q.A4 c.ts.length q.c4, .slice q.A5 c.cs.length q.c5])), (28, Sp.val (.agg #[.int .i64 0, .int .i64 n1, .int .i64 n2, .int .i64 n3, .int .i64 n4, .int .i64 n5, .int .i64 n6])), (29, Sp.val (.agg #[.int .u64 (c.frame : Int), .slice q.A1 c.ps.length q.c1, .slice q.A2 c.ws.length q.c2, .slice q.A3 c.rs.length q.c3, .slice q.A4 c.ts.length q.c4, .slice q.A5 c.cs.length q.c5])), (30, Sp.val (.agg #[.int .i64 0, .int .i64 n1, .int .i64 n2, .int .i64 n3, .int .i64 n4, .int .i64 n5, .int .i64 n6])), (31, Sp.val (.bool true)), (32, Sp.val (.bool true)), (2, Sp.val (.bool true))] [] rfl (by kernel_rfl) ?_ (by kernel_rfl) ?_ ?_
    case refine_1 => exact (Below.refl _ _).drew
    case refine_2 =>
      refine ⟨?_, ?_, ?_, ?_, ?_, ?_, ?_, ?_, ?_, ?_, ?_, ?_, ?_, ?_, ?_, ?_, ?_, ?_, trivial⟩
      case refine_1 =>
        refine ⟨_, rfl, Nat.le_of_ble_eq_true rfl, fun listed a W hst hn hdep K hK => ?_⟩
        go_simp
        go_wp2_with (go_at_call 10; with_reducible refine (HAL.out W hst.glob).mono ?_; rintro e w1 ⟨rfl, hb⟩)
        exact hK _ _ (Or.inr hb) (hst.glob.trans (Below.mono hb hst.glob.size)) (Sp.of_val rfl) trivial
      case refine_2 => (refine ⟨_, rfl, Nat.le_of_ble_eq_true rfl, fun listed a W hst hn hdep K hK => ?_⟩; (have dd := dep_of hdep 0 (by kernel_rfl); have e1 := hst.valOf 0 16 (by kernel_rfl) dd rfl; clear dd); go_simp; exact hK _ _ (Or.inr (Below.refl _ _)) hst.glob (Sp.of_val rfl) trivial)
      case refine_3 =>
        refine ⟨_, rfl, Nat.le_of_ble_eq_true rfl, fun listed a W hst hn hdep K hK => ?_⟩
        (have dd := dep_of hdep 1 (by kernel_rfl); have g1 := hst.valOf 1 17 (by kernel_rfl) dd rfl; clear dd)
        have g2 := getD_bool g1
        (have e1 := hst.oldOf hn 1 (by kernel_rfl) rfl; simp only [Array.getD_eq_getD_getElem?] at e1)
        have c0' := (HP.out W hst.glob) 0 _ rfl
        have c1' := (HP.out W hst.glob) 1 _ rfl
        have c2' := (HP.out W hst.glob) 2 _ rfl
        have c3' := (HP.out W hst.glob) 3 _ rfl
        have c4' := (HP.out W hst.glob) 4 _ rfl
        have c5' := (HP.out W hst.glob) 5 _ rfl
        go_simp
        exact hK _ _ (Or.inr (Below.refl _ _)) hst.glob (Sp.of_val rfl) trivial
      case refine_4 =>
        refine ⟨_, rfl, Nat.le_of_ble_eq_true rfl, fun listed a W hst hn hdep K hK => ?_⟩
        (have dd := dep_of hdep 1 (by kernel_rfl); have g1 := hst.valOf 1 17 (by kernel_rfl) dd rfl; clear dd)
        have g2 := getD_bool g1
        (have dd := dep_of hdep 2 (by kernel_rfl); have e1 := hst.valOf 2 18 (by kernel_rfl) dd rfl; clear dd)
        go_simp
        go_wp2_with (go_at_call 12; with_reducible refine (HCH.out W hst.glob).mono ?_; rintro e w1 ⟨rfl, hb⟩)
        exact hK _ _ (Or.inr hb) (hst.glob.trans (Below.mono hb hst.glob.size)) (Sp.of_val rfl) trivial
      case refine_5 =>
        refine ⟨_, rfl, Nat.le_of_ble_eq_true rfl, fun listed a W hst hn hdep K hK => ?_⟩
        (have dd := dep_of hdep 1 (by kernel_rfl); have g1 := hst.valOf 1 17 (by kernel_rfl) dd rfl; clear dd)
        have g2 := getD_bool g1
        (have e1 := hst.oldOf hn 3 (by kernel_rfl) rfl; simp only [Array.getD_eq_getD_getElem?] at e1)
        go_simp
        exact hK _ _ (Or.inr (Below.refl _ _)) hst.glob (Sp.of_val rfl) trivial
      case refine_6 =>
        refine ⟨_, rfl, Nat.le_of_ble_eq_true rfl, fun listed a W hst hn hdep K hK => ?_⟩
        (have dd := dep_of hdep 1 (by kernel_rfl); have g1 := hst.valOf 1 17 (by kernel_rfl) dd rfl; clear dd)
        have g2 := getD_bool g1
        (have e1 := hst.oldOf hn 4 (by kernel_rfl) rfl; simp only [Array.getD_eq_getD_getElem?] at e1)
        go_simp
        exact hK _ _ (Or.inr (Below.refl _ _)) hst.glob (Sp.of_val rfl) trivial
      case refine_7 =>
        refine ⟨_, rfl, Nat.le_of_ble_eq_true rfl, fun listed a W hst hn hdep K hK => ?_⟩
        (have dd := dep_of hdep 1 (by kernel_rfl); have g1 := hst.valOf 1 17 (by kernel_rfl) dd rfl; clear dd)
        have g2 := getD_bool g1
        (have e1 := hst.oldOf hn 5 (by kernel_rfl) rfl; simp only [Array.getD_eq_getD_getElem?] at e1)
        go_simp
        exact hK _ _ (Or.inr (Below.refl _ _)) hst.glob (Sp.of_val rfl) trivial
      case refine_8 =>
        refine ⟨_, rfl, Nat.le_of_ble_eq_true rfl, fun listed a W hst hn hdep K hK => ?_⟩
        (have dd := dep_of hdep 1 (by kernel_rfl); have g1 := hst.valOf 1 17 (by kernel_rfl) dd rfl; clear dd)
        have g2 := getD_bool g1
        (have dd := dep_of hdep 4 (by kernel_rfl); have e0 := hst.valOf 4 20 (by kernel_rfl) dd rfl; clear dd)
        (have dd := dep_of hdep 5 (by kernel_rfl); have e1 := hst.valOf 5 21 (by kernel_rfl) dd rfl; clear dd)
        (have dd := dep_of hdep 6 (by kernel_rfl); have e2 := hst.valOf 6 22 (by kernel_rfl) dd rfl; clear dd)
        go_simp
        exact hK _ _ (Or.inr (Below.refl _ _)) hst.glob (Sp.of_val rfl) trivial
      case refine_9 =>
        refine ⟨_, rfl, Nat.le_of_ble_eq_true rfl, fun listed a W hst hn hdep K hK => ?_⟩
        (have dd := dep_of hdep 1 (by kernel_rfl); have g1 := hst.valOf 1 17 (by kernel_rfl) dd rfl; clear dd)
        have g2 := getD_bool g1
        (have dd := dep_of hdep 3 (by kernel_rfl); have e0 := hst.valOf 3 19 (by kernel_rfl) dd rfl; clear dd)
        (have dd := dep_of hdep 7 (by kernel_rfl); have e1 := hst.valOf 7 23 (by kernel_rfl) dd rfl; clear dd)
        have hq := HEQ.out W
        have hgd : Tryz.prog.eqGuardType Tryz.prog.depth 36 = false := by kernel_rfl
        go_simp
        exact hK _ _ (Or.inr (Below.refl _ _)) hst.glob (Sp.of_val rfl) trivial
      case refine_10 =>
        refine ⟨_, rfl, Nat.le_of_ble_eq_true rfl, fun listed a W hst hn hdep K hK => ?_⟩
        (have dd := dep_of hdep 1 (by kernel_rfl); have e0 := hst.valOf 1 17 (by kernel_rfl) dd rfl; clear dd)
        (have dd := dep_of hdep 8 (by kernel_rfl); have e1 := hst.valOf 8 24 (by kernel_rfl) dd rfl; clear dd)
        go_simp
        exact hK _ _ (Or.inr (Below.refl _ _)) hst.glob (Sp.of_val rfl) trivial
      case refine_11 => (refine ⟨_, rfl, Nat.le_of_ble_eq_true rfl, fun listed a W hst hn hdep K hK => ?_⟩; (have dd := dep_of hdep 9 (by kernel_rfl); have e1 := hst.valOf 9 25 (by kernel_rfl) dd rfl; clear dd); go_simp; exact hK _ _ (Or.inr (Below.refl _ _)) hst.glob (Sp.of_val rfl) trivial)
      case refine_12 =>
        refine ⟨_, rfl, Nat.le_of_ble_eq_true rfl, fun listed a W hst hn hdep K hK => ?_⟩
        (have dd := dep_of hdep 10 (by kernel_rfl); have g1 := hst.valOf 10 26 (by kernel_rfl) dd rfl; clear dd)
        have g2 := getD_bool g1
        (have e1 := hst.oldOf hn 1 (by kernel_rfl) rfl; simp only [Array.getD_eq_getD_getElem?] at e1)
        have c0' := (HP.out W hst.glob) 0 _ rfl
        have c1' := (HP.out W hst.glob) 1 _ rfl
        have c2' := (HP.out W hst.glob) 2 _ rfl
        have c3' := (HP.out W hst.glob) 3 _ rfl
        have c4' := (HP.out W hst.glob) 4 _ rfl
        have c5' := (HP.out W hst.glob) 5 _ rfl
        go_simp
        exact hK _ _ (Or.inr (Below.refl _ _)) hst.glob (Sp.of_val rfl) trivial
      case refine_13 =>
        refine ⟨_, rfl, Nat.le_of_ble_eq_true rfl, fun listed a W hst hn hdep K hK => ?_⟩
        (have dd := dep_of hdep 10 (by kernel_rfl); have g1 := hst.valOf 10 26 (by kernel_rfl) dd rfl; clear dd)
        have g2 := getD_bool g1
        (have dd := dep_of hdep 11 (by kernel_rfl); have e1 := hst.valOf 11 27 (by kernel_rfl) dd rfl; clear dd)
        go_simp
        go_wp2_with (go_at_call 13; with_reducible refine (HPC.out W hst.glob).mono ?_; rintro e w1 ⟨rfl, hb⟩)
        exact hK _ _ (Or.inr hb) (hst.glob.trans (Below.mono hb hst.glob.size)) (Sp.of_val rfl) trivial
      case refine_14 =>
        refine ⟨_, rfl, Nat.le_of_ble_eq_true rfl, fun listed a W hst hn hdep K hK => ?_⟩
        (have dd := dep_of hdep 10 (by kernel_rfl); have g1 := hst.valOf 10 26 (by kernel_rfl) dd rfl; clear dd)
        have g2 := getD_bool g1
        (have e1 := hst.oldOf hn 1 (by kernel_rfl) rfl; simp only [Array.getD_eq_getD_getElem?] at e1)
        have c0' := (HP.out W hst.glob) 0 _ rfl
        have c1' := (HP.out W hst.glob) 1 _ rfl
        have c2' := (HP.out W hst.glob) 2 _ rfl
        have c3' := (HP.out W hst.glob) 3 _ rfl
        have c4' := (HP.out W hst.glob) 4 _ rfl
        have c5' := (HP.out W hst.glob) 5 _ rfl
        go_simp
        exact hK _ _ (Or.inr (Below.refl _ _)) hst.glob (Sp.of_val rfl) trivial
      case refine_15 =>
        refine ⟨_, rfl, Nat.le_of_ble_eq_true rfl, fun listed a W hst hn hdep K hK => ?_⟩
        (have dd := dep_of hdep 10 (by kernel_rfl); have g1 := hst.valOf 10 26 (by kernel_rfl) dd rfl; clear dd)
        have g2 := getD_bool g1
        (have dd := dep_of hdep 13 (by kernel_rfl); have e1 := hst.valOf 13 29 (by kernel_rfl) dd rfl; clear dd)
        go_simp
        go_wp2_with (go_at_call 14; with_reducible refine (HRC.out W hst.glob).mono ?_; rintro e w1 ⟨rfl, hb⟩)
        exact hK _ _ (Or.inr hb) (hst.glob.trans (Below.mono hb hst.glob.size)) (Sp.of_val rfl) trivial
      case refine_16 =>
        refine ⟨_, rfl, Nat.le_of_ble_eq_true rfl, fun listed a W hst hn hdep K hK => ?_⟩
        (have dd := dep_of hdep 10 (by kernel_rfl); have g1 := hst.valOf 10 26 (by kernel_rfl) dd rfl; clear dd)
        have g2 := getD_bool g1
        (have dd := dep_of hdep 12 (by kernel_rfl); have e0 := hst.valOf 12 28 (by kernel_rfl) dd rfl; clear dd)
        (have dd := dep_of hdep 14 (by kernel_rfl); have e1 := hst.valOf 14 30 (by kernel_rfl) dd rfl; clear dd)
        have hq := HE7.out W
        have hgd : Tryz.prog.eqGuardType Tryz.prog.depth 38 = false := by kernel_rfl
        go_simp
        exact hK _ _ (Or.inr (Below.refl _ _)) hst.glob (Sp.of_val rfl) trivial
      case refine_17 =>
        refine ⟨_, rfl, Nat.le_of_ble_eq_true rfl, fun listed a W hst hn hdep K hK => ?_⟩
        (have dd := dep_of hdep 10 (by kernel_rfl); have e0 := hst.valOf 10 26 (by kernel_rfl) dd rfl; clear dd)
        (have dd := dep_of hdep 15 (by kernel_rfl); have e1 := hst.valOf 15 31 (by kernel_rfl) dd rfl; clear dd)
        go_simp
        exact hK _ _ (Or.inr (Below.refl _ _)) hst.glob (Sp.of_val rfl) trivial
      case refine_18 => (refine ⟨_, rfl, Nat.le_of_ble_eq_true rfl, fun listed a W hst hn hdep K hK => ?_⟩; (have dd := dep_of hdep 16 (by kernel_rfl); have e1 := hst.valOf 16 32 (by kernel_rfl) dd rfl; clear dd); go_simp; exact hK _ _ (Or.inr (Below.refl _ _)) hst.glob (Sp.of_val rfl) trivial)
    case refine_3 =>
      rintro ⟨tm, df⟩ w' listed hl hst
      obtain rfl : df = [] := hst.defers
      have hr := hst.valOf 17 2 (by kernel_rfl) (hl 17 (Nat.le_of_ble_eq_true rfl)) rfl
      have hw := hst.glob
      clear hst hl
      go_wp2_with fail
      go_ret
      exact ⟨by simp [hr], HALL.out.trans (hw.mono HALL.out.size)⟩

theorem own : ownKnob Tryz.prog.godebug = none := by kernel_rfl

set_option maxRecDepth 100000 in
theorem lifted (os : Os) (started : os.Started) (H : Type) (enc : TypeId × Value → H) :
    ReturnsInHanded {} Tryz.checked os 3 .any (Rows.confChecksSpec.pre6 enc Tryz.prog Tryz.f3 Rows.confChecksRow.domain false) (Rows.confChecksSpec.post enc Tryz.prog Tryz.f3 false true false false) := by
  refine returnsInHanded_of_change (C := Tryz.checked) own started (by kernel_rfl) Tryz.func3
    (ChangeSpec.witness6 (enc := enc) (C := Tryz.checked) false ⟨#[], #[.agg #[.int .u64 0, .slice none 0 0, .slice none 0 0, .slice none 0 0, .slice none 0 0, .slice none 0 0]], []⟩ 8 (by kernel_rfl) (by kernel_rfl) (by kernel_rfl) (by kernel_rfl)) ?_
  intro W base args ds gs before hval0 hW hcnd _
  have hval : ∀ (j : Nat) t v, Tryz.f3.params[j]? = some t → args[j]? = some v → Value.okWide Tryz.prog W .any base t v := hval0
  have hW' := hW
  obtain ⟨p, q, hA0, hV, rfl, hfz, hnd⟩ := hW
  have hA : DataW.TrodAll enc Tryz.prog W 0 (fun _ => true) true Tryz.f3.params.toList args.toList ds p := hA0
  rw [Tryz.params3] at hA hval
  obtain ⟨v0, vs0, d0, ds0, p0, q0, hargs, rfl, rfl, h0, r0⟩ := trodAll_cons hA
  obtain ⟨rfl, rfl, rfl⟩ := trodAll_nil r0
  obtain rfl : args = #[v0] := by cases args; simp_all
  obtain ⟨rfl, rfl⟩ := trodVars_none hV
  obtain ⟨c, q, rfl, hci⟩ := open_cfg (hval 0 29 v0 rfl rfl) h0
  clear hA0 hval0
  simp only [List.append_nil] at hW'
  refine (walk c q W hci).mono fun e W' ⟨he, hg⟩ => ?_
  subst he
  exact law_post (by kernel_rfl) rfl rfl (by kernel_rfl) (by kernel_rfl) Tryz.underlying4 hW' hg

/-- WHAT IS PROVED. -/
theorem proved : Rows.ConfChecksSaid :=
  OpenClaim.holds_of_wide 3 Tryz.f3 rfl rfl rfl rfl rfl rfl rfl ⟨rfl, rfl, rfl, rfl, rfl⟩ rfl rfl rfl rfl rfl (by kernel_rfl) Tryz.func3 (by kernel_rfl)
    (of_decide_eq_true (by kernel_rfl)) (by unfold Func.isWrapper; first | (rw [if_pos (by decide +kernel)]; kernel_rfl) | (rw [if_neg (by decide +kernel)]; exact ⟨rfl, rfl⟩))
    (fun os started H enc _ => lifted os started H enc)

end Go.Proofs.YtfbdehpdnoefjaaGreat.LawChecks
