/-
  Layer 5 (conf): the program's comparisons of records. By the verifier.
-/
import Derived.Test.YthdagjlgfffpbaaGreatPCmp
import Derived.Test.YthdagjlgfffpbaaGreatMReg
set_option linter.unusedVariables false
namespace Go.Proofs.YthdagjlgfffpbaaGreat
open Go.RowKit

/-- All that was there stands, and orders have been asked for, if at all. -/
def Gd (w w' : World) : Prop := Below w.heap.size w w' ∧ w.drawn ≤ w'.drawn
theorem Gd.refl (w : World) : Gd w w := ⟨Below.refl _ _, Nat.le_refl _⟩
theorem Gd.trans {a b c : World} (h : Gd a b) (k : Gd b c) : Gd a c := ⟨h.1.trans (k.1.mono h.1.size), Nat.le_trans h.2 k.2⟩
theorem Gd.alloc {a w : World} (h : Gd a w) (o : Obj) : Gd a (w.alloc o) := ⟨h.1.alloc h.1.size o, h.2⟩

theorem or_own (l : List Int) {base : Nat} {v : Value} (W : World) (h : OwnC W base 3 1 v l.length (l.map (.int .i64))) (hl : l.length ≤ 1000) : Calls Tryz.prog 75 #[v] W fun e w' => e = .returned (.int .i64 (orI l)) ∧ W = w' := by
  obtain ⟨A, c, rfl, hc, -⟩ := h.cells
  exact or_ok l A c W hc hl

/-- Two values boxed. -/
structure Two (w W1 : World) (bz : Nat) (cx cy : Array Value) : Prop where
  x : ∀ W, Below W1.heap.size W1 W → ∀ k v, cx[k]? = some v → W.cell? ⟨bz, k, none⟩ = some v
  y : ∀ W, Below W1.heap.size W1 W → ∀ k v, cy[k]? = some v → W.cell? ⟨bz + 1, k, none⟩ = some v
  below : Below w.heap.size w W1
  drawn : w.drawn ≤ W1.drawn
theorem two_boxed (w : World) (cx cy : Array Value) (t u : TypeId) : Two w ((w.alloc (.cells cx t)).alloc (.cells cy u)) w.heap.size cx cy := by
  have hA : Below w.heap.size w (w.alloc (.cells cx t)) := (Below.refl _ _).alloc (Nat.le_refl _) _
  have hs : (w.alloc (.cells cx t)).heap.size = w.heap.size + 1 := by simp
  have hB : Below (w.alloc (.cells cx t)).heap.size (w.alloc (.cells cx t)) ((w.alloc (.cells cx t)).alloc (.cells cy u)) := (Below.refl _ _).alloc (Nat.le_refl _) _
  have hz : ((w.alloc (.cells cx t)).alloc (.cells cy u)).heap.size = w.heap.size + 2 := by simp
  refine ⟨fun W hW k v hv => ?_, fun W hW k v hv => ?_, hA.trans (hB.mono hA.size), Nat.le_refl _⟩
  · rw [cell_of_row W _ k cx t (0, 0) (by rw [hW.block _ (by omega), hB.block _ (by omega)]; exact heap_alloc_new w _)]
    exact hv
  · rw [cell_of_row W _ k cy u (0, 0) (by rw [hW.block _ (by omega), ← hs]; exact heap_alloc_new _ _)]
    exact hv

set_option maxHeartbeats 4000000 in
theorem pcmp_ok (a0 b0 : Int) (a1 b1 : ByteArray) (a2 b2 : Int) (a3 b3 : Int) (w : World) :
    Calls Tryz.prog 40 #[.agg #[.int .u16 a0, .string a1, .int .u64 a2, .int .u64 a3], .agg #[.int .u16 b0, .string b1, .int .u64 b2, .int .u64 b3]] w fun e w' => e = .returned (.int .i64 (orI [cmpI a0 b0, cmpS a1 b1, cmpI a2 b2, cmpI a3 b3])) ∧ Gd w w' := by
  have H0 := Lib.hid (fun W => cmp_u16 a0 b0 W)
  have H1 := Lib.hid (fun W => cmp_str a1 b1 W)
  have H2 := Lib.hid (fun W => cmp_u64 a2 b2 W)
  have H3 := Lib.hid (fun W => cmp_u64 a3 b3 W)
  generalize cmpI a0 b0 = r0 at *
  generalize cmpS a1 b1 = r1 at *
  generalize cmpI a2 b2 = r2 at *
  generalize cmpI a3 b3 = r3 at *
  have HO : Hid (∀ W base v, OwnC W base 3 1 v 4 [.int .i64 r0, .int .i64 r1, .int .i64 r2, .int .i64 r3] → Calls Tryz.prog 75 #[v] W fun e w' => e = .returned (.int .i64 (orI [r0, r1, r2, r3])) ∧ W = w') := Lib.hid (fun W base v h => or_own [r0, r1, r2, r3] W h (by simp))
  generalize orI [r0, r1, r2, r3] = r at *
  obtain ⟨W1, hW1⟩ : ∃ W1, W1 = (w.alloc (.cells #[.int .u16 a0, .string a1, .int .u64 a2, .int .u64 a3] 81)).alloc (.cells #[.int .u16 b0, .string b1, .int .u64 b2, .int .u64 b3] 81) := ⟨_, rfl⟩
  have HP : Hid (Two w W1 w.heap.size #[.int .u16 a0, .string a1, .int .u64 a2, .int .u64 a3] #[.int .u16 b0, .string b1, .int .u64 b2, .int .u64 b3]) := Lib.hid (by rw [hW1]; exact two_boxed _ _ _ _ _)
  generalize hb1 : w.heap.size = bz at HP
  have hb2 : w.heap.size + 1 = bz + 1 := by rw [hb1]
  have HB := Lib.hid hb1
  go_enter Tryz.func40, Tryz.ntmps40
  go_wp2_with fail
  rw [← hW1]
  clear hW1 hb1 hb2
  refine region_invG (fun x => W1.drawn ≤ x.drawn) [] W1 [(5, Sp.val (.pointer (some ⟨bz, 0, none⟩))), (6, Sp.val (.pointer (some ⟨bz, 0, none⟩))), (7, Sp.val (.int .u16 a0)), (8, Sp.val (.pointer (some ⟨bz + 1, 0, none⟩))), (9, Sp.val (.pointer (some ⟨bz + 1, 0, none⟩))), (10, Sp.val (.int .u16 b0)), (11, Sp.val (.int .i64 r0)), (12, Sp.val (.pointer (some ⟨bz, 0, none⟩))), (13, Sp.val (.pointer (some ⟨bz, 1, none⟩))), (14, Sp.val (.string a1)), (15, Sp.val (.pointer (some ⟨bz + 1, 0, none⟩))), (16, Sp.val (.pointer (some ⟨bz + 1, 1, none⟩))), (17, Sp.val (.string b1)), (18, Sp.val (.int .i64 r1)), (19, Sp.val (.pointer (some ⟨bz, 0, none⟩))), (20, Sp.val (.pointer (some ⟨bz, 2, none⟩))), (21, Sp.val (.int .u64 a2)), (22, Sp.val (.pointer (some ⟨bz + 1, 0, none⟩))), (23, Sp.val (.pointer (some ⟨bz + 1, 2, none⟩))), (24, Sp.val (.int .u64 b2)), (25, Sp.val (.int .i64 r2)), (26, Sp.val (.pointer (some ⟨bz, 0, none⟩))), (27, Sp.val (.pointer (some ⟨bz, 3, none⟩))), (28, Sp.val (.int .u64 a3)), (29, Sp.val (.pointer (some ⟨bz + 1, 0, none⟩))), (30, Sp.val (.pointer (some ⟨bz + 1, 3, none⟩))), (31, Sp.val (.int .u64 b3)), (32, Sp.val (.int .i64 r3)), (33, Sp.row 3 1 4 [.int .i64 r0, .int .i64 r1, .int .i64 r2, .int .i64 r3]), (34, Sp.val (.int .i64 r)), (4, Sp.val (.int .i64 r))] [33] rfl (by kernel_rfl) ?_ ?_ (by kernel_rfl) ?_ ?_
  case refine_1 => exact (Below.refl _ _).drew
  case refine_2 => exact Nat.le_succ _
  case refine_3 =>
    refine ⟨?_, ?_, ?_, ?_, ?_, ?_, ?_, ?_, ?_, ?_, ?_, ?_, ?_, ?_, ?_, ?_, ?_, ?_, ?_, ?_, ?_, ?_, ?_, ?_, ?_, ?_, ?_, ?_, ?_, ?_, ?_, trivial⟩
    case refine_1 => (refine ⟨_, rfl, Nat.le_of_ble_eq_true rfl, fun listed a W hst hn hdep K hK => ?_⟩; (have e1 := hst.oldOf hn 2 (by kernel_rfl) rfl; simp only [Array.getD_eq_getD_getElem?] at e1); go_simp; exact hK _ _ (Or.inr (Below.refl _ _)) hst.glob (Sp.of_val rfl) hst.extra)
    case refine_2 => (refine ⟨_, rfl, Nat.le_of_ble_eq_true rfl, fun listed a W hst hn hdep K hK => ?_⟩; (have dd := dep_of hdep 0 (by kernel_rfl); have e1 := hst.valOf 0 5 (by kernel_rfl) dd rfl; clear dd); go_simp; exact hK _ _ (Or.inr (Below.refl _ _)) hst.glob (Sp.of_val rfl) hst.extra)
    case refine_3 =>
      refine ⟨_, rfl, Nat.le_of_ble_eq_true rfl, fun listed a W hst hn hdep K hK => ?_⟩
      (have dd := dep_of hdep 1 (by kernel_rfl); have e1 := hst.valOf 1 6 (by kernel_rfl) dd rfl; clear dd)
      have c := (HP.out.x W hst.glob) 0 _ rfl
      go_simp
      exact hK _ _ (Or.inr (Below.refl _ _)) hst.glob (Sp.of_val rfl) hst.extra
    case refine_4 => (refine ⟨_, rfl, Nat.le_of_ble_eq_true rfl, fun listed a W hst hn hdep K hK => ?_⟩; (have e1 := hst.oldOf hn 3 (by kernel_rfl) rfl; simp only [Array.getD_eq_getD_getElem?] at e1); go_simp; exact hK _ _ (Or.inr (Below.refl _ _)) hst.glob (Sp.of_val rfl) hst.extra)
    case refine_5 => (refine ⟨_, rfl, Nat.le_of_ble_eq_true rfl, fun listed a W hst hn hdep K hK => ?_⟩; (have dd := dep_of hdep 3 (by kernel_rfl); have e1 := hst.valOf 3 8 (by kernel_rfl) dd rfl; clear dd); go_simp; exact hK _ _ (Or.inr (Below.refl _ _)) hst.glob (Sp.of_val rfl) hst.extra)
    case refine_6 =>
      refine ⟨_, rfl, Nat.le_of_ble_eq_true rfl, fun listed a W hst hn hdep K hK => ?_⟩
      (have dd := dep_of hdep 4 (by kernel_rfl); have e1 := hst.valOf 4 9 (by kernel_rfl) dd rfl; clear dd)
      have c := (HP.out.y W hst.glob) 0 _ rfl
      go_simp
      exact hK _ _ (Or.inr (Below.refl _ _)) hst.glob (Sp.of_val rfl) hst.extra
    case refine_7 =>
      refine ⟨_, rfl, Nat.le_of_ble_eq_true rfl, fun listed a W hst hn hdep K hK => ?_⟩
      (have dd := dep_of hdep 2 (by kernel_rfl); have e1 := hst.valOf 2 7 (by kernel_rfl) dd rfl; clear dd)
      (have dd := dep_of hdep 5 (by kernel_rfl); have e2 := hst.valOf 5 10 (by kernel_rfl) dd rfl; clear dd)
      go_simp
      go_wp2_with (go_at_call 76; with_reducible refine (H0.out _).mono ?_; rintro e w1 ⟨rfl, rfl⟩)
      exact hK _ _ (Or.inr (Below.refl _ _)) hst.glob (Sp.of_val rfl) hst.extra
    case refine_8 => (refine ⟨_, rfl, Nat.le_of_ble_eq_true rfl, fun listed a W hst hn hdep K hK => ?_⟩; (have e1 := hst.oldOf hn 2 (by kernel_rfl) rfl; simp only [Array.getD_eq_getD_getElem?] at e1); go_simp; exact hK _ _ (Or.inr (Below.refl _ _)) hst.glob (Sp.of_val rfl) hst.extra)
    case refine_9 => (refine ⟨_, rfl, Nat.le_of_ble_eq_true rfl, fun listed a W hst hn hdep K hK => ?_⟩; (have dd := dep_of hdep 7 (by kernel_rfl); have e1 := hst.valOf 7 12 (by kernel_rfl) dd rfl; clear dd); go_simp; exact hK _ _ (Or.inr (Below.refl _ _)) hst.glob (Sp.of_val rfl) hst.extra)
    case refine_10 =>
      refine ⟨_, rfl, Nat.le_of_ble_eq_true rfl, fun listed a W hst hn hdep K hK => ?_⟩
      (have dd := dep_of hdep 8 (by kernel_rfl); have e1 := hst.valOf 8 13 (by kernel_rfl) dd rfl; clear dd)
      have c := (HP.out.x W hst.glob) 1 _ rfl
      go_simp
      exact hK _ _ (Or.inr (Below.refl _ _)) hst.glob (Sp.of_val rfl) hst.extra
    case refine_11 => (refine ⟨_, rfl, Nat.le_of_ble_eq_true rfl, fun listed a W hst hn hdep K hK => ?_⟩; (have e1 := hst.oldOf hn 3 (by kernel_rfl) rfl; simp only [Array.getD_eq_getD_getElem?] at e1); go_simp; exact hK _ _ (Or.inr (Below.refl _ _)) hst.glob (Sp.of_val rfl) hst.extra)
    case refine_12 => (refine ⟨_, rfl, Nat.le_of_ble_eq_true rfl, fun listed a W hst hn hdep K hK => ?_⟩; (have dd := dep_of hdep 10 (by kernel_rfl); have e1 := hst.valOf 10 15 (by kernel_rfl) dd rfl; clear dd); go_simp; exact hK _ _ (Or.inr (Below.refl _ _)) hst.glob (Sp.of_val rfl) hst.extra)
    case refine_13 =>
      refine ⟨_, rfl, Nat.le_of_ble_eq_true rfl, fun listed a W hst hn hdep K hK => ?_⟩
      (have dd := dep_of hdep 11 (by kernel_rfl); have e1 := hst.valOf 11 16 (by kernel_rfl) dd rfl; clear dd)
      have c := (HP.out.y W hst.glob) 1 _ rfl
      go_simp
      exact hK _ _ (Or.inr (Below.refl _ _)) hst.glob (Sp.of_val rfl) hst.extra
    case refine_14 =>
      refine ⟨_, rfl, Nat.le_of_ble_eq_true rfl, fun listed a W hst hn hdep K hK => ?_⟩
      (have dd := dep_of hdep 9 (by kernel_rfl); have e1 := hst.valOf 9 14 (by kernel_rfl) dd rfl; clear dd)
      (have dd := dep_of hdep 12 (by kernel_rfl); have e2 := hst.valOf 12 17 (by kernel_rfl) dd rfl; clear dd)
      go_simp
      go_wp2_with (go_at_call 77; with_reducible refine (H1.out _).mono ?_; rintro e w1 ⟨rfl, rfl⟩)
      exact hK _ _ (Or.inr (Below.refl _ _)) hst.glob (Sp.of_val rfl) hst.extra
    case refine_15 => (refine ⟨_, rfl, Nat.le_of_ble_eq_true rfl, fun listed a W hst hn hdep K hK => ?_⟩; (have e1 := hst.oldOf hn 2 (by kernel_rfl) rfl; simp only [Array.getD_eq_getD_getElem?] at e1); go_simp; exact hK _ _ (Or.inr (Below.refl _ _)) hst.glob (Sp.of_val rfl) hst.extra)
    case refine_16 => (refine ⟨_, rfl, Nat.le_of_ble_eq_true rfl, fun listed a W hst hn hdep K hK => ?_⟩; (have dd := dep_of hdep 14 (by kernel_rfl); have e1 := hst.valOf 14 19 (by kernel_rfl) dd rfl; clear dd); go_simp; exact hK _ _ (Or.inr (Below.refl _ _)) hst.glob (Sp.of_val rfl) hst.extra)
    case refine_17 =>
      refine ⟨_, rfl, Nat.le_of_ble_eq_true rfl, fun listed a W hst hn hdep K hK => ?_⟩
      (have dd := dep_of hdep 15 (by kernel_rfl); have e1 := hst.valOf 15 20 (by kernel_rfl) dd rfl; clear dd)
      have c := (HP.out.x W hst.glob) 2 _ rfl
      go_simp
      exact hK _ _ (Or.inr (Below.refl _ _)) hst.glob (Sp.of_val rfl) hst.extra
    case refine_18 => (refine ⟨_, rfl, Nat.le_of_ble_eq_true rfl, fun listed a W hst hn hdep K hK => ?_⟩; (have e1 := hst.oldOf hn 3 (by kernel_rfl) rfl; simp only [Array.getD_eq_getD_getElem?] at e1); go_simp; exact hK _ _ (Or.inr (Below.refl _ _)) hst.glob (Sp.of_val rfl) hst.extra)
    case refine_19 => (refine ⟨_, rfl, Nat.le_of_ble_eq_true rfl, fun listed a W hst hn hdep K hK => ?_⟩; (have dd := dep_of hdep 17 (by kernel_rfl); have e1 := hst.valOf 17 22 (by kernel_rfl) dd rfl; clear dd); go_simp; exact hK _ _ (Or.inr (Below.refl _ _)) hst.glob (Sp.of_val rfl) hst.extra)
    case refine_20 =>
      refine ⟨_, rfl, Nat.le_of_ble_eq_true rfl, fun listed a W hst hn hdep K hK => ?_⟩
      (have dd := dep_of hdep 18 (by kernel_rfl); have e1 := hst.valOf 18 23 (by kernel_rfl) dd rfl; clear dd)
      have c := (HP.out.y W hst.glob) 2 _ rfl
      go_simp
      exact hK _ _ (Or.inr (Below.refl _ _)) hst.glob (Sp.of_val rfl) hst.extra
    case refine_21 =>
      refine ⟨_, rfl, Nat.le_of_ble_eq_true rfl, fun listed a W hst hn hdep K hK => ?_⟩
      (have dd := dep_of hdep 16 (by kernel_rfl); have e1 := hst.valOf 16 21 (by kernel_rfl) dd rfl; clear dd)
      (have dd := dep_of hdep 19 (by kernel_rfl); have e2 := hst.valOf 19 24 (by kernel_rfl) dd rfl; clear dd)
      go_simp
      go_wp2_with (go_at_call 78; with_reducible refine (H2.out _).mono ?_; rintro e w1 ⟨rfl, rfl⟩)
      exact hK _ _ (Or.inr (Below.refl _ _)) hst.glob (Sp.of_val rfl) hst.extra
    case refine_22 => (refine ⟨_, rfl, Nat.le_of_ble_eq_true rfl, fun listed a W hst hn hdep K hK => ?_⟩; (have e1 := hst.oldOf hn 2 (by kernel_rfl) rfl; simp only [Array.getD_eq_getD_getElem?] at e1); go_simp; exact hK _ _ (Or.inr (Below.refl _ _)) hst.glob (Sp.of_val rfl) hst.extra)
    case refine_23 => (refine ⟨_, rfl, Nat.le_of_ble_eq_true rfl, fun listed a W hst hn hdep K hK => ?_⟩; (have dd := dep_of hdep 21 (by kernel_rfl); have e1 := hst.valOf 21 26 (by kernel_rfl) dd rfl; clear dd); go_simp; exact hK _ _ (Or.inr (Below.refl _ _)) hst.glob (Sp.of_val rfl) hst.extra)
    case refine_24 =>
      refine ⟨_, rfl, Nat.le_of_ble_eq_true rfl, fun listed a W hst hn hdep K hK => ?_⟩
      (have dd := dep_of hdep 22 (by kernel_rfl); have e1 := hst.valOf 22 27 (by kernel_rfl) dd rfl; clear dd)
      have c := (HP.out.x W hst.glob) 3 _ rfl
      go_simp
      exact hK _ _ (Or.inr (Below.refl _ _)) hst.glob (Sp.of_val rfl) hst.extra
    case refine_25 => (refine ⟨_, rfl, Nat.le_of_ble_eq_true rfl, fun listed a W hst hn hdep K hK => ?_⟩; (have e1 := hst.oldOf hn 3 (by kernel_rfl) rfl; simp only [Array.getD_eq_getD_getElem?] at e1); go_simp; exact hK _ _ (Or.inr (Below.refl _ _)) hst.glob (Sp.of_val rfl) hst.extra)
    case refine_26 => (refine ⟨_, rfl, Nat.le_of_ble_eq_true rfl, fun listed a W hst hn hdep K hK => ?_⟩; (have dd := dep_of hdep 24 (by kernel_rfl); have e1 := hst.valOf 24 29 (by kernel_rfl) dd rfl; clear dd); go_simp; exact hK _ _ (Or.inr (Below.refl _ _)) hst.glob (Sp.of_val rfl) hst.extra)
    case refine_27 =>
      refine ⟨_, rfl, Nat.le_of_ble_eq_true rfl, fun listed a W hst hn hdep K hK => ?_⟩
      (have dd := dep_of hdep 25 (by kernel_rfl); have e1 := hst.valOf 25 30 (by kernel_rfl) dd rfl; clear dd)
      have c := (HP.out.y W hst.glob) 3 _ rfl
      go_simp
      exact hK _ _ (Or.inr (Below.refl _ _)) hst.glob (Sp.of_val rfl) hst.extra
    case refine_28 =>
      refine ⟨_, rfl, Nat.le_of_ble_eq_true rfl, fun listed a W hst hn hdep K hK => ?_⟩
      (have dd := dep_of hdep 23 (by kernel_rfl); have e1 := hst.valOf 23 28 (by kernel_rfl) dd rfl; clear dd)
      (have dd := dep_of hdep 26 (by kernel_rfl); have e2 := hst.valOf 26 31 (by kernel_rfl) dd rfl; clear dd)
      go_simp
      go_wp2_with (go_at_call 78; with_reducible refine (H3.out _).mono ?_; rintro e w1 ⟨rfl, rfl⟩)
      exact hK _ _ (Or.inr (Below.refl _ _)) hst.glob (Sp.of_val rfl) hst.extra
    case refine_29 =>
      refine ⟨_, rfl, Nat.le_of_ble_eq_true rfl, fun listed a W hst hn hdep K hK => ?_⟩
      (have dd := dep_of hdep 6 (by kernel_rfl); have e0 := hst.valOf 6 11 (by kernel_rfl) dd rfl; clear dd)
      (have dd := dep_of hdep 13 (by kernel_rfl); have e1 := hst.valOf 13 18 (by kernel_rfl) dd rfl; clear dd)
      (have dd := dep_of hdep 20 (by kernel_rfl); have e2 := hst.valOf 20 25 (by kernel_rfl) dd rfl; clear dd)
      (have dd := dep_of hdep 27 (by kernel_rfl); have e3 := hst.valOf 27 32 (by kernel_rfl) dd rfl; clear dd)
      go_simp
      have hb : Below W.heap.size W (W.alloc (.cells #[.int .i64 r0, .int .i64 r1, .int .i64 r2, .int .i64 r3] 3)) := (Below.refl _ _).alloc (Nat.le_refl _) _
      exact hK _ _ (Or.inr hb) (hst.glob.trans (Below.mono hb hst.glob.size)) (Sp.of_row rfl (lit_own (n := 4) hst.glob rfl (by unfold maxLen; omega) rfl)) hst.extra
    case refine_30 =>
      refine ⟨_, rfl, Nat.le_of_ble_eq_true rfl, fun listed a W hst hn hdep K hK => ?_⟩
      (have dd := dep_of hdep 28 (by kernel_rfl); have r1 := hst.rowOf hn 28 33 (by kernel_rfl) dd (by kernel_rfl) rfl; clear dd)
      have HOc := HO.out W _ _ r1.1
      go_simp
      generalize a.tmps[33]?.getD undef = v at HOc ⊢
      go_wp2_with (go_at_call 75; with_reducible refine HOc.mono ?_; rintro e w1 ⟨rfl, rfl⟩)
      exact hK _ _ (Or.inr (Below.refl _ _)) hst.glob (Sp.of_val rfl) hst.extra
    case refine_31 => (refine ⟨_, rfl, Nat.le_of_ble_eq_true rfl, fun listed a W hst hn hdep K hK => ?_⟩; (have dd := dep_of hdep 29 (by kernel_rfl); have e1 := hst.valOf 29 34 (by kernel_rfl) dd rfl; clear dd); go_simp; exact hK _ _ (Or.inr (Below.refl _ _)) hst.glob (Sp.of_val rfl) hst.extra)
  case refine_4 =>
    rintro ⟨tm, df⟩ w' listed hl hst
    obtain rfl : df = [] := hst.defers
    have hr := hst.valOf 30 4 (by kernel_rfl) (hl 30 (Nat.le_of_ble_eq_true rfl)) rfl
    have hw := hst.glob
    have hd := hst.extra
    clear hst hl
    go_wp2_with fail
    go_ret
    exact ⟨by simp [hr], HP.out.below.trans (hw.mono HP.out.below.size), Nat.le_trans HP.out.drawn hd⟩

set_option maxHeartbeats 4000000 in
theorem wcmp_ok (a0 b0 : Int) (a1 b1 : Int) (a2 b2 : Int) (w : World) :
    Calls Tryz.prog 43 #[.agg #[.int .u64 a0, .int .u64 a1, .int .u16 a2], .agg #[.int .u64 b0, .int .u64 b1, .int .u16 b2]] w fun e w' => e = .returned (.int .i64 (orI [cmpI a0 b0, cmpI a1 b1, cmpI a2 b2])) ∧ Gd w w' := by
  have H0 := Lib.hid (fun W => cmp_u64 a0 b0 W)
  have H1 := Lib.hid (fun W => cmp_u64 a1 b1 W)
  have H2 := Lib.hid (fun W => cmp_u16 a2 b2 W)
  generalize cmpI a0 b0 = r0 at *
  generalize cmpI a1 b1 = r1 at *
  generalize cmpI a2 b2 = r2 at *
  have HO : Hid (∀ W base v, OwnC W base 3 1 v 3 [.int .i64 r0, .int .i64 r1, .int .i64 r2] → Calls Tryz.prog 75 #[v] W fun e w' => e = .returned (.int .i64 (orI [r0, r1, r2])) ∧ W = w') := Lib.hid (fun W base v h => or_own [r0, r1, r2] W h (by simp))
  generalize orI [r0, r1, r2] = r at *
  obtain ⟨W1, hW1⟩ : ∃ W1, W1 = (w.alloc (.cells #[.int .u64 a0, .int .u64 a1, .int .u16 a2] 87)).alloc (.cells #[.int .u64 b0, .int .u64 b1, .int .u16 b2] 87) := ⟨_, rfl⟩
  have HP : Hid (Two w W1 w.heap.size #[.int .u64 a0, .int .u64 a1, .int .u16 a2] #[.int .u64 b0, .int .u64 b1, .int .u16 b2]) := Lib.hid (by rw [hW1]; exact two_boxed _ _ _ _ _)
  generalize hb1 : w.heap.size = bz at HP
  have hb2 : w.heap.size + 1 = bz + 1 := by rw [hb1]
  have HB := Lib.hid hb1
  go_enter Tryz.func43, Tryz.ntmps43
  go_wp2_with fail
  rw [← hW1]
  clear hW1 hb1 hb2
  refine region_invG (fun x => W1.drawn ≤ x.drawn) [] W1 [(5, Sp.val (.pointer (some ⟨bz, 0, none⟩))), (6, Sp.val (.pointer (some ⟨bz, 0, none⟩))), (7, Sp.val (.int .u64 a0)), (8, Sp.val (.pointer (some ⟨bz + 1, 0, none⟩))), (9, Sp.val (.pointer (some ⟨bz + 1, 0, none⟩))), (10, Sp.val (.int .u64 b0)), (11, Sp.val (.int .i64 r0)), (12, Sp.val (.pointer (some ⟨bz, 0, none⟩))), (13, Sp.val (.pointer (some ⟨bz, 1, none⟩))), (14, Sp.val (.int .u64 a1)), (15, Sp.val (.pointer (some ⟨bz + 1, 0, none⟩))), (16, Sp.val (.pointer (some ⟨bz + 1, 1, none⟩))), (17, Sp.val (.int .u64 b1)), (18, Sp.val (.int .i64 r1)), (19, Sp.val (.pointer (some ⟨bz, 0, none⟩))), (20, Sp.val (.pointer (some ⟨bz, 2, none⟩))), (21, Sp.val (.int .u16 a2)), (22, Sp.val (.pointer (some ⟨bz + 1, 0, none⟩))), (23, Sp.val (.pointer (some ⟨bz + 1, 2, none⟩))), (24, Sp.val (.int .u16 b2)), (25, Sp.val (.int .i64 r2)), (26, Sp.row 3 1 3 [.int .i64 r0, .int .i64 r1, .int .i64 r2]), (27, Sp.val (.int .i64 r)), (4, Sp.val (.int .i64 r))] [26] rfl (by kernel_rfl) ?_ ?_ (by kernel_rfl) ?_ ?_
  case refine_1 => exact (Below.refl _ _).drew
  case refine_2 => exact Nat.le_succ _
  case refine_3 =>
    refine ⟨?_, ?_, ?_, ?_, ?_, ?_, ?_, ?_, ?_, ?_, ?_, ?_, ?_, ?_, ?_, ?_, ?_, ?_, ?_, ?_, ?_, ?_, ?_, ?_, trivial⟩
    case refine_1 => (refine ⟨_, rfl, Nat.le_of_ble_eq_true rfl, fun listed a W hst hn hdep K hK => ?_⟩; (have e1 := hst.oldOf hn 2 (by kernel_rfl) rfl; simp only [Array.getD_eq_getD_getElem?] at e1); go_simp; exact hK _ _ (Or.inr (Below.refl _ _)) hst.glob (Sp.of_val rfl) hst.extra)
    case refine_2 => (refine ⟨_, rfl, Nat.le_of_ble_eq_true rfl, fun listed a W hst hn hdep K hK => ?_⟩; (have dd := dep_of hdep 0 (by kernel_rfl); have e1 := hst.valOf 0 5 (by kernel_rfl) dd rfl; clear dd); go_simp; exact hK _ _ (Or.inr (Below.refl _ _)) hst.glob (Sp.of_val rfl) hst.extra)
    case refine_3 =>
      refine ⟨_, rfl, Nat.le_of_ble_eq_true rfl, fun listed a W hst hn hdep K hK => ?_⟩
      (have dd := dep_of hdep 1 (by kernel_rfl); have e1 := hst.valOf 1 6 (by kernel_rfl) dd rfl; clear dd)
      have c := (HP.out.x W hst.glob) 0 _ rfl
      go_simp
      exact hK _ _ (Or.inr (Below.refl _ _)) hst.glob (Sp.of_val rfl) hst.extra
    case refine_4 => (refine ⟨_, rfl, Nat.le_of_ble_eq_true rfl, fun listed a W hst hn hdep K hK => ?_⟩; (have e1 := hst.oldOf hn 3 (by kernel_rfl) rfl; simp only [Array.getD_eq_getD_getElem?] at e1); go_simp; exact hK _ _ (Or.inr (Below.refl _ _)) hst.glob (Sp.of_val rfl) hst.extra)
    case refine_5 => (refine ⟨_, rfl, Nat.le_of_ble_eq_true rfl, fun listed a W hst hn hdep K hK => ?_⟩; (have dd := dep_of hdep 3 (by kernel_rfl); have e1 := hst.valOf 3 8 (by kernel_rfl) dd rfl; clear dd); go_simp; exact hK _ _ (Or.inr (Below.refl _ _)) hst.glob (Sp.of_val rfl) hst.extra)
    case refine_6 =>
      refine ⟨_, rfl, Nat.le_of_ble_eq_true rfl, fun listed a W hst hn hdep K hK => ?_⟩
      (have dd := dep_of hdep 4 (by kernel_rfl); have e1 := hst.valOf 4 9 (by kernel_rfl) dd rfl; clear dd)
      have c := (HP.out.y W hst.glob) 0 _ rfl
      go_simp
      exact hK _ _ (Or.inr (Below.refl _ _)) hst.glob (Sp.of_val rfl) hst.extra
    case refine_7 =>
      refine ⟨_, rfl, Nat.le_of_ble_eq_true rfl, fun listed a W hst hn hdep K hK => ?_⟩
      (have dd := dep_of hdep 2 (by kernel_rfl); have e1 := hst.valOf 2 7 (by kernel_rfl) dd rfl; clear dd)
      (have dd := dep_of hdep 5 (by kernel_rfl); have e2 := hst.valOf 5 10 (by kernel_rfl) dd rfl; clear dd)
      go_simp
      go_wp2_with (go_at_call 78; with_reducible refine (H0.out _).mono ?_; rintro e w1 ⟨rfl, rfl⟩)
      exact hK _ _ (Or.inr (Below.refl _ _)) hst.glob (Sp.of_val rfl) hst.extra
    case refine_8 => (refine ⟨_, rfl, Nat.le_of_ble_eq_true rfl, fun listed a W hst hn hdep K hK => ?_⟩; (have e1 := hst.oldOf hn 2 (by kernel_rfl) rfl; simp only [Array.getD_eq_getD_getElem?] at e1); go_simp; exact hK _ _ (Or.inr (Below.refl _ _)) hst.glob (Sp.of_val rfl) hst.extra)
    case refine_9 => (refine ⟨_, rfl, Nat.le_of_ble_eq_true rfl, fun listed a W hst hn hdep K hK => ?_⟩; (have dd := dep_of hdep 7 (by kernel_rfl); have e1 := hst.valOf 7 12 (by kernel_rfl) dd rfl; clear dd); go_simp; exact hK _ _ (Or.inr (Below.refl _ _)) hst.glob (Sp.of_val rfl) hst.extra)
    case refine_10 =>
      refine ⟨_, rfl, Nat.le_of_ble_eq_true rfl, fun listed a W hst hn hdep K hK => ?_⟩
      (have dd := dep_of hdep 8 (by kernel_rfl); have e1 := hst.valOf 8 13 (by kernel_rfl) dd rfl; clear dd)
      have c := (HP.out.x W hst.glob) 1 _ rfl
      go_simp
      exact hK _ _ (Or.inr (Below.refl _ _)) hst.glob (Sp.of_val rfl) hst.extra
    case refine_11 => (refine ⟨_, rfl, Nat.le_of_ble_eq_true rfl, fun listed a W hst hn hdep K hK => ?_⟩; (have e1 := hst.oldOf hn 3 (by kernel_rfl) rfl; simp only [Array.getD_eq_getD_getElem?] at e1); go_simp; exact hK _ _ (Or.inr (Below.refl _ _)) hst.glob (Sp.of_val rfl) hst.extra)
    case refine_12 => (refine ⟨_, rfl, Nat.le_of_ble_eq_true rfl, fun listed a W hst hn hdep K hK => ?_⟩; (have dd := dep_of hdep 10 (by kernel_rfl); have e1 := hst.valOf 10 15 (by kernel_rfl) dd rfl; clear dd); go_simp; exact hK _ _ (Or.inr (Below.refl _ _)) hst.glob (Sp.of_val rfl) hst.extra)
    case refine_13 =>
      refine ⟨_, rfl, Nat.le_of_ble_eq_true rfl, fun listed a W hst hn hdep K hK => ?_⟩
      (have dd := dep_of hdep 11 (by kernel_rfl); have e1 := hst.valOf 11 16 (by kernel_rfl) dd rfl; clear dd)
      have c := (HP.out.y W hst.glob) 1 _ rfl
      go_simp
      exact hK _ _ (Or.inr (Below.refl _ _)) hst.glob (Sp.of_val rfl) hst.extra
    case refine_14 =>
      refine ⟨_, rfl, Nat.le_of_ble_eq_true rfl, fun listed a W hst hn hdep K hK => ?_⟩
      (have dd := dep_of hdep 9 (by kernel_rfl); have e1 := hst.valOf 9 14 (by kernel_rfl) dd rfl; clear dd)
      (have dd := dep_of hdep 12 (by kernel_rfl); have e2 := hst.valOf 12 17 (by kernel_rfl) dd rfl; clear dd)
      go_simp
      go_wp2_with (go_at_call 78; with_reducible refine (H1.out _).mono ?_; rintro e w1 ⟨rfl, rfl⟩)
      exact hK _ _ (Or.inr (Below.refl _ _)) hst.glob (Sp.of_val rfl) hst.extra
    case refine_15 => (refine ⟨_, rfl, Nat.le_of_ble_eq_true rfl, fun listed a W hst hn hdep K hK => ?_⟩; (have e1 := hst.oldOf hn 2 (by kernel_rfl) rfl; simp only [Array.getD_eq_getD_getElem?] at e1); go_simp; exact hK _ _ (Or.inr (Below.refl _ _)) hst.glob (Sp.of_val rfl) hst.extra)
    case refine_16 => (refine ⟨_, rfl, Nat.le_of_ble_eq_true rfl, fun listed a W hst hn hdep K hK => ?_⟩; (have dd := dep_of hdep 14 (by kernel_rfl); have e1 := hst.valOf 14 19 (by kernel_rfl) dd rfl; clear dd); go_simp; exact hK _ _ (Or.inr (Below.refl _ _)) hst.glob (Sp.of_val rfl) hst.extra)
    case refine_17 =>
      refine ⟨_, rfl, Nat.le_of_ble_eq_true rfl, fun listed a W hst hn hdep K hK => ?_⟩
      (have dd := dep_of hdep 15 (by kernel_rfl); have e1 := hst.valOf 15 20 (by kernel_rfl) dd rfl; clear dd)
      have c := (HP.out.x W hst.glob) 2 _ rfl
      go_simp
      exact hK _ _ (Or.inr (Below.refl _ _)) hst.glob (Sp.of_val rfl) hst.extra
    case refine_18 => (refine ⟨_, rfl, Nat.le_of_ble_eq_true rfl, fun listed a W hst hn hdep K hK => ?_⟩; (have e1 := hst.oldOf hn 3 (by kernel_rfl) rfl; simp only [Array.getD_eq_getD_getElem?] at e1); go_simp; exact hK _ _ (Or.inr (Below.refl _ _)) hst.glob (Sp.of_val rfl) hst.extra)
    case refine_19 => (refine ⟨_, rfl, Nat.le_of_ble_eq_true rfl, fun listed a W hst hn hdep K hK => ?_⟩; (have dd := dep_of hdep 17 (by kernel_rfl); have e1 := hst.valOf 17 22 (by kernel_rfl) dd rfl; clear dd); go_simp; exact hK _ _ (Or.inr (Below.refl _ _)) hst.glob (Sp.of_val rfl) hst.extra)
    case refine_20 =>
      refine ⟨_, rfl, Nat.le_of_ble_eq_true rfl, fun listed a W hst hn hdep K hK => ?_⟩
      (have dd := dep_of hdep 18 (by kernel_rfl); have e1 := hst.valOf 18 23 (by kernel_rfl) dd rfl; clear dd)
      have c := (HP.out.y W hst.glob) 2 _ rfl
      go_simp
      exact hK _ _ (Or.inr (Below.refl _ _)) hst.glob (Sp.of_val rfl) hst.extra
    case refine_21 =>
      refine ⟨_, rfl, Nat.le_of_ble_eq_true rfl, fun listed a W hst hn hdep K hK => ?_⟩
      (have dd := dep_of hdep 16 (by kernel_rfl); have e1 := hst.valOf 16 21 (by kernel_rfl) dd rfl; clear dd)
      (have dd := dep_of hdep 19 (by kernel_rfl); have e2 := hst.valOf 19 24 (by kernel_rfl) dd rfl; clear dd)
      go_simp
      go_wp2_with (go_at_call 76; with_reducible refine (H2.out _).mono ?_; rintro e w1 ⟨rfl, rfl⟩)
      exact hK _ _ (Or.inr (Below.refl _ _)) hst.glob (Sp.of_val rfl) hst.extra
    case refine_22 =>
      refine ⟨_, rfl, Nat.le_of_ble_eq_true rfl, fun listed a W hst hn hdep K hK => ?_⟩
      (have dd := dep_of hdep 6 (by kernel_rfl); have e0 := hst.valOf 6 11 (by kernel_rfl) dd rfl; clear dd)
      (have dd := dep_of hdep 13 (by kernel_rfl); have e1 := hst.valOf 13 18 (by kernel_rfl) dd rfl; clear dd)
      (have dd := dep_of hdep 20 (by kernel_rfl); have e2 := hst.valOf 20 25 (by kernel_rfl) dd rfl; clear dd)
      go_simp
      have hb : Below W.heap.size W (W.alloc (.cells #[.int .i64 r0, .int .i64 r1, .int .i64 r2] 3)) := (Below.refl _ _).alloc (Nat.le_refl _) _
      exact hK _ _ (Or.inr hb) (hst.glob.trans (Below.mono hb hst.glob.size)) (Sp.of_row rfl (lit_own (n := 3) hst.glob rfl (by unfold maxLen; omega) rfl)) hst.extra
    case refine_23 =>
      refine ⟨_, rfl, Nat.le_of_ble_eq_true rfl, fun listed a W hst hn hdep K hK => ?_⟩
      (have dd := dep_of hdep 21 (by kernel_rfl); have r1 := hst.rowOf hn 21 26 (by kernel_rfl) dd (by kernel_rfl) rfl; clear dd)
      have HOc := HO.out W _ _ r1.1
      go_simp
      generalize a.tmps[26]?.getD undef = v at HOc ⊢
      go_wp2_with (go_at_call 75; with_reducible refine HOc.mono ?_; rintro e w1 ⟨rfl, rfl⟩)
      exact hK _ _ (Or.inr (Below.refl _ _)) hst.glob (Sp.of_val rfl) hst.extra
    case refine_24 => (refine ⟨_, rfl, Nat.le_of_ble_eq_true rfl, fun listed a W hst hn hdep K hK => ?_⟩; (have dd := dep_of hdep 22 (by kernel_rfl); have e1 := hst.valOf 22 27 (by kernel_rfl) dd rfl; clear dd); go_simp; exact hK _ _ (Or.inr (Below.refl _ _)) hst.glob (Sp.of_val rfl) hst.extra)
  case refine_4 =>
    rintro ⟨tm, df⟩ w' listed hl hst
    obtain rfl : df = [] := hst.defers
    have hr := hst.valOf 23 4 (by kernel_rfl) (hl 23 (Nat.le_of_ble_eq_true rfl)) rfl
    have hw := hst.glob
    have hd := hst.extra
    clear hst hl
    go_wp2_with fail
    go_ret
    exact ⟨by simp [hr], HP.out.below.trans (hw.mono HP.out.below.size), Nat.le_trans HP.out.drawn hd⟩

end Go.Proofs.YthdagjlgfffpbaaGreat
