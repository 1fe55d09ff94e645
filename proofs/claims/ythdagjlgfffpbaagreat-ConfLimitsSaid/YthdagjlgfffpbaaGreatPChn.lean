/-
  Layer 5 (conf): the program's comparisons of records. By the verifier.
-/
import Derived.Test.YthdagjlgfffpbaaGreatPRec
import Derived.Test.YthdagjlgfffpbaaGreatGDest
set_option linter.unusedVariables false
namespace Go.Proofs.YthdagjlgfffpbaaGreat
open Go.RowKit


/-- The comparison of two lists of destinations. -/
def cmpD : List Nat → List Nat → Int
  | [], [] => 0
  | [], _ :: _ => -1
  | _ :: _, [] => 1
  | a :: x, b :: y => if (a : Int) < b then -1 else if (b : Int) < a then 1 else cmpD x y

theorem cmpD_take : ∀ (k : Nat) (x y : List Nat), k ≤ x.length → k ≤ y.length → x.take k = y.take k → cmpD x y = cmpD (x.drop k) (y.drop k)
  | 0, x, y, _, _, _ => rfl
  | k + 1, [], y, h, _, _ => by simp at h
  | k + 1, a :: x, [], _, h, _ => by simp at h
  | k + 1, a :: x, b :: y, hx, hy, h => by
    simp only [List.take_succ_cons, List.cons.injEq] at h
    obtain ⟨rfl, h⟩ := h
    rw [cmpD, if_neg (by omega), if_neg (by omega)]
    exact cmpD_take k x y (by simpa using hx) (by simpa using hy) h
theorem cmpD_at {k : Nat} {x y : List Nat} (hx : k < x.length) (hy : k < y.length) (h : x.take k = y.take k) (hne : cmpI (x.getD k 0 : Int) (y.getD k 0 : Int) ≠ 0) : cmpD x y = cmpI (x.getD k 0 : Int) (y.getD k 0 : Int) := by
  rw [cmpD_take k x y (by omega) (by omega) h, List.drop_eq_getElem_cons hx, List.drop_eq_getElem_cons hy]
  have e1 : x.getD k 0 = x[k] := by simp [List.getD, hx]
  have e2 : y.getD k 0 = y[k] := by simp [List.getD, hy]
  rw [e1, e2] at hne ⊢
  unfold cmpI at hne ⊢
  rw [cmpD]
  split
  · rfl
  · split
    · rfl
    · rename_i h1 h2
      rw [if_neg h1, if_neg h2] at hne
      exact absurd rfl hne
theorem cmpI_zero {a b : Nat} (h : cmpI (a : Int) (b : Int) = 0) : a = b := by
  unfold cmpI at h
  split at h
  · cases h
  · split at h
    · cases h
    · omega
theorem cmpD_short {k : Nat} {x y : List Nat} (hx : k < x.length) (hy : k = y.length) (h : x.take k = y.take k) : cmpD x y = 1 := by
  rw [cmpD_take k x y (by omega) (by omega) h, List.drop_eq_getElem_cons hx, show y.drop k = [] from List.drop_of_length_le (by omega)]
  rfl
theorem cmpD_end {x y : List Nat} (hy : x.length ≤ y.length) (h : x = y.take x.length) : cmpD x y = if x.length < y.length then -1 else 0 := by
  rw [cmpD_take x.length x y (Nat.le_refl _) hy (by rw [List.take_length]; exact h), List.drop_length]
  split
  · rename_i hl
    rw [List.drop_eq_getElem_cons hl]
    rfl
  · rename_i hl
    rw [List.drop_of_length_le (by omega)]
    rfl

set_option maxHeartbeats 4000000 in
theorem scmp_ok (l m : List Nat) (A B : Option Addr) (p q : Nat) (w : World) (hA : Cells w A (l.map U16)) (hB : Cells w B (m.map U16)) (hl : l.length ≤ 1000) (hm : m.length ≤ 1000) :
    Calls Tryz.prog 90 #[.slice A l.length p, .slice B m.length q] w fun e w' => e = .returned (.int .i64 (cmpD l m)) ∧ w = w' := by
  have HA := Lib.hid (fun (k : Nat) (hk : k < l.length) => cells_num16 hA (Below.refl _ _) hk)
  have HB := Lib.hid (fun (k : Nat) (hk : k < m.length) => cells_num16 hB (Below.refl _ _) hk)
  have HC := Lib.hid (fun x y W => cmp_u16 x y W)
  clear hA hB
  go_enter Tryz.func90, Tryz.ntmps90
  go_wp2_with fail
  go_loopw [5, 6, 7, 8, 11] (fun _ _ _ _ i wr => ∃ k : Nat, k ≤ l.length ∧ k ≤ m.length ∧ i = .int .i64 (k : Int) ∧ wr = w ∧ Hid (l.take k = m.take k)) (fun _ _ _ _ i _ => l.length - (intOf i).toNat)
  case atStart => exact ⟨0, by omega, by omega, rfl, rfl, Lib.hid rfl⟩
  case round =>
    obtain ⟨k, hk, hkm, rfl, rfl, ho⟩ := hrel
    by_cases hlt : k < l.length
    · have hki : (k : Int) < (l.length : Int) := by omega
      have hwk : wrap64 ((k : Int) + 1) = (k : Int) + 1 := by unfold wrap64; omega
      obtain ⟨b, o, rfl, hc⟩ := HA.out k hlt
      by_cases hlt2 : k < m.length
      · have hkj : ¬ (m.length : Int) ≤ (k : Int) := by omega
        have hkj2 : (k : Int) < (m.length : Int) := by omega
        obtain ⟨b2, o2, rfl, hc2⟩ := HB.out k hlt2
        have HAT := Lib.hid (cmpD_at hlt hlt2 ho.out)
        have HNX := Lib.hid (fun h => take_next hlt hlt2 ho.out (cmpI_zero h))
        have HCC := Lib.hid (HC.out ((l.getD k 0 : Nat) : Int) ((m.getD k 0 : Nat) : Int))
        generalize l.getD k 0 = x at *
        generalize m.getD k 0 = y at *
        generalize cmpI (x : Int) (y : Int) = z at *
        by_cases hz : z = 0
        · have HN2 := Lib.hid (HNX.out hz)
          subst hz
          clear HNX HAT
          go_wp2_with (go_at_call 76; refine (HCC.out _).mono ?_; rintro e w' ⟨rfl, rfl⟩)
          go_roundw
          case rel => exact ⟨k + 1, by omega, by omega, by go_num, by trivial, HN2⟩
          case measure => simp [intOf]; omega
        · have HE := Lib.hid (HAT.out hz)
          clear HNX HAT
          go_wp2_with (go_at_call 76; refine (HCC.out _).mono ?_; rintro e w' ⟨rfl, rfl⟩)
          go_ret
          exact ⟨by rw [HE.out]; simp, rfl⟩
      · have hkj : (m.length : Int) ≤ (k : Int) := by omega
        have HE := Lib.hid (cmpD_short hlt (show k = m.length by omega) ho.out)
        go_wp2_with fail
        go_ret
        exact ⟨by rw [HE.out]; simp, rfl⟩
    · have hki : ¬ (k : Int) < (l.length : Int) := by omega
      have hkk : k = l.length := by omega
      subst hkk
      have HE := Lib.hid (cmpD_end hkm (by have := ho.out; rwa [List.take_length] at this))
      by_cases h2 : l.length < m.length
      · have h2i : (l.length : Int) < (m.length : Int) := by omega
        go_wp2_with fail
        go_ret
        exact ⟨by rw [HE.out, if_pos h2]; simp, rfl⟩
      · have h2i : ¬ (l.length : Int) < (m.length : Int) := by omega
        go_wp2_with fail
        go_ret
        exact ⟨by rw [HE.out, if_neg h2]; simp, rfl⟩

set_option maxHeartbeats 4000000 in
theorem ccmp_ok (a0 b0 : Int) (a1 b1 : Int) (A2 B2 : Option Addr) (l2 m2 : List Nat) (p2 q2 : Nat) (w : World) (hA : Cells w A2 (l2.map U16)) (hB : Cells w B2 (m2.map U16)) (hl : l2.length ≤ 1000) (hm : m2.length ≤ 1000) :
    Calls Tryz.prog 52 #[.agg #[.int .u16 a0, .int .u16 a1, .slice A2 l2.length p2], .agg #[.int .u16 b0, .int .u16 b1, .slice B2 m2.length q2]] w fun e w' => e = .returned (.int .i64 (orI [cmpI a0 b0, cmpI a1 b1, cmpD l2 m2])) ∧ Gd w w' := by
  have H0 := Lib.hid (fun W => cmp_u16 a0 b0 W)
  have H1 := Lib.hid (fun W => cmp_u16 a1 b1 W)
  have H2 := Lib.hid (fun W (hW : Below w.heap.size w W) => scmp_ok l2 m2 A2 B2 p2 q2 W (hA.below (Nat.le_refl _) hW) (hB.below (Nat.le_refl _) hW) hl hm)
  generalize cmpI a0 b0 = r0 at *
  generalize cmpI a1 b1 = r1 at *
  generalize cmpD l2 m2 = r2 at *
  generalize l2.length = s2 at *
  generalize m2.length = t2 at *
  clear hA hB hl hm
  have HO : Hid (∀ W base v, OwnC W base 3 1 v 3 [.int .i64 r0, .int .i64 r1, .int .i64 r2] → Calls Tryz.prog 75 #[v] W fun e w' => e = .returned (.int .i64 (orI [r0, r1, r2])) ∧ W = w') := Lib.hid (fun W base v h => or_own [r0, r1, r2] W h (by simp))
  generalize orI [r0, r1, r2] = r at *
  obtain ⟨W1, hW1⟩ : ∃ W1, W1 = (w.alloc (.cells #[.int .u16 a0, .int .u16 a1, .slice A2 s2 p2] 105)).alloc (.cells #[.int .u16 b0, .int .u16 b1, .slice B2 t2 q2] 105) := ⟨_, rfl⟩
  have HP : Hid (Two w W1 w.heap.size #[.int .u16 a0, .int .u16 a1, .slice A2 s2 p2] #[.int .u16 b0, .int .u16 b1, .slice B2 t2 q2]) := Lib.hid (by rw [hW1]; exact two_boxed _ _ _ _ _)
  generalize hb1 : w.heap.size = bz at HP
  have hb2 : w.heap.size + 1 = bz + 1 := by rw [hb1]
  have HB := Lib.hid hb1
  go_enter Tryz.func52, Tryz.ntmps52
  go_wp2_with fail
  rw [← hW1]
  clear hW1 hb1 hb2
  refine region_invG (fun x => W1.drawn ≤ x.drawn) [] W1 [(5, Sp.val (.pointer (some ⟨bz, 0, none⟩))), (6, Sp.val (.pointer (some ⟨bz, 0, none⟩))), (7, Sp.val (.int .u16 a0)), (8, Sp.val (.pointer (some ⟨bz + 1, 0, none⟩))), (9, Sp.val (.pointer (some ⟨bz + 1, 0, none⟩))), (10, Sp.val (.int .u16 b0)), (11, Sp.val (.int .i64 r0)), (12, Sp.val (.pointer (some ⟨bz, 0, none⟩))), (13, Sp.val (.pointer (some ⟨bz, 1, none⟩))), (14, Sp.val (.int .u16 a1)), (15, Sp.val (.pointer (some ⟨bz + 1, 0, none⟩))), (16, Sp.val (.pointer (some ⟨bz + 1, 1, none⟩))), (17, Sp.val (.int .u16 b1)), (18, Sp.val (.int .i64 r1)), (19, Sp.val (.pointer (some ⟨bz, 0, none⟩))), (20, Sp.val (.pointer (some ⟨bz, 2, none⟩))), (21, Sp.val (.slice A2 s2 p2)), (22, Sp.val (.pointer (some ⟨bz + 1, 0, none⟩))), (23, Sp.val (.pointer (some ⟨bz + 1, 2, none⟩))), (24, Sp.val (.slice B2 t2 q2)), (25, Sp.val (.int .i64 r2)), (26, Sp.row 3 1 3 [.int .i64 r0, .int .i64 r1, .int .i64 r2]), (27, Sp.val (.int .i64 r)), (4, Sp.val (.int .i64 r))] [26] rfl (by kernel_rfl) ?_ ?_ (by kernel_rfl) ?_ ?_
  case refine_1 => exact (Below.refl _ _).drew
  case refine_2 => exact Nat.le_succ _
  case refine_3 =>
    refine ⟨?_, ?_, ?_, ?_, ?_, ?_, ?_, ?_, ?_, ?_, ?_, ?_, ?_, ?_, ?_, ?_, ?_, ?_, ?_, ?_, ?_, ?_, ?_, ?_, trivial⟩
    case refine_1 => (refine ⟨_, rfl, Nat.le_of_ble_eq_true rfl, fun listed a W hst hn hdep K hK => ?_⟩; (have e1 := hst.oldOf hn 2 (by kernel_rfl) rfl; simp only [Array.getD_eq_getD_getElem?] at e1); go_simp; exact hK _ _ (Or.inr (Below.refl _ _)) hst.glob (Sp.of_val rfl) hst.extra)
    case refine_2 => (refine ⟨_, rfl, Nat.le_of_ble_eq_true rfl, fun listed a W hst hn hdep K hK => ?_⟩; (have dd := dep_of hdep 0 (by kernel_rfl); have e1 := hst.valOf 0 5 (by kernel_rfl) dd rfl; clear dd); go_simp; exact hK _ _ (Or.inr (Below.refl _ _)) hst.glob (Sp.of_val rfl) hst.extra)
    case refine_3 =>
      refine ⟨_, rfl, Nat.le_of_ble_eq_true rfl, fun listed a W hst hn hdep K hK => ?_⟩
      (have dd := dep_of hdep 1 (by kernel_rfl); have e1 := hst.valOf 1 6 (by kernel_rfl) dd rfl; clear dd)
      have c := (HP.out.x W hst.glob) 0 _ rfl
      go_simp
      exact hK _ _ (Or.inr (Below.refl _ _)) hst.glob (Sp.of_val rfl) hst.extra
    case refine_4 => (refine ⟨_, rfl, Nat.le_of_ble_eq_true rfl, fun listed a W hst hn hdep K hK => ?_⟩; (have e1 := hst.oldOf hn 3 (by kernel_rfl) rfl; simp only [Array.getD_eq_getD_getElem?] at e1); go_simp; exact hK _ _ (Or.inr (Below.refl _ _)) hst.glob (Sp.of_val rfl) hst.extra)
    case refine_5 => (refine ⟨_, rfl, Nat.le_of_ble_eq_true rfl, fun listed a W hst hn hdep K hK => ?_⟩; (have dd := dep_of hdep 3 (by kernel_rfl); have e1 := hst.valOf 3 8 (by kernel_rfl) dd rfl; clear dd); go_simp; exact hK _ _ (Or.inr (Below.refl _ _)) hst.glob (Sp.of_val rfl) hst.extra)
    case refine_6 =>
      refine ⟨_, rfl, Nat.le_of_ble_eq_true rfl, fun listed a W hst hn hdep K hK => ?_⟩
      (have dd := dep_of hdep 4 (by kernel_rfl); have e1 := hst.valOf 4 9 (by kernel_rfl) dd rfl; clear dd)
      have c := (HP.out.y W hst.glob) 0 _ rfl
      go_simp
      exact hK _ _ (Or.inr (Below.refl _ _)) hst.glob (Sp.of_val rfl) hst.extra
    case refine_7 =>
      refine ⟨_, rfl, Nat.le_of_ble_eq_true rfl, fun listed a W hst hn hdep K hK => ?_⟩
      (have dd := dep_of hdep 2 (by kernel_rfl); have e1 := hst.valOf 2 7 (by kernel_rfl) dd rfl; clear dd)
      (have dd := dep_of hdep 5 (by kernel_rfl); have e2 := hst.valOf 5 10 (by kernel_rfl) dd rfl; clear dd)
      go_simp
      go_wp2_with (go_at_call 76; with_reducible refine (H0.out _).mono ?_; rintro e w1 ⟨rfl, rfl⟩)
      exact hK _ _ (Or.inr (Below.refl _ _)) hst.glob (Sp.of_val rfl) hst.extra
    case refine_8 => (refine ⟨_, rfl, Nat.le_of_ble_eq_true rfl, fun listed a W hst hn hdep K hK => ?_⟩; (have e1 := hst.oldOf hn 2 (by kernel_rfl) rfl; simp only [Array.getD_eq_getD_getElem?] at e1); go_simp; exact hK _ _ (Or.inr (Below.refl _ _)) hst.glob (Sp.of_val rfl) hst.extra)
    case refine_9 => (refine ⟨_, rfl, Nat.le_of_ble_eq_true rfl, fun listed a W hst hn hdep K hK => ?_⟩; (have dd := dep_of hdep 7 (by kernel_rfl); have e1 := hst.valOf 7 12 (by kernel_rfl) dd rfl; clear dd); go_simp; exact hK _ _ (Or.inr (Below.refl _ _)) hst.glob (Sp.of_val rfl) hst.extra)
    case refine_10 =>
      refine ⟨_, rfl, Nat.le_of_ble_eq_true rfl, fun listed a W hst hn hdep K hK => ?_⟩
      (have dd := dep_of hdep 8 (by kernel_rfl); have e1 := hst.valOf 8 13 (by kernel_rfl) dd rfl; clear dd)
      have c := (HP.out.x W hst.glob) 1 _ rfl
      go_simp
      exact hK _ _ (Or.inr (Below.refl _ _)) hst.glob (Sp.of_val rfl) hst.extra
    case refine_11 => (refine ⟨_, rfl, Nat.le_of_ble_eq_true rfl, fun listed a W hst hn hdep K hK => ?_⟩; (have e1 := hst.oldOf hn 3 (by kernel_rfl) rfl; simp only [Array.getD_eq_getD_getElem?] at e1); go_simp; exact hK _ _ (Or.inr (Below.refl _ _)) hst.glob (Sp.of_val rfl) hst.extra)
    case refine_12 => (refine ⟨_, rfl, Nat.le_of_ble_eq_true rfl, fun listed a W hst hn hdep K hK => ?_⟩; (have dd := dep_of hdep 10 (by kernel_rfl); have e1 := hst.valOf 10 15 (by kernel_rfl) dd rfl; clear dd); go_simp; exact hK _ _ (Or.inr (Below.refl _ _)) hst.glob (Sp.of_val rfl) hst.extra)
    case refine_13 =>
      refine ⟨_, rfl, Nat.le_of_ble_eq_true rfl, fun listed a W hst hn hdep K hK => ?_⟩
      (have dd := dep_of hdep 11 (by kernel_rfl); have e1 := hst.valOf 11 16 (by kernel_rfl) dd rfl; clear dd)
      have c := (HP.out.y W hst.glob) 1 _ rfl
      go_simp
      exact hK _ _ (Or.inr (Below.refl _ _)) hst.glob (Sp.of_val rfl) hst.extra
    case refine_14 =>
      refine ⟨_, rfl, Nat.le_of_ble_eq_true rfl, fun listed a W hst hn hdep K hK => ?_⟩
      (have dd := dep_of hdep 9 (by kernel_rfl); have e1 := hst.valOf 9 14 (by kernel_rfl) dd rfl; clear dd)
      (have dd := dep_of hdep 12 (by kernel_rfl); have e2 := hst.valOf 12 17 (by kernel_rfl) dd rfl; clear dd)
      go_simp
      go_wp2_with (go_at_call 76; with_reducible refine (H1.out _).mono ?_; rintro e w1 ⟨rfl, rfl⟩)
      exact hK _ _ (Or.inr (Below.refl _ _)) hst.glob (Sp.of_val rfl) hst.extra
    case refine_15 => (refine ⟨_, rfl, Nat.le_of_ble_eq_true rfl, fun listed a W hst hn hdep K hK => ?_⟩; (have e1 := hst.oldOf hn 2 (by kernel_rfl) rfl; simp only [Array.getD_eq_getD_getElem?] at e1); go_simp; exact hK _ _ (Or.inr (Below.refl _ _)) hst.glob (Sp.of_val rfl) hst.extra)
    case refine_16 => (refine ⟨_, rfl, Nat.le_of_ble_eq_true rfl, fun listed a W hst hn hdep K hK => ?_⟩; (have dd := dep_of hdep 14 (by kernel_rfl); have e1 := hst.valOf 14 19 (by kernel_rfl) dd rfl; clear dd); go_simp; exact hK _ _ (Or.inr (Below.refl _ _)) hst.glob (Sp.of_val rfl) hst.extra)
    case refine_17 =>
      refine ⟨_, rfl, Nat.le_of_ble_eq_true rfl, fun listed a W hst hn hdep K hK => ?_⟩
      (have dd := dep_of hdep 15 (by kernel_rfl); have e1 := hst.valOf 15 20 (by kernel_rfl) dd rfl; clear dd)
      have c := (HP.out.x W hst.glob) 2 _ rfl
      go_simp
      exact hK _ _ (Or.inr (Below.refl _ _)) hst.glob (Sp.of_val rfl) hst.extra
    case refine_18 => (refine ⟨_, rfl, Nat.le_of_ble_eq_true rfl, fun listed a W hst hn hdep K hK => ?_⟩; (have e1 := hst.oldOf hn 3 (by kernel_rfl) rfl; simp only [Array.getD_eq_getD_getElem?] at e1); go_simp; exact hK _ _ (Or.inr (Below.refl _ _)) hst.glob (Sp.of_val rfl) hst.extra)
    case refine_19 => (refine ⟨_, rfl, Nat.le_of_ble_eq_true rfl, fun listed a W hst hn hdep K hK => ?_⟩; (have dd := dep_of hdep 17 (by kernel_rfl); have e1 := hst.valOf 17 22 (by kernel_rfl) dd rfl; clear dd); go_simp; exact hK _ _ (Or.inr (Below.refl _ _)) hst.glob (Sp.of_val rfl) hst.extra)
    case refine_20 =>
      refine ⟨_, rfl, Nat.le_of_ble_eq_true rfl, fun listed a W hst hn hdep K hK => ?_⟩
      (have dd := dep_of hdep 18 (by kernel_rfl); have e1 := hst.valOf 18 23 (by kernel_rfl) dd rfl; clear dd)
      have c := (HP.out.y W hst.glob) 2 _ rfl
      go_simp
      exact hK _ _ (Or.inr (Below.refl _ _)) hst.glob (Sp.of_val rfl) hst.extra
    case refine_21 =>
      refine ⟨_, rfl, Nat.le_of_ble_eq_true rfl, fun listed a W hst hn hdep K hK => ?_⟩
      (have dd := dep_of hdep 16 (by kernel_rfl); have e1 := hst.valOf 16 21 (by kernel_rfl) dd rfl; clear dd)
      (have dd := dep_of hdep 19 (by kernel_rfl); have e2 := hst.valOf 19 24 (by kernel_rfl) dd rfl; clear dd)
      go_simp
      go_wp2_with (go_at_call 90; with_reducible refine (H2.out _ (HP.out.below.trans (hst.glob.mono HP.out.below.size))).mono ?_; rintro e w1 ⟨rfl, rfl⟩)
      exact hK _ _ (Or.inr (Below.refl _ _)) hst.glob (Sp.of_val rfl) hst.extra
    case refine_22 =>
      refine ⟨_, rfl, Nat.le_of_ble_eq_true rfl, fun listed a W hst hn hdep K hK => ?_⟩
      (have dd := dep_of hdep 6 (by kernel_rfl); have e0 := hst.valOf 6 11 (by kernel_rfl) dd rfl; clear dd)
      (have dd := dep_of hdep 13 (by kernel_rfl); have e1 := hst.valOf 13 18 (by kernel_rfl) dd rfl; clear dd)
      (have dd := dep_of hdep 20 (by kernel_rfl); have e2 := hst.valOf 20 25 (by kernel_rfl) dd rfl; clear dd)
      go_simp
      have hb : Below W.heap.size W (W.alloc (.cells #[.int .i64 r0, .int .i64 r1, .int .i64 r2] 3)) := (Below.refl _ _).alloc (Nat.le_refl _) _
      exact hK _ _ (Or.inr hb) (hst.glob.trans (Below.mono hb hst.glob.size)) (Sp.of_row rfl (lit_own (n := 3) hst.glob rfl (by unfold maxLen; omega) rfl)) hst.extra
    case refine_23 =>
      refine ⟨_, rfl, Nat.le_of_ble_eq_true rfl, fun listed a W hst hn hdep K hK => ?_⟩
      (have dd := dep_of hdep 21 (by kernel_rfl); have r1 := hst.rowOf hn 21 26 (by kernel_rfl) dd (by kernel_rfl) rfl; clear dd)
      have HOc := HO.out W _ _ r1.1
      go_simp
      generalize a.tmps[26]?.getD undef = v at HOc ⊢
      go_wp2_with (go_at_call 75; with_reducible refine HOc.mono ?_; rintro e w1 ⟨rfl, rfl⟩)
      exact hK _ _ (Or.inr (Below.refl _ _)) hst.glob (Sp.of_val rfl) hst.extra
    case refine_24 => (refine ⟨_, rfl, Nat.le_of_ble_eq_true rfl, fun listed a W hst hn hdep K hK => ?_⟩; (have dd := dep_of hdep 22 (by kernel_rfl); have e1 := hst.valOf 22 27 (by kernel_rfl) dd rfl; clear dd); go_simp; exact hK _ _ (Or.inr (Below.refl _ _)) hst.glob (Sp.of_val rfl) hst.extra)
  case refine_4 =>
    rintro ⟨tm, df⟩ w' listed hl hst
    obtain rfl : df = [] := hst.defers
    have hr := hst.valOf 23 4 (by kernel_rfl) (hl 23 (Nat.le_of_ble_eq_true rfl)) rfl
    have hw := hst.glob
    have hd := hst.extra
    clear hst hl
    go_wp2_with fail
    go_ret
    exact ⟨by simp [hr], HP.out.below.trans (hw.mono HP.out.below.size), Nat.le_trans HP.out.drawn hd⟩

end Go.Proofs.YthdagjlgfffpbaaGreat
