/-
  Layer 5 (conf): the reference's destinations in order. By the verifier.
-/
import Derived.Test.YthdagjlgfffpbaaGreatGCut
import Derived.BigQuiet
set_option linter.unusedVariables false
namespace Go.Proofs.YthdagjlgfffpbaaGreat
open Go.RowKit

theorem elem16 : ElemT 31 32 (.int .u16 0) 1 2 := ⟨Tryz.underlying31, by kernel_rfl, rfl, by omega, by omega⟩

theorem OwnC.flat {w : World} {base : Nat} {e : TypeId} {size : Nat} {v : Value} {n : Nat} {cs : List Value} (h : OwnC w base e size v n cs) :
    ∃ A c, v = .slice A n c ∧ Cells w A cs ∧ (A = none → c = 0) ∧ n ≤ c ∧ (∀ a, A = some a → ∃ b o, a = ⟨b, o, none⟩) := by
  obtain ⟨A, c, hv, hc, hA, hn, -, -⟩ := h.cells
  refine ⟨A, c, hv, hc, hA, hn, fun a ha => ?_⟩
  rcases h.2 with ⟨hv', -⟩ | ⟨g, cap, cur, hv', -⟩
  · rw [hv'] at hv; injection hv with h1; rw [← h1] at ha; cases ha
  · rw [hv'] at hv
    injection hv with h1
    rw [← h1] at ha
    injection ha with ha
    exact ⟨g, 0, ha.symm⟩

/-- Number k of a slice of 16-bit numbers. -/
theorem cells_num16 {w wr : World} {A : Option Addr} {l : List Nat} (h : Cells w A (l.map U16)) (hq : Below w.heap.size w wr) {k : Nat} (hk : k < l.length) : ∃ b o, A = some ⟨b, o, none⟩ ∧ wr.cell? ⟨b, o + k, none⟩ = some (.int .u16 ((l.getD k 0 : Nat) : Int)) := by
  obtain ⟨b, o, hA, -, hc⟩ := (h.below (Nat.le_refl _) hq).some (by rw [List.length_map]; omega)
  refine ⟨b, o, hA, ?_⟩
  rw [hc k (U16 (l.getD k 0)) (by rw [List.getElem?_map, List.getElem?_eq_getElem hk]; simp [List.getD, hk])]
  rfl

/-- What the loop of Dests holds. -/
structure DestW (l : List Nat) (w : World) (k : Nat) (r : List Nat) (sv : Value) (wr : World) : Prop where
  len : r.length = k
  perm : r.Perm (l.take k)
  sorted : r.Pairwise (· ≤ ·)
  own : OwnC wr w.heap.size 32 1 sv k (r.map U16)
  below : Below w.heap.size w wr

theorem getD_some {l : List Nat} {k : Nat} (h : k < l.length) : l[k]? = some (l.getD k 0) := by simp [List.getD, h]

theorem dest_next {l : List Nat} {w wr w' : World} {k : Nat} {r : List Nat} {sv v' : Value} (h : DestW l w k r sv wr) (hk : k < l.length) {n : Nat} (hn : n ≤ k) (h1 : ∀ y ∈ r.drop n, l.getD k 0 < y) (h2 : n = 0 ∨ ∃ y, r[n - 1]? = some y ∧ y ≤ l.getD k 0)
    (ho : OwnC w' w.heap.size 32 1 v' (n + 1 + (k - n)) (((r.map U16).take n ++ [.int .u16 ((l.getD k 0 : Nat) : Int)]) ++ (r.map U16).drop n)) (hb : Below w.heap.size w w') : DestW l w (k + 1) (insAt r n (l.getD k 0)) v' w' := by
  refine ⟨by rw [insAt_len, h.len], ?_, ?_, ?_, hb⟩
  · rw [List.take_succ_eq_append_getElem hk]
    have : l.getD k 0 = l[k] := by simp [List.getD, hk]
    rw [this]
    exact (insAt_perm _ _ _).trans (List.Perm.append_right _ h.perm)
  · exact insAt_sorted (le := (· ≤ ·)) (fun a b c h1 h2 => Nat.le_trans h1 h2) h.sorted (fun y hy => Nat.le_of_lt (h1 y hy)) h2
  · have e1 : n + 1 + (k - n) = k + 1 := by omega
    have e2 : (insAt r n (l.getD k 0)).map U16 = ((r.map U16).take n ++ [.int .u16 ((l.getD k 0 : Nat) : Int)]) ++ (r.map U16).drop n := by
      simp [insAt, List.map_take, List.map_drop, U16]
    rw [e2, ← e1]
    exact ho

theorem u16_one (l : List Nat) : ∀ u ∈ l.map U16, u.oneCell' = true := by
  intro u hu
  obtain ⟨x, -, rfl⟩ := List.mem_map.1 hu
  rfl

set_option maxHeartbeats 8000000 in
theorem dests_ok (l : List Nat) (A : Option Addr) (c : Nat) (w : World) (hA : Cells w A (l.map U16)) (hl : l.length ≤ 1000) :
    Calls Tryz.prog 53 #[.slice A l.length c] w fun e w' => ∃ v, e = .returned v ∧ OwnC w' w.heap.size 32 1 v l.length ((sortU l).map U16) ∧ Below w.heap.size w w' := by
  have HA := Lib.hid (fun (wr : World) (hq : Below w.heap.size w wr) (k : Nat) (hk : k < l.length) => cells_num16 hA hq hk)
  have HN0 := Lib.hid (OwnC.nil w w.heap.size 32 1)
  clear hA
  go_enter Tryz.func53, Tryz.ntmps53
  go_wp2_with fail
  go_loopw [3, 4] (fun v i wr => ∃ (k : Nat) (sv : Value), sv = v ∧ k ≤ l.length ∧ i = .int .i64 (k : Int) ∧ Hid (∃ r, DestW l w k r sv wr)) (fun _ i _ => l.length - (intOf i).toNat)
  case atStart => exact ⟨0, _, rfl, by omega, rfl, Lib.hid ⟨[], rfl, List.Perm.refl _, List.Pairwise.nil, HN0.out, Below.refl _ _⟩⟩
  case round =>
    obtain ⟨k, sv, rfl, hk, rfl, ho⟩ := hrel
    by_cases hlt : k < l.length
    · have hki : (k : Int) < (l.length : Int) := by omega
      have hwk : wrap64 ((k : Int) + 1) = (k : Int) + 1 := by unfold wrap64; omega
      obtain ⟨r, hr⟩ := ho.out
      obtain ⟨A2, c2, rfl, hc2, hA2, hn2, hs2⟩ := hr.own.flat
      have HR := Lib.hid hr
      have HC2 := Lib.hid hc2
      have HA2 := Lib.hid (And.intro hA2 (And.intro hn2 hs2))
      clear hr hc2 hA2 hs2 ho
      go_wp2_with fail
      obtain ⟨w1, rfl⟩ : ∃ w1, w1 = wr := ⟨wr, rfl⟩
      go_loopw [5] (fun j w2 => ∃ n : Nat, n ≤ k ∧ j = .int .i64 (n : Int) ∧ Hid (Qt w1 w2 ∧ ∀ y ∈ r.drop n, l.getD k 0 < y)) (fun j _ => (intOf j).toNat)
      case atStart => exact ⟨k, by omega, rfl, Lib.hid ⟨Qt.refl _, fun y hy => by rw [List.drop_of_length_le (by rw [HR.out.len]; omega)] at hy; cases hy⟩⟩
      case round =>
        obtain ⟨n, hnk, rfl, hq⟩ := hrel
        obtain ⟨b, o, rfl, hcell⟩ := HA.out wr (HR.out.below.trans (hq.out.1.below _)) k hlt
        have HE : Hid (∀ m, n = m + 1 → ∃ b2 o2, A2 = some ⟨b2, o2, none⟩ ∧ wr.cell? ⟨b2, o2 + m, none⟩ = some (.int .u16 ((r.getD m 0 : Nat) : Int)) ∧ r[m]? = some (r.getD m 0)) := Lib.hid (fun m hm => by
          have hlen := HR.out.len
          obtain ⟨b2, o2, h1, h2⟩ := cells_num16 HC2.out (hq.out.1.below _) (k := m) (by omega)
          exact ⟨b2, o2, h1, h2, getD_some (by omega)⟩)
        have hl2 : n ≤ 1000 := by omega
        by_cases hgo : ∃ m, n = m + 1 ∧ l.getD k 0 < r.getD m 0
        · obtain ⟨m, rfl, hlt2⟩ := hgo
          obtain ⟨b2, o2, rfl, hcell2, hrm⟩ := HE.out m rfl
          have HP := Lib.hid (drop_pred hq.out.2 hrm hlt2)
          generalize l.getD k 0 = x at *
          generalize r.getD m 0 = y at *
          have hc1 : ((m + 1 : Nat) : Int) = (m : Int) + 1 := by omega
          rw [hc1]
          have hm0 : (0 : Int) < (m : Int) + 1 := by omega
          have hmk : (m : Int) < (k : Int) := by omega
          have hwm : wrap64 ((m : Int) + 1 - 1) = (m : Int) := by unfold wrap64; omega
          have hlt3 : (x : Int) < (y : Int) := by omega
          go_wp2_with fail
          go_quiet (fail)
          go_wp2_with fail
          go_roundw
          case rel => exact ⟨m, by omega, by go_num, Lib.hid ⟨hq.out.1.more _, HP.out⟩⟩
          case measure => simp [intOf]
        · have hcases : n = 0 ∨ ∃ m, n = m + 1 ∧ ¬ (l.getD k 0 < r.getD m 0) := by
            rcases Nat.eq_zero_or_pos n with h0 | h0
            · exact Or.inl h0
            · exact Or.inr ⟨n - 1, by omega, fun h => hgo ⟨n - 1, by omega, h⟩⟩
          have HG := Lib.hid (fun (v' : Value) (w' : World) (h2 : n = 0 ∨ ∃ y, r[n - 1]? = some y ∧ y ≤ l.getD k 0) (ho : OwnC w' w.heap.size 32 1 v' (n + 1 + (k - n)) (((r.map U16).take n ++ [.int .u16 ((l.getD k 0 : Nat) : Int)]) ++ (r.map U16).drop n)) (hb : Below w.heap.size w w') => dest_next HR.out hlt hnk hq.out.2 h2 ho hb)
          have HS : Hid (n = 0 ∨ ∃ y, r[n - 1]? = some y ∧ y ≤ l.getD k 0) := Lib.hid (by
            rcases hcases with h | ⟨m, rfl, h⟩
            · exact Or.inl h
            · obtain ⟨-, -, -, -, h5⟩ := HE.out m rfl
              exact Or.inr ⟨_, h5, by omega⟩)
          have hcs : ¬ 0 < (n : Int) ∨ ∃ (m b2 o2 : Nat), (n : Int) = (m : Int) + 1 ∧ m < k ∧ A2 = some ⟨b2, o2, none⟩ ∧ wr.cell? ⟨b2, o2 + m, none⟩ = some (.int .u16 ((r.getD m 0 : Nat) : Int)) ∧ ¬ (((l.getD k 0 : Nat) : Int) < ((r.getD m 0 : Nat) : Int)) := by
            rcases hcases with h | ⟨m, h0, h⟩
            · exact Or.inl (by omega)
            · obtain ⟨b2, o2, h3, h4, -⟩ := HE.out m h0
              exact Or.inr ⟨m, b2, o2, by omega, by omega, h3, h4, by omega⟩
          have HAC : Hid (∀ W, Below w.heap.size w W → W.cell? ⟨b, o + k, none⟩ = some (.int .u16 ((l.getD k 0 : Nat) : Int))) := Lib.hid (fun W hW => by
            obtain ⟨b', o', h1, h2⟩ := HA.out W hW k hlt
            injection h1 with h1
            injection h1 with h1 h3
            rw [h1, h3]
            exact h2)
          have HHI : Hid (∀ W, Below w1.heap.size w1 W → Arg W (hiV A2 n c2) 1 n ((r.map U16).take n)) := Lib.hid (fun W hW => arg_hi (HC2.out.below (Nat.le_refl _) hW) HA2.out.1 (by rw [List.length_map, HR.out.len]; exact hnk))
          have HLO : Hid (∀ W, Below w1.heap.size w1 W → Arg W (loV A2 k c2 n) 1 (k - n) ((r.map U16).drop n)) := Lib.hid (fun W hW => by
            have hlen : (r.map U16).length = k := by rw [List.length_map, HR.out.len]
            have := arg_lo (HC2.out.below (Nat.le_refl _) hW) HA2.out.1 (by rw [hlen]; exact HA2.out.2.1) (m := n) (by rw [hlen]; exact hnk)
            rwa [hlen] at this)
          have HQ := Lib.hid (fun m => hq.out.1.more m)
          clear hcases hgo HE
          have HW1 := Lib.hid HR.out.below
          generalize l.getD k 0 = x at *
          rcases hcs with hn0 | ⟨m, b2, o2, hnm, hmk, rfl, hcell2, hge⟩
          · have hd0 : decide (0 < n) = false := decide_eq_false (by omega)
            clear hn0
            go_wp2_with fail
            go_quiet (fail)
            go_wp2_with fail
            obtain ⟨w3, hw3⟩ : ∃ w3, w3 = wr.drewN nq := ⟨_, rfl⟩
            have HQ3 : Hid (Below w1.heap.size w1 w3) := Lib.hid (by rw [hw3]; exact (HQ.out nq).below _)
            rw [← hw3]
            clear hw3 hq HQ hcell
            refine region_inv [10, 14] w3 [(30, Sp.lit 32 1 0 []), (31, Sp.val (.slice A2 k c2)), (32, Sp.val (.int .i64 (n : Int))), (33, Sp.val (hiV A2 n c2)), (34, Sp.row 32 1 (0 + n) ([] ++ (r.map U16).take n)), (35, Sp.val (.slice (some ⟨b, o, none⟩) l.length c)), (36, Sp.val (.int .i64 (k : Int))), (37, Sp.val (.pointer (some ⟨b, o + k, none⟩))), (38, Sp.val (.int .u16 (x : Int))), (39, Sp.row 32 1 1 [.int .u16 (x : Int)]), (40, Sp.row 32 1 (0 + n + 1) (([] ++ (r.map U16).take n) ++ [.int .u16 (x : Int)])), (41, Sp.val (.slice A2 k c2)), (42, Sp.val (.int .i64 (n : Int))), (43, Sp.val (loV A2 k c2 n)), (44, Sp.row 32 1 (0 + n + 1 + (k - n)) ((([] ++ (r.map U16).take n) ++ [.int .u16 (x : Int)]) ++ (r.map U16).drop n)), (3, Sp.row 32 1 (0 + n + 1 + (k - n)) ((([] ++ (r.map U16).take n) ++ [.int .u16 (x : Int)]) ++ (r.map U16).drop n))] [30, 34, 39, 40, 44, 3] rfl (by kernel_rfl) ?_ (by kernel_rfl) ?_ ?_
            case refine_1 => exact (Below.refl _ _).drew
            case refine_2 =>
              refine ⟨?_, ?_, ?_, ?_, ?_, ?_, ?_, ?_, ?_, ?_, ?_, ?_, ?_, ?_, ?_, ?_, trivial⟩
              case refine_1 =>
                refine ⟨_, rfl, Nat.le_of_ble_eq_true rfl, fun listed a W hst hn hdep K hK => ?_⟩
                go_simp
                have hb : Below W.heap.size W (W.alloc (.cells #[] 32)) := (Below.refl _ _).alloc (Nat.le_refl _) _
                exact hK _ _ (Or.inr hb) (hst.glob.trans (Below.mono hb hst.glob.size)) (Sp.of_lit rfl (lit_own (n := 0) hst.glob rfl (by unfold maxLen; omega) rfl) ⟨_, rfl⟩) trivial
              case refine_2 => (refine ⟨_, rfl, Nat.le_of_ble_eq_true rfl, fun listed a W hst hn hdep K hK => ?_⟩; (have e1 := hst.oldOf hn 3 (by kernel_rfl) rfl; simp only [Array.getD_eq_getD_getElem?] at e1); go_simp; exact hK _ _ (Or.inr (Below.refl _ _)) hst.glob (Sp.of_val rfl) trivial)
              case refine_3 => (refine ⟨_, rfl, Nat.le_of_ble_eq_true rfl, fun listed a W hst hn hdep K hK => ?_⟩; (have e1 := hst.oldOf hn 5 (by kernel_rfl) rfl; simp only [Array.getD_eq_getD_getElem?] at e1); go_simp; exact hK _ _ (Or.inr (Below.refl _ _)) hst.glob (Sp.of_val rfl) trivial)
              case refine_4 =>
                refine ⟨_, rfl, Nat.le_of_ble_eq_true rfl, fun listed a W hst hn hdep K hK => ?_⟩
                (have dd := dep_of hdep 1 (by kernel_rfl); have e31 := hst.valOf 1 31 (by kernel_rfl) dd rfl; clear dd)
                (have dd := dep_of hdep 2 (by kernel_rfl); have e32 := hst.valOf 2 32 (by kernel_rfl) dd rfl; clear dd)
                have hcut := run_hi16 A2 k c2 n HA2.out.1 HA2.out.2.2 hnk HA2.out.2.1 W
                go_simp
                exact hK _ _ (Or.inr (Below.refl _ _)) hst.glob (Sp.of_val rfl) trivial
              case refine_5 =>
                refine ⟨_, rfl, Nat.le_of_ble_eq_true rfl, fun listed a W hst hn hdep K hK => ?_⟩
                (have dd := dep_of hdep 0 (by kernel_rfl); have r30 := hst.rowOf hn 0 30 (by kernel_rfl) dd (by kernel_rfl) rfl; clear dd)
                (have dd := dep_of hdep 3 (by kernel_rfl); have e33 := hst.valOf 3 33 (by kernel_rfl) dd rfl; clear dd)
                refine inv_append_full elem16 rfl 30 33 rfl _ 0 _ r30.1 (r30.2 rfl) n _ (by rw [e33]; exact HHI.out _ (HQ3.out.trans (hst.glob.mono HQ3.out.size))) (by omega) hst.glob.size ?_
                intro v' w' ho hb
                exact hK _ _ (Or.inr hb) (hst.glob.trans (Below.mono hb hst.glob.size)) (Sp.of_row rfl ho) trivial
              case refine_6 => (refine ⟨_, rfl, Nat.le_of_ble_eq_true rfl, fun listed a W hst hn hdep K hK => ?_⟩; (have e1 := hst.oldOf hn 0 (by kernel_rfl) rfl; simp only [Array.getD_eq_getD_getElem?] at e1); go_simp; exact hK _ _ (Or.inr (Below.refl _ _)) hst.glob (Sp.of_val rfl) trivial)
              case refine_7 => (refine ⟨_, rfl, Nat.le_of_ble_eq_true rfl, fun listed a W hst hn hdep K hK => ?_⟩; (have e1 := hst.oldOf hn 4 (by kernel_rfl) rfl; simp only [Array.getD_eq_getD_getElem?] at e1); go_simp; exact hK _ _ (Or.inr (Below.refl _ _)) hst.glob (Sp.of_val rfl) trivial)
              case refine_8 =>
                refine ⟨_, rfl, Nat.le_of_ble_eq_true rfl, fun listed a W hst hn hdep K hK => ?_⟩
                (have dd := dep_of hdep 5 (by kernel_rfl); have e1 := hst.valOf 5 35 (by kernel_rfl) dd rfl; clear dd)
                (have dd := dep_of hdep 6 (by kernel_rfl); have e2 := hst.valOf 6 36 (by kernel_rfl) dd rfl; clear dd)
                go_simp
                exact hK _ _ (Or.inr (Below.refl _ _)) hst.glob (Sp.of_val rfl) trivial
              case refine_9 =>
                refine ⟨_, rfl, Nat.le_of_ble_eq_true rfl, fun listed a W hst hn hdep K hK => ?_⟩
                (have dd := dep_of hdep 7 (by kernel_rfl); have e1 := hst.valOf 7 37 (by kernel_rfl) dd rfl; clear dd)
                have hc := HAC.out W (HW1.out.trans ((HQ3.out.trans (hst.glob.mono HQ3.out.size)).mono HW1.out.size))
                go_simp
                exact hK _ _ (Or.inr (Below.refl _ _)) hst.glob (Sp.of_val rfl) trivial
              case refine_10 =>
                refine ⟨_, rfl, Nat.le_of_ble_eq_true rfl, fun listed a W hst hn hdep K hK => ?_⟩
                (have dd := dep_of hdep 8 (by kernel_rfl); have e1 := hst.valOf 8 38 (by kernel_rfl) dd rfl; clear dd)
                go_simp
                have hb : Below W.heap.size W (W.alloc (.cells #[.int .u16 (x : Int)] 32)) := (Below.refl _ _).alloc (Nat.le_refl _) _
                exact hK _ _ (Or.inr hb) (hst.glob.trans (Below.mono hb hst.glob.size)) (Sp.of_row rfl (lit_own (n := 1) hst.glob rfl (by unfold maxLen; omega) rfl)) trivial
              case refine_11 =>
                refine ⟨_, rfl, Nat.le_of_ble_eq_true rfl, fun listed a W hst hn hdep K hK => ?_⟩
                (have dd := dep_of hdep 4 (by kernel_rfl); have r34 := hst.rowOf hn 4 34 (by kernel_rfl) dd (by kernel_rfl) rfl; clear dd)
                (have dd := dep_of hdep 9 (by kernel_rfl); have r39 := hst.rowOf hn 9 39 (by kernel_rfl) dd (by kernel_rfl) rfl; clear dd)
                refine inv_append elem16 rfl 34 39 rfl _ (0 + n) _ r34.1 1 _ r39.1.arg (u16_one [x]) (by omega) hst.glob.size ?_
                intro v' w' ho hg
                exact hK _ _ (Or.inl (by simp)) (grown_belowc hst.glob r34.1 hg hst.glob.size) (Sp.of_row rfl ho) trivial
              case refine_12 => (refine ⟨_, rfl, Nat.le_of_ble_eq_true rfl, fun listed a W hst hn hdep K hK => ?_⟩; (have e1 := hst.oldOf hn 3 (by kernel_rfl) rfl; simp only [Array.getD_eq_getD_getElem?] at e1); go_simp; exact hK _ _ (Or.inr (Below.refl _ _)) hst.glob (Sp.of_val rfl) trivial)
              case refine_13 => (refine ⟨_, rfl, Nat.le_of_ble_eq_true rfl, fun listed a W hst hn hdep K hK => ?_⟩; (have e1 := hst.oldOf hn 5 (by kernel_rfl) rfl; simp only [Array.getD_eq_getD_getElem?] at e1); go_simp; exact hK _ _ (Or.inr (Below.refl _ _)) hst.glob (Sp.of_val rfl) trivial)
              case refine_14 =>
                refine ⟨_, rfl, Nat.le_of_ble_eq_true rfl, fun listed a W hst hn hdep K hK => ?_⟩
                (have dd := dep_of hdep 11 (by kernel_rfl); have e41 := hst.valOf 11 41 (by kernel_rfl) dd rfl; clear dd)
                (have dd := dep_of hdep 12 (by kernel_rfl); have e42 := hst.valOf 12 42 (by kernel_rfl) dd rfl; clear dd)
                have hcut := run_lo16 A2 k c2 n HA2.out.1 HA2.out.2.2 hnk HA2.out.2.1 W
                go_simp
                exact hK _ _ (Or.inr (Below.refl _ _)) hst.glob (Sp.of_val rfl) trivial
              case refine_15 =>
                refine ⟨_, rfl, Nat.le_of_ble_eq_true rfl, fun listed a W hst hn hdep K hK => ?_⟩
                (have dd := dep_of hdep 10 (by kernel_rfl); have r40 := hst.rowOf hn 10 40 (by kernel_rfl) dd (by kernel_rfl) rfl; clear dd)
                (have dd := dep_of hdep 13 (by kernel_rfl); have e43 := hst.valOf 13 43 (by kernel_rfl) dd rfl; clear dd)
                refine inv_append elem16 rfl 40 43 rfl _ (0 + n + 1) _ r40.1 (k - n) _ (by rw [e43]; exact HLO.out _ (HQ3.out.trans (hst.glob.mono HQ3.out.size))) (fun u hu => u16_one r u (List.mem_of_mem_drop hu)) (by omega) hst.glob.size ?_
                intro v' w' ho hg
                exact hK _ _ (Or.inl (by simp)) (grown_belowc hst.glob r40.1 hg hst.glob.size) (Sp.of_row rfl ho) trivial
              case refine_16 =>
                refine ⟨_, rfl, Nat.le_of_ble_eq_true rfl, fun listed a W hst hn hdep K hK => ?_⟩
                (have dd := dep_of hdep 14 (by kernel_rfl); have r44 := hst.rowOf hn 14 44 (by kernel_rfl) dd (by kernel_rfl) rfl; clear dd)
                go_simp
                exact hK _ _ (Or.inr (Below.refl _ _)) hst.glob (Sp.of_row rfl r44.1) trivial
            case refine_3 =>
              rintro ⟨⟨tm⟩, df⟩ w' listed hl hst
              obtain rfl : df = [] := hst.defers
              have s0 := hst.oldEnd 0 (by kernel_rfl) rfl
              have s1 := hst.oldEnd 1 (by kernel_rfl) rfl
              have s2 := hst.oldEnd 2 (by kernel_rfl) rfl
              have s4 := hst.oldEnd 4 (by kernel_rfl) rfl
              have s45 := hst.oldEnd 45 (by kernel_rfl) rfl
              have hr := hst.rowEnd 15 3 (by kernel_rfl) (hl 15 (Nat.le_of_ble_eq_true rfl)) (by kernel_rfl) rfl
              have hsz : tm.length = 46 := hst.size
              have hglob := hst.glob
              clear hst hl
              ((repeat (have hh := arr_succ hsz; clear hsz; obtain ⟨_, tm, rfl, hsz⟩ := hh)); (obtain rfl := List.eq_nil_of_length_eq_zero hsz))
              simp at s0 s1 s2 s4 s45
              subst s0 s1 s2 s4 s45
              have hW : Below w.heap.size w w' := HW1.out.trans ((HQ3.out.trans (hglob.mono HQ3.out.size)).mono HW1.out.size)
              have hr2 := OwnC.base hr (base' := w.heap.size) (Nat.le_trans HW1.out.size HQ3.out.size)
              rw [Nat.zero_add, List.nil_append] at hr2
              have HD := Lib.hid (HG.out _ w' HS.out (by simpa using hr2) hW)
              go_wp2_with fail
              go_roundw
              case rel => exact ⟨k + 1, _, rfl, by omega, by go_num, Lib.hid ⟨_, HD.out⟩⟩
              case measure => simp [intOf]; omega
          · generalize r.getD m 0 = y at *
            have hd0 : decide (0 < n) = true := decide_eq_true (by omega)
            have hmki : (m : Int) < (k : Int) := by omega
            have hwm : wrap64 ((n : Int) - 1) = (m : Int) := by unfold wrap64; omega
            have hwm2 : IntKind.i64.wrap ((n : Int) - 1) = (m : Int) := by rw [IntKind.wrap_i64]; omega
            clear hnm
            go_wp2_with fail
            go_quiet (fail)
            go_wp2_with fail
            obtain ⟨w3, hw3⟩ : ∃ w3, w3 = wr.drewN nq := ⟨_, rfl⟩
            have HQ3 : Hid (Below w1.heap.size w1 w3) := Lib.hid (by rw [hw3]; exact (HQ.out nq).below _)
            rw [← hw3]
            clear hw3 hq HQ hcell hcell2
            generalize (some ⟨b2, o2, none⟩ : Option Addr) = A2 at *
            refine region_inv [10, 14] w3 [(30, Sp.lit 32 1 0 []), (31, Sp.val (.slice A2 k c2)), (32, Sp.val (.int .i64 (n : Int))), (33, Sp.val (hiV A2 n c2)), (34, Sp.row 32 1 (0 + n) ([] ++ (r.map U16).take n)), (35, Sp.val (.slice (some ⟨b, o, none⟩) l.length c)), (36, Sp.val (.int .i64 (k : Int))), (37, Sp.val (.pointer (some ⟨b, o + k, none⟩))), (38, Sp.val (.int .u16 (x : Int))), (39, Sp.row 32 1 1 [.int .u16 (x : Int)]), (40, Sp.row 32 1 (0 + n + 1) (([] ++ (r.map U16).take n) ++ [.int .u16 (x : Int)])), (41, Sp.val (.slice A2 k c2)), (42, Sp.val (.int .i64 (n : Int))), (43, Sp.val (loV A2 k c2 n)), (44, Sp.row 32 1 (0 + n + 1 + (k - n)) ((([] ++ (r.map U16).take n) ++ [.int .u16 (x : Int)]) ++ (r.map U16).drop n)), (3, Sp.row 32 1 (0 + n + 1 + (k - n)) ((([] ++ (r.map U16).take n) ++ [.int .u16 (x : Int)]) ++ (r.map U16).drop n))] [30, 34, 39, 40, 44, 3] rfl (by kernel_rfl) ?_ (by kernel_rfl) ?_ ?_
            case refine_1 => exact (Below.refl _ _).drew
            case refine_2 =>
              refine ⟨?_, ?_, ?_, ?_, ?_, ?_, ?_, ?_, ?_, ?_, ?_, ?_, ?_, ?_, ?_, ?_, trivial⟩
              case refine_1 =>
                refine ⟨_, rfl, Nat.le_of_ble_eq_true rfl, fun listed a W hst hn hdep K hK => ?_⟩
                go_simp
                have hb : Below W.heap.size W (W.alloc (.cells #[] 32)) := (Below.refl _ _).alloc (Nat.le_refl _) _
                exact hK _ _ (Or.inr hb) (hst.glob.trans (Below.mono hb hst.glob.size)) (Sp.of_lit rfl (lit_own (n := 0) hst.glob rfl (by unfold maxLen; omega) rfl) ⟨_, rfl⟩) trivial
              case refine_2 => (refine ⟨_, rfl, Nat.le_of_ble_eq_true rfl, fun listed a W hst hn hdep K hK => ?_⟩; (have e1 := hst.oldOf hn 3 (by kernel_rfl) rfl; simp only [Array.getD_eq_getD_getElem?] at e1); go_simp; exact hK _ _ (Or.inr (Below.refl _ _)) hst.glob (Sp.of_val rfl) trivial)
              case refine_3 => (refine ⟨_, rfl, Nat.le_of_ble_eq_true rfl, fun listed a W hst hn hdep K hK => ?_⟩; (have e1 := hst.oldOf hn 5 (by kernel_rfl) rfl; simp only [Array.getD_eq_getD_getElem?] at e1); go_simp; exact hK _ _ (Or.inr (Below.refl _ _)) hst.glob (Sp.of_val rfl) trivial)
              case refine_4 =>
                refine ⟨_, rfl, Nat.le_of_ble_eq_true rfl, fun listed a W hst hn hdep K hK => ?_⟩
                (have dd := dep_of hdep 1 (by kernel_rfl); have e31 := hst.valOf 1 31 (by kernel_rfl) dd rfl; clear dd)
                (have dd := dep_of hdep 2 (by kernel_rfl); have e32 := hst.valOf 2 32 (by kernel_rfl) dd rfl; clear dd)
                have hcut := run_hi16 A2 k c2 n HA2.out.1 HA2.out.2.2 hnk HA2.out.2.1 W
                go_simp
                exact hK _ _ (Or.inr (Below.refl _ _)) hst.glob (Sp.of_val rfl) trivial
              case refine_5 =>
                refine ⟨_, rfl, Nat.le_of_ble_eq_true rfl, fun listed a W hst hn hdep K hK => ?_⟩
                (have dd := dep_of hdep 0 (by kernel_rfl); have r30 := hst.rowOf hn 0 30 (by kernel_rfl) dd (by kernel_rfl) rfl; clear dd)
                (have dd := dep_of hdep 3 (by kernel_rfl); have e33 := hst.valOf 3 33 (by kernel_rfl) dd rfl; clear dd)
                refine inv_append_full elem16 rfl 30 33 rfl _ 0 _ r30.1 (r30.2 rfl) n _ (by rw [e33]; exact HHI.out _ (HQ3.out.trans (hst.glob.mono HQ3.out.size))) (by omega) hst.glob.size ?_
                intro v' w' ho hb
                exact hK _ _ (Or.inr hb) (hst.glob.trans (Below.mono hb hst.glob.size)) (Sp.of_row rfl ho) trivial
              case refine_6 => (refine ⟨_, rfl, Nat.le_of_ble_eq_true rfl, fun listed a W hst hn hdep K hK => ?_⟩; (have e1 := hst.oldOf hn 0 (by kernel_rfl) rfl; simp only [Array.getD_eq_getD_getElem?] at e1); go_simp; exact hK _ _ (Or.inr (Below.refl _ _)) hst.glob (Sp.of_val rfl) trivial)
              case refine_7 => (refine ⟨_, rfl, Nat.le_of_ble_eq_true rfl, fun listed a W hst hn hdep K hK => ?_⟩; (have e1 := hst.oldOf hn 4 (by kernel_rfl) rfl; simp only [Array.getD_eq_getD_getElem?] at e1); go_simp; exact hK _ _ (Or.inr (Below.refl _ _)) hst.glob (Sp.of_val rfl) trivial)
              case refine_8 =>
                refine ⟨_, rfl, Nat.le_of_ble_eq_true rfl, fun listed a W hst hn hdep K hK => ?_⟩
                (have dd := dep_of hdep 5 (by kernel_rfl); have e1 := hst.valOf 5 35 (by kernel_rfl) dd rfl; clear dd)
                (have dd := dep_of hdep 6 (by kernel_rfl); have e2 := hst.valOf 6 36 (by kernel_rfl) dd rfl; clear dd)
                go_simp
                exact hK _ _ (Or.inr (Below.refl _ _)) hst.glob (Sp.of_val rfl) trivial
              case refine_9 =>
                refine ⟨_, rfl, Nat.le_of_ble_eq_true rfl, fun listed a W hst hn hdep K hK => ?_⟩
                (have dd := dep_of hdep 7 (by kernel_rfl); have e1 := hst.valOf 7 37 (by kernel_rfl) dd rfl; clear dd)
                have hc := HAC.out W (HW1.out.trans ((HQ3.out.trans (hst.glob.mono HQ3.out.size)).mono HW1.out.size))
                go_simp
                exact hK _ _ (Or.inr (Below.refl _ _)) hst.glob (Sp.of_val rfl) trivial
              case refine_10 =>
                refine ⟨_, rfl, Nat.le_of_ble_eq_true rfl, fun listed a W hst hn hdep K hK => ?_⟩
                (have dd := dep_of hdep 8 (by kernel_rfl); have e1 := hst.valOf 8 38 (by kernel_rfl) dd rfl; clear dd)
                go_simp
                have hb : Below W.heap.size W (W.alloc (.cells #[.int .u16 (x : Int)] 32)) := (Below.refl _ _).alloc (Nat.le_refl _) _
                exact hK _ _ (Or.inr hb) (hst.glob.trans (Below.mono hb hst.glob.size)) (Sp.of_row rfl (lit_own (n := 1) hst.glob rfl (by unfold maxLen; omega) rfl)) trivial
              case refine_11 =>
                refine ⟨_, rfl, Nat.le_of_ble_eq_true rfl, fun listed a W hst hn hdep K hK => ?_⟩
                (have dd := dep_of hdep 4 (by kernel_rfl); have r34 := hst.rowOf hn 4 34 (by kernel_rfl) dd (by kernel_rfl) rfl; clear dd)
                (have dd := dep_of hdep 9 (by kernel_rfl); have r39 := hst.rowOf hn 9 39 (by kernel_rfl) dd (by kernel_rfl) rfl; clear dd)
                refine inv_append elem16 rfl 34 39 rfl _ (0 + n) _ r34.1 1 _ r39.1.arg (u16_one [x]) (by omega) hst.glob.size ?_
                intro v' w' ho hg
                exact hK _ _ (Or.inl (by simp)) (grown_belowc hst.glob r34.1 hg hst.glob.size) (Sp.of_row rfl ho) trivial
              case refine_12 => (refine ⟨_, rfl, Nat.le_of_ble_eq_true rfl, fun listed a W hst hn hdep K hK => ?_⟩; (have e1 := hst.oldOf hn 3 (by kernel_rfl) rfl; simp only [Array.getD_eq_getD_getElem?] at e1); go_simp; exact hK _ _ (Or.inr (Below.refl _ _)) hst.glob (Sp.of_val rfl) trivial)
              case refine_13 => (refine ⟨_, rfl, Nat.le_of_ble_eq_true rfl, fun listed a W hst hn hdep K hK => ?_⟩; (have e1 := hst.oldOf hn 5 (by kernel_rfl) rfl; simp only [Array.getD_eq_getD_getElem?] at e1); go_simp; exact hK _ _ (Or.inr (Below.refl _ _)) hst.glob (Sp.of_val rfl) trivial)
              case refine_14 =>
                refine ⟨_, rfl, Nat.le_of_ble_eq_true rfl, fun listed a W hst hn hdep K hK => ?_⟩
                (have dd := dep_of hdep 11 (by kernel_rfl); have e41 := hst.valOf 11 41 (by kernel_rfl) dd rfl; clear dd)
                (have dd := dep_of hdep 12 (by kernel_rfl); have e42 := hst.valOf 12 42 (by kernel_rfl) dd rfl; clear dd)
                have hcut := run_lo16 A2 k c2 n HA2.out.1 HA2.out.2.2 hnk HA2.out.2.1 W
                go_simp
                exact hK _ _ (Or.inr (Below.refl _ _)) hst.glob (Sp.of_val rfl) trivial
              case refine_15 =>
                refine ⟨_, rfl, Nat.le_of_ble_eq_true rfl, fun listed a W hst hn hdep K hK => ?_⟩
                (have dd := dep_of hdep 10 (by kernel_rfl); have r40 := hst.rowOf hn 10 40 (by kernel_rfl) dd (by kernel_rfl) rfl; clear dd)
                (have dd := dep_of hdep 13 (by kernel_rfl); have e43 := hst.valOf 13 43 (by kernel_rfl) dd rfl; clear dd)
                refine inv_append elem16 rfl 40 43 rfl _ (0 + n + 1) _ r40.1 (k - n) _ (by rw [e43]; exact HLO.out _ (HQ3.out.trans (hst.glob.mono HQ3.out.size))) (fun u hu => u16_one r u (List.mem_of_mem_drop hu)) (by omega) hst.glob.size ?_
                intro v' w' ho hg
                exact hK _ _ (Or.inl (by simp)) (grown_belowc hst.glob r40.1 hg hst.glob.size) (Sp.of_row rfl ho) trivial
              case refine_16 =>
                refine ⟨_, rfl, Nat.le_of_ble_eq_true rfl, fun listed a W hst hn hdep K hK => ?_⟩
                (have dd := dep_of hdep 14 (by kernel_rfl); have r44 := hst.rowOf hn 14 44 (by kernel_rfl) dd (by kernel_rfl) rfl; clear dd)
                go_simp
                exact hK _ _ (Or.inr (Below.refl _ _)) hst.glob (Sp.of_row rfl r44.1) trivial
            case refine_3 =>
              rintro ⟨⟨tm⟩, df⟩ w' listed hl hst
              obtain rfl : df = [] := hst.defers
              have s0 := hst.oldEnd 0 (by kernel_rfl) rfl
              have s1 := hst.oldEnd 1 (by kernel_rfl) rfl
              have s2 := hst.oldEnd 2 (by kernel_rfl) rfl
              have s4 := hst.oldEnd 4 (by kernel_rfl) rfl
              have s45 := hst.oldEnd 45 (by kernel_rfl) rfl
              have hr := hst.rowEnd 15 3 (by kernel_rfl) (hl 15 (Nat.le_of_ble_eq_true rfl)) (by kernel_rfl) rfl
              have hsz : tm.length = 46 := hst.size
              have hglob := hst.glob
              clear hst hl
              ((repeat (have hh := arr_succ hsz; clear hsz; obtain ⟨_, tm, rfl, hsz⟩ := hh)); (obtain rfl := List.eq_nil_of_length_eq_zero hsz))
              simp at s0 s1 s2 s4 s45
              subst s0 s1 s2 s4 s45
              have hW : Below w.heap.size w w' := HW1.out.trans ((HQ3.out.trans (hglob.mono HQ3.out.size)).mono HW1.out.size)
              have hr2 := OwnC.base hr (base' := w.heap.size) (Nat.le_trans HW1.out.size HQ3.out.size)
              rw [Nat.zero_add, List.nil_append] at hr2
              have HD := Lib.hid (HG.out _ w' HS.out (by simpa using hr2) hW)
              go_wp2_with fail
              go_roundw
              case rel => exact ⟨k + 1, _, rfl, by omega, by go_num, Lib.hid ⟨_, HD.out⟩⟩
              case measure => simp [intOf]; omega
    · have hki : ¬ (k : Int) < (l.length : Int) := by omega
      go_wp2_with fail
      go_ret
      obtain ⟨r, hr⟩ := ho.out
      obtain rfl : k = l.length := by omega
      have hp := hr.perm
      rw [List.take_of_length_le (Nat.le_refl _)] at hp
      rw [← sortU_unique hp hr.sorted]
      exact ⟨sv, rfl, hr.own, hr.below⟩

end Go.Proofs.YthdagjlgfffpbaaGreat
