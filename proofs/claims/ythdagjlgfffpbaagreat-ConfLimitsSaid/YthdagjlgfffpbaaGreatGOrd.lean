/-
  Layer 5 (conf): the reference's order of lists of numbers. By the verifier.
-/
import Derived.Test.YthdagjlgfffpbaaGreatGDest
set_option linter.unusedVariables false
namespace Go.Proofs.YthdagjlgfffpbaaGreat
open Go.RowKit

def I64 (n : Nat) : Value := .int .i64 (n : Int)
theorem elemI : ElemT 110 3 (.int .i64 0) 1 8 := ⟨Tryz.underlying110, by kernel_rfl, rfl, by omega, by omega⟩
theorem i64_one (l : List Nat) : ∀ u ∈ l.map I64, u.oneCell' = true := by
  intro u hu
  obtain ⟨x, -, rfl⟩ := List.mem_map.1 hu
  rfl

/-- Lists of numbers in memory. -/
structure KeysIn (w : World) (A : Option Addr) (ks : List (List Nat)) (hs : List Value) : Prop where
  cells : Cells w A hs
  len : hs.length = ks.length
  each : ∀ (i : Nat), i < ks.length → ∃ Ai ci, hs[i]? = some (.slice Ai (ks.getD i []).length ci) ∧ Cells w Ai ((ks.getD i []).map U64)
  small : ∀ (i : Nat), i < ks.length → (ks.getD i []).length ≤ 100000

theorem KeysIn.below {w w' : World} {A : Option Addr} {ks : List (List Nat)} {hs : List Value} (h : KeysIn w A ks hs) (hb : Below w.heap.size w w') : KeysIn w' A ks hs :=
  ⟨h.cells.below (Nat.le_refl _) hb, h.len, fun i hi => by
    obtain ⟨Ai, ci, h1, h2⟩ := h.each i hi
    exact ⟨Ai, ci, h1, h2.below (Nat.le_refl _) hb⟩, h.small⟩
theorem KeysIn.at {w : World} {A : Option Addr} {ks : List (List Nat)} {hs : List Value} (h : KeysIn w A ks hs) {k : Nat} (hk : k < ks.length) : ∃ b o Ak ck, A = some ⟨b, o, none⟩ ∧ w.cell? ⟨b, o + k, none⟩ = some (.slice Ak (ks.getD k []).length ck) ∧ Cells w Ak ((ks.getD k []).map U64) := by
  obtain ⟨b, o, hA, -, hc⟩ := h.cells.some (by rw [h.len]; omega)
  obtain ⟨Ai, ci, h1, h2⟩ := h.each k hk
  exact ⟨b, o, Ai, ci, hA, hc k _ h1, h2⟩

theorem less_quiet (l m : List Nat) (A B : Option Addr) (ca cb : Nat) (w : World) (hA : Cells w A (l.map U64)) (hB : Cells w B (m.map U64)) (hl : l.length ≤ 100000) (hm : m.length ≤ 100000) (n : Nat) :
    Calls Tryz.prog 36 #[.slice A l.length ca, .slice B m.length cb] (w.drewN n) fun e w' => e = .returned (.bool (lessN l m)) ∧ ∃ q, w' = w.drewN q := by
  have hb : Below w.heap.size w (w.drewN n) := below_drewN (Below.refl _ _) n
  refine (less_ok l m A B ca cb (w.drewN n) (hA.below (Nat.le_refl _) hb) (hB.below (Nat.le_refl _) hb) hl hm).mono ?_
  rintro e w' ⟨he, q, rfl⟩
  exact ⟨he, (Qt.more ⟨n, rfl⟩ q)⟩

/-- Does list a of the keys stand before list b, or beside it? -/
def leK (ks : List (List Nat)) (a b : Nat) : Prop := lessN (ks.getD b []) (ks.getD a []) = false
theorem leK_trans (ks : List (List Nat)) (a b c : Nat) (h1 : leK ks a b) (h2 : leK ks b c) : leK ks a c := by
  unfold leK at *
  rw [lessN_eq, decide_eq_false_iff_not] at *
  exact List.not_lt.2 (List.le_trans (List.not_lt.1 h1) (List.not_lt.1 h2))
theorem leK_of_less (ks : List (List Nat)) (a b : Nat) (h : lessN (ks.getD a []) (ks.getD b []) = true) : leK ks a b := by
  unfold leK
  rw [lessN_eq, decide_eq_true_eq] at h
  rw [lessN_eq, decide_eq_false_iff_not]
  exact fun h2 => absurd (List.lt_trans h h2) (List.lt_irrefl _)

/-- What the loop of Order holds. -/
structure OrdW (ks : List (List Nat)) (w : World) (k : Nat) (r : List Nat) (sv : Value) (wr : World) : Prop where
  len : r.length = k
  perm : r.Perm (List.range k)
  sorted : r.Pairwise (leK ks)
  own : OwnC wr w.heap.size 3 1 sv k (r.map I64)
  below : Below w.heap.size w wr

theorem ord_next {ks : List (List Nat)} {w wr w' : World} {k : Nat} {r : List Nat} {sv v' : Value} (h : OrdW ks w k r sv wr) (hk : k < ks.length) {n : Nat} (hn : n ≤ k) (h1 : ∀ y ∈ r.drop n, leK ks k y) (h2 : n = 0 ∨ ∃ y, r[n - 1]? = some y ∧ leK ks y k)
    (ho : OwnC w' w.heap.size 3 1 v' (n + 1 + (k - n)) (((r.map I64).take n ++ [.int .i64 (k : Int)]) ++ (r.map I64).drop n)) (hb : Below w.heap.size w w') : OrdW ks w (k + 1) (insAt r n k) v' w' := by
  refine ⟨by rw [insAt_len, h.len], ?_, insAt_sorted (leK_trans ks) h.sorted h1 h2, ?_, hb⟩
  · rw [List.range_succ]
    exact (insAt_perm _ _ _).trans (List.Perm.append_right _ h.perm)
  · have e1 : n + 1 + (k - n) = k + 1 := by omega
    have e2 : (insAt r n k).map I64 = ((r.map I64).take n ++ [.int .i64 (k : Int)]) ++ (r.map I64).drop n := by
      simp [insAt, List.map_take, List.map_drop, I64]
    rw [e2, ← e1]
    exact ho

theorem run_hiI (A : Option Addr) (n c m : Nat) (hA : A = none → c = 0) (hs : ∀ a, A = some a → ∃ b o, a = ⟨b, o, none⟩) (hm : m ≤ n) (hn : n ≤ c) (W : World) : (Instr.slice 110 (.slice A n c) none (some (.int .i64 (m : Int))) none).run Tryz.prog W = .ok (hiV A m c) W := by
  have h0 : (0 : Int) ≤ (m : Int) := by omega
  have h1 : (m : Int) ≤ (n : Int) := by omega
  have h2 : (m : Int) ≤ (c : Int) := by omega
  have hu := Tryz.underlying110
  unfold hiV
  cases A with
  | none =>
    have := hA rfl
    obtain rfl : c = 0 := this
    obtain rfl : n = 0 := by omega
    obtain rfl : m = 0 := by omega
    go_simp
  | some a =>
    obtain ⟨b, o, rfl⟩ := hs a rfl
    go_simp
theorem run_loI (A : Option Addr) (n c m : Nat) (hA : A = none → c = 0) (hs : ∀ a, A = some a → ∃ b o, a = ⟨b, o, none⟩) (hm : m ≤ n) (hn : n ≤ c) (W : World) : (Instr.slice 110 (.slice A n c) (some (.int .i64 (m : Int))) none none).run Tryz.prog W = .ok (loV A n c m) W := by
  have h0 : (0 : Int) ≤ (m : Int) := by omega
  have h1 : (m : Int) ≤ (n : Int) := by omega
  have h2 : (m : Int) ≤ (c : Int) := by omega
  have hu := Tryz.underlying110
  unfold loV
  cases A with
  | none =>
    have := hA rfl
    obtain rfl : c = 0 := this
    obtain rfl : n = 0 := by omega
    obtain rfl : m = 0 := by omega
    go_simp
  | some a =>
    obtain ⟨b, o, rfl⟩ := hs a rfl
    go_simp

set_option maxHeartbeats 8000000 in
theorem order_ok (ks : List (List Nat)) (A : Option Addr) (c : Nat) (hs : List Value) (w : World) (hA : KeysIn w A ks hs) (hl : ks.length ≤ 1000) :
    Calls Tryz.prog 54 #[.slice A ks.length c] w fun e w' => ∃ v r, e = .returned v ∧ OrdW ks w ks.length r v w' := by
  have HA := Lib.hid hA
  have HN0 := Lib.hid (OwnC.nil w w.heap.size 3 1)
  clear hA
  go_enter Tryz.func54, Tryz.ntmps54
  go_wp2_with fail
  go_loopw [3, 4] (fun v i wr => ∃ (k : Nat) (sv : Value), sv = v ∧ k ≤ ks.length ∧ i = .int .i64 (k : Int) ∧ Hid (∃ r, OrdW ks w k r sv wr)) (fun _ i _ => ks.length - (intOf i).toNat)
  case atStart => exact ⟨0, _, rfl, by omega, rfl, Lib.hid ⟨[], rfl, List.Perm.refl _, List.Pairwise.nil, HN0.out, Below.refl _ _⟩⟩
  case round =>
    obtain ⟨k, sv, rfl, hk, rfl, ho⟩ := hrel
    by_cases hlt : k < ks.length
    · have hki : (k : Int) < (ks.length : Int) := by omega
      have hwk : wrap64 ((k : Int) + 1) = (k : Int) + 1 := by unfold wrap64; omega
      obtain ⟨r, hr⟩ := ho.out
      obtain ⟨A2, c2, rfl, hc2, hA2, hn2, hs2⟩ := hr.own.flat
      have HR := Lib.hid hr
      have HC2 := Lib.hid hc2
      have HA2 := Lib.hid (And.intro hA2 (And.intro hn2 hs2))
      clear hr hc2 hA2 hs2 ho
      go_wp2_with fail
      obtain ⟨w1, rfl⟩ : ∃ w1, w1 = wr := ⟨wr, rfl⟩
      go_loopw [5] (fun j w2 => ∃ n : Nat, n ≤ k ∧ j = .int .i64 (n : Int) ∧ Hid (Qt w1 w2 ∧ ∀ y ∈ r.drop n, leK ks k y)) (fun j _ => (intOf j).toNat)
      case atStart => exact ⟨k, by omega, rfl, Lib.hid ⟨Qt.refl _, fun y hy => by rw [List.drop_of_length_le (by rw [HR.out.len]; omega)] at hy; cases hy⟩⟩
      case round =>
        obtain ⟨n, hnk, rfl, hq⟩ := hrel
        obtain ⟨b, o, Ak, ck, rfl, hcell, hkc⟩ := (HA.out.below (HR.out.below.trans (hq.out.1.below _))).at hlt
        have HX : Hid (n = 0 ∨ ∃ (m b2 o2 : Nat) (Am : Option Addr) (cm lm : Nat) (bb : Bool) (y : Nat), (n : Int) = (m : Int) + 1 ∧ m < k ∧ A2 = some ⟨b2, o2, none⟩ ∧ wr.cell? ⟨b2, o2 + m, none⟩ = some (.int .i64 (y : Int)) ∧ (y : Int) < (ks.length : Int) ∧ wr.cell? ⟨b, o + y, none⟩ = some (.slice Am lm cm) ∧
            (∀ q, Calls Tryz.prog 36 #[.slice Ak (ks.getD k []).length ck, .slice Am lm cm] (wr.drewN q) fun e w' => e = .returned (.bool bb) ∧ ∃ p, w' = wr.drewN p) ∧ r[m]? = some y ∧ bb = lessN (ks.getD k []) (ks.getD y [])) := Lib.hid (by
          rcases Nat.eq_zero_or_pos n with h0 | h0
          · exact Or.inl h0
          · refine Or.inr ?_
            have hlen := HR.out.len
            obtain ⟨m, rfl⟩ : ∃ m, n = m + 1 := ⟨n - 1, by omega⟩
            obtain ⟨b2, o2, h1, -, h2⟩ := (HC2.out.below (Nat.le_refl _) (hq.out.1.below _)).some (by rw [List.length_map]; omega)
            have hrm := getD_some (l := r) (k := m) (by omega)
            have hmem : r.getD m 0 ∈ List.range k := HR.out.perm.subset (List.mem_of_getElem? hrm)
            have hlt2 : r.getD m 0 < ks.length := by have := List.mem_range.1 hmem; omega
            obtain ⟨b3, o3, Am, cm, h3, h4, h5⟩ := (HA.out.below (HR.out.below.trans (hq.out.1.below _))).at hlt2
            injection h3 with h3
            injection h3 with h3 h6
            subst h3 h6
            exact ⟨m, b2, o2, Am, cm, _, _, _, by omega, by omega, h1, h2 m _ (by rw [List.getElem?_map, hrm]; rfl), by omega, h4, fun q => less_quiet _ _ _ _ _ _ wr hkc h5 (HA.out.small k hlt) (HA.out.small _ hlt2) q, hrm, rfl⟩)
        have hl2 : n ≤ 1000 := by omega
        have HG := Lib.hid (fun (v' : Value) (w' : World) (h2 : n = 0 ∨ ∃ y, r[n - 1]? = some y ∧ leK ks y k) (ho : OwnC w' w.heap.size 3 1 v' (n + 1 + (k - n)) (((r.map I64).take n ++ [.int .i64 (k : Int)]) ++ (r.map I64).drop n)) (hb : Below w.heap.size w w') => ord_next HR.out hlt hnk hq.out.2 h2 ho hb)
        have HHI : Hid (∀ W, Below w1.heap.size w1 W → Arg W (hiV A2 n c2) 1 n ((r.map I64).take n)) := Lib.hid (fun W hW => arg_hi (HC2.out.below (Nat.le_refl _) hW) HA2.out.1 (by rw [List.length_map, HR.out.len]; exact hnk))
        have HLO : Hid (∀ W, Below w1.heap.size w1 W → Arg W (loV A2 k c2 n) 1 (k - n) ((r.map I64).drop n)) := Lib.hid (fun W hW => by
          have hlen : (r.map I64).length = k := by rw [List.length_map, HR.out.len]
          have := arg_lo (HC2.out.below (Nat.le_refl _) hW) HA2.out.1 (by rw [hlen]; exact HA2.out.2.1) (m := n) (by rw [hlen]; exact hnk)
          rwa [hlen] at this)
        have HQ := Lib.hid (fun m => hq.out.1.more m)
        have HW1 := Lib.hid HR.out.below
        have HDP := Lib.hid (fun (m y : Nat) (h1 : n = m + 1) (h2 : r[m]? = some y) (h3 : true = lessN (ks.getD k []) (ks.getD y [])) => drop_pred (P := fun y => leK ks k y) (by rw [← h1]; exact hq.out.2) h2 (leK_of_less ks k y h3.symm))
        have HSF : Hid (∀ (m y : Nat), n = m + 1 → r[m]? = some y → false = lessN (ks.getD k []) (ks.getD y []) → n = 0 ∨ ∃ y, r[n - 1]? = some y ∧ leK ks y k) := Lib.hid (fun m y h1 h2 h3 => Or.inr ⟨y, by rw [h1]; exact h2, h3.symm⟩)
        clear hkc
        rcases HX.out with h0 | ⟨m, b2, o2, Am, cm, lm, bb, y, hnm, hmk, rfl, hc2, hyl, hc3, hcall, hrm, hbb⟩
        · have hd0 : decide (0 < n) = false := decide_eq_false (by omega)
          have HS : Hid (n = 0 ∨ ∃ y, r[n - 1]? = some y ∧ leK ks y k) := Lib.hid (Or.inl h0)
          clear h0 HX HSF HDP
          generalize (ks.getD k []).length = lk at *
          go_wp2_with fail
          go_quiet (fail)
          go_wp2_with fail
          obtain ⟨w3, hw3⟩ : ∃ w3, w3 = wr.drewN nq := ⟨_, rfl⟩
          have HQ3 : Hid (Below w1.heap.size w1 w3) := Lib.hid (by rw [hw3]; exact (HQ.out nq).below _)
          rw [← hw3]
          clear hw3 hq HQ hcell
          refine region_inv [7, 11] w3 [(33, Sp.lit 3 1 0 []), (34, Sp.val (.slice A2 k c2)), (35, Sp.val (.int .i64 (n : Int))), (36, Sp.val (hiV A2 n c2)), (37, Sp.row 3 1 (0 + n) ([] ++ (r.map I64).take n)), (38, Sp.val (.int .i64 (k : Int))), (39, Sp.row 3 1 1 [.int .i64 (k : Int)]), (40, Sp.row 3 1 (0 + n + 1) (([] ++ (r.map I64).take n) ++ [.int .i64 (k : Int)])), (41, Sp.val (.slice A2 k c2)), (42, Sp.val (.int .i64 (n : Int))), (43, Sp.val (loV A2 k c2 n)), (44, Sp.row 3 1 (0 + n + 1 + (k - n)) ((([] ++ (r.map I64).take n) ++ [.int .i64 (k : Int)]) ++ (r.map I64).drop n)), (3, Sp.row 3 1 (0 + n + 1 + (k - n)) ((([] ++ (r.map I64).take n) ++ [.int .i64 (k : Int)]) ++ (r.map I64).drop n))] [33, 37, 39, 40, 44, 3] rfl (by kernel_rfl) ?_ (by kernel_rfl) ?_ ?_
          case refine_1 => exact (Below.refl _ _).drew
          case refine_2 =>
            refine ⟨?_, ?_, ?_, ?_, ?_, ?_, ?_, ?_, ?_, ?_, ?_, ?_, ?_, trivial⟩
            case refine_1 =>
              refine ⟨_, rfl, Nat.le_of_ble_eq_true rfl, fun listed a W hst hn hdep K hK => ?_⟩
              go_simp
              have hb : Below W.heap.size W (W.alloc (.cells #[] 3)) := (Below.refl _ _).alloc (Nat.le_refl _) _
              exact hK _ _ (Or.inr hb) (hst.glob.trans (Below.mono hb hst.glob.size)) (Sp.of_lit rfl (lit_own (n := 0) hst.glob rfl (by unfold maxLen; omega) rfl) ⟨_, rfl⟩) trivial
            case refine_2 => (refine ⟨_, rfl, Nat.le_of_ble_eq_true rfl, fun listed a W hst hn hdep K hK => ?_⟩; (have e1 := hst.oldOf hn 3 (by kernel_rfl) rfl; simp only [Array.getD_eq_getD_getElem?] at e1); go_simp; exact hK _ _ (Or.inr (Below.refl _ _)) hst.glob (Sp.of_val rfl) trivial)
            case refine_3 => (refine ⟨_, rfl, Nat.le_of_ble_eq_true rfl, fun listed a W hst hn hdep K hK => ?_⟩; (have e1 := hst.oldOf hn 5 (by kernel_rfl) rfl; simp only [Array.getD_eq_getD_getElem?] at e1); go_simp; exact hK _ _ (Or.inr (Below.refl _ _)) hst.glob (Sp.of_val rfl) trivial)
            case refine_4 =>
              refine ⟨_, rfl, Nat.le_of_ble_eq_true rfl, fun listed a W hst hn hdep K hK => ?_⟩
              (have dd := dep_of hdep 1 (by kernel_rfl); have e31 := hst.valOf 1 34 (by kernel_rfl) dd rfl; clear dd)
              (have dd := dep_of hdep 2 (by kernel_rfl); have e32 := hst.valOf 2 35 (by kernel_rfl) dd rfl; clear dd)
              have hcut := run_hiI A2 k c2 n HA2.out.1 HA2.out.2.2 hnk HA2.out.2.1 W
              go_simp
              exact hK _ _ (Or.inr (Below.refl _ _)) hst.glob (Sp.of_val rfl) trivial
            case refine_5 =>
              refine ⟨_, rfl, Nat.le_of_ble_eq_true rfl, fun listed a W hst hn hdep K hK => ?_⟩
              (have dd := dep_of hdep 0 (by kernel_rfl); have r30 := hst.rowOf hn 0 33 (by kernel_rfl) dd (by kernel_rfl) rfl; clear dd)
              (have dd := dep_of hdep 3 (by kernel_rfl); have e33 := hst.valOf 3 36 (by kernel_rfl) dd rfl; clear dd)
              refine inv_append_full elemI rfl 33 36 rfl _ 0 _ r30.1 (r30.2 rfl) n _ (by rw [e33]; exact HHI.out _ (HQ3.out.trans (hst.glob.mono HQ3.out.size))) (by omega) hst.glob.size ?_
              intro v' w' ho hb
              exact hK _ _ (Or.inr hb) (hst.glob.trans (Below.mono hb hst.glob.size)) (Sp.of_row rfl ho) trivial
            case refine_6 => (refine ⟨_, rfl, Nat.le_of_ble_eq_true rfl, fun listed a W hst hn hdep K hK => ?_⟩; (have e1 := hst.oldOf hn 4 (by kernel_rfl) rfl; simp only [Array.getD_eq_getD_getElem?] at e1); go_simp; exact hK _ _ (Or.inr (Below.refl _ _)) hst.glob (Sp.of_val rfl) trivial)
            case refine_7 =>
              refine ⟨_, rfl, Nat.le_of_ble_eq_true rfl, fun listed a W hst hn hdep K hK => ?_⟩
              (have dd := dep_of hdep 5 (by kernel_rfl); have e1 := hst.valOf 5 38 (by kernel_rfl) dd rfl; clear dd)
              go_simp
              have hb : Below W.heap.size W (W.alloc (.cells #[.int .i64 (k : Int)] 3)) := (Below.refl _ _).alloc (Nat.le_refl _) _
              exact hK _ _ (Or.inr hb) (hst.glob.trans (Below.mono hb hst.glob.size)) (Sp.of_row rfl (lit_own (n := 1) hst.glob rfl (by unfold maxLen; omega) rfl)) trivial
            case refine_8 =>
              refine ⟨_, rfl, Nat.le_of_ble_eq_true rfl, fun listed a W hst hn hdep K hK => ?_⟩
              (have dd := dep_of hdep 4 (by kernel_rfl); have r34 := hst.rowOf hn 4 37 (by kernel_rfl) dd (by kernel_rfl) rfl; clear dd)
              (have dd := dep_of hdep 6 (by kernel_rfl); have r39 := hst.rowOf hn 6 39 (by kernel_rfl) dd (by kernel_rfl) rfl; clear dd)
              refine inv_append elemI rfl 37 39 rfl _ (0 + n) _ r34.1 1 _ r39.1.arg (i64_one [k]) (by omega) hst.glob.size ?_
              intro v' w' ho hg
              exact hK _ _ (Or.inl (by simp)) (grown_belowc hst.glob r34.1 hg hst.glob.size) (Sp.of_row rfl ho) trivial
            case refine_9 => (refine ⟨_, rfl, Nat.le_of_ble_eq_true rfl, fun listed a W hst hn hdep K hK => ?_⟩; (have e1 := hst.oldOf hn 3 (by kernel_rfl) rfl; simp only [Array.getD_eq_getD_getElem?] at e1); go_simp; exact hK _ _ (Or.inr (Below.refl _ _)) hst.glob (Sp.of_val rfl) trivial)
            case refine_10 => (refine ⟨_, rfl, Nat.le_of_ble_eq_true rfl, fun listed a W hst hn hdep K hK => ?_⟩; (have e1 := hst.oldOf hn 5 (by kernel_rfl) rfl; simp only [Array.getD_eq_getD_getElem?] at e1); go_simp; exact hK _ _ (Or.inr (Below.refl _ _)) hst.glob (Sp.of_val rfl) trivial)
            case refine_11 =>
              refine ⟨_, rfl, Nat.le_of_ble_eq_true rfl, fun listed a W hst hn hdep K hK => ?_⟩
              (have dd := dep_of hdep 8 (by kernel_rfl); have e41 := hst.valOf 8 41 (by kernel_rfl) dd rfl; clear dd)
              (have dd := dep_of hdep 9 (by kernel_rfl); have e42 := hst.valOf 9 42 (by kernel_rfl) dd rfl; clear dd)
              have hcut := run_loI A2 k c2 n HA2.out.1 HA2.out.2.2 hnk HA2.out.2.1 W
              go_simp
              exact hK _ _ (Or.inr (Below.refl _ _)) hst.glob (Sp.of_val rfl) trivial
            case refine_12 =>
              refine ⟨_, rfl, Nat.le_of_ble_eq_true rfl, fun listed a W hst hn hdep K hK => ?_⟩
              (have dd := dep_of hdep 7 (by kernel_rfl); have r40 := hst.rowOf hn 7 40 (by kernel_rfl) dd (by kernel_rfl) rfl; clear dd)
              (have dd := dep_of hdep 10 (by kernel_rfl); have e43 := hst.valOf 10 43 (by kernel_rfl) dd rfl; clear dd)
              refine inv_append elemI rfl 40 43 rfl _ (0 + n + 1) _ r40.1 (k - n) _ (by rw [e43]; exact HLO.out _ (HQ3.out.trans (hst.glob.mono HQ3.out.size))) (fun u hu => i64_one r u (List.mem_of_mem_drop hu)) (by omega) hst.glob.size ?_
              intro v' w' ho hg
              exact hK _ _ (Or.inl (by simp)) (grown_belowc hst.glob r40.1 hg hst.glob.size) (Sp.of_row rfl ho) trivial
            case refine_13 =>
              refine ⟨_, rfl, Nat.le_of_ble_eq_true rfl, fun listed a W hst hn hdep K hK => ?_⟩
              (have dd := dep_of hdep 11 (by kernel_rfl); have r44 := hst.rowOf hn 11 44 (by kernel_rfl) dd (by kernel_rfl) rfl; clear dd)
              go_simp
              exact hK _ _ (Or.inr (Below.refl _ _)) hst.glob (Sp.of_row rfl r44.1) trivial
          case refine_3 =>
            rintro ⟨⟨tm⟩, df⟩ w' listed hl hst
            obtain rfl : df = [] := hst.defers
            have s0 := hst.oldEnd 0 (by kernel_rfl) rfl
            have s1 := hst.oldEnd 1 (by kernel_rfl) rfl
            have s2 := hst.oldEnd 2 (by kernel_rfl) rfl
            have s4 := hst.oldEnd 4 (by kernel_rfl) rfl
            have s45 := hst.oldEnd 45 (by kernel_rfl) rfl
            have hr := hst.rowEnd 12 3 (by kernel_rfl) (hl 12 (Nat.le_of_ble_eq_true rfl)) (by kernel_rfl) rfl
            have hsz : tm.length = 46 := hst.size
            have hglob := hst.glob
            clear hst hl
            ((repeat (have hh := arr_succ hsz; clear hsz; obtain ⟨_, tm, rfl, hsz⟩ := hh)); (obtain rfl := List.eq_nil_of_length_eq_zero hsz))
            simp at s0 s1 s2 s4 s45
            subst s0 s1 s2 s4 s45
            have hW : Below w.heap.size w w' := HW1.out.trans ((HQ3.out.trans (hglob.mono HQ3.out.size)).mono HW1.out.size)
            have hr2 := OwnC.base hr (base' := w.heap.size) (Nat.le_trans HW1.out.size HQ3.out.size)
            rw [Nat.zero_add, List.nil_append] at hr2
            have HD := Lib.hid (HG.out _ w' HS.out (by simpa using hr2) hW)
            go_wp2_with fail
            go_roundw
            case rel => exact ⟨k + 1, _, rfl, by omega, by go_num, Lib.hid ⟨_, HD.out⟩⟩
            case measure => simp [intOf]; omega
        · have hd0 : decide (0 < n) = true := decide_eq_true (by omega)
          have hmki : (m : Int) < (k : Int) := by omega
          have hwm : wrap64 ((n : Int) - 1) = (m : Int) := by unfold wrap64; omega
          have hwm2 : IntKind.i64.wrap ((n : Int) - 1) = (m : Int) := by rw [IntKind.wrap_i64]; omega
          have HM := Lib.hid (show n = m + 1 by omega)
          have HCALL := Lib.hid hcall
          have HRM := Lib.hid hrm
          have HBB := Lib.hid hbb
          clear hnm hcall hrm hbb HX
          generalize (ks.getD k []).length = lk at *
          cases bb with
          | true =>
            have HP := Lib.hid (HDP.out m y HM.out HRM.out HBB.out)
            clear HSF HDP HRM HBB
            go_wp2_with fail
            go_quiet ((go_at_call 36; exact HCALL.out _))
            go_wp2_with fail
            go_roundw
            case rel => exact ⟨m, by omega, by go_num, Lib.hid ⟨HQ.out _, HP.out⟩⟩
            case measure => simp [intOf]; have := HM.out; omega
          | false =>
            have HS := Lib.hid (HSF.out m y HM.out HRM.out HBB.out)
            clear HSF HDP HRM HBB
            go_wp2_with fail
            go_quiet ((go_at_call 36; exact HCALL.out _))
            go_wp2_with fail
            obtain ⟨w3, hw3⟩ : ∃ w3, w3 = wr.drewN nq := ⟨_, rfl⟩
            have HQ3 : Hid (Below w1.heap.size w1 w3) := Lib.hid (by rw [hw3]; exact (HQ.out nq).below _)
            rw [← hw3]
            clear hw3 hq HQ hcell hc2 hc3 HCALL
            generalize (some ⟨b2, o2, none⟩ : Option Addr) = A2 at *
            refine region_inv [7, 11] w3 [(33, Sp.lit 3 1 0 []), (34, Sp.val (.slice A2 k c2)), (35, Sp.val (.int .i64 (n : Int))), (36, Sp.val (hiV A2 n c2)), (37, Sp.row 3 1 (0 + n) ([] ++ (r.map I64).take n)), (38, Sp.val (.int .i64 (k : Int))), (39, Sp.row 3 1 1 [.int .i64 (k : Int)]), (40, Sp.row 3 1 (0 + n + 1) (([] ++ (r.map I64).take n) ++ [.int .i64 (k : Int)])), (41, Sp.val (.slice A2 k c2)), (42, Sp.val (.int .i64 (n : Int))), (43, Sp.val (loV A2 k c2 n)), (44, Sp.row 3 1 (0 + n + 1 + (k - n)) ((([] ++ (r.map I64).take n) ++ [.int .i64 (k : Int)]) ++ (r.map I64).drop n)), (3, Sp.row 3 1 (0 + n + 1 + (k - n)) ((([] ++ (r.map I64).take n) ++ [.int .i64 (k : Int)]) ++ (r.map I64).drop n))] [33, 37, 39, 40, 44, 3] rfl (by kernel_rfl) ?_ (by kernel_rfl) ?_ ?_
            case refine_1 => exact (Below.refl _ _).drew
            case refine_2 =>
              refine ⟨?_, ?_, ?_, ?_, ?_, ?_, ?_, ?_, ?_, ?_, ?_, ?_, ?_, trivial⟩
              case refine_1 =>
                refine ⟨_, rfl, Nat.le_of_ble_eq_true rfl, fun listed a W hst hn hdep K hK => ?_⟩
                go_simp
                have hb : Below W.heap.size W (W.alloc (.cells #[] 3)) := (Below.refl _ _).alloc (Nat.le_refl _) _
                exact hK _ _ (Or.inr hb) (hst.glob.trans (Below.mono hb hst.glob.size)) (Sp.of_lit rfl (lit_own (n := 0) hst.glob rfl (by unfold maxLen; omega) rfl) ⟨_, rfl⟩) trivial
              case refine_2 => (refine ⟨_, rfl, Nat.le_of_ble_eq_true rfl, fun listed a W hst hn hdep K hK => ?_⟩; (have e1 := hst.oldOf hn 3 (by kernel_rfl) rfl; simp only [Array.getD_eq_getD_getElem?] at e1); go_simp; exact hK _ _ (Or.inr (Below.refl _ _)) hst.glob (Sp.of_val rfl) trivial)
              case refine_3 => (refine ⟨_, rfl, Nat.le_of_ble_eq_true rfl, fun listed a W hst hn hdep K hK => ?_⟩; (have e1 := hst.oldOf hn 5 (by kernel_rfl) rfl; simp only [Array.getD_eq_getD_getElem?] at e1); go_simp; exact hK _ _ (Or.inr (Below.refl _ _)) hst.glob (Sp.of_val rfl) trivial)
              case refine_4 =>
                refine ⟨_, rfl, Nat.le_of_ble_eq_true rfl, fun listed a W hst hn hdep K hK => ?_⟩
                (have dd := dep_of hdep 1 (by kernel_rfl); have e31 := hst.valOf 1 34 (by kernel_rfl) dd rfl; clear dd)
                (have dd := dep_of hdep 2 (by kernel_rfl); have e32 := hst.valOf 2 35 (by kernel_rfl) dd rfl; clear dd)
                have hcut := run_hiI A2 k c2 n HA2.out.1 HA2.out.2.2 hnk HA2.out.2.1 W
                go_simp
                exact hK _ _ (Or.inr (Below.refl _ _)) hst.glob (Sp.of_val rfl) trivial
              case refine_5 =>
                refine ⟨_, rfl, Nat.le_of_ble_eq_true rfl, fun listed a W hst hn hdep K hK => ?_⟩
                (have dd := dep_of hdep 0 (by kernel_rfl); have r30 := hst.rowOf hn 0 33 (by kernel_rfl) dd (by kernel_rfl) rfl; clear dd)
                (have dd := dep_of hdep 3 (by kernel_rfl); have e33 := hst.valOf 3 36 (by kernel_rfl) dd rfl; clear dd)
                refine inv_append_full elemI rfl 33 36 rfl _ 0 _ r30.1 (r30.2 rfl) n _ (by rw [e33]; exact HHI.out _ (HQ3.out.trans (hst.glob.mono HQ3.out.size))) (by omega) hst.glob.size ?_
                intro v' w' ho hb
                exact hK _ _ (Or.inr hb) (hst.glob.trans (Below.mono hb hst.glob.size)) (Sp.of_row rfl ho) trivial
              case refine_6 => (refine ⟨_, rfl, Nat.le_of_ble_eq_true rfl, fun listed a W hst hn hdep K hK => ?_⟩; (have e1 := hst.oldOf hn 4 (by kernel_rfl) rfl; simp only [Array.getD_eq_getD_getElem?] at e1); go_simp; exact hK _ _ (Or.inr (Below.refl _ _)) hst.glob (Sp.of_val rfl) trivial)
              case refine_7 =>
                refine ⟨_, rfl, Nat.le_of_ble_eq_true rfl, fun listed a W hst hn hdep K hK => ?_⟩
                (have dd := dep_of hdep 5 (by kernel_rfl); have e1 := hst.valOf 5 38 (by kernel_rfl) dd rfl; clear dd)
                go_simp
                have hb : Below W.heap.size W (W.alloc (.cells #[.int .i64 (k : Int)] 3)) := (Below.refl _ _).alloc (Nat.le_refl _) _
                exact hK _ _ (Or.inr hb) (hst.glob.trans (Below.mono hb hst.glob.size)) (Sp.of_row rfl (lit_own (n := 1) hst.glob rfl (by unfold maxLen; omega) rfl)) trivial
              case refine_8 =>
                refine ⟨_, rfl, Nat.le_of_ble_eq_true rfl, fun listed a W hst hn hdep K hK => ?_⟩
                (have dd := dep_of hdep 4 (by kernel_rfl); have r34 := hst.rowOf hn 4 37 (by kernel_rfl) dd (by kernel_rfl) rfl; clear dd)
                (have dd := dep_of hdep 6 (by kernel_rfl); have r39 := hst.rowOf hn 6 39 (by kernel_rfl) dd (by kernel_rfl) rfl; clear dd)
                refine inv_append elemI rfl 37 39 rfl _ (0 + n) _ r34.1 1 _ r39.1.arg (i64_one [k]) (by omega) hst.glob.size ?_
                intro v' w' ho hg
                exact hK _ _ (Or.inl (by simp)) (grown_belowc hst.glob r34.1 hg hst.glob.size) (Sp.of_row rfl ho) trivial
              case refine_9 => (refine ⟨_, rfl, Nat.le_of_ble_eq_true rfl, fun listed a W hst hn hdep K hK => ?_⟩; (have e1 := hst.oldOf hn 3 (by kernel_rfl) rfl; simp only [Array.getD_eq_getD_getElem?] at e1); go_simp; exact hK _ _ (Or.inr (Below.refl _ _)) hst.glob (Sp.of_val rfl) trivial)
              case refine_10 => (refine ⟨_, rfl, Nat.le_of_ble_eq_true rfl, fun listed a W hst hn hdep K hK => ?_⟩; (have e1 := hst.oldOf hn 5 (by kernel_rfl) rfl; simp only [Array.getD_eq_getD_getElem?] at e1); go_simp; exact hK _ _ (Or.inr (Below.refl _ _)) hst.glob (Sp.of_val rfl) trivial)
              case refine_11 =>
                refine ⟨_, rfl, Nat.le_of_ble_eq_true rfl, fun listed a W hst hn hdep K hK => ?_⟩
                (have dd := dep_of hdep 8 (by kernel_rfl); have e41 := hst.valOf 8 41 (by kernel_rfl) dd rfl; clear dd)
                (have dd := dep_of hdep 9 (by kernel_rfl); have e42 := hst.valOf 9 42 (by kernel_rfl) dd rfl; clear dd)
                have hcut := run_loI A2 k c2 n HA2.out.1 HA2.out.2.2 hnk HA2.out.2.1 W
                go_simp
                exact hK _ _ (Or.inr (Below.refl _ _)) hst.glob (Sp.of_val rfl) trivial
              case refine_12 =>
                refine ⟨_, rfl, Nat.le_of_ble_eq_true rfl, fun listed a W hst hn hdep K hK => ?_⟩
                (have dd := dep_of hdep 7 (by kernel_rfl); have r40 := hst.rowOf hn 7 40 (by kernel_rfl) dd (by kernel_rfl) rfl; clear dd)
                (have dd := dep_of hdep 10 (by kernel_rfl); have e43 := hst.valOf 10 43 (by kernel_rfl) dd rfl; clear dd)
                refine inv_append elemI rfl 40 43 rfl _ (0 + n + 1) _ r40.1 (k - n) _ (by rw [e43]; exact HLO.out _ (HQ3.out.trans (hst.glob.mono HQ3.out.size))) (fun u hu => i64_one r u (List.mem_of_mem_drop hu)) (by omega) hst.glob.size ?_
                intro v' w' ho hg
                exact hK _ _ (Or.inl (by simp)) (grown_belowc hst.glob r40.1 hg hst.glob.size) (Sp.of_row rfl ho) trivial
              case refine_13 =>
                refine ⟨_, rfl, Nat.le_of_ble_eq_true rfl, fun listed a W hst hn hdep K hK => ?_⟩
                (have dd := dep_of hdep 11 (by kernel_rfl); have r44 := hst.rowOf hn 11 44 (by kernel_rfl) dd (by kernel_rfl) rfl; clear dd)
                go_simp
                exact hK _ _ (Or.inr (Below.refl _ _)) hst.glob (Sp.of_row rfl r44.1) trivial
            case refine_3 =>
              rintro ⟨⟨tm⟩, df⟩ w' listed hl hst
              obtain rfl : df = [] := hst.defers
              have s0 := hst.oldEnd 0 (by kernel_rfl) rfl
              have s1 := hst.oldEnd 1 (by kernel_rfl) rfl
              have s2 := hst.oldEnd 2 (by kernel_rfl) rfl
              have s4 := hst.oldEnd 4 (by kernel_rfl) rfl
              have s45 := hst.oldEnd 45 (by kernel_rfl) rfl
              have hr := hst.rowEnd 12 3 (by kernel_rfl) (hl 12 (Nat.le_of_ble_eq_true rfl)) (by kernel_rfl) rfl
              have hsz : tm.length = 46 := hst.size
              have hglob := hst.glob
              clear hst hl
              ((repeat (have hh := arr_succ hsz; clear hsz; obtain ⟨_, tm, rfl, hsz⟩ := hh)); (obtain rfl := List.eq_nil_of_length_eq_zero hsz))
              simp at s0 s1 s2 s4 s45
              subst s0 s1 s2 s4 s45
              have hW : Below w.heap.size w w' := HW1.out.trans ((HQ3.out.trans (hglob.mono HQ3.out.size)).mono HW1.out.size)
              have hr2 := OwnC.base hr (base' := w.heap.size) (Nat.le_trans HW1.out.size HQ3.out.size)
              rw [Nat.zero_add, List.nil_append] at hr2
              have HD := Lib.hid (HG.out _ w' HS.out (by simpa using hr2) hW)
              go_wp2_with fail
              go_roundw
              case rel => exact ⟨k + 1, _, rfl, by omega, by go_num, Lib.hid ⟨_, HD.out⟩⟩
              case measure => simp [intOf]; omega
    · have hki : ¬ (k : Int) < (ks.length : Int) := by omega
      go_wp2_with fail
      go_ret
      obtain ⟨r, hr⟩ := ho.out
      obtain rfl : k = ks.length := by omega
      exact ⟨sv, rfl, r, hr⟩

end Go.Proofs.YthdagjlgfffpbaaGreat
