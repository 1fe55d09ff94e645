/-
  Layer 6 (lex): the law's comparison of tokens. By the verifier.
-/
import Derived.Test.YtmgohahjocdeeaaDoorTRTk
set_option linter.unusedVariables false
namespace Go.Proofs.YtmgohahjocdeeaaDoor
open Go.RowKit

theorem flat_get (ts : List Tok) (k j : Nat) (hk : k < ts.length) (hj : j < 5) : (ts.flatMap tokV)[k * 5 + j]? = (tokV ts[k])[j]? := by
  induction ts generalizing k with
  | nil => simp at hk
  | cons t r ih =>
    rw [List.flatMap_cons]
    cases k with
    | zero =>
      rw [List.getElem?_append_left (by rw [tokV_len]; omega)]
      simp
    | succ k =>
      rw [List.getElem?_append_right (by rw [tokV_len]; omega), tokV_len]
      have e : (k + 1) * 5 + j - 5 = k * 5 + j := by omega
      rw [e, ih k (by simpa using hk)]
      simp

/-- The cells of a token in a list. -/
theorem tok_cells {w : World} {A : Option Addr} {ts : List Tok} (h : Cells w A (ts.flatMap tokV)) {k : Nat} (hk : k < ts.length) :
    ∃ b o, A = some ⟨b, o, none⟩ ∧ b < w.heap.size ∧ ∀ W, Below w.heap.size w W → W.cell? ⟨b, o + k * 5, none⟩ = some (.int .i64 (ts[k].kind : Int)) ∧ W.cell? ⟨b, o + k * 5 + 1, none⟩ = some (.string (strB ts[k].text)) ∧ W.cell? ⟨b, o + k * 5 + 2, none⟩ = some (.int .u64 ts[k].val) ∧ W.cell? ⟨b, o + k * 5 + 3, none⟩ = some (.int .i64 (ts[k].line : Int)) ∧ W.cell? ⟨b, o + k * 5 + 4, none⟩ = some (.int .i64 (ts[k].col : Int)) := by
  obtain ⟨b, o, rfl, hb, hc⟩ := h.some (by rw [flat5]; omega)
  refine ⟨b, o, rfl, hb, fun W hW => ?_⟩
  have g : ∀ j v, j < 5 → (tokV ts[k])[j]? = some v → W.cell? ⟨b, o + k * 5 + j, none⟩ = some v := fun j v hj hv => by
    rw [hW.cell (p := ⟨b, o + k * 5 + j, none⟩) hb, Nat.add_assoc]
    exact hc (k * 5 + j) v (by rw [flat_get ts k j hk hj]; exact hv)
  exact ⟨g 0 _ (by omega) rfl, g 1 _ (by omega) rfl, g 2 _ (by omega) rfl, g 3 _ (by omega) rfl, g 4 _ (by omega) rfl⟩

set_option maxHeartbeats 2000000 in
set_option maxRecDepth 20000 in
theorem same_ok (ts : List Tok) (hl : ts.length ≤ 100000) (A A2 : Option Addr) (c c2 : Nat) (w : World) (h1 : Cells w A (ts.flatMap tokV)) (h2 : Cells w A2 (ts.flatMap tokV)) :
    Calls Tryd.prog 12 #[.slice A ts.length c, .slice A2 ts.length c2] w fun e w' => e = .returned (.bool true) ∧ Below w.heap.size w w' := by
  have H1 := Lib.hid (fun k (hk : k < ts.length) => tok_cells h1 hk)
  have H2 := Lib.hid (fun k (hk : k < ts.length) => tok_cells h2 hk)
  have HL := Lib.hid hl
  clear h1 h2
  go_enter Tryd.func12, Tryd.ntmps12
  go_wp2_with fail
  go_loopw [14] (fun i wr => ∃ k : Nat, i = .int .i64 (k : Int) ∧ k ≤ ts.length ∧ Hid (Below w.heap.size w wr)) (fun i _ => ts.length - (intOf i).toNat)
  case atStart => exact ⟨0, rfl, by omega, Lib.hid (Below.refl _ _)⟩
  case round =>
    obtain ⟨k, rfl, hk, hb⟩ := hrel
    by_cases hlt : k < ts.length
    · have hki : (k : Int) < (ts.length : Int) := by omega
      have hk2 : (k : Int) ≤ 100000 := by omega
      obtain ⟨b, o, rfl, hbl, hc⟩ := H1.out k hlt
      obtain ⟨b2, o2, rfl, hbl2, hc2⟩ := H2.out k hlt
      generalize ts[k] = t at *
      obtain ⟨tk, tt, tv, tl, tc⟩ := t
      have HB2 : Hid (Below w.heap.size w (wr.alloc (.cells #[.int .i64 (tk : Int), .string (strB tt), .int .u64 tv, .int .i64 (tl : Int), .int .i64 (tc : Int)] 39))) := Lib.hid (hb.out.alloc hb.out.size _)
      obtain ⟨a0, a1, a2, a3, a4⟩ := hc wr hb.out
      obtain ⟨d0, d1, d2, d3, d4⟩ := hc2 _ HB2.out
      obtain ⟨X, hX⟩ : ∃ X, X = wr.alloc (.cells #[.int .i64 (tk : Int), .string (strB tt), .int .u64 tv, .int .i64 (tl : Int), .int .i64 (tc : Int)] 39) := ⟨_, rfl⟩
      have hXr : X.heap[wr.heap.size]? = some (.cells #[.int .i64 (tk : Int), .string (strB tt), .int .u64 tv, .int .i64 (tl : Int), .int .i64 (tc : Int)] 39 (0, 0)) := by rw [hX]; exact heap_alloc_new _ _
      rw [← hX] at HB2 d0 d1 d2 d3 d4
      have x0 := cell_of_row _ _ 0 _ _ _ hXr
      have x1 := cell_of_row _ _ 1 _ _ _ hXr
      have x2 := cell_of_row _ _ 2 _ _ _ hXr
      have x3 := cell_of_row _ _ 3 _ _ _ hXr
      have x4 := cell_of_row _ _ 4 _ _ _ hXr
      simp only [List.getElem?_toArray, List.getElem?_cons_zero, List.getElem?_cons_succ] at x0 x1 x2 x3 x4
      have HX := Lib.hid hX.symm
      generalize strB tt = tb at *
      have hbw : b < wr.heap.size := Nat.lt_of_lt_of_le hbl hb.out.size
      have hbx : b2 < X.heap.size := Nat.lt_of_lt_of_le hbl2 HB2.out.size
      clear hc hc2 hXr hX hbl hbl2
      go_wp2_with fail
      rw [HX.out]
      go_quiet (fail)
      have HBQ := Lib.hid (below_drewN HB2.out nq)
      go_wp2_with fail
      go_roundw
      case rel => exact ⟨k + 1, by go_num, by omega, HBQ⟩
      case measure => simp [intOf]; omega
    · have hki : ¬ (k : Int) < (ts.length : Int) := by omega
      go_wp2_with fail
      go_ret
      exact ⟨rfl, hb.out⟩

end Go.Proofs.YtmgohahjocdeeaaDoor
