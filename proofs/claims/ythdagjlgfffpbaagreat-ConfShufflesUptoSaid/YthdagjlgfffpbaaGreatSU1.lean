/-
  slices.Sort at []uint16, first part: the row that is sorted, in memory; cmp.Less; insertion; reversal. By the verifier.
-/
import Derived.Test.YthdagjlgfffpbaaGreatMRow
import Derived.Sort.AssemblyPlain
import Derived.CellFam
import Derived.BigQuiet
import Derived.BigGuard
import Derived.BigRegion
import Derived.BigCall
import Derived.WalkKit
import Derived.Test.YthdagjlgfffpbaaGreatShelf
import Derived.Shelf.SlSortCmp.Xorshift
set_option linter.unusedVariables false
namespace Go.Proofs.YthdagjlgfffpbaaGreat.SU
open Go.RowKit Go.Sort

/-- The row in block blk holds d from off on; of the blocks that there were, it alone has turned. -/
structure Rw (w0 : World) (blk off m : Nat) (d : Array Int) (W : World) : Prop where
  turn : Turn (fun b => b = blk) w0 W
  row : ∃ cur, W.heap[blk]? = some (.cells cur 32 (0, 0)) ∧ cur.size = m ∧ ∀ i, i < d.size → cur[off + i]? = some (.int .u16 d[i]!)
  base : blk < w0.heap.size

variable {w0 w W W' : World} {blk off m : Nat} {d d' : Array Int}

theorem Rw.lt (h : Rw w0 blk off m d W) : blk < W.heap.size := Nat.lt_of_lt_of_le h.base h.turn.size
theorem Rw.cell (h : Rw w0 blk off m d W) {i : Nat} (hi : i < d.size) : W.cell? ⟨blk, off + i, none⟩ = some (.int .u16 d[i]!) := by
  obtain ⟨cur, hc, -, hall⟩ := h.row
  rw [cell_of_row W blk _ _ _ _ hc]
  exact hall i hi
theorem Rw.free (h : Rw w0 blk off m d W) (i : Nat) : W.frozen? ⟨blk, i, none⟩ = false := by
  obtain ⟨cur, hc, -, hall⟩ := h.row
  exact frozen_of_row W blk i cur _ hc
theorem Rw.self (h : Rw w0 blk off m d W) : Rw W blk off m d W := ⟨Turn.refl _ _, h.row, h.lt⟩
theorem Rw.comp (h : Rw w0 blk off m d W) (k : Rw W blk off m d' W') : Rw w0 blk off m d' W' := ⟨h.turn.trans k.turn (fun _ _ e => e), k.row, h.base⟩
theorem Rw.drewN (h : Rw w0 blk off m d W) (q : Nat) : Rw w0 blk off m d (W.drewN q) := ⟨⟨h.turn.os, h.turn.tape, h.turn.output, h.turn.size, h.turn.block⟩, h.row, h.base⟩
theorem Rw.drew (h : Rw w0 blk off m d W) : Rw w0 blk off m d W.drew := h.drewN 1
theorem Rw.alloc (h : Rw w0 blk off m d W) (o : Obj) : Rw w0 blk off m d (W.alloc o) := by
  have hb : Below W.heap.size W (W.alloc o) := (Below.refl _ _).alloc (Nat.le_refl _) _
  obtain ⟨cur, hc, hm, hall⟩ := h.row
  exact ⟨h.turn.trans (Turn.of_below (S := fun b => b = blk) hb) (fun _ _ e => e), ⟨cur, by rw [hb.block _ h.lt]; exact hc, hm, hall⟩, h.base⟩

theorem set_row {W : World} {blk i : Nat} {cur : Array Value} {t : TypeId} (hc : W.heap[blk]? = some (.cells cur t (0, 0))) (v : Value) : (W.setCell ⟨blk, i, none⟩ v).heap[blk]? = some (.cells (cur.setIfInBounds i v) t (0, 0)) :=
  heap_setCell_same _ _ _ _ _ _ hc

/-- A store into another block, which is new. -/
theorem Rw.other (h : Rw w0 blk off m d W) {b : Nat} (hb : w0.heap.size ≤ b) (i : Nat) (v : Value) : Rw w0 blk off m d (W.setCell ⟨b, i, none⟩ v) := by
  have hne : b ≠ blk := by have := h.base; omega
  obtain ⟨cur, hc, hm, hall⟩ := h.row
  have ht : Turn (fun k => k = b) W (W.setCell ⟨b, i, none⟩ v) := Turn.setCell (S := fun k => k = b) (B := b) (Turn.refl _ _) rfl v
  refine ⟨⟨ht.os.trans h.turn.os, ht.tape.trans h.turn.tape, ht.output.trans h.turn.output, Nat.le_trans h.turn.size ht.size, fun k hk hn => ?_⟩, ⟨cur, ?_, hm, hall⟩, h.base⟩
  · rw [ht.block k (Nat.lt_of_lt_of_le hk h.turn.size) (by omega)]
    exact h.turn.block k hk hn
  · rw [ht.block blk h.lt (fun e => hne e.symm)]
    exact hc

theorem Rw.swap (h : Rw w0 blk off m d W) {i j : Nat} (hi : i < d.size) (hj : j < d.size) :
    Rw w0 blk off m (swp d i j) ((W.setCell ⟨blk, off + i, none⟩ (.int .u16 d[j]!)).setCell ⟨blk, off + j, none⟩ (.int .u16 d[i]!)) := by
  obtain ⟨cur, hc, hm, hall⟩ := h.row
  have h1 := set_row (i := off + i) hc (.int .u16 d[j]!)
  have h2 := set_row (i := off + j) h1 (.int .u16 d[i]!)
  have t1 : Turn (fun k => k = blk) W (W.setCell ⟨blk, off + i, none⟩ (.int .u16 d[j]!)) := Turn.setCell (S := fun k => k = blk) (B := blk) (Turn.refl _ _) rfl _
  have t2 : Turn (fun k => k = blk) W ((W.setCell ⟨blk, off + i, none⟩ (.int .u16 d[j]!)).setCell ⟨blk, off + j, none⟩ (.int .u16 d[i]!)) := Turn.setCell (S := fun k => k = blk) (B := blk) t1 rfl _
  refine ⟨h.turn.trans t2 (fun _ _ e => e), ⟨_, h2, by simpa using hm, fun k hk => ?_⟩, h.base⟩
  rw [size_swp] at hk
  have hk' := hall k hk
  have hlt : off + k < cur.size := (Array.getElem?_eq_some_iff.1 hk').1
  have hj' := hall j hj
  have hltj : off + j < cur.size := (Array.getElem?_eq_some_iff.1 hj').1
  rw [Array.getElem?_setIfInBounds]
  by_cases e : j = k
  · subst e
    rw [if_pos rfl, if_pos (by simpa using hlt), swp_right d i j hj]
  · rw [if_neg (by omega), Array.getElem?_setIfInBounds]
    by_cases e2 : i = k
    · subst e2
      rw [if_pos rfl, if_pos hlt, swp_left d i j hi (fun e' => e e'.symm)]
    · rw [if_neg (by omega), swp_other d i j k (fun e' => e2 e'.symm) (fun e' => e e'.symm)]
      exact hk'

theorem less_ok (x y : Int) (w : World) : Calls Tryz.prog 99 #[.int .u16 x, .int .u16 y] w fun e w' => e = .returned (.bool (decide (x < y))) ∧ w' = w := by
  go_enter Tryz.func99, Tryz.ntmps99
  go_wp2
  go_ret
  exact ⟨rfl, rfl⟩

section
variable {α : Type} [Inhabited α] (lt : α → α → Bool)
/-- One round of the inner loop of the insertion, and its end. -/
theorem ins_step {a j : Nat} {d : Array α} (hj : a < j) (hl : lt d[j]! d[j - 1]! = true) : insInner lt a j d = insInner lt a (j - 1) (swp d j (j - 1)) := by
  cases j with
  | zero => omega
  | succ k => conv => lhs; rw [insInner]
              rw [if_pos (by simp only [Nat.add_sub_cancel] at hl; simp [hl]; omega)]
              rfl
theorem ins_end {a j : Nat} {d : Array α} (h : j ≤ a ∨ lt d[j]! d[j - 1]! = false) : insInner lt a j d = d := by
  cases j with
  | zero => rw [insInner]
  | succ k =>
    rw [insInner, if_neg]
    simp only [Nat.add_sub_cancel] at h
    simp only [Bool.and_eq_true, decide_eq_true_eq]
    rintro ⟨h1, h2⟩
    rcases h with h | h
    · omega
    · rw [h] at h2; cases h2
end

end Go.Proofs.YthdagjlgfffpbaaGreat.SU

/-
  slices.Sort at []uint16: insertionSortOrdered, reverseRangeOrdered. By the verifier.
-/
set_option linter.unusedVariables false
namespace Go.Proofs.YthdagjlgfffpbaaGreat.SU
open Go.RowKit Go.Sort

set_option maxHeartbeats 2000000 in
theorem insertion_ok {w : World} {blk off m : Nat} {d : Array Int} (h : Rw w blk off m d w) (cap a b : Nat) (hab : a ≤ b) (hb : b ≤ d.size) (hn : d.size ≤ 1000) :
    Calls Tryz.prog 93 #[.slice (some ⟨blk, off, none⟩) d.size cap, .int .i64 (a : Int), .int .i64 (b : Int)] w fun e w' => e = .returned (.tuple #[]) ∧ Rw w blk off m (insertionSort ltInt d a b) w' := by
  have H := Lib.hid h
  clear h
  go_enter Tryz.func93, Tryz.ntmps93
  go_wp2
  go_loopw [6] (fun vi wr => ∃ (i : Nat) (dk : Array Int), vi = .int .i64 (i : Int) ∧ a < i ∧ i ≤ b + 1 ∧ dk.size = d.size ∧ Hid (Rw w blk off m dk wr ∧ insOuter ltInt a b i dk = insOuter ltInt a b (a + 1) d)) (fun vi _ => b + 1 - (intOf vi).toNat)
  case atStart => exact ⟨a + 1, d, by go_num, by omega, by omega, rfl, Lib.hid ⟨H.out, rfl⟩⟩
  case round =>
    obtain ⟨i, dk, rfl, hai, hib, hsk, ho⟩ := hrel
    by_cases hlt : i < b
    · have hki : (i : Int) < (b : Int) := by omega
      go_wp2
      go_loopw [7] (fun vj wr2 => ∃ (j : Nat) (dj : Array Int), vj = .int .i64 (j : Int) ∧ a ≤ j ∧ j ≤ i ∧ dj.size = d.size ∧ Hid (Rw w blk off m dj wr2 ∧ insInner ltInt a j dj = insInner ltInt a i dk)) (fun vj _ => (intOf vj).toNat)
      case atStart => exact ⟨i, dk, rfl, by omega, Nat.le_refl _, hsk, Lib.hid ⟨ho.out.1, rfl⟩⟩
      case round =>
        obtain ⟨j, dj, rfl, haj, hji, hsj, hq⟩ := hrel
        have OUT : Hid ((j ≤ a ∨ ltInt dj[j]! dj[j - 1]! = false) → ∀ W, Rw w blk off m dj W → ∃ (i' : Nat) (dk' : Array Int), Value.int .i64 ((i : Int) + 1) = .int .i64 (i' : Int) ∧ a < i' ∧ i' ≤ b + 1 ∧ dk'.size = d.size ∧ Hid (Rw w blk off m dk' W ∧ insOuter ltInt a b i' dk' = insOuter ltInt a b (a + 1) d)) := Lib.hid fun hs W hW =>
          ⟨i + 1, dj, by go_num, by omega, by omega, hsj, Lib.hid ⟨hW, by rw [← ho.out.2]; conv => rhs; rw [insOuter, if_pos hlt, ← hq.out.2, ins_end ltInt hs]⟩⟩
        obtain ⟨G, hG⟩ : ∃ G : Nat → Int, ∀ t, G t = dj[t]! := ⟨fun t => dj[t]!, fun _ => rfl⟩
        have HG := Lib.hid hG
        have hcw : ∀ t, t < d.size → wr.cell? ⟨blk, off + t, none⟩ = some (.int .u16 (G t)) := fun t ht => by rw [hG]; exact hq.out.1.cell (by omega)
        have hfw : ∀ t, t < d.size → wr.frozen? ⟨blk, off + t, none⟩ = false := fun t ht => hq.out.1.free _
        clear hG
        go_wp2
        by_cases hja : a < j
        · go_quiet (first | (go_at_call 99; refine Calls.quiet_of_same (less_ok _ _ _)))
          by_cases hl : G j < G (j - 1)
          · go_wp2
            go_region
            all_goals go_wp2
            go_roundw
            case rel =>
              refine ⟨j - 1, swp dj j (j - 1), by congr 1; omega, by omega, by omega, by rw [size_swp]; exact hsj, Lib.hid ⟨?_, ?_⟩⟩
              · rw [HG.out, HG.out]
                exact (hq.out.1.drewN _).swap (i := j) (j := j - 1) (by omega) (by omega)
              · rw [← hq.out.2, ins_step ltInt hja (by unfold ltInt; rw [← HG.out, ← HG.out]; exact decide_eq_true hl)]
            case measure => simp [intOf]; omega
          · go_wp2
            go_roundw
            case rel => exact OUT.out (Or.inr (by unfold ltInt; rw [← HG.out, ← HG.out]; exact decide_eq_false hl)) _ (hq.out.1.drewN _)
            case measure => simp [intOf]; omega
        · go_quiet (first | (go_at_call 99; refine Calls.quiet_of_same (less_ok _ _ _)))
          go_wp2
          go_roundw
          case rel => exact OUT.out (Or.inl (by omega)) _ (hq.out.1.drewN _)
          case measure => simp [intOf]; omega
    · have hki : ¬ (i : Int) < (b : Int) := by omega
      go_wp2
      go_end0
      refine ⟨rfl, ?_⟩
      have := ho.out.2
      rw [insOuter, if_neg hlt] at this
      unfold insertionSort
      rw [← this]
      exact ho.out.1

set_option maxHeartbeats 1000000 in
theorem reverse_ok {w : World} {blk off m : Nat} {d : Array Int} (h : Rw w blk off m d w) (cap a b : Nat) (hab : a < b) (hb : b ≤ d.size) (hn : d.size ≤ 1000) :
    Calls Tryz.prog 97 #[.slice (some ⟨blk, off, none⟩) d.size cap, .int .i64 (a : Int), .int .i64 (b : Int)] w fun e w' => e = .returned (.tuple #[]) ∧ ∃ d', Rw w blk off m d' w' ∧ PermIn a b d d' := by
  have H := Lib.hid h
  clear h
  go_enter Tryz.func97, Tryz.ntmps97
  go_wp2
  go_loopw [6, 7] (fun vi vj wr => ∃ (i j : Nat) (dk : Array Int), vi = .int .i64 (i : Int) ∧ vj = .int .i64 ((j : Int) - 1) ∧ a ≤ i ∧ j ≤ b ∧ i ≤ b ∧ dk.size = d.size ∧ Hid (Rw w blk off m dk wr ∧ PermIn a b d dk)) (fun vi vj _ => b - (intOf vi).toNat)
  case atStart => exact ⟨a, b, d, rfl, by go_num, Nat.le_refl _, Nat.le_refl _, by omega, rfl, Lib.hid ⟨H.out, permIn_refl d a b⟩⟩
  case round =>
    obtain ⟨i, j, dk, rfl, rfl, hai, hjb, hib, hsk, hq⟩ := hrel
    by_cases hlt : i + 1 < j
    · have hki : (i : Int) < (j : Int) - 1 := by omega
      obtain ⟨k, rfl⟩ : ∃ k, j = k + 1 := ⟨j - 1, by omega⟩
      obtain ⟨G, hG⟩ : ∃ G : Nat → Int, ∀ t, G t = dk[t]! := ⟨fun t => dk[t]!, fun _ => rfl⟩
      have HG := Lib.hid hG
      have hcw : ∀ t, t < d.size → wr.cell? ⟨blk, off + t, none⟩ = some (.int .u16 (G t)) := fun t ht => by rw [hG]; exact hq.out.1.cell (by omega)
      have hfw : ∀ t, t < d.size → wr.frozen? ⟨blk, off + t, none⟩ = false := fun t ht => hq.out.1.free _
      clear hG
      go_wp2
      go_region
      all_goals go_wp2
      go_roundw
      case rel =>
        refine ⟨i + 1, k, swp dk i k, by go_num, by go_num, by omega, by omega, by omega, by rw [size_swp]; exact hsk, Lib.hid ⟨?_, ?_⟩⟩
        · rw [HG.out, HG.out]
          exact (hq.out.1.swap (i := i) (j := k) (by omega) (by omega)).drew
        · exact permIn_trans _ _ _ a b hq.out.2 (swp_permIn dk a b i k (by omega) (by omega) (by omega) (by omega) (by omega))
      case measure => simp [intOf]; omega
    · have hki : ¬ (i : Int) < (j : Int) - 1 := by omega
      go_wp2
      go_end0
      exact ⟨rfl, dk, hq.out.1, hq.out.2⟩

end Go.Proofs.YthdagjlgfffpbaaGreat.SU

/-
  slices.Sort at []uint16: siftDownOrdered, heapSortOrdered. By the verifier.
-/
set_option linter.unusedVariables false
namespace Go.Proofs.YthdagjlgfffpbaaGreat.SU
open Go.RowKit Go.Sort

theorem lt_yes {x y a b : Int} (hx : x = a) (hy : y = b) (h : x < y) : ltInt a b = true := by subst hx hy; exact decide_eq_true h
theorem lt_no {x y a b : Int} (hx : x = a) (hy : y = b) (h : ¬ x < y) : ¬ ltInt a b = true := by subst hx hy; exact fun e => h (of_decide_eq_true e)

section
variable {α : Type} [Inhabited α] (lt : α → α → Bool)
theorem sift_end {hi F r : Nat} {d : Array α} (h : ¬ 2 * r + 1 < hi) : siftDown lt hi F r d = d := by rw [siftDown, dif_pos (by omega)]
theorem sift_right {hi F r : Nat} {d : Array α} (h : 2 * r + 2 < hi) (hl : lt d[F + 2 * r + 1]! d[F + 2 * r + 2]! = true) :
    siftDown lt hi F r d = if lt d[F + r]! d[F + 2 * r + 2]! = true then siftDown lt hi F (2 * r + 2) (swp d (F + r) (F + 2 * r + 2)) else d := by
  conv => lhs; rw [siftDown]
  have e : F + (2 * r + 1) + 1 = F + 2 * r + 2 := by omega
  have e1 : F + (2 * r + 1) = F + 2 * r + 1 := rfl
  have e2 : F + (2 * r + 2) = F + 2 * r + 2 := rfl
  rw [dif_neg (by omega), e, e1, e2, hl, if_pos (by simp; omega)]
  cases h2 : lt d[F + r]! d[F + 2 * r + 2]! with
  | false => simp
  | true => simp [h]
theorem sift_left {hi F r : Nat} {d : Array α} (h : 2 * r + 1 < hi) (hl : ¬ (2 * r + 2 < hi ∧ lt d[F + 2 * r + 1]! d[F + 2 * r + 2]! = true)) :
    siftDown lt hi F r d = if lt d[F + r]! d[F + 2 * r + 1]! = true then siftDown lt hi F (2 * r + 1) (swp d (F + r) (F + 2 * r + 1)) else d := by
  conv => lhs; rw [siftDown]
  have e : F + (2 * r + 1) + 1 = F + 2 * r + 2 := by omega
  have e1 : F + (2 * r + 1) = F + 2 * r + 1 := rfl
  have e2 : F + (2 * r + 2) = F + 2 * r + 2 := rfl
  rw [dif_neg (by omega), e, e1, e2, if_neg (by simp only [Bool.and_eq_true, decide_eq_true_eq]; exact hl)]
  cases h2 : lt d[F + r]! d[F + 2 * r + 1]! with
  | false => simp
  | true => simp
end

set_option maxHeartbeats 4000000 in
set_option maxRecDepth 100000 in
theorem sift_ok {w : World} {blk off m : Nat} {d : Array Int} (h : Rw w blk off m d w) (cap lo hi first : Nat) (hlo : lo ≤ hi) (hb : first + hi ≤ d.size) (hn : d.size ≤ 1000) :
    Calls Tryz.prog 114 #[.slice (some ⟨blk, off, none⟩) d.size cap, .int .i64 (lo : Int), .int .i64 (hi : Int), .int .i64 (first : Int)] w fun e w' => e = .returned (.tuple #[]) ∧ Rw w blk off m (siftDown ltInt hi first lo d) w' := by
  have H := Lib.hid h
  clear h
  go_enter Tryz.func114, Tryz.ntmps114
  go_wp2
  go_loopw [8] (fun vr wr => ∃ (root : Nat) (dk : Array Int), vr = .int .i64 (root : Int) ∧ root ≤ hi ∧ dk.size = d.size ∧ Hid (Rw w blk off m dk wr ∧ siftDown ltInt hi first root dk = siftDown ltInt hi first lo d)) (fun vr _ => hi - (intOf vr).toNat)
  case atStart => exact ⟨lo, d, rfl, hlo, rfl, Lib.hid ⟨H.out, rfl⟩⟩
  case round =>
    obtain ⟨root, dk, rfl, hr, hsk, ho⟩ := hrel
    have HS := Lib.hid ho.out.2
    have HW := Lib.hid ho.out.1
    clear ho
    by_cases h0 : 2 * root + 1 < hi
    · have hki : ¬ (hi : Int) ≤ 2 * (root : Int) + 1 := by omega
      obtain ⟨G, hG⟩ : ∃ G : Nat → Int, ∀ t, G t = dk[t]! := ⟨fun t => dk[t]!, fun _ => rfl⟩
      have HG := Lib.hid hG
      clear hG
      have hcw : ∀ t, t < d.size → wr.cell? ⟨blk, off + t, none⟩ = some (.int .u16 (G t)) := fun t ht => by rw [HG.out]; exact HW.out.cell (by omega)
      have hfw : ∀ t, t < d.size → wr.frozen? ⟨blk, off + t, none⟩ = false := fun t ht => HW.out.free _
      go_wp2
      by_cases h1 : 2 * root + 2 < hi
      · have hk1 : 2 * (root : Int) + 1 + 1 < (hi : Int) := by omega
        go_quiet (first | (go_at_call 99; refine Calls.quiet_of_same (less_ok _ _ _)))
        by_cases hl1 : G (first + 2 * root + 1) < G (first + 2 * root + 2)
        · go_wp2
          have HW1 : Hid (Rw w blk off m dk (wr.drewN nq)) := Lib.hid (HW.out.drewN _)
          generalize wr.drewN nq = wr1 at *
          clear hcw hfw
          have HEQ : Hid _ := Lib.hid (sift_right ltInt (F := first) (r := root) (d := dk) h1 (lt_yes (HG.out _) (HG.out _) hl1))
          have hcw : ∀ t, t < d.size → wr1.cell? ⟨blk, off + t, none⟩ = some (.int .u16 (G t)) := fun t ht => by rw [HG.out]; exact HW1.out.cell (by omega)
          have hfw : ∀ t, t < d.size → wr1.frozen? ⟨blk, off + t, none⟩ = false := fun t ht => HW1.out.free _
          go_quiet (first | (go_at_call 99; refine Calls.quiet_of_same (less_ok _ _ _)))
          generalize hB : decide (G (first + root) < G (first + 2 * root + 2)) = B
          cases B with
          | false =>
            have hl2 : ¬ G (first + root) < G (first + 2 * root + 2) := of_decide_eq_false hB
            go_wp2
            first | go_end0 | refine bodyPost_ret (results_none rfl _ _ _) rfl ?_
            refine ⟨rfl, ?_⟩
            rw [← HS.out, HEQ.out, if_neg (lt_no (HG.out (first + root)) (HG.out (first + 2 * root + 2)) (by omega))]
            exact HW1.out.drewN _
          | true =>
            have hl2 : G (first + root) < G (first + 2 * root + 2) := of_decide_eq_true hB
            go_wp2
            have HW2 : Hid (Rw w blk off m dk (wr1.drewN nq)) := Lib.hid (HW1.out.drewN _)
            generalize wr1.drewN nq = wr2 at *
            clear hcw hfw
            have hcw : ∀ t, t < d.size → wr2.cell? ⟨blk, off + t, none⟩ = some (.int .u16 (G t)) := fun t ht => by rw [HG.out]; exact HW2.out.cell (by omega)
            have hfw : ∀ t, t < d.size → wr2.frozen? ⟨blk, off + t, none⟩ = false := fun t ht => HW2.out.free _
            go_region
            all_goals go_wp2
            go_roundw
            case rel =>
              refine ⟨(2 * root + 2), swp dk (first + root) (first + 2 * root + 2), by go_num, by omega, by rw [size_swp]; exact hsk, Lib.hid ⟨?_, ?_⟩⟩
              · rw [HG.out, HG.out]
                exact (HW2.out.swap (i := first + root) (j := first + 2 * root + 2) (by omega) (by omega)).drew
              · rw [← HS.out, HEQ.out, if_pos (lt_yes (HG.out _) (HG.out _) hl2)]
            case measure => simp [intOf]; omega
        · go_wp2
          have HW1 : Hid (Rw w blk off m dk (wr.drewN nq)) := Lib.hid (HW.out.drewN _)
          generalize wr.drewN nq = wr1 at *
          clear hcw hfw
          have HEQ : Hid _ := Lib.hid (sift_left ltInt (F := first) (r := root) (d := dk) h0 (fun hh => lt_no (HG.out _) (HG.out _) (by omega) hh.2))
          have hcw : ∀ t, t < d.size → wr1.cell? ⟨blk, off + t, none⟩ = some (.int .u16 (G t)) := fun t ht => by rw [HG.out]; exact HW1.out.cell (by omega)
          have hfw : ∀ t, t < d.size → wr1.frozen? ⟨blk, off + t, none⟩ = false := fun t ht => HW1.out.free _
          go_quiet (first | (go_at_call 99; refine Calls.quiet_of_same (less_ok _ _ _)))
          generalize hB : decide (G (first + root) < G (first + 2 * root + 1)) = B
          cases B with
          | false =>
            have hl2 : ¬ G (first + root) < G (first + 2 * root + 1) := of_decide_eq_false hB
            go_wp2
            first | go_end0 | refine bodyPost_ret (results_none rfl _ _ _) rfl ?_
            refine ⟨rfl, ?_⟩
            rw [← HS.out, HEQ.out, if_neg (lt_no (HG.out (first + root)) (HG.out (first + 2 * root + 1)) (by omega))]
            exact HW1.out.drewN _
          | true =>
            have hl2 : G (first + root) < G (first + 2 * root + 1) := of_decide_eq_true hB
            go_wp2
            have HW2 : Hid (Rw w blk off m dk (wr1.drewN nq)) := Lib.hid (HW1.out.drewN _)
            generalize wr1.drewN nq = wr2 at *
            clear hcw hfw
            have hcw : ∀ t, t < d.size → wr2.cell? ⟨blk, off + t, none⟩ = some (.int .u16 (G t)) := fun t ht => by rw [HG.out]; exact HW2.out.cell (by omega)
            have hfw : ∀ t, t < d.size → wr2.frozen? ⟨blk, off + t, none⟩ = false := fun t ht => HW2.out.free _
            go_region
            all_goals go_wp2
            go_roundw
            case rel =>
              refine ⟨(2 * root + 1), swp dk (first + root) (first + 2 * root + 1), by go_num, by omega, by rw [size_swp]; exact hsk, Lib.hid ⟨?_, ?_⟩⟩
              · rw [HG.out, HG.out]
                exact (HW2.out.swap (i := first + root) (j := first + 2 * root + 1) (by omega) (by omega)).drew
              · rw [← HS.out, HEQ.out, if_pos (lt_yes (HG.out _) (HG.out _) hl2)]
            case measure => simp [intOf]; omega
      · have hk1 : ¬ 2 * (root : Int) + 1 + 1 < (hi : Int) := by omega
        go_quiet (first | (go_at_call 99; refine Calls.quiet_of_same (less_ok _ _ _)))
        go_wp2
        have HW1 : Hid (Rw w blk off m dk (wr.drewN nq)) := Lib.hid (HW.out.drewN _)
        generalize wr.drewN nq = wr1 at *
        clear hcw hfw
        have HEQ : Hid _ := Lib.hid (sift_left ltInt (F := first) (r := root) (d := dk) h0 (fun hh => h1 hh.1))
        have hcw : ∀ t, t < d.size → wr1.cell? ⟨blk, off + t, none⟩ = some (.int .u16 (G t)) := fun t ht => by rw [HG.out]; exact HW1.out.cell (by omega)
        have hfw : ∀ t, t < d.size → wr1.frozen? ⟨blk, off + t, none⟩ = false := fun t ht => HW1.out.free _
        go_quiet (first | (go_at_call 99; refine Calls.quiet_of_same (less_ok _ _ _)))
        generalize hB : decide (G (first + root) < G (first + 2 * root + 1)) = B
        cases B with
        | false =>
          have hl2 : ¬ G (first + root) < G (first + 2 * root + 1) := of_decide_eq_false hB
          go_wp2
          first | go_end0 | refine bodyPost_ret (results_none rfl _ _ _) rfl ?_
          refine ⟨rfl, ?_⟩
          rw [← HS.out, HEQ.out, if_neg (lt_no (HG.out (first + root)) (HG.out (first + 2 * root + 1)) (by omega))]
          exact HW1.out.drewN _
        | true =>
          have hl2 : G (first + root) < G (first + 2 * root + 1) := of_decide_eq_true hB
          go_wp2
          have HW2 : Hid (Rw w blk off m dk (wr1.drewN nq)) := Lib.hid (HW1.out.drewN _)
          generalize wr1.drewN nq = wr2 at *
          clear hcw hfw
          have hcw : ∀ t, t < d.size → wr2.cell? ⟨blk, off + t, none⟩ = some (.int .u16 (G t)) := fun t ht => by rw [HG.out]; exact HW2.out.cell (by omega)
          have hfw : ∀ t, t < d.size → wr2.frozen? ⟨blk, off + t, none⟩ = false := fun t ht => HW2.out.free _
          go_region
          all_goals go_wp2
          go_roundw
          case rel =>
            refine ⟨(2 * root + 1), swp dk (first + root) (first + 2 * root + 1), by go_num, by omega, by rw [size_swp]; exact hsk, Lib.hid ⟨?_, ?_⟩⟩
            · rw [HG.out, HG.out]
              exact (HW2.out.swap (i := first + root) (j := first + 2 * root + 1) (by omega) (by omega)).drew
            · rw [← HS.out, HEQ.out, if_pos (lt_yes (HG.out _) (HG.out _) hl2)]
          case measure => simp [intOf]; omega
    · have hki : (hi : Int) ≤ 2 * (root : Int) + 1 := by omega
      go_wp2
      first | go_end0 | refine bodyPost_ret (results_none rfl _ _ _) rfl ?_
      refine ⟨rfl, ?_⟩
      rw [← HS.out, sift_end ltInt h0]
      exact HW.out

theorem sift_size {α : Type} [Inhabited α] (lt : α → α → Bool) (hi F : Nat) : ∀ (r : Nat) (d : Array α), (siftDown lt hi F r d).size = d.size := by
  intro r
  induction hk : hi - r using Nat.strongRecOn generalizing r with
  | ind n ih =>
    intro d
    by_cases h0 : 2 * r + 1 < hi
    · by_cases h1 : 2 * r + 2 < hi ∧ lt d[F + 2 * r + 1]! d[F + 2 * r + 2]! = true
      · rw [sift_right lt h1.1 h1.2]
        split
        · rw [ih (hi - (2 * r + 2)) (by omega) _ rfl, size_swp]
        · rfl
      · rw [sift_left lt h0 h1]
        split
        · rw [ih (hi - (2 * r + 1)) (by omega) _ rfl, size_swp]
        · rfl
    · rw [sift_end lt h0]

/-- Behind the first store of an exchange the second place still holds something. -/
theorem Rw.kept {w0 W : World} {blk off m : Nat} {d : Array Int} (h : Rw w0 blk off m d W) {i j : Nat} (v : Value) (hj : j < d.size) : ∃ u, (W.setCell ⟨blk, off + i, none⟩ v).cell? ⟨blk, off + j, none⟩ = some u := by
  by_cases e : i = j
  · subst e
    exact ⟨v, World.cell?_setCell_same _ _ _ (h.cell hj)⟩
  · exact ⟨_, (World.cell?_setCell_other _ _ _ _ (by intro e'; simp only [Addr.mk.injEq] at e'; omega)).trans (h.cell hj)⟩

set_option maxHeartbeats 4000000 in
set_option maxRecDepth 100000 in
theorem heap_ok {w : World} {blk off m : Nat} {d : Array Int} (h : Rw w blk off m d w) (cap a b : Nat) (hab : a < b) (hb : b ≤ d.size) (hn : d.size ≤ 1000) :
    Calls Tryz.prog 94 #[.slice (some ⟨blk, off, none⟩) d.size cap, .int .i64 (a : Int), .int .i64 (b : Int)] w fun e w' => e = .returned (.tuple #[]) ∧ Rw w blk off m (heapSort ltInt d a b) w' := by
  have H := Lib.hid h
  clear h
  obtain ⟨hi, hhi⟩ : ∃ hi, b = a + hi := ⟨b - a, by omega⟩
  have HHI := Lib.hid hhi
  have e1 : b - a = hi := by omega
  have hsub : (b : Int) - (a : Int) = (hi : Int) := by omega
  obtain ⟨K, hK⟩ : ∃ K, K = (hi - 1) / 2 := ⟨_, rfl⟩
  have hdiv : ((hi : Int) - 1).tdiv 2 = (K : Int) := by rw [Int.tdiv_eq_ediv_of_nonneg (by omega)]; omega
  have HSORT : Hid (heapSort ltInt d a b = heapPop ltInt a hi (heapBuild ltInt hi a (K + 1) d)) := Lib.hid (by unfold heapSort; rw [e1, hK])
  have hKl : K < hi := by omega
  have hal : a + hi ≤ d.size := by omega
  clear e1 hhi
  go_enter Tryz.func94, Tryz.ntmps94
  go_wp2
  go_loopw [9] (fun vi wr => ∃ (k : Nat) (dk : Array Int), vi = .int .i64 ((k : Int) - 1) ∧ k ≤ K + 1 ∧ dk.size = d.size ∧ Hid (Rw w blk off m dk wr ∧ heapBuild ltInt hi a k dk = heapBuild ltInt hi a (K + 1) d)) (fun vi _ => (intOf vi + 1).toNat)
  case atStart => exact ⟨K + 1, d, by go_num, Nat.le_refl _, rfl, Lib.hid ⟨H.out, rfl⟩⟩
  case round =>
    obtain ⟨k, dk, rfl, hk, hsk, ho⟩ := hrel
    cases k with
    | succ k =>
      have HSF := Lib.hid (sift_ok ho.out.1.self cap k hi a (by omega) (by omega) (by omega))
      rw [hsk] at HSF
      have hki : (0 : Int) ≤ ((k + 1 : Nat) : Int) - 1 := by omega
      have hk2 : ((k + 1 : Nat) : Int) - 1 = (k : Int) := by omega
      rw [hk2] at hki ⊢
      go_wp2_with (go_at_call 114; with_reducible refine HSF.out.mono ?_; rintro e w1 ⟨rfl, hr1⟩; have HR1 := Lib.hid hr1; clear hr1)
      go_roundw
      case rel => exact ⟨k, siftDown ltInt hi a k dk, by go_num, by omega, by rw [sift_size]; exact hsk, Lib.hid ⟨ho.out.1.comp HR1.out, by rw [← ho.out.2]; rfl⟩⟩
      case measure => simp [intOf]
    | zero =>
      have hki : ¬ (0 : Int) ≤ ((0 : Nat) : Int) - 1 := by omega
      go_wp2
      have HD : Hid (dk = heapBuild ltInt hi a (K + 1) d) := Lib.hid (by rw [← ho.out.2]; rfl)
      have HR := Lib.hid ho.out.1
      clear ho
      go_loopw [10] (fun vi wr => ∃ (k : Nat) (dj : Array Int), vi = .int .i64 ((k : Int) - 1) ∧ k ≤ hi ∧ dj.size = d.size ∧ Hid (Rw w blk off m dj wr ∧ heapPop ltInt a k dj = heapPop ltInt a hi dk)) (fun vi _ => (intOf vi + 1).toNat)
      case atStart => exact ⟨hi, dk, by go_num, Nat.le_refl _, hsk, Lib.hid ⟨HR.out, rfl⟩⟩
      case round =>
        obtain ⟨k, dj, rfl, hk, hsj, ho⟩ := hrel
        cases k with
        | succ k =>
          have hki : (0 : Int) ≤ ((k + 1 : Nat) : Int) - 1 := by omega
          have hk2 : ((k + 1 : Nat) : Int) - 1 = (k : Int) := by omega
          rw [hk2] at hki ⊢
          have HW := Lib.hid ho.out.1
          have HP := Lib.hid ho.out.2
          clear ho
          obtain ⟨G, hG⟩ : ∃ G : Nat → Int, ∀ t, G t = dj[t]! := ⟨fun t => dj[t]!, fun _ => rfl⟩
          have HG := Lib.hid hG
          clear hG
          have hcw : ∀ t, t < d.size → wr.cell? ⟨blk, off + t, none⟩ = some (.int .u16 (G t)) := fun t ht => by rw [HG.out]; exact HW.out.cell (by omega)
          have hfw : ∀ t, t < d.size → wr.frozen? ⟨blk, off + t, none⟩ = false := fun t ht => HW.out.free _
          obtain ⟨u, hu⟩ := HW.out.kept (i := a) (j := a + k) (.int .u16 (G (a + k))) (by omega)
          go_wp2
          go_region
          all_goals go_wp2_with fail
          have hr2 : Rw w blk off m (swp dj a (a + k)) (((wr.setCell ⟨blk, off + a, none⟩ (.int .u16 (G (a + k)))).setCell ⟨blk, off + (a + k), none⟩ (.int .u16 (G a)))).drew := by
            rw [HG.out, HG.out]
            exact (HW.out.swap (i := a) (j := a + k) (by omega) (by omega)).drew
          have HR2 := Lib.hid hr2
          generalize ((wr.setCell ⟨blk, off + a, none⟩ (.int .u16 (G (a + k)))).setCell ⟨blk, off + (a + k), none⟩ (.int .u16 (G a))).drew = wr2 at *
          clear hr2 hcw hfw
          have hss : (swp dj a (a + k)).size = d.size := by rw [size_swp]; exact hsj
          have HSF := Lib.hid (sift_ok HR2.out.self cap 0 k a (Nat.zero_le _) (by omega) (by omega))
          rw [hss] at HSF
          have hz : ((0 : Nat) : Int) = 0 := rfl
          rw [hz] at HSF
          go_wp2_with (go_at_call 114; with_reducible refine HSF.out.mono ?_; rintro e w1 ⟨rfl, hr1⟩; have HR1 := Lib.hid hr1; clear hr1)
          go_roundw
          case rel => exact ⟨k, siftDown ltInt k a 0 (swp dj a (a + k)), by go_num, by omega, by rw [sift_size]; exact hss, Lib.hid ⟨HR2.out.comp HR1.out, by rw [← HP.out]; rfl⟩⟩
          case measure => simp [intOf]
        | zero =>
          have hki : ¬ (0 : Int) ≤ ((0 : Nat) : Int) - 1 := by omega
          go_wp2
          go_end0
          refine ⟨rfl, ?_⟩
          rw [HSORT.out, ← HD.out, ← ho.out.2]
          exact ho.out.1

end Go.Proofs.YthdagjlgfffpbaaGreat.SU

/-
  slices.Sort at []uint16: the choice of the pivot. By the verifier.
-/
set_option linter.unusedVariables false
namespace Go.Proofs.YthdagjlgfffpbaaGreat.SU
open Go.RowKit Go.Sort

/-- The row, and a counter in a new block of its own. -/
structure Ct (w0 : World) (blk off m : Nat) (d : Array Int) (c : Nat) (W : World) : Prop where
  rw : Rw w0 blk off m d W
  cell : ∃ z, W.cell? ⟨c, 0, none⟩ = some (.int .i64 z)
  free : W.frozen? ⟨c, 0, none⟩ = false
  new : w0.heap.size ≤ c

theorem Ct.drewN {w0 W : World} {blk off m : Nat} {d : Array Int} {c : Nat} (h : Ct w0 blk off m d c W) (q : Nat) : Ct w0 blk off m d c (W.drewN q) := ⟨h.rw.drewN q, h.cell, h.free, h.new⟩
theorem Ct.put {w0 W : World} {blk off m : Nat} {d : Array Int} {c : Nat} (h : Ct w0 blk off m d c W) (z : Int) : Ct w0 blk off m d c (W.setCell ⟨c, 0, none⟩ (.int .i64 z)) := by
  obtain ⟨y, hy⟩ := h.cell
  exact ⟨h.rw.other h.new 0 _, ⟨z, World.cell?_setCell_same _ _ _ hy⟩, by rw [World.frozen?_setCell]; exact h.free, h.new⟩

set_option maxHeartbeats 1000000 in
theorem order2_ok {w0 W : World} {blk off m : Nat} {d : Array Int} {c : Nat} (h : Ct w0 blk off m d c W) (cap a b lo hi : Nat) (ha : lo ≤ a ∧ a < hi) (hb : lo ≤ b ∧ b < hi) (hh : hi ≤ d.size) (hn : d.size ≤ 1000) :
    Calls Tryz.prog 159 #[.slice (some ⟨blk, off, none⟩) d.size cap, .int .i64 (a : Int), .int .i64 (b : Int), .pointer (some ⟨c, 0, none⟩)] W fun e w' => ∃ x y : Nat, e = .returned (.tuple #[.int .i64 (x : Int), .int .i64 (y : Int)]) ∧ (lo ≤ x ∧ x < hi) ∧ (lo ≤ y ∧ y < hi) ∧ Ct w0 blk off m d c w' := by
  have H := Lib.hid h
  obtain ⟨G, hG⟩ : ∃ G : Nat → Int, ∀ t, G t = d[t]! := ⟨fun t => d[t]!, fun _ => rfl⟩
  have hcw : ∀ t, t < d.size → W.cell? ⟨blk, off + t, none⟩ = some (.int .u16 (G t)) := fun t ht => by rw [hG]; exact h.rw.cell ht
  have hfw : ∀ t, t < d.size → W.frozen? ⟨blk, off + t, none⟩ = false := fun t ht => h.rw.free _
  obtain ⟨z, hz⟩ := h.cell
  have hfz := h.free
  have HAB := Lib.hid (And.intro ha hb)
  have ha2 : a < d.size := by omega
  have hb2 : b < d.size := by omega
  clear h hG ha hb
  go_enter Tryz.func159, Tryz.ntmps159
  go_wp2
  go_quiet (first | (go_at_call 99; refine Calls.quiet_of_same (less_ok _ _ _)))
  generalize hB : decide (G b < G a) = B
  have HW := Lib.hid (H.out.drewN nq)
  have hz2 : (W.drewN nq).cell? ⟨c, 0, none⟩ = some (.int .i64 z) := hz
  have hfz2 : (W.drewN nq).frozen? ⟨c, 0, none⟩ = false := hfz
  generalize W.drewN nq = W1 at *
  clear hcw hfw hz hfz
  cases B with
  | true =>
    go_wp2
    refine bodyPost_ret (results_tmp2 rfl _ _ _) rfl ?_
    exact ⟨b, a, rfl, HAB.out.2, HAB.out.1, HW.out.put _⟩
  | false =>
    go_wp2
    refine bodyPost_ret (results_tmp2 rfl _ _ _) rfl ?_
    exact ⟨a, b, rfl, HAB.out.1, HAB.out.2, HW.out⟩

set_option maxHeartbeats 1000000 in
theorem median_ok {w0 W : World} {blk off m : Nat} {d : Array Int} {c : Nat} (h : Ct w0 blk off m d c W) (cap x y z lo hi : Nat) (hx : lo ≤ x ∧ x < hi) (hy : lo ≤ y ∧ y < hi) (hz : lo ≤ z ∧ z < hi) (hh : hi ≤ d.size) (hn : d.size ≤ 1000) :
    Calls Tryz.prog 118 #[.slice (some ⟨blk, off, none⟩) d.size cap, .int .i64 (x : Int), .int .i64 (y : Int), .int .i64 (z : Int), .pointer (some ⟨c, 0, none⟩)] W fun e w' => ∃ p : Nat, e = .returned (.int .i64 (p : Int)) ∧ (lo ≤ p ∧ p < hi) ∧ Ct w0 blk off m d c w' := by
  have H1 := Lib.hid (order2_ok h cap x y lo hi hx hy hh hn)
  have HZ := Lib.hid hz
  clear h hx hy hz
  go_enter Tryz.func118, Tryz.ntmps118
  go_wp2_with fail
  refine H1.out.mono ?_
  rintro e w1 ⟨x1, y1, rfl, hx1, hy1, hc1⟩
  have H2 := Lib.hid (order2_ok hc1 cap y1 z lo hi hy1 HZ.out hh hn)
  have HX1 := Lib.hid hx1
  clear hx1 hy1 hc1
  go_wp2_with fail
  refine H2.out.mono ?_
  rintro e w2 ⟨y2, z2, rfl, hy2, hz2, hc2⟩
  have H3 := Lib.hid (order2_ok hc2 cap x1 y2 lo hi HX1.out hy2 hh hn)
  clear hy2 hz2 hc2
  go_wp2_with fail
  refine H3.out.mono ?_
  rintro e w3 ⟨x3, y3, rfl, hx3, hy3, hc3⟩
  have H4 := Lib.hid (And.intro hy3 hc3)
  clear hx3 hy3 hc3
  go_wp2_with fail
  go_ret
  exact ⟨y3, rfl, H4.out.1, H4.out.2⟩

set_option maxHeartbeats 1000000 in
theorem adjacent_ok {w0 W : World} {blk off m : Nat} {d : Array Int} {c : Nat} (h : Ct w0 blk off m d c W) (cap x lo hi : Nat) (hx : lo + 1 ≤ x ∧ x + 1 < hi) (hh : hi ≤ d.size) (hn : d.size ≤ 1000) :
    Calls Tryz.prog 117 #[.slice (some ⟨blk, off, none⟩) d.size cap, .int .i64 (x : Int), .pointer (some ⟨c, 0, none⟩)] W fun e w' => ∃ p : Nat, e = .returned (.int .i64 (p : Int)) ∧ (lo ≤ p ∧ p < hi) ∧ Ct w0 blk off m d c w' := by
  obtain ⟨y, rfl⟩ : ∃ y, x = y + 1 := ⟨x - 1, by omega⟩
  have H1 := Lib.hid (median_ok h cap y (y + 1) (y + 2) lo hi (by omega) (by omega) (by omega) hh hn)
  have e1 : ((y + 1 : Nat) : Int) - 1 = (y : Int) := by omega
  have e2 : ((y + 1 : Nat) : Int) + 1 = ((y + 2 : Nat) : Int) := by omega
  have hb1 : ((y + 1 : Nat) : Int) ≤ 1000 := by omega
  have hb0 : (0 : Int) ≤ ((y + 1 : Nat) : Int) := by omega
  generalize ((y + 1 : Nat) : Int) = Y1 at *
  generalize ((y + 2 : Nat) : Int) = Y2 at *
  generalize (y : Int) = Y0 at *
  clear h hx
  go_enter Tryz.func117, Tryz.ntmps117
  go_wp2_with (go_at_call 118; refine H1.out.mono ?_; rintro e w1 ⟨p, rfl, hp, hc⟩; have H2 := Lib.hid (And.intro hp hc); clear hp hc)
  go_ret
  exact ⟨p, rfl, H2.out.1, H2.out.2⟩

set_option maxHeartbeats 4000000 in
set_option maxRecDepth 100000 in
theorem choose_ok {w : World} {blk off m : Nat} {d : Array Int} (h : Rw w blk off m d w) (cap a b : Nat) (hab : a + 12 < b) (hb : b ≤ d.size) (hn : d.size ≤ 1000) :
    Calls Tryz.prog 96 #[.slice (some ⟨blk, off, none⟩) d.size cap, .int .i64 (a : Int), .int .i64 (b : Int)] w fun e w' => ∃ (p : Nat) (t : Int), e = .returned (.tuple #[.int .i64 (p : Int), .int .i64 t]) ∧ (t = 0 ∨ t = 1 ∨ t = 2) ∧ (a ≤ p ∧ p < b) ∧ Rw w blk off m d w' := by
  have H := Lib.hid h
  obtain ⟨l, hl⟩ : ∃ l, b = a + l := ⟨b - a, by omega⟩
  obtain ⟨q, hq⟩ : ∃ q, q = l / 4 := ⟨_, rfl⟩
  have hsub : (b : Int) - (a : Int) = (l : Int) := by omega
  have hdiv : (l : Int).tdiv 4 = (q : Int) := by rw [Int.tdiv_eq_ediv_of_nonneg (by omega)]; omega
  have hdiv2 : (l : Int) / 4 = (q : Int) := by omega
  have HL := Lib.hid (And.intro hl hq)
  have hl8 : (8 : Int) ≤ (l : Int) := by omega
  have HQ : Hid (3 ≤ q ∧ a + q * 3 + 1 < b ∧ q * 4 ≤ l) := Lib.hid (by omega)
  have hqb : (q : Int) ≤ 250 := by omega
  obtain ⟨W1, hW1⟩ : ∃ W1, W1 = w.alloc (.cells #[.int .i64 0] 3) := ⟨_, rfl⟩
  have hbox := hW1.symm
  have HC : Hid (Ct w blk off m d w.heap.size W1) := Lib.hid (by rw [hW1]; exact ⟨h.alloc _, ⟨0, by simp⟩, by simp, Nat.le_refl _⟩)
  clear h hl hq hW1
  have x1 : ((a + q : Nat) : Int) = (a : Int) + (q : Int) := by omega
  have x2 : ((a + q * 2 : Nat) : Int) = (a : Int) + (q : Int) * 2 := by omega
  have x3 : ((a + q * 3 : Nat) : Int) = (a : Int) + (q : Int) * 3 := by omega
  have X := Lib.hid (And.intro x1 (And.intro x2 x3))
  clear x1 x2 x3
  go_enter Tryz.func96, Tryz.ntmps96
  by_cases h50 : 50 ≤ l
  · have hk50 : (50 : Int) ≤ (l : Int) := by omega
    have HA := Lib.hid (adjacent_ok HC.out cap (a + q) a b (by have := HQ.out; omega) hb hn)
    rw [X.out.1] at HA
    go_wp2_with fail
    refine HA.out.mono ?_
    rintro e w1 ⟨p1, rfl, hp1, hc1⟩
    have HP1 := Lib.hid hp1
    have HA2 := Lib.hid (adjacent_ok hc1 cap (a + q * 2) a b (by have := HQ.out; omega) hb hn)
    rw [X.out.2.1] at HA2
    clear hp1 hc1 HA
    go_wp2_with fail
    refine HA2.out.mono ?_
    rintro e w2 ⟨p2, rfl, hp2, hc2⟩
    have HP2 := Lib.hid hp2
    have HA3 := Lib.hid (adjacent_ok hc2 cap (a + q * 3) a b (by have := HQ.out; omega) hb hn)
    rw [X.out.2.2] at HA3
    clear hp2 hc2 HA2
    go_wp2_with fail
    refine HA3.out.mono ?_
    rintro e w3 ⟨p3, rfl, hp3, hc3⟩
    have HA4 := Lib.hid (median_ok hc3 cap p1 p2 p3 a b HP1.out HP2.out hp3 hb hn)
    clear hp3 hc3 HA3
    go_wp2_with fail
    refine HA4.out.mono ?_
    rintro e w4 ⟨p4, rfl, hp4, hc4⟩
    have HF := Lib.hid (And.intro hp4 hc4)
    clear hp4 hc4 HA4
    obtain ⟨z, hz⟩ := HF.out.2.cell
    by_cases hz0 : z = 0
    · subst hz0
      go_wp2_with fail
      refine bodyPost_ret (results_tmp2 rfl _ _ _) rfl ?_
      exact ⟨_, 1, rfl, by omega, HF.out.1, HF.out.2.rw⟩
    · by_cases hz12 : z = 12
      · subst hz12
        go_wp2_with fail
        refine bodyPost_ret (results_tmp2 rfl _ _ _) rfl ?_
        exact ⟨_, 2, rfl, by omega, HF.out.1, HF.out.2.rw⟩
      · go_wp2_with fail
        refine bodyPost_ret (results_tmp2 rfl _ _ _) rfl ?_
        exact ⟨_, 0, rfl, by omega, HF.out.1, HF.out.2.rw⟩
  · have hk50 : ¬ (50 : Int) ≤ (l : Int) := by omega
    have HA4 := Lib.hid (median_ok HC.out cap (a + q) (a + q * 2) (a + q * 3) a b (by have := HQ.out; omega) (by have := HQ.out; omega) (by have := HQ.out; omega) hb hn)
    rw [X.out.1, X.out.2.1, X.out.2.2] at HA4
    go_wp2_with fail
    refine HA4.out.mono ?_
    rintro e w4 ⟨p4, rfl, hp4, hc4⟩
    have HF := Lib.hid (And.intro hp4 hc4)
    clear hp4 hc4 HA4
    obtain ⟨z, hz⟩ := HF.out.2.cell
    by_cases hz0 : z = 0
    · subst hz0
      go_wp2_with fail
      refine bodyPost_ret (results_tmp2 rfl _ _ _) rfl ?_
      exact ⟨_, 1, rfl, by omega, HF.out.1, HF.out.2.rw⟩
    · by_cases hz12 : z = 12
      · subst hz12
        go_wp2_with fail
        refine bodyPost_ret (results_tmp2 rfl _ _ _) rfl ?_
        exact ⟨_, 2, rfl, by omega, HF.out.1, HF.out.2.rw⟩
      · go_wp2_with fail
        refine bodyPost_ret (results_tmp2 rfl _ _ _) rfl ?_
        exact ⟨_, 0, rfl, by omega, HF.out.1, HF.out.2.rw⟩

end Go.Proofs.YthdagjlgfffpbaaGreat.SU

/-
  slices.Sort at []uint16: breakPatternsOrdered. By the verifier.
-/
set_option linter.unusedVariables false
namespace Go.Proofs.YthdagjlgfffpbaaGreat.SU
open Go.RowKit Go.Sort Go.Lib

/-- The row, and a number of 64 bits in a new block of its own. -/
structure Cx (w0 : World) (blk off m : Nat) (d : Array Int) (c : Nat) (W : World) : Prop where
  rw : Rw w0 blk off m d W
  cell : ∃ z : Nat, W.cell? ⟨c, 0, none⟩ = some (.int .u64 (z : Int)) ∧ z < 18446744073709551616
  free : W.frozen? ⟨c, 0, none⟩ = false
  new : w0.heap.size ≤ c

theorem Cx.drewN {w0 W : World} {blk off m : Nat} {d : Array Int} {c : Nat} (h : Cx w0 blk off m d c W) (q : Nat) : Cx w0 blk off m d c (W.drewN q) := ⟨h.rw.drewN q, h.cell, h.free, h.new⟩
theorem Cx.put {w0 W : World} {blk off m : Nat} {d : Array Int} {c : Nat} (h : Cx w0 blk off m d c W) (z : Nat) (hz : z < 18446744073709551616) : Cx w0 blk off m d c (W.setCell ⟨c, 0, none⟩ (.int .u64 (z : Int))) := by
  obtain ⟨y, hy, -⟩ := h.cell
  exact ⟨h.rw.other h.new 0 _, ⟨z, World.cell?_setCell_same _ _ _ hy, hz⟩, by rw [World.frozen?_setCell]; exact h.free, h.new⟩
theorem Cx.swap {w0 W : World} {blk off m : Nat} {d : Array Int} {c : Nat} (h : Cx w0 blk off m d c W) {i j : Nat} (hi : i < d.size) (hj : j < d.size) :
    Cx w0 blk off m (swp d i j) c ((W.setCell ⟨blk, off + i, none⟩ (.int .u16 d[j]!)).setCell ⟨blk, off + j, none⟩ (.int .u16 d[i]!)).drew := by
  obtain ⟨y, hy, hy2⟩ := h.cell
  have hne : c ≠ blk := by have := h.rw.base; have := h.new; omega
  have ne : ∀ k, (⟨blk, k, none⟩ : Addr) ≠ ⟨c, 0, none⟩ := fun k e => hne (congrArg Addr.block e).symm
  refine ⟨(h.rw.swap hi hj).drew, ⟨y, ?_, hy2⟩, ?_, h.new⟩
  · show World.cell? ((W.setCell ⟨blk, off + i, none⟩ _).setCell ⟨blk, off + j, none⟩ _) _ = _
    rw [World.cell?_setCell_other _ _ _ _ (ne _), World.cell?_setCell_other _ _ _ _ (ne _)]
    exact hy
  · show World.frozen? ((W.setCell ⟨blk, off + i, none⟩ _).setCell ⟨blk, off + j, none⟩ _) _ = _
    rw [World.frozen?_setCell, World.frozen?_setCell]
    exact h.free

theorem next_ok {w0 W : World} {blk off m : Nat} {d : Array Int} {c : Nat} (h : Cx w0 blk off m d c W) : Calls Tryz.prog 116 #[.pointer (some ⟨c, 0, none⟩)] W fun e w' => ∃ R : Nat, e = .returned (.int .u64 (R : Int)) ∧ R < 18446744073709551616 ∧ Cx w0 blk off m d c w' := by
  obtain ⟨X, hX, hl⟩ := h.cell
  refine (AnyF.xorshift_Next Tryz.xsn116 c 0 X hl W hX h.free).mono ?_
  rintro e w' ⟨rfl, rfl⟩
  exact ⟨xorNextN X, rfl, xorNextN_lt X hl, (h.put _ (xorNextN_lt X hl)).drewN 3⟩

theorem pow_ok (L : Nat) (hL : L ≤ 1000) (w : World) : Calls Tryz.prog 115 #[.int .i64 (L : Int)] w fun e w' => e = .returned (.int .u64 ((1 <<< bitsLen L : Nat) : Int)) ∧ w' = w :=
  AnyF.nextPowerOfTwo Tryz.npt115 L (by omega) w

set_option maxHeartbeats 8000000 in
set_option maxRecDepth 100000 in
theorem break_ok {w : World} {blk off m : Nat} {d : Array Int} (h : Rw w blk off m d w) (cap a b : Nat) (hab : a + 12 < b) (hb : b ≤ d.size) (hn : d.size ≤ 1000) :
    Calls Tryz.prog 95 #[.slice (some ⟨blk, off, none⟩) d.size cap, .int .i64 (a : Int), .int .i64 (b : Int)] w fun e w' => e = .returned (.tuple #[]) ∧ ∃ d', Rw w blk off m d' w' ∧ PermIn a b d d' := by
  obtain ⟨L, hl⟩ : ∃ L, b = a + L := ⟨b - a, by omega⟩
  obtain ⟨q, hq⟩ : ∃ q, q = L / 4 := ⟨_, rfl⟩
  obtain ⟨M, hM⟩ : ∃ M : Nat, M = 1 <<< bitsLen L := ⟨_, rfl⟩
  have hM1 : 1 ≤ M := by rw [hM, Nat.one_shiftLeft]; exact Nat.two_pow_pos _
  have hM2 : M ≤ 2 * L := by rw [hM, Nat.one_shiftLeft]; exact two_pow_bitsLen_le (by omega)
  have hsub : (b : Int) - (a : Int) = (L : Int) := by omega
  have hdiv : (L : Int).tdiv 4 = (q : Int) := by rw [Int.tdiv_eq_ediv_of_nonneg (by omega)]; omega
  have hdiv2 : (L : Int) / 4 = (q : Int) := by omega
  have hl8 : (8 : Int) ≤ (L : Int) := by omega
  have hL1 : (L : Int) ≤ 1000 := by omega
  have HQ : Hid (3 ≤ q ∧ a + q * 2 + 2 < b ∧ b = a + L) := Lib.hid (by omega)
  have hqb : (q : Int) ≤ 250 := by omega
  have hMi : (1 : Int) ≤ (M : Int) := by omega
  have hMj : (M : Int) ≤ 2000 := by omega
  have hpow := pow_ok L (by omega)
  rw [← hM] at hpow
  have HPOW := Lib.hid hpow
  obtain ⟨W1, hW1⟩ : ∃ W1, W1 = w.alloc (.cells #[.int .u64 (L : Int)] 170) := ⟨_, rfl⟩
  have hbox := hW1.symm
  have HC : Hid (Cx w blk off m d w.heap.size W1) := Lib.hid (by rw [hW1]; exact ⟨h.alloc _, ⟨L, by simp, by omega⟩, by simp, Nat.le_refl _⟩)
  have s0 : ∃ s0 : Nat, s0 = a + q * 2 - 1 := ⟨_, rfl⟩
  obtain ⟨s0, hs0⟩ := s0
  have hsi : (a : Int) + (q : Int) * 2 - 1 = (s0 : Int) := by omega
  have HS0 := Lib.hid hs0
  have HM2 := Lib.hid (And.intro hM1 hM2)
  clear h hl hq hM hW1 hpow hs0 hM1 hM2
  go_enter Tryz.func95, Tryz.ntmps95
  go_wp2_with (go_at_call 115; refine (HPOW.out _).mono ?_; rintro e w' ⟨rfl, rfl⟩)
  go_loopw [9] (fun vi wr => ∃ (i : Nat) (dk : Array Int), vi = .int .i64 (i : Int) ∧ a + q * 2 - 1 ≤ i ∧ i ≤ a + q * 2 + 2 ∧ dk.size = d.size ∧ Hid (Cx w blk off m dk w.heap.size wr ∧ PermIn a b d dk)) (fun vi _ => (((a + q * 2 + 2 : Nat) : Int) - intOf vi).toNat)
  case atStart => exact ⟨s0, d, by go_num, by have := HS0.out; omega, by have := HS0.out; omega, rfl, Lib.hid ⟨HC.out, permIn_refl d a b⟩⟩
  case round =>
    obtain ⟨i, dk, rfl, hi1, hi2, hsk, ho⟩ := hrel
    have HPM := Lib.hid ho.out.2
    have HI : Hid (a ≤ i ∧ a + q * 2 - 1 ≤ i ∧ i ≤ a + q * 2 + 2 ∧ a + q * 2 + 2 < b ∧ b ≤ d.size) := Lib.hid (by have := HQ.out; omega)
    by_cases hlt : i < a + q * 2 + 2
    · have hki : (i : Int) ≤ (a : Int) + (q : Int) * 2 + 1 := by omega
      have HN := Lib.hid (next_ok ho.out.1)
      clear ho
      go_wp2_with fail
      refine HN.out.mono ?_
      rintro e w2 ⟨R, rfl, hR, hc2⟩
      have HW2 := Lib.hid hc2
      obtain ⟨O, hO⟩ : ∃ O : Nat, O = R &&& (M - 1) := ⟨_, rfl⟩
      have lO : O ≤ M - 1 := by rw [hO]; exact Nat.and_le_right
      have eAnd : bits .and .u64 (R : Int) ((M : Int) - 1) = (O : Int) := by
        rw [show ((M : Int) - 1) = ((M - 1 : Nat) : Int) by have := HM2.out; omega, bits_and_u64_nat _ _ hR (by have := HM2.out; omega), hO]
      have hO2 : (O : Int) ≤ 2000 := by omega
      have HOL : Hid (O < 2 * L ∧ 0 < L) := Lib.hid (by have := HM2.out; omega)
      clear hc2 hO lO hi1 hi2
      by_cases hLO : L ≤ O
      · have hLOz : (L : Int) ≤ (O : Int) := by omega
        obtain ⟨o, hoo⟩ : ∃ o : Nat, o = O - L := ⟨_, rfl⟩
        have hOL : (O : Int) - (L : Int) = (o : Int) := by omega
        have hob : a + o < b := by have := HOL.out; have := HQ.out; omega
        clear hoo hLO
        obtain ⟨G, hG⟩ : ∃ G : Nat → Int, ∀ t, G t = dk[t]! := ⟨fun t => dk[t]!, fun _ => rfl⟩
        have HG := Lib.hid hG
        have hcw : ∀ t, t < d.size → w2.cell? ⟨blk, off + t, none⟩ = some (.int .u16 (G t)) := fun t ht => by rw [hG]; exact HW2.out.rw.cell (by omega)
        have hfw : ∀ t, t < d.size → w2.frozen? ⟨blk, off + t, none⟩ = false := fun t ht => HW2.out.rw.free _
        obtain ⟨u, hu⟩ := HW2.out.rw.kept (i := i) (j := a + o) (.int .u16 (G (a + o))) (by omega)
        have hil : i < d.size := by have := HI.out; omega
        have hol : a + o < d.size := by omega
        clear hG
        go_wp2
        go_region
        all_goals go_wp2_with fail
        go_roundw
        case rel =>
          refine ⟨i + 1, swp dk i (a + o), by go_num, by have := HI.out; omega, by have := HI.out; omega, by rw [size_swp]; exact hsk, Lib.hid ⟨?_, ?_⟩⟩
          · rw [HG.out, HG.out]
            exact HW2.out.swap (i := i) (j := a + o) (by omega) (by omega)
          · exact permIn_trans _ _ _ a b HPM.out (swp_permIn dk a b i (a + o) (by have := HI.out; omega) (by have := HI.out; omega) (by omega) (by omega) (by omega))
        case measure => simp [intOf]; omega
      · have hLOz : ¬ (L : Int) ≤ (O : Int) := by omega
        have hob : a + O < b := by have := HOL.out; have := HQ.out; omega
        clear hLO
        obtain ⟨G, hG⟩ : ∃ G : Nat → Int, ∀ t, G t = dk[t]! := ⟨fun t => dk[t]!, fun _ => rfl⟩
        have HG := Lib.hid hG
        have hcw : ∀ t, t < d.size → w2.cell? ⟨blk, off + t, none⟩ = some (.int .u16 (G t)) := fun t ht => by rw [hG]; exact HW2.out.rw.cell (by omega)
        have hfw : ∀ t, t < d.size → w2.frozen? ⟨blk, off + t, none⟩ = false := fun t ht => HW2.out.rw.free _
        obtain ⟨u, hu⟩ := HW2.out.rw.kept (i := i) (j := a + O) (.int .u16 (G (a + O))) (by omega)
        have hil : i < d.size := by have := HI.out; omega
        have hol : a + O < d.size := by omega
        clear hG
        go_wp2
        go_region
        all_goals go_wp2_with fail
        go_roundw
        case rel =>
          refine ⟨i + 1, swp dk i (a + O), by go_num, by have := HI.out; omega, by have := HI.out; omega, by rw [size_swp]; exact hsk, Lib.hid ⟨?_, ?_⟩⟩
          · rw [HG.out, HG.out]
            exact HW2.out.swap (i := i) (j := a + O) (by omega) (by omega)
          · exact permIn_trans _ _ _ a b HPM.out (swp_permIn dk a b i (a + O) (by have := HI.out; omega) (by have := HI.out; omega) (by omega) (by omega) (by omega))
        case measure => simp [intOf]; omega
    · have hki : ¬ (i : Int) ≤ (a : Int) + (q : Int) * 2 + 1 := by omega
      go_wp2
      first | go_end0 | refine bodyPost_ret (results_none rfl _ _ _) rfl ?_
      exact ⟨rfl, dk, ho.out.1.rw, HPM.out⟩

end Go.Proofs.YthdagjlgfffpbaaGreat.SU
