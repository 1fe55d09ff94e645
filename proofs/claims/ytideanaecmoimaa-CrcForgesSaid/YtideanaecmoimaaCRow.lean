/-
  Arrays that lie whole in a block. By the verifier.
-/
import Derived.Test.YtideanaecmoimaaCA
import Derived.Deep.WholeRow
import Derived.Laws.Rows
import Derived.Laws.Tables
import Derived.Outline
set_option linter.unusedVariables false
namespace Go.Proofs.Ytideanaecmoimaa
open Go.RowKit

/-- An array's cells by a function of the index. -/
def rowOf (n : Nat) (f : Nat → Value) : Array Value := ((List.range n).map f).toArray

theorem rowOf_size (n : Nat) (f : Nat → Value) : (rowOf n f).size = n := by simp [rowOf]
theorem rowOf_get {n i : Nat} (f : Nat → Value) (h : i < n) : (rowOf n f)[i]? = some (f i) := by
  simp [rowOf, h]
theorem rowOf_set {n i : Nat} (f : Nat → Value) (v : Value) (h : i < n) : (rowOf n f).setIfInBounds i v = rowOf n (fun j => if j = i then v else f j) := by
  apply Array.ext_getElem?
  intro j
  rw [Array.getElem?_setIfInBounds, rowOf_size]
  by_cases hji : i = j
  · subst hji
    rw [if_pos rfl, if_pos h, rowOf_get _ h, if_pos rfl]
  · rw [if_neg hji]
    by_cases hj : j < n
    · rw [rowOf_get _ hj, rowOf_get _ hj, if_neg (fun e => hji e.symm)]
    · rw [Array.getElem?_eq_none (by rw [rowOf_size]; omega), Array.getElem?_eq_none (by rw [rowOf_size]; omega)]
theorem rowOf_congr {n : Nat} {f g : Nat → Value} (h : ∀ i, i < n → f i = g i) : rowOf n f = rowOf n g := by
  unfold rowOf
  congr 1
  exact List.map_congr_left fun i hi => h i (List.mem_range.1 hi)
theorem rowOf_one {n : Nat} {f : Nat → Value} (h : ∀ i, i < n → (f i).oneCell' = true) : (rowOf n f).all (·.oneCell') = true := by
  unfold rowOf
  simp only [List.all_toArray, List.all_map, List.all_eq_true, List.mem_range]
  exact h

/-- A block that holds an array. -/
def Row (w : World) (B : Nat) (T : TypeId) (n : Nat) (f : Nat → Value) : Prop := w.heap[B]? = some (.cells (rowOf n f) T (0, 0))

theorem Row.lt {w : World} {B : Nat} {T : TypeId} {n : Nat} {f : Nat → Value} (h : Row w B T n f) : B < w.heap.size := by
  unfold Row at h
  rcases Nat.lt_or_ge B w.heap.size with hlt | hge
  · exact hlt
  · rw [Array.getElem?_eq_none hge] at h; cases h
theorem Row.cell {w : World} {B : Nat} {T : TypeId} {n : Nat} {f : Nat → Value} (h : Row w B T n f) {i : Nat} (hi : i < n) : w.cell? ⟨B, i, none⟩ = some (f i) := by
  rw [cell_of_row w B i _ _ _ h, rowOf_get _ hi]
theorem Row.free {w : World} {B : Nat} {T : TypeId} {n : Nat} {f : Nat → Value} (h : Row w B T n f) (i : Nat) : w.frozen? ⟨B, i, none⟩ = false := frozen_of_row w B i _ _ h
theorem Row.set {w : World} {B : Nat} {T : TypeId} {n : Nat} {f : Nat → Value} (h : Row w B T n f) {i : Nat} (hi : i < n) (v : Value) :
    Row (w.setCell ⟨B, i, none⟩ v) B T n (fun j => if j = i then v else f j) := by
  unfold Row
  rw [heap_setCell_same w B i _ _ v h, rowOf_set f v hi]
theorem Row.setOther {w : World} {B : Nat} {T : TypeId} {n : Nat} {f : Nat → Value} (h : Row w B T n f) {a : Addr} (ha : B ≠ a.block) (v : Value) : Row (w.setCell a v) B T n f := by
  unfold Row
  rw [heap_setCell_other w a B v ha]
  exact h
theorem Row.alloc {w : World} {B : Nat} {T : TypeId} {n : Nat} {f : Nat → Value} (h : Row w B T n f) (o : Obj) : Row (w.alloc o) B T n f := by
  unfold Row
  rw [Below.heap_alloc w o B h.lt]
  exact h
theorem Row.congr {w : World} {B : Nat} {T : TypeId} {n : Nat} {f g : Nat → Value} (h : Row w B T n f) (hg : ∀ i, i < n → f i = g i) : Row w B T n g := by
  unfold Row
  rw [← rowOf_congr hg]
  exact h
theorem Row.new (w : World) (T : TypeId) (n : Nat) (f : Nat → Value) : Row (w.alloc (.cells (rowOf n f) T)) w.heap.size T n f := heap_alloc_new w _
theorem Row.drewN {w : World} {B : Nat} {T : TypeId} {n : Nat} {f : Nat → Value} (h : Row w B T n f) (k : Nat) : Row (w.drewN k) B T n f := h

theorem Row.setRow {w : World} {B : Nat} {T : TypeId} {n : Nat} {f : Nat → Value} (h : Row w B T n f) (g : Nat → Value) : Row (w.setRow B (rowOf n g)) B T n g :=
  setRow_heap w B _ _ T _ h
theorem Row.setRowOther {w : World} {B : Nat} {T : TypeId} {n : Nat} {f : Nat → Value} (h : Row w B T n f) {g : Nat} (hg : B ≠ g) (cs : Array Value) : Row (w.setRow g cs) B T n f := by
  unfold Row
  rw [setRow_other w g B cs hg]
  exact h

theorem run_store_whole {P : Program} (w : World) (g : Nat) (t : TypeId) (old cs : Array Value) (hg : w.heap[g]? = some (.cells old t (0, 0))) (hl : old.size = cs.size) (h1 : cs.all (·.oneCell') = true) :
    (storeCells ⟨g, 0, none⟩ cs.toList 0).run P w = .ok () (w.setRow g cs) := by
  have := run_storeCells_from (P := P) g t cs.toList 0 old w hg (by simp; omega) (fun v hv => (Array.all_eq_true_iff_forall_mem.1 h1) v (by simpa using hv))
  simpa using this

theorem wpList_built {P : Program} {ops : Array Oper} {rest : List Oper} {o : Oper} {a : Act} {w : World} {Q : Exit → Act → World → Prop} (hg : o.guard = none) (t : TypeId) (i j : Nat) (x y : Operand) (ho : o.op = .build t #[(i, x), (j, y)])
    (vx vy : Value) (hx : a.eval x = vx) (hy : a.eval y = vy)
    (cells : Array Value) (hf : P.built t [(i, vx), (j, vy)] = some cells) (h : wpList P ops Q rest (a.put o.dst (.agg cells)) w) : wpList P ops Q (o :: rest) a w := by
  subst hx hy
  have e : (#[(i, x), (j, y)].map fun (i, x) => (i, a.eval x)).toList = [(i, a.eval x), (j, a.eval y)] := by simp
  refine wpList_build hg t _ ho (by rw [e, hf]; rfl) ?_
  rw [e, hf]
  exact h

theorem below_setRow {B : Nat} {a w : World} (h : Below B a w) {g : Nat} (hg : B ≤ g) (cs : Array Value) : Below B a (w.setRow g cs) :=
  ⟨h.os, h.tape, h.output, by simp; exact h.size, fun k hk => (setRow_other w g k cs (by omega)).trans (h.block k hk)⟩

end Go.Proofs.Ytideanaecmoimaa
