/-
  slices.Concat and slices.Grow at nil for any elements, of no layer: the parts, the cut to nothing, the zeros; a make of any elements. By the verifier.
-/
import Derived.Test.YtbfclodkchmfnaaGreatMRowN
import Derived.Lib.AppendZerosOnto
import Derived.Laws.MakeOwn
set_option linter.unusedVariables false
namespace Go.Proofs.YtbfclodkchmfnaaGreat
open Go.RowKit

/-- A part: a slice and its cells. -/
structure PartC where
  A : Option Addr
  n : Nat
  c : Nat
  cs : List Value

structure PartOk (w : World) (size : Nat) (p : PartC) : Prop where
  cells : Cells w p.A p.cs
  len : p.cs.length = p.n * size
  one : ∀ u ∈ p.cs, u.oneCell' = true
  nil : p.A = none → p.c = 0

theorem PartOk.below {w w' : World} {size : Nat} {p : PartC} (h : PartOk w size p) (hb : Below w.heap.size w w') : PartOk w' size p := ⟨h.cells.below (Nat.le_refl _) hb, h.len, h.one, h.nil⟩

/-- The slices that a slice of slices holds. -/
def PtsC (w : World) (size : Nat) (A : Option Addr) (ps : List PartC) : Prop :=
  (∀ k (h : k < ps.length), ∃ b o, A = some ⟨b, o, none⟩ ∧ w.cell? ⟨b, o + k, none⟩ = some (.slice ps[k].A ps[k].n ps[k].c)) ∧ ∀ p ∈ ps, PartOk w size p

theorem PtsC.below {w w' : World} {size : Nat} {A : Option Addr} {ps : List PartC} (h : PtsC w size A ps) (hb : Below w.heap.size w w') : PtsC w' size A ps := by
  refine ⟨fun k hk => ?_, fun p hp => (h.2 p hp).below hb⟩
  obtain ⟨b, o, hA, hc⟩ := h.1 k hk
  refine ⟨b, o, hA, ?_⟩
  rw [hb.cell (p := ⟨b, o + k, none⟩) (block_lt_of_cell hc)]
  exact hc

def partsN (ps : List PartC) : Nat := (ps.map (·.n)).sum
def partsV (ps : List PartC) : List Value := ps.flatMap (·.cs)

theorem partsN_succ {ps : List PartC} {k : Nat} (h : k < ps.length) : partsN (ps.take (k + 1)) = partsN (ps.take k) + ps[k].n := by
  unfold partsN
  rw [List.take_succ_eq_append_getElem h, List.map_append, List.sum_append]
  simp
theorem partsV_succ {ps : List PartC} {k : Nat} (h : k < ps.length) : partsV (ps.take (k + 1)) = partsV (ps.take k) ++ ps[k].cs := by
  unfold partsV
  rw [List.take_succ_eq_append_getElem h, List.flatMap_append]
  simp
theorem partsN_le (ps : List PartC) (k : Nat) : partsN (ps.take k) ≤ partsN ps := by
  unfold partsN
  conv => rhs; rw [← List.take_append_drop k ps, List.map_append, List.sum_append]
  omega

set_option maxRecDepth 20000 in
theorem size_g {t e : TypeId} {z : Value} {size bytes : Nat} (T : ElemT t e z size bytes) (he : Tryz.prog.elem t = e) : (sizeOf (Tryz.prog.elem t)).run Tryz.prog = fun w => .ok size w := by
  funext w
  obtain ⟨i, h2, h3, h4, h5⟩ := info_parts T.info
  simp [he, sizeOf, typeInfo, h2, h4]

set_option maxRecDepth 20000 in
theorem run_cut0g {t e : TypeId} {z : Value} {size bytes : Nat} (T : ElemT t e z size bytes) (he : Tryz.prog.elem t = e) (a : Addr) (n c : Nat) (W : World) : (Instr.slice t (.slice (some a) n c) none (some (.int .i64 0)) none).run Tryz.prog W = .ok (.slice (some a) 0 c) W := by
  rw [run_slice_h W t (some a) n c (by rw [he]; exact T.under) .i64 0 (by omega) (by omega), size_g T he]
  have h0 : a.add 0 = a := by obtain ⟨b, o, s⟩ := a; unfold Addr.add; split <;> simp_all
  by_cases h : c = 0 <;> simp [Result.andThen, sliced, h, h0]

set_option maxRecDepth 20000 in
theorem run_cutnilg {t e : TypeId} {z : Value} {size bytes : Nat} (T : ElemT t e z size bytes) (he : Tryz.prog.elem t = e) (W : World) : (Instr.slice t (.slice none 0 0) none (some (.int .i64 0)) none).run Tryz.prog W = .ok (.slice none 0 0) W := by
  rw [run_slice_h W t none 0 0 (by rw [he]; exact T.under) .i64 0 (by omega) (by omega), size_g T he]
  simp [Result.andThen, sliced]

set_option maxRecDepth 20000 in
theorem zeros_g {w : World} {t tn e : TypeId} {z : Value} {size bytes : Nat} (T : ElemT t e z size bytes) (htn : Tryz.prog.underlying tn = some (.int .i64)) (ty : TypeId) (n : Nat) (h0 : 0 < n) (hn : n ≤ 1000000) :
    ∃ c w', (Builtin.append_ #[t, tn] ty #[.slice none 0 0, .int .i64 (n : Int)]).run Tryz.prog w = .ok (.slice (some ⟨w.heap.size, 0, none⟩) n c) w' ∧ OwnC w' w.heap.size e size (.slice (some ⟨w.heap.size, 0, none⟩) 0 c) 0 [] ∧ Below w.heap.size w w' := by
  obtain ⟨i, h2, h3, h4, h5⟩ := info_parts T.info
  have hb : n * i.bytes ≤ 100000000 := by
    rw [h5]
    have := Nat.mul_le_mul hn T.small
    omega
  have hr := Lib.run_append_nil_zeros (P := Tryz.prog) w t tn ty e i z .i64 .i64 T.under htn h2 h3 n h0 (by rw [h4]; exact T.pos) (by omega) (by omega)
  have hge := grownCap_ge w n 0 e
  have hcm : grownCap w n 0 e ≤ maxLen := grownCap_le_maxLen w n 0 _ (by unfold maxLen; omega)
  refine ⟨_, _, hr, ⟨by simp, .inr ⟨w.heap.size, _, _, rfl, Nat.le_refl _, heap_alloc_new w.drew _, Nat.zero_le _, hcm, ?_, by simp⟩⟩, ((Below.refl _ _).drew).alloc (Nat.le_refl _) _⟩
  rw [Array.size_append, size_zeroCells, size_zeroCells, T.cells, ← Nat.add_mul]
  congr 1
  omega

theorem wpList_zeros_g {t tn e : TypeId} {z : Value} {size bytes : Nat} (T : ElemT t e z size bytes) (htn : Tryz.prog.underlying tn = some (.int .i64)) {w : World} {ops : Array Oper} {rest : List Oper} {o : Oper} {a : Act} {Q : Exit → Act → World → Prop} (hgd : o.guard = none) (s x : Operand)
    (hop : o.op = .call { callee := .builtin .append, args := #[s, x], argTypes := #[t, tn] })
    (hs : a.eval s = .slice none 0 0) (n : Nat) (N : Int) (hN : N = (n : Int)) (hx : a.eval x = .int .i64 N) (h0 : 0 < n) (hn : n ≤ 1000000)
    (h : ∀ c w', OwnC w' w.heap.size e size (.slice (some ⟨w.heap.size, 0, none⟩) 0 c) 0 [] → Below w.heap.size w w' → wpList Tryz.prog ops Q rest (a.put o.dst (.slice (some ⟨w.heap.size, 0, none⟩) n c)) w') : wpList Tryz.prog ops Q (o :: rest) a w := by
  subst hN
  refine wpList_plain hgd fun K hK => ?_
  obtain ⟨c, w', hrun, h1, h2⟩ := zeros_g (w := w) T htn o.type n h0 hn
  unfold Oper.wp
  simp [execOp, hop, resolve, invoke, builtin, hs, hx, hrun, Result.andThen]
  exact hK _ _ (h c w' h1 h2)

/-- make of any elements: n times the zero value. -/
def zerosV (z : Value) (n : Nat) : List Value := (List.replicate n z.cells.toList).flatten

theorem zerosV_len (z : Value) (n : Nat) : (zerosV z n).length = n * z.cells.size := by
  unfold zerosV
  induction n with
  | zero => simp
  | succ n ih => rw [List.replicate_succ, List.flatten_cons, List.length_append, ih, Nat.succ_mul]; simp; omega

theorem zerosV_get (z : Value) (hz : 0 < z.cells.size) : ∀ (n j : Nat), j < n * z.cells.size → (zerosV z n)[j]? = z.cells[j % z.cells.size]?
  | 0, j, h => by omega
  | n + 1, j, h => by
    unfold zerosV
    rw [List.replicate_succ, List.flatten_cons]
    by_cases hj : j < z.cells.size
    · rw [List.getElem?_append_left (by simpa using hj), Nat.mod_eq_of_lt hj]
      simp
    · rw [List.getElem?_append_right (by simp; omega)]
      have := zerosV_get z hz n (j - z.cells.size) (by rw [Nat.succ_mul] at h; omega)
      unfold zerosV at this
      simp only [Array.length_toList]
      rw [this, ← Nat.mod_eq_sub_mod (by omega)]

theorem made_zeros (z : Value) (hz : 0 < z.cells.size) (n : Nat) : (madeCells z.cells (n * z.cells.size)).toList = zerosV z n := by
  apply List.ext_getElem?
  intro j
  by_cases hj : j < n * z.cells.size
  · rw [zerosV_get z hz n j hj]
    simp only [madeCells, Array.toList_map]
    have := Nat.mod_lt j hz
    simp [hj, this]
  · rw [List.getElem?_eq_none (by simp [size_madeCells]; omega), List.getElem?_eq_none (by rw [zerosV_len]; omega)]

theorem wpList_make_g {t e : TypeId} {z : Value} {size bytes : Nat} (T : ElemT t e z size bytes) (w : World) {ops : Array Oper} {rest : List Oper} {o : Oper} {a : Act} {Q : Exit → Act → World → Prop}
    (hg : o.guard = none) (l c : Operand) (hop : o.op = Op.makeSlice t l c)
    (L C : Int) (n : Nat) (hl : a.eval l = .int .i64 L) (hc : a.eval c = .int .i64 C) (hL : L = (n : Int)) (hC : C = (n : Int)) (hn : n ≤ 1000000)
    (hK : ∀ w', OwnC w' w.heap.size e size (.slice (some ⟨w.heap.size, 0, none⟩) n n) n (zerosV z n) → Below w.heap.size w w' → w'.heap.size = w.heap.size + 1 → wpList Tryz.prog ops Q rest (a.put o.dst (.slice (some ⟨w.heap.size, 0, none⟩) n n)) w') :
    wpList Tryz.prog ops Q (o :: rest) a w := by
  obtain ⟨i, h2, h3, h4, h5⟩ := info_parts T.info
  have hb : n * i.bytes ≤ 100000000 := by
    rw [h5]
    have := Nat.mul_le_mul hn T.small
    omega
  refine wpList_plain hg fun K hK' => ?_
  have hrun := run_make (P := Tryz.prog) w t e i z T.under h2 h3 .i64 .i64 (n : Int) (n : Int) (by omega) (by omega) (by rw [← Int.natCast_mul, Nat.mul_comm]; omega) (by omega)
  subst hL
  subst hC
  unfold Oper.wp
  simp [execOp, hop, hl, hc, hrun, Result.andThen]
  have hz : 0 < z.cells.size := by rw [T.cells]; exact T.pos
  have e1 := made_zeros z hz n
  rw [T.cells] at e1
  refine hK' _ _ (hK _ ?_ ((Below.refl _ _).alloc (Nat.le_refl _) _) (by simp))
  have ho := OwnC.lit w e size n (madeCells z.cells (n * i.size)) (by unfold maxLen; omega) (by rw [size_madeCells, h4])
  rw [h4, e1] at ho
  rw [h4]
  exact ho

end Go.Proofs.YtbfclodkchmfnaaGreat
