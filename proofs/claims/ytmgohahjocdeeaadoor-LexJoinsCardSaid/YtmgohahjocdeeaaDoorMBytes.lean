/-
  WORDS FOR []byte, of no layer: make, append, a cut, conversions to strings. By the verifier.
-/
import Derived.Test.YtmgohahjocdeeaaDoorMMem
set_option linter.unusedVariables false
namespace Go.Proofs.YtmgohahjocdeeaaDoor
open Go.RowKit

/-- make([]byte, n) -/
theorem wpList_make8 (w : World) {ops : Array Oper} {rest : List Oper} {o : Oper} {a : Act} {Q : Exit → Act → World → Prop}
    (hg : o.guard = none) (l c : Operand) (hop : o.op = Op.makeSlice 51 l c)
    (L C : Int) (n : Nat) (hl : a.eval l = .int .i64 L) (hc : a.eval c = .int .i64 C) (hL : L = (n : Int)) (hC : C = (n : Int)) (hn : n ≤ 281474976710656)
    (hK : ∀ w', BRow w' w.heap.size (List.replicate n 0) → Below w.heap.size w w' → w'.heap.size = w.heap.size + 1 → wpList Tryd.prog ops Q rest (a.put o.dst (.slice (some ⟨w.heap.size, 0, none⟩) n n)) w') :
    wpList Tryd.prog ops Q (o :: rest) a w := by
  obtain ⟨i, h2, h3, h4, h5⟩ := info_parts info8
  refine wpList_plain hg fun K hK' => ?_
  have hrun := run_make (P := Tryd.prog) w 51 5 i (V8 0) Tryd.underlying51 h2 h3 .i64 .i64 (n : Int) (n : Int) (by omega) (by omega) (by rw [h5]; omega) (by omega)
  subst hL
  subst hC
  unfold Oper.wp
  simp [execOp, hop, hl, hc, hrun, Result.andThen]
  have e : madeCells (V8 0).cells (n * i.size) = ((List.replicate n 0).map V8).toArray := by
    rw [h4, Nat.mul_one]
    apply Array.ext_getElem?
    intro j
    by_cases hj : j < n
    · simp [madeCells, V8, Value.cells, hj, Nat.mod_one]
    · rw [Array.getElem?_eq_none (by rw [size_madeCells]; omega), Array.getElem?_eq_none (by simp; omega)]
  rw [e]
  exact hK' _ _ (hK _ (heap_alloc_new w _) ((Below.refl _ _).alloc (Nat.le_refl _) _) (by simp))

theorem append_runs {w : World} (ty : TypeId) (base : Nat) (v : Value) (l : List Nat) (ho : OwnB w base v l) (A : Option Addr) (m : List Nat) (c : Nat) (hm : Bys w A m) (hlen : l.length + m.length ≤ 1000000) (hbase : base ≤ w.heap.size) :
    ∃ v' w', (Builtin.append_ #[51, 51] ty #[v, .slice A m.length c]).run Tryd.prog w = .ok v' w' ∧ OwnB w' base v' (l ++ m) ∧ w.grownBy w' v.ownBlock := by
  obtain ⟨i, h2, h3, h4, h5⟩ := info_parts info8
  by_cases h0 : m.length = 0
  · have hm0 : m = [] := List.eq_nil_of_length_eq_zero h0
    subst hm0
    rw [List.append_nil]
    cases A with
    | none =>
      refine ⟨v, w, ?_, ho, World.grownBy.refl w _⟩
      rcases ho.2 with ⟨hv, hn⟩ | ⟨g, cap, cur, hv, -, -, hnc, -⟩
      · rw [hv]
        simp [Builtin.append_, run_underlying Tryd.underlying51, sizeOf, typeInfo, h2, Builtin.lenOf, Builtin.firstCells]
      · rw [hv]
        simp [Builtin.append_, run_underlying Tryd.underlying51, sizeOf, typeInfo, h2, Builtin.lenOf, Builtin.firstCells, hnc, storeCells]
    | some a =>
      obtain ⟨v', w', hr, ho', hg, -⟩ := run_append_own (P := Tryd.prog) w base 51 ty 5 i (V8 0) 1 1 Tryd.underlying51 h2 h3 h4 h5 rfl (by omega) v l.length (l.map V8) ho a 0 c [] rfl (fun j u hu => by simp at hu) (fun u hu => by cases hu) (by unfold maxLen; omega) (by omega) hbase
      refine ⟨v', w', hr, ?_, hg⟩
      rw [List.append_nil] at ho'
      exact ho'
  · obtain ⟨ad, rfl, hc⟩ := hm.cells (by omega)
    obtain ⟨v', w', hr, ho', hg, -⟩ := run_append_own (P := Tryd.prog) w base 51 ty 5 i (V8 0) 1 1 Tryd.underlying51 h2 h3 h4 h5 rfl (by omega) v l.length (l.map V8) ho ad m.length c (m.map V8) (by rw [List.length_map, Nat.mul_one]) hc (bytes_one m) (by unfold maxLen; omega) (by omega) hbase
    refine ⟨v', w', hr, ?_, hg⟩
    unfold OwnB
    rw [List.length_append, List.map_append]
    exact ho'

theorem wpList_append8 {w : World} {ops : Array Oper} {rest : List Oper} {o : Oper} {a : Act} {Q : Exit → Act → World → Prop} (hgd : o.guard = none) (s x : Operand)
    (hop : o.op = .call { callee := .builtin .append, args := #[s, x], argTypes := #[51, 51] })
    (base : Nat) (v : Value) (l : List Nat) (hs : a.eval s = v) (ho : OwnB w base v l) (A : Option Addr) (m : List Nat) (k c : Nat) (hk : m.length = k) (hx : a.eval x = .slice A k c) (hm : Bys w A m) (hlen : l.length + k ≤ 1000000) (hbase : base ≤ w.heap.size)
    (h : ∀ v' w', OwnB w' base v' (l ++ m) → w.grownBy w' v.ownBlock → wpList Tryd.prog ops Q rest (a.put o.dst v') w') : wpList Tryd.prog ops Q (o :: rest) a w := by
  subst hk
  refine wpList_plain hgd fun K hK => ?_
  obtain ⟨v', w', hrun, h1, h2⟩ := append_runs o.type base v l ho A m c hm hlen hbase
  unfold Oper.wp
  simp [execOp, hop, resolve, invoke, builtin, hs, hx, hrun, Result.andThen]
  exact hK _ _ (h v' w' h1 h2)

/-- The same where the operation is guarded, and the guard says yes. -/
theorem wpList_append8w {w : World} {ops : Array Oper} {rest : List Oper} {o : Oper} {a : Act} {Q : Exit → Act → World → Prop} (hw : Region.wanted o (yielded ops a.tmps) = true) (s x : Operand)
    (hop : o.op = .call { callee := .builtin .append, args := #[s, x], argTypes := #[51, 51] })
    (base : Nat) (v : Value) (l : List Nat) (hs : a.eval s = v) (ho : OwnB w base v l) (A : Option Addr) (m : List Nat) (k c : Nat) (hk : m.length = k) (hx : a.eval x = .slice A k c) (hm : Bys w A m) (hlen : l.length + k ≤ 1000000) (hbase : base ≤ w.heap.size)
    (h : ∀ v' w', OwnB w' base v' (l ++ m) → w.grownBy w' v.ownBlock → wpList Tryd.prog ops Q rest (a.put o.dst v') w') : wpList Tryd.prog ops Q (o :: rest) a w := by
  subst hk
  refine BigFrame.wpList_want hw fun K hK => ?_
  obtain ⟨v', w', hrun, h1, h2⟩ := append_runs o.type base v l ho A m c hm hlen hbase
  unfold Oper.wp
  simp [execOp, hop, resolve, invoke, builtin, hs, hx, hrun, Result.andThen]
  exact hK _ _ (h v' w' h1 h2)

theorem conv_ok {w : World} {A : Option Addr} {l : List Nat} (c : Nat) (h : Bys w A l) : (convert 51 9 (.slice A l.length c)).run Tryd.prog w = .ok (.string (strB l)) w := by
  by_cases h0 : l.length = 0
  · have hl0 : l = [] := List.eq_nil_of_length_eq_zero h0
    subst hl0
    cases A with
    | none =>
      have e : strB [] = ByteArray.empty := rfl
      rw [e]
      exact run_convert_bytes_nil w 51 5 Tryd.underlying51 Tryd.underlying5 0 c 9 Tryd.underlying9
    | some a =>
      rw [run_convert_bytes_string w 51 9 5 _ _ c Tryd.underlying51 Tryd.underlying5 Tryd.underlying9]
      have hl : (loadCells a 0).run Tryd.prog w = .ok (([] : List Int).map (Value.int .u8)).toArray w := by simpa using run_loadCells_list (P := Tryd.prog) w a [] (by simp)
      have e : strB [] = ([] : List Int).foldl (fun r n => r.push (UInt8.ofNat n.toNat)) ByteArray.empty := rfl
      rw [e]
      exact run_bytesToString w a 0 c [] hl
  · obtain ⟨b, o, rfl, hb, -⟩ := h.1 0 (by omega)
    refine run_convert_bytes_arg w 51 5 Tryd.underlying51 Tryd.underlying5 b o l.length c (l.map fun n : Nat => (n : Int)) (by simp) (fun i hi => ?_) 9 Tryd.underlying9
    obtain ⟨b', o', he, -, hc⟩ := h.1 i hi
    injection he with he
    injection he with h1 h2
    subst h1 h2
    rw [hc]
    simp [V8, List.getD, hi]

theorem run_cut (b o n c m : Nat) (hm : m ≤ n) (W : World) : (Instr.slice 51 (.slice (some ⟨b, o, none⟩) n c) (some (.int .i64 (m : Int))) none none).run Tryd.prog W =
    .ok (.slice (if c = m then some ⟨b, o, none⟩ else some ⟨b, o + m, none⟩) (n - m) (c - m)) W := by
  have h0 : (0 : Int) ≤ (m : Int) := by omega
  have h1 : (m : Int) ≤ (n : Int) := by omega
  have hu := Tryd.underlying51
  go_simp

end Go.Proofs.YtmgohahjocdeeaaDoor
