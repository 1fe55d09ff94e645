/-
  append onto bytes of the call's own. By the verifier.
-/
import Derived.Test.YtideanaecmoimaaCSeal
import Derived.Laws.OwnMore
set_option linter.unusedVariables false
namespace Go.Proofs.Ytideanaecmoimaa
open Go.RowKit

/-- Bytes of the call's own. -/
def OwnB (w : World) (base : Nat) (v : Value) (l : List Nat) : Prop := w.ownsRow base 5 1 v l.length (l.map V8)

theorem grown_below {B : Nat} {w0 w w' : World} {v : Value} {l : List Nat} (h : Below B w0 w) (ho : OwnB w B v l) (hg : w.grownBy w' v.ownBlock) (hB : B ≤ w.heap.size) : Below B w0 w' :=
  h.grown hg hB fun k hk => (World.ownsRow.lt ho k hk).1

theorem OwnB.below {w w' : World} {base : Nat} {v : Value} {l : List Nat} (h : OwnB w base v l) (hb : Below w.heap.size w w') : OwnB w' base v l := by
  refine World.ownsRow.kept (row := none) h ⟨hb.os, hb.tape, hb.output, hb.size, fun k hk _ => hb.block k hk⟩ ?_
  cases hv : v.ownBlock with
  | none => exact Or.inl rfl
  | some k => exact Or.inr (by simp)

theorem OwnB.drewN {w : World} {base : Nat} {v : Value} {l : List Nat} (h : OwnB w base v l) (n : Nat) : OwnB (w.drewN n) base v l := h

/-- Such bytes are a slice that reads as a list. -/
theorem OwnB.shape {w : World} {base : Nat} {v : Value} {l : List Nat} (h : OwnB w base v l) (hl : Bs l) (hm : l.length ≤ maxLen) :
    ∃ A c, v = .slice A l.length c ∧ Bys w A l ∧ l.length ≤ c ∧ (∀ a, A = some a → a.block < w.heap.size ∧ base ≤ a.block) := by
  rcases h.2 with ⟨hv, hn⟩ | ⟨g, cap, cur, hv, hb, hg, hnc, hcm, hcs, htk⟩
  · have h0 : l = [] := List.eq_nil_of_length_eq_zero hn
    subst h0
    exact ⟨none, 0, hv, ⟨fun i hi => absurd hi (by simp), hl, hm⟩, Nat.le_refl _, fun a ha => by cases ha⟩
  · refine ⟨some ⟨g, 0, none⟩, cap, hv, ⟨fun i hi => ?_, hl, hm⟩, hnc, fun a ha => ?_⟩
    · have hlt : g < w.heap.size := by
        rcases Nat.lt_or_ge g w.heap.size with h1 | h1
        · exact h1
        · rw [Array.getElem?_eq_none h1] at hg; cases hg
      refine ⟨g, 0, rfl, hlt, ?_⟩
      subst hv
      rw [Nat.zero_add, World.ownsRow.cellAt h i (by omega)]
      simp [List.getD, hi]
    · injection ha with ha
      subst ha
      rcases Nat.lt_or_ge g w.heap.size with h1 | h1
      · exact ⟨h1, hb⟩
      · rw [Array.getElem?_eq_none h1] at hg; cases hg

theorem append_runs {w : World} (ty : TypeId) (base : Nat) (v : Value) (l : List Nat) (ho : OwnB w base v l) (A : Option Addr) (m : List Nat) (c : Nat) (hm : Bys w A m) (hlen : l.length + m.length ≤ 1000000) (hbase : base ≤ w.heap.size) :
    ∃ v' w', (Builtin.append_ #[24, 24] ty #[v, .slice A m.length c]).run Try.prog w = .ok v' w' ∧ OwnB w' base v' (l ++ m) ∧ w.grownBy w' v.ownBlock := by
  obtain ⟨i, h2, h3, h4, h5⟩ := info_parts info8
  by_cases h0 : m.length = 0
  · have hm0 : m = [] := List.eq_nil_of_length_eq_zero h0
    subst hm0
    rw [List.append_nil]
    cases A with
    | none =>
      refine ⟨v, w, ?_, ho, World.grownBy.refl w _⟩
      rcases ho.2 with ⟨hv, hn⟩ | ⟨g, cap, cur, hv, -, -, hnc, -⟩
      · rw [hv]
        simp [Builtin.append_, run_underlying Try.underlying24, sizeOf, typeInfo, h2, Builtin.lenOf, Builtin.firstCells]
      · rw [hv]
        simp [Builtin.append_, run_underlying Try.underlying24, sizeOf, typeInfo, h2, Builtin.lenOf, Builtin.firstCells, hnc, storeCells]
    | some a =>
      obtain ⟨v', w', hr, ho', hg, -⟩ := run_append_own (P := Try.prog) w base 24 ty 5 i (V8 0) 1 1 Try.underlying24 h2 h3 h4 h5 rfl (by omega) v l.length (l.map V8) ho a 0 c [] rfl (fun j u hu => by simp at hu) (fun u hu => by cases hu) (by unfold maxLen; omega) (by omega) hbase
      refine ⟨v', w', hr, ?_, hg⟩
      rw [List.append_nil] at ho'
      exact ho'
  · obtain ⟨ad, rfl, hc⟩ := hm.cells (by omega)
    obtain ⟨v', w', hr, ho', hg, -⟩ := run_append_own (P := Try.prog) w base 24 ty 5 i (V8 0) 1 1 Try.underlying24 h2 h3 h4 h5 rfl (by omega) v l.length (l.map V8) ho ad m.length c (m.map V8) (by rw [List.length_map, Nat.mul_one]) hc (bytes_one m) (by unfold maxLen; omega) (by omega) hbase
    refine ⟨v', w', hr, ?_, hg⟩
    unfold OwnB
    rw [List.length_append, List.map_append]
    exact ho'

theorem wpList_append8 {w : World} {ops : Array Oper} {rest : List Oper} {o : Oper} {a : Act} {Q : Exit → Act → World → Prop} (hgd : o.guard = none) (s x : Operand)
    (hop : o.op = .call { callee := .builtin .append, args := #[s, x], argTypes := #[24, 24] })
    (base : Nat) (v : Value) (l : List Nat) (hs : a.eval s = v) (ho : OwnB w base v l) (A : Option Addr) (m : List Nat) (k c : Nat) (hk : m.length = k) (hx : a.eval x = .slice A k c) (hm : Bys w A m) (hlen : l.length + k ≤ 1000000) (hbase : base ≤ w.heap.size)
    (h : ∀ v' w', OwnB w' base v' (l ++ m) → w.grownBy w' v.ownBlock → wpList Try.prog ops Q rest (a.put o.dst v') w') : wpList Try.prog ops Q (o :: rest) a w := by
  subst hk
  refine wpList_plain hgd fun K hK => ?_
  obtain ⟨v', w', hrun, h1, h2⟩ := append_runs o.type base v l ho A m c hm hlen hbase
  unfold Oper.wp
  simp [execOp, hop, resolve, invoke, builtin, hs, hx, hrun, Result.andThen]
  exact hK _ _ (h v' w' h1 h2)

/-- The same where the operation is guarded, and the guard says yes. -/
theorem wpList_append8w {w : World} {ops : Array Oper} {rest : List Oper} {o : Oper} {a : Act} {Q : Exit → Act → World → Prop} (hw : Region.wanted o (yielded ops a.tmps) = true) (s x : Operand)
    (hop : o.op = .call { callee := .builtin .append, args := #[s, x], argTypes := #[24, 24] })
    (base : Nat) (v : Value) (l : List Nat) (hs : a.eval s = v) (ho : OwnB w base v l) (A : Option Addr) (m : List Nat) (k c : Nat) (hk : m.length = k) (hx : a.eval x = .slice A k c) (hm : Bys w A m) (hlen : l.length + k ≤ 1000000) (hbase : base ≤ w.heap.size)
    (h : ∀ v' w', OwnB w' base v' (l ++ m) → w.grownBy w' v.ownBlock → wpList Try.prog ops Q rest (a.put o.dst v') w') : wpList Try.prog ops Q (o :: rest) a w := by
  subst hk
  refine BigFrame.wpList_want hw fun K hK => ?_
  obtain ⟨v', w', hrun, h1, h2⟩ := append_runs o.type base v l ho A m c hm hlen hbase
  unfold Oper.wp
  simp [execOp, hop, resolve, invoke, builtin, hs, hx, hrun, Result.andThen]
  exact hK _ _ (h v' w' h1 h2)

theorem own_empty (w : World) (base : Nat) : OwnB w base (.slice none 0 0) [] := World.ownsRow_nil w base _ _

end Go.Proofs.Ytideanaecmoimaa
