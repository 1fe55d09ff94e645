/-
  WORDS FOR A REGION BY AN INVARIANT (MInv), of no layer: a parameter in memory, literals, append, and the steps. By the verifier.
-/
import Derived.Test.YthdagjlgfffpbaaGreatMInv
set_option linter.unusedVariables false
namespace Go.Proofs.YthdagjlgfffpbaaGreat
open Go.RowKit

/-- The cells of a new block stand. -/
theorem par_cell {w W : World} {cs : Array Value} {t : TypeId} (h : Below (w.alloc (.cells cs t)).heap.size (w.alloc (.cells cs t)) W) (k : Nat) : W.cell? ⟨w.heap.size, k, none⟩ = cs[k]? :=
  cell_of_row W _ k cs t (0, 0) (by rw [h.block _ (by simp)]; exact heap_alloc_new w _)
theorem par_below {w W : World} {C : Obj} (h : Below (w.alloc C).heap.size (w.alloc C) W) : Below w.heap.size w W := ((Below.refl _ _).alloc (Nat.le_refl _) _).trans (h.mono (by simp))
theorem lit_own {w0 W : World} {e : TypeId} {size n : Nat} {C : Array Value} {cs : List Value} (h : Below w0.heap.size w0 W) (hC : C.toList = cs) (hm : n ≤ maxLen) (hs : C.size = n * size) : OwnC (W.alloc (.cells C e)) w0.heap.size e size (.slice (some ⟨W.heap.size, 0, none⟩) n n) n cs := by
  subst hC
  exact (OwnC.lit W e size n C hm hs).base h.size

/-- What an append takes. -/
def Arg (w : World) (v : Value) (size m : Nat) (ms : List Value) : Prop := ∃ A c, v = .slice A m c ∧ Cells w A ms ∧ (A = none → c = 0) ∧ ms.length = m * size
theorem OwnC.arg {w : World} {base : Nat} {e : TypeId} {size : Nat} {v : Value} {n : Nat} {cs : List Value} (h : OwnC w base e size v n cs) : Arg w v size n cs := by
  obtain ⟨A, c, hv, hc, hA, -, hl, -⟩ := h.cells
  exact ⟨A, c, hv, hc, hA, hl⟩

theorem eval_tmp (a : Act) (t : Nat) : a.eval (.tmp t) = a.tmps[t]?.getD undef := by simp [Act.eval]

theorem inv_append_full {t e : TypeId} {z : Value} {size bytes : Nat} (T : ElemT t e z size bytes) {w : World} {ops : Array Oper} {o : Oper} {a : Act} {K : Act → World → Prop} {Q : Exit → Act → World → Prop} {E : Prop} (hgd : o.guard = none) (s x : Nat)
    (hop : o.op = .call { callee := .builtin .append, args := #[.tmp s, .tmp x], argTypes := #[t, t] })
    (base : Nat) (n : Nat) (xs : List Value) (ho : OwnC w base e size (a.tmps[s]?.getD undef) n xs) (hg : ∃ g, a.tmps[s]?.getD undef = .slice (some g) n n) (m : Nat) (ms : List Value) (hy : Arg w (a.tmps[x]?.getD undef) size m ms) (hlen : n + m ≤ 1000000) (hbase : base ≤ w.heap.size)
    (h : ∀ v' w', OwnC w' base e size v' (n + m) (xs ++ ms) → Below w.heap.size w w' → K (a.put o.dst v') w') :
    if Region.wanted o (yielded ops a.tmps) = true then Oper.wp Tryz.prog o a w K Q else E := by
  have hw : Region.wanted o (yielded ops a.tmps) = true := by simp [Region.wanted, hgd]
  rw [if_pos hw]
  obtain ⟨g, hg⟩ := hg
  obtain ⟨A, c, hv, hc, hA, hl⟩ := hy
  rw [hg] at ho
  obtain ⟨v', w', hrun, g1, g2⟩ := append_full T o.type base g n xs ho A m c ms hc hl hA hlen hbase
  unfold Oper.wp
  simp [execOp, hop, resolve, invoke, builtin, eval_tmp, hg, hv, hrun, Result.andThen]
  exact h v' w' g1 g2

theorem inv_append {t e : TypeId} {z : Value} {size bytes : Nat} (T : ElemT t e z size bytes) {w : World} {ops : Array Oper} {o : Oper} {a : Act} {K : Act → World → Prop} {Q : Exit → Act → World → Prop} {E : Prop} (hgd : o.guard = none) (s x : Nat)
    (hop : o.op = .call { callee := .builtin .append, args := #[.tmp s, .tmp x], argTypes := #[t, t] })
    (base : Nat) (n : Nat) (xs : List Value) (ho : OwnC w base e size (a.tmps[s]?.getD undef) n xs) (m : Nat) (ms : List Value) (hy : Arg w (a.tmps[x]?.getD undef) size m ms) (h1 : ∀ u ∈ ms, u.oneCell' = true) (hlen : n + m ≤ 1000000) (hbase : base ≤ w.heap.size)
    (h : ∀ v' w', OwnC w' base e size v' (n + m) (xs ++ ms) → w.grownBy w' (a.tmps[s]?.getD undef).ownBlock → K (a.put o.dst v') w') :
    if Region.wanted o (yielded ops a.tmps) = true then Oper.wp Tryz.prog o a w K Q else E := by
  obtain ⟨A, c, hv, hc, hA, hl⟩ := hy
  exact step_append_g T hgd (.tmp s) (.tmp x) hop base _ n xs (eval_tmp a s) ho A m c ms ((eval_tmp a x).trans hv) hc hl h1 hA hlen hbase h

theorem arr_succ {α : Type} {l : List α} {n : Nat} (h : l.length = n + 1) : ∃ a r, l = a :: r ∧ r.length = n := by
  cases l with
  | nil => cases h
  | cons a r => exact ⟨a, r, rfl, by simpa using h⟩

end Go.Proofs.YthdagjlgfffpbaaGreat
