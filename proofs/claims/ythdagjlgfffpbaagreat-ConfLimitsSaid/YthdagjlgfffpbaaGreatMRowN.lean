/-
  APPEND ONTO A ROW OF THE CALL'S OWN, any number of elements, with the block named, of no layer; blocks that are apart. By the verifier.
-/
import Derived.Test.YthdagjlgfffpbaaGreatMRow
set_option linter.unusedVariables false
namespace Go.Proofs.YthdagjlgfffpbaaGreat
open Go.RowKit

theorem append_any {w : World} {t e : TypeId} {z : Value} {size bytes : Nat} (T : ElemT t e z size bytes) (ty : TypeId) (base : Nat) (v : Value) (n : Nat) (xs : List Value) (ho : OwnC w base e size v n xs) (A : Option Addr) (m c : Nat) (ms : List Value)
    (hm : Cells w A ms) (hml : ms.length = m * size) (h1 : ∀ u ∈ ms, u.oneCell' = true) (hA : A = none → c = 0) (hlen : n + m ≤ 1000000) (hbase : base ≤ w.heap.size) :
    ∃ v' w', (Builtin.append_ #[t, t] ty #[v, .slice A m c]).run Tryz.prog w = .ok v' w' ∧ OwnC w' base e size v' (n + m) (xs ++ ms) ∧ w.grownBy w' v.ownBlock ∧ (v'.ownBlock = v.ownBlock ∨ v'.ownBlock = some w.heap.size) := by
  rcases Nat.eq_zero_or_pos m with h0 | h0
  · subst h0
    have hms : ms = [] := List.eq_nil_of_length_eq_zero (by omega)
    subst hms
    rw [List.append_nil, Nat.add_zero]
    obtain ⟨i, h2, h3, h4, h5⟩ := info_parts T.info
    cases A with
    | none =>
      obtain rfl := hA rfl
      exact ⟨v, w, run_append_owned_none (P := Tryz.prog) (w := w) base t ty e i size T.under h2 v n xs ho, ho, World.grownBy.refl w _, Or.inl rfl⟩
    | some a =>
      refine ⟨v, w, ?_, ho, World.grownBy.refl w _, Or.inl rfl⟩
      have hf := run_firstCells_some (P := Tryz.prog) w i.size 0 a 0 c [] (by simp) (by simp)
      rcases ho.2 with ⟨hv, hn⟩ | ⟨g, cap, cur, hv, hb, hg, hnc, -⟩
      · subst hv hn
        simp [Builtin.append_, run_underlying T.under, sizeOf, typeInfo, h2, Builtin.lenOf, hf]
      · subst hv
        simp [Builtin.append_, run_underlying T.under, sizeOf, typeInfo, h2, Builtin.lenOf, hf, storeCells, hnc]
  · exact append_named T ty base v n xs ho A m c ms hm hml h1 h0 hlen hbase

theorem wpList_append_any {t e : TypeId} {z : Value} {size bytes : Nat} (T : ElemT t e z size bytes) {w : World} {ops : Array Oper} {rest : List Oper} {o : Oper} {a : Act} {Q : Exit → Act → World → Prop} (hgd : o.guard = none) (s x : Operand)
    (hop : o.op = .call { callee := .builtin .append, args := #[s, x], argTypes := #[t, t] })
    (base : Nat) (v : Value) (n : Nat) (xs : List Value) (hs : a.eval s = v) (ho : OwnC w base e size v n xs) (A : Option Addr) (m c : Nat) (ms : List Value) (hx : a.eval x = .slice A m c)
    (hm : Cells w A ms) (hml : ms.length = m * size) (h1 : ∀ u ∈ ms, u.oneCell' = true) (hA : A = none → c = 0) (hlen : n + m ≤ 1000000) (hbase : base ≤ w.heap.size)
    (h : ∀ v' w', OwnC w' base e size v' (n + m) (xs ++ ms) → w.grownBy w' v.ownBlock → (v'.ownBlock = v.ownBlock ∨ v'.ownBlock = some w.heap.size) → wpList Tryz.prog ops Q rest (a.put o.dst v') w') : wpList Tryz.prog ops Q (o :: rest) a w := by
  refine wpList_plain hgd fun K hK => ?_
  obtain ⟨v', w', hrun, g1, g2, g3⟩ := append_any T o.type base v n xs ho A m c ms hm hml h1 hA hlen hbase
  unfold Oper.wp
  simp [execOp, hop, resolve, invoke, builtin, hs, hx, hrun, Result.andThen]
  exact hK _ _ (h v' w' g1 g2 g3)

/-- The block of an address. -/
def blk : Option Addr → Option Nat
  | none => none
  | some a => some a.block

theorem own_blk (A : Option Addr) (n c : Nat) : Value.ownBlock (.slice A n c) = blk A := by
  cases A <;> rfl

/-- Apart: no block twice. -/
def Sep (l : List (Option Nat)) : Prop := l.Pairwise (fun x y => ∀ b, x = some b → y ≠ some b)

theorem Sep.perm {l m : List (Option Nat)} (h : Sep l) (hp : m.Perm l) : Sep m :=
  hp.symm.pairwise h (fun {x y} hxy b hb he => hxy b he hb)
theorem Sep.set {l : List (Option Nat)} (h : Sep l) {i : Nat} {x : Option Nat} {N : Nat} (hN : ∀ b, some b ∈ l → b < N) (hx : l[i]? = some x ∨ x = some N) : Sep (l.set i x) := by
  rcases hx with hx | rfl
  · have : l.set i x = l := by
      apply List.ext_getElem?
      intro j
      rw [List.getElem?_set]
      split
      · rename_i hij
        subst hij
        rw [hx]
        have := (List.getElem?_eq_some_iff.1 hx).1
        rw [if_pos this]
      · rfl
    rw [this]
    exact h
  · unfold Sep at h ⊢
    rw [List.pairwise_iff_getElem] at h ⊢
    intro a b ha hb hab
    simp only [List.length_set] at ha hb
    rw [List.getElem_set, List.getElem_set]
    intro c hc hd
    split at hc
    · injection hc with hc
      subst hc
      split at hd
      · omega
      · have := hN N (by rw [← hd]; exact List.getElem_mem hb)
        omega
    · split at hd
      · injection hd with hd
        subst hd
        have := hN N (by rw [← hc]; exact List.getElem_mem ha)
        omega
      · exact h a b ha hb hab c hc hd
theorem Sep.push {l : List (Option Nat)} (h : Sep l) {x : Option Nat} (hx : ∀ b, x = some b → some b ∉ l) : Sep (l ++ [x]) := by
  unfold Sep at h ⊢
  rw [List.pairwise_append]
  refine ⟨h, List.pairwise_singleton _ _, fun a ha y hy b hb he => ?_⟩
  rw [List.mem_singleton] at hy
  subst hy hb
  exact hx b he ha
theorem Sep.ne {l : List (Option Nat)} (h : Sep l) {i j : Nat} (hij : i ≠ j) {a b : Nat} (ha : l[i]? = some (some a)) (hb : l[j]? = some (some b)) : a ≠ b := by
  unfold Sep at h
  rw [List.pairwise_iff_getElem] at h
  obtain ⟨h1, h2⟩ := List.getElem?_eq_some_iff.1 ha
  obtain ⟨h3, h4⟩ := List.getElem?_eq_some_iff.1 hb
  rintro rfl
  rcases Nat.lt_or_gt_of_ne hij with hlt | hlt
  · exact h i j h1 h3 hlt a h2 h4
  · exact h j i h3 h1 hlt a h4 h2

end Go.Proofs.YthdagjlgfffpbaaGreat
