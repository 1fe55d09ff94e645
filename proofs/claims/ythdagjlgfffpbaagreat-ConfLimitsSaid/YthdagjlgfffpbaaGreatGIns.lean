/-
  Layer 5 (conf): insertion into an ordered list: plain mathematics. By the verifier.
-/
import Derived.Test.YthdagjlgfffpbaaGreatGMath
set_option linter.unusedVariables false
namespace Go.Proofs.YthdagjlgfffpbaaGreat

section
variable {α : Type} {le : α → α → Prop}

/-- x is put at place n. -/
def insAt (out : List α) (n : Nat) (x : α) : List α := (out.take n ++ [x]) ++ out.drop n

theorem insAt_len (out : List α) (n : Nat) (x : α) : (insAt out n x).length = out.length + 1 := by
  simp [insAt, List.length_take, List.length_drop]; omega
theorem insAt_perm (out : List α) (n : Nat) (x : α) : (insAt out n x).Perm (out ++ [x]) := by
  unfold insAt
  calc ((out.take n ++ [x]) ++ out.drop n).Perm ((out.take n ++ out.drop n) ++ [x]) := by
        rw [List.append_assoc, List.append_assoc]
        exact List.Perm.append_left _ List.perm_append_comm
    _ = out ++ [x] := by rw [List.take_append_drop]
theorem insAt_sorted (htr : ∀ a b c, le a b → le b c → le a c) {out : List α} {n : Nat} {x : α} (hs : out.Pairwise le) (h1 : ∀ y ∈ out.drop n, le x y) (h2 : n = 0 ∨ ∃ y, out[n - 1]? = some y ∧ le y x) : (insAt out n x).Pairwise le := by
  have hsp : (out.take n ++ out.drop n).Pairwise le := by rw [List.take_append_drop]; exact hs
  obtain ⟨ht, hd, htd⟩ := List.pairwise_append.1 hsp
  have hx : ∀ a ∈ out.take n, le a x := by
    intro a ha
    rcases h2 with rfl | ⟨y, hy, hyx⟩
    · simp at ha
    · obtain ⟨i, hi, rfl⟩ := List.mem_iff_getElem.1 ha
      rw [List.length_take] at hi
      rw [List.getElem_take]
      have hn : n - 1 < out.length := (List.getElem?_eq_some_iff.1 hy).1
      have hyv : out[n - 1] = y := (List.getElem?_eq_some_iff.1 hy).2
      rcases Nat.lt_or_ge i (n - 1) with hlt | hge
      · exact htr _ _ _ (List.pairwise_iff_getElem.1 hs i (n - 1) (by omega) hn hlt) (hyv ▸ hyx)
      · have : i = n - 1 := by omega
        subst this
        exact hyv ▸ hyx
  unfold insAt
  rw [List.pairwise_append]
  refine ⟨List.pairwise_append.2 ⟨ht, List.pairwise_singleton _ _, fun a ha b hb => by rw [List.mem_singleton.1 hb]; exact hx a ha⟩, hd, fun a ha b hb => ?_⟩
  rcases List.mem_append.1 ha with ha | ha
  · exact htd a ha b hb
  · rw [List.mem_singleton.1 ha]
    exact h1 b hb

theorem drop_pred {out : List α} {n : Nat} {P : α → Prop} (h : ∀ y ∈ out.drop (n + 1), P y) {y : α} (hy : out[n]? = some y) (hp : P y) : ∀ z ∈ out.drop n, P z := by
  intro z hz
  obtain ⟨hn, hv⟩ := List.getElem?_eq_some_iff.1 hy
  rw [List.drop_eq_getElem_cons hn, hv] at hz
  rcases List.mem_cons.1 hz with rfl | hz
  · exact hp
  · exact h z hz
end

/-- Numbers in ascending order. -/
def sortU (l : List Nat) : List Nat := l.mergeSort (fun a b => decide (a ≤ b))
theorem sortU_perm (l : List Nat) : (sortU l).Perm l := List.mergeSort_perm l _
theorem sortU_sorted (l : List Nat) : (sortU l).Pairwise (· ≤ ·) := by
  have := List.pairwise_mergeSort (le := fun a b : Nat => decide (a ≤ b)) (fun a b c h1 h2 => by simp at *; omega) (fun a b => by simp; omega) l
  simpa [sortU] using this
theorem sortU_unique {l r : List Nat} (hp : r.Perm l) (hs : r.Pairwise (· ≤ ·)) : r = sortU l :=
  (hp.trans (sortU_perm l).symm).eq_of_pairwise (fun a b _ _ h1 h2 => Nat.le_antisymm h1 h2) hs (sortU_sorted l)

end Go.Proofs.YthdagjlgfffpbaaGreat
