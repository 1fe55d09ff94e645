/-
  Layer 4: strings in ascending order, each once: plain mathematics on lists of strings. By the verifier.
-/
import Derived.Test.YtpabccmnhaelnaaChecked
import Derived.Lib.RowBridge
import Derived.Lib.SlicesCompact
import Derived.Lib.OwnBridge
import Derived.Sort.Walk0
set_option linter.unusedVariables false
namespace Go.Proofs.Ytpabccmnhaelnaa

section
variable {α : Type} [Inhabited α] [DecidableEq α]

theorem upTo_from (d : Array α) (m : Nat) (x : α) (h : x ∈ Lib.compactUpTo d m) : ∃ j, j < m ∧ x = d[j]! := by
  unfold Lib.compactUpTo at h
  obtain ⟨j, hj, rfl⟩ := List.mem_map.1 h
  exact ⟨j, List.mem_range.1 (List.mem_filter.1 hj).1, rfl⟩

theorem upTo_all (d : Array α) : ∀ m j, j < m → d[j]! ∈ Lib.compactUpTo d m := by
  intro m
  induction m with
  | zero => intro j hj; omega
  | succ m ih =>
    intro j hj
    rw [Lib.compactUpTo_succ]
    rcases Nat.lt_or_ge j m with h | h
    · exact List.mem_append_left _ (ih j h)
    · obtain rfl : j = m := by omega
      cases hk : Lib.keeps d j with
      | true => rw [if_pos rfl]; exact List.mem_append_right _ (List.mem_singleton.2 rfl)
      | false =>
        have hj0 : 0 < j := by
          rcases Nat.eq_zero_or_pos j with h0 | h0
          · have := Lib.keeps_lt_one d j (by omega)
            rw [this] at hk; cases hk
          · exact h0
        by_cases he : d[j]! = d[j - 1]!
        · rw [he]
          exact List.mem_append_left _ (ih (j - 1) (by omega))
        · rw [Lib.keeps_pos he] at hk; cases hk

/-- What is kept of a row in ascending order ascends strictly. -/
theorem upTo_lt (lt le : α → α → Prop) (hle : ∀ a b c, le a b → lt b c → lt a c) (hne : ∀ a b, le a b → b ≠ a → lt a b) (d : Array α) (hs : ∀ i j, i ≤ j → j < d.size → le d[i]! d[j]!) :
    ∀ m, m ≤ d.size → (Lib.compactUpTo d m).Pairwise lt := by
  intro m
  induction m with
  | zero => intro _; exact List.Pairwise.nil
  | succ m ih =>
    intro hm
    rw [Lib.compactUpTo_succ]
    cases hk : Lib.keeps d m with
    | false => rw [if_neg (by decide), List.append_nil]; exact ih (by omega)
    | true =>
      rw [if_pos rfl, List.pairwise_append]
      refine ⟨ih (by omega), List.pairwise_singleton _ _, fun x hx y hy => ?_⟩
      rw [List.mem_singleton.1 hy]
      obtain ⟨j, hj, rfl⟩ := upTo_from d m x hx
      have hne' : d[m]! ≠ d[m - 1]! := by
        intro he
        rw [Lib.keeps_neg (by omega) he] at hk
        cases hk
      exact hle _ _ _ (hs j (m - 1) (by omega) (by omega)) (hne _ _ (hs (m - 1) m (by omega) (by omega)) hne')
end

abbrev leS : List UInt8 → List UInt8 → Bool := fun x y => decide (x ≤ y)

/-- Sorted, each once. -/
def sortS (ss : List (List UInt8)) : List (List UInt8) := Lib.compact (ss.mergeSort fun x y => decide (x ≤ y))

theorem sortS_mem (ss : List (List UInt8)) (x : List UInt8) : x ∈ sortS ss ↔ x ∈ ss := by
  have hp := List.mergeSort_perm ss leS
  unfold sortS Lib.compact
  constructor
  · intro h
    obtain ⟨j, hj, rfl⟩ := upTo_from _ _ _ h
    refine hp.subset ?_
    have : j < (ss.mergeSort leS).toArray.size := by simpa using hj
    rw [getElem!_pos _ j this]
    simp
  · intro h
    have h' := hp.symm.subset h
    obtain ⟨j, hj, rfl⟩ := List.mem_iff_getElem.1 h'
    have := upTo_all (ss.mergeSort leS).toArray (ss.mergeSort leS).length j hj
    rw [getElem!_pos _ j (by simpa using hj)] at this
    simpa using this

theorem sortS_lt (ss : List (List UInt8)) : (sortS ss).Pairwise (· < ·) := by
  have tr : ∀ a b c : List UInt8, leS a b = true → leS b c = true → leS a c = true := fun a b c h1 h2 => by simp only [leS, decide_eq_true_eq] at *; exact List.le_trans h1 h2
  have to : ∀ a b : List UInt8, (leS a b || leS b a) = true := fun a b => by simp only [leS, Bool.or_eq_true, decide_eq_true_eq]; exact List.le_total a b
  have hs := List.pairwise_mergeSort tr to ss
  unfold sortS Lib.compact
  refine upTo_lt (· < ·) (· ≤ ·) (fun a b c h1 h2 => List.lt_of_le_of_lt h1 h2) (fun a b h1 h2 => ?_) _ (fun i j hij hj => ?_) _ (by simp)
  · rcases List.le_iff_lt_or_eq.1 h1 with h | h
    · exact h
    · exact absurd h.symm h2
  · have hj' : j < (ss.mergeSort leS).length := by simpa using hj
    rw [getElem!_pos _ i (by simpa using Nat.lt_of_le_of_lt hij hj'), getElem!_pos _ j hj]
    rcases Nat.lt_or_ge i j with h | h
    · have := List.pairwise_iff_getElem.1 hs i j (by omega) hj' h
      simpa [leS] using this
    · obtain rfl : i = j := by omega
      exact List.le_refl _

/-- The same on strings. -/
def sortZ (zs : List ByteArray) : List ByteArray := (sortS (zs.map (·.data.toList))).map fun l => ⟨l.toArray⟩

theorem sortZ_mem (zs : List ByteArray) (x : ByteArray) : x ∈ sortZ zs ↔ x ∈ zs := by
  unfold sortZ
  constructor
  · intro h
    obtain ⟨l, hl, rfl⟩ := List.mem_map.1 h
    obtain ⟨z, hz, rfl⟩ := List.mem_map.1 ((sortS_mem _ _).1 hl)
    simpa using hz
  · intro h
    refine List.mem_map.2 ⟨x.data.toList, (sortS_mem _ _).2 (List.mem_map.2 ⟨x, h, rfl⟩), by simp⟩

theorem sortZ_len (zs : List ByteArray) : (sortZ zs).length ≤ zs.length := by
  unfold sortZ sortS
  rw [List.length_map]
  refine Nat.le_trans (Lib.compact_length_le _) ?_
  rw [List.length_mergeSort, List.length_map]
  exact Nat.le_refl _

/-- As Go asks: a later string is neither less than an earlier one nor the same. -/
theorem sortZ_up (zs : List ByteArray) {i j : Nat} (hij : i < j) (hj : j < (sortZ zs).length) :
    Op.bytesLess ((sortZ zs).getD j ByteArray.empty).toList ((sortZ zs).getD i ByteArray.empty).toList = false ∧ (((sortZ zs).getD j ByteArray.empty).toList == ((sortZ zs).getD i ByteArray.empty).toList) = false := by
  have hl : (sortZ zs).length = (sortS (zs.map (·.data.toList))).length := by unfold sortZ; rw [List.length_map]
  have hlt := List.pairwise_iff_getElem.1 (sortS_lt (zs.map (·.data.toList))) i j (by omega) (by omega) hij
  have hg : ∀ k (hk : k < (sortS (zs.map (·.data.toList))).length), ((sortZ zs).getD k ByteArray.empty).toList = (sortS (zs.map (·.data.toList)))[k] := by
    intro k hk
    unfold sortZ
    rw [List.getD, List.getElem?_map, List.getElem?_eq_getElem hk]
    show (ByteArray.mk _).toList = _
    rw [ByteArray.toList_mk]
  rw [hg j (by omega), hg i (by omega), bytesLess_eq]
  refine ⟨decide_eq_false (fun h => ?_), beq_eq_false_iff_ne.2 (fun h => ?_)⟩
  · exact List.lt_irrefl _ (List.lt_trans h hlt)
  · rw [h] at hlt
    exact List.lt_irrefl _ hlt

end Go.Proofs.Ytpabccmnhaelnaa
