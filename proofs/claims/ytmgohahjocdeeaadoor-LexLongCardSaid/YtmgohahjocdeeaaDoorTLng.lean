/-
  Layer 6 (lex): a byte behind spaces, as plain mathematics. By the verifier.
-/
import Derived.Test.YtmgohahjocdeeaaDoorTJoin
set_option linter.unusedVariables false
namespace Go.Proofs.YtmgohahjocdeeaaDoor

theorem skip_spaces (m : Nat) (s : List Nat) : skipL false (List.replicate m 32 ++ s) = m + skipL false s := by
  induction m with
  | zero => simp
  | succ m ih =>
    rw [List.replicate_succ, List.cons_append, skip_go _ (Or.inr rfl)]
    show 1 + skipL false (List.replicate m 32 ++ s) = _
    rw [ih]
    omega

theorem long_toks (nv : List Nat → Option Int) (m c : Nat) :
    (tokensV nv (List.replicate m 32 ++ [c])).1.length ≤ 2 ∧ ((readL nv (([c] : List Nat).drop (atV [c] 0))).code = 0 → (tokensV nv (List.replicate m 32 ++ [c])).2 = none) ∧
      ((readL nv (([c] : List Nat).drop (atV [c] 0))).code ≠ 0 → ∃ a b, (tokensV nv (List.replicate m 32 ++ [c])).2 = some ((readL nv (([c] : List Nat).drop (atV [c] 0))).code, a, b)) := by
  have h1 : tokensV nv (List.replicate m 32 ++ [c]) = toks nv (m + 1 + 1) [c] (adv (1, 1) (List.replicate m 32)) := by
    unfold tokensV
    have h := toks_skip nv (u := List.replicate m 32) (b := [c]) (by rw [skip_spaces, List.length_replicate]) ((List.replicate m 32 ++ [c]).length + 1) (1, 1)
    rw [h]
    simp
  have h2 : atV [c] 0 = skipL false [c] := by unfold atV; rw [List.drop_zero, Nat.zero_add]
  have hl := toks_len nv (m + 1 + 1) [c] (adv (1, 1) (List.replicate m 32))
  rw [h1, h2]
  generalize adv (1, 1) (List.replicate m 32) = p at *
  obtain ⟨s, hs⟩ : ∃ s, s = skipL false [c] := ⟨_, rfl⟩
  rw [← hs]
  obtain ⟨R, hR⟩ : ∃ R, R = readL nv (([c] : List Nat).drop s) := ⟨_, rfl⟩
  rw [← hR]
  refine ⟨hl, fun h0 => ?_, fun h0 => ?_⟩
  · by_cases hk : R.kind = 0
    · rw [toks_end (m + 1) p hs hR h0 hk]
    · have hrl := read_len nv (([c] : List Nat).drop s)
      rw [← hR, List.length_drop] at hrl
      have h3 := hrl.2.1 hk
      have h4 := hrl.1
      have e : ([c] : List Nat).drop (s + R.len) = [] := List.drop_of_length_le (by simp only [List.length_cons, List.length_nil] at h4 ⊢; omega)
      rw [toks_more (m + 1) p hs hR h0 hk, e]
      exact congrArg Prod.snd (toks_end (nv := nv) (r := []) (s := 0) (R := ⟨0, 0, [], 0, 0⟩) m (adv p (([c] : List Nat).take (s + R.len))) rfl rfl rfl rfl)
  · exact ⟨_, _, congrArg Prod.snd (toks_fault (m + 1) p hs hR h0)⟩

end Go.Proofs.YtmgohahjocdeeaaDoor
