/-
  Layer 6 (lex): what the law LexSpaces says of two texts, as plain mathematics. By the verifier.
-/
import Derived.Test.YtmgohahjocdeeaaDoorTJoin
import Derived.Test.YtmgohahjocdeeaaDoorTBase
set_option linter.unusedVariables false
namespace Go.Proofs.YtmgohahjocdeeaaDoor
open Go.RowKit

theorem toks_code (nv : List Nat → Option Int) : ∀ (f : Nat) (r : List Nat) (p : Nat × Nat) (c a b : Nat), (toks nv f r p).2 = some (c, a, b) → c ≠ 0
  | 0, r, p, c, a, b, h => by cases h
  | f + 1, r, p, c, a, b, h => by
    rw [toks] at h
    split at h
    · rename_i hc
      injection h with h
      injection h with h1 h2
      omega
    · split at h
      · cases h
      · exact toks_code nv f _ _ c a b h

theorem adv_bound (l : List Nat) : ∀ p : Nat × Nat, (adv p l).1 ≤ p.1 + l.length := by
  induction l with
  | nil => intro p; exact Nat.le_refl _
  | cons x r ih =>
    intro p
    rw [adv_cons]
    have h1 := ih (stepP p x)
    have h2 : (stepP p x).1 ≤ p.1 + 1 := by
      unfold stepP
      split
      · exact Nat.le_refl _
      · exact Nat.le_succ _
    simp only [List.length_cons]
    omega

theorem toks_bound (nv : List Nat → Option Int) : ∀ (f : Nat) (r : List Nat) (p : Nat × Nat), ∀ t ∈ (toks nv f r p).1, t.line ≤ p.1 + r.length
  | 0, r, p, t, h => by rw [toks] at h; cases h
  | f + 1, r, p, t, h => by
    have hb : ∀ n, (adv p (r.take n)).1 ≤ p.1 + r.length := fun n => Nat.le_trans (adv_bound _ p) (by rw [List.length_take]; omega)
    rw [toks] at h
    split at h
    · cases h
    · split at h
      · obtain rfl := List.mem_singleton.1 h
        exact hb _
      · rcases List.mem_cons.1 h with rfl | h
        · exact hb _
        · have h1 := toks_bound nv f _ _ t h
          have h2 := adv_bound (r.take (skipL false r + (readL nv (r.drop (skipL false r))).len)) p
          have h3 : (r.take (skipL false r + (readL nv (r.drop (skipL false r))).len)).length + (r.drop (skipL false r + (readL nv (r.drop (skipL false r))).len)).length = r.length := by rw [← List.length_append, List.take_append_drop]
          omega

theorem adv_line (l : List Nat) : ∀ p : Nat × Nat, (adv p l).1 = p.1 + l.count 10 := by
  induction l with
  | nil => intro p; rfl
  | cons x r ih =>
    intro p
    rw [adv_cons, ih]
    by_cases hx : x = 10
    · subst hx
      rw [stepP_nl, List.count_cons_self]
      show p.1 + 1 + r.count 10 = _
      omega
    · rw [stepP_no _ hx, List.count_cons_of_ne (by omega)]

theorem adv_nlend (l : List Nat) (p : Nat × Nat) : adv p (l ++ [10]) = (p.1 + (1 + l.count 10), 1) := by
  rw [adv_append, adv_one, stepP_nl, adv_line]
  rw [show p.1 + l.count 10 + 1 = p.1 + (1 + l.count 10) by omega]

/-- The tokens of two texts with a line feed between them. -/
theorem tokens_line (nv : List Nat → Option Int) (a b : List Nat) (ha : (tokensV nv a).2 = none) (hb : (tokensV nv b).2 = none) :
    tokensV nv (a ++ 10 :: b) = ((tokensV nv a).1.dropLast ++ (tokensV nv b).1.map (shiftT (1 + a.count 10)), none) ∧ (tokensV nv a).1 ≠ [] := by
  refine ⟨?_, ?_⟩
  · have h := toks_line nv b (a.length + 1) a (1, 1) (by omega) ha ((a ++ 10 :: b).length + 1) (by omega)
    have hs := toks_shift nv (1 + a.count 10) (b.length + 1) b (1, 1) hb
    rw [adv_nlend] at h
    unfold tokensV
    rw [h]
    show ((toks nv (a.length + 1) a (1, 1)).1.dropLast ++ (toks nv (b.length + 1) b (1 + (1 + a.count 10), 1)).1, (toks nv (b.length + 1) b (1 + (1 + a.count 10), 1)).2) = _
    have hs2 : toks nv (b.length + 1) b (1 + (1 + a.count 10), 1) = ((toks nv (b.length + 1) b (1, 1)).1.map (shiftT (1 + a.count 10)), none) := hs
    rw [hs2]
  · obtain ⟨vs, x, y, e, -, -⟩ := toks_ok nv (a.length + 1) a (1, 1) (by omega) ha
    unfold tokensV
    rw [e]
    simp

theorem count_bytes (s : ByteArray) : Lib.countByte s.data.toList 10 = (bytesOf s).count 10 := by
  unfold Lib.countByte bytesOf
  generalize s.data.toList = l
  induction l with
  | nil => rfl
  | cons c l ih =>
    rw [List.map_cons, List.count_cons, List.count_cons, ih]
    congr 1
    by_cases h : c = 10
    · subst h; rfl
    · have h2 : c.toNat ≠ 10 := fun e => h (by rw [← UInt8.toNat_inj]; exact e)
      simp [h, h2]

end Go.Proofs.YtmgohahjocdeeaaDoor
