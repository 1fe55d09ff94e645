/-
  Digits of numbers to the bases 10 and 16: plain facts, no program. By the verifier.
-/
import Derived.Lib.ItoaNum
import Derived.Lib.ParseIntBCases
set_option linter.unusedVariables false
namespace Go.Proofs.YtmgohahjocdeeaaDoor

/-- The digit of a value. -/
def dch (d : Nat) : UInt8 := UInt8.ofNat (if d < 10 then 48 + d else 87 + d)

/-- The digits of a number to a base. -/
def digs (b n : Nat) : List UInt8 :=
  if h : n < b ∨ b < 2 then [dch n] else digs b (n / b) ++ [dch (n % b)]
termination_by n
decreasing_by
  have h1 : b ≤ n := by omega
  exact Nat.div_lt_self (by omega) (by omega)

theorem digs_small {b n : Nat} (h : n < b) : digs b n = [dch n] := by rw [digs, dif_pos (Or.inl h)]
theorem digs_big {b n : Nat} (hb : 2 ≤ b) (h : b ≤ n) : digs b n = digs b (n / b) ++ [dch (n % b)] := by rw [digs, dif_neg (by omega)]

theorem digs_ten (n : Nat) : digs 10 n = Go.Lib.decDigits n := by
  induction n using Nat.strongRecOn with
  | _ n ih =>
    by_cases h : n < 10
    · rw [digs_small h, Go.Lib.decDigits, dif_pos h]
      unfold dch
      rw [if_pos h]
    · rw [digs_big (by omega) (by omega), Go.Lib.decDigits, dif_neg h, ih (n / 10) (by omega)]
      unfold dch
      rw [if_pos (by omega)]

/-- The value of a digit, as the reference has it. -/
def dval (c : UInt8) : Nat := if 48 ≤ c.toNat ∧ c.toNat ≤ 57 then c.toNat - 48 else if 97 ≤ c.toNat ∧ c.toNat ≤ 102 then c.toNat - 97 + 10 else 99

theorem dch_toNat {d : Nat} (h : d < 16) : (dch d).toNat = if d < 10 then 48 + d else 87 + d := by
  unfold dch
  rw [UInt8.toNat_ofNat']
  split <;> omega

theorem dval_dch {d : Nat} (h : d < 16) : dval (dch d) = d := by
  unfold dval
  rw [dch_toNat h]
  by_cases h10 : d < 10
  · rw [if_pos h10, if_pos (by omega)]; omega
  · rw [if_neg h10, if_neg (by omega), if_pos (by omega)]; omega

theorem digs_ne (b n : Nat) : digs b n ≠ [] := by
  rw [digs]
  split <;> simp

theorem digs_lt {b : Nat} (hb : 2 ≤ b) (hb' : b ≤ 16) (n : Nat) : ∀ c ∈ digs b n, dval c < b := by
  induction n using Nat.strongRecOn with
  | _ n ih =>
    intro c hc
    by_cases h : n < b
    · rw [digs_small h] at hc
      simp at hc
      subst hc
      rw [dval_dch (by omega)]
      exact h
    · rw [digs_big hb (by omega), List.mem_append] at hc
      rcases hc with hc | hc
      · exact ih (n / b) (Nat.div_lt_self (by omega) (by omega)) c hc
      · simp at hc
        subst hc
        have := Nat.mod_lt n (show b > 0 by omega)
        rw [dval_dch (by omega)]
        exact this

theorem digs_len {b : Nat} (hb : 2 ≤ b) : ∀ (k n : Nat), n < b ^ (k + 1) → (digs b n).length ≤ k + 1 := by
  intro k
  induction k with
  | zero => intro n h; rw [digs_small (by simpa using h)]; simp
  | succ k ih =>
    intro n h
    by_cases hn : n < b
    · rw [digs_small hn]; simp
    · rw [digs_big hb (by omega)]
      have h' : n / b < b ^ (k + 1) := by
        rw [Nat.div_lt_iff_lt_mul (by omega)]
        rw [Nat.pow_succ] at h
        exact h
      have := ih _ h'
      simp
      omega

/-- The value of digits. -/
def evalB (b : Nat) (acc : Nat) (l : List UInt8) : Nat := l.foldl (fun a c => a * b + dval c) acc

theorem evalB_append (b acc : Nat) (xs ys : List UInt8) : evalB b acc (xs ++ ys) = evalB b (evalB b acc xs) ys := by
  unfold evalB; rw [List.foldl_append]

theorem evalB_digs {b : Nat} (hb : 2 ≤ b) (hb' : b ≤ 16) (n : Nat) : evalB b 0 (digs b n) = n := by
  induction n using Nat.strongRecOn with
  | _ n ih =>
    by_cases h : n < b
    · rw [digs_small h]
      simp [evalB, dval_dch (show n < 16 by omega)]
    · have hm := Nat.mod_lt n (show b > 0 by omega)
      rw [digs_big hb (by omega), evalB_append, ih _ (Nat.div_lt_self (by omega) (by omega))]
      simp [evalB, dval_dch (show n % b < 16 by omega)]
      have := Nat.div_add_mod n b
      rw [Nat.mul_comm] at this
      exact this

/-- The value of a digit to the base 16, as strconv reads it: capital letters too. -/
def hval (c : UInt8) : Option Nat :=
  if 48 ≤ c.toNat ∧ c.toNat ≤ 57 then some (c.toNat - 48)
  else if 97 ≤ (c ||| 32).toNat ∧ (c ||| 32).toNat ≤ 102 then some ((c ||| 32).toNat - 87)
  else none

theorem hval_dch {d : Nat} (h : d < 16) : hval (dch d) = some d := by
  have : d = 0 ∨ d = 1 ∨ d = 2 ∨ d = 3 ∨ d = 4 ∨ d = 5 ∨ d = 6 ∨ d = 7 ∨ d = 8 ∨ d = 9 ∨ d = 10 ∨ d = 11 ∨ d = 12 ∨ d = 13 ∨ d = 14 ∨ d = 15 := by omega
  rcases this with rfl | rfl | rfl | rfl | rfl | rfl | rfl | rfl | rfl | rfl | rfl | rfl | rfl | rfl | rfl | rfl <;> rfl

/-- strconv.ParseUint to the base 16 at 64 bits, of bytes that are not empty. -/
def p16 (acc : Nat) : List UInt8 → Option Nat
  | [] => some acc
  | c :: r => match hval c with
    | none => none
    | some d => if 1152921504606846976 ≤ acc then none else p16 (acc * 16 + d) r

theorem p16_snoc (l : List UInt8) (acc u d : Nat) (c : UInt8) (h : p16 acc l = some u) (hc : hval c = some d) (hu : u < 1152921504606846976) : p16 acc (l ++ [c]) = some (u * 16 + d) := by
  induction l generalizing acc with
  | nil =>
    simp only [p16] at h
    injection h with h
    subst h
    simp only [List.nil_append, p16, hc]
    rw [if_neg (by omega)]
  | cons x xs ih =>
    simp only [List.cons_append, p16] at h ⊢
    cases hx : hval x with
    | none => rw [hx] at h; cases h
    | some e =>
      rw [hx] at h
      simp only at h ⊢
      by_cases ha : 1152921504606846976 ≤ acc
      · rw [if_pos ha] at h; cases h
      · rw [if_neg ha] at h ⊢
        exact ih _ h

theorem p16_digs (n : Nat) (h : n < 18446744073709551616) : p16 0 (digs 16 n) = some n := by
  induction n using Nat.strongRecOn with
  | _ n ih =>
    by_cases hn : n < 16
    · rw [digs_small hn]
      simp only [p16, hval_dch hn]
      rw [if_neg (by omega)]
      simp
    · rw [digs_big (by omega) (by omega)]
      have := p16_snoc (digs 16 (n / 16)) 0 (n / 16) (n % 16) (dch (n % 16)) (ih (n / 16) (by omega) (by omega)) (hval_dch (by omega)) (by omega)
      rw [this]
      congr 1
      omega

theorem p10_snoc (l : List UInt8) (acc u d : Nat) (h : Go.Lib.parseUint10 acc l = .ok u) (hd : d < 10) (hu : u * 10 + d < 18446744073709551616) : Go.Lib.parseUint10 acc (l ++ [dch d]) = .ok (u * 10 + d) := by
  have hc : (dch d).toNat = 48 + d := by rw [dch_toNat (by omega), if_pos hd]
  induction l generalizing acc with
  | nil =>
    simp only [Go.Lib.parseUint10] at h
    injection h with h
    subst h
    simp only [List.nil_append, Go.Lib.parseUint10, hc]
    rw [if_pos (by omega), if_neg (by omega), if_neg (by omega)]
    congr 1
    omega
  | cons x xs ih =>
    simp only [List.cons_append, Go.Lib.parseUint10] at h ⊢
    split at h
    · rename_i h1
      rw [if_pos h1]
      split at h
      · cases h
      · rename_i h2
        rw [if_neg h2]
        split at h
        · cases h
        · rename_i h3
          rw [if_neg h3]
          exact ih _ h
    · cases h

theorem p10_digs (n : Nat) (h : n < 18446744073709551616) : Go.Lib.parseUint10 0 (digs 10 n) = .ok n := by
  induction n using Nat.strongRecOn with
  | _ n ih =>
    by_cases hn : n < 10
    · rw [digs_small hn]
      have := p10_snoc [] 0 0 n rfl hn (by omega)
      simpa using this
    · rw [digs_big (by omega) (by omega)]
      have := p10_snoc (digs 10 (n / 10)) 0 (n / 10) (n % 10) (ih (n / 10) (by omega) (by omega)) (by omega) (by omega)
      rw [this]
      congr 1
      omega

theorem pB_digs (n : Nat) (h : n < 18446744073709551616) : Go.Lib.parseUintB 64 (digs 10 n) = .ok n := by
  unfold Go.Lib.parseUintB
  rw [if_neg (digs_ne _ _)]
  show Go.Lib.parseUintM 18446744073709551615 0 _ = _
  rw [Go.Lib.parseUintM_64]
  exact p10_digs n h

end Go.Proofs.YtmgohahjocdeeaaDoor
