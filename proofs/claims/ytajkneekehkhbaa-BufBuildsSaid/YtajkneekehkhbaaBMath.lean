/-
  Layer 3 (buf): numbers of bytes, as plain mathematics. By the verifier.
-/
import Derived.Test.YtajkneekehkhbaaMBytes
set_option linter.unusedVariables false
namespace Go.Proofs.Ytajkneekehkhbaa

/-- The number whose bytes are a list, the least significant first. -/
def leV : List Nat → Nat
  | [] => 0
  | d :: l => d + 256 * leV l

/-- The bytes of a number. -/
def leB : Nat → Nat → List Nat
  | 0, _ => []
  | n + 1, x => x % 256 :: leB n (x / 256)

theorem leV_cons (d : Nat) (l : List Nat) : leV (d :: l) = d + 256 * leV l := rfl
theorem leB_succ (n x : Nat) : leB (n + 1) x = x % 256 :: leB n (x / 256) := rfl

theorem leB_len (n x : Nat) : (leB n x).length = n := by
  induction n generalizing x with
  | zero => rfl
  | succ n ih => simp [leB, ih]

theorem leB_bs (n x : Nat) : Bs (leB n x) := by
  induction n generalizing x with
  | zero => intro y hy; cases hy
  | succ n ih =>
    intro y hy
    rcases List.mem_cons.1 hy with rfl | hy
    · exact Nat.mod_lt _ (by omega)
    · exact ih _ y hy

theorem leV_lt {l : List Nat} (h : Bs l) : leV l < 256 ^ l.length := by
  induction l with
  | nil => simp [leV]
  | cons d l ih =>
    have h1 : d < 256 := h d (List.mem_cons_self ..)
    have h2 := ih (fun x hx => h x (List.mem_cons_of_mem _ hx))
    have e : 256 ^ (d :: l).length = 256 * 256 ^ l.length := by rw [List.length_cons, Nat.pow_succ, Nat.mul_comm]
    rw [e]
    unfold leV
    omega

theorem leV_append (l m : List Nat) : leV (l ++ m) = leV l + 256 ^ l.length * leV m := by
  induction l with
  | nil => simp [leV]
  | cons d l ih =>
    have e : 256 ^ (d :: l).length = 256 * 256 ^ l.length := by rw [List.length_cons, Nat.pow_succ, Nat.mul_comm]
    rw [e, List.cons_append, leV_cons, leV_cons, ih, Nat.mul_add, Nat.mul_assoc]
    omega

theorem take_snoc (l : List Nat) (k : Nat) (h : k < l.length) : l.take (k + 1) = l.take k ++ [l.getD k 0] := by
  rw [List.take_succ_eq_append_getElem h]
  simp [List.getD, h]

theorem leV_snoc (l : List Nat) (k : Nat) (h : k < l.length) : leV (l.take (k + 1)) = leV (l.take k) + 256 ^ k * l.getD k 0 := by
  rw [take_snoc l k h, leV_append, List.length_take, Nat.min_eq_left (by omega)]
  simp [leV]

theorem leV_take_lt {l : List Nat} (h : Bs l) (k : Nat) (hk : k ≤ l.length) : leV (l.take k) < 256 ^ k := by
  have := leV_lt (h.take k)
  rwa [List.length_take, Nat.min_eq_left hk] at this

theorem or_shift (a d k : Nat) (h : a < 256 ^ k) : a ||| 256 ^ k * d = a + 256 ^ k * d := by
  have e : 256 ^ k = 2 ^ (8 * k) := by rw [Nat.pow_mul]
  rw [e] at h ⊢
  rw [Nat.or_comm, ← Nat.two_pow_add_eq_or_of_lt h, Nat.add_comm]

theorem leV_snoc_or {l : List Nat} (hb : Bs l) (k : Nat) (h : k < l.length) : leV (l.take k) ||| 256 ^ k * l.getD k 0 = leV (l.take (k + 1)) := by
  rw [or_shift _ _ _ (leV_take_lt hb k (by omega)), leV_snoc l k h]

theorem leV_leB (n x : Nat) : leV (leB n x) = x % 256 ^ n := by
  induction n generalizing x with
  | zero => simp [leB, leV, Nat.mod_one]
  | succ n ih =>
    unfold leB leV
    rw [ih, Nat.pow_succ, Nat.mul_comm (256 ^ n) 256, Nat.mod_mul]

theorem leB_add (n m x : Nat) : leB (n + m) x = leB n x ++ leB m (x / 256 ^ n) := by
  induction n generalizing x with
  | zero => simp [leB]
  | succ n ih =>
    rw [Nat.add_right_comm]
    rw [leB_succ, leB_succ, ih, List.cons_append, Nat.div_div_eq_div_mul, Nat.pow_succ, Nat.mul_comm 256]

theorem leB_mod (n m x : Nat) (h : n ≤ m) : leB n (x % 256 ^ m) = leB n x := by
  induction n generalizing x m with
  | zero => rfl
  | succ n ih =>
    obtain ⟨m, rfl⟩ : ∃ k, m = k + 1 := ⟨m - 1, by omega⟩
    unfold leB
    have e1 : x % 256 ^ (m + 1) % 256 = x % 256 := Nat.mod_mod_of_dvd _ ⟨256 ^ m, by rw [Nat.pow_succ, Nat.mul_comm]⟩
    have e2 : x % 256 ^ (m + 1) / 256 = x / 256 % 256 ^ m := by rw [Nat.pow_succ, Nat.mul_comm, Nat.mod_mul_right_div_self]
    rw [e1, e2, ih _ _ (by omega)]

end Go.Proofs.Ytajkneekehkhbaa
