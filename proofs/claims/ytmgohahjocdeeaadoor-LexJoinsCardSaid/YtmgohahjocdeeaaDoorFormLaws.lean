/-
  Forms and their inverse: the program's answer and the reference's are the same. Plain facts. By the verifier.
-/
import Derived.Test.YtmgohahjocdeeaaDoorRefParse
set_option linter.unusedVariables false
namespace Go.Proofs.YtmgohahjocdeeaaDoor

theorem rval_snoc (b : Nat) : ∀ (l : List UInt8) (acc u : Nat) (c : UInt8), rval b acc l = some u → dval c < b → rval b acc (l ++ [c]) = some ((u * b + dval c) % 18446744073709551616)
  | [], acc, u, c, h, hc => by
    simp only [rval] at h
    injection h with h
    subst h
    simp only [List.nil_append, rval]
    rw [if_neg (by omega)]
  | x :: xs, acc, u, c, h, hc => by
    simp only [List.cons_append, rval] at h ⊢
    split at h
    · cases h
    · rename_i hx
      rw [if_neg hx]
      exact rval_snoc b xs _ u c h hc

theorem rval_digs (b : Nat) (hb : 2 ≤ b) (hb' : b ≤ 16) (n : Nat) (h : n < 18446744073709551616) : rval b 0 (digs b n) = some n := by
  induction n using Nat.strongRecOn with
  | _ n ih =>
    by_cases hn : n < b
    · rw [digs_small hn]
      have := rval_snoc b [] 0 0 (dch n) rfl (by rw [dval_dch (by omega)]; exact hn)
      rw [List.nil_append] at this
      rw [this, dval_dch (by omega)]
      congr 1
      omega
    · have hm := Nat.mod_lt n (show b > 0 by omega)
      have hq : n / b < n := Nat.div_lt_self (by omega) (by omega)
      rw [digs_big hb (by omega), rval_snoc b (digs b (n / b)) 0 (n / b) (dch (n % b)) (ih _ hq (by omega)) (by rw [dval_dch (by omega)]; exact hm), dval_dch (by omega)]
      have := Nat.div_add_mod n b
      rw [Nat.mul_comm] at this
      rw [this]
      congr 1
      omega

theorem no_x (n : Nat) : (120 : UInt8) ∉ digs 10 n := fun h => absurd (digs_lt (by omega) (by omega) n 120 h) (by decide)

theorem pre_form16 (n : Nat) : Lib.hasPrefix (form16 n) [48, 120] = true := by
  unfold form16 Lib.hasPrefix
  simp

theorem pre_form10 (n : Nat) : Lib.hasPrefix (form10 n) [48, 120] = false := by
  rw [Bool.eq_false_iff]
  intro h
  unfold form10 Lib.hasPrefix at h
  rw [List.isPrefixOf_iff_prefix] at h
  exact no_x n (h.subset (by simp))

theorem trim_form16 (n : Nat) : Lib.trimPrefix (form16 n) [48, 120] = digs 16 n := by
  unfold Lib.trimPrefix
  rw [pre_form16]
  rfl

theorem parse_form16 (n : Nat) (h : n < 18446744073709551616) : parseO (form16 n) = some (n : Int) := by
  unfold parseO
  rw [if_pos (pre_form16 n), trim_form16]
  have : parse16 (digs 16 n) = some n := by unfold parse16; rw [if_neg (digs_ne _ _), p16_digs n h]
  rw [this]
  exact if_pos rfl

theorem parse_form10 (n : Nat) (h : n < 18446744073709551616) : parseO (form10 n) = some (n : Int) := by
  unfold parseO
  rw [if_neg (by rw [pre_form10]; simp)]
  have : parse10 (form10 n) = some n := by unfold parse10 form10; rw [pB_digs n h]
  rw [this]
  exact if_pos rfl

theorem exact_some {o : Option Nat} {fm : Nat → List UInt8} {s : List UInt8} {m : Int} (h : exactO o fm s = some m) : ∃ u, o = some u ∧ fm u = s ∧ m = u := by
  cases o with
  | none => cases h
  | some u =>
    simp only [exactO] at h
    split at h
    · rename_i hs
      injection h with h
      exact ⟨u, rfl, hs, h.symm⟩
    · cases h

/-- A string that is one of the forms of a number of 64 bits. -/
def IsForm (s : List UInt8) (n : Nat) : Prop := n < 18446744073709551616 ∧ (form16 n = s ∨ form10 n = s)

theorem parse_sound {s : List UInt8} {m : Int} (h : parseO s = some m) : ∃ n : Nat, m = n ∧ IsForm s n := by
  unfold parseO at h
  split at h
  · obtain ⟨u, h1, h2, h3⟩ := exact_some h
    exact ⟨u, h3, parse16_lt h1, Or.inl h2⟩
  · obtain ⟨u, h1, h2, h3⟩ := exact_some h
    exact ⟨u, h3, parse10_lt h1, Or.inr h2⟩

theorem parse_whole {s : List UInt8} {n : Nat} (h : IsForm s n) : parseO s = some (n : Int) := by
  rcases h with ⟨hn, rfl | rfl⟩
  · exact parse_form16 n hn
  · exact parse_form10 n hn

theorem rval_lt (b : Nat) : ∀ (l : List UInt8) (acc u : Nat), acc < 18446744073709551616 → rval b acc l = some u → u < 18446744073709551616
  | [], acc, u, h, hp => by simp only [rval] at hp; injection hp with hp; omega
  | c :: r, acc, u, h, hp => by
    simp only [rval] at hp
    split at hp
    · cases hp
    · exact rval_lt b r _ u (Nat.mod_lt _ (by omega)) hp

theorem rparse_sound {s : List UInt8} {m : Int} (h : rparseO s = some m) : ∃ n : Nat, m = n ∧ IsForm s n := by
  unfold rparseO at h
  split at h
  · cases h
  · split at h
    · obtain ⟨u, h1, h2, h3⟩ := exact_some h
      exact ⟨u, h3, rval_lt 16 _ 0 u (by omega) h1, Or.inl h2⟩
    · obtain ⟨u, h1, h2, h3⟩ := exact_some h
      exact ⟨u, h3, rval_lt 10 _ 0 u (by omega) h1, Or.inr h2⟩

theorem rparse_whole {s : List UInt8} {n : Nat} (h : IsForm s n) : rparseO s = some (n : Int) := by
  rcases h with ⟨hn, rfl | rfl⟩
  · have hl : (digs 16 n).length ≤ 16 := digs_len (by omega) 15 n (by omega)
    have h1 : 1 ≤ (digs 16 n).length := List.length_pos_iff.2 (digs_ne _ _)
    unfold rparseO
    rw [if_neg (by unfold form16; simp; omega), if_pos ⟨by unfold form16; simp; omega, rfl⟩]
    have : rval 16 0 ((form16 n).drop 2) = some n := rval_digs 16 (by omega) (by omega) n hn
    rw [this]
    exact if_pos rfl
  · have hl : (digs 10 n).length ≤ 20 := digs_len (by omega) 19 n (by omega)
    unfold rparseO
    rw [if_neg (by unfold form10; omega), if_neg (fun h => by
      have h2 : (120 : UInt8) ∈ (form10 n).take 2 := by rw [h.2]; simp
      exact no_x n (List.mem_of_mem_take h2))]
    have : rval 10 0 (form10 n) = some n := rval_digs 10 (by omega) (by omega) n hn
    rw [this]
    exact if_pos rfl

theorem parse_same (s : List UInt8) : rparseO s = parseO s := by
  cases h : parseO s with
  | some m =>
    obtain ⟨n, rfl, hf⟩ := parse_sound h
    exact rparse_whole hf
  | none =>
    cases h' : rparseO s with
    | none => rfl
    | some m =>
      obtain ⟨n, rfl, hf⟩ := rparse_sound h'
      rw [parse_whole hf] at h
      cases h

end Go.Proofs.YtmgohahjocdeeaaDoor
