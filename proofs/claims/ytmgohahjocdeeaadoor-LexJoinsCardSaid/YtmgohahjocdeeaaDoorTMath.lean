/-
  Layer 6 (lex): places, spacing and tokens, as plain mathematics on lists of bytes. By the verifier.
-/
import Derived.Test.YtmgohahjocdeeaaDoorNMath
set_option linter.unusedVariables false
namespace Go.Proofs.YtmgohahjocdeeaaDoor

/-- The place behind a byte. -/
def stepP (p : Nat × Nat) (x : Nat) : Nat × Nat := if x = 10 then (p.1 + 1, 1) else (p.1, p.2 + 1)
/-- The place behind some bytes. -/
def adv (p : Nat × Nat) (l : List Nat) : Nat × Nat := l.foldl stepP p
/-- The place of an offset. -/
def placeV (l : List Nat) (k : Nat) : Nat × Nat := adv (1, 1) (l.take k)

theorem adv_nil (p : Nat × Nat) : adv p [] = p := rfl
theorem adv_cons (p : Nat × Nat) (x : Nat) (l : List Nat) : adv p (x :: l) = adv (stepP p x) l := rfl
theorem adv_append (p : Nat × Nat) (l m : List Nat) : adv p (l ++ m) = adv (adv p l) m := List.foldl_append ..
theorem adv_one (p : Nat × Nat) (x : Nat) : adv p [x] = stepP p x := rfl

theorem take_snoc {l : List Nat} {k : Nat} (h : k < l.length) : l.take (k + 1) = l.take k ++ [l.getD k 0] := by
  rw [List.take_succ_eq_append_getElem h]
  simp [List.getD, h]
theorem placeV_zero (l : List Nat) : placeV l 0 = (1, 1) := rfl
theorem placeV_step {l : List Nat} {k : Nat} (h : k < l.length) : placeV l (k + 1) = stepP (placeV l k) (l.getD k 0) := by
  unfold placeV
  rw [take_snoc h, adv_append, adv_one]
theorem placeV_add (l : List Nat) (k n : Nat) : placeV l (k + n) = adv (placeV l k) ((l.drop k).take n) := by
  unfold placeV
  rw [List.take_add, adv_append]
theorem stepP_nl (p : Nat × Nat) : stepP p 10 = (p.1 + 1, 1) := rfl
theorem stepP_no {x : Nat} (p : Nat × Nat) (h : x ≠ 10) : stepP p x = (p.1, p.2 + 1) := if_neg h
theorem placeV_bound (l : List Nat) (k : Nat) : 1 ≤ (placeV l k).1 ∧ (placeV l k).1 ≤ 1 + k ∧ 1 ≤ (placeV l k).2 ∧ (placeV l k).2 ≤ 1 + k := by
  induction k with
  | zero => exact ⟨Nat.le_refl _, Nat.le_refl _, Nat.le_refl _, Nat.le_refl _⟩
  | succ k ih =>
    by_cases h : k < l.length
    · rw [placeV_step h]
      by_cases hx : l.getD k 0 = 10
      · rw [hx, stepP_nl]; exact ⟨by omega, by omega, by omega, by omega⟩
      · rw [stepP_no _ hx]; exact ⟨by omega, by omega, by omega, by omega⟩
    · have e : placeV l (k + 1) = placeV l k := by
        unfold placeV
        rw [List.take_of_length_le (by omega), List.take_of_length_le (by omega)]
      rw [e]
      omega

def letterB (x : Nat) : Bool := decide (97 ≤ x) && decide (x ≤ 122)
def digitB (x : Nat) : Bool := decide (48 ≤ x) && decide (x ≤ 57)
def alnumB (x : Nat) : Bool := digitB x || letterB x
def blankB (x : Nat) : Bool := decide (x = 32) || (decide (x = 9) || (decide (x = 13) || decide (x = 10)))
def signB (x : Nat) : Bool := decide (x = 123) || (decide (x = 125) || (decide (x = 59) || decide (x = 44)))

/-- Behind a byte: does a comment go on? -/
def noteB (c : Bool) (x : Nat) : Bool := if x = 10 then false else if x = 35 then true else c
/-- How many bytes of spacing there are, from within a comment or not. -/
def skipL : Bool → List Nat → Nat
  | _, [] => 0
  | c, x :: r => if !noteB c x && !blankB x then 0 else 1 + skipL (noteB c x) r

theorem skip_nil (c : Bool) : skipL c [] = 0 := by cases c <;> rfl
theorem skip_cons (c : Bool) (x : Nat) (r : List Nat) : skipL c (x :: r) = if !noteB c x && !blankB x then 0 else 1 + skipL (noteB c x) r := by cases c <;> rfl
theorem skip_len (c : Bool) (l : List Nat) : skipL c l ≤ l.length := by
  induction l generalizing c with
  | nil => rw [skip_nil]; exact Nat.le_refl _
  | cons x r ih =>
    rw [skip_cons]
    have := ih (noteB c x)
    split
    · omega
    · simp only [List.length_cons]; omega
theorem skip_stop {c : Bool} {x : Nat} (r : List Nat) (h1 : noteB c x = false) (h2 : blankB x = false) : skipL c (x :: r) = 0 := by rw [skip_cons, h1, h2]; rfl
theorem skip_go {c : Bool} {x : Nat} (r : List Nat) (h : noteB c x = true ∨ blankB x = true) : skipL c (x :: r) = 1 + skipL (noteB c x) r := by
  rw [skip_cons]
  rcases h with h | h
  · rw [h]; rfl
  · rw [h]; cases noteB c x <;> rfl
theorem skip_line (r : List Nat) (c : Bool) : skipL c (10 :: r) = 1 + skipL false r := by
  rw [skip_go r (Or.inr rfl)]
  rfl
theorem skip_note {x : Nat} (r : List Nat) (h : x ≠ 10) : skipL true (x :: r) = 1 + skipL true r := by
  have e : noteB true x = true := by unfold noteB; rw [if_neg h]; split <;> rfl
  rw [skip_go r (Or.inl e), e]
theorem skip_hash (r : List Nat) : skipL false (35 :: r) = skipL true (35 :: r) := rfl
/-- Behind spacing there is no spacing. -/
theorem skip_head (c : Bool) (l : List Nat) (x : Nat) (r : List Nat) (h : l.drop (skipL c l) = x :: r) : noteB false x = false ∧ blankB x = false := by
  induction l generalizing c with
  | nil => simp at h
  | cons y l ih =>
    rw [skip_cons] at h
    split at h
    · rename_i hs
      simp only [List.drop_zero, List.cons.injEq] at h
      obtain ⟨rfl, rfl⟩ := h
      simp only [Bool.and_eq_true, Bool.not_eq_true'] at hs
      refine ⟨?_, hs.2⟩
      have h1 := hs.1
      unfold noteB at h1 ⊢
      split at h1
      · rename_i e; rw [if_pos e]
      · rename_i e
        rw [if_neg e]
        split at h1
        · cases h1
        · rename_i e2; rw [if_neg e2]
    · rw [Nat.add_comm, List.drop_succ_cons] at h
      exact ih _ h

/-- What is read behind spacing: a code, or a token's kind, text and number, and how many bytes it takes. -/
structure Rd where
  code : Nat
  kind : Nat
  text : List Nat
  val : Int
  len : Nat

/-- Behind a quotation mark. -/
def readQ (n : Nat) : Option (List Nat × List Nat) → Rd
  | some (t, s) => if nameB t then ⟨0, 3, t, 0, n - s.length⟩ else ⟨6, 0, [], 0, 0⟩
  | none => ⟨6, 0, [], 0, 0⟩
def readN (t : List Nat) : Option Int → Rd
  | some v => ⟨0, 2, t, v, t.length⟩
  | none => ⟨5, 0, [], 0, 0⟩

def readL (nv : List Nat → Option Int) : List Nat → Rd
  | [] => ⟨0, 0, [], 0, 0⟩
  | x :: r =>
    if letterB x then ⟨0, 1, (x :: r).takeWhile letterB, 0, ((x :: r).takeWhile letterB).length⟩
    else if digitB x then readN ((x :: r).takeWhile alnumB) (nv ((x :: r).takeWhile alnumB))
    else if x = 34 then readQ (r.length + 1) (body r)
    else if signB x then ⟨0, 4, [x], 0, 1⟩
    else ⟨3, 0, [], 0, 0⟩

theorem read_cons (nv : List Nat → Option Int) (x : Nat) (r : List Nat) : readL nv (x :: r) =
    if letterB x then ⟨0, 1, (x :: r).takeWhile letterB, 0, ((x :: r).takeWhile letterB).length⟩
    else if digitB x then readN ((x :: r).takeWhile alnumB) (nv ((x :: r).takeWhile alnumB))
    else if x = 34 then readQ (r.length + 1) (body r)
    else if signB x then ⟨0, 4, [x], 0, 1⟩
    else ⟨3, 0, [], 0, 0⟩ := rfl

structure Tok where
  kind : Nat
  text : List Nat
  val : Int
  line : Nat
  col : Nat

/-- The tokens from a place on, and the fault that ends them. -/
def toks (nv : List Nat → Option Int) : Nat → List Nat → Nat × Nat → List Tok × Option (Nat × Nat × Nat)
  | 0, _, _ => ([], none)
  | f + 1, r, p =>
    if (readL nv (r.drop (skipL false r))).code ≠ 0 then ([], some ((readL nv (r.drop (skipL false r))).code, (adv p (r.take (skipL false r))).1, (adv p (r.take (skipL false r))).2))
    else if (readL nv (r.drop (skipL false r))).kind = 0 then ([⟨0, [], 0, (adv p (r.take (skipL false r))).1, (adv p (r.take (skipL false r))).2⟩], none)
    else
      (⟨(readL nv (r.drop (skipL false r))).kind, (readL nv (r.drop (skipL false r))).text, (readL nv (r.drop (skipL false r))).val, (adv p (r.take (skipL false r))).1, (adv p (r.take (skipL false r))).2⟩
        :: (toks nv f (r.drop (skipL false r + (readL nv (r.drop (skipL false r))).len)) (adv p (r.take (skipL false r + (readL nv (r.drop (skipL false r))).len)))).1,
       (toks nv f (r.drop (skipL false r + (readL nv (r.drop (skipL false r))).len)) (adv p (r.take (skipL false r + (readL nv (r.drop (skipL false r))).len)))).2)

theorem toks_fault {nv : List Nat → Option Int} {r : List Nat} {s : Nat} {R : Rd} (f : Nat) (p : Nat × Nat) (hs : s = skipL false r) (hR : R = readL nv (r.drop s)) (h : R.code ≠ 0) :
    toks nv (f + 1) r p = ([], some (R.code, (adv p (r.take s)).1, (adv p (r.take s)).2)) := by
  subst hs; subst hR
  rw [toks, if_pos h]
theorem toks_end {nv : List Nat → Option Int} {r : List Nat} {s : Nat} {R : Rd} (f : Nat) (p : Nat × Nat) (hs : s = skipL false r) (hR : R = readL nv (r.drop s)) (h : R.code = 0) (hk : R.kind = 0) :
    toks nv (f + 1) r p = ([⟨0, [], 0, (adv p (r.take s)).1, (adv p (r.take s)).2⟩], none) := by
  subst hs; subst hR
  rw [toks, if_neg (by omega), if_pos hk]
theorem toks_more {nv : List Nat → Option Int} {r : List Nat} {s : Nat} {R : Rd} (f : Nat) (p : Nat × Nat) (hs : s = skipL false r) (hR : R = readL nv (r.drop s)) (h : R.code = 0) (hk : R.kind ≠ 0) :
    toks nv (f + 1) r p = (⟨R.kind, R.text, R.val, (adv p (r.take s)).1, (adv p (r.take s)).2⟩ :: (toks nv f (r.drop (s + R.len)) (adv p (r.take (s + R.len)))).1, (toks nv f (r.drop (s + R.len)) (adv p (r.take (s + R.len)))).2) := by
  subst hs; subst hR
  rw [toks, if_neg (by omega), if_neg hk]

theorem takeWhile_len (p : Nat → Bool) (l : List Nat) : (l.takeWhile p).length ≤ l.length := by
  induction l with
  | nil => exact Nat.le_refl _
  | cons x r ih =>
    rw [List.takeWhile_cons]
    split
    · simp only [List.length_cons]; omega
    · simp

theorem body_len : ∀ (l n r : List Nat), body l = some (n, r) → r.length < l.length
  | [], n, r, h => by simp [body] at h
  | [b], n, r, h => by
    simp only [body] at h
    split at h
    · simp only [Option.some.injEq, Prod.mk.injEq] at h
      rw [← h.2]; simp
    · cases h
  | b :: c :: t, n, r, h => by
    rw [body] at h
    split at h
    · simp only [Option.some.injEq, Prod.mk.injEq] at h
      rw [← h.2]; simp
    · split at h
      · split at h
        · rw [Option.map_eq_some_iff] at h
          obtain ⟨⟨n1, r1⟩, h1, h2⟩ := h
          simp only [Prod.mk.injEq] at h2
          have := body_len t n1 r1 h1
          rw [← h2.2]
          simp only [List.length_cons]; omega
        · cases h
      · rw [Option.map_eq_some_iff] at h
        obtain ⟨⟨n1, r1⟩, h1, h2⟩ := h
        simp only [Prod.mk.injEq] at h2
        have := body_len (c :: t) n1 r1 h1
        rw [← h2.2]
        simp only [List.length_cons] at this ⊢; omega

/-- A token takes a byte at least, and no more than there are. -/
theorem read_len (nv : List Nat → Option Int) (l : List Nat) : (readL nv l).len ≤ l.length ∧ ((readL nv l).kind ≠ 0 → 1 ≤ (readL nv l).len) ∧ ((readL nv l).kind = 0 → (readL nv l).code = 0 → l = []) := by
  cases l with
  | nil => exact ⟨Nat.le_refl _, fun h => absurd rfl h, fun _ _ => rfl⟩
  | cons x r =>
    rw [read_cons]
    by_cases h1 : letterB x = true
    · rw [if_pos h1]
      refine ⟨takeWhile_len _ _, fun _ => ?_, fun h => by cases h⟩
      show 1 ≤ ((x :: r).takeWhile letterB).length
      rw [List.takeWhile_cons, if_pos h1]
      simp
    · rw [if_neg h1]
      by_cases h2 : digitB x = true
      · rw [if_pos h2]
        have ha : alnumB x = true := by unfold alnumB; rw [h2]; rfl
        have hl : 1 ≤ ((x :: r).takeWhile alnumB).length := by rw [List.takeWhile_cons, if_pos ha]; simp
        have hm := takeWhile_len alnumB (x :: r)
        generalize (x :: r).takeWhile alnumB = t at *
        unfold readN
        split
        · exact ⟨hm, fun _ => hl, fun h => by cases h⟩
        · exact ⟨Nat.zero_le _, fun h => absurd rfl h, fun _ h => by cases h⟩
      · rw [if_neg h2]
        by_cases h3 : x = 34
        · rw [if_pos h3]
          unfold readQ
          split
          · rename_i t s hb
            have := body_len _ _ _ hb
            split
            · exact ⟨by simp only [List.length_cons]; omega, fun _ => by show 1 ≤ r.length + 1 - s.length; omega, fun h => by cases h⟩
            · exact ⟨Nat.zero_le _, fun h => absurd rfl h, fun _ h => by cases h⟩
          · exact ⟨Nat.zero_le _, fun h => absurd rfl h, fun _ h => by cases h⟩
        · rw [if_neg h3]
          by_cases h4 : signB x = true
          · rw [if_pos h4]; exact ⟨by simp, fun _ => Nat.le_refl _, fun h => by cases h⟩
          · rw [if_neg h4]; exact ⟨Nat.zero_le _, fun h => absurd rfl h, fun _ h => by cases h⟩

/-- The tokens of a text. -/
def tokensV (nv : List Nat → Option Int) (l : List Nat) : List Tok × Option (Nat × Nat × Nat) := toks nv (l.length + 1) l (1, 1)

/-- At an offset: what is read, and where. -/
def atV (l : List Nat) (k : Nat) : Nat := k + skipL false (l.drop k)
theorem atV_le {l : List Nat} {k : Nat} (h : k ≤ l.length) : k ≤ atV l k ∧ atV l k ≤ l.length := by
  have := skip_len false (l.drop k)
  unfold atV
  simp only [List.length_drop] at this
  omega
theorem atV_drop (l : List Nat) (k : Nat) : (l.drop k).drop (skipL false (l.drop k)) = l.drop (atV l k) := by rw [List.drop_drop]; rfl
theorem atV_place (l : List Nat) (k : Nat) : adv (placeV l k) ((l.drop k).take (skipL false (l.drop k))) = placeV l (atV l k) := (placeV_add l k _).symm

end Go.Proofs.YtmgohahjocdeeaaDoor
