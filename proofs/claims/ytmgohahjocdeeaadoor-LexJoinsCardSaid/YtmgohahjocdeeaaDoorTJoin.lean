/-
  Layer 6 (lex): joined texts and texts one behind the other, as plain mathematics. By the verifier.
-/
import Derived.Test.YtmgohahjocdeeaaDoorTMath
set_option linter.unusedVariables false
namespace Go.Proofs.YtmgohahjocdeeaaDoor

theorem takeWhile_app {p : Nat → Bool} {z : Nat} (hz : p z = false) (l b : List Nat) : (l ++ z :: b).takeWhile p = l.takeWhile p := by
  induction l with
  | nil => rw [List.nil_append, List.takeWhile_cons, hz]; rfl
  | cons x r ih =>
    rw [List.cons_append, List.takeWhile_cons, List.takeWhile_cons, ih]

theorem takeWhile_self (p : Nat → Bool) (l : List Nat) : (l.takeWhile p).takeWhile p = l.takeWhile p := by
  induction l with
  | nil => rfl
  | cons x r ih =>
    by_cases h : p x = true
    · rw [List.takeWhile_cons, if_pos h, List.takeWhile_cons, if_pos h, ih]
    · rw [List.takeWhile_cons, if_neg h, List.takeWhile_nil]

theorem body_app (s : List Nat) : ∀ (l n r : List Nat), body l = some (n, r) → body (l ++ s) = some (n, r ++ s)
  | [], n, r, h => by simp [body] at h
  | [b], n, r, h => by
    simp only [body] at h
    split at h
    · rename_i hb
      simp only [Option.some.injEq, Prod.mk.injEq] at h
      obtain ⟨rfl, rfl⟩ := h
      subst hb
      exact body_quote s
    · cases h
  | b :: c :: t, n, r, h => by
    rw [body] at h
    show body (b :: c :: (t ++ s)) = _
    rw [body]
    split at h
    · rename_i hb
      rw [if_pos hb]
      simp only [Option.some.injEq, Prod.mk.injEq] at h
      obtain ⟨rfl, rfl⟩ := h
      rfl
    · rename_i hb
      rw [if_neg hb]
      split at h
      · rename_i h92
        rw [if_pos h92]
        split at h
        · rename_i he
          rw [if_pos he]
          rw [Option.map_eq_some_iff] at h
          obtain ⟨⟨n1, r1⟩, h1, h2⟩ := h
          simp only [Prod.mk.injEq] at h2
          rw [body_app s t n1 r1 h1, ← h2.1, ← h2.2]
          rfl
        · cases h
      · rename_i h92
        rw [if_neg h92]
        rw [Option.map_eq_some_iff] at h
        obtain ⟨⟨n1, r1⟩, h1, h2⟩ := h
        simp only [Prod.mk.injEq] at h2
        have h3 := body_app s (c :: t) n1 r1 h1
        rw [List.cons_append] at h3
        rw [h3, ← h2.1, ← h2.2]
        rfl

/-- What is read is the same whatever follows, behind a byte that belongs to no token. -/
theorem read_app {nv : List Nat → Option Int} {l : List Nat} {z : Nat} (hz : alnumB z = false) (b : List Nat) (h0 : l ≠ []) (hc : (readL nv l).code = 0) : readL nv (l ++ z :: b) = readL nv l := by
  have hl : letterB z = false := by
    unfold alnumB at hz
    exact (Bool.or_eq_false_iff.1 hz).2
  cases l with
  | nil => exact absurd rfl h0
  | cons x r =>
    have t1 : (x :: (r ++ z :: b)).takeWhile letterB = (x :: r).takeWhile letterB := takeWhile_app hl (x :: r) b
    have t2 : (x :: (r ++ z :: b)).takeWhile alnumB = (x :: r).takeWhile alnumB := takeWhile_app hz (x :: r) b
    rw [List.cons_append, read_cons, read_cons, t1, t2]
    rw [read_cons] at hc
    by_cases h1 : letterB x = true
    · rw [if_pos h1, if_pos h1]
    · rw [if_neg h1] at hc
      rw [if_neg h1, if_neg h1]
      by_cases h2 : digitB x = true
      · rw [if_pos h2, if_pos h2]
      · rw [if_neg h2] at hc
        rw [if_neg h2, if_neg h2]
        by_cases h3 : x = 34
        · rw [if_pos h3] at hc
          rw [if_pos h3, if_pos h3]
          cases hb : body r with
          | none => rw [hb] at hc; cases hc
          | some q =>
            obtain ⟨n, s⟩ := q
            rw [body_app (z :: b) r n s hb]
            unfold readQ
            have e : (r ++ z :: b).length + 1 - (s ++ z :: b).length = r.length + 1 - s.length := by simp only [List.length_append]; omega
            simp only [e]
        · rw [if_neg h3, if_neg h3]

theorem skip_app {c : Bool} {l : List Nat} (s : List Nat) (h : skipL c l < l.length) : skipL c (l ++ s) = skipL c l := by
  induction l generalizing c with
  | nil => simp at h
  | cons x r ih =>
    rw [List.cons_append, skip_cons, skip_cons]
    rw [skip_cons] at h
    split
    · rfl
    · rename_i hn
      rw [if_neg hn] at h
      rw [ih (by simp only [List.length_cons] at h; omega)]

theorem skip_all {c : Bool} {l : List Nat} (b : List Nat) (h : skipL c l = l.length) : skipL c (l ++ 10 :: b) = l.length + 1 + skipL false b := by
  induction l generalizing c with
  | nil => rw [List.nil_append, skip_line, List.length_nil]
  | cons x r ih =>
    rw [List.cons_append, skip_cons]
    rw [skip_cons] at h
    split
    · rename_i hn
      rw [if_pos hn] at h
      simp at h
    · rename_i hn
      rw [if_neg hn] at h
      rw [ih (by simp only [List.length_cons] at h; omega)]
      simp only [List.length_cons]
      omega

/-- Spacing in front moves the tokens. -/
theorem toks_skip (nv : List Nat → Option Int) {u b : List Nat} (h : skipL false (u ++ b) = u.length + skipL false b) (f : Nat) (p : Nat × Nat) : toks nv f (u ++ b) p = toks nv f b (adv p u) := by
  cases f with
  | zero => rfl
  | succ f =>
    have hd : ∀ n, (u ++ b).drop (u.length + n) = b.drop n := fun n => by rw [← List.drop_drop, List.drop_left]
    have ht : ∀ n, adv p ((u ++ b).take (u.length + n)) = adv (adv p u) (b.take n) := fun n => by rw [List.take_length_add_append, adv_append]
    rw [toks, toks, h]
    simp only [Nat.add_assoc, hd, ht]

theorem toks_fuel (nv : List Nat → Option Int) : ∀ (f g : Nat) (r : List Nat) (p : Nat × Nat), r.length < f → r.length < g → toks nv f r p = toks nv g r p
  | 0, g, r, p, h, _ => absurd h (by omega)
  | f + 1, 0, r, p, _, h => absurd h (by omega)
  | f + 1, g + 1, r, p, hf, hg => by
    rw [toks, toks]
    by_cases hc : (readL nv (r.drop (skipL false r))).code ≠ 0
    · rw [if_pos hc, if_pos hc]
    · rw [if_neg hc, if_neg hc]
      by_cases hk : (readL nv (r.drop (skipL false r))).kind = 0
      · rw [if_pos hk, if_pos hk]
      · rw [if_neg hk, if_neg hk]
        have h1 := (read_len nv (r.drop (skipL false r))).2.1 hk
        have h2 := (read_len nv (r.drop (skipL false r))).1
        rw [List.length_drop] at h2
        rw [toks_fuel nv f g _ _ (by rw [List.length_drop]; omega) (by rw [List.length_drop]; omega)]

theorem toks_len (nv : List Nat → Option Int) : ∀ (f : Nat) (r : List Nat) (p : Nat × Nat), (toks nv f r p).1.length ≤ r.length + 1
  | 0, r, p => by rw [toks]; simp
  | f + 1, r, p => by
    rw [toks]
    split
    · simp
    · split
      · simp
      · rename_i hk
        have h1 := (read_len nv (r.drop (skipL false r))).2.1 hk
        have h2 := (read_len nv (r.drop (skipL false r))).1
        have h3 := toks_len nv f (r.drop (skipL false r + (readL nv (r.drop (skipL false r))).len)) (adv p (r.take (skipL false r + (readL nv (r.drop (skipL false r))).len)))
        rw [List.length_drop] at h2 h3
        simp only [List.length_cons]
        omega

def shiftT (n : Nat) (t : Tok) : Tok := { t with line := t.line + n }

theorem adv_shift (n : Nat) (l : List Nat) : ∀ p : Nat × Nat, adv (p.1 + n, p.2) l = ((adv p l).1 + n, (adv p l).2) := by
  induction l with
  | nil => intro p; rfl
  | cons x r ih =>
    intro p
    rw [adv_cons, adv_cons]
    have e : stepP (p.1 + n, p.2) x = ((stepP p x).1 + n, (stepP p x).2) := by
      unfold stepP
      split
      · show (p.1 + n + 1, 1) = (p.1 + 1 + n, 1)
        rw [show p.1 + n + 1 = p.1 + 1 + n by omega]
      · rfl
    rw [e, ih]

theorem toks_shift (nv : List Nat → Option Int) (n : Nat) : ∀ (f : Nat) (r : List Nat) (p : Nat × Nat), (toks nv f r p).2 = none → toks nv f r (p.1 + n, p.2) = ((toks nv f r p).1.map (shiftT n), none)
  | 0, r, p, _ => by rw [toks, toks]; rfl
  | f + 1, r, p, h => by
    rw [toks] at h ⊢
    rw [toks]
    by_cases hc : (readL nv (r.drop (skipL false r))).code ≠ 0
    · rw [if_pos hc] at h; cases h
    · rw [if_neg hc] at h
      rw [if_neg hc, if_neg hc]
      by_cases hk : (readL nv (r.drop (skipL false r))).kind = 0
      · rw [if_pos hk, if_pos hk, adv_shift]; rfl
      · rw [if_neg hk] at h
        rw [if_neg hk, if_neg hk, adv_shift, adv_shift]
        have ih := toks_shift nv n f _ _ h
        rw [ih]
        rfl

/-- Two texts with a line feed between them. -/
theorem toks_line (nv : List Nat → Option Int) (b : List Nat) : ∀ (f : Nat) (r : List Nat) (p : Nat × Nat), r.length < f → (toks nv f r p).2 = none →
    ∀ g, (r ++ 10 :: b).length < g → toks nv g (r ++ 10 :: b) p = ((toks nv f r p).1.dropLast ++ (toks nv (b.length + 1) b (adv p (r ++ [10]))).1, (toks nv (b.length + 1) b (adv p (r ++ [10]))).2)
  | 0, r, p, h, _, _, _ => absurd h (by omega)
  | f + 1, r, p, hf, h, 0, hg => absurd hg (by omega)
  | f + 1, r, p, hf, h, g + 1, hg => by
    obtain ⟨s, hs⟩ : ∃ s, s = skipL false r := ⟨_, rfl⟩
    obtain ⟨R, hR⟩ : ∃ R, R = readL nv (r.drop s) := ⟨_, rfl⟩
    have hc : R.code = 0 := by
      rcases Nat.eq_zero_or_pos R.code with hc | hc
      · exact hc
      · rw [toks_fault f p hs hR (by omega)] at h; cases h
    have hsl : s ≤ r.length := by rw [hs]; exact skip_len _ _
    have hlen := read_len nv (r.drop s)
    rw [← hR] at hlen
    by_cases hk : R.kind = 0
    · have hnil := hlen.2.2 hk hc
      have hsr : s = r.length := by
        have := congrArg List.length hnil
        rw [List.length_drop, List.length_nil] at this
        omega
      rw [toks_end f p hs hR hc hk]
      have he : r ++ 10 :: b = (r ++ [10]) ++ b := by simp
      have hsk : skipL false ((r ++ [10]) ++ b) = (r ++ [10]).length + skipL false b := by
        rw [← he, skip_all b (by rw [← hs]; exact hsr), List.length_append]
        rfl
      rw [he, toks_skip nv hsk, toks_fuel nv (g + 1) (b.length + 1) b _ (by simp only [List.length_append, List.length_cons] at hg; omega) (by omega)]
      rfl
    · have hlt : s < r.length := by
        rcases Nat.lt_or_ge s r.length with h1 | h1
        · exact h1
        · have h2 := hlen.1
          have h3 := hlen.2.1 hk
          rw [List.length_drop] at h2
          omega
      have hne : r.drop s ≠ [] := fun e => by
        have := congrArg List.length e
        rw [List.length_drop, List.length_nil] at this
        omega
      have hs2 : s = skipL false (r ++ 10 :: b) := by rw [skip_app _ (by rw [← hs]; exact hlt)]; exact hs
      have hR2 : R = readL nv ((r ++ 10 :: b).drop s) := by
        rw [List.drop_append_of_le_length hsl, read_app rfl b hne (by rw [← hR]; exact hc)]
        exact hR
      have hl1 := hlen.1
      have hl2 := hlen.2.1 hk
      rw [List.length_drop] at hl1
      rw [toks_more f p hs hR hc hk] at h ⊢
      rw [toks_more g p hs2 hR2 hc hk]
      have hd : (r ++ 10 :: b).drop (s + R.len) = r.drop (s + R.len) ++ 10 :: b := List.drop_append_of_le_length (by omega)
      have ht1 : (r ++ 10 :: b).take s = r.take s := List.take_append_of_le_length hsl
      have ht2 : (r ++ 10 :: b).take (s + R.len) = r.take (s + R.len) := List.take_append_of_le_length (by omega)
      have hq : adv (adv p (r.take (s + R.len))) (r.drop (s + R.len) ++ [10]) = adv p (r ++ [10]) := by
        rw [← adv_append, ← List.append_assoc, List.take_append_drop]
      have ih := toks_line nv b f (r.drop (s + R.len)) (adv p (r.take (s + R.len))) (by rw [List.length_drop]; omega) h g (by simp only [List.length_append, List.length_cons, List.length_drop] at hg ⊢; omega)
      rw [hd, ht1, ht2, ih, hq]
      have hnn : (toks nv f (r.drop (s + R.len)) (adv p (r.take (s + R.len)))).1 ≠ [] := by
        cases f with
        | zero => omega
        | succ f =>
          intro e
          rw [toks] at e h
          split at e
          · rename_i hx
            rw [if_pos hx] at h
            cases h
          · split at e
            · cases e
            · cases e
      show (_ :: (_ ++ _), _) = (List.dropLast (_ :: _) ++ _, _)
      rw [List.dropLast_cons_of_ne_nil hnn]
      rfl

/-- A token's bytes. -/
def tokB (t : Tok) : List Nat := if t.kind = 3 then quoteV t.text else t.text

/-- A token that is read from its bytes. -/
structure TokOk (nv : List Nat → Option Int) (t : Tok) : Prop where
  ne : tokB t ≠ []
  kind : t.kind ≠ 0
  read : readL nv (tokB t) = ⟨0, t.kind, t.text, t.val, (tokB t).length⟩
  head : skipL false (tokB t) = 0

theorem skip_first {l : List Nat} {x : Nat} {r : List Nat} (h : l = x :: r) (h1 : noteB false x = false) (h2 : blankB x = false) : skipL false l = 0 := by
  rw [h]; exact skip_stop r h1 h2

theorem read_tok {nv : List Nat → Option Int} {l : List Nat} {R : Rd} (hR : R = readL nv l) (hc : R.code = 0) (hk : R.kind ≠ 0) (hh : ∀ x r, l = x :: r → noteB false x = false ∧ blankB x = false) (a b : Nat) :
    TokOk nv ⟨R.kind, R.text, R.val, a, b⟩ ∧ (tokB ⟨R.kind, R.text, R.val, a, b⟩).length ≤ R.len + 62 := by
  cases l with
  | nil => rw [hR] at hk; exact absurd rfl hk
  | cons x r =>
    obtain ⟨hn, hb⟩ := hh x r rfl
    rw [read_cons] at hR
    by_cases h1 : letterB x = true
    · rw [if_pos h1] at hR
      subst hR
      have e : (x :: r).takeWhile letterB = x :: r.takeWhile letterB := by rw [List.takeWhile_cons, if_pos h1]
      have et : tokB ⟨1, (x :: r).takeWhile letterB, 0, a, b⟩ = (x :: r).takeWhile letterB := if_neg (show ¬ ((1 : Nat) = 3) by decide)
      refine ⟨⟨?_, hk, ?_, ?_⟩, ?_⟩
      · show tokB ⟨1, (x :: r).takeWhile letterB, 0, a, b⟩ ≠ []
        rw [et, e]; simp
      · show readL nv (tokB ⟨1, (x :: r).takeWhile letterB, 0, a, b⟩) = ⟨0, 1, (x :: r).takeWhile letterB, 0, (tokB ⟨1, (x :: r).takeWhile letterB, 0, a, b⟩).length⟩
        rw [et]
        have e2 := takeWhile_self letterB (x :: r)
        rw [e] at e2 ⊢
        rw [read_cons]
        rw [if_pos h1, e2]
      · show skipL false (tokB ⟨1, (x :: r).takeWhile letterB, 0, a, b⟩) = 0
        rw [et]; exact skip_first e hn hb
      · show (tokB ⟨1, (x :: r).takeWhile letterB, 0, a, b⟩).length ≤ _
        rw [et]; exact Nat.le_add_right _ _
    · rw [if_neg h1] at hR
      by_cases h2 : digitB x = true
      · rw [if_pos h2] at hR
        have ha : alnumB x = true := by unfold alnumB; rw [h2]; rfl
        have e : (x :: r).takeWhile alnumB = x :: r.takeWhile alnumB := by rw [List.takeWhile_cons, if_pos ha]
        cases hv : nv ((x :: r).takeWhile alnumB) with
        | none => rw [hv] at hR; subst hR; exact absurd rfl hk
        | some v =>
          rw [hv] at hR
          subst hR
          have et : tokB ⟨2, (x :: r).takeWhile alnumB, v, a, b⟩ = (x :: r).takeWhile alnumB := if_neg (show ¬ ((2 : Nat) = 3) by decide)
          refine ⟨⟨?_, hk, ?_, ?_⟩, ?_⟩
          · show tokB ⟨2, (x :: r).takeWhile alnumB, v, a, b⟩ ≠ []
            rw [et, e]; simp
          · show readL nv (tokB ⟨2, (x :: r).takeWhile alnumB, v, a, b⟩) = ⟨0, 2, (x :: r).takeWhile alnumB, v, (tokB ⟨2, (x :: r).takeWhile alnumB, v, a, b⟩).length⟩
            rw [et]
            have e2 := takeWhile_self alnumB (x :: r)
            rw [e] at e2 hv ⊢
            rw [read_cons]
            rw [if_neg h1, if_pos h2, e2, hv]
            rfl
          · show skipL false (tokB ⟨2, (x :: r).takeWhile alnumB, v, a, b⟩) = 0
            rw [et]; exact skip_first e hn hb
          · show (tokB ⟨2, (x :: r).takeWhile alnumB, v, a, b⟩).length ≤ _
            rw [et]; exact Nat.le_add_right _ _
      · rw [if_neg h2] at hR
        by_cases h3 : x = 34
        · rw [if_pos h3] at hR
          subst h3
          cases hb' : body r with
          | none => rw [hb'] at hR; subst hR; exact absurd rfl hk
          | some q =>
            obtain ⟨n, s⟩ := q
            rw [hb'] at hR
            unfold readQ at hR
            by_cases hnm : nameB n = true
            · simp only [hnm, if_true] at hR
              subst hR
              have et : tokB ⟨3, n, 0, a, b⟩ = 34 :: (esc n ++ [34]) := by
                unfold tokB quoteV
                rw [if_pos rfl, if_pos hnm]
                rfl
              have hnl : n.length ≤ 30 := ((nameB_iff n).1 hnm).2.1
              refine ⟨⟨?_, hk, ?_, ?_⟩, ?_⟩
              · show tokB ⟨3, n, 0, a, b⟩ ≠ []
                rw [et]; simp
              · show readL nv (tokB ⟨3, n, 0, a, b⟩) = ⟨0, 3, n, 0, (tokB ⟨3, n, 0, a, b⟩).length⟩
                rw [et]
                rw [read_cons]
                rw [if_neg h1, if_neg h2, if_pos rfl, body_quoted n []]
                unfold readQ
                simp only [hnm, if_true, List.length_nil, Nat.sub_zero]
                rfl
              · show skipL false (tokB ⟨3, n, 0, a, b⟩) = 0
                rw [et]; exact skip_first rfl rfl rfl
              · show (tokB ⟨3, n, 0, a, b⟩).length ≤ _
                rw [et]
                have := (esc_len n).2
                simp only [List.length_cons, List.length_append, List.length_nil]
                omega
            · simp only [hnm] at hR
              subst hR
              exact absurd rfl hk
        · rw [if_neg h3] at hR
          by_cases h4 : signB x = true
          · rw [if_pos h4] at hR
            subst hR
            have et : tokB ⟨4, [x], 0, a, b⟩ = [x] := if_neg (show ¬ ((4 : Nat) = 3) by decide)
            refine ⟨⟨?_, hk, ?_, ?_⟩, ?_⟩
            · show tokB ⟨4, [x], 0, a, b⟩ ≠ []
              rw [et]; simp
            · show readL nv (tokB ⟨4, [x], 0, a, b⟩) = ⟨0, 4, [x], 0, (tokB ⟨4, [x], 0, a, b⟩).length⟩
              rw [et]
              rw [read_cons]
              rw [if_neg h1, if_neg h2, if_neg h3, if_pos h4]
              rfl
            · show skipL false (tokB ⟨4, [x], 0, a, b⟩) = 0
              rw [et]; exact skip_first rfl hn hb
            · show (tokB ⟨4, [x], 0, a, b⟩).length ≤ _
              rw [et]; simp
          · rw [if_neg h4] at hR
            subst hR
            exact absurd rfl hk

def joinL : List (List Nat) → List Nat
  | [] => []
  | [x] => x
  | x :: y :: r => x ++ 32 :: joinL (y :: r)

theorem joinL_cons {x : List Nat} {r : List (List Nat)} (h : r ≠ []) : joinL (x :: r) = x ++ 32 :: joinL r := by
  cases r with
  | nil => exact absurd rfl h
  | cons y r => rfl

def endT (a b : Nat) : Tok := ⟨0, [], 0, a, b⟩

/-- The tokens of a text: tokens that are read from their bytes, then the end. -/
theorem toks_ok (nv : List Nat → Option Int) : ∀ (f : Nat) (r : List Nat) (p : Nat × Nat), r.length < f → (toks nv f r p).2 = none →
    ∃ vs a b, (toks nv f r p).1 = vs ++ [endT a b] ∧ (∀ t ∈ vs, TokOk nv t) ∧ (joinL ((vs ++ [endT a b]).map tokB)).length ≤ r.length + 63 * vs.length
  | 0, r, p, h, _ => absurd h (by omega)
  | f + 1, r, p, hf, h => by
    obtain ⟨s, hs⟩ : ∃ s, s = skipL false r := ⟨_, rfl⟩
    obtain ⟨R, hR⟩ : ∃ R, R = readL nv (r.drop s) := ⟨_, rfl⟩
    have hc : R.code = 0 := by
      rcases Nat.eq_zero_or_pos R.code with hc | hc
      · exact hc
      · rw [toks_fault f p hs hR (by omega)] at h; cases h
    by_cases hk : R.kind = 0
    · rw [toks_end f p hs hR hc hk]
      exact ⟨[], _, _, rfl, (fun t ht => by cases ht), Nat.zero_le _⟩
    · have hlen := read_len nv (r.drop s)
      rw [← hR] at hlen
      have h1 := hlen.2.1 hk
      have h2 := hlen.1
      rw [List.length_drop] at h2
      rw [toks_more f p hs hR hc hk] at h ⊢
      obtain ⟨vs, a, b, e, hv, hj⟩ := toks_ok nv f (r.drop (s + R.len)) (adv p (r.take (s + R.len))) (by rw [List.length_drop]; omega) h
      obtain ⟨k1, k2⟩ := read_tok hR hc hk (fun x t hx => skip_head false r x t (by rw [← hs]; exact hx)) (adv p (r.take s)).1 (adv p (r.take s)).2
      refine ⟨⟨R.kind, R.text, R.val, (adv p (r.take s)).1, (adv p (r.take s)).2⟩ :: vs, a, b, by rw [e]; rfl, fun t ht => ?_, ?_⟩
      · rcases List.mem_cons.1 ht with rfl | ht
        · exact k1
        · exact hv t ht
      · rw [List.cons_append, List.map_cons, joinL_cons (by simp), List.length_append, List.length_cons]
        rw [List.length_drop] at hj
        simp only [List.length_cons]
        omega

def sameTok (t u : Tok) : Prop := t.kind = u.kind ∧ t.text = u.text ∧ t.val = u.val

/-- The tokens of a joined text. -/
theorem toks_join (nv : List Nat → Option Int) (a b : Nat) : ∀ (vs : List Tok) (f : Nat) (p : Nat × Nat), (∀ t ∈ vs, TokOk nv t) → vs.length < f →
    ∃ us, toks nv f (joinL ((vs ++ [endT a b]).map tokB)) p = (us, none) ∧ us.length = vs.length + 1 ∧ ∀ i (h1 : i < us.length) (h2 : i < (vs ++ [endT a b]).length), sameTok us[i] (vs ++ [endT a b])[i]
  | [], 0, p, _, h => absurd h (by simp)
  | [], f + 1, p, _, _ => by
    refine ⟨[⟨0, [], 0, p.1, p.2⟩], ?_, rfl, fun i h1 h2 => ?_⟩
    · exact toks_end (nv := nv) (r := []) (s := 0) (R := ⟨0, 0, [], 0, 0⟩) f p rfl rfl rfl rfl
    · obtain rfl : i = 0 := by simp at h1; omega
      exact ⟨rfl, rfl, rfl⟩
  | v :: vs, 0, p, _, h => absurd h (by simp)
  | v :: vs, f + 1, p, hv, hf => by
    have hok := hv v (List.mem_cons_self ..)
    have e : joinL ((v :: vs ++ [endT a b]).map tokB) = tokB v ++ 32 :: joinL ((vs ++ [endT a b]).map tokB) := by
      rw [List.cons_append, List.map_cons, joinL_cons (by simp)]
    rw [e]
    obtain ⟨J, hJ⟩ : ∃ J, J = joinL ((vs ++ [endT a b]).map tokB) := ⟨_, rfl⟩
    rw [← hJ]
    have hlt : skipL false (tokB v) < (tokB v).length := by
      rw [hok.head]
      exact List.length_pos_iff.2 hok.ne
    have hs : 0 = skipL false (tokB v ++ 32 :: J) := by rw [skip_app _ hlt, hok.head]
    have hR : (⟨0, v.kind, v.text, v.val, (tokB v).length⟩ : Rd) = readL nv ((tokB v ++ 32 :: J).drop 0) := by
      rw [List.drop_zero, read_app rfl J hok.ne (by rw [hok.read]), hok.read]
    rw [toks_more f p hs hR rfl hok.kind]
    have hd : (tokB v ++ 32 :: J).drop (0 + (tokB v).length) = 32 :: J := by rw [Nat.zero_add, List.drop_left]
    have hsk : skipL false ([32] ++ J) = [32].length + skipL false J := skip_go J (Or.inr rfl)
    have ih := toks_join nv a b vs f (adv (adv p ((tokB v ++ 32 :: J).take (0 + (tokB v).length))) [32]) (fun t ht => hv t (List.mem_cons_of_mem _ ht)) (by simp only [List.length_cons] at hf; omega)
    rw [← hJ] at ih
    obtain ⟨us, h1, h2, h3⟩ := ih
    have h4 : toks nv f (32 :: J) (adv p ((tokB v ++ 32 :: J).take (0 + (tokB v).length))) = (us, none) := by
      rw [← h1]
      exact toks_skip nv hsk f _
    show ∃ us', ((⟨v.kind, v.text, v.val, _, _⟩ : Tok) :: (toks nv f ((tokB v ++ 32 :: J).drop (0 + (tokB v).length)) _).1, (toks nv f ((tokB v ++ 32 :: J).drop (0 + (tokB v).length)) _).2) = (us', none) ∧ _
    rw [hd, h4]
    refine ⟨_, rfl, by simp [h2], fun i h5 h6 => ?_⟩
    cases i with
    | zero => exact ⟨rfl, rfl, rfl⟩
    | succ i => exact h3 i _ _

end Go.Proofs.YtmgohahjocdeeaaDoor
