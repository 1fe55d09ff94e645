/-
  Layer 4: the state machine that reads a quoted name, as plain mathematics. By the verifier.
-/
import Derived.Test.YtmgohahjocdeeaaDoorNMath
set_option linter.unusedVariables false
namespace Go.Proofs.YtmgohahjocdeeaaDoor

/-- A byte is added to the name, or the machine stops. States: 0 none, 1 inside, 2 behind a backslash. -/
def takeM (o : List Nat) (c : Bool) (x : Nat) : Nat × List Nat × Bool := if nameByte x = true ∧ o.length ≠ 30 then (1, o ++ [x], c) else (0, o, c)
def stepM (st : Nat) (o : List Nat) (c : Bool) (x : Nat) : Nat × List Nat × Bool :=
  if st = 1 then (if x = 34 then (0, o, true) else if x = 92 then (2, o, c) else takeM o c x)
  else (if escB x = true then takeM o c x else (0, o, c))
/-- The machine's run: how many bytes it takes, the name, whether it was closed. -/
def runM (st : Nat) (o : List Nat) (c : Bool) (n : Nat) : List Nat → Nat × List Nat × Bool
  | [] => (n, o, c)
  | x :: r => if st = 0 then (n, o, c) else runM (stepM st o c x).1 (stepM st o c x).2.1 (stepM st o c x).2.2 (n + 1) r

theorem runM_stop (o : List Nat) (c : Bool) (n : Nat) (m : List Nat) : runM 0 o c n m = (n, o, c) := by
  cases m <;> simp [runM]
theorem runM_end (st : Nat) (o : List Nat) (c : Bool) (n : Nat) : runM st o c n [] = (n, o, c) := rfl
theorem runM_step {st : Nat} (h : st ≠ 0) (o : List Nat) (c : Bool) (n : Nat) (x : Nat) (r : List Nat) : runM st o c n (x :: r) = runM (stepM st o c x).1 (stepM st o c x).2.1 (stepM st o c x).2.2 (n + 1) r := by
  simp [runM, h]

/-- A name that is being read. -/
def okName (o : List Nat) : Prop := o.length ≤ 30 ∧ ∀ x ∈ o, nameByte x = true

theorem okName_snoc {o : List Nat} {x : Nat} (h : okName o) (hx : nameByte x = true) (hl : o.length ≠ 30) : okName (o ++ [x]) := by
  refine ⟨by have := h.1; simp; omega, fun y hy => ?_⟩
  rcases List.mem_append.1 hy with hy | hy
  · exact h.2 y hy
  · rw [List.mem_singleton.1 hy]
    exact hx

theorem okName_app {o n : List Nat} {x : Nat} (h : okName (o ++ x :: n)) : nameByte x = true ∧ o.length ≠ 30 := by
  refine ⟨h.2 x (by simp), ?_⟩
  have := h.1
  simp at this
  omega

/-- What a run says of the quoted form that may begin there. -/
def Runs (o m : List Nat) (k : Nat) (R : Nat × List Nat × Bool) : Prop :=
  (R.2.2 = true → ∃ n r, body m = some (n, r) ∧ R.2.1 = o ++ n ∧ R.1 + r.length = k + m.length ∧ okName (o ++ n)) ∧
  (R.2.2 = false → ∀ n r, body m = some (n, r) → ¬ okName (o ++ n))

theorem runs_take {o m m' : List Nat} {x : Nat} {k d : Nat} {R : Nat × List Nat × Bool} (hb : body m = (body m').map fun p => (x :: p.1, p.2)) (hk : k + m.length = d + m'.length) (h : Runs (o ++ [x]) m' d R) : Runs o m k R := by
  refine ⟨fun hc => ?_, fun hc n r hn => ?_⟩
  · obtain ⟨n, r, h1, h2, h3, h4⟩ := h.1 hc
    refine ⟨x :: n, r, by rw [hb, h1]; rfl, by rw [h2]; simp, by omega, by simpa using h4⟩
  · rw [hb] at hn
    cases hm : body m' with
    | none => rw [hm] at hn; cases hn
    | some p =>
      rw [hm] at hn
      simp only [Option.map_some, Option.some.injEq, Prod.mk.injEq] at hn
      obtain ⟨rfl, rfl⟩ := hn
      have := h.2 hc p.1 p.2 hm
      simpa using this

theorem runs_fail {o m m' : List Nat} {x : Nat} {k d : Nat} (hb : body m = (body m').map fun p => (x :: p.1, p.2)) (h : ¬ (nameByte x = true ∧ o.length ≠ 30)) : Runs o m k (d, o, false) := by
  refine ⟨fun hc => (by cases hc), fun _ n r hn hok => ?_⟩
  rw [hb] at hn
  cases hm : body m' with
  | none => rw [hm] at hn; cases hn
  | some p =>
    rw [hm] at hn
    simp only [Option.map_some, Option.some.injEq, Prod.mk.injEq] at hn
    obtain ⟨rfl, rfl⟩ := hn
    exact h (okName_app hok)

theorem runs_none {o m : List Nat} {k d : Nat} (hb : body m = none) : Runs o m k (d, o, false) :=
  ⟨fun hc => (by cases hc), fun _ n r hn => by rw [hb] at hn; cases hn⟩

theorem runs_all (N : Nat) : ∀ (m o : List Nat) (k : Nat), m.length ≤ N → okName o → Runs o m k (runM 1 o false k m) := by
  induction N with
  | zero =>
    intro m o k hm ho
    obtain rfl : m = [] := List.eq_nil_of_length_eq_zero (by omega)
    exact runs_none rfl
  | succ N ih =>
    intro m o k hm ho
    cases m with
    | nil => exact runs_none rfl
    | cons x r =>
      rw [runM_step (by omega)]
      by_cases h34 : x = 34
      · subst h34
        have e : stepM 1 o false 34 = (0, o, true) := rfl
        rw [e, runM_stop]
        refine ⟨fun _ => ⟨[], r, body_quote r, by simp, by simp; omega, by simpa using ho⟩, fun hc => (by cases hc)⟩
      · by_cases h92 : x = 92
        · subst h92
          have e : stepM 1 o false 92 = (2, o, false) := rfl
          rw [e]
          cases r with
          | nil => exact runs_none body_esc_end
          | cons y r =>
            show Runs o (92 :: y :: r) k (runM 2 o false (k + 1) (y :: r))
            rw [runM_step (by omega)]
            cases hy : escB y with
            | false =>
              have e2 : stepM 2 o false y = (0, o, false) := by unfold stepM; rw [if_neg (by omega), hy]; rfl
              rw [e2, runM_stop]
              exact runs_none (body_esc_bad hy r)
            | true =>
              have e2 : stepM 2 o false y = takeM o false y := by unfold stepM; rw [if_neg (by omega), if_pos hy]
              rw [e2]
              by_cases ht : nameByte y = true ∧ o.length ≠ 30
              · have e3 : takeM o false y = (1, o ++ [y], false) := if_pos ht
                rw [e3]
                exact runs_take (body_esc hy r) (by simp; omega) (ih r (o ++ [y]) (k + 1 + 1) (by simp at hm; omega) (okName_snoc ho ht.1 ht.2))
              · have e3 : takeM o false y = (0, o, false) := if_neg ht
                rw [e3, runM_stop]
                exact runs_fail (body_esc hy r) ht
        · have he : escB x = false := by rw [escB, decide_eq_false h34, decide_eq_false h92]; rfl
          have e : stepM 1 o false x = takeM o false x := by unfold stepM; rw [if_pos rfl, if_neg h34, if_neg h92]
          rw [e]
          by_cases ht : nameByte x = true ∧ o.length ≠ 30
          · have e3 : takeM o false x = (1, o ++ [x], false) := if_pos ht
            rw [e3]
            exact runs_take (body_plain he r) (by simp; omega) (ih r (o ++ [x]) (k + 1) (by simp at hm; omega) (okName_snoc ho ht.1 ht.2))
          · have e3 : takeM o false x = (0, o, false) := if_neg ht
            rw [e3, runM_stop]
            exact runs_fail (body_plain he r) ht

theorem nameB_ok {n : List Nat} : nameB n = true ↔ n ≠ [] ∧ okName n := by
  simp only [nameB, okName, Bool.and_eq_true, decide_eq_true_eq, List.all_eq_true]
  constructor
  · rintro ⟨h1, h2, h3⟩
    exact ⟨fun e => by rw [e] at h1; simp at h1, h2, h3⟩
  · rintro ⟨h1, h2, h3⟩
    exact ⟨by rcases Nat.eq_zero_or_pos n.length with h | h; (· exact absurd (List.eq_nil_of_length_eq_zero h) h1); (· omega), h2, h3⟩

end Go.Proofs.YtmgohahjocdeeaaDoor
