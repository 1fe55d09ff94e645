/-
  Layer 6 (lex): what the law LexJoins says of a text, as plain mathematics. By the verifier.
-/
import Derived.Test.YtmgohahjocdeeaaDoorTJoin
set_option linter.unusedVariables false
namespace Go.Proofs.YtmgohahjocdeeaaDoor

theorem tw_sub (p : Nat → Bool) (l : List Nat) : ∀ x ∈ l.takeWhile p, x ∈ l := by
  induction l with
  | nil => intro x hx; cases hx
  | cons y r ih =>
    intro x hx
    rw [List.takeWhile_cons] at hx
    split at hx
    · rcases List.mem_cons.1 hx with rfl | hx
      · exact List.mem_cons_self ..
      · exact List.mem_cons_of_mem _ (ih x hx)
    · cases hx

theorem read_text (nv : List Nat → Option Int) (l : List Nat) (hl : Bs l) : Bs (readL nv l).text ∧ (readL nv l).text.length ≤ l.length + 30 := by
  have hn : Bs ([] : List Nat) := fun x hx => by cases hx
  cases l with
  | nil => exact ⟨hn, Nat.zero_le _⟩
  | cons x r =>
    rw [read_cons]
    split
    · exact ⟨fun z hz => hl z (tw_sub _ _ z hz), Nat.le_trans (takeWhile_len _ _) (Nat.le_add_right _ _)⟩
    · split
      · unfold readN
        split
        · exact ⟨fun z hz => hl z (tw_sub _ _ z hz), Nat.le_trans (takeWhile_len _ _) (Nat.le_add_right _ _)⟩
        · exact ⟨hn, Nat.zero_le _⟩
      · split
        · unfold readQ
          split
          · split
            · rename_i t s _ hnm
              exact ⟨nameB_bs hnm, by have := ((nameB_iff t).1 hnm).2.1; show t.length ≤ _; omega⟩
            · exact ⟨hn, Nat.zero_le _⟩
          · exact ⟨hn, Nat.zero_le _⟩
        · split
          · exact ⟨fun z hz => by have h : z = x := List.mem_singleton.1 hz; rw [h]; exact hl x (List.mem_cons_self ..), by simp⟩
          · exact ⟨hn, Nat.zero_le _⟩

theorem toks_text (nv : List Nat → Option Int) : ∀ (f : Nat) (r : List Nat) (p : Nat × Nat), Bs r → ∀ t ∈ (toks nv f r p).1, Bs t.text ∧ t.text.length ≤ r.length + 30
  | 0, r, p, hr, t, h => by rw [toks] at h; cases h
  | f + 1, r, p, hr, t, h => by
    rw [toks] at h
    split at h
    · cases h
    · split at h
      · obtain rfl := List.mem_singleton.1 h
        exact ⟨(fun x hx => nomatch hx), Nat.zero_le _⟩
      · rcases List.mem_cons.1 h with rfl | h
        · have h1 := read_text nv (r.drop (skipL false r)) (fun x hx => hr x (List.mem_of_mem_drop hx))
          refine ⟨h1.1, ?_⟩
          have h2 := h1.2
          rw [List.length_drop] at h2
          show (readL nv (r.drop (skipL false r))).text.length ≤ _
          omega
        · have h1 := toks_text nv f _ _ (fun x hx => hr x (List.mem_of_mem_drop hx)) t h
          rw [List.length_drop] at h1
          exact ⟨h1.1, by omega⟩

/-- The tokens of a joined text. -/
theorem tokens_join (nv : List Nat → Option Int) (l : List Nat) (ho : (tokensV nv l).2 = none) :
    ∃ us, tokensV nv (joinL ((tokensV nv l).1.map tokB)) = (us, none) ∧ us.length = (tokensV nv l).1.length ∧ (joinL ((tokensV nv l).1.map tokB)).length ≤ l.length + 63 * (l.length + 1) ∧
      ∀ i (h1 : i < us.length) (h2 : i < (tokensV nv l).1.length), sameTok us[i] (tokensV nv l).1[i] := by
  obtain ⟨vs, a, b, e, hv, hj⟩ := toks_ok nv (l.length + 1) l (1, 1) (by omega) ho
  have hl := toks_len nv (l.length + 1) l (1, 1)
  have he : (tokensV nv l).1 = vs ++ [endT a b] := e
  have hl2 : (tokensV nv l).1.length ≤ l.length + 1 := hl
  rw [he] at hl2 ⊢
  rw [List.length_append] at hl2
  have hvl : vs.length ≤ l.length := by simp only [List.length_cons, List.length_nil] at hl2; omega
  obtain ⟨J, hJ⟩ : ∃ J, J = joinL ((vs ++ [endT a b]).map tokB) := ⟨_, rfl⟩
  obtain ⟨us, h1, h2, h3⟩ := toks_join nv a b vs (J.length + vs.length + 1) (1, 1) hv (by omega)
  rw [← hJ] at h1 hj ⊢
  have h4 : 63 * vs.length ≤ 63 * (l.length + 1) := by omega
  refine ⟨us, ?_, by rw [h2, List.length_append]; rfl, by omega, h3⟩
  unfold tokensV
  rw [toks_fuel nv (J.length + 1) (J.length + vs.length + 1) J (1, 1) (by omega) (by omega)]
  exact h1

end Go.Proofs.YtmgohahjocdeeaaDoor
