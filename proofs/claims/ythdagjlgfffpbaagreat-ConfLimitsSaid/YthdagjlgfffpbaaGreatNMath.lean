/-
  Layer 4 (name): names, their quoted forms and their padded bytes, as plain mathematics on lists of bytes. By the verifier.
-/
import Derived.Test.YthdagjlgfffpbaaGreatMMem
set_option linter.unusedVariables false
namespace Go.Proofs.YthdagjlgfffpbaaGreat

/-- A byte of a name. -/
def nameByte (b : Nat) : Bool := decide (32 ≤ b) && decide (b ≤ 126)
/-- Is it a name? -/
def nameB (l : List Nat) : Bool := decide (1 ≤ l.length) && (decide (l.length ≤ 30) && l.all nameByte)
/-- A byte that is escaped. -/
def escB (b : Nat) : Bool := decide (b = 34) || decide (b = 92)

theorem nameB_iff (l : List Nat) : nameB l = true ↔ 1 ≤ l.length ∧ l.length ≤ 30 ∧ ∀ i, i < l.length → nameByte (l.getD i 0) = true := by
  simp only [nameB, Bool.and_eq_true, decide_eq_true_eq, List.all_eq_true]
  refine and_congr_right fun _ => and_congr_right fun _ => ⟨fun h i hi => ?_, fun h x hx => ?_⟩
  · have e : l.getD i 0 = l[i] := by simp [List.getD, hi]
    rw [e]
    exact h _ (List.getElem_mem hi)
  · obtain ⟨i, hi, rfl⟩ := List.mem_iff_getElem.1 hx
    have := h i hi
    simpa [List.getD, hi] using this

theorem nameB_bs {l : List Nat} (h : nameB l = true) : Bs l := by
  intro x hx
  simp only [nameB, Bool.and_eq_true, decide_eq_true_eq, List.all_eq_true] at h
  have := h.2.2 x hx
  simp only [nameByte, Bool.and_eq_true, decide_eq_true_eq] at this
  omega

/-- The bytes of a name, each special one with a backslash in front. -/
def esc : List Nat → List Nat
  | [] => []
  | b :: l => (if escB b then [92, b] else [b]) ++ esc l
def quoteL (l : List Nat) : List Nat := 34 :: (esc l ++ [34])
/-- The quoted form, or nothing. -/
def quoteV (l : List Nat) : List Nat := if nameB l then quoteL l else []

/-- Behind the first quotation mark: the bytes up to the last one, and what follows it. -/
def body : List Nat → Option (List Nat × List Nat)
  | [] => none
  | [b] => if b = 34 then some ([], []) else none
  | b :: c :: r =>
    if b = 34 then some ([], c :: r)
    else if b = 92 then (if escB c then (body r).map fun p => (c :: p.1, p.2) else none)
    else (body (c :: r)).map fun p => (b :: p.1, p.2)

theorem body_quote (r : List Nat) : body (34 :: r) = some ([], r) := by
  cases r <;> simp [body]
theorem body_esc {c : Nat} (h : escB c = true) (r : List Nat) : body (92 :: c :: r) = (body r).map fun p => (c :: p.1, p.2) := by
  simp [body, h]
theorem body_esc_bad {c : Nat} (h : escB c = false) (r : List Nat) : body (92 :: c :: r) = none := by
  simp [body, h]
theorem body_esc_end : body [92] = none := by simp [body]
theorem body_plain {b : Nat} (h : escB b = false) (r : List Nat) : body (b :: r) = (body r).map fun p => (b :: p.1, p.2) := by
  have h1 : b ≠ 34 := fun e => by subst e; simp [escB] at h
  have h2 : b ≠ 92 := fun e => by subst e; simp [escB] at h
  cases r with
  | nil => simp [body, h1]
  | cons c r => simp [body, h1, h2]

theorem escB_iff (b : Nat) : escB b = true ↔ b = 34 ∨ b = 92 := by simp [escB]

/-- Reading inverts quoting, whatever follows. -/
theorem body_quoted (l r : List Nat) : body (esc l ++ 34 :: r) = some (l, r) := by
  induction l with
  | nil => exact body_quote r
  | cons b l ih =>
    by_cases h : escB b = true
    · have e : esc (b :: l) ++ 34 :: r = 92 :: b :: (esc l ++ 34 :: r) := by simp [esc, h]
      rw [e, body_esc h, ih]
      rfl
    · have h' : escB b = false := by simpa using h
      have e : esc (b :: l) ++ 34 :: r = b :: (esc l ++ 34 :: r) := by simp [esc, h']
      rw [e, body_plain h', ih]
      rfl

theorem esc_append (l m : List Nat) : esc (l ++ m) = esc l ++ esc m := by
  induction l with
  | nil => rfl
  | cons b l ih => simp only [List.cons_append, esc, ih, List.append_assoc]

theorem esc_snoc (l : List Nat) (k : Nat) (h : k < l.length) : esc (l.take (k + 1)) = esc (l.take k) ++ (if escB (l.getD k 0) then [92, l.getD k 0] else [l.getD k 0]) := by
  have e : l.take (k + 1) = l.take k ++ [l.getD k 0] := by
    rw [List.take_succ_eq_append_getElem h]
    simp [List.getD, h]
  rw [e, esc_append]
  simp [esc]

theorem esc_len (l : List Nat) : l.length ≤ (esc l).length ∧ (esc l).length ≤ 2 * l.length := by
  induction l with
  | nil => exact ⟨Nat.le_refl _, Nat.le_refl _⟩
  | cons b l ih =>
    by_cases h : escB b = true
    · simp only [esc, h, if_true, List.length_append, List.length_cons, List.length_nil]
      omega
    · simp only [esc, h, List.length_append, List.length_cons]
      simp
      omega

theorem esc_bs {l : List Nat} (h : Bs l) : Bs (esc l) := by
  induction l with
  | nil => exact h
  | cons b l ih =>
    have hb : b < 256 := h b (List.mem_cons_self ..)
    have ih := ih (fun x hx => h x (List.mem_cons_of_mem _ hx))
    intro x hx
    unfold esc at hx
    rcases List.mem_append.1 hx with hx | hx
    · split at hx
      · simp at hx; omega
      · simp at hx; omega
    · exact ih x hx

/-- What a scan answers: the name, the offset behind it, the code. -/
def scanV (l : List Nat) (x : Int) : List Nat × Int × Int :=
  if 0 ≤ x ∧ x < (l.length : Int) ∧ l.getD x.toNat 0 = 34 then
    match body (l.drop (x.toNat + 1)) with
    | some (n, r) => if nameB n then (n, ((l.length : Int) - (r.length : Int)), 0) else ([], 0, 6)
    | none => ([], 0, 6)
  else ([], 0, 3)

theorem scanV_quoted (b l a : List Nat) (h : nameB l = true) : scanV (b ++ quoteL l ++ a) (b.length : Int) = (l, ((b.length : Int) + ((quoteL l).length : Int)), 0) := by
  have hlen : (b ++ quoteL l ++ a).length = b.length + (quoteL l).length + a.length := by simp only [List.length_append]
  have hq : (quoteL l).length = (esc l).length + 2 := by simp [quoteL]
  have hg : (b ++ quoteL l ++ a).getD b.length 0 = 34 := by simp [List.getD, quoteL]
  have hd : (b ++ quoteL l ++ a).drop (b.length + 1) = esc l ++ 34 :: a := by
    have e : b ++ quoteL l ++ a = (b ++ [34]) ++ (esc l ++ 34 :: a) := by simp [quoteL]
    have e2 : b.length + 1 = (b ++ [34]).length := by simp
    rw [e, e2, List.drop_left]
  unfold scanV
  rw [if_pos ⟨by omega, by omega, by rw [Int.toNat_natCast]; exact hg⟩, Int.toNat_natCast, hd, body_quoted]
  simp only [h, if_true]
  have : ((b ++ quoteL l ++ a).length : Int) - (a.length : Int) = (b.length : Int) + ((quoteL l).length : Int) := by omega
  rw [this]

/-- What is read from an offset on, with what stands before it. -/
def bodyAt (l : List Nat) (i : Nat) (out : List Nat) : Option (List Nat × List Nat) := (body (l.drop i)).map fun p => (out ++ p.1, p.2)

theorem drop_at {l : List Nat} {i : Nat} (h : i < l.length) : l.drop i = l.getD i 0 :: l.drop (i + 1) := by
  rw [List.drop_eq_getElem_cons h]
  simp [List.getD, h]
theorem bodyAt_quote {l : List Nat} {i : Nat} (out : List Nat) (h : i < l.length) (hb : l.getD i 0 = 34) : bodyAt l i out = some (out, l.drop (i + 1)) := by
  unfold bodyAt
  rw [drop_at h, hb, body_quote]
  simp
theorem bodyAt_end {l : List Nat} {i : Nat} (out : List Nat) (h : l.length ≤ i) : bodyAt l i out = none := by
  unfold bodyAt
  rw [List.drop_of_length_le h]
  rfl
theorem bodyAt_plain {l : List Nat} {i : Nat} (out : List Nat) (h : i < l.length) (hb : escB (l.getD i 0) = false) : bodyAt l i out = bodyAt l (i + 1) (out ++ [l.getD i 0]) := by
  unfold bodyAt
  rw [drop_at h, body_plain hb, Option.map_map]
  congr 1
  funext p
  simp
theorem bodyAt_esc {l : List Nat} {i : Nat} (out : List Nat) (h : i + 1 < l.length) (hb : l.getD i 0 = 92) (hc : escB (l.getD (i + 1) 0) = true) : bodyAt l i out = bodyAt l (i + 2) (out ++ [l.getD (i + 1) 0]) := by
  unfold bodyAt
  rw [drop_at (show i < l.length by omega), hb, drop_at h, body_esc hc, Option.map_map]
  congr 1
  funext p
  simp
theorem bodyAt_esc_bad {l : List Nat} {i : Nat} (out : List Nat) (h : i + 1 < l.length) (hb : l.getD i 0 = 92) (hc : escB (l.getD (i + 1) 0) = false) : bodyAt l i out = none := by
  unfold bodyAt
  rw [drop_at (show i < l.length by omega), hb, drop_at h, body_esc_bad hc]
  rfl
theorem bodyAt_esc_end {l : List Nat} {i : Nat} (out : List Nat) (h : i + 1 = l.length) (hb : l.getD i 0 = 92) : bodyAt l i out = none := by
  unfold bodyAt
  rw [drop_at (show i < l.length by omega), hb, List.drop_of_length_le (by omega), body_esc_end]
  rfl

/-- What an unpadding answers. -/
def unpadB (b : List Nat) (n : Nat) : Bool := decide (n ≤ 30) && (nameB (b.take n) && (b.drop n).all fun x => decide (x = 0))

/-- There is at most one length. -/
theorem unpad_once {b : List Nat} (hb : b.length = 30) {n m : Nat} (hn : unpadB b n = true) (hm : unpadB b m = true) : n = m := by
  have key : ∀ n m : Nat, unpadB b n = true → unpadB b m = true → ¬ n < m := by
    intro n m hn hm hlt
    simp only [unpadB, nameB, Bool.and_eq_true, decide_eq_true_eq, List.all_eq_true] at hn hm
    obtain ⟨hn30, -, hz⟩ := hn
    obtain ⟨hm30, ⟨-, -, ha⟩, -⟩ := hm
    have hnl : n < b.length := by omega
    have h1 : b[n] = 0 := hz _ (List.mem_iff_getElem.2 ⟨0, by rw [List.length_drop]; omega, by simp⟩)
    have h2 := ha b[n] (List.mem_iff_getElem.2 ⟨n, by rw [List.length_take]; omega, by simp⟩)
    rw [h1] at h2
    simp [nameByte] at h2
  rcases Nat.lt_trichotomy n m with h | h | h
  · exact absurd h (key n m hn hm)
  · exact h
  · exact absurd h (key m n hm hn)

/-- How many of the first k numbers have a property that one alone can have. -/
def countTo (p : Nat → Bool) : Nat → Nat
  | 0 => 0
  | k + 1 => countTo p k + (if p k then 1 else 0)

theorem count_once {p : Nat → Bool} (h : ∀ i j, p i = true → p j = true → i = j) (k : Nat) : countTo p k ≤ 1 ∧ (countTo p k = 1 → ∃ i, i < k ∧ p i = true) := by
  induction k with
  | zero => exact ⟨by simp [countTo], fun h0 => by simp [countTo] at h0⟩
  | succ k ih =>
    unfold countTo
    by_cases hk : p k = true
    · have h0 : countTo p k = 0 := by
        rcases Nat.eq_zero_or_pos (countTo p k) with h0 | h0
        · exact h0
        · obtain ⟨i, hi, hp⟩ := ih.2 (by omega)
          have := h i k hp hk
          omega
      rw [h0, if_pos hk]
      exact ⟨by omega, fun _ => ⟨k, by omega, hk⟩⟩
    · rw [if_neg hk, Nat.add_zero]
      exact ⟨ih.1, fun h1 => by obtain ⟨i, hi, hp⟩ := ih.2 h1; exact ⟨i, by omega, hp⟩⟩

end Go.Proofs.YthdagjlgfffpbaaGreat
