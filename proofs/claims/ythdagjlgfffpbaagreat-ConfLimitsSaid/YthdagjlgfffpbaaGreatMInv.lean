/-
  A REGION THAT DRAWS ITS ORDER, BY AN INVARIANT: each operation's result has a fact: its value, or that it is a row of the region's own. What was there when the region began stands; whatever order is drawn, at the end the facts hold. No order is written out.
  The operations of fins may write rows that others made (append): such a one waits for all rows ahead of it, and all rows behind it wait for it; the rows ahead of it are lost then. By the verifier.
-/
import Derived.Test.YthdagjlgfffpbaaGreatMRow
import Derived.Orders
import Derived.RegionTactic
set_option linter.unusedVariables false
namespace Go.Proofs.YthdagjlgfffpbaaGreat
open Go.RowKit

/-- What is said of a result: its value, or that it is a row of the region's own (full: the row has no room). -/
structure Sp where
  v : Option Value
  r : Option (TypeId × Nat × Nat × List Value)
  full : Bool
def Sp.val (x : Value) : Sp := ⟨some x, none, false⟩
def Sp.row (e : TypeId) (size n : Nat) (cs : List Value) : Sp := ⟨none, some (e, size, n, cs), false⟩
def Sp.lit (e : TypeId) (size n : Nat) (cs : List Value) : Sp := ⟨none, some (e, size, n, cs), true⟩
def Sp.rowIs (s : Sp) (base : Nat) (v : Value) (w : World) : Prop := ∀ e size n cs, s.r = some (e, size, n, cs) → OwnC w base e size v n cs ∧ (s.full = true → ∃ g, v = .slice (some g) n n)
def Sp.holds (s : Sp) (base : Nat) (v : Value) (w : World) : Prop := (∀ x, s.v = some x → v = x) ∧ s.rowIs base v w
theorem Sp.below {s : Sp} {base : Nat} {v : Value} {w w' : World} (hb : Below w.heap.size w w') (h : s.rowIs base v w) : s.rowIs base v w' := fun e size n cs hr => ⟨(h e size n cs hr).1.below hb, (h e size n cs hr).2⟩
theorem Sp.of_val {s : Sp} {base : Nat} {x : Value} {w : World} (h : s = Sp.val x) : s.holds base x w := by
  subst h
  exact ⟨fun y hy => by injection hy, fun e size n cs hr => by cases hr⟩
theorem Sp.of_row {s : Sp} {base : Nat} {v : Value} {w : World} {e : TypeId} {size n : Nat} {cs : List Value} (h : s = Sp.row e size n cs) (ho : OwnC w base e size v n cs) : s.holds base v w := by
  subst h
  refine ⟨fun y hy => (by cases hy), fun e' size' n' cs' hr => ?_⟩
  have hr' : (e, size, n, cs) = (e', size', n', cs') := by injection hr
  simp only [Prod.mk.injEq] at hr'
  obtain ⟨rfl, rfl, rfl, rfl⟩ := hr'
  exact ⟨ho, fun hf => by cases hf⟩
theorem Sp.of_lit {s : Sp} {base : Nat} {v : Value} {w : World} {e : TypeId} {size n : Nat} {cs : List Value} (h : s = Sp.lit e size n cs) (ho : OwnC w base e size v n cs) (hg : ∃ g, v = .slice (some g) n n) : s.holds base v w := by
  subst h
  refine ⟨fun y hy => (by cases hy), fun e' size' n' cs' hr => ?_⟩
  have hr' : (e, size, n, cs) = (e', size', n', cs') := by injection hr
  simp only [Prod.mk.injEq] at hr'
  obtain ⟨rfl, rfl, rfl, rfl⟩ := hr'
  exact ⟨ho, fun _ => hg⟩

section
variable {P : Program} {ops : Array Oper} {Q : Exit → Act → World → Prop} {md : Region.Mode}

/-- The row of operation j has not been lost. -/
def Live (fins : List Nat) (listed : Array Bool) (j : Nat) : Prop := ∀ f ∈ fins, listed.getD f false = true → f ≤ j

/-- The state of such a region. -/
structure St (G : World → Prop) (ops : Array Oper) (fins : List Nat) (T0 : Array Value) (df : List Deferred) (w0 : World) (sp : Nat → Sp) (listed : Array Bool) (a : Act) (w : World) : Prop where
  lsize : listed.size = ops.size
  size : a.tmps.size = T0.size
  defers : a.defers = df
  glob : Below w0.heap.size w0 w
  extra : G w
  late : ∀ f ∈ fins, ∀ (j : Nat) (oj : Oper) (d : Nat), f < j → ops[j]? = some oj → oj.dst = some d → (sp d).r ≠ none → listed.getD j false = true → listed.getD f false = true
  closed : ∀ (j : Nat) (oj : Oper), ops[j]? = some oj → listed.getD j false = true → ∀ e ∈ oj.after, Region.binds .any e = true → listed.getD e.on false = true
  old : ∀ (t : Nat), (∀ (i : Nat) (oi : Oper), ops[i]? = some oi → oi.dst = some t → listed.getD i false = false) → a.tmps.getD t undef = T0.getD t undef
  vals : ∀ (i : Nat) (oi : Oper) (d : Nat), ops[i]? = some oi → oi.dst = some d → listed.getD i false = true → ∀ x, (sp d).v = some x → a.tmps.getD d undef = x
  rows : ∀ (i : Nat) (oi : Oper) (d : Nat), ops[i]? = some oi → oi.dst = some d → listed.getD i false = true → Live fins listed i → (sp d).rowIs w0.heap.size (a.tmps.getD d undef) w

theorem getD_put {a : Act} {d t : Nat} {v : Value} (h : d ≠ t) : (a.put (some d) v).tmps.getD t undef = a.tmps.getD t undef := by
  simp [Act.put, h]
theorem getD_put_same {a : Act} {d : Nat} {v : Value} (h : d < a.tmps.size) : (a.put (some d) v).tmps.getD d undef = v := by
  simp [Act.put, h]
theorem getD_set {l : Array Bool} {i j : Nat} (h : i ≠ j) (b : Bool) : (l.setIfInBounds i true).getD j b = l.getD j b := by
  rw [Array.getD_eq_getD_getElem?, Array.getElem?_setIfInBounds, if_neg h, ← Array.getD_eq_getD_getElem?]
theorem getD_set_same {l : Array Bool} {i : Nat} (h : i < l.size) (b : Bool) : (l.setIfInBounds i true).getD i b = true := by
  rw [Array.getD_eq_getD_getElem?, Array.getElem?_setIfInBounds, if_pos rfl, if_pos h]
  rfl

variable {G : World → Prop} {fins : List Nat} {T0 : Array Value} {df : List Deferred} {w0 : World} {sp : Nat → Sp}

theorem St.step {listed : Array Bool} {a : Act} {w w' : World} (h : St G ops fins T0 df w0 sp listed a w)
    (hD : ∀ (i j : Nat) (oi oj : Oper) (d : Nat), ops[i]? = some oi → ops[j]? = some oj → oi.dst = some d → oj.dst = some d → i = j)
    {i : Nat} {oi : Oper} {d : Nat} (hi : ops[i]? = some oi) (hd : oi.dst = some d) (hs : d < T0.size) (hn : listed.getD i false = false) (hL : ∀ f ∈ fins, f < i → (sp d).r ≠ none → listed.getD f false = true)
    (hC : ∀ e ∈ oi.after, Region.binds .any e = true → listed.getD e.on false = true) {v : Value} (hb : i ∈ fins ∨ Below w.heap.size w w') (hG : Below w0.heap.size w0 w') (hv : (sp d).holds w0.heap.size v w') (hX : G w') :
    St G ops fins T0 df w0 sp (listed.setIfInBounds i true) (a.put oi.dst v) w' := by
  have hil : i < listed.size := by rw [h.lsize]; exact (Array.getElem?_eq_some_iff.1 hi).1
  have hmono : ∀ k, listed.getD k false = true → (listed.setIfInBounds i true).getD k false = true := by
    intro k hk
    by_cases hik : i = k
    · subst hik
      exact getD_set_same hil _
    · rw [getD_set hik]
      exact hk
  rw [hd]
  refine ⟨by simpa using h.lsize, by simpa [Act.put] using h.size, by simpa [Act.put] using h.defers, hG, hX, fun f hf j oj dj hfj hj hdj hr hl => ?_, fun j oj hj hl e he hbe => ?_, fun t ht => ?_, fun j oj dj hj hdj hl x hx => ?_, fun j oj dj hj hdj hl hlive => ?_⟩
  · by_cases hij : i = j
    · subst hij
      rw [hi] at hj
      injection hj with hj
      subst hj
      rw [hd] at hdj
      injection hdj with hdj
      subst hdj
      exact hmono _ (hL f hf hfj hr)
    · rw [getD_set hij] at hl
      exact hmono _ (h.late f hf j oj dj hfj hj hdj hr hl)
  · by_cases hij : i = j
    · subst hij
      rw [hi] at hj
      injection hj with hj
      subst hj
      exact hmono _ (hC e he hbe)
    · rw [getD_set hij] at hl
      exact hmono _ (h.closed j oj hj hl e he hbe)
  · have hne : d ≠ t := fun e => by
      have := ht i oi hi (by rw [hd, e])
      rw [getD_set_same hil] at this
      cases this
    rw [getD_put hne]
    refine h.old t fun k ok hk hkd => ?_
    have := ht k ok hk hkd
    by_cases hik : i = k
    · subst hik
      exact hn
    · rwa [getD_set hik] at this
  · by_cases hij : i = j
    · subst hij
      rw [hi] at hj
      injection hj with hj
      subst hj
      rw [hd] at hdj
      injection hdj with hdj
      subst hdj
      rw [getD_put_same (by rw [h.size]; exact hs)]
      exact hv.1 x hx
    · have hne : d ≠ dj := fun e => hij (hD i j oi oj d hi hj hd (by rw [hdj, e]))
      rw [getD_put hne]
      rw [getD_set hij] at hl
      exact h.vals j oj dj hj hdj hl x hx
  · by_cases hij : i = j
    · subst hij
      rw [hi] at hj
      injection hj with hj
      subst hj
      rw [hd] at hdj
      injection hdj with hdj
      subst hdj
      rw [getD_put_same (by rw [h.size]; exact hs)]
      exact hv.2
    · have hne : d ≠ dj := fun e => hij (hD i j oi oj d hi hj hd (by rw [hdj, e]))
      rw [getD_put hne]
      rw [getD_set hij] at hl
      rcases hb with hb | hb
      · intro e size n cs hr
        exfalso
        have hle := hlive i hb (getD_set_same hil _)
        have := h.late i hb j oj dj (by omega) hj hdj (by rw [hr]; simp) hl
        rw [hn] at this
        cases this
      · exact Sp.below hb (h.rows j oj dj hj hdj hl (fun f hf hlf => hlive f hf (hmono f hlf)))

/-- How many operations are still to come. -/
def leftOf (l : Array Bool) : Nat := (l.toList.filter fun b => !b).length

theorem leftOf_set {l : Array Bool} {i : Nat} (h : l.getD i true = false) : leftOf (l.setIfInBounds i true) + 1 = leftOf l := by
  obtain ⟨l⟩ := l
  unfold leftOf
  have hi : i < l.length ∧ l[i]? = some false := by
    rw [Array.getD_eq_getD_getElem?] at h
    cases hg : l[i]? with
    | none => simp [hg] at h
    | some b =>
      have : b = false := by simpa [hg] using h
      subst this
      exact ⟨(List.getElem?_eq_some_iff.1 hg).1, rfl⟩
  obtain ⟨hi, hg⟩ := hi
  simp only [List.setIfInBounds_toArray]
  clear h
  induction l generalizing i with
  | nil => simp at hi
  | cons b l ih =>
    cases i with
    | zero =>
      simp at hg
      subst hg
      simp
    | succ i =>
      have := ih (i := i) (by simpa using hi) (by simpa using hg)
      cases b <;> simp_all
theorem leftOf_zero {l : Array Bool} (h : leftOf l = 0) : ∀ i, i < l.size → l.getD i false = true := by
  obtain ⟨l⟩ := l
  unfold leftOf at h
  intro i hi
  have h0 : l.filter (fun b => !b) = [] := List.eq_nil_of_length_eq_zero h
  have hi' : i < l.length := by simpa using hi
  have := List.filter_eq_nil_iff.1 h0 l[i] (List.getElem_mem hi')
  simpa [hi'] using this

/-- All that can come has come: then all have come. -/
theorem all_come (hdep : ∀ (i : Nat) (oi : Oper), ops[i]? = some oi → ∀ e ∈ oi.after, e.on < i) {listed : Array Bool} (hs : listed.size = ops.size) (h : Region.ready md ops listed = []) : ∀ i, i < ops.size → listed.getD i false = true := by
  intro i
  induction i using Nat.strongRecOn with
  | ind i ih =>
    intro hi
    cases hl : listed.getD i false with
    | true => rfl
    | false =>
      exfalso
      have hl' : listed.getD i true = false := by
        rw [Array.getD_eq_getD_getElem?] at hl ⊢
        rw [Array.getElem?_eq_getElem (by omega)] at hl ⊢
        exact hl
      have ho : ops[i]? = some ops[i] := Array.getElem?_eq_getElem hi
      have : i ∈ Region.ready md ops listed := mem_ready.2 ⟨hl', ops[i], ho, fun e he _ => ih e.on (hdep i _ ho e he) (by have := hdep i _ ho e he; omega)⟩
      rw [h] at this
      cases this

/-- What is owed for an operation. -/
def Owed (G : World → Prop) (P : Program) (ops : Array Oper) (fins : List Nat) (Q : Exit → Act → World → Prop) (T0 : Array Value) (df : List Deferred) (w0 : World) (sp : Nat → Sp) (i : Nat) (oi : Oper) : Prop :=
  ∃ d, oi.dst = some d ∧ d < T0.size ∧ ∀ (listed : Array Bool) (a : Act) (w : World), St G ops fins T0 df w0 sp listed a w → listed.getD i false = false → (∀ e ∈ oi.after, Region.binds .any e = true → listed.getD e.on false = true) →
    ∀ K : Act → World → Prop, (∀ v w', (i ∈ fins ∨ Below w.heap.size w w') → Below w0.heap.size w0 w' → (sp d).holds w0.heap.size v w' → G w' → K (a.put oi.dst v) w') →
      if Region.wanted oi (yielded ops a.tmps) = true then Oper.wp P oi a w K Q else K (a.put oi.dst undef) w

theorem any_inv (hD : ∀ (i j : Nat) (oi oj : Oper) (d : Nat), ops[i]? = some oi → ops[j]? = some oj → oi.dst = some d → oj.dst = some d → i = j)
    (hdep : ∀ (i : Nat) (oi : Oper), ops[i]? = some oi → ∀ e ∈ oi.after, e.on < i) (hfin : ∀ (i : Nat) (oi : Oper) (d : Nat), ops[i]? = some oi → oi.dst = some d → (sp d).r ≠ none → ∀ f ∈ fins, f < i → ∃ e ∈ oi.after, e.on = f ∧ Region.binds .any e = true)
    (hO : ∀ (i : Nat) (oi : Oper), ops[i]? = some oi → Owed G P ops fins Q T0 df w0 sp i oi)
    (hE : ∀ a w, (∀ listed, (∀ i, i < ops.size → listed.getD i false = true) → St G ops fins T0 df w0 sp listed a w → Q .normal a w)) :
    ∀ (fuel : Nat) (listed : Array Bool) (a : Act) (w : World), leftOf listed = fuel → St G ops fins T0 df w0 sp listed a w → wpAny P .any ops Q fuel listed a w
  | 0, listed, a, w, hl, hst => by
    have hall : ∀ i, i < ops.size → listed.getD i false = true := fun i hi => leftOf_zero hl i (by rw [hst.lsize]; exact hi)
    refine ⟨?_, hE a w listed hall hst⟩
    refine List.eq_nil_iff_forall_not_mem.2 fun i hi => ?_
    obtain ⟨h1, o, ho, -⟩ := mem_ready.1 hi
    have hlt : i < ops.size := (Array.getElem?_eq_some_iff.1 ho).1
    have h2 := hall i hlt
    rw [Array.getD_eq_getD_getElem?, Array.getElem?_eq_getElem (by rw [hst.lsize]; exact hlt)] at h1 h2
    simp only [Option.getD_some] at h1 h2
    rw [h1] at h2
    cases h2
  | fuel + 1, listed, a, w, hl, hst => by
    refine ⟨fun h0 => hE a w listed (all_come hdep hst.lsize h0) hst, fun i hi => ?_⟩
    obtain ⟨h1, o, ho, hdeps⟩ := mem_ready.1 hi
    obtain ⟨d, hd, hds, hstep⟩ := hO i o ho
    have hlt : i < ops.size := (Array.getElem?_eq_some_iff.1 ho).1
    have hn : listed.getD i false = false := by
      rw [Array.getD_eq_getD_getElem?, Array.getElem?_eq_getElem (by rw [hst.lsize]; exact hlt)] at h1 ⊢
      exact h1
    refine wpOp_step ho fun K' hK => ?_
    refine hstep listed a w hst hn hdeps K' fun v w' hb hG hv hX => ?_
    refine hK _ _ (any_inv hD hdep hfin hO hE fuel _ _ _ ?_ (hst.step hD ho hd hds hn (fun f hf hfi hr => ?_) hdeps hb hG hv hX))
    · have := leftOf_set h1
      omega
    · obtain ⟨e, he, h3, h4⟩ := hfin i o d ho hd hr f hf hfi
      rw [← h3]
      exact hdeps e he h4

theorem leftOf_start (n : Nat) : leftOf (Array.replicate n false) = n := by
  unfold leftOf
  simp
theorem none_listed (n i : Nat) : (Array.replicate n false).getD i false = false := by
  rw [Array.getD_eq_getD_getElem?, Array.getElem?_replicate]
  split <;> rfl

/-- No two operations write one slot; each waits for earlier ones alone; the rows behind an operation of fins wait for it. -/
def freshB (ops : Array Oper) (fins rowSlots : List Nat) : Bool :=
  decide ((ops.toList.map (·.dst)).Nodup) && ops.toList.zipIdx.all fun p => (p.1.after.all fun e => decide (e.on < p.2)) && (!(rowSlots.any fun d => p.1.dst == some d) || fins.all fun f => decide (p.2 ≤ f) || p.1.after.any fun e => decide (e.on = f) && Region.binds .any e)

theorem fresh_dist {rs : List Nat} (h : freshB ops fins rs = true) : ∀ (i j : Nat) (oi oj : Oper) (d : Nat), ops[i]? = some oi → ops[j]? = some oj → oi.dst = some d → oj.dst = some d → i = j := by
  intro i j oi oj d hi hj hd hd'
  simp only [freshB, Bool.and_eq_true, decide_eq_true_eq] at h
  have hn := h.1
  have hi' : i < (ops.toList.map (·.dst)).length := by simpa using (Array.getElem?_eq_some_iff.1 hi).1
  have e1 : (ops.toList.map (·.dst))[i]? = some (some d) := by rw [List.getElem?_map, Array.getElem?_toList, hi]; simp [hd]
  have e2 : (ops.toList.map (·.dst))[j]? = some (some d) := by rw [List.getElem?_map, Array.getElem?_toList, hj]; simp [hd']
  exact (List.getElem?_inj hi' hn).1 (e1.trans e2.symm)
theorem fresh_at {rs : List Nat} (h : freshB ops fins rs = true) {i : Nat} {oi : Oper} (hi : ops[i]? = some oi) : (oi.after.all fun e => decide (e.on < i)) = true ∧ ((!(rs.any fun d => oi.dst == some d) || fins.all fun f => decide (i ≤ f) || oi.after.any fun e => decide (e.on = f) && Region.binds .any e) = true) := by
  simp only [freshB, Bool.and_eq_true, decide_eq_true_eq] at h
  have := List.all_eq_true.1 h.2 (oi, i) (by
    rw [List.mem_zipIdx_iff_getElem?, Array.getElem?_toList]
    exact hi)
  simpa only [Bool.and_eq_true] using this
theorem fresh_dep {rs : List Nat} (h : freshB ops fins rs = true) : ∀ (i : Nat) (oi : Oper), ops[i]? = some oi → ∀ e ∈ oi.after, e.on < i := by
  intro i oi hi e he
  simpa using (Array.all_eq_true_iff_forall_mem.1 (fresh_at h hi).1) e he
theorem fresh_fin {rs : List Nat} (h : freshB ops fins rs = true) (hrs : ∀ d, (sp d).r ≠ none → d ∈ rs) : ∀ (i : Nat) (oi : Oper) (d : Nat), ops[i]? = some oi → oi.dst = some d → (sp d).r ≠ none → ∀ f ∈ fins, f < i → ∃ e ∈ oi.after, e.on = f ∧ Region.binds .any e = true := by
  intro i oi d hi hd hr f hf hlt
  have h1 := (fresh_at h hi).2
  rw [Bool.or_eq_true] at h1
  rcases h1 with h1 | h1
  · exfalso
    have : (rs.any fun d => oi.dst == some d) = true := List.any_eq_true.2 ⟨d, hrs d hr, by rw [hd]; simp⟩
    rw [this] at h1
    cases h1
  · have h2 := List.all_eq_true.1 h1 f hf
    simp only [Bool.or_eq_true, decide_eq_true_eq] at h2
    rcases h2 with h2 | h2
    · omega
    · obtain ⟨k, hk, h3⟩ := Array.any_eq_true.1 h2
      simp only [Bool.and_eq_true, decide_eq_true_eq] at h3
      exact ⟨_, Array.getElem_mem hk, h3⟩

/-- Operation j waits for operation i, at once or through others. -/
def reaches (ops : Array Oper) : Nat → Nat → Nat → Bool
  | 0, j, i => decide (j = i)
  | n + 1, j, i => decide (j = i) || match ops[j]? with
    | none => false
    | some o => o.after.toList.any fun e => Region.binds .any e && reaches ops n e.on i

variable {listed : Array Bool} {a : Act} {w : World}
theorem St.reach (h : St G ops fins T0 df w0 sp listed a w) : ∀ (n j i : Nat), reaches ops n j i = true → listed.getD j false = true → listed.getD i false = true
  | 0, j, i, hr, hl => by
    simp only [reaches, decide_eq_true_eq] at hr
    subst hr
    exact hl
  | n + 1, j, i, hr, hl => by
    simp only [reaches, Bool.or_eq_true, decide_eq_true_eq] at hr
    rcases hr with rfl | hr
    · exact hl
    · cases ho : ops[j]? with
      | none => rw [ho] at hr; cases hr
      | some o =>
        rw [ho] at hr
        obtain ⟨e, he, h1⟩ := List.any_eq_true.1 hr
        simp only [Bool.and_eq_true] at h1
        exact h.reach n e.on i h1.2 (h.closed j o ho hl e (by simpa using he) h1.1)
/-- The value of slot d, which operation j has laid. -/
theorem St.valOf (h : St G ops fins T0 df w0 sp listed a w) (j d : Nat) (hj : (ops[j]?).bind (·.dst) = some d) (hl : listed.getD j false = true) {x : Value} (hx : (sp d).v = some x) : a.tmps[d]?.getD undef = x := by
  cases ho : ops[j]? with
  | none => rw [ho] at hj; cases hj
  | some oj =>
    rw [ho] at hj
    simpa using h.vals j oj d ho hj hl x hx
/-- The row in slot d, which operation j has laid, while operation i has not come. -/
theorem St.rowOf (h : St G ops fins T0 df w0 sp listed a w) {i : Nat} (hn : listed.getD i false = false) (j d : Nat) (hj : (ops[j]?).bind (·.dst) = some d) (hl : listed.getD j false = true) (hc : (fins.all fun f => decide (f ≤ j) || reaches ops 14 f i) = true) {e : TypeId} {size n : Nat} {cs : List Value} (hx : (sp d).r = some (e, size, n, cs)) :
    OwnC w w0.heap.size e size (a.tmps[d]?.getD undef) n cs ∧ ((sp d).full = true → ∃ g, a.tmps[d]?.getD undef = .slice (some g) n n) := by
  cases ho : ops[j]? with
  | none => rw [ho] at hj; cases hj
  | some oj =>
    rw [ho] at hj
    have := h.rows j oj d ho hj hl (fun f hf hlf => by
      have h1 := List.all_eq_true.1 hc f hf
      simp only [Bool.or_eq_true, decide_eq_true_eq] at h1
      rcases h1 with h1 | h1
      · exact h1
      · rw [h.reach 14 f i h1 hlf] at hn; cases hn) e size n cs hx
    simpa using this
/-- The same at the region's end. -/
theorem St.rowEnd (h : St G ops fins T0 df w0 sp listed a w) (j d : Nat) (hj : (ops[j]?).bind (·.dst) = some d) (hl : listed.getD j false = true) (hc : (fins.all fun f => decide (f ≤ j)) = true) {e : TypeId} {size n : Nat} {cs : List Value} (hx : (sp d).r = some (e, size, n, cs)) :
    OwnC w w0.heap.size e size (a.tmps[d]?.getD undef) n cs := by
  cases ho : ops[j]? with
  | none => rw [ho] at hj; cases hj
  | some oj =>
    rw [ho] at hj
    have := h.rows j oj d ho hj hl (fun f hf hlf => by
      have h1 := List.all_eq_true.1 hc f hf
      simpa using h1) e size n cs hx
    simpa using this.1
/-- What slot t held, while operation i has not come. -/
theorem St.oldOf (h : St G ops fins T0 df w0 sp listed a w) {i : Nat} (hn : listed.getD i false = false) (t : Nat) (hc : (ops.toList.zipIdx.all fun p => p.1.dst != some t || reaches ops 14 p.2 i) = true) {x : Value} (hx : T0.getD t undef = x) : a.tmps[t]?.getD undef = x := by
  have := (h.old t fun k ok hk hkd => by
    have h1 := List.all_eq_true.1 hc (ok, k) (by rw [List.mem_zipIdx_iff_getElem?, Array.getElem?_toList]; exact hk)
    simp only [Bool.or_eq_true] at h1
    rcases h1 with h1 | h1
    · rw [hkd] at h1; simp at h1
    · cases hl : listed.getD k false with
      | false => rfl
      | true => rw [h.reach 14 k i h1 hl] at hn; cases hn).trans hx
  simpa using this
/-- A slot that no operation writes. -/
theorem St.oldEnd (h : St G ops fins T0 df w0 sp listed a w) (t : Nat) (hc : (ops.toList.all fun o => o.dst != some t) = true) {x : Value} (hx : T0.getD t undef = x) : a.tmps[t]?.getD undef = x := by
  have := (h.old t fun k ok hk hkd => by
    have h1 := List.all_eq_true.1 hc ok (by rw [List.mem_iff_getElem?]; exact ⟨k, by rw [Array.getElem?_toList]; exact hk⟩)
    rw [hkd] at h1; simp at h1).trans hx
  simpa using this
theorem dep_of {oi : Oper} (h : ∀ e ∈ oi.after, Region.binds .any e = true → listed.getD e.on false = true) (k : Nat) (hk : oi.after.any (fun e => decide (e.on = k) && Region.binds .any e) = true) : listed.getD k false = true := by
  obtain ⟨i, hi, h1⟩ := Array.any_eq_true.1 hk
  simp only [Bool.and_eq_true, decide_eq_true_eq] at h1
  rw [← h1.1]
  exact h _ (Array.getElem_mem hi) h1.2

/-- The operations one by one. -/
def OwedAll (G : World → Prop) (P : Program) (ops : Array Oper) (fins : List Nat) (Q : Exit → Act → World → Prop) (T0 : Array Value) (df : List Deferred) (w0 : World) (sp : Nat → Sp) : Nat → List Oper → Prop
  | _, [] => True
  | i, o :: r => Owed G P ops fins Q T0 df w0 sp i o ∧ OwedAll G P ops fins Q T0 df w0 sp (i + 1) r
theorem OwedAll.mem : ∀ {l : List Oper} {k : Nat}, OwedAll G P ops fins Q T0 df w0 sp k l → ∀ (i : Nat) o, l[i]? = some o → Owed G P ops fins Q T0 df w0 sp (k + i) o
  | [], _, _, i, o, hx => by simp at hx
  | o :: r, k, h, 0, x, hx => by
    simp at hx
    subst hx
    exact h.1
  | o :: r, k, h, i + 1, x, hx => by
    have := h.2.mem i x (by simpa using hx)
    rwa [Nat.add_right_comm, Nat.add_assoc] at this

/-- What is said of the slots, as a list. -/
def spOf (l : List (Nat × Sp)) (d : Nat) : Sp := (l.lookup d).getD (Sp.val undef)
theorem spOf_rows (l : List (Nat × Sp)) (d : Nat) (h : (spOf l d).r ≠ none) : d ∈ (l.filter fun p => p.2.r.isSome).map (·.1) := by
  unfold spOf at h
  cases hl : l.lookup d with
  | none => rw [hl] at h; exact absurd rfl h
  | some s =>
    rw [hl] at h
    have hm : (d, s) ∈ l := by
      clear h
      induction l with
      | nil => simp at hl
      | cons p r ih =>
        obtain ⟨k, t⟩ := p
        simp only [List.lookup_cons] at hl
        by_cases hk : d = k
        · subst hk
          simp at hl
          subst hl
          exact List.mem_cons_self
        · have : (d == k) = false := by simpa using hk
          rw [this] at hl
          exact List.mem_cons_of_mem _ (ih hl)
    exact List.mem_map.2 ⟨(d, s), List.mem_filter.2 ⟨hm, by cases hr : s.r with
      | none => exact absurd hr h
      | some _ => simp⟩, rfl⟩

theorem region_invG (G : World → Prop) {id : Nat} (fins : List Nat) (w0 : World) (l : List (Nat × Sp)) (rs : List Nat) (hrs : (l.filter fun p => p.2.r.isSome).map (·.1) = rs) (hm : P.follows .mixedOrders = true) (hG : Below w0.heap.size w0 w.drew) (hX : G w.drew) (hf : freshB ops fins rs = true)
    (hO : OwedAll G P ops fins Q a.tmps a.defers w0 (spOf l) 0 ops.toList)
    (hE : ∀ a' w' listed, (∀ i, i < ops.size → listed.getD i false = true) → St G ops fins a.tmps a.defers w0 (spOf l) listed a' w' → Q .normal a' w') : (Code.region id ops true).wp P Q a w := by
  subst hrs
  refine wp_region_any hm ?_
  refine any_inv (fresh_dist hf) (fresh_dep hf) (fresh_fin hf (spOf_rows l)) (fun i oi hi => ?_) (fun a' w' listed hl hs => hE a' w' listed hl hs) _ _ a w.drew (leftOf_start _) ⟨by simp, rfl, rfl, hG, hX, fun f hf j oj d hfj hj hd hr hl => ?_, fun j oj hj hl => ?_, fun t _ => rfl, fun i oi d hi hd hl => ?_, fun i oi d hi hd hl => ?_⟩
  · have := hO.mem i oi (by rw [Array.getElem?_toList]; exact hi)
    rwa [Nat.zero_add] at this
  all_goals (rw [none_listed] at hl; cases hl)
/-- The same, where no more is kept. -/
theorem region_inv {id : Nat} (fins : List Nat) (w0 : World) (l : List (Nat × Sp)) (rs : List Nat) (hrs : (l.filter fun p => p.2.r.isSome).map (·.1) = rs) (hm : P.follows .mixedOrders = true) (hG : Below w0.heap.size w0 w.drew) (hf : freshB ops fins rs = true)
    (hO : OwedAll (fun _ => True) P ops fins Q a.tmps a.defers w0 (spOf l) 0 ops.toList)
    (hE : ∀ a' w' listed, (∀ i, i < ops.size → listed.getD i false = true) → St (fun _ => True) ops fins a.tmps a.defers w0 (spOf l) listed a' w' → Q .normal a' w') : (Code.region id ops true).wp P Q a w :=
  region_invG (fun _ => True) fins w0 l rs hrs hm hG trivial hf hO hE
end

end Go.Proofs.YthdagjlgfffpbaaGreat
