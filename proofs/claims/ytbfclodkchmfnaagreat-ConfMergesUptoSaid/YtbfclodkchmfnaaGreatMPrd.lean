/-
  A REGION THAT DRAWS ITS ORDER, BY AN INVARIANT (after MInv), WHOSE OPERATIONS STORE NOTHING: each result has a property, of its value and of the world, that whatever leaves the old blocks alone keeps. By the verifier.
-/
import Derived.Test.YtbfclodkchmfnaaGreatMBox
set_option linter.unusedVariables false
namespace Go.Proofs.YtbfclodkchmfnaaGreat
open Go.RowKit

/-- A property that is kept. -/
def Keeps (R : Value → World → Prop) : Prop := ∀ v w w', R v w → Below w.heap.size w w' → R v w'

def isV (x : Value) : Value → World → Prop := fun v _ => v = x
def isRow (base : Nat) (e : TypeId) (size n : Nat) (cs : List Value) : Value → World → Prop := fun v w => OwnC w base e size v n cs
theorem isV_keeps (x : Value) : Keeps (isV x) := fun _ _ _ h _ => h
theorem isRow_keeps (base : Nat) (e : TypeId) (size n : Nat) (cs : List Value) : Keeps (isRow base e size n cs) := fun _ _ _ h hb => OwnC.below h hb

section
variable {P : Program} {ops : Array Oper} {Q : Exit → Act → World → Prop}

structure Sr (ops : Array Oper) (T0 : Array Value) (df : List Deferred) (w0 : World) (R : Nat → Value → World → Prop) (listed : Array Bool) (a : Act) (w : World) : Prop where
  lsize : listed.size = ops.size
  size : a.tmps.size = T0.size
  defers : a.defers = df
  glob : Below w0.heap.size w0 w
  closed : ∀ (j : Nat) (oj : Oper), ops[j]? = some oj → listed.getD j false = true → ∀ e ∈ oj.after, Region.binds .any e = true → listed.getD e.on false = true
  old : ∀ (t : Nat), (∀ (i : Nat) (oi : Oper), ops[i]? = some oi → oi.dst = some t → listed.getD i false = false) → a.tmps.getD t undef = T0.getD t undef
  facts : ∀ (i : Nat) (oi : Oper) (d : Nat), ops[i]? = some oi → oi.dst = some d → listed.getD i false = true → R d (a.tmps.getD d undef) w

variable {T0 : Array Value} {df : List Deferred} {w0 : World} {R : Nat → Value → World → Prop}

theorem Sr.step {listed : Array Bool} {a : Act} {w w' : World} (h : Sr ops T0 df w0 R listed a w) (hR : ∀ d, Keeps (R d))
    (hD : ∀ (i j : Nat) (oi oj : Oper) (d : Nat), ops[i]? = some oi → ops[j]? = some oj → oi.dst = some d → oj.dst = some d → i = j)
    {i : Nat} {oi : Oper} {d : Nat} (hi : ops[i]? = some oi) (hd : oi.dst = some d) (hs : d < T0.size) (hn : listed.getD i false = false)
    (hC : ∀ e ∈ oi.after, Region.binds .any e = true → listed.getD e.on false = true) {v : Value} (hb : Below w.heap.size w w') (hv : R d v w') :
    Sr ops T0 df w0 R (listed.setIfInBounds i true) (a.put oi.dst v) w' := by
  have hil : i < listed.size := by rw [h.lsize]; exact (Array.getElem?_eq_some_iff.1 hi).1
  rw [hd]
  refine ⟨by simpa using h.lsize, by simpa [Act.put] using h.size, by simpa [Act.put] using h.defers, h.glob.trans (hb.mono h.glob.size), fun j oj hj hl e he hbe => ?_, fun t ht => ?_, fun j oj dj hj hdj hl => ?_⟩
  · by_cases hij : i = j
    · subst hij
      rw [hi] at hj
      injection hj with hj
      subst hj
      exact listed_mono hil (hC e he hbe)
    · rw [getD_set hij] at hl
      exact listed_mono hil (h.closed j oj hj hl e he hbe)
  · have hne : d ≠ t := fun e => by
      have := ht i oi hi (by rw [hd, e])
      rw [getD_set_same hil] at this
      cases this
    rw [getD_put hne]
    refine h.old t fun k ok hk hkd => ?_
    have := ht k ok hk hkd
    by_cases hik : i = k
    · subst hik
      exact hn
    · rwa [getD_set hik] at this
  · by_cases hij : i = j
    · subst hij
      rw [hi] at hj
      injection hj with hj
      subst hj
      rw [hd] at hdj
      injection hdj with hdj
      subst hdj
      rw [getD_put_same (by rw [h.size]; exact hs)]
      exact hv
    · have hne : d ≠ dj := fun e => hij (hD i j oi oj d hi hj hd (by rw [hdj, e]))
      rw [getD_put hne]
      rw [getD_set hij] at hl
      exact hR _ _ _ _ (h.facts j oj dj hj hdj hl) hb

/-- What is owed for an operation. -/
def OwedP (P : Program) (ops : Array Oper) (Q : Exit → Act → World → Prop) (T0 : Array Value) (df : List Deferred) (w0 : World) (R : Nat → Value → World → Prop) (i : Nat) (oi : Oper) : Prop :=
  ∃ d, oi.dst = some d ∧ d < T0.size ∧ ∀ (listed : Array Bool) (a : Act) (w : World), Sr ops T0 df w0 R listed a w → listed.getD i false = false → (∀ e ∈ oi.after, Region.binds .any e = true → listed.getD e.on false = true) →
    ∀ K : Act → World → Prop, (∀ v w', Below w.heap.size w w' → R d v w' → K (a.put oi.dst v) w') →
      if Region.wanted oi (yielded ops a.tmps) = true then Oper.wp P oi a w K Q else K (a.put oi.dst undef) w

theorem any_invP (hR : ∀ d, Keeps (R d)) (hD : ∀ (i j : Nat) (oi oj : Oper) (d : Nat), ops[i]? = some oi → ops[j]? = some oj → oi.dst = some d → oj.dst = some d → i = j)
    (hdep : ∀ (i : Nat) (oi : Oper), ops[i]? = some oi → ∀ e ∈ oi.after, e.on < i)
    (hO : ∀ (i : Nat) (oi : Oper), ops[i]? = some oi → OwedP P ops Q T0 df w0 R i oi)
    (hE : ∀ a w listed, (∀ i, i < ops.size → listed.getD i false = true) → Sr ops T0 df w0 R listed a w → Q .normal a w) :
    ∀ (fuel : Nat) (listed : Array Bool) (a : Act) (w : World), leftOf listed = fuel → Sr ops T0 df w0 R listed a w → wpAny P .any ops Q fuel listed a w
  | 0, listed, a, w, hl, hst => wpAny_done hst.lsize (fun i hi => leftOf_zero hl i (by rw [hst.lsize]; exact hi)) (hE a w listed (fun i hi => leftOf_zero hl i (by rw [hst.lsize]; exact hi)) hst)
  | fuel + 1, listed, a, w, hl, hst => by
    refine ⟨fun h0 => hE a w listed (all_come hdep hst.lsize h0) hst, fun i hi => ?_⟩
    obtain ⟨h1, o, ho, hdeps⟩ := mem_ready.1 hi
    obtain ⟨d, hd, hds, hstep⟩ := hO i o ho
    have hlt : i < ops.size := (Array.getElem?_eq_some_iff.1 ho).1
    have hn : listed.getD i false = false := by
      rw [Array.getD_eq_getD_getElem?, Array.getElem?_eq_getElem (by rw [hst.lsize]; exact hlt)] at h1 ⊢
      exact h1
    refine wpOp_step ho fun K' hK => ?_
    refine hstep listed a w hst hn hdeps K' fun v w' hb hv => ?_
    refine hK _ _ (any_invP hR hD hdep hO hE fuel _ _ _ ?_ (hst.step hR hD ho hd hds hn hdeps hb hv))
    have := leftOf_set h1
    omega

/-- The properties by slots. -/
def prOf (l : List (Nat × (Value → World → Prop))) (d : Nat) : Value → World → Prop := (l.lookup d).getD (fun _ _ => True)
def KeepsAll : List (Nat × (Value → World → Prop)) → Prop
  | [] => True
  | p :: r => Keeps p.2 ∧ KeepsAll r
theorem prOf_keeps {l : List (Nat × (Value → World → Prop))} (h : KeepsAll l) (d : Nat) : Keeps (prOf l d) := by
  unfold prOf
  induction l with
  | nil => exact fun _ _ _ h _ => h
  | cons p r ih =>
    obtain ⟨k, t⟩ := p
    simp only [List.lookup_cons]
    cases hk : d == k with
    | true => exact h.1
    | false => exact ih h.2

/-- The operations one by one. -/
def OwedAllP (P : Program) (ops : Array Oper) (Q : Exit → Act → World → Prop) (T0 : Array Value) (df : List Deferred) (w0 : World) (R : Nat → Value → World → Prop) : Nat → List Oper → Prop
  | _, [] => True
  | i, o :: r => OwedP P ops Q T0 df w0 R i o ∧ OwedAllP P ops Q T0 df w0 R (i + 1) r
theorem OwedAllP.mem : ∀ {l : List Oper} {k : Nat}, OwedAllP P ops Q T0 df w0 R k l → ∀ (i : Nat) o, l[i]? = some o → OwedP P ops Q T0 df w0 R (k + i) o
  | [], _, _, i, o, hx => by simp at hx
  | o :: r, k, h, 0, x, hx => by
    simp at hx
    subst hx
    exact h.1
  | o :: r, k, h, i + 1, x, hx => by
    have := h.2.mem i x (by simpa using hx)
    rwa [Nat.add_right_comm, Nat.add_assoc] at this

theorem region_invP {id : Nat} {a : Act} {w : World} (w0 : World) (l : List (Nat × (Value → World → Prop))) (hl : KeepsAll l) (hm : P.follows .mixedOrders = true) (hG : Below w0.heap.size w0 w.drew) (h : freshB ops [] [] = true)
    (hO : OwedAllP P ops Q a.tmps a.defers w0 (prOf l) 0 ops.toList)
    (hE : ∀ a' w' listed, (∀ i, i < ops.size → listed.getD i false = true) → Sr ops a.tmps a.defers w0 (prOf l) listed a' w' → Q .normal a' w') : (Code.region id ops true).wp P Q a w := by
  refine wp_region_any hm ?_
  refine any_invP (prOf_keeps hl) (fresh_dist h) (fresh_dep h) (fun i oi hi => ?_) (fun a' w' listed hl hs => hE a' w' listed hl hs) _ _ a w.drew (leftOf_start _) ⟨by simp, rfl, rfl, hG, fun j oj hj hl => ?_, fun t _ => rfl, fun i oi d hi hd hl => ?_⟩
  · have := hO.mem i oi (by rw [Array.getElem?_toList]; exact hi)
    rwa [Nat.zero_add] at this
  all_goals (rw [none_listed] at hl; cases hl)

variable {listed : Array Bool} {a : Act} {w : World}
theorem Sr.reach (h : Sr ops T0 df w0 R listed a w) : ∀ (n j i : Nat), reaches ops n j i = true → listed.getD j false = true → listed.getD i false = true
  | 0, j, i, hr, hl => by
    simp only [reaches, decide_eq_true_eq] at hr
    subst hr
    exact hl
  | n + 1, j, i, hr, hl => by
    simp only [reaches, Bool.or_eq_true, decide_eq_true_eq] at hr
    rcases hr with rfl | hr
    · exact hl
    · cases ho : ops[j]? with
      | none => rw [ho] at hr; cases hr
      | some o =>
        rw [ho] at hr
        obtain ⟨e, he, h1⟩ := List.any_eq_true.1 hr
        simp only [Bool.and_eq_true] at h1
        exact h.reach n e.on i h1.2 (h.closed j o ho hl e (by simpa using he) h1.1)
theorem Sr.fact (h : Sr ops T0 df w0 R listed a w) (j d : Nat) (hj : (ops[j]?).bind (·.dst) = some d) (hl : listed.getD j false = true) : R d (a.tmps[d]?.getD undef) w := by
  cases ho : ops[j]? with
  | none => rw [ho] at hj; cases hj
  | some oj =>
    rw [ho] at hj
    simpa using h.facts j oj d ho hj hl
theorem Sr.oldOf (h : Sr ops T0 df w0 R listed a w) {i : Nat} (hn : listed.getD i false = false) (t : Nat) (hc : (ops.toList.zipIdx.all fun p => p.1.dst != some t || reaches ops 14 p.2 i) = true) {x : Value} (hx : T0.getD t undef = x) : a.tmps[t]?.getD undef = x := by
  have := (h.old t fun k ok hk hkd => by
    have h1 := List.all_eq_true.1 hc (ok, k) (zip_mem hk)
    simp only [Bool.or_eq_true] at h1
    rcases h1 with h1 | h1
    · rw [hkd] at h1; simp at h1
    · cases hl : listed.getD k false with
      | false => rfl
      | true => rw [h.reach 14 k i h1 hl] at hn; cases hn).trans hx
  simpa using this
theorem Sr.oldEnd (h : Sr ops T0 df w0 R listed a w) (t : Nat) (hc : (ops.toList.all fun o => o.dst != some t) = true) {x : Value} (hx : T0.getD t undef = x) : a.tmps[t]?.getD undef = x := by
  have := (h.old t fun k ok hk hkd => by
    have h1 := List.all_eq_true.1 hc ok (by rw [List.mem_iff_getElem?]; exact ⟨k, by rw [Array.getElem?_toList]; exact hk⟩)
    rw [hkd] at h1; simp at h1).trans hx
  simpa using this
end

end Go.Proofs.YtbfclodkchmfnaaGreat
