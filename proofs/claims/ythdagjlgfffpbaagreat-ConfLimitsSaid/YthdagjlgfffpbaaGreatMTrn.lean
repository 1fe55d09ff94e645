/-
  A REGION THAT DRAWS ITS ORDER, BY AN INVARIANT (after MPrd), ONE OF WHOSE OPERATIONS MAY TURN BLOCKS X THAT WERE THERE (an append in place); with or without a store as its last operation. By the verifier.
-/
import Derived.Test.YthdagjlgfffpbaaGreatMLst
set_option linter.unusedVariables false
namespace Go.Proofs.YthdagjlgfffpbaaGreat
open Go.RowKit

/-- A property that the turning of X leaves. -/
def KeepsX (X : Nat → Prop) (R : Value → World → Prop) : Prop := ∀ v w w', R v w → Turn X w w' → R v w'

theorem isV_x (X : Nat → Prop) (x : Value) : KeepsX X (isV x) := fun _ _ _ h _ => h
theorem isRow_x {X : Nat → Prop} {base : Nat} (hX : ∀ b, X b → b < base) (e : TypeId) (size n : Nat) (cs : List Value) : KeepsX X (isRow base e size n cs) := fun v w w' h ht => by
  have h' : OwnC w base e size v n cs := h
  refine OwnC.turn ht h' fun k hk hx => ?_
  obtain ⟨A, c, rfl, -⟩ := OwnC.cells h'
  have := (World.ownsRow.lt h' k hk).1
  have := hX k hx
  omega

section
variable {P : Program} {ops : Array Oper} {Q : Exit → Act → World → Prop}

structure Sx (ops : Array Oper) (T0 : Array Value) (df : List Deferred) (w0 : World) (X : Nat → Prop) (ix : Nat) (R : Nat → Value → World → Prop) (listed : Array Bool) (a : Act) (w : World) : Prop where
  lsize : listed.size = ops.size
  size : a.tmps.size = T0.size
  defers : a.defers = df
  glob : Turn X w0 w
  calm : listed.getD ix false = false → Below w0.heap.size w0 w
  closed : ∀ (j : Nat) (oj : Oper), ops[j]? = some oj → listed.getD j false = true → ∀ e ∈ oj.after, Region.binds .any e = true → listed.getD e.on false = true
  old : ∀ (t : Nat), (∀ (i : Nat) (oi : Oper), ops[i]? = some oi → oi.dst = some t → listed.getD i false = false) → a.tmps.getD t undef = T0.getD t undef
  facts : ∀ (i : Nat) (oi : Oper) (d : Nat), ops[i]? = some oi → oi.dst = some d → listed.getD i false = true → R d (a.tmps.getD d undef) w

variable {T0 : Array Value} {df : List Deferred} {w0 : World} {X : Nat → Prop} {ix : Nat} {R : Nat → Value → World → Prop}

/-- The operations that lay the slots ex wait for operation ix. -/
def exB (ops : Array Oper) (ix : Nat) (ex : List Nat) : Bool := ops.toList.zipIdx.all fun p => ex.all fun d => p.1.dst != some d || reaches ops 14 p.2 ix

theorem Sx.reach {listed : Array Bool} {a : Act} {w : World} (h : Sx ops T0 df w0 X ix R listed a w) : ∀ (n j i : Nat), reaches ops n j i = true → listed.getD j false = true → listed.getD i false = true
  | 0, j, i, hr, hl => by
    simp only [reaches, decide_eq_true_eq] at hr
    subst hr
    exact hl
  | n + 1, j, i, hr, hl => by
    simp only [reaches, Bool.or_eq_true, decide_eq_true_eq] at hr
    rcases hr with rfl | hr
    · exact hl
    · cases ho : ops[j]? with
      | none => rw [ho] at hr; cases hr
      | some o =>
        rw [ho] at hr
        obtain ⟨e, he, h1⟩ := List.any_eq_true.1 hr
        simp only [Bool.and_eq_true] at h1
        exact h.reach n e.on i h1.2 (h.closed j o ho hl e (by simpa using he) h1.1)

theorem Sx.step {listed : Array Bool} {a : Act} {w w' : World} (h : Sx ops T0 df w0 X ix R listed a w) (ex : List Nat) (hex : exB ops ix ex = true) (hR : ∀ d, Keeps (R d)) (hRX : ∀ d, d ∉ ex → KeepsX X (R d))
    (hD : ∀ (i j : Nat) (oi oj : Oper) (d : Nat), ops[i]? = some oi → ops[j]? = some oj → oi.dst = some d → oj.dst = some d → i = j)
    {i : Nat} {oi : Oper} {d : Nat} (hi : ops[i]? = some oi) (hd : oi.dst = some d) (hs : d < T0.size) (hn : listed.getD i false = false)
    (hC : ∀ e ∈ oi.after, Region.binds .any e = true → listed.getD e.on false = true) {v : Value} (hb : Below w.heap.size w w' ∨ (i = ix ∧ Turn X w w')) (hv : R d v w') :
    Sx ops T0 df w0 X ix R (listed.setIfInBounds i true) (a.put oi.dst v) w' := by
  have hil : i < listed.size := by rw [h.lsize]; exact (Array.getElem?_eq_some_iff.1 hi).1
  have ht : Turn X w w' := by
    rcases hb with hb | hb
    · exact Turn.of_below hb
    · exact hb.2
  rw [hd]
  refine ⟨by simpa using h.lsize, by simpa [Act.put] using h.size, by simpa [Act.put] using h.defers, h.glob.trans ht (fun _ _ e => e), fun hx => ?_, fun j oj hj hl e he hbe => ?_, fun t ht => ?_, fun j oj dj hj hdj hl => ?_⟩
  · rcases hb with hb | hb
    · have hne : i ≠ ix := fun e => by
        rw [← e, getD_set_same hil] at hx
        cases hx
      rw [getD_set hne] at hx
      have := h.calm hx
      exact this.trans (hb.mono this.size)
    · rw [← hb.1, getD_set_same hil] at hx
      cases hx
  · by_cases hij : i = j
    · subst hij
      rw [hi] at hj
      injection hj with hj
      subst hj
      exact listed_mono hil (hC e he hbe)
    · rw [getD_set hij] at hl
      exact listed_mono hil (h.closed j oj hj hl e he hbe)
  · have hne : d ≠ t := fun e => by
      have := ht i oi hi (by rw [hd, e])
      rw [getD_set_same hil] at this
      cases this
    rw [getD_put hne]
    refine h.old t fun k ok hk hkd => ?_
    have := ht k ok hk hkd
    by_cases hik : i = k
    · subst hik
      exact hn
    · rwa [getD_set hik] at this
  · by_cases hij : i = j
    · subst hij
      rw [hi] at hj
      injection hj with hj
      subst hj
      rw [hd] at hdj
      injection hdj with hdj
      subst hdj
      rw [getD_put_same (by rw [h.size]; exact hs)]
      exact hv
    · have hne : d ≠ dj := fun e => hij (hD i j oi oj d hi hj hd (by rw [hdj, e]))
      rw [getD_put hne]
      rw [getD_set hij] at hl
      rcases hb with hb | hb
      · exact hR _ _ _ _ (h.facts j oj dj hj hdj hl) hb
      · refine hRX _ (fun hm => ?_) _ _ _ (h.facts j oj dj hj hdj hl) hb.2
        have h6 := List.all_eq_true.1 (List.all_eq_true.1 hex (oj, j) (zip_mem hj)) dj hm
        simp only [Bool.or_eq_true, bne_iff_ne] at h6
        rcases h6 with h6 | h6
        · exact h6 hdj
        · have h7 := h.reach 14 j ix h6 hl
          rw [← hb.1, hn] at h7
          cases h7

def OwedX (P : Program) (ops : Array Oper) (Q : Exit → Act → World → Prop) (T0 : Array Value) (df : List Deferred) (w0 : World) (X : Nat → Prop) (ix : Nat) (R : Nat → Value → World → Prop) (i : Nat) (oi : Oper) : Prop :=
  ∃ d, oi.dst = some d ∧ d < T0.size ∧ ∀ (listed : Array Bool) (a : Act) (w : World), Sx ops T0 df w0 X ix R listed a w → listed.getD i false = false → (∀ e ∈ oi.after, Region.binds .any e = true → listed.getD e.on false = true) →
    ∀ K : Act → World → Prop, (∀ v w', (Below w.heap.size w w' ∨ (i = ix ∧ Turn X w w')) → R d v w' → K (a.put oi.dst v) w') →
      if Region.wanted oi (yielded ops a.tmps) = true then Oper.wp P oi a w K Q else K (a.put oi.dst undef) w

theorem any_invX (ex : List Nat) (hex : exB ops ix ex = true) (hR : ∀ d, Keeps (R d)) (hRX : ∀ d, d ∉ ex → KeepsX X (R d)) (hD : ∀ (i j : Nat) (oi oj : Oper) (d : Nat), ops[i]? = some oi → ops[j]? = some oj → oi.dst = some d → oj.dst = some d → i = j)
    (hdep : ∀ (i : Nat) (oi : Oper), ops[i]? = some oi → ∀ e ∈ oi.after, e.on < i)
    (hO : ∀ (i : Nat) (oi : Oper), ops[i]? = some oi → OwedX P ops Q T0 df w0 X ix R i oi)
    (hE : ∀ a w listed, (∀ i, i < ops.size → listed.getD i false = true) → Sx ops T0 df w0 X ix R listed a w → Q .normal a w) :
    ∀ (fuel : Nat) (listed : Array Bool) (a : Act) (w : World), leftOf listed = fuel → Sx ops T0 df w0 X ix R listed a w → wpAny P .any ops Q fuel listed a w
  | 0, listed, a, w, hl, hst => wpAny_done hst.lsize (fun i hi => leftOf_zero hl i (by rw [hst.lsize]; exact hi)) (hE a w listed (fun i hi => leftOf_zero hl i (by rw [hst.lsize]; exact hi)) hst)
  | fuel + 1, listed, a, w, hl, hst => by
    refine ⟨fun h0 => hE a w listed (all_come hdep hst.lsize h0) hst, fun i hi => ?_⟩
    obtain ⟨h1, o, ho, hdeps⟩ := mem_ready.1 hi
    obtain ⟨d, hd, hds, hstep⟩ := hO i o ho
    have hlt : i < ops.size := (Array.getElem?_eq_some_iff.1 ho).1
    have hn : listed.getD i false = false := by
      rw [Array.getD_eq_getD_getElem?, Array.getElem?_eq_getElem (by rw [hst.lsize]; exact hlt)] at h1 ⊢
      exact h1
    refine wpOp_step ho fun K' hK => ?_
    refine hstep listed a w hst hn hdeps K' fun v w' hb hv => ?_
    refine hK _ _ (any_invX ex hex hR hRX hD hdep hO hE fuel _ _ _ ?_ (hst.step ex hex hR hRX hD ho hd hds hn hdeps hb hv))
    have := leftOf_set h1
    omega

theorem Sx.others {listed : Array Bool} {a : Act} {w : World} (h : Sx ops T0 df w0 X ix R listed a w) {k : Nat} (hk : lastB ops k = true) {ok : Oper} (ho : ops[k]? = some ok) (hdep : ∀ e ∈ ok.after, Region.binds .any e = true → listed.getD e.on false = true) : ∀ i, i < ops.size → i ≠ k → listed.getD i false = true := by
  intro i hi hne
  have h1 := List.all_eq_true.1 hk i (by simpa using hi)
  rw [ho] at h1
  simp only [Bool.or_eq_true, decide_eq_true_eq] at h1
  rcases h1 with h1 | h1
  · exact absurd h1 hne
  · obtain ⟨e, he, h2⟩ := List.any_eq_true.1 h1
    simp only [Bool.and_eq_true] at h2
    exact h.reach 14 e.on i h2.2 (hdep e (by simpa using he) h2.1)

theorem any_invXL (k : Nat) (hk : lastB ops k = true) (ex : List Nat) (hex : exB ops ix ex = true) (hR : ∀ d, Keeps (R d)) (hRX : ∀ d, d ∉ ex → KeepsX X (R d)) (hD : ∀ (i j : Nat) (oi oj : Oper) (d : Nat), ops[i]? = some oi → ops[j]? = some oj → oi.dst = some d → oj.dst = some d → i = j)
    (hdep : ∀ (i : Nat) (oi : Oper), ops[i]? = some oi → ∀ e ∈ oi.after, e.on < i)
    (hO : ∀ (i : Nat) (oi : Oper), i ≠ k → ops[i]? = some oi → OwedX P ops Q T0 df w0 X ix R i oi) (hkl : k < ops.size)
    (hL : ∀ (ok : Oper) (listed : Array Bool) (a : Act) (w : World), ops[k]? = some ok → Sx ops T0 df w0 X ix R listed a w → listed.getD k false = false → (∀ i, i < ops.size → i ≠ k → listed.getD i false = true) →
      ∀ K : Act → World → Prop, (∀ a' w', Q .normal a' w' → K a' w') → if Region.wanted ok (yielded ops a.tmps) = true then Oper.wp P ok a w K Q else K (a.put ok.dst undef) w) :
    ∀ (fuel : Nat) (listed : Array Bool) (a : Act) (w : World), leftOf listed = fuel → listed.getD k false = false → Sx ops T0 df w0 X ix R listed a w → wpAny P .any ops Q fuel listed a w
  | 0, listed, a, w, hl, hn, hst => by
    exfalso
    have := leftOf_zero hl k (by rw [hst.lsize]; exact hkl)
    rw [hn] at this
    cases this
  | fuel + 1, listed, a, w, hl, hn, hst => by
    refine ⟨fun h0 => ?_, fun i hi => ?_⟩
    · exfalso
      have := all_come hdep hst.lsize h0 k hkl
      rw [hn] at this
      cases this
    obtain ⟨h1, o, ho, hdeps⟩ := mem_ready.1 hi
    have hlt : i < ops.size := (Array.getElem?_eq_some_iff.1 ho).1
    have hni : listed.getD i false = false := by
      rw [Array.getD_eq_getD_getElem?, Array.getElem?_eq_getElem (by rw [hst.lsize]; exact hlt)] at h1 ⊢
      exact h1
    refine wpOp_step ho fun K' hK => ?_
    by_cases hik : i = k
    · subst hik
      have hoth := hst.others hk ho hdeps
      refine hL o listed a w ho hst hni hoth K' fun a' w' hq => hK _ _ ?_
      refine wpAny_done (by simpa using hst.lsize) (fun j hj => ?_) hq
      by_cases hij : i = j
      · subst hij
        exact getD_set_same (by rw [hst.lsize]; exact hj) _
      · rw [getD_set hij]
        exact hoth j hj (fun e => hij e.symm)
    · obtain ⟨d, hd, hds, hstep⟩ := hO i o hik ho
      refine hstep listed a w hst hni hdeps K' fun v w' hb hv => ?_
      refine hK _ _ (any_invXL k hk ex hex hR hRX hD hdep hO hkl hL fuel _ _ _ ?_ ?_ (hst.step ex hex hR hRX hD ho hd hds hni hdeps hb hv))
      · have := leftOf_set h1
        omega
      · rw [getD_set hik]
        exact hn

/-- The properties by slots, that of dx apart. -/
def KeepsAllX (X : Nat → Prop) (ex : List Nat) : List (Nat × (Value → World → Prop)) → Prop
  | [] => True
  | p :: r => (Keeps p.2 ∧ (p.1 ∉ ex → KeepsX X p.2)) ∧ KeepsAllX X ex r
theorem KeepsAllX.all {X : Nat → Prop} {ex : List Nat} : ∀ {l : List (Nat × (Value → World → Prop))}, KeepsAllX X ex l → KeepsAll l
  | [], _ => trivial
  | p :: r, h => ⟨h.1.1, h.2.all⟩
theorem KeepsAllX.of {X : Nat → Prop} {ex : List Nat} {l : List (Nat × (Value → World → Prop))} (h : KeepsAllX X ex l) (d : Nat) (hd : d ∉ ex) : KeepsX X (prOf l d) := by
  unfold prOf
  induction l with
  | nil => exact fun _ _ _ h _ => h
  | cons p r ih =>
    obtain ⟨k, t⟩ := p
    simp only [List.lookup_cons]
    cases hk : d == k with
    | true =>
      have e1 : d = k := by simpa using hk
      exact h.1.2 (fun e => hd (by rw [e1]; exact e))
    | false => exact ih h.2

def OwedAllX (P : Program) (ops : Array Oper) (Q : Exit → Act → World → Prop) (T0 : Array Value) (df : List Deferred) (w0 : World) (X : Nat → Prop) (ix : Nat) (R : Nat → Value → World → Prop) : Nat → List Oper → Prop
  | _, [] => True
  | i, o :: r => OwedX P ops Q T0 df w0 X ix R i o ∧ OwedAllX P ops Q T0 df w0 X ix R (i + 1) r
theorem OwedAllX.mem : ∀ {l : List Oper} {k ix : Nat}, OwedAllX P ops Q T0 df w0 X ix R k l → ∀ (i : Nat) o, l[i]? = some o → OwedX P ops Q T0 df w0 X ix R (k + i) o
  | [], _, _, _, i, o, hx => by simp at hx
  | o :: r, k, ix, h, 0, x, hx => by
    simp at hx
    subst hx
    exact h.1
  | o :: r, k, ix, h, i + 1, x, hx => by
    have := h.2.mem i x (by simpa using hx)
    rwa [Nat.add_right_comm, Nat.add_assoc] at this

theorem region_invX {id : Nat} {a : Act} {w : World} (w0 : World) (X : Nat → Prop) (ix : Nat) (ex : List Nat) (hex : exB ops ix ex = true) (l : List (Nat × (Value → World → Prop))) (hl : KeepsAllX X ex l) (hm : P.follows .mixedOrders = true) (hG : Turn X w0 w.drew) (hB : Below w0.heap.size w0 w.drew) (h : freshB ops [] [] = true)
    (hO : OwedAllX P ops Q a.tmps a.defers w0 X ix (prOf l) 0 ops.toList)
    (hE : ∀ a' w' listed, (∀ i, i < ops.size → listed.getD i false = true) → Sx ops a.tmps a.defers w0 X ix (prOf l) listed a' w' → Q .normal a' w') : (Code.region id ops true).wp P Q a w := by
  refine wp_region_any hm ?_
  refine any_invX ex hex (prOf_keeps hl.all) hl.of (fresh_dist h) (fresh_dep h) (fun i oi hi => ?_) (fun a' w' listed hl hs => hE a' w' listed hl hs) _ _ a w.drew (leftOf_start _) ⟨by simp, rfl, rfl, hG, fun _ => hB, fun j oj hj hl => ?_, fun t _ => rfl, fun i oi d hi hd hl => ?_⟩
  · have := hO.mem i oi (by rw [Array.getElem?_toList]; exact hi)
    rwa [Nat.zero_add] at this
  all_goals (rw [none_listed] at hl; cases hl)

theorem region_invXL {id : Nat} {a : Act} {w : World} (w0 : World) (X : Nat → Prop) (ix : Nat) (ex : List Nat) (hex : exB ops ix ex = true) (l : List (Nat × (Value → World → Prop))) (k : Nat) (hl : KeepsAllX X ex l) (hm : P.follows .mixedOrders = true) (hG : Turn X w0 w.drew) (hB : Below w0.heap.size w0 w.drew) (h : freshB ops [] [] = true) (hk : lastB ops k = true) (hkl : ops.size = k + 1)
    (hO : OwedAllX P ops Q a.tmps a.defers w0 X ix (prOf l) 0 (ops.toList.take k))
    (hL : ∀ (ok : Oper) (listed : Array Bool) (a' : Act) (w' : World), ops[k]? = some ok → Sx ops a.tmps a.defers w0 X ix (prOf l) listed a' w' → listed.getD k false = false → (∀ i, i < ops.size → i ≠ k → listed.getD i false = true) →
      ∀ K : Act → World → Prop, (∀ a'' w'', Q .normal a'' w'' → K a'' w'') → if Region.wanted ok (yielded ops a'.tmps) = true then Oper.wp P ok a' w' K Q else K (a'.put ok.dst undef) w') : (Code.region id ops true).wp P Q a w := by
  refine wp_region_any hm ?_
  refine any_invXL k hk ex hex (prOf_keeps hl.all) hl.of (fresh_dist h) (fresh_dep h) (fun i oi hne hi => ?_) (by omega) hL _ _ a w.drew (leftOf_start _) (none_listed _ _) ⟨by simp, rfl, rfl, hG, fun _ => hB, fun j oj hj hl => ?_, fun t _ => rfl, fun i oi d hi hd hl => ?_⟩
  · have hlt : i < ops.size := (Array.getElem?_eq_some_iff.1 hi).1
    have := hO.mem i oi (by rw [List.getElem?_take_of_lt (by omega), Array.getElem?_toList]; exact hi)
    rwa [Nat.zero_add] at this
  all_goals (rw [none_listed] at hl; cases hl)

variable {listed : Array Bool} {a : Act} {w : World}
theorem Sx.fact (h : Sx ops T0 df w0 X ix R listed a w) (j d : Nat) (hj : (ops[j]?).bind (·.dst) = some d) (hl : listed.getD j false = true) : R d (a.tmps[d]?.getD undef) w := by
  cases ho : ops[j]? with
  | none => rw [ho] at hj; cases hj
  | some oj =>
    rw [ho] at hj
    simpa using h.facts j oj d ho hj hl
theorem Sx.oldOf (h : Sx ops T0 df w0 X ix R listed a w) {i : Nat} (hn : listed.getD i false = false) (t : Nat) (hc : (ops.toList.zipIdx.all fun p => p.1.dst != some t || reaches ops 14 p.2 i) = true) {x : Value} (hx : T0.getD t undef = x) : a.tmps[t]?.getD undef = x := by
  have := (h.old t fun k ok hk hkd => by
    have h1 := List.all_eq_true.1 hc (ok, k) (zip_mem hk)
    simp only [Bool.or_eq_true] at h1
    rcases h1 with h1 | h1
    · rw [hkd] at h1; simp at h1
    · cases hl : listed.getD k false with
      | false => rfl
      | true => rw [h.reach 14 k i h1 hl] at hn; cases hn).trans hx
  simpa using this
theorem Sx.oldEnd (h : Sx ops T0 df w0 X ix R listed a w) (t : Nat) (hc : (ops.toList.all fun o => o.dst != some t) = true) {x : Value} (hx : T0.getD t undef = x) : a.tmps[t]?.getD undef = x := by
  have := (h.old t fun k ok hk hkd => by
    have h1 := List.all_eq_true.1 hc ok (by rw [List.mem_iff_getElem?]; exact ⟨k, by rw [Array.getElem?_toList]; exact hk⟩)
    rw [hkd] at h1; simp at h1).trans hx
  simpa using this

/-- A frame of which all but the slots ds is as it was. -/
theorem frame_of {T T0 : Array Value} : ∀ (ds : List Nat), T.size = T0.size → (∀ t, t ∉ ds → T.getD t undef = T0.getD t undef) → T = ds.foldl (fun a d => a.setIfInBounds d (T.getD d undef)) T0 := by
  intro ds
  induction ds generalizing T0 with
  | nil =>
    intro hs h
    apply Array.ext_getElem?
    intro i
    by_cases hi : i < T.size
    · have := h i (by simp)
      rw [Array.getD_eq_getD_getElem?, Array.getD_eq_getD_getElem?, Array.getElem?_eq_getElem hi, Array.getElem?_eq_getElem (by omega)] at this
      simp only [Option.getD_some] at this
      rw [Array.getElem?_eq_getElem hi, this]
      show _ = T0[i]?
      rw [Array.getElem?_eq_getElem (by omega)]
    · rw [Array.getElem?_eq_none (by omega)]
      show _ = T0[i]?
      rw [Array.getElem?_eq_none (by omega)]
  | cons d r ih =>
    intro hs h
    refine ih (by simpa using hs) fun t ht => ?_
    by_cases e : d = t
    · subst e
      by_cases hd : d < T0.size
      · simp [hd]
      · simp [Array.getElem?_eq_none (show T.size ≤ d by omega)]
    · have := h t (by simp only [List.mem_cons, not_or]; exact ⟨fun x => e x.symm, ht⟩)
      rw [this]
      simp [e]

/-- The slots of these ranges anew, the others as they were. -/
def updR (rs : List (Nat × Nat)) (f : Nat → Value) : Nat → List Value → List Value
  | _, [] => []
  | i, v :: r => (if (rs.any fun p => decide (p.1 ≤ i) && decide (i ≤ p.2)) = true then f i else v) :: updR rs f (i + 1) r
theorem updR_get (rs : List (Nat × Nat)) (f : Nat → Value) : ∀ (l : List Value) (k i : Nat), (updR rs f k l)[i]? = l[i]?.map fun v => if (rs.any fun p => decide (p.1 ≤ k + i) && decide (k + i ≤ p.2)) = true then f (k + i) else v
  | [], k, i => by simp [updR]
  | v :: r, k, 0 => by simp [updR]
  | v :: r, k, i + 1 => by
    have e : k + 1 + i = k + (i + 1) := by omega
    have h := updR_get rs f r (k + 1) i
    rw [e] at h
    simpa [updR] using h

theorem Sx.frameR (h : Sx ops T0 df w0 X ix R listed a w) (rs : List (Nat × Nat)) (hd : (ops.toList.all fun o => match o.dst with | none => true | some d => rs.any fun p => decide (p.1 ≤ d) && decide (d ≤ p.2)) = true) : ∃ f : Nat → Value, (∀ d, f d = a.tmps[d]?.getD undef) ∧ a.tmps = (updR rs f 0 T0.toList).toArray := by
  refine ⟨fun d => a.tmps.getD d undef, fun d => by simp, ?_⟩
  apply Array.ext_getElem?
  intro i
  have e : ((updR rs (fun d => a.tmps.getD d undef) 0 T0.toList).toArray)[i]? = (updR rs (fun d => a.tmps.getD d undef) 0 T0.toList)[i]? := by simp
  rw [e, updR_get, Nat.zero_add, Array.getElem?_toList]
  clear e
  by_cases hi : i < T0.size
  · have hi' : i < a.tmps.size := by rw [h.size]; exact hi
    rw [Array.getElem?_eq_getElem hi, Array.getElem?_eq_getElem hi', Option.map_some]
    congr 1
    split
    · simp
    · rename_i hr
      have := h.old i fun k ok hk hkd => by
        exfalso
        have h1 := List.all_eq_true.1 hd ok (by rw [List.mem_iff_getElem?]; exact ⟨k, by rw [Array.getElem?_toList]; exact hk⟩)
        rw [hkd] at h1
        exact hr h1
      rw [Array.getD_eq_getD_getElem?, Array.getD_eq_getD_getElem?, Array.getElem?_eq_getElem hi, Array.getElem?_eq_getElem hi'] at this
      simpa using this
  · have hs := h.size
    have g1 : a.tmps[i]? = none := Array.getElem?_eq_none (by omega)
    have g2 : T0[i]? = none := Array.getElem?_eq_none (by omega)
    rw [g1, g2]
    rfl

theorem Sx.frame (h : Sx ops T0 df w0 X ix R listed a w) (ds : List Nat) (hd : (ops.toList.all fun o => match o.dst with | none => true | some d => ds.contains d) = true) : ∃ f : Nat → Value, (∀ d, f d = a.tmps[d]?.getD undef) ∧ a.tmps = ds.foldl (fun a d => a.setIfInBounds d (f d)) T0 := by
  refine ⟨fun d => a.tmps.getD d undef, fun d => by simp, frame_of ds h.size fun t ht => h.old t fun k ok hk hkd => ?_⟩
  exfalso
  have h1 := List.all_eq_true.1 hd ok (by rw [List.mem_iff_getElem?]; exact ⟨k, by rw [Array.getElem?_toList]; exact hk⟩)
  rw [hkd] at h1
  exact ht (by simpa using h1)

/-- The append itself, as a step of such a region. -/
theorem inv_append_any {t e : TypeId} {z : Value} {size bytes : Nat} (T : ElemT t e z size bytes) {w : World} {ops : Array Oper} {o : Oper} {a : Act} {K : Act → World → Prop} {Q : Exit → Act → World → Prop} {E : Prop} (hgd : o.guard = none) (s x : Nat)
    (hop : o.op = .call { callee := .builtin .append, args := #[.tmp s, .tmp x], argTypes := #[t, t] })
    (base : Nat) (v : Value) (n : Nat) (xs : List Value) (hv : a.tmps[s]?.getD undef = v) (ho : OwnC w base e size v n xs) (m : Nat) (ms : List Value) (hy : Arg w (a.tmps[x]?.getD undef) size m ms) (h1 : ∀ u ∈ ms, u.oneCell' = true) (hlen : n + m ≤ 1000000) (hbase : base ≤ w.heap.size)
    (h : ∀ v' w', OwnC w' base e size v' (n + m) (xs ++ ms) → w.grownBy w' v.ownBlock → (v'.ownBlock = v.ownBlock ∨ v'.ownBlock = some w.heap.size) → K (a.put o.dst v') w') :
    if Region.wanted o (yielded ops a.tmps) = true then Oper.wp Tryz.prog o a w K Q else E := by
  have hw : Region.wanted o (yielded ops a.tmps) = true := by simp [Region.wanted, hgd]
  rw [if_pos hw]
  obtain ⟨A, c, hx, hc, hA, hl⟩ := hy
  obtain ⟨v', w', hrun, g1, g2, g3⟩ := append_any T o.type base v n xs ho A m c ms hc hl h1 hA hlen hbase
  unfold Oper.wp
  simp [execOp, hop, resolve, invoke, builtin, eval_tmp, hv, hx, hrun, Result.andThen]
  exact h v' w' g1 g2 g3
end

end Go.Proofs.YthdagjlgfffpbaaGreat
