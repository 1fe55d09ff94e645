/-
  A REGION THAT DRAWS ITS ORDER, BY AN INVARIANT (MInv), WHOSE LAST OPERATION WAITS FOR ALL OTHERS AND LAYS NO SLOT (a store). By the verifier.
-/
import Derived.Test.YthdagjlgfffpbaaGreatMReg
import Derived.Test.YthdagjlgfffpbaaGreatMRowN
set_option linter.unusedVariables false
namespace Go.Proofs.YthdagjlgfffpbaaGreat
open Go.RowKit

section
variable {P : Program} {ops : Array Oper} {Q : Exit → Act → World → Prop}
variable {G : World → Prop} {fins : List Nat} {T0 : Array Value} {df : List Deferred} {w0 : World} {sp : Nat → Sp}

/-- Operation k waits for all others. -/
def lastB (ops : Array Oper) (k : Nat) : Bool := (List.range ops.size).all fun i => decide (i = k) || match ops[k]? with
  | none => false
  | some o => o.after.toList.any fun e => Region.binds .any e && reaches ops 14 e.on i

theorem St.others {listed : Array Bool} {a : Act} {w : World} (h : St G ops fins T0 df w0 sp listed a w) {k : Nat} (hk : lastB ops k = true) {ok : Oper} (ho : ops[k]? = some ok) (hdep : ∀ e ∈ ok.after, Region.binds .any e = true → listed.getD e.on false = true) : ∀ i, i < ops.size → i ≠ k → listed.getD i false = true := by
  intro i hi hne
  have h1 := List.all_eq_true.1 hk i (by simpa using hi)
  rw [ho] at h1
  simp only [Bool.or_eq_true, decide_eq_true_eq] at h1
  rcases h1 with h1 | h1
  · exact absurd h1 hne
  · obtain ⟨e, he, h2⟩ := List.any_eq_true.1 h1
    simp only [Bool.and_eq_true] at h2
    exact h.reach 14 e.on i h2.2 (hdep e (by simpa using he) h2.1)

theorem leftOf_full {l : Array Bool} (h : ∀ i, i < l.size → l.getD i false = true) : leftOf l = 0 := by
  obtain ⟨l⟩ := l
  unfold leftOf
  rw [List.length_eq_zero_iff]
  refine List.filter_eq_nil_iff.2 fun b hb => ?_
  obtain ⟨i, hi, rfl⟩ := List.mem_iff_getElem.1 hb
  have := h i (by simpa using hi)
  simp [hi] at this
  simp [this]

theorem wpAny_done {fuel : Nat} {listed : Array Bool} {a : Act} {w : World} (hs : listed.size = ops.size) (h : ∀ i, i < ops.size → listed.getD i false = true) (hQ : Q .normal a w) : wpAny P .any ops Q fuel listed a w := by
  have h0 : Region.ready .any ops listed = [] := by
    refine List.eq_nil_iff_forall_not_mem.2 fun i hi => ?_
    obtain ⟨h1, o, ho, -⟩ := mem_ready.1 hi
    have hlt : i < ops.size := (Array.getElem?_eq_some_iff.1 ho).1
    have h2 := h i hlt
    rw [Array.getD_eq_getD_getElem?, Array.getElem?_eq_getElem (by rw [hs]; exact hlt)] at h1 h2
    simp only [Option.getD_some] at h1 h2
    rw [h1] at h2
    cases h2
  cases fuel with
  | zero => exact ⟨h0, hQ⟩
  | succ n =>
    refine ⟨fun _ => hQ, fun i hi => ?_⟩
    rw [h0] at hi
    cases hi

theorem any_invL (k : Nat) (hk : lastB ops k = true) (hD : ∀ (i j : Nat) (oi oj : Oper) (d : Nat), ops[i]? = some oi → ops[j]? = some oj → oi.dst = some d → oj.dst = some d → i = j)
    (hdep : ∀ (i : Nat) (oi : Oper), ops[i]? = some oi → ∀ e ∈ oi.after, e.on < i) (hfin : ∀ (i : Nat) (oi : Oper) (d : Nat), ops[i]? = some oi → oi.dst = some d → (sp d).r ≠ none → ∀ f ∈ fins, f < i → ∃ e ∈ oi.after, e.on = f ∧ Region.binds .any e = true)
    (hO : ∀ (i : Nat) (oi : Oper), i ≠ k → ops[i]? = some oi → Owed G P ops fins Q T0 df w0 sp i oi)
    (hkl : k < ops.size)
    (hL : ∀ (ok : Oper) (listed : Array Bool) (a : Act) (w : World), ops[k]? = some ok → St G ops fins T0 df w0 sp listed a w → listed.getD k false = false → (∀ i, i < ops.size → i ≠ k → listed.getD i false = true) →
      ∀ K : Act → World → Prop, (∀ a' w', Q .normal a' w' → K a' w') → if Region.wanted ok (yielded ops a.tmps) = true then Oper.wp P ok a w K Q else K (a.put ok.dst undef) w) :
    ∀ (fuel : Nat) (listed : Array Bool) (a : Act) (w : World), leftOf listed = fuel → listed.getD k false = false → St G ops fins T0 df w0 sp listed a w → wpAny P .any ops Q fuel listed a w
  | 0, listed, a, w, hl, hn, hst => by
    exfalso
    have := leftOf_zero hl k (by rw [hst.lsize]; exact hkl)
    rw [hn] at this
    cases this
  | fuel + 1, listed, a, w, hl, hn, hst => by
    refine ⟨fun h0 => ?_, fun i hi => ?_⟩
    · exfalso
      have := all_come hdep hst.lsize h0 k hkl
      rw [hn] at this
      cases this
    obtain ⟨h1, o, ho, hdeps⟩ := mem_ready.1 hi
    have hlt : i < ops.size := (Array.getElem?_eq_some_iff.1 ho).1
    have hni : listed.getD i false = false := by
      rw [Array.getD_eq_getD_getElem?, Array.getElem?_eq_getElem (by rw [hst.lsize]; exact hlt)] at h1 ⊢
      exact h1
    refine wpOp_step ho fun K' hK => ?_
    by_cases hik : i = k
    · subst hik
      have hoth := hst.others hk ho hdeps
      refine hL o listed a w ho hst hni hoth K' fun a' w' hq => hK _ _ ?_
      refine wpAny_done (by simpa using hst.lsize) (fun j hj => ?_) hq
      by_cases hij : i = j
      · subst hij
        exact getD_set_same (by rw [hst.lsize]; exact hj) _
      · rw [getD_set hij]
        exact hoth j hj (fun e => hij e.symm)
    · obtain ⟨d, hd, hds, hstep⟩ := hO i o hik ho
      refine hstep listed a w hst hni hdeps K' fun v w' hb hG hv hX => ?_
      refine hK _ _ (any_invL k hk hD hdep hfin hO hkl hL fuel _ _ _ ?_ ?_ (hst.step hD ho hd hds hni (fun f hf hfi hr => ?_) hdeps hb hG hv hX))
      · have := leftOf_set h1
        omega
      · rw [getD_set hik]
        exact hn
      · obtain ⟨e, he, h3, h4⟩ := hfin i o d ho hd hr f hf hfi
        rw [← h3]
        exact hdeps e he h4

theorem region_invL (G : World → Prop) {id : Nat} {a : Act} {w : World} (fins : List Nat) (w0 : World) (l : List (Nat × Sp)) (rs : List Nat) (k : Nat) (hrs : (l.filter fun p => p.2.r.isSome).map (·.1) = rs) (hm : P.follows .mixedOrders = true) (hG : Below w0.heap.size w0 w.drew) (hX : G w.drew) (hf : freshB ops fins rs = true) (hk : lastB ops k = true) (hkl : ops.size = k + 1)
    (hO : OwedAll G P ops fins Q a.tmps a.defers w0 (spOf l) 0 (ops.toList.take k))
    (hL : ∀ (ok : Oper) (listed : Array Bool) (a' : Act) (w' : World), ops[k]? = some ok → St G ops fins a.tmps a.defers w0 (spOf l) listed a' w' → listed.getD k false = false → (∀ i, i < ops.size → i ≠ k → listed.getD i false = true) →
      ∀ K : Act → World → Prop, (∀ a'' w'', Q .normal a'' w'' → K a'' w'') → if Region.wanted ok (yielded ops a'.tmps) = true then Oper.wp P ok a' w' K Q else K (a'.put ok.dst undef) w') : (Code.region id ops true).wp P Q a w := by
  subst hrs
  refine wp_region_any hm ?_
  refine any_invL k hk (fresh_dist hf) (fresh_dep hf) (fresh_fin hf (spOf_rows l)) (fun i oi hne hi => ?_) (by omega) hL _ _ a w.drew (leftOf_start _) (none_listed _ _) ⟨by simp, rfl, rfl, hG, hX, fun f hf j oj d hfj hj hd hr hl => ?_, fun j oj hj hl => ?_, fun t _ => rfl, fun i oi d hi hd hl => ?_, fun i oi d hi hd hl => ?_⟩
  · have hlt : i < ops.size := (Array.getElem?_eq_some_iff.1 hi).1
    have := hO.mem i oi (by rw [List.getElem?_take_of_lt (by omega), Array.getElem?_toList]; exact hi)
    rwa [Nat.zero_add] at this
  all_goals (rw [none_listed] at hl; cases hl)
end

end Go.Proofs.YthdagjlgfffpbaaGreat

/-
  A REGION THAT DRAWS ITS ORDER, BY AN INVARIANT (after MInv), WHOSE OPERATIONS ALSO MAKE BOXES (alloc) AND STORE INTO THEM, each box once: a result's value may be said in terms of other results; rows and boxes are apart. By the verifier.
-/
set_option linter.unusedVariables false
namespace Go.Proofs.YthdagjlgfffpbaaGreat
open Go.RowKit

/-- What a result holds in memory: a row, or a box that operation st fills. -/
inductive OwnP where
  | row (e : TypeId) (size n : Nat) (cs : List Value)
  | box (t : TypeId) (zero : Array Value) (ks : List (Nat × Nat)) (fin : List Value → Array Value) (st : Nat)

def vblk : Value → Option Nat
  | .pointer (some a) => some a.block
  | .slice A n c => Value.ownBlock (.slice A n c)
  | _ => none

def tv (a : Act) (t : Nat) : Value := a.tmps.getD t undef

/-- What a box holds now: its store's value, if that has come. -/
def OwnP.now (p : OwnP) (listed : Array Bool) (a : Act) : Option (Array Value) :=
  match p with
  | .row .. => none
  | .box _ _ ks fin st => if listed.getD st false then some (fin (ks.map fun k => tv a k.2)) else none

def OwnP.is (p : OwnP) (base : Nat) (v : Value) (done : Option (Array Value)) (w : World) : Prop :=
  match p with
  | .row e size n cs => OwnC w base e size v n cs
  | .box t zero _ _ _ => ∃ g, v = .pointer (some ⟨g, 0, none⟩) ∧ base ≤ g ∧ g < w.heap.size ∧ w.heap[g]? = some (.cells (done.getD zero) t (0, 0))

theorem OwnP.turn {p : OwnP} {base : Nat} {v : Value} {done : Option (Array Value)} {w w' : World} {S : Nat → Prop} (h : p.is base v done w) (ht : Turn S w w') (hS : ∀ b, vblk v = some b → ¬ S b) : p.is base v done w' := by
  cases p with
  | row e size n cs =>
    refine OwnC.turn ht h fun k hk => hS k ?_
    obtain ⟨A, c, rfl, -⟩ := OwnC.cells h
    exact hk
  | box t zero ks fin st =>
    obtain ⟨g, rfl, h1, h2, h3⟩ := h
    exact ⟨g, rfl, h1, Nat.lt_of_lt_of_le h2 ht.size, by rw [ht.block g h2 (hS g rfl)]; exact h3⟩

theorem OwnP.lt {p : OwnP} {base : Nat} {v : Value} {done : Option (Array Value)} {w : World} (h : p.is base v done w) {b : Nat} (hb : vblk v = some b) : base ≤ b ∧ b < w.heap.size := by
  cases p with
  | row e size n cs =>
    obtain ⟨A, c, rfl, -⟩ := OwnC.cells h
    exact World.ownsRow.lt h b hb
  | box t zero ks fin st =>
    obtain ⟨g, rfl, h1, h2, h3⟩ := h
    injection hb with hb
    subst hb
    exact ⟨h1, h2⟩

/-- What is said of a result. -/
structure Sq where
  v : Option Value
  fn : Option (List (Nat × Nat) × (List Value → Value))
  own : Option OwnP
def Sq.val (x : Value) : Sq := ⟨some x, none, none⟩
def Sq.of (ks : List (Nat × Nat)) (f : List Value → Value) : Sq := ⟨none, some (ks, f), none⟩
def Sq.row (e : TypeId) (size n : Nat) (cs : List Value) : Sq := ⟨none, none, some (.row e size n cs)⟩
def Sq.box (t : TypeId) (zero : Array Value) (ks : List (Nat × Nat)) (fin : List Value → Array Value) (st : Nat) : Sq := ⟨none, none, some (.box t zero ks fin st)⟩

section
variable {P : Program} {ops : Array Oper} {Q : Exit → Act → World → Prop}

/-- The state. -/
structure Sb (ops : Array Oper) (T0 : Array Value) (df : List Deferred) (w0 : World) (sp : Nat → Sq) (listed : Array Bool) (a : Act) (w : World) : Prop where
  lsize : listed.size = ops.size
  size : a.tmps.size = T0.size
  defers : a.defers = df
  glob : Below w0.heap.size w0 w
  closed : ∀ (j : Nat) (oj : Oper), ops[j]? = some oj → listed.getD j false = true → ∀ e ∈ oj.after, Region.binds .any e = true → listed.getD e.on false = true
  old : ∀ (t : Nat), (∀ (i : Nat) (oi : Oper), ops[i]? = some oi → oi.dst = some t → listed.getD i false = false) → a.tmps.getD t undef = T0.getD t undef
  vals : ∀ (i : Nat) (oi : Oper) (d : Nat), ops[i]? = some oi → oi.dst = some d → listed.getD i false = true → ∀ x, (sp d).v = some x → tv a d = x
  fns : ∀ (i : Nat) (oi : Oper) (d : Nat), ops[i]? = some oi → oi.dst = some d → listed.getD i false = true → ∀ ks f, (sp d).fn = some (ks, f) → tv a d = f (ks.map fun p => tv a p.2)
  owns : ∀ (i : Nat) (oi : Oper) (d : Nat), ops[i]? = some oi → oi.dst = some d → listed.getD i false = true → ∀ p, (sp d).own = some p → p.is w0.heap.size (tv a d) (p.now listed a) w
  sep : ∀ (i j : Nat) (oi oj : Oper) (d e : Nat), ops[i]? = some oi → ops[j]? = some oj → oi.dst = some d → oj.dst = some e → listed.getD i false = true → listed.getD j false = true → i ≠ j → (sp d).own ≠ none → (sp e).own ≠ none → ∀ b, vblk (tv a d) = some b → vblk (tv a e) ≠ some b

variable {T0 : Array Value} {df : List Deferred} {w0 : World} {sp : Nat → Sq}

/-- What the text of the region itself settles. -/
structure FxB (ops : Array Oper) (sp : Nat → Sq) : Prop where
  dist : ∀ (i j : Nat) (oi oj : Oper) (d : Nat), ops[i]? = some oi → ops[j]? = some oj → oi.dst = some d → oj.dst = some d → i = j
  dep : ∀ (i : Nat) (oi : Oper), ops[i]? = some oi → ∀ e ∈ oi.after, e.on < i
  fn : ∀ (i : Nat) (oi : Oper) (d : Nat), ops[i]? = some oi → oi.dst = some d → ∀ ks f, (sp d).fn = some (ks, f) → ∀ p ∈ ks, (ops[p.1]?).bind (·.dst) = some p.2 ∧ reaches ops 14 i p.1 = true ∧ p.1 < i
  st : ∀ (i : Nat) (oi : Oper) (d : Nat), ops[i]? = some oi → oi.dst = some d → ∀ t z ks f s, (sp d).own = some (.box t z ks f s) → (∃ os, ops[s]? = some os ∧ os.dst = none ∧ ∃ e ∈ os.after, e.on = i ∧ Region.binds .any e = true) ∧ ∀ p ∈ ks, (ops[p.1]?).bind (·.dst) = some p.2 ∧ reaches ops 14 s p.1 = true
  one : ∀ (i j : Nat) (oi oj : Oper) (d e : Nat), ops[i]? = some oi → ops[j]? = some oj → oi.dst = some d → oj.dst = some e → ∀ t z ks f s t' z' ks' f', (sp d).own = some (.box t z ks f s) → (sp e).own = some (.box t' z' ks' f' s) → i = j

theorem tv_put {a : Act} {d t : Nat} {v : Value} (h : d ≠ t) : tv (a.put (some d) v) t = tv a t := getD_put h
theorem tv_put_same {a : Act} {d : Nat} {v : Value} (h : d < a.tmps.size) : tv (a.put (some d) v) d = v := getD_put_same h

theorem Sb.reach {listed : Array Bool} {a : Act} {w : World} (h : Sb ops T0 df w0 sp listed a w) : ∀ (n j i : Nat), reaches ops n j i = true → listed.getD j false = true → listed.getD i false = true
  | 0, j, i, hr, hl => by
    simp only [reaches, decide_eq_true_eq] at hr
    subst hr
    exact hl
  | n + 1, j, i, hr, hl => by
    simp only [reaches, Bool.or_eq_true, decide_eq_true_eq] at hr
    rcases hr with rfl | hr
    · exact hl
    · cases ho : ops[j]? with
      | none => rw [ho] at hr; cases hr
      | some o =>
        rw [ho] at hr
        obtain ⟨e, he, h1⟩ := List.any_eq_true.1 hr
        simp only [Bool.and_eq_true] at h1
        exact h.reach n e.on i h1.2 (h.closed j o ho hl e (by simpa using he) h1.1)

theorem listed_mono {listed : Array Bool} {i k : Nat} (hil : i < listed.size) (hk : listed.getD k false = true) : (listed.setIfInBounds i true).getD k false = true := by
  by_cases hik : i = k
  · subst hik
    exact getD_set_same hil _
  · rw [getD_set hik]
    exact hk

/-- An operation that lays a slot. -/
theorem Sb.step {listed : Array Bool} {a : Act} {w w' : World} (h : Sb ops T0 df w0 sp listed a w) (F : FxB ops sp)
    {i : Nat} {oi : Oper} {d : Nat} (hi : ops[i]? = some oi) (hd : oi.dst = some d) (hs : d < T0.size) (hn : listed.getD i false = false)
    (hC : ∀ e ∈ oi.after, Region.binds .any e = true → listed.getD e.on false = true) {v : Value} (hb : Below w.heap.size w w') (hG : Below w0.heap.size w0 w')
    (hv : ∀ x, (sp d).v = some x → v = x) (hf : ∀ ks f, (sp d).fn = some (ks, f) → v = f (ks.map fun p => tv a p.2)) (ho : ∀ p, (sp d).own = some p → p.is w.heap.size v none w') :
    Sb ops T0 df w0 sp (listed.setIfInBounds i true) (a.put oi.dst v) w' := by
  have hil : i < listed.size := by rw [h.lsize]; exact (Array.getElem?_eq_some_iff.1 hi).1
  have hbase : w0.heap.size ≤ w.heap.size := h.glob.size
  have hds : d < a.tmps.size := by rw [h.size]; exact hs
  have hturn : Turn (fun _ => False) w w' := Turn.of_below hb
  rw [hd]
  have hdj : ∀ {j : Nat} {oj : Oper} {dj : Nat}, ops[j]? = some oj → oj.dst = some dj → i ≠ j → d ≠ dj := fun hj hdj hij e => hij (F.dist i _ oi _ d hi hj hd (by rw [hdj, e]))
  refine ⟨by simpa using h.lsize, by simpa [Act.put] using h.size, by simpa [Act.put] using h.defers, hG, fun j oj hj hl e he hbe => ?_, fun t ht => ?_, fun j oj dj hj hdj' hl x hx => ?_, fun j oj dj hj hdj' hl ks f hx => ?_, fun j oj dj hj hdj' hl p hp => ?_, fun j k oj ok dj dk hj hk hdj' hdk hlj hlk hjk hpj hpk b hbj => ?_⟩
  · by_cases hij : i = j
    · subst hij
      rw [hi] at hj
      injection hj with hj
      subst hj
      exact listed_mono hil (hC e he hbe)
    · rw [getD_set hij] at hl
      exact listed_mono hil (h.closed j oj hj hl e he hbe)
  · have hne : d ≠ t := fun e => by
      have := ht i oi hi (by rw [hd, e])
      rw [getD_set_same hil] at this
      cases this
    rw [getD_put hne]
    refine h.old t fun k ok hk hkd => ?_
    have := ht k ok hk hkd
    by_cases hik : i = k
    · subst hik
      exact hn
    · rwa [getD_set hik] at this
  · by_cases hij : i = j
    · subst hij
      rw [hi] at hj
      injection hj with hj
      subst hj
      rw [hd] at hdj'
      injection hdj' with hdj'
      subst hdj'
      rw [tv_put_same hds]
      exact hv x hx
    · rw [tv_put (hdj hj hdj' hij)]
      rw [getD_set hij] at hl
      exact h.vals j oj dj hj hdj' hl x hx
  · have same : (ks.map fun p => tv (a.put (some d) v) p.2) = ks.map fun p => tv a p.2 := by
      refine List.map_congr_left fun p hp => ?_
      obtain ⟨h1, h2, h3⟩ := F.fn j oj dj hj hdj' ks f hx p hp
      have hlp : i ≠ p.1 := by
        intro e
        by_cases hij : i = j
        · omega
        · rw [getD_set hij] at hl
          have := h.reach 14 j p.1 h2 hl
          rw [← e, hn] at this
          cases this
      cases hop : ops[p.1]? with
      | none => rw [hop] at h1; cases h1
      | some op =>
        rw [hop] at h1
        exact tv_put (hdj hop h1 hlp)
    rw [same]
    by_cases hij : i = j
    · subst hij
      rw [hi] at hj
      injection hj with hj
      subst hj
      rw [hd] at hdj'
      injection hdj' with hdj'
      subst hdj'
      rw [tv_put_same hds]
      exact hf ks f hx
    · rw [tv_put (hdj hj hdj' hij)]
      rw [getD_set hij] at hl
      exact h.fns j oj dj hj hdj' hl ks f hx
  · by_cases hij : i = j
    · subst hij
      rw [hi] at hj
      injection hj with hj
      subst hj
      rw [hd] at hdj'
      injection hdj' with hdj'
      subst hdj'
      rw [tv_put_same hds]
      have h0 := ho p hp
      cases p with
      | row e size n cs => exact OwnC.base h0 hbase
      | box t z ks f s =>
        obtain ⟨⟨os, hos, hosd, e, he, hei, heb⟩, -⟩ := F.st i oi d hi hd t z ks f s hp
        have hls : listed.getD s false = false := by
          cases hl' : listed.getD s false with
          | false => rfl
          | true =>
            have := h.closed s os hos hl' e he heb
            rw [hei, hn] at this
            cases this
        have hsi : i ≠ s := fun e' => by subst e'; rw [hi] at hos; injection hos with hos; subst hos; rw [hd] at hosd; cases hosd
        have hnow : OwnP.now (.box t z ks f s) (listed.setIfInBounds i true) (a.put (some d) v) = none := by
          simp only [OwnP.now]
          rw [getD_set hsi, hls]
          rfl
        rw [hnow]
        obtain ⟨g, h1, h2, h3, h4⟩ := h0
        exact ⟨g, h1, Nat.le_trans hbase h2, h3, h4⟩
    · rw [tv_put (hdj hj hdj' hij)]
      rw [getD_set hij] at hl
      have h0 := h.owns j oj dj hj hdj' hl p hp
      have h1 := OwnP.turn h0 hturn (fun b _ h => h)
      cases p with
      | row e size n cs => exact h1
      | box t z ks f s =>
        obtain ⟨⟨os, hos, hosd, -⟩, hks⟩ := F.st j oj dj hj hdj' t z ks f s hp
        have hsi : i ≠ s := fun e' => by subst e'; rw [hi] at hos; injection hos with hos; subst hos; rw [hd] at hosd; cases hosd
        have hnow : OwnP.now (.box t z ks f s) (listed.setIfInBounds i true) (a.put (some d) v) = OwnP.now (.box t z ks f s) listed a := by
          simp only [OwnP.now]
          rw [getD_set hsi]
          cases hls : listed.getD s false with
          | false => rfl
          | true =>
            have same : (ks.map fun p => tv (a.put (some d) v) p.2) = ks.map fun p => tv a p.2 := by
              refine List.map_congr_left fun p hp => ?_
              obtain ⟨h1, h2⟩ := hks p hp
              have hlp : i ≠ p.1 := by
                intro e
                have := h.reach 14 s p.1 h2 hls
                rw [← e, hn] at this
                cases this
              cases hop : ops[p.1]? with
              | none => rw [hop] at h1; cases h1
              | some op =>
                rw [hop] at h1
                exact tv_put (hdj hop h1 hlp)
            rw [same]
        rw [hnow]
        exact h1
  · by_cases hij : i = j
    · subst hij
      rw [hi] at hj
      injection hj with hj
      subst hj
      rw [hd] at hdj'
      injection hdj' with hdj'
      subst hdj'
      rw [tv_put_same hds] at hbj
      rw [tv_put (hdj hk hdk hjk)]
      rw [getD_set hjk] at hlk
      intro hbk
      cases hp : (sp d).own with
      | none => exact hpj hp
      | some p =>
        cases hq : (sp dk).own with
        | none => exact hpk hq
        | some q =>
          have h1 := OwnP.lt (ho p hp) hbj
          have h2 := OwnP.lt (h.owns k ok dk hk hdk hlk q hq) hbk
          omega
    · rw [getD_set hij] at hlj
      rw [tv_put (hdj hj hdj' hij)] at hbj
      by_cases hik : i = k
      · subst hik
        rw [hi] at hk
        injection hk with hk
        subst hk
        rw [hd] at hdk
        injection hdk with hdk
        subst hdk
        rw [tv_put_same hds]
        intro hbk
        cases hp : (sp d).own with
        | none => exact hpk hp
        | some p =>
          cases hq : (sp dj).own with
          | none => exact hpj hq
          | some q =>
            have h1 := OwnP.lt (ho p hp) hbk
            have h2 := OwnP.lt (h.owns j oj dj hj hdj' hlj q hq) hbj
            omega
      · rw [getD_set hik] at hlk
        rw [tv_put (hdj hk hdk hik)]
        exact h.sep j k oj ok dj dk hj hk hdj' hdk hlj hlk hjk hpj hpk b hbj

/-- A store into a box. -/
theorem Sb.fill {listed : Array Bool} {a : Act} {w w' : World} (h : Sb ops T0 df w0 sp listed a w) (F : FxB ops sp)
    {s : Nat} {os : Oper} (hs : ops[s]? = some os) (hsd : os.dst = none) (hn : listed.getD s false = false)
    (hC : ∀ e ∈ os.after, Region.binds .any e = true → listed.getD e.on false = true)
    {i : Nat} {oi : Oper} {d : Nat} (hi : ops[i]? = some oi) (hd : oi.dst = some d) {t : TypeId} {z C : Array Value} {ks : List (Nat × Nat)} {f : List Value → Array Value} (hp : (sp d).own = some (.box t z ks f s)) (hli : listed.getD i false = true)
    {g : Nat} (hg : tv a d = .pointer (some ⟨g, 0, none⟩)) (ht : Turn (fun b => b = g) w w') (hw : w'.heap[g]? = some (.cells C t (0, 0))) (hf : C = f (ks.map fun k => tv a k.2)) :
    Sb ops T0 df w0 sp (listed.setIfInBounds s true) a w' := by
  have hil : s < listed.size := by rw [h.lsize]; exact (Array.getElem?_eq_some_iff.1 hs).1
  have hge : w0.heap.size ≤ g ∧ g < w.heap.size := OwnP.lt (p := .box t z ks f s) (h.owns i oi d hi hd hli _ hp) (by rw [hg]; rfl)
  have hls : ∀ {j : Nat} {oj : Oper} {dj : Nat}, ops[j]? = some oj → oj.dst = some dj → s ≠ j := fun hj hdj e => by subst e; rw [hs] at hj; injection hj with hj; subst hj; rw [hsd] at hdj; cases hdj
  refine ⟨by simpa using h.lsize, h.size, h.defers, h.glob.trans (ht.below (fun b hb => by rw [hb]; exact hge.1) h.glob.size), fun j oj hj hl e he hbe => ?_, fun u hu => ?_, fun j oj dj hj hdj hl x hx => ?_, fun j oj dj hj hdj hl ks f' hx => ?_, fun j oj dj hj hdj hl p hpj => ?_, fun j k oj ok dj dk hj hk hdj hdk hlj hlk hjk hpj hpk b hbj => ?_⟩
  · by_cases hij : s = j
    · subst hij
      rw [hs] at hj
      injection hj with hj
      subst hj
      exact listed_mono hil (hC e he hbe)
    · rw [getD_set hij] at hl
      exact listed_mono hil (h.closed j oj hj hl e he hbe)
  · refine h.old u fun k ok hk hkd => ?_
    have := hu k ok hk hkd
    rwa [getD_set (hls hk hkd)] at this
  · rw [getD_set (hls hj hdj)] at hl
    exact h.vals j oj dj hj hdj hl x hx
  · rw [getD_set (hls hj hdj)] at hl
    exact h.fns j oj dj hj hdj hl ks f' hx
  · rw [getD_set (hls hj hdj)] at hl
    have h0 := h.owns j oj dj hj hdj hl p hpj
    by_cases hij : i = j
    · subst hij
      rw [hi] at hj
      injection hj with hj
      subst hj
      rw [hd] at hdj
      injection hdj with hdj
      subst hdj
      rw [hp] at hpj
      injection hpj with hpj
      subst hpj
      have hnow : OwnP.now (.box t z ks f s) (listed.setIfInBounds s true) a = some C := by
        simp only [OwnP.now]
        rw [getD_set_same hil, hf]
        rfl
      rw [hnow]
      exact ⟨g, hg, hge.1, Nat.lt_of_lt_of_le hge.2 ht.size, hw⟩
    · have hne : ∀ b, vblk (tv a dj) = some b → ¬ b = g := fun b hb e => by
        subst e
        exact h.sep i j oi oj d dj hi hj hd hdj hli hl hij (by rw [hp]; simp) (by rw [hpj]; simp) b (by rw [hg]; rfl) hb
      have h1 := OwnP.turn h0 ht hne
      cases p with
      | row e size n cs => exact h1
      | box t' z' ks' f' s' =>
        have hss : s ≠ s' := fun e => hij (F.one i j oi oj d dj hi hj hd hdj t z ks f s t' z' ks' f' hp (by rw [hpj, e]))
        have hnow : OwnP.now (.box t' z' ks' f' s') (listed.setIfInBounds s true) a = OwnP.now (.box t' z' ks' f' s') listed a := by
          simp only [OwnP.now]
          rw [getD_set hss]
        rw [hnow]
        exact h1
  · rw [getD_set (hls hj hdj)] at hlj
    rw [getD_set (hls hk hdk)] at hlk
    exact h.sep j k oj ok dj dk hj hk hdj hdk hlj hlk hjk hpj hpk b hbj

/-- What a value that is laid must keep. -/
def Sq.holds (s : Sq) (a : Act) (base : Nat) (v : Value) (w : World) : Prop := (∀ x, s.v = some x → v = x) ∧ (∀ ks f, s.fn = some (ks, f) → v = f (ks.map fun p => tv a p.2)) ∧ (∀ p, s.own = some p → p.is base v none w)
theorem Sq.of_val {s : Sq} {a : Act} {base : Nat} {x : Value} {w : World} (h : s = Sq.val x) : s.holds a base x w := by
  subst h
  exact ⟨fun y hy => (by injection hy), fun ks f h => (by cases h), fun p h => (by cases h)⟩
theorem Sq.of_fn {s : Sq} {a : Act} {base : Nat} {v : Value} {w : World} {ks : List (Nat × Nat)} {f : List Value → Value} (h : s = Sq.of ks f) (hv : v = f (ks.map fun p => a.tmps[p.2]?.getD undef)) : s.holds a base v w := by
  subst h
  refine ⟨fun y hy => (by cases hy), fun ks' f' h => ?_, fun p h => (by cases h)⟩
  injection h with h
  injection h with h1 h2
  subst h1 h2
  simpa [tv] using hv
theorem Sq.of_row {s : Sq} {a : Act} {base : Nat} {v : Value} {w : World} {e : TypeId} {size n : Nat} {cs : List Value} (h : s = Sq.row e size n cs) (ho : OwnC w base e size v n cs) : s.holds a base v w := by
  subst h
  refine ⟨fun y hy => (by cases hy), fun ks' f' h => (by cases h), fun p h => ?_⟩
  injection h with h
  subst h
  exact ho
theorem Sq.of_box {s : Sq} {a : Act} {W : World} {t : TypeId} {z : Array Value} {ks : List (Nat × Nat)} {f : List Value → Array Value} {st : Nat} (h : s = Sq.box t z ks f st) : s.holds a W.heap.size (.pointer (some ⟨W.heap.size, 0, none⟩)) (W.alloc (.cells z t)) := by
  subst h
  refine ⟨fun y hy => (by cases hy), fun ks' f' h => (by cases h), fun p h => ?_⟩
  injection h with h
  subst h
  exact ⟨W.heap.size, rfl, Nat.le_refl _, by simp, heap_alloc_new W _⟩

theorem after_of {oi : Oper} {j : Nat} (h : oi.after.any (fun e => decide (e.on = j) && Region.binds .any e) = true) : ∃ e ∈ oi.after, e.on = j ∧ Region.binds .any e = true := by
  obtain ⟨k, hk, h1⟩ := Array.any_eq_true.1 h
  simp only [Bool.and_eq_true, decide_eq_true_eq] at h1
  exact ⟨_, Array.getElem_mem hk, h1.1, h1.2⟩

theorem box_store {o : Oper} {a : Act} {w : World} {K : Act → World → Prop} {E : Prop} (hgd : o.guard = none) (ty : TypeId) (x y : Nat) (ho : o.op = .store ty (.tmp x) (.tmp y)) (hd : o.dst = none)
    (g : Nat) (cells : Array Value) (hx : a.tmps[x]?.getD undef = .pointer (some ⟨g, 0, none⟩)) (hy : a.tmps[y]?.getD undef = .agg cells) (t : TypeId) (old : Array Value) (hg : w.heap[g]? = some (.cells old t (0, 0)))
    (hi : (P.info? ty).map (·.size) = some cells.size) (hold : old.size = cells.size) (h1 : cells.all (·.oneCell') = true) (h : ∀ w', Turn (fun b => b = g) w w' → w'.heap[g]? = some (.cells cells t (0, 0)) → K a w') :
    if Region.wanted o (yielded ops a.tmps) = true then Oper.wp P o a w K Q else E := by
  rw [if_pos (by simp [Region.wanted, hgd])]
  refine wp_store_row ty (.tmp x) (.tmp y) ho g cells (by simpa [Act.eval] using hx) (by simpa [Act.eval] using hy) t old hg hi hold h1 ?_
  rw [hd]
  exact h _ ⟨rfl, rfl, rfl, by simp, fun k _ hk => setRow_other w _ k _ hk⟩ (setRow_heap w g old cells t _ hg)

/-- What is owed for an operation: it lays its slot, or it fills a box. -/
def OwedB (P : Program) (ops : Array Oper) (Q : Exit → Act → World → Prop) (T0 : Array Value) (df : List Deferred) (w0 : World) (sp : Nat → Sq) (i : Nat) (oi : Oper) : Prop :=
  (∃ d, oi.dst = some d ∧ d < T0.size ∧ ∀ (listed : Array Bool) (a : Act) (w : World), Sb ops T0 df w0 sp listed a w → listed.getD i false = false → (∀ e ∈ oi.after, Region.binds .any e = true → listed.getD e.on false = true) →
    ∀ K : Act → World → Prop, (∀ v w', Below w.heap.size w w' → (sp d).holds a w.heap.size v w' → K (a.put oi.dst v) w') →
      if Region.wanted oi (yielded ops a.tmps) = true then Oper.wp P oi a w K Q else K (a.put oi.dst undef) w) ∨
  (oi.dst = none ∧ ∃ (j : Nat) (d : Nat) (t : TypeId) (z : Array Value) (ks : List (Nat × Nat)) (f : List Value → Array Value), (ops[j]?).bind (·.dst) = some d ∧ (sp d).own = some (.box t z ks f i) ∧ (∃ e ∈ oi.after, e.on = j ∧ Region.binds .any e = true) ∧
    ∀ (listed : Array Bool) (a : Act) (w : World), Sb ops T0 df w0 sp listed a w → listed.getD i false = false → (∀ e ∈ oi.after, Region.binds .any e = true → listed.getD e.on false = true) →
    ∀ g, tv a d = .pointer (some ⟨g, 0, none⟩) → w.heap[g]? = some (.cells z t (0, 0)) → ∀ K : Act → World → Prop, (∀ (w' : World), Turn (fun b => b = g) w w' → w'.heap[g]? = some (.cells (f (ks.map fun k => tv a k.2)) t (0, 0)) → K a w') →
      if Region.wanted oi (yielded ops a.tmps) = true then Oper.wp P oi a w K Q else K (a.put oi.dst undef) w)

theorem any_invB (F : FxB ops sp)
    (hO : ∀ (i : Nat) (oi : Oper), ops[i]? = some oi → OwedB P ops Q T0 df w0 sp i oi)
    (hE : ∀ a w listed, (∀ i, i < ops.size → listed.getD i false = true) → Sb ops T0 df w0 sp listed a w → Q .normal a w) :
    ∀ (fuel : Nat) (listed : Array Bool) (a : Act) (w : World), leftOf listed = fuel → Sb ops T0 df w0 sp listed a w → wpAny P .any ops Q fuel listed a w
  | 0, listed, a, w, hl, hst => wpAny_done hst.lsize (fun i hi => leftOf_zero hl i (by rw [hst.lsize]; exact hi)) (hE a w listed (fun i hi => leftOf_zero hl i (by rw [hst.lsize]; exact hi)) hst)
  | fuel + 1, listed, a, w, hl, hst => by
    refine ⟨fun h0 => hE a w listed (all_come F.dep hst.lsize h0) hst, fun i hi => ?_⟩
    obtain ⟨h1, o, ho, hdeps⟩ := mem_ready.1 hi
    have hlt : i < ops.size := (Array.getElem?_eq_some_iff.1 ho).1
    have hn : listed.getD i false = false := by
      rw [Array.getD_eq_getD_getElem?, Array.getElem?_eq_getElem (by rw [hst.lsize]; exact hlt)] at h1 ⊢
      exact h1
    have hleft : leftOf (listed.setIfInBounds i true) = fuel := by
      have := leftOf_set h1
      omega
    refine wpOp_step ho fun K' hK => ?_
    rcases hO i o ho with ⟨d, hd, hds, hstep⟩ | ⟨hd, j, d, t, z, ks, f, hj, hp, ⟨e, he, hej, heb⟩, hstep⟩
    · refine hstep listed a w hst hn hdeps K' fun v w' hb hh => ?_
      exact hK _ _ (any_invB F hO hE fuel _ _ _ hleft (hst.step F ho hd hds hn hdeps hb (hst.glob.trans (hb.mono hst.glob.size)) hh.1 hh.2.1 hh.2.2))
    · cases hoj : ops[j]? with
      | none => rw [hoj] at hj; cases hj
      | some oj =>
        rw [hoj] at hj
        have hlj : listed.getD j false = true := by rw [← hej]; exact hdeps e he heb
        have hbx := hst.owns j oj d hoj hj hlj _ hp
        have hnow : OwnP.now (.box t z ks f i) listed a = none := by
          simp only [OwnP.now]
          rw [hn]
          rfl
        rw [hnow] at hbx
        obtain ⟨g, hg, h2, h3, h4⟩ := hbx
        refine hstep listed a w hst hn hdeps g hg h4 K' fun w' hT hC' => ?_
        exact hK _ _ (any_invB F hO hE fuel _ _ _ hleft (hst.fill F ho hd hn hdeps hoj hj hp hlj hg hT hC' rfl))

/-- The list of what is said, by slots. -/
def sqOf (l : List (Nat × Sq)) (d : Nat) : Sq := (l.lookup d).getD ⟨none, none, none⟩

/-- What can be checked by reckoning: distinct slots, dependencies, the slots that others are said in terms of, the boxes' stores. -/
def fxB (ops : Array Oper) (fl : List (Nat × List (Nat × Nat))) (bl : List (Nat × Nat × List (Nat × Nat))) : Bool :=
  decide (((ops.toList.map (·.dst)).filter (·.isSome)).Nodup) && (ops.toList.zipIdx.all fun p => p.1.after.all fun e => decide (e.on < p.2)) &&
  (ops.toList.zipIdx.all fun p => fl.all fun q => p.1.dst != some q.1 || q.2.all fun k => ((ops[k.1]?).bind (·.dst) == some k.2) && reaches ops 14 p.2 k.1 && decide (k.1 < p.2)) &&
  (ops.toList.zipIdx.all fun p => bl.all fun q => p.1.dst != some q.1 || (match ops[q.2.1]? with
    | none => false
    | some os => (os.dst == none) && os.after.any fun e => decide (e.on = p.2) && Region.binds .any e) && q.2.2.all fun k => ((ops[k.1]?).bind (·.dst) == some k.2) && reaches ops 14 q.2.1 k.1) &&
  decide ((bl.map (·.2.1)).Nodup)

theorem nodup_filter_inj {l : List (Option Nat)} (h : (l.filter (·.isSome)).Nodup) : ∀ {i j : Nat} {d : Nat}, l[i]? = some (some d) → l[j]? = some (some d) → i = j := by
  induction l with
  | nil => intro i j d hi; simp at hi
  | cons x r ih =>
    have hr : (r.filter (·.isSome)).Nodup := by
      cases x with
      | none => simpa using h
      | some y => have : ((some y :: r.filter (·.isSome)) : List (Option Nat)).Nodup := by simpa using h
                  exact (List.nodup_cons.1 this).2
    intro i j d hi hj
    have key : ∀ k : Nat, r[k]? = some (some d) → x = some d → False := by
      intro k hk hx
      subst hx
      have : ((some d :: r.filter (·.isSome)) : List (Option Nat)).Nodup := by simpa using h
      exact (List.nodup_cons.1 this).1 (List.mem_filter.2 ⟨List.mem_of_getElem? hk, rfl⟩)
    cases i with
    | zero =>
      cases j with
      | zero => rfl
      | succ j => exact (key j (by simpa using hj) (by simpa using hi)).elim
    | succ i =>
      cases j with
      | zero => exact (key i (by simpa using hi) (by simpa using hj)).elim
      | succ j => have h6 := ih hr (i := i) (j := j) (d := d) (by simpa using hi) (by simpa using hj); rw [h6]

theorem zip_mem {ops : Array Oper} {i : Nat} {oi : Oper} (hi : ops[i]? = some oi) : (oi, i) ∈ ops.toList.zipIdx := by
  rw [List.mem_zipIdx_iff_getElem?, Array.getElem?_toList]
  exact hi

theorem fx_of {l : List (Nat × Sq)} (fl : List (Nat × List (Nat × Nat))) (bl : List (Nat × Nat × List (Nat × Nat))) (h : fxB ops fl bl = true)
    (hfl : (l.filterMap fun p => p.2.fn.map fun q => (p.1, q.1)) = fl)
    (hbl : (l.filterMap fun p => match p.2.own with | some (.box _ _ ks _ s) => some (p.1, s, ks) | _ => none) = bl) : FxB ops (sqOf l) := by
  simp only [fxB, Bool.and_eq_true, decide_eq_true_eq] at h
  obtain ⟨⟨⟨⟨h1, h2⟩, h3⟩, h4⟩, h5⟩ := h
  have memOf : ∀ d s, sqOf l d = s → s ≠ ⟨none, none, none⟩ → (d, s) ∈ l := by
    intro d s hs hne
    unfold sqOf at hs
    cases hl : l.lookup d with
    | none => rw [hl] at hs; exact absurd hs.symm hne
    | some s' =>
      rw [hl] at hs
      have hs' : s' = s := hs
      subst hs'
      clear hs h1 h2 h3 h4 h5 hfl hbl
      induction l with
      | nil => simp at hl
      | cons p r ih =>
        obtain ⟨k, t⟩ := p
        simp only [List.lookup_cons] at hl
        by_cases hk : d = k
        · subst hk
          simp at hl
          subst hl
          exact List.mem_cons_self
        · have : (d == k) = false := by simpa using hk
          rw [this] at hl
          exact List.mem_cons_of_mem _ (ih hl)
  have slot : ∀ {i : Nat} {oi : Oper} {d : Nat}, ops[i]? = some oi → oi.dst = some d → (ops.toList.map (·.dst))[i]? = some (some d) := by
    intro i oi d hi hd
    rw [List.getElem?_map, Array.getElem?_toList, hi]
    simp [hd]
  have boxm : ∀ {d : Nat} {t z ks f s}, (sqOf l d).own = some (.box t z ks f s) → (d, s, ks) ∈ bl := by
    intro d t z ks f s hp
    rw [← hbl, List.mem_filterMap]
    refine ⟨(d, sqOf l d), memOf d _ rfl (fun e => by rw [e] at hp; cases hp), ?_⟩
    simp only [hp]
  refine ⟨fun i j oi oj d hi hj hd hd' => nodup_filter_inj h1 (slot hi hd) (slot hj hd'), fun i oi hi e he => ?_, fun i oi d hi hd ks f hf p hp => ?_, fun i oi d hi hd t z ks f s hp => ?_, fun i j oi oj d e hi hj hd he t z ks f s t' z' ks' f' hp hp' => ?_⟩
  · have := List.all_eq_true.1 h2 _ (zip_mem hi)
    simpa using (Array.all_eq_true_iff_forall_mem.1 this) e he
  · have hm : (d, ks) ∈ fl := by
      rw [← hfl, List.mem_filterMap]
      exact ⟨(d, sqOf l d), memOf d _ rfl (fun e => by rw [e] at hf; cases hf), by simp only [hf, Option.map_some]⟩
    have := List.all_eq_true.1 (List.all_eq_true.1 h3 _ (zip_mem hi)) _ hm
    simp only [Bool.or_eq_true, bne_iff_ne] at this
    rcases this with h' | h'
    · exact absurd hd h'
    · have := List.all_eq_true.1 h' p hp
      simp only [Bool.and_eq_true, beq_iff_eq, decide_eq_true_eq] at this
      exact ⟨this.1.1, this.1.2, this.2⟩
  · have := List.all_eq_true.1 (List.all_eq_true.1 h4 _ (zip_mem hi)) _ (boxm hp)
    simp only [Bool.or_eq_true, bne_iff_ne] at this
    rcases this with h' | h'
    · exact absurd hd h'
    · rw [Bool.and_eq_true] at h'
      obtain ⟨h', h7⟩ := h'
      refine ⟨?_, fun p hp' => ?_⟩
      · cases hos : ops[s]? with
        | none => rw [hos] at h'; cases h'
        | some os =>
          rw [hos] at h'
          simp only [Bool.and_eq_true, beq_iff_eq] at h'
          obtain ⟨k, hk, h6⟩ := Array.any_eq_true.1 h'.2
          simp only [Bool.and_eq_true, decide_eq_true_eq] at h6
          exact ⟨os, rfl, h'.1, _, Array.getElem_mem hk, h6.1, h6.2⟩
      · have := List.all_eq_true.1 h7 p hp'
        simp only [Bool.and_eq_true, beq_iff_eq] at this
        exact this
  · have m1 := boxm hp
    have m2 := boxm hp'
    have : d = e := by
      obtain ⟨a, ha⟩ := List.mem_iff_getElem?.1 m1
      obtain ⟨b, hb⟩ := List.mem_iff_getElem?.1 m2
      have ha' : (bl.map (·.2.1))[a]? = some s := by rw [List.getElem?_map, ha]; rfl
      have hb' : (bl.map (·.2.1))[b]? = some s := by rw [List.getElem?_map, hb]; rfl
      have hlt : a < (bl.map (·.2.1)).length := (List.getElem?_eq_some_iff.1 ha').1
      have hab := (List.getElem?_inj hlt h5).1 (ha'.trans hb'.symm)
      subst hab
      rw [ha] at hb
      injection hb with hb
      injection hb
    subst this
    exact nodup_filter_inj h1 (slot hi hd) (slot hj he)

/-- The operations one by one. -/
def OwedAllB (P : Program) (ops : Array Oper) (Q : Exit → Act → World → Prop) (T0 : Array Value) (df : List Deferred) (w0 : World) (sp : Nat → Sq) : Nat → List Oper → Prop
  | _, [] => True
  | i, o :: r => OwedB P ops Q T0 df w0 sp i o ∧ OwedAllB P ops Q T0 df w0 sp (i + 1) r
theorem OwedAllB.mem : ∀ {l : List Oper} {k : Nat}, OwedAllB P ops Q T0 df w0 sp k l → ∀ (i : Nat) o, l[i]? = some o → OwedB P ops Q T0 df w0 sp (k + i) o
  | [], _, _, i, o, hx => by simp at hx
  | o :: r, k, h, 0, x, hx => by
    simp at hx
    subst hx
    exact h.1
  | o :: r, k, h, i + 1, x, hx => by
    have := h.2.mem i x (by simpa using hx)
    rwa [Nat.add_right_comm, Nat.add_assoc] at this

theorem region_invB {id : Nat} {a : Act} {w : World} (w0 : World) (l : List (Nat × Sq)) (fl : List (Nat × List (Nat × Nat))) (bl : List (Nat × Nat × List (Nat × Nat))) (hm : P.follows .mixedOrders = true) (hG : Below w0.heap.size w0 w.drew) (h : fxB ops fl bl = true)
    (hfl : (l.filterMap fun p => p.2.fn.map fun q => (p.1, q.1)) = fl)
    (hbl : (l.filterMap fun p => match p.2.own with | some (.box _ _ ks _ s) => some (p.1, s, ks) | _ => none) = bl)
    (hO : OwedAllB P ops Q a.tmps a.defers w0 (sqOf l) 0 ops.toList)
    (hE : ∀ a' w' listed, (∀ i, i < ops.size → listed.getD i false = true) → Sb ops a.tmps a.defers w0 (sqOf l) listed a' w' → Q .normal a' w') : (Code.region id ops true).wp P Q a w := by
  refine wp_region_any hm ?_
  refine any_invB (fx_of fl bl h hfl hbl) (fun i oi hi => ?_) (fun a' w' listed hl hs => hE a' w' listed hl hs) _ _ a w.drew (leftOf_start _) ⟨by simp, rfl, rfl, hG, fun j oj hj hl => ?_, fun t _ => rfl, fun i oi d hi hd hl => ?_, fun i oi d hi hd hl => ?_, fun i oi d hi hd hl => ?_, fun i j oi oj d e hi hj hd he hl => ?_⟩
  · have := hO.mem i oi (by rw [Array.getElem?_toList]; exact hi)
    rwa [Nat.zero_add] at this
  all_goals (rw [none_listed] at hl; cases hl)

variable {listed : Array Bool} {a : Act} {w : World}
theorem Sb.valOf (h : Sb ops T0 df w0 sp listed a w) (j d : Nat) (hj : (ops[j]?).bind (·.dst) = some d) (hl : listed.getD j false = true) {x : Value} (hx : (sp d).v = some x) : a.tmps[d]?.getD undef = x := by
  cases ho : ops[j]? with
  | none => rw [ho] at hj; cases hj
  | some oj =>
    rw [ho] at hj
    simpa [tv] using h.vals j oj d ho hj hl x hx
theorem Sb.fnOf (h : Sb ops T0 df w0 sp listed a w) (j d : Nat) (hj : (ops[j]?).bind (·.dst) = some d) (hl : listed.getD j false = true) {ks : List (Nat × Nat)} {f : List Value → Value} (hx : (sp d).fn = some (ks, f)) : a.tmps[d]?.getD undef = f (ks.map fun p => a.tmps[p.2]?.getD undef) := by
  cases ho : ops[j]? with
  | none => rw [ho] at hj; cases hj
  | some oj =>
    rw [ho] at hj
    simpa [tv] using h.fns j oj d ho hj hl ks f hx
theorem Sb.rowOf (h : Sb ops T0 df w0 sp listed a w) (j d : Nat) (hj : (ops[j]?).bind (·.dst) = some d) (hl : listed.getD j false = true) {e : TypeId} {size n : Nat} {cs : List Value} (hx : (sp d).own = some (.row e size n cs)) :
    OwnC w w0.heap.size e size (a.tmps[d]?.getD undef) n cs := by
  cases ho : ops[j]? with
  | none => rw [ho] at hj; cases hj
  | some oj =>
    rw [ho] at hj
    simpa [tv, OwnP.is] using h.owns j oj d ho hj hl _ hx
theorem Sb.boxOf (h : Sb ops T0 df w0 sp listed a w) (j d : Nat) (hj : (ops[j]?).bind (·.dst) = some d) (hl : listed.getD j false = true) {t : TypeId} {z : Array Value} {ks : List (Nat × Nat)} {f : List Value → Array Value} {s : Nat} (hx : (sp d).own = some (.box t z ks f s)) (hs : listed.getD s false = true) :
    ∃ g, a.tmps[d]?.getD undef = .pointer (some ⟨g, 0, none⟩) ∧ w0.heap.size ≤ g ∧ g < w.heap.size ∧ w.heap[g]? = some (.cells (f (ks.map fun k => a.tmps[k.2]?.getD undef)) t (0, 0)) := by
  cases ho : ops[j]? with
  | none => rw [ho] at hj; cases hj
  | some oj =>
    rw [ho] at hj
    have := h.owns j oj d ho hj hl _ hx
    have hnow : OwnP.now (.box t z ks f s) listed a = some (f (ks.map fun k => tv a k.2)) := by
      simp only [OwnP.now]
      rw [hs]
      rfl
    rw [hnow] at this
    simpa [tv, OwnP.is] using this
theorem Sb.apart (h : Sb ops T0 df w0 sp listed a w) (i j d e : Nat) (hi : (ops[i]?).bind (·.dst) = some d) (hj : (ops[j]?).bind (·.dst) = some e) (hli : listed.getD i false = true) (hlj : listed.getD j false = true) (hij : i ≠ j) (h1 : (sp d).own ≠ none) (h2 : (sp e).own ≠ none) :
    ∀ b, vblk (a.tmps[d]?.getD undef) = some b → vblk (a.tmps[e]?.getD undef) ≠ some b := by
  cases hoi : ops[i]? with
  | none => rw [hoi] at hi; cases hi
  | some oi =>
    cases hoj : ops[j]? with
    | none => rw [hoj] at hj; cases hj
    | some oj =>
      rw [hoi] at hi
      rw [hoj] at hj
      simpa [tv] using h.sep i j oi oj d e hoi hoj hi hj hli hlj hij h1 h2
theorem Sb.oldOf (h : Sb ops T0 df w0 sp listed a w) {i : Nat} (hn : listed.getD i false = false) (t : Nat) (hc : (ops.toList.zipIdx.all fun p => p.1.dst != some t || reaches ops 14 p.2 i) = true) {x : Value} (hx : T0.getD t undef = x) : a.tmps[t]?.getD undef = x := by
  have := (h.old t fun k ok hk hkd => by
    have h1 := List.all_eq_true.1 hc (ok, k) (zip_mem hk)
    simp only [Bool.or_eq_true] at h1
    rcases h1 with h1 | h1
    · rw [hkd] at h1; simp at h1
    · cases hl : listed.getD k false with
      | false => rfl
      | true => rw [h.reach 14 k i h1 hl] at hn; cases hn).trans hx
  simpa using this
theorem Sb.oldEnd (h : Sb ops T0 df w0 sp listed a w) (t : Nat) (hc : (ops.toList.all fun o => o.dst != some t) = true) {x : Value} (hx : T0.getD t undef = x) : a.tmps[t]?.getD undef = x := by
  have := (h.old t fun k ok hk hkd => by
    have h1 := List.all_eq_true.1 hc ok (by rw [List.mem_iff_getElem?]; exact ⟨k, by rw [Array.getElem?_toList]; exact hk⟩)
    rw [hkd] at h1; simp at h1).trans hx
  simpa using this
end

end Go.Proofs.YthdagjlgfffpbaaGreat

/-
  A REGION THAT DRAWS ITS ORDER, BY AN INVARIANT (after MInv), WHOSE OPERATIONS STORE NOTHING: each result has a property, of its value and of the world, that whatever leaves the old blocks alone keeps. By the verifier.
-/
set_option linter.unusedVariables false
namespace Go.Proofs.YthdagjlgfffpbaaGreat
open Go.RowKit

/-- A property that is kept. -/
def Keeps (R : Value → World → Prop) : Prop := ∀ v w w', R v w → Below w.heap.size w w' → R v w'

def isV (x : Value) : Value → World → Prop := fun v _ => v = x
def isRow (base : Nat) (e : TypeId) (size n : Nat) (cs : List Value) : Value → World → Prop := fun v w => OwnC w base e size v n cs
theorem isV_keeps (x : Value) : Keeps (isV x) := fun _ _ _ h _ => h
theorem isRow_keeps (base : Nat) (e : TypeId) (size n : Nat) (cs : List Value) : Keeps (isRow base e size n cs) := fun _ _ _ h hb => OwnC.below h hb

section
variable {P : Program} {ops : Array Oper} {Q : Exit → Act → World → Prop}

structure Sr (ops : Array Oper) (T0 : Array Value) (df : List Deferred) (w0 : World) (R : Nat → Value → World → Prop) (listed : Array Bool) (a : Act) (w : World) : Prop where
  lsize : listed.size = ops.size
  size : a.tmps.size = T0.size
  defers : a.defers = df
  glob : Below w0.heap.size w0 w
  closed : ∀ (j : Nat) (oj : Oper), ops[j]? = some oj → listed.getD j false = true → ∀ e ∈ oj.after, Region.binds .any e = true → listed.getD e.on false = true
  old : ∀ (t : Nat), (∀ (i : Nat) (oi : Oper), ops[i]? = some oi → oi.dst = some t → listed.getD i false = false) → a.tmps.getD t undef = T0.getD t undef
  facts : ∀ (i : Nat) (oi : Oper) (d : Nat), ops[i]? = some oi → oi.dst = some d → listed.getD i false = true → R d (a.tmps.getD d undef) w

variable {T0 : Array Value} {df : List Deferred} {w0 : World} {R : Nat → Value → World → Prop}

theorem Sr.step {listed : Array Bool} {a : Act} {w w' : World} (h : Sr ops T0 df w0 R listed a w) (hR : ∀ d, Keeps (R d))
    (hD : ∀ (i j : Nat) (oi oj : Oper) (d : Nat), ops[i]? = some oi → ops[j]? = some oj → oi.dst = some d → oj.dst = some d → i = j)
    {i : Nat} {oi : Oper} {d : Nat} (hi : ops[i]? = some oi) (hd : oi.dst = some d) (hs : d < T0.size) (hn : listed.getD i false = false)
    (hC : ∀ e ∈ oi.after, Region.binds .any e = true → listed.getD e.on false = true) {v : Value} (hb : Below w.heap.size w w') (hv : R d v w') :
    Sr ops T0 df w0 R (listed.setIfInBounds i true) (a.put oi.dst v) w' := by
  have hil : i < listed.size := by rw [h.lsize]; exact (Array.getElem?_eq_some_iff.1 hi).1
  rw [hd]
  refine ⟨by simpa using h.lsize, by simpa [Act.put] using h.size, by simpa [Act.put] using h.defers, h.glob.trans (hb.mono h.glob.size), fun j oj hj hl e he hbe => ?_, fun t ht => ?_, fun j oj dj hj hdj hl => ?_⟩
  · by_cases hij : i = j
    · subst hij
      rw [hi] at hj
      injection hj with hj
      subst hj
      exact listed_mono hil (hC e he hbe)
    · rw [getD_set hij] at hl
      exact listed_mono hil (h.closed j oj hj hl e he hbe)
  · have hne : d ≠ t := fun e => by
      have := ht i oi hi (by rw [hd, e])
      rw [getD_set_same hil] at this
      cases this
    rw [getD_put hne]
    refine h.old t fun k ok hk hkd => ?_
    have := ht k ok hk hkd
    by_cases hik : i = k
    · subst hik
      exact hn
    · rwa [getD_set hik] at this
  · by_cases hij : i = j
    · subst hij
      rw [hi] at hj
      injection hj with hj
      subst hj
      rw [hd] at hdj
      injection hdj with hdj
      subst hdj
      rw [getD_put_same (by rw [h.size]; exact hs)]
      exact hv
    · have hne : d ≠ dj := fun e => hij (hD i j oi oj d hi hj hd (by rw [hdj, e]))
      rw [getD_put hne]
      rw [getD_set hij] at hl
      exact hR _ _ _ _ (h.facts j oj dj hj hdj hl) hb

/-- What is owed for an operation. -/
def OwedP (P : Program) (ops : Array Oper) (Q : Exit → Act → World → Prop) (T0 : Array Value) (df : List Deferred) (w0 : World) (R : Nat → Value → World → Prop) (i : Nat) (oi : Oper) : Prop :=
  ∃ d, oi.dst = some d ∧ d < T0.size ∧ ∀ (listed : Array Bool) (a : Act) (w : World), Sr ops T0 df w0 R listed a w → listed.getD i false = false → (∀ e ∈ oi.after, Region.binds .any e = true → listed.getD e.on false = true) →
    ∀ K : Act → World → Prop, (∀ v w', Below w.heap.size w w' → R d v w' → K (a.put oi.dst v) w') →
      if Region.wanted oi (yielded ops a.tmps) = true then Oper.wp P oi a w K Q else K (a.put oi.dst undef) w

theorem any_invP (hR : ∀ d, Keeps (R d)) (hD : ∀ (i j : Nat) (oi oj : Oper) (d : Nat), ops[i]? = some oi → ops[j]? = some oj → oi.dst = some d → oj.dst = some d → i = j)
    (hdep : ∀ (i : Nat) (oi : Oper), ops[i]? = some oi → ∀ e ∈ oi.after, e.on < i)
    (hO : ∀ (i : Nat) (oi : Oper), ops[i]? = some oi → OwedP P ops Q T0 df w0 R i oi)
    (hE : ∀ a w listed, (∀ i, i < ops.size → listed.getD i false = true) → Sr ops T0 df w0 R listed a w → Q .normal a w) :
    ∀ (fuel : Nat) (listed : Array Bool) (a : Act) (w : World), leftOf listed = fuel → Sr ops T0 df w0 R listed a w → wpAny P .any ops Q fuel listed a w
  | 0, listed, a, w, hl, hst => wpAny_done hst.lsize (fun i hi => leftOf_zero hl i (by rw [hst.lsize]; exact hi)) (hE a w listed (fun i hi => leftOf_zero hl i (by rw [hst.lsize]; exact hi)) hst)
  | fuel + 1, listed, a, w, hl, hst => by
    refine ⟨fun h0 => hE a w listed (all_come hdep hst.lsize h0) hst, fun i hi => ?_⟩
    obtain ⟨h1, o, ho, hdeps⟩ := mem_ready.1 hi
    obtain ⟨d, hd, hds, hstep⟩ := hO i o ho
    have hlt : i < ops.size := (Array.getElem?_eq_some_iff.1 ho).1
    have hn : listed.getD i false = false := by
      rw [Array.getD_eq_getD_getElem?, Array.getElem?_eq_getElem (by rw [hst.lsize]; exact hlt)] at h1 ⊢
      exact h1
    refine wpOp_step ho fun K' hK => ?_
    refine hstep listed a w hst hn hdeps K' fun v w' hb hv => ?_
    refine hK _ _ (any_invP hR hD hdep hO hE fuel _ _ _ ?_ (hst.step hR hD ho hd hds hn hdeps hb hv))
    have := leftOf_set h1
    omega

/-- The properties by slots. -/
def prOf (l : List (Nat × (Value → World → Prop))) (d : Nat) : Value → World → Prop := (l.lookup d).getD (fun _ _ => True)
def KeepsAll : List (Nat × (Value → World → Prop)) → Prop
  | [] => True
  | p :: r => Keeps p.2 ∧ KeepsAll r
theorem prOf_keeps {l : List (Nat × (Value → World → Prop))} (h : KeepsAll l) (d : Nat) : Keeps (prOf l d) := by
  unfold prOf
  induction l with
  | nil => exact fun _ _ _ h _ => h
  | cons p r ih =>
    obtain ⟨k, t⟩ := p
    simp only [List.lookup_cons]
    cases hk : d == k with
    | true => exact h.1
    | false => exact ih h.2

/-- The operations one by one. -/
def OwedAllP (P : Program) (ops : Array Oper) (Q : Exit → Act → World → Prop) (T0 : Array Value) (df : List Deferred) (w0 : World) (R : Nat → Value → World → Prop) : Nat → List Oper → Prop
  | _, [] => True
  | i, o :: r => OwedP P ops Q T0 df w0 R i o ∧ OwedAllP P ops Q T0 df w0 R (i + 1) r
theorem OwedAllP.mem : ∀ {l : List Oper} {k : Nat}, OwedAllP P ops Q T0 df w0 R k l → ∀ (i : Nat) o, l[i]? = some o → OwedP P ops Q T0 df w0 R (k + i) o
  | [], _, _, i, o, hx => by simp at hx
  | o :: r, k, h, 0, x, hx => by
    simp at hx
    subst hx
    exact h.1
  | o :: r, k, h, i + 1, x, hx => by
    have := h.2.mem i x (by simpa using hx)
    rwa [Nat.add_right_comm, Nat.add_assoc] at this

theorem region_invP {id : Nat} {a : Act} {w : World} (w0 : World) (l : List (Nat × (Value → World → Prop))) (hl : KeepsAll l) (hm : P.follows .mixedOrders = true) (hG : Below w0.heap.size w0 w.drew) (h : freshB ops [] [] = true)
    (hO : OwedAllP P ops Q a.tmps a.defers w0 (prOf l) 0 ops.toList)
    (hE : ∀ a' w' listed, (∀ i, i < ops.size → listed.getD i false = true) → Sr ops a.tmps a.defers w0 (prOf l) listed a' w' → Q .normal a' w') : (Code.region id ops true).wp P Q a w := by
  refine wp_region_any hm ?_
  refine any_invP (prOf_keeps hl) (fresh_dist h) (fresh_dep h) (fun i oi hi => ?_) (fun a' w' listed hl hs => hE a' w' listed hl hs) _ _ a w.drew (leftOf_start _) ⟨by simp, rfl, rfl, hG, fun j oj hj hl => ?_, fun t _ => rfl, fun i oi d hi hd hl => ?_⟩
  · have := hO.mem i oi (by rw [Array.getElem?_toList]; exact hi)
    rwa [Nat.zero_add] at this
  all_goals (rw [none_listed] at hl; cases hl)

variable {listed : Array Bool} {a : Act} {w : World}
theorem Sr.reach (h : Sr ops T0 df w0 R listed a w) : ∀ (n j i : Nat), reaches ops n j i = true → listed.getD j false = true → listed.getD i false = true
  | 0, j, i, hr, hl => by
    simp only [reaches, decide_eq_true_eq] at hr
    subst hr
    exact hl
  | n + 1, j, i, hr, hl => by
    simp only [reaches, Bool.or_eq_true, decide_eq_true_eq] at hr
    rcases hr with rfl | hr
    · exact hl
    · cases ho : ops[j]? with
      | none => rw [ho] at hr; cases hr
      | some o =>
        rw [ho] at hr
        obtain ⟨e, he, h1⟩ := List.any_eq_true.1 hr
        simp only [Bool.and_eq_true] at h1
        exact h.reach n e.on i h1.2 (h.closed j o ho hl e (by simpa using he) h1.1)
theorem Sr.fact (h : Sr ops T0 df w0 R listed a w) (j d : Nat) (hj : (ops[j]?).bind (·.dst) = some d) (hl : listed.getD j false = true) : R d (a.tmps[d]?.getD undef) w := by
  cases ho : ops[j]? with
  | none => rw [ho] at hj; cases hj
  | some oj =>
    rw [ho] at hj
    simpa using h.facts j oj d ho hj hl
theorem Sr.oldOf (h : Sr ops T0 df w0 R listed a w) {i : Nat} (hn : listed.getD i false = false) (t : Nat) (hc : (ops.toList.zipIdx.all fun p => p.1.dst != some t || reaches ops 14 p.2 i) = true) {x : Value} (hx : T0.getD t undef = x) : a.tmps[t]?.getD undef = x := by
  have := (h.old t fun k ok hk hkd => by
    have h1 := List.all_eq_true.1 hc (ok, k) (zip_mem hk)
    simp only [Bool.or_eq_true] at h1
    rcases h1 with h1 | h1
    · rw [hkd] at h1; simp at h1
    · cases hl : listed.getD k false with
      | false => rfl
      | true => rw [h.reach 14 k i h1 hl] at hn; cases hn).trans hx
  simpa using this
theorem Sr.oldEnd (h : Sr ops T0 df w0 R listed a w) (t : Nat) (hc : (ops.toList.all fun o => o.dst != some t) = true) {x : Value} (hx : T0.getD t undef = x) : a.tmps[t]?.getD undef = x := by
  have := (h.old t fun k ok hk hkd => by
    have h1 := List.all_eq_true.1 hc ok (by rw [List.mem_iff_getElem?]; exact ⟨k, by rw [Array.getElem?_toList]; exact hk⟩)
    rw [hkd] at h1; simp at h1).trans hx
  simpa using this
end

end Go.Proofs.YthdagjlgfffpbaaGreat
