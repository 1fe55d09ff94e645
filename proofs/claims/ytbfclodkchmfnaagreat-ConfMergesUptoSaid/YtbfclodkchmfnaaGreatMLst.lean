/-
  A REGION THAT DRAWS ITS ORDER, BY AN INVARIANT (MInv), WHOSE LAST OPERATION WAITS FOR ALL OTHERS AND LAYS NO SLOT (a store). By the verifier.
-/
import Derived.Test.YtbfclodkchmfnaaGreatMReg
set_option linter.unusedVariables false
namespace Go.Proofs.YtbfclodkchmfnaaGreat
open Go.RowKit

section
variable {P : Program} {ops : Array Oper} {Q : Exit → Act → World → Prop}
variable {G : World → Prop} {fins : List Nat} {T0 : Array Value} {df : List Deferred} {w0 : World} {sp : Nat → Sp}

/-- Operation k waits for all others. -/
def lastB (ops : Array Oper) (k : Nat) : Bool := (List.range ops.size).all fun i => decide (i = k) || match ops[k]? with
  | none => false
  | some o => o.after.toList.any fun e => Region.binds .any e && reaches ops 14 e.on i

theorem St.others {listed : Array Bool} {a : Act} {w : World} (h : St G ops fins T0 df w0 sp listed a w) {k : Nat} (hk : lastB ops k = true) {ok : Oper} (ho : ops[k]? = some ok) (hdep : ∀ e ∈ ok.after, Region.binds .any e = true → listed.getD e.on false = true) : ∀ i, i < ops.size → i ≠ k → listed.getD i false = true := by
  intro i hi hne
  have h1 := List.all_eq_true.1 hk i (by simpa using hi)
  rw [ho] at h1
  simp only [Bool.or_eq_true, decide_eq_true_eq] at h1
  rcases h1 with h1 | h1
  · exact absurd h1 hne
  · obtain ⟨e, he, h2⟩ := List.any_eq_true.1 h1
    simp only [Bool.and_eq_true] at h2
    exact h.reach 14 e.on i h2.2 (hdep e (by simpa using he) h2.1)

theorem leftOf_full {l : Array Bool} (h : ∀ i, i < l.size → l.getD i false = true) : leftOf l = 0 := by
  obtain ⟨l⟩ := l
  unfold leftOf
  rw [List.length_eq_zero_iff]
  refine List.filter_eq_nil_iff.2 fun b hb => ?_
  obtain ⟨i, hi, rfl⟩ := List.mem_iff_getElem.1 hb
  have := h i (by simpa using hi)
  simp [hi] at this
  simp [this]

theorem wpAny_done {fuel : Nat} {listed : Array Bool} {a : Act} {w : World} (hs : listed.size = ops.size) (h : ∀ i, i < ops.size → listed.getD i false = true) (hQ : Q .normal a w) : wpAny P .any ops Q fuel listed a w := by
  have h0 : Region.ready .any ops listed = [] := by
    refine List.eq_nil_iff_forall_not_mem.2 fun i hi => ?_
    obtain ⟨h1, o, ho, -⟩ := mem_ready.1 hi
    have hlt : i < ops.size := (Array.getElem?_eq_some_iff.1 ho).1
    have h2 := h i hlt
    rw [Array.getD_eq_getD_getElem?, Array.getElem?_eq_getElem (by rw [hs]; exact hlt)] at h1 h2
    simp only [Option.getD_some] at h1 h2
    rw [h1] at h2
    cases h2
  cases fuel with
  | zero => exact ⟨h0, hQ⟩
  | succ n =>
    refine ⟨fun _ => hQ, fun i hi => ?_⟩
    rw [h0] at hi
    cases hi

theorem any_invL (k : Nat) (hk : lastB ops k = true) (hD : ∀ (i j : Nat) (oi oj : Oper) (d : Nat), ops[i]? = some oi → ops[j]? = some oj → oi.dst = some d → oj.dst = some d → i = j)
    (hdep : ∀ (i : Nat) (oi : Oper), ops[i]? = some oi → ∀ e ∈ oi.after, e.on < i) (hfin : ∀ (i : Nat) (oi : Oper) (d : Nat), ops[i]? = some oi → oi.dst = some d → (sp d).r ≠ none → ∀ f ∈ fins, f < i → ∃ e ∈ oi.after, e.on = f ∧ Region.binds .any e = true)
    (hO : ∀ (i : Nat) (oi : Oper), i ≠ k → ops[i]? = some oi → Owed G P ops fins Q T0 df w0 sp i oi)
    (hkl : k < ops.size)
    (hL : ∀ (ok : Oper) (listed : Array Bool) (a : Act) (w : World), ops[k]? = some ok → St G ops fins T0 df w0 sp listed a w → listed.getD k false = false → (∀ i, i < ops.size → i ≠ k → listed.getD i false = true) →
      ∀ K : Act → World → Prop, (∀ a' w', Q .normal a' w' → K a' w') → if Region.wanted ok (yielded ops a.tmps) = true then Oper.wp P ok a w K Q else K (a.put ok.dst undef) w) :
    ∀ (fuel : Nat) (listed : Array Bool) (a : Act) (w : World), leftOf listed = fuel → listed.getD k false = false → St G ops fins T0 df w0 sp listed a w → wpAny P .any ops Q fuel listed a w
  | 0, listed, a, w, hl, hn, hst => by
    exfalso
    have := leftOf_zero hl k (by rw [hst.lsize]; exact hkl)
    rw [hn] at this
    cases this
  | fuel + 1, listed, a, w, hl, hn, hst => by
    refine ⟨fun h0 => ?_, fun i hi => ?_⟩
    · exfalso
      have := all_come hdep hst.lsize h0 k hkl
      rw [hn] at this
      cases this
    obtain ⟨h1, o, ho, hdeps⟩ := mem_ready.1 hi
    have hlt : i < ops.size := (Array.getElem?_eq_some_iff.1 ho).1
    have hni : listed.getD i false = false := by
      rw [Array.getD_eq_getD_getElem?, Array.getElem?_eq_getElem (by rw [hst.lsize]; exact hlt)] at h1 ⊢
      exact h1
    refine wpOp_step ho fun K' hK => ?_
    by_cases hik : i = k
    · subst hik
      have hoth := hst.others hk ho hdeps
      refine hL o listed a w ho hst hni hoth K' fun a' w' hq => hK _ _ ?_
      refine wpAny_done (by simpa using hst.lsize) (fun j hj => ?_) hq
      by_cases hij : i = j
      · subst hij
        exact getD_set_same (by rw [hst.lsize]; exact hj) _
      · rw [getD_set hij]
        exact hoth j hj (fun e => hij e.symm)
    · obtain ⟨d, hd, hds, hstep⟩ := hO i o hik ho
      refine hstep listed a w hst hni hdeps K' fun v w' hb hG hv hX => ?_
      refine hK _ _ (any_invL k hk hD hdep hfin hO hkl hL fuel _ _ _ ?_ ?_ (hst.step hD ho hd hds hni (fun f hf hfi hr => ?_) hdeps hb hG hv hX))
      · have := leftOf_set h1
        omega
      · rw [getD_set hik]
        exact hn
      · obtain ⟨e, he, h3, h4⟩ := hfin i o d ho hd hr f hf hfi
        rw [← h3]
        exact hdeps e he h4

theorem region_invL (G : World → Prop) {id : Nat} {a : Act} {w : World} (fins : List Nat) (w0 : World) (l : List (Nat × Sp)) (rs : List Nat) (k : Nat) (hrs : (l.filter fun p => p.2.r.isSome).map (·.1) = rs) (hm : P.follows .mixedOrders = true) (hG : Below w0.heap.size w0 w.drew) (hX : G w.drew) (hf : freshB ops fins rs = true) (hk : lastB ops k = true) (hkl : ops.size = k + 1)
    (hO : OwedAll G P ops fins Q a.tmps a.defers w0 (spOf l) 0 (ops.toList.take k))
    (hL : ∀ (ok : Oper) (listed : Array Bool) (a' : Act) (w' : World), ops[k]? = some ok → St G ops fins a.tmps a.defers w0 (spOf l) listed a' w' → listed.getD k false = false → (∀ i, i < ops.size → i ≠ k → listed.getD i false = true) →
      ∀ K : Act → World → Prop, (∀ a'' w'', Q .normal a'' w'' → K a'' w'') → if Region.wanted ok (yielded ops a'.tmps) = true then Oper.wp P ok a' w' K Q else K (a'.put ok.dst undef) w') : (Code.region id ops true).wp P Q a w := by
  subst hrs
  refine wp_region_any hm ?_
  refine any_invL k hk (fresh_dist hf) (fresh_dep hf) (fresh_fin hf (spOf_rows l)) (fun i oi hne hi => ?_) (by omega) hL _ _ a w.drew (leftOf_start _) (none_listed _ _) ⟨by simp, rfl, rfl, hG, hX, fun f hf j oj d hfj hj hd hr hl => ?_, fun j oj hj hl => ?_, fun t _ => rfl, fun i oi d hi hd hl => ?_, fun i oi d hi hd hl => ?_⟩
  · have hlt : i < ops.size := (Array.getElem?_eq_some_iff.1 hi).1
    have := hO.mem i oi (by rw [List.getElem?_take_of_lt (by omega), Array.getElem?_toList]; exact hi)
    rwa [Nat.zero_add] at this
  all_goals (rw [none_listed] at hl; cases hl)
end

end Go.Proofs.YtbfclodkchmfnaaGreat
