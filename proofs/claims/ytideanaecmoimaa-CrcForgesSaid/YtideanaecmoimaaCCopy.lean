/-
  copy into a row of the call's own: all other blocks stay. By the verifier.
-/
import Derived.Test.YtideanaecmoimaaCSum
import Derived.Test.YtideanaecmoimaaCNum
import Derived.Laws.CopyOwn
import Derived.OwnWalk
import Derived.Deep.RegionLaw
set_option linter.unusedVariables false
namespace Go.Proofs.Ytideanaecmoimaa
open Go.RowKit

theorem Sole.setRow (g : Nat) (w : World) (cs : Array Value) : Sole g w (w.setRow g cs) :=
  ⟨rfl, rfl, rfl, by simp, fun k _ hk => setRow_other w g k cs hk⟩

/-- What a copy asks: the destination lies in a row that is known, the source's cells are known where there are any. -/
structure CopyAsk (w : World) (dp sp : Option Addr) (dLen sLen g off : Nat) (cur : List Value) (t : TypeId) (cs : List Value) : Prop where
  row : w.heap[g]? = some (.cells cur.toArray t (0, 0))
  count : cs.length = Nat.min sLen dLen
  place : 0 < cs.length → dp = some ⟨g, off, none⟩ ∧ ∃ ad, sp = some ad ∧ ∀ j v, cs[j]? = some v → w.cell? (ad.add j) = some v
  fits : off + cs.length ≤ cur.length
  one : ∀ v ∈ cs, v.oneCell' = true

def CopyOut (w w' : World) (g off : Nat) (cur : List Value) (t : TypeId) (cs : List Value) : Prop :=
  w'.heap[g]? = some (.cells (splice cur off cs).toArray t (0, 0)) ∧ Sole g w w' ∧ w'.heap.size = w.heap.size

theorem copy_runs {P : Program} {w : World} (dT sT ty elem : TypeId) (hu : P.underlying dT = some (.slice elem)) (hsz : (P.info? elem).map (·.size) = some 1)
    (dp sp : Option Addr) (dLen dCap sLen sCap g off : Nat) (cur : List Value) (t : TypeId) (cs : List Value) (h : CopyAsk w dp sp dLen sLen g off cur t cs) :
    ∃ w', CopyOut w w' g off cur t cs ∧ (Builtin.copy_ #[dT, sT] ty #[.slice dp dLen dCap, .slice sp sLen sCap]).run P w = .ok (goInt cs.length) w' := by
  by_cases h0 : cs.length = 0
  · obtain rfl : cs = [] := List.eq_nil_of_length_eq_zero h0
    exact ⟨w, ⟨by simpa [splice] using h.row, Sole.refl _ _, rfl⟩, run_copy_none (P := P) w dT sT ty elem dp sp dLen dCap sLen sCap hu hsz (by simpa using h.count.symm)⟩
  · obtain ⟨rfl, ad, rfl, hsrc⟩ := h.place (by omega)
    refine ⟨_, ⟨?_, Sole.setRow g w _, by simp⟩, run_copy_row P w dT sT ty elem g off dLen dCap ad sLen sCap cur.toArray t cs hu hsz h.row h.count hsrc (by simpa using h.fits) h.one⟩
    have := setRow_heap w g _ (cur.toArray.toList.take off ++ cs ++ cur.toArray.toList.drop (off + cs.length)).toArray t _ h.row
    simpa [splice, List.append_assoc] using this

theorem wpList_copy_sole {P : Program} {w : World} {ops : Array Oper} {rest : List Oper} {o : Oper} {a : Act} {Q : Exit → Act → World → Prop} (hgd : o.guard = none) (d s : Operand) (dT sT : TypeId)
    (ho : o.op = .call { callee := .builtin .copy, args := #[d, s], argTypes := #[dT, sT] }) (elem : TypeId) (hu : P.underlying dT = some (.slice elem)) (hsz : (P.info? elem).map (·.size) = some 1)
    (dp sp : Option Addr) (dLen dCap sLen sCap : Nat) (hd : a.eval d = .slice dp dLen dCap) (hs : a.eval s = .slice sp sLen sCap)
    (g off : Nat) (cur : List Value) (t : TypeId) (cs : List Value) (hask : CopyAsk w dp sp dLen sLen g off cur t cs)
    (h : ∀ w', CopyOut w w' g off cur t cs → wpList P ops Q rest (a.put o.dst (goInt cs.length)) w') : wpList P ops Q (o :: rest) a w := by
  refine wpList_plain hgd fun K hK => ?_
  obtain ⟨w', hout, hrun⟩ := copy_runs dT sT o.type elem hu hsz dp sp dLen dCap sLen sCap g off cur t cs hask
  unfold Oper.wp
  simp [execOp, ho, resolve, invoke, builtin, hd, hs, hrun, Result.andThen]
  exact hK _ _ (h w' hout)

/-- The same as one step of a region that draws. -/
theorem step_copy_sole {P : Program} {ops : Array Oper} {o : Oper} {a : Act} {w : World} {K : Act → World → Prop} {Q : Exit → Act → World → Prop} {E : Prop} (hgd : o.guard = none) (d s : Operand) (dT sT : TypeId)
    (ho : o.op = .call { callee := .builtin .copy, args := #[d, s], argTypes := #[dT, sT] }) (elem : TypeId) (hu : P.underlying dT = some (.slice elem)) (hsz : (P.info? elem).map (·.size) = some 1)
    (dp sp : Option Addr) (dLen dCap sLen sCap : Nat) (hd : a.eval d = .slice dp dLen dCap) (hs : a.eval s = .slice sp sLen sCap)
    (g off : Nat) (cur : List Value) (t : TypeId) (cs : List Value) (hask : CopyAsk w dp sp dLen sLen g off cur t cs)
    (h : ∀ w', CopyOut w w' g off cur t cs → K (a.put o.dst (goInt cs.length)) w') :
    if Region.wanted o (yielded ops a.tmps) = true then Oper.wp P o a w K Q else E := by
  have hw : Region.wanted o (yielded ops a.tmps) = true := by simp [Region.wanted, hgd]
  rw [if_pos hw]
  obtain ⟨w', hout, hrun⟩ := copy_runs dT sT o.type elem hu hsz dp sp dLen dCap sLen sCap g off cur t cs hask
  unfold Oper.wp
  simp [execOp, ho, resolve, invoke, builtin, hd, hs, hrun, Result.andThen]
  exact h w' hout

theorem bytes_one (l : List Nat) : ∀ v ∈ l.map V8, v.oneCell' = true := by
  intro v hv
  obtain ⟨x, -, rfl⟩ := List.mem_map.1 hv
  rfl

theorem Bys.cells {w : World} {A : Option Addr} {l : List Nat} (h : Bys w A l) (h0 : 0 < l.length) : ∃ ad, A = some ad ∧ ∀ (j : Nat) v, (l.map V8)[j]? = some v → w.cell? (ad.add j) = some v := by
  obtain ⟨b, o, rfl, hb, hc⟩ := h.1 0 h0
  refine ⟨_, rfl, fun j v hv => ?_⟩
  have hj : j < l.length := by
    rcases Nat.lt_or_ge j l.length with hj | hj
    · exact hj
    · rw [List.getElem?_eq_none (by simpa using hj)] at hv; cases hv
  obtain ⟨b', o', he, hb', hc'⟩ := h.1 j hj
  injection he with he
  injection he with h1 h2
  subst h1 h2
  have hadd : (⟨b, o, none⟩ : Addr).add j = ⟨b, o + j, none⟩ := by unfold Addr.add; split <;> simp_all
  rw [hadd, hc']
  rw [List.getElem?_map] at hv
  simp only [List.getD]
  cases hg : l[j]? with
  | none => rw [hg] at hv; cases hv
  | some x => rw [hg] at hv; simpa using hv

end Go.Proofs.Ytideanaecmoimaa
