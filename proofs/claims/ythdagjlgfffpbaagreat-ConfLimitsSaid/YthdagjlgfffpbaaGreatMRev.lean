/-
  TURNING A ROW OF THE CALL'S OWN ROUND by the library's slices.Reverse, of no layer: rows of records of k cells. By the verifier.
-/
import Derived.Test.YthdagjlgfffpbaaGreatMSort
import Derived.Shelf.SlicesQ.Reverse
import Derived.Shelf.SlicesE.Reverse
import Derived.Test.YthdagjlgfffpbaaGreatPNrm
import Derived.Test.YthdagjlgfffpbaaGreatPMst
import Derived.Test.YthdagjlgfffpbaaGreatPNof
set_option linter.unusedVariables false
namespace Go.Proofs.YthdagjlgfffpbaaGreat
open Go.RowKit Go.Sort Go.Lib

/-- What the turning leaves. -/
def RevRes {α : Type} (w : World) (base : Nat) (e : TypeId) (k : Nat) (v : Value) (enc : α → List Value) (l : List α) (w' : World) : Prop :=
  OwnC w' base e k v l.length (l.reverse.flatMap enc) ∧ Turn (fun b => v.ownBlock = some b) w w'

theorem reverse_own {ρ : Go.Shelf.Ren} (L : SlLaysE0.n35 Tryz.prog ρ) {α : Type} (k : Nat) (k0 : 0 < k) (aE : ∀ w, (isAgg (ρ.t 23)).run Tryz.prog w = .ok true w) (zE : ∀ w, (Go.sizeOf (ρ.t 23)).run Tryz.prog w = .ok k w)
    (enc : α → List Value) (hk : ∀ x, (enc x).length = k) (h1 : ∀ x, ∀ v ∈ enc x, v.oneCell' = true) (l : List α) (w : World) (base : Nat) (e : TypeId) (v : Value) (ho : OwnC w base e k v l.length (l.flatMap enc)) (hl : l.length ≤ 1000000) :
    Calls Tryz.prog (ρ.f 35) #[v] w fun r w' => r = .returned (.tuple #[]) ∧ RevRes w base e k v enc l w' := by
  rcases Nat.eq_zero_or_pos l.length with h0 | h0
  · obtain ⟨A, c, hv, -⟩ := ho.cells
    rw [h0] at hv
    subst hv
    refine (AnyQ.slices_Reverse_empty L A c w).mono ?_
    rintro r w' ⟨rfl, rfl⟩
    have : l = [] := List.eq_nil_of_length_eq_zero h0
    subst this
    exact ⟨rfl, ho, Turn.refl _ _⟩
  · obtain ⟨x0, -⟩ : ∃ x0, x0 ∈ l := ⟨l[0], List.getElem_mem h0⟩
    haveI : Inhabited α := ⟨x0⟩
    obtain ⟨blk, c, hv, hlt, hH, hown⟩ := own_holds enc k k0 hk l ho h0
    have hbk : v.ownBlock = some blk := by rw [hv]; rfl
    have hcon := AnyQ.slices_Reverse L k aE zE enc hk h1 blk 0 c l.toArray w hH (by simp; omega)
    have hsz : l.toArray.size = l.length := by simp
    rw [hsz, ← hv] at hcon
    refine hcon.mono ?_
    rintro r w' ⟨rfl, m, rfl⟩
    have e1 : putRowK enc k (Sort.ahead w m) blk 0 l.toArray.reverse = sortWorldK enc k w blk 0 m l.toArray.reverse #[] := by
      unfold sortWorldK
      rw [grow_empty]
    rw [e1]
    have hd : l.toArray.reverse.size = l.length := by simp
    have h2 := hown l.toArray.reverse m #[] hd
    have ht := sortW_turn enc k w blk 0 m l.toArray.reverse #[] hlt
    rw [show l.toArray.reverse.toList = l.reverse by simp] at h2
    exact ⟨rfl, h2, ht.1.mono fun i _ hi => by rw [hi, hbk]⟩

theorem flat_onec {α : Type} [Inhabited α] (enc : α → Value) (d : Array α) (t : Nat) (h : t < d.size) : (flatK (fun x => [enc x]) 1 d)[t]! = enc d[t]! := by
  rw [get_flatK _ _ _ _ (by omega), Nat.div_one, Nat.mod_one]
  rfl
theorem holds_one {α : Type} [Inhabited α] {enc : α → Value} {w : World} {blk off : Nat} {d : Array α} (h : HoldsK (fun x => [enc x]) 1 w blk off d) : Holds enc w blk off d := fun j hj => by
  have := h j (by rw [size_flatK]; omega)
  rw [flat_onec enc d j hj] at this
  exact this
theorem put_one {α : Type} [Inhabited α] (enc : α → Value) (w : World) (blk off : Nat) (d : Array α) : putRow enc w blk off d = putRowK (fun x => [enc x]) 1 w blk off d := by
  unfold putRowK putRow
  congr 1
  funext c
  unfold putCells
  have hs : (flatK (fun x => [enc x]) 1 d).size = d.size := by rw [size_flatK]; omega
  have e : (fun (k : Nat) (x : Value) => if off ≤ k ∧ k < off + d.size then enc d[k - off]! else x) = fun (k : Nat) (x : Value) => if off ≤ k ∧ k < off + (flatK (fun x => [enc x]) 1 d).size then id (flatK (fun x => [enc x]) 1 d)[k - off]! else x := by
    funext k x
    rw [hs]
    by_cases h : off ≤ k ∧ k < off + d.size
    · rw [if_pos h, if_pos h, id, flat_onec enc d (k - off) (by omega)]
    · rw [if_neg h, if_neg h]
  rw [e]

/-- The same at a type of one cell. -/
theorem reverse_one {ρ : Go.Shelf.Ren} (L : SlLaysE.n35 Tryz.prog ρ) {α : Type} (enc : α → Value) (h1 : OneCell enc) (l : List α) (w : World) (base : Nat) (e : TypeId) (v : Value) (ho : OwnC w base e 1 v l.length (l.map enc)) (hl : l.length ≤ 1000000) :
    Calls Tryz.prog (ρ.f 35) #[v] w fun r w' => r = .returned (.tuple #[]) ∧ OwnC w' base e 1 v l.length (l.reverse.map enc) ∧ Turn (fun b => v.ownBlock = some b) w w' := by
  have ef : ∀ m : List α, m.flatMap (fun x => [enc x]) = m.map enc := fun m => by induction m with
    | nil => rfl
    | cons a m ih => rw [List.flatMap_cons, ih]; rfl
  rcases Nat.eq_zero_or_pos l.length with h0 | h0
  · obtain ⟨A, c, hv, -⟩ := ho.cells
    rw [h0] at hv
    subst hv
    refine (AnyE.slices_Reverse_empty L A c w).mono ?_
    rintro r w' ⟨rfl, rfl⟩
    have : l = [] := List.eq_nil_of_length_eq_zero h0
    subst this
    exact ⟨rfl, ho, Turn.refl _ _⟩
  · obtain ⟨x0, -⟩ : ∃ x0, x0 ∈ l := ⟨l[0], List.getElem_mem h0⟩
    haveI : Inhabited α := ⟨x0⟩
    obtain ⟨blk, c, hv, hlt, hH, hown⟩ := own_holds (fun x => [enc x]) 1 (by omega) (fun _ => rfl) l (by rw [ef]; exact ho) h0
    have hbk : v.ownBlock = some blk := by rw [hv]; rfl
    have hcon := AnyE.slices_Reverse L enc h1 blk 0 c l w (holds_one hH) (by omega)
    rw [← hv] at hcon
    refine hcon.mono ?_
    rintro r w' ⟨rfl, m, rfl⟩
    have e1 : putRow enc (Sort.ahead w m) blk 0 l.reverse.toArray = sortWorldK (fun x => [enc x]) 1 w blk 0 m l.reverse.toArray #[] := by
      unfold sortWorldK
      rw [grow_empty, put_one]
    rw [e1]
    have h2 := hown l.reverse.toArray m #[] (by simp)
    have ht := sortW_turn (fun x => [enc x]) 1 w blk 0 m l.reverse.toArray #[] hlt
    rw [ef] at h2
    exact ⟨rfl, h2, ht.1.mono fun i _ hi => by rw [hi, hbk]⟩

end Go.Proofs.YthdagjlgfffpbaaGreat

/-
  Layer 5 (conf): a normal form doesn't depend on the order of records and of destinations, in plain words. By the verifier.
-/
set_option linter.unusedVariables false
namespace Go.Proofs.YthdagjlgfffpbaaGreat

/-- The same records in another order, destinations too. -/
structure ShufOf (c x : ConfR) : Prop where
  frame : x.frame = c.frame
  ps : x.ps.Perm c.ps
  ws : x.ws.Perm c.ws
  rs : x.rs.Perm c.rs
  ts : x.ts.Perm c.ts
  cs : (x.cs.map srtR).Perm (c.cs.map srtR)

theorem ShufOf.norm {c x n : ConfR} (h : ShufOf c x) (hn : NormOf x n) : NormOf c n :=
  ⟨hn.frame.trans h.frame, hn.ps.trans h.ps, hn.ws.trans h.ws, hn.rs.trans h.rs, hn.ts.trans h.ts, hn.cs.trans h.cs, hn.sp, hn.sw, hn.sr, hn.st, hn.sc⟩

/-- A channel with its destinations turned round. -/
def revR (x : ChanR) : ChanR := { x with dests := x.dests.reverse }
theorem srtR_rev (x : ChanR) : srtR (revR x) = srtR x := by
  unfold srtR revR
  have e : sortU x.dests.reverse = sortU x.dests := sortU_unique ((sortU_perm _).trans (List.reverse_perm _)) (sortU_sorted _)
  simp only [e]
theorem rot_perm {α : Type} (l : List α) (k : Nat) : (l.drop k ++ l.take k).Perm l := by
  have h := List.perm_append_comm (l₁ := l.drop k) (l₂ := l.take k)
  rw [List.take_append_drop] at h
  exact h

/-- What ConfShuffles makes of a configuration. -/
def shufR (c : ConfR) (i j : Nat) : ConfR := ⟨c.frame, c.ps.reverse, c.ws.drop i ++ c.ws.take i, c.rs.reverse, c.ts.drop j ++ c.ts.take j, (c.cs.map revR).reverse⟩
theorem shuf_of (c : ConfR) (i j : Nat) : ShufOf c (shufR c i j) := by
  refine ⟨rfl, List.reverse_perm _, rot_perm _ _, List.reverse_perm _, rot_perm _ _, ?_⟩
  have e : (shufR c i j).cs.map srtR = ((c.cs.map srtR)).reverse := by
    show ((c.cs.map revR).reverse).map srtR = _
    rw [List.map_reverse, List.map_map]
    congr 1
    exact List.map_congr_left fun x _ => srtR_rev x
  rw [e]
  exact List.reverse_perm _

end Go.Proofs.YthdagjlgfffpbaaGreat


/-
  Layer 5 (conf): turning the lists of a configuration of the call's own round. By the verifier.
-/
set_option linter.unusedVariables false
namespace Go.Proofs.YthdagjlgfffpbaaGreat
open Go.RowKit Go.Sort

def revC (x : ChanC) : ChanC := { x with r := revR x.r }

theorem MSt.rev1 {w W W' : World} {B : Nat} {K : List (Nat × Obj)} {c : ConfR} {q : CfgQ} (h : MSt w B K W c q) (hs : RevRes W w.heap.size 36 4 (.slice q.A1 c.ps.length q.c1) partV c.ps W') :
    MSt w B K W' { c with ps := c.ps.reverse } q := by
  obtain ⟨ho, ht0⟩ := hs
  have hsl : q.slots[0]? = some (blk q.A1) := rfl
  have ht : Turn (fun b => q.slots[0]? = some (some b)) W W' := ht0.mono fun b _ hb => by rw [own_blk] at hb; rw [hsl, hb]
  obtain ⟨h1, h2, h3, h4⟩ := h.turned ht
  have hl : c.ps.reverse.length = c.ps.length := List.length_reverse ..
  refine ⟨⟨?_, ?_, ?_, ?_, ?_, h.own.ch, fun x hx => ?_, h.own.sep⟩, by rw [show cfgA { c with ps := c.ps.reverse } q = cfgA c q by simp [cfgA, hl]]; exact h1, h2, h.ge, h3, h.out, h4⟩
  · rw [hl]
    exact ho
  · exact own_stay h.own.ws ht (sep_apart h.own.sep (i := 0) (j := 1) (by omega) rfl)
  · exact own_stay h.own.rs ht (sep_apart h.own.sep (i := 0) (j := 2) (by omega) rfl)
  · exact own_stay h.own.ts ht (sep_apart h.own.sep (i := 0) (j := 3) (by omega) rfl)
  · exact own_stay h.own.cs ht (sep_apart h.own.sep (i := 0) (j := 4) (by omega) rfl)
  · obtain ⟨n, hn', hx'⟩ := List.mem_iff_getElem.1 hx
    exact own_stay (h.own.ds x hx) ht (sep_apart h.own.sep (i := 0) (j := 5 + n) (by omega) (chan_slot hn' hx'))

theorem MSt.rev3 {w W W' : World} {B : Nat} {K : List (Nat × Obj)} {c : ConfR} {q : CfgQ} (h : MSt w B K W c q) (hs : RevRes W w.heap.size 47 5 (.slice q.A3 c.rs.length q.c3) regV c.rs W') :
    MSt w B K W' { c with rs := c.rs.reverse } q := by
  obtain ⟨ho, ht0⟩ := hs
  have hsl : q.slots[2]? = some (blk q.A3) := rfl
  have ht : Turn (fun b => q.slots[2]? = some (some b)) W W' := ht0.mono fun b _ hb => by rw [own_blk] at hb; rw [hsl, hb]
  obtain ⟨h1, h2, h3, h4⟩ := h.turned ht
  have hl : c.rs.reverse.length = c.rs.length := List.length_reverse ..
  refine ⟨⟨?_, ?_, ?_, ?_, ?_, h.own.ch, fun x hx => ?_, h.own.sep⟩, by rw [show cfgA { c with rs := c.rs.reverse } q = cfgA c q by simp [cfgA, hl]]; exact h1, h2, h.ge, h3, h.out, h4⟩
  · exact own_stay h.own.ps ht (sep_apart h.own.sep (i := 2) (j := 0) (by omega) rfl)
  · exact own_stay h.own.ws ht (sep_apart h.own.sep (i := 2) (j := 1) (by omega) rfl)
  · rw [hl]
    exact ho
  · exact own_stay h.own.ts ht (sep_apart h.own.sep (i := 2) (j := 3) (by omega) rfl)
  · exact own_stay h.own.cs ht (sep_apart h.own.sep (i := 2) (j := 4) (by omega) rfl)
  · obtain ⟨n, hn', hx'⟩ := List.mem_iff_getElem.1 hx
    exact own_stay (h.own.ds x hx) ht (sep_apart h.own.sep (i := 2) (j := 5 + n) (by omega) (chan_slot hn' hx'))

theorem MSt.rev5 {w W W' : World} {B : Nat} {K : List (Nat × Obj)} {c : ConfR} {q : CfgQ} (h : MSt w B K W c q) (hs : RevRes W w.heap.size 34 3 (.slice q.A5 q.ch.length q.c5) chanV q.ch W') :
    MSt w B K W' { c with cs := c.cs.reverse } { q with ch := q.ch.reverse } := by
  obtain ⟨ho, ht0⟩ := hs
  have hp : q.ch.reverse.Perm q.ch := List.reverse_perm _
  have hcr : q.ch.reverse.map (·.r) = c.cs.reverse := by rw [List.map_reverse, h.own.ch]
  rw [← hcr]
  generalize q.ch.reverse = ch' at *
  have hsl : q.slots[4]? = some (blk q.A5) := rfl
  have ht : Turn (fun b => q.slots[4]? = some (some b)) W W' := ht0.mono fun b _ hb => by rw [own_blk] at hb; rw [hsl, hb]
  obtain ⟨h1, h2, h3, h4⟩ := h.turned ht
  have hl := hp.length_eq
  have hlc : q.ch.length = c.cs.length := by rw [← h.own.ch, List.length_map]
  have hpc : (ch'.map (·.r)).Perm c.cs := by rw [← h.own.ch]; exact hp.map _
  have hss : ({ q with ch := ch' } : CfgQ).slots.Perm q.slots := List.Perm.append_left _ (hp.map _)
  refine ⟨⟨?_, ?_, ?_, ?_, ?_, rfl, fun x hx => ?_, h.own.sep.perm hss⟩, by rw [show cfgA { c with cs := ch'.map (·.r) } { q with ch := ch' } = cfgA c q by simp [cfgA, hl, hlc]]; exact h1, h2, h.ge, h3, fun b hb => h.out b (hss.mem_iff.1 hb), h4⟩
  · exact own_stay h.own.ps ht (sep_apart h.own.sep (i := 4) (j := 0) (by omega) rfl)
  · exact own_stay h.own.ws ht (sep_apart h.own.sep (i := 4) (j := 1) (by omega) rfl)
  · exact own_stay h.own.rs ht (sep_apart h.own.sep (i := 4) (j := 2) (by omega) rfl)
  · exact own_stay h.own.ts ht (sep_apart h.own.sep (i := 4) (j := 3) (by omega) rfl)
  · show OwnC W' w.heap.size _ 3 (.slice q.A5 (ch'.map (·.r)).length q.c5) (ch'.map (·.r)).length (ch'.flatMap chanV)
    rw [List.length_map, hl]
    exact ho
  · obtain ⟨n, hn', hx'⟩ := List.mem_iff_getElem.1 (hp.mem_iff.1 hx)
    exact own_stay (h.own.ds x (hp.mem_iff.1 hx)) ht (sep_apart h.own.sep (i := 4) (j := 5 + n) (by omega) (chan_slot hn' hx'))

/-- The first j channels with their destinations turned round. -/
def revTo (ch : List ChanC) (j : Nat) : List ChanC := (ch.take j).map revC ++ ch.drop j
theorem revTo_zero (ch : List ChanC) : revTo ch 0 = ch := by simp [revTo]
theorem revTo_all (ch : List ChanC) : revTo ch ch.length = ch.map revC := by simp [revTo]
theorem revTo_len (ch : List ChanC) (j : Nat) : (revTo ch j).length = ch.length := by
  simp [revTo]
  omega
theorem revTo_get (ch : List ChanC) (j i : Nat) : (revTo ch j)[i]? = if i < j then ch[i]?.map revC else ch[i]? := by
  unfold revTo
  have hl : ((ch.take j).map revC).length = min j ch.length := by simp
  rcases Nat.lt_or_ge i (min j ch.length) with h | h
  · rw [List.getElem?_append_left (by rw [hl]; exact h), List.getElem?_map, List.getElem?_take_of_lt (by omega), if_pos (by omega)]
  · rw [List.getElem?_append_right (by rw [hl]; exact h), List.getElem?_drop, hl]
    by_cases hij : i < j
    · rw [if_pos hij, List.getElem?_eq_none (by omega), List.getElem?_eq_none (by omega)]
      rfl
    · rw [if_neg hij]
      by_cases hjl : j ≤ ch.length
      · rw [show j + (i - min j ch.length) = i by omega]
      · rw [List.getElem?_eq_none (by omega), List.getElem?_eq_none (by omega)]
theorem revTo_at {ch : List ChanC} {j : Nat} (hj : j < ch.length) : (revTo ch j)[j]? = some ch[j] := by
  rw [revTo_get, if_neg (by omega), List.getElem?_eq_getElem hj]
theorem revTo_succ {ch : List ChanC} {j : Nat} (hj : j < ch.length) : revTo ch (j + 1) = (revTo ch j).set j (revC ch[j]) := by
  apply List.ext_getElem?
  intro i
  rw [List.getElem?_set, revTo_get, revTo_get, revTo_len]
  by_cases hij : j = i
  · subst hij
    rw [if_pos rfl, if_pos (by omega), if_pos hj, List.getElem?_eq_getElem hj]
    rfl
  · rw [if_neg hij]
    by_cases h : i < j
    · rw [if_pos h, if_pos (by omega)]
    · rw [if_neg h, if_neg (by omega)]
theorem chanV_rev (x : ChanC) : chanV (revC x) = chanV x := by
  unfold chanV revC revR
  simp only [List.length_reverse]
theorem flat_rev (ch : List ChanC) (j : Nat) : (revTo ch j).flatMap chanV = ch.flatMap chanV := by
  unfold revTo
  rw [List.flatMap_append, List.flatMap_map]
  rw [show ((ch.take j).flatMap fun x => chanV (revC x)) = (ch.take j).flatMap chanV by simp only [chanV_rev]]
  rw [← List.flatMap_append, List.take_append_drop]
theorem slots_rev (q : CfgQ) (ch : List ChanC) (j : Nat) : ({ q with ch := revTo ch j } : CfgQ).slots = ({ q with ch := ch } : CfgQ).slots := by
  unfold CfgQ.slots revTo
  simp only [List.map_append, List.map_map]
  congr 1
  have : ((ch.take j).map ((fun x => blk x.A) ∘ revC)) = (ch.take j).map fun x => blk x.A := rfl
  rw [this, ← List.map_append, List.take_append_drop]

/-- The destinations of channel j have been turned round. -/
theorem MSt.rdst {w W W' : World} {B : Nat} {K : List (Nat × Obj)} {c : ConfR} {q : CfgQ} {ch : List ChanC} {j : Nat} (hj : j < ch.length)
    (h : MSt w B K W { c with cs := (revTo ch j).map (·.r) } { q with ch := revTo ch j }) (ho : OwnC W' w.heap.size 32 1 (.slice ch[j].A ch[j].r.dests.length ch[j].cap) ch[j].r.dests.length ((ch[j].r.dests.reverse).map U16))
    (ht0 : Turn (fun b => Value.ownBlock (.slice ch[j].A ch[j].r.dests.length ch[j].cap) = some b) W W') : MSt w B K W' { c with cs := (revTo ch (j + 1)).map (·.r) } { q with ch := revTo ch (j + 1) } := by
  have hjl : j < (revTo ch j).length := by rw [revTo_len]; exact hj
  have hje : (revTo ch j)[j] = ch[j] := by
    have := revTo_at hj
    rw [List.getElem?_eq_getElem hjl] at this
    injection this
  have hsl : ({ q with ch := revTo ch j } : CfgQ).slots[5 + j]? = some (blk ch[j].A) := chan_slot (q := { q with ch := revTo ch j }) hjl hje
  have ht : Turn (fun b => ({ q with ch := revTo ch j } : CfgQ).slots[5 + j]? = some (some b)) W W' := ht0.mono fun b _ hb => by rw [own_blk] at hb; rw [hsl, hb]
  obtain ⟨h1, h2, h3, h4⟩ := h.turned ht
  have hss : ({ q with ch := revTo ch (j + 1) } : CfgQ).slots = ({ q with ch := revTo ch j } : CfgQ).slots := by rw [slots_rev, slots_rev]
  have hA : cfgA { c with cs := (revTo ch (j + 1)).map (·.r) } { q with ch := revTo ch (j + 1) } = cfgA { c with cs := (revTo ch j).map (·.r) } { q with ch := revTo ch j } := by simp [cfgA, revTo_len]
  refine ⟨⟨?_, ?_, ?_, ?_, ?_, rfl, fun x hx => ?_, by rw [hss]; exact h.own.sep⟩, by rw [hA]; exact h1, h2, h.ge, h3, fun b hb => h.out b (by rw [← hss]; exact hb), h4⟩
  · exact own_stay h.own.ps ht (sep_apart h.own.sep (i := 5 + j) (j := 0) (by omega) rfl)
  · exact own_stay h.own.ws ht (sep_apart h.own.sep (i := 5 + j) (j := 1) (by omega) rfl)
  · exact own_stay h.own.rs ht (sep_apart h.own.sep (i := 5 + j) (j := 2) (by omega) rfl)
  · exact own_stay h.own.ts ht (sep_apart h.own.sep (i := 5 + j) (j := 3) (by omega) rfl)
  · have := own_stay h.own.cs ht (sep_apart h.own.sep (i := 5 + j) (j := 4) (by omega) rfl)
    show OwnC W' w.heap.size _ 3 (.slice q.A5 ((revTo ch (j + 1)).map (·.r)).length q.c5) ((revTo ch (j + 1)).map (·.r)).length ((revTo ch (j + 1)).flatMap chanV)
    have h' : OwnC W' w.heap.size 34 3 (.slice q.A5 ((revTo ch j).map (·.r)).length q.c5) ((revTo ch j).map (·.r)).length ((revTo ch j).flatMap chanV) := this
    rw [flat_rev, List.length_map, revTo_len] at h' ⊢
    exact h'
  · rw [revTo_succ hj] at hx
    obtain ⟨n, hn, hxn⟩ := List.mem_iff_getElem.1 hx
    rw [List.getElem_set] at hxn
    rw [List.length_set] at hn
    split at hxn
    · subst hxn
      show OwnC W' w.heap.size _ 1 (.slice ch[j].A (ch[j].r.dests.reverse).length ch[j].cap) (ch[j].r.dests.reverse).length ((ch[j].r.dests.reverse).map U16)
      rw [List.length_reverse]
      exact ho
    · rename_i hne
      subst hxn
      exact own_stay (h.own.ds _ (List.getElem_mem hn)) ht (sep_apart h.own.sep (i := 5 + j) (j := 5 + n) (by omega) (chan_slot (q := { q with ch := revTo ch j }) hn rfl))

theorem MSt.rchan_at {w W : World} {B : Nat} {K : List (Nat × Obj)} {c : ConfR} {q : CfgQ} {ch : List ChanC} {j : Nat} (hj : j < ch.length) (h : MSt w B K W { c with cs := (revTo ch j).map (·.r) } { q with ch := revTo ch j }) :
    ∃ b o, q.A5 = some ⟨b, o, none⟩ ∧ ∀ i v, (chanV ch[j])[i]? = some v → W.cell? ⟨b, o + j * 3 + i, none⟩ = some v := by
  have h1 : OwnC W w.heap.size 34 3 (.slice q.A5 ((revTo ch j).map (·.r)).length q.c5) ((revTo ch j).map (·.r)).length ((revTo ch j).flatMap chanV) := h.own.cs
  obtain ⟨A', c', hv, hc, -⟩ := h1.cells
  injection hv with e1 e2 e3
  subst e1
  have hlen : ((revTo ch j).flatMap chanV).length = ch.length * 3 := by rw [flat_len chanV 3 chanV_len, revTo_len]
  obtain ⟨b, o, hA, -, hcell⟩ := hc.some (by rw [hlen]; omega)
  refine ⟨b, o, hA, fun i v hv => ?_⟩
  have hi : i < 3 := (List.getElem?_eq_some_iff.1 hv).1
  have hjl : j < (revTo ch j).length := by rw [revTo_len]; exact hj
  have hje : (revTo ch j)[j] = ch[j] := by
    have := revTo_at hj
    rw [List.getElem?_eq_getElem hjl] at this
    injection this
  rw [Nat.add_assoc]
  refine hcell (j * 3 + i) v ?_
  rw [flat_at chanV 3 chanV_len (revTo ch j) j hjl i hi, hje]
  exact hv

end Go.Proofs.YthdagjlgfffpbaaGreat

/-
  Layer 5 (conf): a list of a configuration of the call's own is replaced by a new one. By the verifier.
-/
set_option linter.unusedVariables false
namespace Go.Proofs.YthdagjlgfffpbaaGreat
open Go.RowKit

theorem Sep.set_new {l : List (Option Nat)} (h : Sep l) {i : Nat} {x : Option Nat} (hx : ∀ b, x = some b → some b ∉ l) : Sep (l.set i x) := by
  unfold Sep at *
  rw [List.pairwise_iff_getElem] at *
  intro a b ha hb hab v hv he
  rw [List.length_set] at ha hb
  rw [List.getElem_set] at hv he
  split at hv <;> split at he
  · omega
  · exact hx v hv (by rw [← he]; exact List.getElem_mem hb)
  · exact hx v he (by rw [← hv]; exact List.getElem_mem ha)
  · exact h a b ha hb hab v hv he

theorem MSt.setw {w W W' : World} {B : Nat} {K : List (Nat × Obj)} {c : ConfR} {q : CfgQ} (h : MSt w B K W c q) (hw : Below W.heap.size W W') {l : List WinR} {A' : Option Addr} {c' : Nat} (ho : OwnC W' W.heap.size 45 3 (.slice A' l.length c') l.length (l.flatMap winV)) :
    MSt w B K (W'.setCell ⟨B, 2, none⟩ (.slice A' l.length c')) { c with ws := l } { q with A2 := A', c2 := c' } := by
  have h1 := h.more hw
  have ts : Turn (fun b => b = B) W' (W'.setCell ⟨B, 2, none⟩ (.slice A' l.length c')) := Turn.setCell (S := fun b => b = B) (B := B) (Turn.refl _ _) rfl _
  have hB : ∀ b, some b ∈ q.slots → b ≠ B := fun b hb => (h.out b hb).1
  have hss : ({ q with A2 := A', c2 := c' } : CfgQ).slots = q.slots.set 1 (blk A') := rfl
  have hnew : ∀ b, blk A' = some b → W.heap.size ≤ b := fun b hb => (own_lt ho hb).1
  refine ⟨⟨?_, ?_, ?_, ?_, ?_, h.own.ch, fun x hx => ?_, ?_⟩, ?_, Nat.lt_of_lt_of_le h1.lt ts.size, h.ge, fun k hk => ?_, fun b hb => ?_, h1.below.trans (ts.below (fun b hb => by rw [hb]; exact h.ge) h1.below.size)⟩
  · exact own_stay h1.own.ps ts fun b hb e => hB b (List.mem_of_getElem? (i := 0) (by rw [← hb]; rfl)) e
  · exact own_stay (S := fun b => b = B) (ho.base h.below.size) ts fun b hb e => absurd (own_lt ho hb).1 (by have := h.lt; omega)
  · exact own_stay h1.own.rs ts fun b hb e => hB b (List.mem_of_getElem? (i := 2) (by rw [← hb]; rfl)) e
  · exact own_stay h1.own.ts ts fun b hb e => hB b (List.mem_of_getElem? (i := 3) (by rw [← hb]; rfl)) e
  · exact own_stay h1.own.cs ts fun b hb e => hB b (List.mem_of_getElem? (i := 4) (by rw [← hb]; rfl)) e
  · obtain ⟨n, hn', hx'⟩ := List.mem_iff_getElem.1 hx
    refine own_stay (h1.own.ds x hx) ts fun b hb e => hB b ?_ e
    unfold CfgQ.slots
    refine List.mem_append_right _ (List.mem_map.2 ⟨x, hx, hb⟩)
  · rw [hss]
    refine h.own.sep.set_new fun b hb hm => ?_
    have := (h.own.lt hm).2
    have := hnew b hb
    omega
  · rw [heap_setCell_same _ _ _ _ _ _ h1.all]
    congr 2
  · obtain ⟨k1, k2, k3⟩ := h1.keep k hk
    exact ⟨(ts.block k.1 k2 k3).trans k1, Nat.lt_of_lt_of_le k2 ts.size, k3⟩
  · rw [hss] at hb
    rcases slots_set_mem hb with hb | hb
    · exact h.out b hb
    · have := hnew b hb.symm
      refine ⟨by have := h.lt; omega, fun k hk e => ?_⟩
      have := (h.keep k hk).2.1
      omega

theorem MSt.sett {w W W' : World} {B : Nat} {K : List (Nat × Obj)} {c : ConfR} {q : CfgQ} (h : MSt w B K W c q) (hw : Below W.heap.size W W') {l : List PortR} {A' : Option Addr} {c' : Nat} (ho : OwnC W' W.heap.size 39 6 (.slice A' l.length c') l.length (l.flatMap portV)) :
    MSt w B K (W'.setCell ⟨B, 4, none⟩ (.slice A' l.length c')) { c with ts := l } { q with A4 := A', c4 := c' } := by
  have h1 := h.more hw
  have ts : Turn (fun b => b = B) W' (W'.setCell ⟨B, 4, none⟩ (.slice A' l.length c')) := Turn.setCell (S := fun b => b = B) (B := B) (Turn.refl _ _) rfl _
  have hB : ∀ b, some b ∈ q.slots → b ≠ B := fun b hb => (h.out b hb).1
  have hss : ({ q with A4 := A', c4 := c' } : CfgQ).slots = q.slots.set 3 (blk A') := rfl
  have hnew : ∀ b, blk A' = some b → W.heap.size ≤ b := fun b hb => (own_lt ho hb).1
  refine ⟨⟨?_, ?_, ?_, ?_, ?_, h.own.ch, fun x hx => ?_, ?_⟩, ?_, Nat.lt_of_lt_of_le h1.lt ts.size, h.ge, fun k hk => ?_, fun b hb => ?_, h1.below.trans (ts.below (fun b hb => by rw [hb]; exact h.ge) h1.below.size)⟩
  · exact own_stay h1.own.ps ts fun b hb e => hB b (List.mem_of_getElem? (i := 0) (by rw [← hb]; rfl)) e
  · exact own_stay h1.own.ws ts fun b hb e => hB b (List.mem_of_getElem? (i := 1) (by rw [← hb]; rfl)) e
  · exact own_stay h1.own.rs ts fun b hb e => hB b (List.mem_of_getElem? (i := 2) (by rw [← hb]; rfl)) e
  · exact own_stay (S := fun b => b = B) (ho.base h.below.size) ts fun b hb e => absurd (own_lt ho hb).1 (by have := h.lt; omega)
  · exact own_stay h1.own.cs ts fun b hb e => hB b (List.mem_of_getElem? (i := 4) (by rw [← hb]; rfl)) e
  · obtain ⟨n, hn', hx'⟩ := List.mem_iff_getElem.1 hx
    refine own_stay (h1.own.ds x hx) ts fun b hb e => hB b ?_ e
    unfold CfgQ.slots
    refine List.mem_append_right _ (List.mem_map.2 ⟨x, hx, hb⟩)
  · rw [hss]
    refine h.own.sep.set_new fun b hb hm => ?_
    have := (h.own.lt hm).2
    have := hnew b hb
    omega
  · rw [heap_setCell_same _ _ _ _ _ _ h1.all]
    congr 2
  · obtain ⟨k1, k2, k3⟩ := h1.keep k hk
    exact ⟨(ts.block k.1 k2 k3).trans k1, Nat.lt_of_lt_of_le k2 ts.size, k3⟩
  · rw [hss] at hb
    rcases slots_set_mem hb with hb | hb
    · exact h.out b hb
    · have := hnew b hb.symm
      refine ⟨by have := h.lt; omega, fun k hk e => ?_⟩
      have := (h.keep k hk).2.1
      omega

end Go.Proofs.YthdagjlgfffpbaaGreat

/-
  Layer 5 (conf): a clone in a box of its own. By the verifier.
-/
set_option linter.unusedVariables false
namespace Go.Proofs.YthdagjlgfffpbaaGreat
open Go.RowKit

theorem mst_clone {w1 w3 : World} {c : ConfR} {q : CfgQ} {N : Nat} {o : Obj} (ho : OwnCfg w3 w1.heap.size c q) (hb : Below w1.heap.size w1 w3) (hN : w1.heap[N]? = some o) :
    MSt w1 w3.heap.size [(N, o)] (w3.alloc (.cells (cfgA c q) 30)) c q := by
  have hlt : N < w1.heap.size := (Array.getElem?_eq_some_iff.1 hN).1
  have hsz := hb.size
  have ha : Below w3.heap.size w3 (w3.alloc (.cells (cfgA c q) 30)) := (Below.refl _ _).alloc (Nat.le_refl _) _
  refine ⟨ho.stay (S := fun _ => False) (Turn.of_below ha) (fun _ _ h => h), heap_alloc_new w3 _, by simp, hsz, fun k hk => ?_, fun b hb' => ?_, hb.trans (ha.mono hsz)⟩
  · rw [List.mem_singleton] at hk
    subst hk
    refine ⟨?_, ?_, ?_⟩
    · show (w3.alloc _).heap[N]? = some o
      rw [ha.block N (by omega), hb.block N hlt]
      exact hN
    · show N < _
      simp
      omega
    · show N ≠ _
      omega
  · obtain ⟨h1, h2⟩ := ho.lt hb'
    refine ⟨by omega, fun k hk => ?_⟩
    rw [List.mem_singleton] at hk
    subst hk
    show b ≠ N
    omega

end Go.Proofs.YthdagjlgfffpbaaGreat
