/-
  Layer 5 (conf): the reference's Normal under construction: five rows of its own in a box. By the verifier.
-/
import Derived.Test.YthdagjlgfffpbaaGreatMTrn
import Derived.Test.YthdagjlgfffpbaaGreatPNof
import Derived.Test.YthdagjlgfffpbaaGreatPMer
import Derived.Test.YthdagjlgfffpbaaGreatGOrd
import Derived.Test.YthdagjlgfffpbaaGreatGKeys
import Derived.Test.YthdagjlgfffpbaaGreatPAlv
set_option linter.unusedVariables false
namespace Go.Proofs.YthdagjlgfffpbaaGreat
open Go.RowKit

/-- A row: where it lies, how long it is, its cells. -/
structure RowD where
  A : Option Addr
  n : Nat
  c : Nat
  cs : List Value
  e : TypeId
  z : Nat
def RowD.v (r : RowD) : Value := .slice r.A r.n r.c
def boxN (fr : Nat) (R : List RowD) : Array Value := (Value.int .u64 (fr : Int) :: R.map RowD.v).toArray

/-- The box B, the rows in it, all else as in w0. -/
structure NS (w0 : World) (B : Nat) (fr : Nat) (R : List RowD) (W : World) : Prop where
  box : W.heap[B]? = some (.cells (boxN fr R) 30 (0, 0))
  lt : B < w0.heap.size
  turn : Turn (fun b => b = B) w0 W
  own : ∀ (i : Nat) (r : RowD), R[i]? = some r → OwnC W w0.heap.size r.e r.z r.v r.n r.cs
  sep : ∀ (i j : Nat) (r s : RowD), R[i]? = some r → R[j]? = some s → i ≠ j → ∀ b, blk r.A = some b → blk s.A ≠ some b

theorem NS.lt' {w0 W : World} {B fr : Nat} {R : List RowD} (h : NS w0 B fr R W) : B < W.heap.size := Nat.lt_of_lt_of_le h.lt h.turn.size
theorem NS.more {w0 W W' : World} {B fr : Nat} {R : List RowD} (h : NS w0 B fr R W) (hb : Below W.heap.size W W') : NS w0 B fr R W' :=
  ⟨by rw [hb.block _ h.lt']; exact h.box, h.lt, h.turn.trans (Turn.of_below (S := fun b => b = B) hb) (fun _ _ e => e), fun i r hr => (h.own i r hr).below hb, h.sep⟩
theorem NS.drew {w0 W : World} {B fr : Nat} {R : List RowD} (h : NS w0 B fr R W) : NS w0 B fr R W.drew := h.more (Below.refl _ _).drew
theorem boxN_at {fr : Nat} {R : List RowD} {i : Nat} {r : RowD} (h : R[i]? = some r) : (boxN fr R)[i + 1]? = some r.v := by
  unfold boxN
  simp [h]
theorem NS.cell {w0 W : World} {B fr : Nat} {R : List RowD} (h : NS w0 B fr R W) {i : Nat} {r : RowD} (hr : R[i]? = some r) : W.cell? ⟨B, i + 1, none⟩ = some r.v := by
  rw [cell_of_row W B _ _ _ _ h.box]
  exact boxN_at hr
theorem NS.lt_own {w0 W : World} {B fr : Nat} {R : List RowD} (h : NS w0 B fr R W) {i : Nat} {r : RowD} (hr : R[i]? = some r) {b : Nat} (hb : blk r.A = some b) : w0.heap.size ≤ b ∧ b < W.heap.size :=
  own_lt (h.own i r hr) hb

/-- The blocks that an append onto row i may turn. -/
def XR (r : RowD) : Nat → Prop := fun b => blk r.A = some b

theorem NS.kept {w0 W W' : World} {B fr : Nat} {R : List RowD} (h : NS w0 B fr R W) {i : Nat} {r : RowD} (hr : R[i]? = some r) (ht : Turn (XR r) W W') :
    W'.heap[B]? = some (.cells (boxN fr R) 30 (0, 0)) ∧ Turn (fun b => b = B) w0 W' ∧ ∀ (j : Nat) (s : RowD), R[j]? = some s → j ≠ i → OwnC W' w0.heap.size s.e s.z s.v s.n s.cs := by
  refine ⟨?_, ⟨ht.os.trans h.turn.os, ht.tape.trans h.turn.tape, ht.output.trans h.turn.output, Nat.le_trans h.turn.size ht.size, fun k hk hn => ?_⟩, fun j s hs hij => ?_⟩
  · rw [ht.block B h.lt' (fun hx => by have := (h.lt_own hr hx).1; have := h.lt; omega)]
    exact h.box
  · rw [ht.block k (Nat.lt_of_lt_of_le hk h.turn.size) (fun hx => by have := (h.lt_own hr hx).1; omega)]
    exact h.turn.block k hk hn
  · refine OwnC.turn ht (h.own j s hs) fun b hb hx => ?_
    have hb' : blk s.A = some b := by rw [← own_blk s.A s.n s.c]; exact hb
    exact h.sep j i s r hs hr hij b hb' hx

/-- Row i has been appended to, and the new slice stored. -/
theorem NS.app {w0 W W' : World} {B fr : Nat} {R : List RowD} (h : NS w0 B fr R W) {i : Nat} {r : RowD} (hr : R[i]? = some r) (ht : Turn (XR r) W W') {v' : Value} {m : Nat} {xs : List Value}
    (ho : OwnC W' w0.heap.size r.e r.z v' (r.n + m) (r.cs ++ xs)) (hn : ∀ b, v'.ownBlock = some b → blk r.A = some b ∨ W.heap.size ≤ b) :
    ∃ A' c', v' = .slice A' (r.n + m) c' ∧ NS w0 B fr (R.set i { r with A := A', n := r.n + m, c := c', cs := r.cs ++ xs }) (W'.setCell ⟨B, i + 1, none⟩ v') := by
  obtain ⟨A', c', rfl, -, -, -, -, -⟩ := ho.cells
  obtain ⟨hB, hT, hO⟩ := h.kept hr ht
  have hlt : B < W'.heap.size := Nat.lt_of_lt_of_le h.lt' ht.size
  have hge : ∀ {j : Nat} {s : RowD}, R[j]? = some s → ∀ b, blk s.A = some b → w0.heap.size ≤ b ∧ b < W.heap.size := fun hs b hb => h.lt_own hs hb
  have hnew : ∀ b, blk A' = some b → blk r.A = some b ∨ W.heap.size ≤ b := fun b hb => hn b (by rw [own_blk]; exact hb)
  have hnB : ∀ b, blk A' = some b → b ≠ B := fun b hb e => by
    have := h.lt
    have := h.turn.size
    rcases hnew b hb with h1 | h1
    · have := (hge hr b h1).1
      omega
    · omega
  have ts : Turn (fun k => k = B) W' (W'.setCell ⟨B, i + 1, none⟩ (.slice A' (r.n + m) c')) := Turn.setCell (S := fun k => k = B) (B := B) (Turn.refl _ _) rfl _
  refine ⟨A', c', rfl, ?_, h.lt, hT.trans ts (fun _ _ e => e), fun j s hs => ?_, fun j k s t hs ht' hjk b hb => ?_⟩
  · rw [heap_setCell_same _ _ _ _ _ _ hB]
    congr 2
    unfold boxN
    simp [List.map_set, RowD.v]
  · rw [List.getElem?_set] at hs
    by_cases hij : i = j
    · subst hij
      rw [if_pos rfl] at hs
      rw [if_pos (List.getElem?_eq_some_iff.1 hr).1] at hs
      injection hs with hs
      subst hs
      exact OwnC.turn ts ho fun b hb e => hnB b (by rw [← own_blk A' (r.n + m) c']; exact hb) e
    · rw [if_neg hij] at hs
      refine OwnC.turn ts (hO j s hs (fun e => hij e.symm)) fun b hb e => ?_
      have hb' : blk s.A = some b := by rw [← own_blk s.A s.n s.c]; exact hb
      have := (hge hs b hb').1
      have := h.lt
      omega
  · rw [List.getElem?_set] at hs ht'
    by_cases hij : i = j
    · subst hij
      rw [if_pos rfl, if_pos (List.getElem?_eq_some_iff.1 hr).1] at hs
      injection hs with hs
      subst hs
      rw [if_neg hjk] at ht'
      intro hb2
      rcases hnew b hb with h1 | h1
      · exact h.sep i k r t hr ht' hjk b h1 hb2
      · have := (hge ht' b hb2).2
        omega
    · rw [if_neg hij] at hs
      by_cases hik : i = k
      · subst hik
        rw [if_pos rfl, if_pos (List.getElem?_eq_some_iff.1 hr).1] at ht'
        injection ht' with ht'
        subst ht'
        intro hb2
        rcases hnew b hb2 with h1 | h1
        · exact h.sep j i s r hs hr hjk b hb h1
        · have := (hge hs b hb).2
          omega
      · rw [if_neg hik] at ht'
        exact h.sep j k s t hs ht' hjk b hb

/-- The facts that the store wants. -/
theorem NS.hold {w0 W W' : World} {B fr : Nat} {R : List RowD} (h : NS w0 B fr R W) {i : Nat} {r : RowD} (hr : R[i]? = some r) (ht : Turn (XR r) W W') : W'.cell? ⟨B, i + 1, none⟩ = some r.v ∧ W'.frozen? ⟨B, i + 1, none⟩ = false := by
  obtain ⟨hB, -, -⟩ := h.kept hr ht
  exact ⟨by rw [cell_of_row W' B _ _ _ _ hB]; exact boxN_at hr, frozen_of_row _ _ _ _ _ hB⟩

/-- A channel's destinations, sorted, in a new slice; the channels so far. -/
structure ChB (w : World) (cs : List ChanR) (k : Nat) (v : Value) (L : List ChanC) (W : World) : Prop where
  own : OwnC W w.heap.size 34 3 v L.length (L.flatMap chanV)
  rs : L.map (·.r) = (cs.take k).map srtR
  ds : ∀ x ∈ L, OwnC W w.heap.size 32 1 (.slice x.A x.r.dests.length x.cap) x.r.dests.length (x.r.dests.map U16) ∧ ∀ b, blk x.A = some b → v.ownBlock ≠ some b
  below : Below w.heap.size w W

theorem ChB.start (w : World) (cs : List ChanR) : ChB w cs 0 (.slice none 0 0) [] w := ⟨OwnC.nil _ _ _ _, by simp, fun x hx => (by cases hx), Below.refl _ _⟩
theorem ChB.len {w : World} {cs : List ChanR} {k : Nat} {v : Value} {L : List ChanC} {W : World} (h : ChB w cs k v L W) (hk : k ≤ cs.length) : L.length = k := by
  have := congrArg List.length h.rs
  simpa [hk] using this
theorem ChB.next {w : World} {cs : List ChanR} {k : Nat} {v : Value} {L : List ChanC} {W W' : World} (h : ChB w cs k v L W) (hk : k < cs.length) {x : ChanC} {v' : Value} (hx : x.r = srtR cs[k])
    (hd : OwnC W' W.heap.size 32 1 (.slice x.A x.r.dests.length x.cap) x.r.dests.length (x.r.dests.map U16)) (ht : Turn (fun b => v.ownBlock = some b) W W')
    (ho : OwnC W' w.heap.size 34 3 v' (L.length + 1) (L.flatMap chanV ++ chanV x)) (hn : ∀ b, v'.ownBlock = some b → v.ownBlock = some b ∨ (W.heap.size ≤ b ∧ blk x.A ≠ some b)) : ChB w cs (k + 1) v' (L ++ [x]) W' := by
  have hvb : ∀ b, v.ownBlock = some b → w.heap.size ≤ b ∧ b < W.heap.size := fun b hb => World.ownsRow.lt h.own b hb
  refine ⟨?_, ?_, fun y hy => ?_, h.below.trans (ht.below (fun b hb => (hvb b hb).1) h.below.size)⟩
  · have e1 : (L ++ [x]).length = L.length + 1 := by simp
    have e2 : (L ++ [x]).flatMap chanV = L.flatMap chanV ++ chanV x := by simp
    rw [e1, e2]
    exact ho
  · rw [List.map_append, h.rs, List.take_succ_eq_append_getElem hk, List.map_append]
    simp [hx]
  · rcases List.mem_append.1 hy with hy | hy
    · obtain ⟨h1, h2⟩ := h.ds y hy
      refine ⟨OwnC.turn ht h1 fun b hb hv => h2 b (by rw [← own_blk y.A y.r.dests.length y.cap]; exact hb) hv, fun b hb hv => ?_⟩
      rcases hn b hv with h3 | h3
      · exact h2 b hb h3
      · have := (own_lt h1 hb).2
        omega
    · rw [List.mem_singleton] at hy
      subst hy
      refine ⟨hd.base h.below.size, fun b hb hv => ?_⟩
      rcases hn b hv with h3 | h3
      · have := (own_lt hd hb).1
        have := (hvb b h3).2
        omega
      · exact h3.2 hb

end Go.Proofs.YthdagjlgfffpbaaGreat

/-
  Layer 5 (conf): the rows of the reference's Normal, in plain words. By the verifier.
-/
set_option linter.unusedVariables false
namespace Go.Proofs.YthdagjlgfffpbaaGreat
open Go.RowKit

/-- The elements that a list of indices picks. -/
def pick {α : Type} (l : List α) (idx : List Nat) : List α := idx.filterMap fun j => l[j]?

theorem pick_range {α : Type} (l : List α) : pick l (List.range l.length) = l := by
  unfold pick
  induction l with
  | nil => rfl
  | cons a l ih =>
    rw [List.length_cons, List.range_succ_eq_map, List.filterMap_cons]
    simp only [List.getElem?_cons_zero, List.filterMap_map]
    congr 1
theorem pick_perm {α : Type} {l : List α} {idx : List Nat} (h : idx.Perm (List.range l.length)) : (pick l idx).Perm l := by
  have h1 : (pick l idx).Perm (pick l (List.range l.length)) := h.filterMap _
  rw [pick_range] at h1
  exact h1
theorem pick_map {α β : Type} (f : α → β) (d : β) (l : List α) : ∀ (idx : List Nat), (∀ j ∈ idx, j < l.length) → (pick l idx).map f = idx.map fun j => (l.map f).getD j d := by
  intro idx
  unfold pick
  induction idx with
  | nil => intro _; rfl
  | cons j r ih =>
    intro h
    have hj := h j (List.mem_cons_self ..)
    rw [List.filterMap_cons, List.getElem?_eq_getElem hj]
    simp only [List.map_cons]
    rw [ih (fun k hk => h k (List.mem_cons_of_mem _ hk))]
    simp [List.getD, hj]
theorem pick_flat {α : Type} (f : α → List Value) (l : List α) (idx : List Nat) (h : ∀ j ∈ idx, j < l.length) : (pick l idx).flatMap f = idx.flatMap fun j => (l.map f).getD j [] := by
  rw [List.flatMap_def, List.flatMap_def, pick_map f [] l idx h]
theorem pick_len {α : Type} (l : List α) (idx : List Nat) (h : ∀ j ∈ idx, j < l.length) : (pick l idx).length = idx.length := by
  have := congrArg List.length (pick_map (fun _ => ()) () l idx h)
  simpa using this
theorem pick_mem {α : Type} {l : List α} {idx : List Nat} {x : α} (h : x ∈ pick l idx) : x ∈ l := by
  unfold pick at h
  obtain ⟨j, -, hj⟩ := List.mem_filterMap.1 h
  exact List.mem_of_getElem? hj
theorem pick_pick {α β : Type} (f : α → β) (l : List α) (idx : List Nat) : (pick l idx).map f = pick (l.map f) idx := by
  unfold pick
  rw [List.map_filterMap]
  congr 1
  funext j
  simp

theorem pick_asc {α : Type} {key : α → List Nat} {l : List α} {idx : List Nat} (h : idx.Pairwise (leK (l.map key))) (hl : ∀ j ∈ idx, j < l.length) : Asc key (pick l idx) := by
  unfold Asc
  have h1 : ((pick l idx).map key).Pairwise fun x y => lessN y x = false := by
    rw [pick_map key [] l idx hl, List.pairwise_map]
    exact h
  rw [List.pairwise_map] at h1
  exact h1

theorem idx_lt {n : Nat} {idx : List Nat} (h : idx.Perm (List.range n)) : ∀ j ∈ idx, j < n := fun j hj => List.mem_range.1 (h.mem_iff.1 hj)

/-- The types and the widths of the rows. -/
def eT (i : Nat) : TypeId := if i = 0 then 36 else if i = 1 then 45 else if i = 2 then 47 else if i = 3 then 39 else 34
def zT (i : Nat) : Nat := if i = 0 then 4 else if i = 1 then 3 else if i = 2 then 5 else if i = 3 then 6 else 3

/-- The cells of the records of a section. -/
def secs (c : ConfR) (L : List ChanC) (i : Nat) : List (List Value) :=
  if i = 0 then c.ps.map partV else if i = 1 then c.ws.map winV else if i = 2 then c.rs.map regV else if i = 3 then c.ts.map portV else L.map chanV

/-- The rows hold the records that I picks. -/
structure Rws (c : ConfR) (L : List ChanC) (R : List RowD) (I : Nat → List Nat) : Prop where
  len : R.length = 5
  row : ∀ (i : Nat) (r : RowD), R[i]? = some r → r.e = eT i ∧ r.z = zT i ∧ r.n = (I i).length ∧ r.cs = (I i).flatMap fun j => (secs c L i).getD j []

theorem Rws.next {c : ConfR} {L : List ChanC} {R : List RowD} {I : Nat → List Nat} (h : Rws c L R I) {i j : Nat} {r : RowD} (hr : R[i]? = some r) {xs : List Value} (hx : (secs c L i).getD j [] = xs) (A' : Option Addr) (c' : Nat) :
    Rws c L (R.set i { r with A := A', n := r.n + 1, c := c', cs := r.cs ++ xs }) (fun k => if k = i then I i ++ [j] else I k) := by
  refine ⟨by rw [List.length_set]; exact h.len, fun k s hs => ?_⟩
  rw [List.getElem?_set] at hs
  by_cases hik : i = k
  · subst hik
    rw [if_pos rfl, if_pos (List.getElem?_eq_some_iff.1 hr).1] at hs
    injection hs with hs
    subst hs
    obtain ⟨h1, h2, h3, h4⟩ := h.row i r hr
    simp only [if_true]
    refine ⟨h1, h2, by simp [h3], ?_⟩
    rw [List.flatMap_append, h4]
    simp only [List.flatMap_cons, List.flatMap_nil, List.append_nil]
    rw [hx]
  · rw [if_neg hik] at hs
    simp only [if_neg (fun e => hik e.symm : ¬ k = i)]
    exact h.row k s hs
theorem Rws.congr {c : ConfR} {L : List ChanC} {R : List RowD} {I J : Nat → List Nat} (h : Rws c L R I) (he : ∀ k, k < 5 → J k = I k) : Rws c L R J := by
  refine ⟨h.len, fun i r hr => ?_⟩
  have hi : i < 5 := by rw [← h.len]; exact (List.getElem?_eq_some_iff.1 hr).1
  rw [he i hi]
  exact h.row i r hr
theorem Rws.at {c : ConfR} {L : List ChanC} {R : List RowD} {I : Nat → List Nat} (h : Rws c L R I) {i : Nat} (hi : i < 5) : ∃ r, R[i]? = some r := ⟨R[i]'(by rw [h.len]; exact hi), List.getElem?_eq_getElem _⟩

/-- The indices of the sections below s are in order; the others are none. -/
def Srt (c : ConfR) (s : Nat) (I : Nat → List Nat) : Prop := ∀ i, i < 5 → (i + 1 < s → (I i).Perm (List.range (c.keys ((i + 1 : Nat) : Int)).length) ∧ (I i).Pairwise (leK (c.keys ((i + 1 : Nat) : Int)))) ∧ (s ≤ i + 1 → I i = [])

theorem R0_ok (c : ConfR) (L : List ChanC) : Rws c L [⟨none, 0, 0, [], eT 0, zT 0⟩, ⟨none, 0, 0, [], eT 1, zT 1⟩, ⟨none, 0, 0, [], eT 2, zT 2⟩, ⟨none, 0, 0, [], eT 3, zT 3⟩, ⟨none, 0, 0, [], eT 4, zT 4⟩] (fun _ => []) := by
  refine ⟨rfl, fun i r hr => ?_⟩
  have hi : i < 5 := (List.getElem?_eq_some_iff.1 hr).1
  rcases (by omega : i = 0 ∨ i = 1 ∨ i = 2 ∨ i = 3 ∨ i = 4) with rfl | rfl | rfl | rfl | rfl <;> (injection hr with hr; subst hr; exact ⟨rfl, rfl, rfl, rfl⟩)

/-- All sections in order: a normal form. -/
theorem norm_of {c c' : ConfR} {I : Nat → List Nat} (hc : c' = { c with cs := c.cs.map srtR }) (h : Srt c' 6 I) :
    NormOf c ⟨c.frame, pick c'.ps (I 0), pick c'.ws (I 1), pick c'.rs (I 2), pick c'.ts (I 3), pick c'.cs (I 4)⟩ := by
  have k1 := (h 0 (by omega)).1 (by omega)
  have k2 := (h 1 (by omega)).1 (by omega)
  have k3 := (h 2 (by omega)).1 (by omega)
  have k4 := (h 3 (by omega)).1 (by omega)
  have k5 := (h 4 (by omega)).1 (by omega)
  have e1 : c'.keys ((0 + 1 : Nat) : Int) = c'.ps.map PartR.key := rfl
  have e2 : c'.keys ((1 + 1 : Nat) : Int) = c'.ws.map WinR.key := rfl
  have e3 : c'.keys ((2 + 1 : Nat) : Int) = c'.rs.map RegR.key := rfl
  have e4 : c'.keys ((3 + 1 : Nat) : Int) = c'.ts.map PortR.key := rfl
  have e5 : c'.keys ((4 + 1 : Nat) : Int) = c'.cs.map ChanR.key := rfl
  rw [e1, List.length_map] at k1
  rw [e2, List.length_map] at k2
  rw [e3, List.length_map] at k3
  rw [e4, List.length_map] at k4
  rw [e5, List.length_map] at k5
  have p1 : c'.ps = c.ps := by rw [hc]
  have p2 : c'.ws = c.ws := by rw [hc]
  have p3 : c'.rs = c.rs := by rw [hc]
  have p4 : c'.ts = c.ts := by rw [hc]
  have p5 : c'.cs = c.cs.map srtR := by rw [hc]
  have q1 := pick_perm k1.1
  have q2 := pick_perm k2.1
  have q3 := pick_perm k3.1
  have q4 := pick_perm k4.1
  have q5 := pick_perm k5.1
  exact ⟨rfl, q1.trans (by rw [p1]), q2.trans (by rw [p2]), q3.trans (by rw [p3]), q4.trans (by rw [p4]), q5.trans (by rw [p5]), pick_asc k1.2 (idx_lt k1.1), pick_asc k2.2 (idx_lt k2.1), pick_asc k3.2 (idx_lt k3.1), pick_asc k4.2 (idx_lt k4.1), pick_asc k5.2 (idx_lt k5.1)⟩

end Go.Proofs.YthdagjlgfffpbaaGreat

/-
  Layer 5 (conf): the reference's Normal behind its first loop, in plain words. By the verifier.
-/
set_option linter.unusedVariables false
namespace Go.Proofs.YthdagjlgfffpbaaGreat
open Go.RowKit

/-- What stays once the channels are built. -/
structure K3 (w W3 : World) (N : Nat) (c : ConfR) (q : CfgQ) : Prop where
  cfg : ∀ W, Turn (fun b => b = N + 1 ∨ b = N + 1 + 1) W3 W → CfgIn W c q
  box : ∀ W, Turn (fun b => b = N + 1 + 1) W3 W → W.heap[N]? = some (.cells (cfgA c q) 30 (0, 0))
  res : ∀ W, Turn (fun b => b = N + 1 + 1) W3 W → W.heap[N + 1]? = some (.cells zeroC 30 (0, 0))
  below : Below N w W3
  le : N ≤ W3.heap.size

theorem K3.cfg2 {w W3 W : World} {N : Nat} {c : ConfR} {q : CfgQ} (h : K3 w W3 N c q) (ht : Turn (fun b => b = N + 1 + 1) W3 W) : CfgIn W c q := h.cfg W (ht.mono fun b _ hb => Or.inr hb)

def R0 : List RowD := [⟨none, 0, 0, [], eT 0, zT 0⟩, ⟨none, 0, 0, [], eT 1, zT 1⟩, ⟨none, 0, 0, [], eT 2, zT 2⟩, ⟨none, 0, 0, [], eT 3, zT 3⟩, ⟨none, 0, 0, [], eT 4, zT 4⟩]
theorem R0_none {i : Nat} {r : RowD} (h : R0[i]? = some r) : r.A = none ∧ r.n = 0 ∧ r.c = 0 ∧ r.cs = [] := by
  have hi : i < 5 := (List.getElem?_eq_some_iff.1 h).1
  rcases (by omega : i = 0 ∨ i = 1 ∨ i = 2 ∨ i = 3 ∨ i = 4) with rfl | rfl | rfl | rfl | rfl <;> (injection h with h; subst h; exact ⟨rfl, rfl, rfl, rfl⟩)

theorem start3 {c : ConfR} {q : CfgQ} {w w1 wr : World} {L : List ChanC} {sv : Value} (hc : CfgIn w c q) (hb : Below w.heap.size w w1) (hs : w1.heap.size = w.heap.size + 3)
    (h0 : w1.heap[w.heap.size]? = some (.cells (cfgA c q) 30 (0, 0))) (h1 : w1.heap[w.heap.size + 1]? = some (.cells zeroC 30 (0, 0)))
    (h2 : w1.heap[w.heap.size + 1 + 1]? = some (.cells #[.int .u64 (c.frame : Int), .slice none 0 0, .slice none 0 0, .slice none 0 0, .slice none 0 0, .slice none 0 0] 30 (0, 0)))
    (hL : ChB w1 c.cs c.cs.length sv L wr) (hn : c.cs.length ≤ 1000) (hd : ∀ x ∈ c.cs, x.dests.length ≤ 1000) :
    wr.frozen? ⟨w.heap.size, 5, none⟩ = false ∧ ∃ q', K3 w (wr.setCell ⟨w.heap.size, 5, none⟩ sv) w.heap.size { c with cs := c.cs.map srtR } q' ∧ NS (wr.setCell ⟨w.heap.size, 5, none⟩ sv) (w.heap.size + 1 + 1) c.frame R0 (wr.setCell ⟨w.heap.size, 5, none⟩ sv) := by
  obtain ⟨A, cp, rfl, hcell, hnil, hfit, hlen, -⟩ := hL.own.cells
  have hrs : L.map (·.r) = c.cs.map srtR := by have := hL.rs; rw [List.take_length] at this; exact this
  have hll : L.length = c.cs.length := hL.len (Nat.le_refl _)
  have hsz := hL.below.size
  have hb0 : wr.heap[w.heap.size]? = some (.cells (cfgA c q) 30 (0, 0)) := (hL.below.block _ (by omega)).trans h0
  have t3 : Turn (fun k => k = w.heap.size) wr (wr.setCell ⟨w.heap.size, 5, none⟩ (.slice A L.length cp)) := Turn.setCell (S := fun k => k = w.heap.size) (B := w.heap.size) (Turn.refl _ _) rfl _
  have bwr : Below w.heap.size w wr := hb.trans (hL.below.mono (by omega))
  have b3 : Below w.heap.size w (wr.setCell ⟨w.heap.size, 5, none⟩ (.slice A L.length cp)) := bwr.trans (t3.below (fun k hk => by omega) (by omega))
  have ho3 : ∀ {e : TypeId} {k : Nat} {v : Value} {n : Nat} {cs : List Value}, OwnC wr w1.heap.size e k v n cs → OwnC (wr.setCell ⟨w.heap.size, 5, none⟩ (.slice A L.length cp)) w1.heap.size e k v n cs := fun h => OwnC.turn t3 h fun b hb' e => by
    have := (World.ownsRow.lt h b hb').1
    omega
  have hz1 : (wr.setCell ⟨w.heap.size, 5, none⟩ (.slice A L.length cp)).heap[w.heap.size + 1]? = some (.cells zeroC 30 (0, 0)) := (t3.block _ (by omega) (by omega)).trans ((hL.below.block _ (by omega)).trans h1)
  have hz2 := (t3.block (w.heap.size + 1 + 1) (by omega) (by omega)).trans ((hL.below.block _ (by omega)).trans h2)
  have hs3 := t3.size
  have hb3' : (wr.setCell ⟨w.heap.size, 5, none⟩ (.slice A L.length cp)).heap[w.heap.size]? = some (.cells (cfgA { c with cs := c.cs.map srtR } { q with A5 := A, c5 := cp, ch := L }) 30 (0, 0)) := by
    rw [heap_setCell_same _ _ _ _ _ _ hb0]
    unfold cfgA
    simp [hll]
  generalize wr.setCell ⟨w.heap.size, 5, none⟩ (.slice A L.length cp) = W3 at *
  refine ⟨frozen_of_row _ _ _ _ _ hb0, { q with A5 := A, c5 := cp, ch := L }, ⟨fun W ht => ?_, fun W ht => ?_, fun W ht => ?_, b3, by omega⟩, ?_⟩
  · have hbw : Below w.heap.size w W := b3.trans (ht.below (fun k hk => by omega) (by omega))
    have hcw := hc.below (Nat.le_refl _) hbw
    have hoW : ∀ {e : TypeId} {k : Nat} {v : Value} {n : Nat} {cs : List Value}, OwnC wr w1.heap.size e k v n cs → OwnC W w1.heap.size e k v n cs := fun h => OwnC.turn ht (ho3 h) fun b hb' e => by
      have := (World.ownsRow.lt h b hb').1
      omega
    refine ⟨hcw.ps, hcw.ws, hcw.rs, hcw.ts, own_recs (hoW hL.own) (n := 1000) (show L.length ≤ 1000 by omega) (by omega), hrs, fun x hx => ?_, hcw.frame, hcw.okp, hcw.okw, hcw.okr, hcw.okt, fun p hp => ?_⟩
    · obtain ⟨A', c', hv, h3, h4, h5, -⟩ := (hoW (hL.ds x hx).1).cells
      injection hv with e1 e2 e3
      subst e1 e3
      have hxr : x.r ∈ c.cs.map srtR := by rw [← hrs]; exact List.mem_map_of_mem hx
      obtain ⟨y, hy, hyx⟩ := List.mem_map.1 hxr
      have hy1 : x.r.dests.length = y.dests.length := by rw [← hyx]; exact sortU_len _
      have := hd y hy
      exact ⟨h3, h4, h5, by omega⟩
    · obtain ⟨y, hy, rfl⟩ := List.mem_map.1 hp
      exact srtR_ok (hcw.okc y hy)
  · rw [ht.block _ (by omega) (by omega)]; exact hb3'
  · rw [ht.block _ (by omega) (by omega)]; exact hz1
  · refine ⟨?_, by omega, Turn.refl _ _, fun i r hr => ?_, fun i j r s hr hs hij b hb' => ?_⟩
    · rw [hz2]; rfl
    · obtain ⟨e1, e2, e3, e4⟩ := R0_none hr
      unfold RowD.v
      rw [e1, e2, e3, e4]
      exact OwnC.nil _ _ _ _
    · rw [(R0_none hr).1] at hb'
      cases hb'

/-- A record's cells, wherever the facts hold. -/
theorem recs_all {α : Type} {P : World → Prop} {A : Option Addr} {cap : Nat} {l : List α} {f : α → List Value} (h : ∀ W, P W → Recs W A cap l f) (W0 : World) (h0 : P W0) (k : Nat) (hf : ∀ x, (f x).length = k) (hk : 0 < k) {i : Nat} (hi : i < l.length) :
    ∃ b o, A = some ⟨b, o, none⟩ ∧ ∀ W, P W → W.rangeAt b (o + i * k) (f l[i]) := by
  obtain ⟨b, o, hA, -, -⟩ := (h W0 h0).at k hf hk hi
  refine ⟨b, o, hA, fun W hW t v hv => ?_⟩
  obtain ⟨b', o', hA', -, hc⟩ := (h W hW).at k hf hk hi
  rw [hA] at hA'
  injection hA' with e
  injection e with e1 e2
  subst e1 e2
  exact hc t v hv

/-- The third loop: section s gets the records that ord names, one by one. -/
structure L3 (W3 : World) (N fr : Nat) (c : ConfR) (L : List ChanC) (I0 : Nat → List Nat) (s : Nat) (ord : List Nat) (ov : Value) (i : Nat) (R : List RowD) (V : World) : Prop where
  ns : NS W3 (N + 1 + 1) fr R V
  rw : Rws c L R (fun k => if k = s then ord.take i else I0 k)
  own : OwnC V W3.heap.size 3 1 ov ord.length (ord.map I64)
  sep : ∀ (k : Nat) (r : RowD), R[k]? = some r → ∀ b, blk r.A = some b → ov.ownBlock ≠ some b

theorem L3.start {W3 V0 V : World} {N fr : Nat} {c : ConfR} {L : List ChanC} {I0 : Nat → List Nat} {s : Nat} {ord : List Nat} {ov : Value} {R : List RowD} (h : NS W3 (N + 1 + 1) fr R V0) (hr : Rws c L R I0) (hI : I0 s = []) (hb : Below V0.heap.size V0 V) (ho : OwnC V V0.heap.size 3 1 ov ord.length (ord.map I64)) : L3 W3 N fr c L I0 s ord ov 0 R V := by
  refine ⟨h.more hb, hr.congr fun k hk => ?_, ho.base h.turn.size, fun k r hr b hb' e => ?_⟩
  · show (if k = s then ord.take 0 else I0 k) = I0 k
    split
    · rename_i e; rw [e, hI]; rfl
    · rfl
  · have := (h.lt_own hr hb').2
    have := (World.ownsRow.lt ho b e).1
    omega

theorem L3.next {W3 V W : World} {N fr : Nat} {c : ConfR} {L : List ChanC} {I0 : Nat → List Nat} {s : Nat} {ord : List Nat} {ov : Value} {i : Nat} {R : List RowD} (h : L3 W3 N fr c L I0 s ord ov i R V) {r : RowD} (hr : R[s]? = some r) (hi : i < ord.length) {xs : List Value} (hx : (secs c L s).getD ord[i] [] = xs) (ht : Turn (XR r) V W) {v' : Value}
    (ho : OwnC W W3.heap.size r.e r.z v' (r.n + 1) (r.cs ++ xs)) (hn : ∀ b, v'.ownBlock = some b → blk r.A = some b ∨ V.heap.size ≤ b) :
    W.cell? ⟨N + 1 + 1, s + 1, none⟩ = some r.v ∧ W.frozen? ⟨N + 1 + 1, s + 1, none⟩ = false ∧ ∃ R', L3 W3 N fr c L I0 s ord ov (i + 1) R' (W.setCell ⟨N + 1 + 1, s + 1, none⟩ v') := by
  obtain ⟨h1, h2⟩ := h.ns.hold hr ht
  obtain ⟨A', c', rfl, hns⟩ := h.ns.app hr ht ho hn
  have hov : ∀ b, ov.ownBlock = some b → W3.heap.size ≤ b ∧ b < V.heap.size := fun b hb => World.ownsRow.lt h.own b hb
  have hns' := hns
  refine ⟨h1, h2, _, hns, (h.rw.next hr hx A' c').congr fun k hk => ?_, ?_, fun k t hk b hb e => ?_⟩
  · show (if k = s then ord.take (i + 1) else I0 k) = if k = s then (if s = s then ord.take i else I0 s) ++ [ord[i]] else if k = s then ord.take i else I0 k
    split
    · rw [if_pos rfl, List.take_succ_eq_append_getElem hi]
    · rfl
  · have o1 : OwnC W W3.heap.size 3 1 ov ord.length (ord.map I64) := OwnC.turn ht h.own fun b hb hx => h.sep s r hr b hx hb
    refine OwnC.turn (Turn.setCell (S := fun k => k = N + 1 + 1) (B := N + 1 + 1) (Turn.refl _ _) rfl _) o1 fun b hb e => ?_
    have := (hov b hb).1
    have := h.ns.lt
    omega
  · rw [List.getElem?_set] at hk
    by_cases hks : s = k
    · subst hks
      rw [if_pos rfl, if_pos (List.getElem?_eq_some_iff.1 hr).1] at hk
      injection hk with hk
      subst hk
      rcases hn b (by rw [own_blk]; exact hb) with h3 | h3
      · exact h.sep s r hr b h3 e
      · have := (hov b e).2
        omega
    · rw [if_neg hks] at hk
      exact h.sep k t hk b hb e

/-- A world that an append to row r has turned, seen from the first one. -/
theorem L3.turn {W3 V W : World} {N fr : Nat} {c : ConfR} {L : List ChanC} {I0 : Nat → List Nat} {s : Nat} {ord : List Nat} {ov : Value} {i : Nat} {R : List RowD} (h : L3 W3 N fr c L I0 s ord ov i R V) {r : RowD} (hr : R[s]? = some r) (ht : Turn (XR r) V W) : Turn (fun b => b = N + 1 + 1) W3 W := (h.ns.kept hr ht).2.1

theorem L3.ord {W3 V : World} {N fr : Nat} {c : ConfR} {L : List ChanC} {I0 : Nat → List Nat} {s : Nat} {ord : List Nat} {ov : Value} {i : Nat} {R : List RowD} (h : L3 W3 N fr c L I0 s ord ov i R V) {r : RowD} (hr : R[s]? = some r) (hi : i < ord.length) :
    ∃ bo oo co, ov = .slice (some ⟨bo, oo, none⟩) ord.length co ∧ ∀ W, Turn (XR r) V W → W.cell? ⟨bo, oo + i, none⟩ = some (.int .i64 (ord[i] : Int)) := by
  obtain ⟨A, co, hv, hc, -⟩ := h.own.cells
  obtain ⟨bo, oo, rfl, -, -⟩ := hc.some (by simp; omega)
  refine ⟨bo, oo, co, hv, fun W ht => ?_⟩
  have o1 : OwnC W W3.heap.size 3 1 ov ord.length (ord.map I64) := OwnC.turn ht h.own fun b hb hx => h.sep s r hr b hx hb
  obtain ⟨A', co', hv', hc', -⟩ := o1.cells
  rw [hv] at hv'
  injection hv' with e1 e2 e3
  subst e1
  obtain ⟨b', o', e, -, h2⟩ := hc'.some (by simp; omega)
  injection e with e
  injection e with e1 e2
  subst e1 e2
  exact h2 i _ (by rw [List.getElem?_map, List.getElem?_eq_getElem hi]; rfl)

theorem srt_next {c : ConfR} {s : Nat} {I0 : Nat → List Nat} {ord : List Nat} (h : Srt c (s + 1) I0) (hp : ord.Perm (List.range (c.keys ((s + 1 : Nat) : Int)).length)) (hs : ord.Pairwise (leK (c.keys ((s + 1 : Nat) : Int)))) : Srt c (s + 1 + 1) (fun k => if k = s then ord else I0 k) := by
  intro i hi
  refine ⟨fun h1 => ?_, fun h1 => ?_⟩
  · by_cases e : i = s
    · subst e
      simp only [if_true]
      exact ⟨hp, hs⟩
    · simp only [if_neg e]
      exact (h i hi).1 (by omega)
  · simp only [if_neg (show ¬ i = s by omega)]
    exact (h i hi).2 (by omega)
theorem srt_start (c : ConfR) : Srt c 1 (fun _ => []) := fun i hi => ⟨fun h => by omega, fun _ => rfl⟩

theorem turn_row (V : World) (B : Nat) (X : Array Value) : Turn (fun b => b = B) V (V.setRow B X) := ⟨rfl, rfl, rfl, by simp, fun k _ hk => setRow_other V _ k _ hk⟩
theorem row_recs {α : Type} {W : World} {B : Nat} {l : List α} {f : α → List Value} {I : List Nat} {r : RowD} (ho : OwnC W B r.e r.z r.v r.n r.cs) (h1 : r.n = I.length) (h2 : r.cs = I.flatMap fun j => (l.map f).getD j []) (hI : ∀ j ∈ I, j < l.length) (hl : I.length ≤ 1000) : Recs W r.A r.c (pick l I) f ∧ r.n = (pick l I).length := by
  have e : (pick l I).length = I.length := pick_len l I hI
  unfold RowD.v at ho
  rw [h2, ← pick_flat f l I hI, h1, ← e] at ho
  exact ⟨own_recs ho (n := 1000) (by omega) (by omega), by omega⟩

theorem end3 {w W3 V : World} {N : Nat} {c0 c : ConfR} {q : CfgQ} {R : List RowD} {I : Nat → List Nat} (hK : K3 w W3 N c q) (hns : NS W3 (N + 1 + 1) c0.frame R V) (hr : Rws c q.ch R I) (hsrt : Srt c 6 I) (hc : c = { c0 with cs := c0.cs.map srtR }) (hs : Short c) :
    ∃ n qn, V.heap[N + 1 + 1]? = some (.cells (cfgA n qn) 30 (0, 0)) ∧ NormOf c0 n ∧ CfgIn (V.setRow (N + 1) (cfgA n qn)) n qn ∧ Below N w (V.setRow (N + 1) (cfgA n qn)) := by
  obtain ⟨r0, r1, r2, r3, r4, rfl⟩ : ∃ a b c d e, R = [a, b, c, d, e] := by
    have hl := hr.len
    rcases R with _ | ⟨a, _ | ⟨b, _ | ⟨c, _ | ⟨d, _ | ⟨e, _ | ⟨f, R⟩⟩⟩⟩⟩⟩ <;> simp at hl
    exact ⟨a, b, c, d, e, rfl⟩
  have hcv := hK.cfg2 hns.turn
  have k1 := (hsrt 0 (by omega)).1 (by omega)
  have k2 := (hsrt 1 (by omega)).1 (by omega)
  have k3 := (hsrt 2 (by omega)).1 (by omega)
  have k4 := (hsrt 3 (by omega)).1 (by omega)
  have k5 := (hsrt 4 (by omega)).1 (by omega)
  have e1 : c.keys ((0 + 1 : Nat) : Int) = c.ps.map PartR.key := rfl
  have e2 : c.keys ((1 + 1 : Nat) : Int) = c.ws.map WinR.key := rfl
  have e3 : c.keys ((2 + 1 : Nat) : Int) = c.rs.map RegR.key := rfl
  have e4 : c.keys ((3 + 1 : Nat) : Int) = c.ts.map PortR.key := rfl
  have e5 : c.keys ((4 + 1 : Nat) : Int) = c.cs.map ChanR.key := rfl
  rw [e1, List.length_map] at k1
  rw [e2, List.length_map] at k2
  rw [e3, List.length_map] at k3
  rw [e4, List.length_map] at k4
  rw [e5, List.length_map, ← hcv.len5] at k5
  have l1 := k1.1.length_eq
  have l2 := k2.1.length_eq
  have l3 := k3.1.length_eq
  have l4 := k4.1.length_eq
  have l5 := k5.1.length_eq
  rw [List.length_range] at l1 l2 l3 l4 l5
  have hlc := hcv.len5
  have hs1 := hs.ps
  have hs2 := hs.ws
  have hs3 := hs.rs
  have hs4 := hs.ts
  have hs5 := hs.cs
  have own : ∀ (X : Array Value) (i : Nat) (r : RowD), [r0, r1, r2, r3, r4][i]? = some r → OwnC (V.setRow (N + 1) X) W3.heap.size r.e r.z r.v r.n r.cs := fun X i r h => OwnC.turn (turn_row V (N + 1) X) (hns.own i r h) fun b hb e => by
    have := (World.ownsRow.lt (hns.own i r h) b hb).1
    have := hns.lt
    omega
  obtain ⟨-, -, a1, b1⟩ := hr.row 0 r0 rfl
  obtain ⟨-, -, a2, b2⟩ := hr.row 1 r1 rfl
  obtain ⟨-, -, a3, b3⟩ := hr.row 2 r2 rfl
  obtain ⟨-, -, a4, b4⟩ := hr.row 3 r3 rfl
  obtain ⟨-, -, a5, b5⟩ := hr.row 4 r4 rfl
  have p1 := fun X => row_recs (l := c.ps) (f := partV) (own X 0 r0 rfl) a1 b1 (idx_lt k1.1) (by omega)
  have p2 := fun X => row_recs (l := c.ws) (f := winV) (own X 1 r1 rfl) a2 b2 (idx_lt k2.1) (by omega)
  have p3 := fun X => row_recs (l := c.rs) (f := regV) (own X 2 r2 rfl) a3 b3 (idx_lt k3.1) (by omega)
  have p4 := fun X => row_recs (l := c.ts) (f := portV) (own X 3 r3 rfl) a4 b4 (idx_lt k4.1) (by omega)
  have p5 := fun X => row_recs (l := q.ch) (f := chanV) (own X 4 r4 rfl) a5 b5 (idx_lt k5.1) (by omega)
  have hpc : (pick q.ch (I 4)).map (·.r) = pick c.cs (I 4) := by rw [pick_pick, hcv.ch]
  have hpl : (pick c.cs (I 4)).length = (pick q.ch (I 4)).length := by rw [← hpc, List.length_map]
  have hfr : c.frame = c0.frame := by rw [hc]
  refine ⟨_, ⟨r0.A, r0.c, r1.A, r1.c, r2.A, r2.c, r3.A, r3.c, r4.A, r4.c, pick q.ch (I 4)⟩, ?_, norm_of hc hsrt, ?_, ?_⟩
  · rw [hns.box]
    have x1 := (p1 #[]).2
    have x2 := (p2 #[]).2
    have x3 := (p3 #[]).2
    have x4 := (p4 #[]).2
    have x5 := (p5 #[]).2
    simp only [boxN, RowD.v, cfgA, List.map_cons, List.map_nil]
    rw [x1, x2, x3, x4, x5, hpl]
  · have t4 : ∀ X, Turn (fun b => b = N + 1 ∨ b = N + 1 + 1) W3 (V.setRow (N + 1) X) := fun X => (hns.turn.mono fun b _ hb => Or.inr hb).trans (Turn.mono (turn_row V (N + 1) X) fun b _ hb => Or.inl hb) (fun _ _ e => e)
    have hcw := hK.cfg _ (t4 (cfgA ⟨c0.frame, pick c.ps (I 0), pick c.ws (I 1), pick c.rs (I 2), pick c.ts (I 3), pick c.cs (I 4)⟩ ⟨r0.A, r0.c, r1.A, r1.c, r2.A, r2.c, r3.A, r3.c, r4.A, r4.c, pick q.ch (I 4)⟩))
    exact ⟨(p1 _).1, (p2 _).1, (p3 _).1, (p4 _).1, (p5 _).1, hpc, fun x hx => hcw.ds x (pick_mem hx), by rw [← hfr]; exact hcw.frame, fun p hp => hcw.okp p (pick_mem hp), fun p hp => hcw.okw p (pick_mem hp), fun p hp => hcw.okr p (pick_mem hp), fun p hp => hcw.okt p (pick_mem hp), fun p hp => hcw.okc p (pick_mem hp)⟩
  · exact (hK.below.trans (hns.turn.below (fun b hb => by omega) hK.le)).trans (Turn.below (turn_row V (N + 1) _) (fun b hb => by omega) (by have := hns.turn.size; have := hK.le; omega))

/-- A value of one cell goes into a cell: as the last step of a region. -/
theorem sec_store {o : Oper} {a : Act} {w : World} {ops : Array Oper} {K : Act → World → Prop} {Q : Exit → Act → World → Prop} {E : Prop} (hgd : o.guard = none) (ty : TypeId) (x y : Nat) (ho : o.op = .store ty (.tmp x) (.tmp y)) (hd : o.dst = none)
    (g s : Nat) (v old : Value) (hx : a.tmps[x]?.getD undef = .pointer (some ⟨g, s, none⟩)) (hy : a.tmps[y]?.getD undef = v) (h1 : v.oneCell' = true) (hc : w.cell? ⟨g, s, none⟩ = some old) (hf : w.frozen? ⟨g, s, none⟩ = false)
    (hi : (Tryz.prog.info? ty).map (·.size) = some 1) (h : K a (w.setCell ⟨g, s, none⟩ v)) : if Region.wanted o (yielded ops a.tmps) = true then Oper.wp Tryz.prog o a w K Q else E := by
  rw [if_pos (by simp [Region.wanted, hgd])]
  have hst := run_storeCells_cells (P := Tryz.prog) g s [v] 0 w (fun j hj => by
    have : j = 0 := by simpa using hj
    subst this
    simp [hc]) (fun j hj => by
    have : j = 0 := by simpa using hj
    subst this
    simpa using hf) (fun u hu => by simp at hu; subst hu; exact h1)
  have hcl : v.cells = #[v] := by cases v <;> first | rfl | cases h1
  have hsv : (storeVar ty ⟨g, s, none⟩ v).run Tryz.prog w = .ok () (w.setCell ⟨g, s, none⟩ v) := by
    cases hq : Tryz.prog.info? ty with
    | none => simp [hq] at hi
    | some i =>
      have hs : i.size = 1 := by simpa [hq] using hi
      simp only [Nat.add_zero] at hst
      simp [storeVar, sizeOf, typeInfo, hq, hcl, hs, hst, World.setCells]
  unfold Oper.wp execOp
  have ex : a.eval (.tmp x) = .pointer (some ⟨g, s, none⟩) := (eval_tmp a x).trans hx
  have ey : a.eval (.tmp y) = v := (eval_tmp a y).trans hy
  simp only [ho, ex, ey, Instr.storeAt, Instr.sureAddr, Sem.run_bind, Sem.run_pure, Result.andThen_ok, hsv]
  show K (a.put o.dst undef) _
  rw [hd]
  exact h

theorem short_srt {c : ConfR} (h : Short c) : Short { c with cs := c.cs.map srtR } :=
  ⟨h.ps, h.ws, h.rs, h.ts, by simpa using h.cs, fun x hx => by
    obtain ⟨y, hy, rfl⟩ := List.mem_map.1 hx
    have := h.ds y hy
    show (sortU y.dests).length ≤ 1000
    rw [sortU_len]
    exact this, h.np, h.nt⟩

end Go.Proofs.YthdagjlgfffpbaaGreat
