/-
  Layer 5 (conf): the state of the program's Merge. By the verifier.
-/
import Derived.Test.YthdagjlgfffpbaaGreatPOwn
set_option linter.unusedVariables false
namespace Go.Proofs.YthdagjlgfffpbaaGreat
open Go.RowKit

/-- The configuration that is made, the block that holds it, the blocks that stand. -/
structure MSt (w : World) (B : Nat) (K : List (Nat × Obj)) (W : World) (c : ConfR) (q : CfgQ) : Prop where
  own : OwnCfg W w.heap.size c q
  all : W.heap[B]? = some (.cells (cfgA c q) 30)
  lt : B < W.heap.size
  ge : w.heap.size ≤ B
  keep : ∀ k ∈ K, W.heap[k.1]? = some k.2 ∧ k.1 < W.heap.size ∧ k.1 ≠ B
  out : ∀ b, some b ∈ q.slots → b ≠ B ∧ ∀ k ∈ K, b ≠ k.1
  below : Below w.heap.size w W

theorem MSt.more {w W W' : World} {B : Nat} {K : List (Nat × Obj)} {c : ConfR} {q : CfgQ} (h : MSt w B K W c q) (hb : Below W.heap.size W W') : MSt w B K W' c q :=
  ⟨h.own.stay (S := fun _ => False) (Turn.of_below hb) (fun _ _ h => h), by rw [hb.block _ h.lt]; exact h.all, Nat.lt_of_lt_of_le h.lt hb.size, h.ge, fun k hk => ⟨by rw [hb.block _ (h.keep k hk).2.1]; exact (h.keep k hk).1, Nat.lt_of_lt_of_le (h.keep k hk).2.1 hb.size, (h.keep k hk).2.2⟩, h.out, h.below.trans (hb.mono h.below.size)⟩
/-- A block more stands. -/
theorem MSt.hold {w W : World} {B : Nat} {K : List (Nat × Obj)} {c : ConfR} {q : CfgQ} (h : MSt w B K W c q) (o : Obj) : MSt w B ((W.heap.size, o) :: K) (W.alloc o) c q := by
  have h' := h.more (W' := W.alloc o) ((Below.refl _ _).alloc (Nat.le_refl _) _)
  refine ⟨h'.own, h'.all, h'.lt, h'.ge, fun k hk => ?_, fun b hb => ?_, h'.below⟩
  · rcases List.mem_cons.1 hk with rfl | hk
    · exact ⟨heap_alloc_new W o, by simp, by have := h.lt; simp; omega⟩
    · exact h'.keep k hk
  · refine ⟨(h.out b hb).1, fun k hk => ?_⟩
    rcases List.mem_cons.1 hk with rfl | hk
    · have := (h.own.lt hb).2
      simp; omega
    · exact (h.out b hb).2 k hk
theorem MSt.drop {w W : World} {B : Nat} {K K' : List (Nat × Obj)} {c : ConfR} {q : CfgQ} (h : MSt w B K W c q) (hk : ∀ k ∈ K', k ∈ K) : MSt w B K' W c q :=
  ⟨h.own, h.all, h.lt, h.ge, fun k hk' => h.keep k (hk k hk'), fun b hb => ⟨(h.out b hb).1, fun k hk' => (h.out b hb).2 k (hk k hk')⟩, h.below⟩
theorem MSt.cell {w W : World} {B : Nat} {K : List (Nat × Obj)} {c : ConfR} {q : CfgQ} (h : MSt w B K W c q) (k : Nat) : W.cell? ⟨B, k, none⟩ = (cfgA c q)[k]? := cell_of_row W B k _ _ _ h.all
theorem MSt.kept {w W : World} {B : Nat} {K : List (Nat × Obj)} {c : ConfR} {q : CfgQ} (h : MSt w B K W c q) {g : Nat} {cs : Array Value} {t : TypeId} (hk : (g, Obj.cells cs t (0, 0)) ∈ K) (k : Nat) : W.cell? ⟨g, k, none⟩ = cs[k]? := cell_of_row W g k _ _ _ (h.keep _ hk).1

/-- An append onto a row of it has turned that row alone. -/
structure App (W W' : World) (i : Nat) (q : CfgQ) (A' : Option Addr) : Prop where
  turn : Turn (fun b => q.slots[i]? = some (some b)) W W'
  blk : q.slots[i]? = some (Go.Proofs.YthdagjlgfffpbaaGreat.blk A') ∨ Go.Proofs.YthdagjlgfffpbaaGreat.blk A' = some W.heap.size

theorem MSt.stays {w W W' : World} {B : Nat} {K : List (Nat × Obj)} {c : ConfR} {q : CfgQ} (h : MSt w B K W c q) {i : Nat} {A' : Option Addr} (ha : App W W' i q A') :
    W'.heap[B]? = some (.cells (cfgA c q) 30) ∧ B < W'.heap.size ∧ W'.cell? ⟨B, i + 1, none⟩ = (cfgA c q)[i + 1]? ∧ W'.frozen? ⟨B, i + 1, none⟩ = false := by
  have hB : W'.heap[B]? = some (.cells (cfgA c q) 30) := by
    rw [ha.turn.block B h.lt (fun hb => (h.out B (List.mem_of_getElem? hb)).1 rfl)]
    exact h.all
  exact ⟨hB, Nat.lt_of_lt_of_le h.lt ha.turn.size, cell_of_row _ _ _ _ _ _ hB, frozen_of_row _ _ _ _ _ hB⟩

/-- All but the row that an append and its store have turned. -/
theorem MSt.rest {w W W' : World} {B : Nat} {K : List (Nat × Obj)} {c : ConfR} {q : CfgQ} (h : MSt w B K W c q) {i : Nat} {A' : Option Addr} (ha : App W W' i q A') (v : Value) :
    Turn (fun b => q.slots[i]? = some (some b) ∨ b = B) W (W'.setCell ⟨B, i + 1, none⟩ v) ∧ (∀ b, blk A' = some b → b ≠ B ∧ ∀ k ∈ K, b ≠ k.1) ∧ (∀ k ∈ K, (W'.setCell ⟨B, i + 1, none⟩ v).heap[k.1]? = some k.2 ∧ k.1 < (W'.setCell ⟨B, i + 1, none⟩ v).heap.size ∧ k.1 ≠ B) ∧
      Below w.heap.size w (W'.setCell ⟨B, i + 1, none⟩ v) := by
  have ht : Turn (fun b => q.slots[i]? = some (some b) ∨ b = B) W (W'.setCell ⟨B, i + 1, none⟩ v) := Turn.setCell (S := fun b => q.slots[i]? = some (some b) ∨ b = B) (B := B) (ha.turn.mono fun b _ hb => Or.inl hb) (Or.inr rfl) v
  refine ⟨ht, fun b hb => ?_, fun k hk => ?_, h.below.trans (ht.below (fun b hb => ?_) h.below.size)⟩
  · rcases ha.blk with h1 | h1
    · rw [hb] at h1
      exact h.out b (List.mem_of_getElem? h1)
    · rw [hb] at h1
      injection h1 with h1
      subst h1
      refine ⟨by have := h.lt; omega, fun k hk => ?_⟩
      have := (h.keep k hk).2.1
      omega
  · have hkk := h.keep k hk
    refine ⟨?_, Nat.lt_of_lt_of_le hkk.2.1 ht.size, hkk.2.2⟩
    rw [ht.block k.1 hkk.2.1 (fun hb => ?_)]
    · exact hkk.1
    · rcases hb with hb | hb
      · exact (h.out k.1 (List.mem_of_getElem? hb)).2 k hk rfl
      · exact hkk.2.2 hb
  · rcases hb with hb | hb
    · exact (h.own.lt (List.mem_of_getElem? hb)).1
    · rw [hb]; exact h.ge

theorem own_apart {w W : World} {base : Nat} {c : ConfR} {q : CfgQ} {B i j : Nat} {A : Option Addr} (hs : Sep q.slots) (hB : ∀ b, some b ∈ q.slots → b ≠ B) (hij : j ≠ i) (hj : q.slots[j]? = some (blk A)) : ∀ b, blk A = some b → ¬ (q.slots[i]? = some (some b) ∨ b = B) := by
  rintro b hb (h1 | h1)
  · rw [hb] at hj
    exact hs.ne hij hj h1 rfl
  · rw [hb] at hj
    exact hB b (List.mem_of_getElem? hj) h1

theorem slots_set_mem {l : List (Option Nat)} {i : Nat} {x y : Option Nat} (h : y ∈ l.set i x) : y ∈ l ∨ y = x := List.mem_or_eq_of_mem_set h

theorem MSt.app1 {w W W' : World} {B : Nat} {K : List (Nat × Obj)} {c : ConfR} {q : CfgQ} (h : MSt w B K W c q) (p : List PartR) {v' : Value} (ho : OwnC W' w.heap.size 36 4 v' (c.ps.length + p.length) (c.ps.flatMap partV ++ p.flatMap partV))
    (hg : W.grownBy W' (Value.ownBlock (.slice q.A1 c.ps.length q.c1))) (hn : v'.ownBlock = Value.ownBlock (.slice q.A1 c.ps.length q.c1) ∨ v'.ownBlock = some W.heap.size) :
    ∃ A' c', v' = .slice A' (c.ps.length + p.length) c' ∧ App W W' 0 q A' ∧ MSt w B K (W'.setCell ⟨B, 1, none⟩ (.slice A' (c.ps.length + p.length) c')) { c with ps := c.ps ++ p } { q with A1 := A', c1 := c' } := by
  obtain ⟨A', c', rfl, -, -, -, -, -⟩ := ho.cells
  rw [own_blk] at hn hg
  rw [own_blk] at hn
  have hsl : q.slots[0]? = some (blk q.A1) := rfl
  have ha : App W W' 0 q A' := by
    refine ⟨(Turn.of_grown hg).mono fun b _ hb => by rw [hsl, hb], ?_⟩
    rcases hn with hn | hn
    · exact Or.inl (by rw [hsl, hn])
    · exact Or.inr hn
  obtain ⟨ht, hA, hK, hb⟩ := h.rest ha (.slice A' (c.ps.length + p.length) c')
  obtain ⟨s1, s2, -, -⟩ := h.stays ha
  have hB : ∀ b, some b ∈ q.slots → b ≠ B := fun b hb => (h.out b hb).1
  have hss : ({ q with A1 := A', c1 := c' } : CfgQ).slots = q.slots.set 0 (blk A') := rfl
  refine ⟨A', c', rfl, ha, ?_, ?_, Nat.lt_of_lt_of_le h.lt ht.size, h.ge, hK, fun b hb => ?_, hb⟩
  · refine ⟨?_, ?_, ?_, ?_, ?_, h.own.ch, fun x hx => ?_, ?_⟩
    · rw [List.length_append, List.flatMap_append]
      exact own_stay (S := fun b => b = B) ho (Turn.setCell (S := fun b => b = B) (B := B) (Turn.refl _ _) rfl _) fun b hb => (hA b hb).1
    · exact own_stay h.own.ws ht (own_apart (w := w) (W := W) (base := 0) (c := c) h.own.sep hB (i := 0) (j := 1) (by omega) rfl)
    · exact own_stay h.own.rs ht (own_apart (w := w) (W := W) (base := 0) (c := c) h.own.sep hB (i := 0) (j := 2) (by omega) rfl)
    · exact own_stay h.own.ts ht (own_apart (w := w) (W := W) (base := 0) (c := c) h.own.sep hB (i := 0) (j := 3) (by omega) rfl)
    · exact own_stay h.own.cs ht (own_apart (w := w) (W := W) (base := 0) (c := c) h.own.sep hB (i := 0) (j := 4) (by omega) rfl)
    · obtain ⟨n, hn', hx'⟩ := List.mem_iff_getElem.1 hx
      refine own_stay (h.own.ds x hx) ht (own_apart (w := w) (W := W) (base := 0) (c := c) h.own.sep hB (i := 0) (j := 5 + n) (by omega) ?_)
      unfold CfgQ.slots
      rw [List.getElem?_append_right (by simp), List.getElem?_map]
      simp [hn', hx']
    · rw [hss]
      refine h.own.sep.set (N := W.heap.size) (fun b hb => (h.own.lt hb).2) ?_
      exact ha.blk
  · rw [heap_setCell_same _ _ _ _ _ _ s1]
    congr 2
    simp [cfgA]
  · rw [hss] at hb
    rcases slots_set_mem hb with hb | hb
    · exact h.out b hb
    · exact hA b hb.symm

theorem MSt.app2 {w W W' : World} {B : Nat} {K : List (Nat × Obj)} {c : ConfR} {q : CfgQ} (h : MSt w B K W c q) (p : List WinR) {v' : Value} (ho : OwnC W' w.heap.size 45 3 v' (c.ws.length + p.length) (c.ws.flatMap winV ++ p.flatMap winV))
    (hg : W.grownBy W' (Value.ownBlock (.slice q.A2 c.ws.length q.c2))) (hn : v'.ownBlock = Value.ownBlock (.slice q.A2 c.ws.length q.c2) ∨ v'.ownBlock = some W.heap.size) :
    ∃ A' c', v' = .slice A' (c.ws.length + p.length) c' ∧ App W W' 1 q A' ∧ MSt w B K (W'.setCell ⟨B, 2, none⟩ (.slice A' (c.ws.length + p.length) c')) { c with ws := c.ws ++ p } { q with A2 := A', c2 := c' } := by
  obtain ⟨A', c', rfl, -, -, -, -, -⟩ := ho.cells
  rw [own_blk] at hn hg
  rw [own_blk] at hn
  have hsl : q.slots[1]? = some (blk q.A2) := rfl
  have ha : App W W' 1 q A' := by
    refine ⟨(Turn.of_grown hg).mono fun b _ hb => by rw [hsl, hb], ?_⟩
    rcases hn with hn | hn
    · exact Or.inl (by rw [hsl, hn])
    · exact Or.inr hn
  obtain ⟨ht, hA, hK, hb⟩ := h.rest ha (.slice A' (c.ws.length + p.length) c')
  obtain ⟨s1, s2, -, -⟩ := h.stays ha
  have hB : ∀ b, some b ∈ q.slots → b ≠ B := fun b hb => (h.out b hb).1
  have hss : ({ q with A2 := A', c2 := c' } : CfgQ).slots = q.slots.set 1 (blk A') := rfl
  refine ⟨A', c', rfl, ha, ?_, ?_, Nat.lt_of_lt_of_le h.lt ht.size, h.ge, hK, fun b hb => ?_, hb⟩
  · refine ⟨?_, ?_, ?_, ?_, ?_, h.own.ch, fun x hx => ?_, ?_⟩
    · exact own_stay h.own.ps ht (own_apart (w := w) (W := W) (base := 0) (c := c) h.own.sep hB (i := 1) (j := 0) (by omega) rfl)
    · rw [List.length_append, List.flatMap_append]
      exact own_stay (S := fun b => b = B) ho (Turn.setCell (S := fun b => b = B) (B := B) (Turn.refl _ _) rfl _) fun b hb => (hA b hb).1
    · exact own_stay h.own.rs ht (own_apart (w := w) (W := W) (base := 0) (c := c) h.own.sep hB (i := 1) (j := 2) (by omega) rfl)
    · exact own_stay h.own.ts ht (own_apart (w := w) (W := W) (base := 0) (c := c) h.own.sep hB (i := 1) (j := 3) (by omega) rfl)
    · exact own_stay h.own.cs ht (own_apart (w := w) (W := W) (base := 0) (c := c) h.own.sep hB (i := 1) (j := 4) (by omega) rfl)
    · obtain ⟨n, hn', hx'⟩ := List.mem_iff_getElem.1 hx
      refine own_stay (h.own.ds x hx) ht (own_apart (w := w) (W := W) (base := 0) (c := c) h.own.sep hB (i := 1) (j := 5 + n) (by omega) ?_)
      unfold CfgQ.slots
      rw [List.getElem?_append_right (by simp), List.getElem?_map]
      simp [hn', hx']
    · rw [hss]
      refine h.own.sep.set (N := W.heap.size) (fun b hb => (h.own.lt hb).2) ?_
      exact ha.blk
  · rw [heap_setCell_same _ _ _ _ _ _ s1]
    congr 2
    simp [cfgA]
  · rw [hss] at hb
    rcases slots_set_mem hb with hb | hb
    · exact h.out b hb
    · exact hA b hb.symm

theorem MSt.app3 {w W W' : World} {B : Nat} {K : List (Nat × Obj)} {c : ConfR} {q : CfgQ} (h : MSt w B K W c q) (p : List RegR) {v' : Value} (ho : OwnC W' w.heap.size 47 5 v' (c.rs.length + p.length) (c.rs.flatMap regV ++ p.flatMap regV))
    (hg : W.grownBy W' (Value.ownBlock (.slice q.A3 c.rs.length q.c3))) (hn : v'.ownBlock = Value.ownBlock (.slice q.A3 c.rs.length q.c3) ∨ v'.ownBlock = some W.heap.size) :
    ∃ A' c', v' = .slice A' (c.rs.length + p.length) c' ∧ App W W' 2 q A' ∧ MSt w B K (W'.setCell ⟨B, 3, none⟩ (.slice A' (c.rs.length + p.length) c')) { c with rs := c.rs ++ p } { q with A3 := A', c3 := c' } := by
  obtain ⟨A', c', rfl, -, -, -, -, -⟩ := ho.cells
  rw [own_blk] at hn hg
  rw [own_blk] at hn
  have hsl : q.slots[2]? = some (blk q.A3) := rfl
  have ha : App W W' 2 q A' := by
    refine ⟨(Turn.of_grown hg).mono fun b _ hb => by rw [hsl, hb], ?_⟩
    rcases hn with hn | hn
    · exact Or.inl (by rw [hsl, hn])
    · exact Or.inr hn
  obtain ⟨ht, hA, hK, hb⟩ := h.rest ha (.slice A' (c.rs.length + p.length) c')
  obtain ⟨s1, s2, -, -⟩ := h.stays ha
  have hB : ∀ b, some b ∈ q.slots → b ≠ B := fun b hb => (h.out b hb).1
  have hss : ({ q with A3 := A', c3 := c' } : CfgQ).slots = q.slots.set 2 (blk A') := rfl
  refine ⟨A', c', rfl, ha, ?_, ?_, Nat.lt_of_lt_of_le h.lt ht.size, h.ge, hK, fun b hb => ?_, hb⟩
  · refine ⟨?_, ?_, ?_, ?_, ?_, h.own.ch, fun x hx => ?_, ?_⟩
    · exact own_stay h.own.ps ht (own_apart (w := w) (W := W) (base := 0) (c := c) h.own.sep hB (i := 2) (j := 0) (by omega) rfl)
    · exact own_stay h.own.ws ht (own_apart (w := w) (W := W) (base := 0) (c := c) h.own.sep hB (i := 2) (j := 1) (by omega) rfl)
    · rw [List.length_append, List.flatMap_append]
      exact own_stay (S := fun b => b = B) ho (Turn.setCell (S := fun b => b = B) (B := B) (Turn.refl _ _) rfl _) fun b hb => (hA b hb).1
    · exact own_stay h.own.ts ht (own_apart (w := w) (W := W) (base := 0) (c := c) h.own.sep hB (i := 2) (j := 3) (by omega) rfl)
    · exact own_stay h.own.cs ht (own_apart (w := w) (W := W) (base := 0) (c := c) h.own.sep hB (i := 2) (j := 4) (by omega) rfl)
    · obtain ⟨n, hn', hx'⟩ := List.mem_iff_getElem.1 hx
      refine own_stay (h.own.ds x hx) ht (own_apart (w := w) (W := W) (base := 0) (c := c) h.own.sep hB (i := 2) (j := 5 + n) (by omega) ?_)
      unfold CfgQ.slots
      rw [List.getElem?_append_right (by simp), List.getElem?_map]
      simp [hn', hx']
    · rw [hss]
      refine h.own.sep.set (N := W.heap.size) (fun b hb => (h.own.lt hb).2) ?_
      exact ha.blk
  · rw [heap_setCell_same _ _ _ _ _ _ s1]
    congr 2
    simp [cfgA]
  · rw [hss] at hb
    rcases slots_set_mem hb with hb | hb
    · exact h.out b hb
    · exact hA b hb.symm

theorem MSt.app4 {w W W' : World} {B : Nat} {K : List (Nat × Obj)} {c : ConfR} {q : CfgQ} (h : MSt w B K W c q) (p : List PortR) {v' : Value} (ho : OwnC W' w.heap.size 39 6 v' (c.ts.length + p.length) (c.ts.flatMap portV ++ p.flatMap portV))
    (hg : W.grownBy W' (Value.ownBlock (.slice q.A4 c.ts.length q.c4))) (hn : v'.ownBlock = Value.ownBlock (.slice q.A4 c.ts.length q.c4) ∨ v'.ownBlock = some W.heap.size) :
    ∃ A' c', v' = .slice A' (c.ts.length + p.length) c' ∧ App W W' 3 q A' ∧ MSt w B K (W'.setCell ⟨B, 4, none⟩ (.slice A' (c.ts.length + p.length) c')) { c with ts := c.ts ++ p } { q with A4 := A', c4 := c' } := by
  obtain ⟨A', c', rfl, -, -, -, -, -⟩ := ho.cells
  rw [own_blk] at hn hg
  rw [own_blk] at hn
  have hsl : q.slots[3]? = some (blk q.A4) := rfl
  have ha : App W W' 3 q A' := by
    refine ⟨(Turn.of_grown hg).mono fun b _ hb => by rw [hsl, hb], ?_⟩
    rcases hn with hn | hn
    · exact Or.inl (by rw [hsl, hn])
    · exact Or.inr hn
  obtain ⟨ht, hA, hK, hb⟩ := h.rest ha (.slice A' (c.ts.length + p.length) c')
  obtain ⟨s1, s2, -, -⟩ := h.stays ha
  have hB : ∀ b, some b ∈ q.slots → b ≠ B := fun b hb => (h.out b hb).1
  have hss : ({ q with A4 := A', c4 := c' } : CfgQ).slots = q.slots.set 3 (blk A') := rfl
  refine ⟨A', c', rfl, ha, ?_, ?_, Nat.lt_of_lt_of_le h.lt ht.size, h.ge, hK, fun b hb => ?_, hb⟩
  · refine ⟨?_, ?_, ?_, ?_, ?_, h.own.ch, fun x hx => ?_, ?_⟩
    · exact own_stay h.own.ps ht (own_apart (w := w) (W := W) (base := 0) (c := c) h.own.sep hB (i := 3) (j := 0) (by omega) rfl)
    · exact own_stay h.own.ws ht (own_apart (w := w) (W := W) (base := 0) (c := c) h.own.sep hB (i := 3) (j := 1) (by omega) rfl)
    · exact own_stay h.own.rs ht (own_apart (w := w) (W := W) (base := 0) (c := c) h.own.sep hB (i := 3) (j := 2) (by omega) rfl)
    · rw [List.length_append, List.flatMap_append]
      exact own_stay (S := fun b => b = B) ho (Turn.setCell (S := fun b => b = B) (B := B) (Turn.refl _ _) rfl _) fun b hb => (hA b hb).1
    · exact own_stay h.own.cs ht (own_apart (w := w) (W := W) (base := 0) (c := c) h.own.sep hB (i := 3) (j := 4) (by omega) rfl)
    · obtain ⟨n, hn', hx'⟩ := List.mem_iff_getElem.1 hx
      refine own_stay (h.own.ds x hx) ht (own_apart (w := w) (W := W) (base := 0) (c := c) h.own.sep hB (i := 3) (j := 5 + n) (by omega) ?_)
      unfold CfgQ.slots
      rw [List.getElem?_append_right (by simp), List.getElem?_map]
      simp [hn', hx']
    · rw [hss]
      refine h.own.sep.set (N := W.heap.size) (fun b hb => (h.own.lt hb).2) ?_
      exact ha.blk
  · rw [heap_setCell_same _ _ _ _ _ _ s1]
    congr 2
    simp [cfgA]
  · rw [hss] at hb
    rcases slots_set_mem hb with hb | hb
    · exact h.out b hb
    · exact hA b hb.symm

end Go.Proofs.YthdagjlgfffpbaaGreat
