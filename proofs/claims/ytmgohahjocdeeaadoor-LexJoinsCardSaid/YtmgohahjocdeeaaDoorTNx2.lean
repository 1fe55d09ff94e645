/-
  Layer 6 (lex): the cursor's next. By the verifier.
-/
import Derived.Test.YtmgohahjocdeeaaDoorTNxt
set_option linter.unusedVariables false
namespace Go.Proofs.YtmgohahjocdeeaaDoor
open Go.RowKit

/-- Blocks of a call's own beside the cursor's. -/
structure Kp (W : World) (B : Nat) (K : List (Nat × Obj)) (w : World) : Prop where
  rows : ∀ x ∈ K, w.heap[x.1]? = some x.2
  ne : ∀ x ∈ K, x.1 ≠ B
  ge : ∀ x ∈ K, W.heap.size ≤ x.1
  sole : Sole B W w
  lt : B < w.heap.size

theorem Kp.more {W w w' : World} {B : Nat} {K : List (Nat × Obj)} (h : Kp W B K w) (hb : Below w.heap.size w w') : Kp W B K w' :=
  ⟨fun x hx => by rw [hb.block _ (heap_lt (h.rows x hx))]; exact h.rows x hx, h.ne, h.ge, h.sole.fresh hb, Nat.lt_of_lt_of_le h.lt hb.size⟩
theorem Kp.turn {W w w' : World} {B : Nat} {K : List (Nat × Obj)} (h : Kp W B K w) (hs : Sole B w w') : Kp W B K w' :=
  ⟨fun x hx => hs.keeps (h.rows x hx) (h.ne x hx), h.ne, h.ge, h.sole.trans hs, Nat.lt_of_lt_of_le h.lt hs.size⟩
theorem Kp.add {W w : World} {B : Nat} {K : List (Nat × Obj)} (h : Kp W B K w) (o : Obj) : Kp W B ((w.heap.size, o) :: K) (w.alloc o) := by
  have hb : Below w.heap.size w (w.alloc o) := (Below.refl _ _).alloc (Nat.le_refl _) _
  have h' := h.more hb
  refine ⟨fun x hx => ?_, fun x hx => ?_, fun x hx => ?_, h'.sole, h'.lt⟩
  · rcases List.mem_cons.1 hx with rfl | hx
    · exact heap_alloc_new w o
    · exact h'.rows x hx
  · rcases List.mem_cons.1 hx with rfl | hx
    · have := h.lt; show w.heap.size ≠ B; omega
    · exact h.ne x hx
  · rcases List.mem_cons.1 hx with rfl | hx
    · exact h.sole.size
    · exact h.ge x hx
theorem Kp.sub {W w : World} {B : Nat} {K K' : List (Nat × Obj)} (h : Kp W B K w) (hs : ∀ x ∈ K', x ∈ K) : Kp W B K' w :=
  ⟨fun x hx => h.rows x (hs x hx), fun x hx => h.ne x (hs x hx), fun x hx => h.ge x (hs x hx), h.sole, h.lt⟩
theorem Kp.put {W w : World} {B g : Nat} {K : List (Nat × Obj)} {old : Array Value} {t : TypeId} (h : Kp W B ((g, .cells old t (0, 0)) :: K) w) (hg : ∀ x ∈ K, x.1 ≠ g) (ds : Array Value) : Kp W B ((g, .cells ds t (0, 0)) :: K) (w.setRow g ds) := by
  have hgr := h.rows _ (List.mem_cons_self ..)
  refine ⟨fun x hx => ?_, fun x hx => ?_, fun x hx => ?_, h.sole.own (h.ge _ (List.mem_cons_self ..)) _, by simpa using h.lt⟩
  · rcases List.mem_cons.1 hx with rfl | hx
    · exact setRow_heap _ _ _ _ _ _ hgr
    · exact (setRow_other w g x.1 ds (hg x hx)).trans (h.rows x (List.mem_cons_of_mem _ hx))
  · rcases List.mem_cons.1 hx with rfl | hx
    · exact h.ne (g, .cells old t (0, 0)) (List.mem_cons_self ..)
    · exact h.ne x (List.mem_cons_of_mem _ hx)
  · rcases List.mem_cons.1 hx with rfl | hx
    · exact h.ge (g, .cells old t (0, 0)) (List.mem_cons_self ..)
    · exact h.ge x (List.mem_cons_of_mem _ hx)
theorem Kp.size {W w : World} {B : Nat} {K : List (Nat × Obj)} (h : Kp W B K w) : ∀ x ∈ K, x.1 < w.heap.size := fun x hx => heap_lt (h.rows x hx)
theorem Kp.cell {W w : World} {B g : Nat} {K : List (Nat × Obj)} {cs : Array Value} {t : TypeId} (h : Kp W B K w) (hx : (g, Obj.cells cs t (0, 0)) ∈ K) (i : Nat) : w.cell? ⟨g, i, none⟩ = cs[i]? := cell_of_row _ _ i _ _ _ (h.rows _ hx)
theorem Kp.free {W w : World} {B g : Nat} {K : List (Nat × Obj)} {cs : Array Value} {t : TypeId} (h : Kp W B K w) (hx : (g, Obj.cells cs t (0, 0)) ∈ K) (i : Nat) : w.frozen? ⟨g, i, none⟩ = false := frozen_of_row _ _ i _ _ (h.rows _ hx)
/-- Two cells of a token are written. -/
theorem Kp.two {W w : World} {B g : Nat} {K : List (Nat × Obj)} {k t v c0 d0 : Value} {ty : TypeId} (h : Kp W B ((g, .cells #[k, t, v, c0, d0] ty (0, 0)) :: K) w) (hg : ∀ x ∈ K, x.1 ≠ g) (c d : Value) :
    Kp W B ((g, .cells #[k, t, v, c, d] ty (0, 0)) :: K) ((w.setCell ⟨g, 3, none⟩ c).setCell ⟨g, 4, none⟩ d) ∧ Kp W B ((g, .cells #[k, t, v, c, d] ty (0, 0)) :: K) ((w.setCell ⟨g, 4, none⟩ d).setCell ⟨g, 3, none⟩ c) := by
  have hgr := h.rows _ (List.mem_cons_self ..)
  have hge := h.ge _ (List.mem_cons_self ..)
  have r1 : ((w.setCell ⟨g, 3, none⟩ c).setCell ⟨g, 4, none⟩ d).heap[g]? = some (.cells #[k, t, v, c, d] ty (0, 0)) := by
    rw [heap_setCell_same _ _ _ _ _ _ (heap_setCell_same _ _ _ _ _ _ hgr)]
    rfl
  have r2 : ((w.setCell ⟨g, 4, none⟩ d).setCell ⟨g, 3, none⟩ c).heap[g]? = some (.cells #[k, t, v, c, d] ty (0, 0)) := by
    rw [heap_setCell_same _ _ _ _ _ _ (heap_setCell_same _ _ _ _ _ _ hgr)]
    rfl
  have key : ∀ w', w'.heap[g]? = some (.cells #[k, t, v, c, d] ty (0, 0)) → (∀ j, j ≠ g → w'.heap[j]? = w.heap[j]?) → Sole B W w' → B < w'.heap.size → Kp W B ((g, .cells #[k, t, v, c, d] ty (0, 0)) :: K) w' := by
    intro w' hr ho hs hl
    refine ⟨fun x hx => ?_, fun x hx => ?_, fun x hx => ?_, hs, hl⟩
    · rcases List.mem_cons.1 hx with rfl | hx
      · exact hr
      · exact (ho x.1 (hg x hx)).trans (h.rows x (List.mem_cons_of_mem _ hx))
    · rcases List.mem_cons.1 hx with rfl | hx
      · exact h.ne (g, .cells #[k, t, v, c0, d0] ty (0, 0)) (List.mem_cons_self ..)
      · exact h.ne x (List.mem_cons_of_mem _ hx)
    · rcases List.mem_cons.1 hx with rfl | hx
      · exact hge
      · exact h.ge x (List.mem_cons_of_mem _ hx)
  refine ⟨key _ r1 (fun j hj => ?_) ((h.sole.ownCell hge 3 c).ownCell hge 4 d) (by simpa using h.lt), key _ r2 (fun j hj => ?_) ((h.sole.ownCell hge 4 d).ownCell hge 3 c) (by simpa using h.lt)⟩
  · rw [heap_setCell_other _ ⟨g, 4, none⟩ j _ hj, heap_setCell_other _ ⟨g, 3, none⟩ j _ hj]
  · rw [heap_setCell_other _ ⟨g, 3, none⟩ j _ hj, heap_setCell_other _ ⟨g, 4, none⟩ j _ hj]

theorem size2P : (Tryd.prog.info? 59).map (·.size) = some 2 := by kernel_rfl
theorem pla_one (a b : Int) : (#[.int .i64 a, .int .i64 b] : Array Value).all (·.oneCell') = true := by
  simp only [List.all_toArray, List.all_cons, List.all_nil]
  rfl

/-- What next answers. -/
def NxP (W : World) (B : Nat) (s : ByteArray) (l : List Nat) (q : Nat) (R : Rd) (e : Ending) (w' : World) : Prop :=
  (R.code = 0 → e = .returned (.tuple #[.agg (tokA ⟨R.kind, R.text, R.val, (placeV l q).1, (placeV l q).2⟩), .agg (faultA 0 0 0)]) ∧ Cur w' B (placeV l (q + R.len)) s (q + R.len)) ∧
  (R.code ≠ 0 → e = .returned (.tuple #[.agg zeroT, .agg (faultA R.code (placeV l q).1 (placeV l q).2)])) ∧ Sole B W w'

end Go.Proofs.YtmgohahjocdeeaaDoor
