/-
  WORDS FOR RESULTS THAT LIE IN CELLS, of no layer: several results; rows that a call of its own writes. By the verifier.
-/
import Derived.Test.YtmgohahjocdeeaaDoorMMem
import Derived.Laws.ResultCell
set_option linter.unusedVariables false
namespace Go.Proofs.YtmgohahjocdeeaaDoor
open Go.RowKit

/-- A cell of a result is a struct that is loaded so. -/
def ResAt (w : World) (v : Value) (ty : TypeId) (cs : Array Value) : Prop := ∃ a, v = .pointer (some a) ∧ (loadVar ty a).run Tryd.prog w = .ok (.agg cs) w

theorem ResAt.mk1 {w : World} {ty : TypeId} {g : Nat} (t : TypeId) (cs : Array Value) (fr : Nat × Nat) (d : TypeDesc) (hg : w.heap[g]? = some (.cells cs t fr)) (hu : Tryd.prog.underlying ty = some d) (hd : (match d with | .struct _ | .array _ _ => true | _ => false) = true) (hi : (Tryd.prog.info? ty).map (·.size) = some cs.size) : ResAt w (.pointer (some ⟨g, 0, none⟩)) ty cs :=
  ⟨_, rfl, by cases d <;> first | exact run_loadVar_row w g t ty cs fr _ hg hu rfl hi | cases hd⟩

theorem results_ct {fn : Func} {p u : Tmp} {ty : TypeId} (h : fn.results = #[.cell p ty, .tmp u]) (tmps : Array Value) (w : World) (cs : Array Value) (x y : Value) (hy : tmps.getD p undef = y) (hx : tmps.getD u undef = x) (hp : ResAt w y ty cs) :
    (results fn tmps).run Tryd.prog w = .ok (.tuple #[.agg cs, x]) w := by
  obtain ⟨g, rfl, hl⟩ := hp
  have hv := hy
  rw [results_cell_tmp h, hv, hx]
  simp [asAddr, Result.andThen, hl]

theorem results_tc {fn : Func} {p u : Tmp} {ty : TypeId} (h : fn.results = #[.tmp u, .cell p ty]) (tmps : Array Value) (w : World) (cs : Array Value) (x y : Value) (hy : tmps.getD p undef = y) (hx : tmps.getD u undef = x) (hp : ResAt w y ty cs) :
    (results fn tmps).run Tryd.prog w = .ok (.tuple #[x, .agg cs]) w := by
  obtain ⟨g, rfl, hl⟩ := hp
  have hv := hy
  have hv' : tmps[p]?.getD undef = .pointer (some g) := by simpa using hv
  simp only [results, h]
  simp only [Array.getD_eq_getD_getElem?] at *
  simp [Result.andThen, hv', asAddr, hl, hx]

theorem results_cc {fn : Func} {p q : Tmp} {ty uy : TypeId} (h : fn.results = #[.cell p ty, .cell q uy]) (tmps : Array Value) (w : World) (cs ds : Array Value) (y z : Value) (hy : tmps.getD p undef = y) (hz : tmps.getD q undef = z) (hp : ResAt w y ty cs) (hq : ResAt w z uy ds) :
    (results fn tmps).run Tryd.prog w = .ok (.tuple #[.agg cs, .agg ds]) w := by
  obtain ⟨g, rfl, hl⟩ := hp
  have hv := hy
  obtain ⟨g2, rfl, hl2⟩ := hq
  have hv2 := hz
  have hv' : tmps[p]?.getD undef = .pointer (some g) := by simpa using hv
  have hv2' : tmps[q]?.getD undef = .pointer (some g2) := by simpa using hv2
  simp only [results, h]
  simp only [Array.getD_eq_getD_getElem?] at *
  simp [Sem.run_bind, Result.andThen, hv', hv2', asAddr, hl, hl2]

theorem results_ctc {fn : Func} {p q u : Tmp} {ty uy : TypeId} (h : fn.results = #[.cell p ty, .tmp u, .cell q uy]) (tmps : Array Value) (w : World) (cs ds : Array Value) (x y z : Value) (hy : tmps.getD p undef = y) (hx : tmps.getD u undef = x) (hz : tmps.getD q undef = z) (hp : ResAt w y ty cs) (hq : ResAt w z uy ds) :
    (results fn tmps).run Tryd.prog w = .ok (.tuple #[.agg cs, x, .agg ds]) w := by
  obtain ⟨g, rfl, hl⟩ := hp
  have hv := hy
  obtain ⟨g2, rfl, hl2⟩ := hq
  have hv2 := hz
  have hv' : tmps[p]?.getD undef = .pointer (some g) := by simpa using hv
  have hv2' : tmps[q]?.getD undef = .pointer (some g2) := by simpa using hv2
  simp only [results, h]
  simp only [Array.getD_eq_getD_getElem?] at *
  simp [Sem.run_bind, Result.andThen, hv', hv2', asAddr, hl, hl2, hx]

theorem results_ctt {fn : Func} {p u v : Tmp} {ty : TypeId} (h : fn.results = #[.cell p ty, .tmp u, .tmp v]) (tmps : Array Value) (w : World) (cs : Array Value) (x x2 y : Value) (hy : tmps.getD p undef = y) (hx : tmps.getD u undef = x) (hx2 : tmps.getD v undef = x2) (hp : ResAt w y ty cs) :
    (results fn tmps).run Tryd.prog w = .ok (.tuple #[.agg cs, x, x2]) w := by
  obtain ⟨g, rfl, hl⟩ := hp
  have hv := hy
  have hv' : tmps[p]?.getD undef = .pointer (some g) := by simpa using hv
  simp only [results, h]
  simp only [Array.getD_eq_getD_getElem?] at *
  simp [Result.andThen, hv', asAddr, hl, hx, hx2]

/-- A row that the call itself has made is written. -/
theorem Sole.own {B : Nat} {W w : World} (h : Sole B W w) {g : Nat} (hg : W.heap.size ≤ g) (cs : Array Value) : Sole B W (w.setRow g cs) :=
  ⟨h.os, h.tape, h.output, by simp; exact h.size, fun k hk hne => (setRow_other w g k cs (by omega)).trans (h.block k hk hne)⟩
theorem Sole.ownCell {B : Nat} {W w : World} (h : Sole B W w) {g : Nat} (hg : W.heap.size ≤ g) (i : Nat) (v : Value) : Sole B W (w.setCell ⟨g, i, none⟩ v) :=
  ⟨h.os, h.tape, h.output, by simp; exact h.size, fun k hk hne => (heap_setCell_other w ⟨g, i, none⟩ k v (show k ≠ g by omega)).trans (h.block k hk hne)⟩
theorem Sole.fresh {B : Nat} {W w w' : World} (h : Sole B W w) (hb : Below w.heap.size w w') : Sole B W w' := h.trans (Sole.of_below (B := B) (N := 0) hb)
/-- A row beside the one that turns stands. -/
theorem Sole.keeps {B : Nat} {W w : World} (h : Sole B W w) {g : Nat} {o : Obj} (hg : W.heap[g]? = some o) (hne : g ≠ B) : w.heap[g]? = some o := by
  have hlt : g < W.heap.size := by
    rcases Nat.lt_or_ge g W.heap.size with h1 | h1
    · exact h1
    · rw [Array.getElem?_eq_none h1] at hg; cases hg
  rw [h.block g hlt hne]
  exact hg

theorem rw_row (w : World) (C D : Array Value) (t u : TypeId) : ((w.alloc (.cells C t)).alloc (.cells D u)).heap[w.heap.size]? = some (.cells C t (0, 0)) :=
  (((Below.refl _ _).alloc (Nat.le_refl _) _).block w.heap.size (by simp)).trans (heap_alloc_new w _)
theorem rw_two (w : World) (C D : Array Value) (t u : TypeId) : ((w.alloc (.cells C t)).alloc (.cells D u)).heap[w.heap.size + 1]? = some (.cells D u (0, 0)) := by
  have h : (w.alloc (.cells C t)).heap.size = w.heap.size + 1 := by simp
  rw [← h]
  exact heap_alloc_new _ _
theorem rw_below (w : World) (C D : Array Value) (t u : TypeId) : Below w.heap.size w ((w.alloc (.cells C t)).alloc (.cells D u)) := by
  have hb1 : Below w.heap.size w (w.alloc (.cells C t)) := (Below.refl _ _).alloc (Nat.le_refl _) _
  exact hb1.alloc hb1.size _

end Go.Proofs.YtmgohahjocdeeaaDoor
