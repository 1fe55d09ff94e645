/-
  WORDS FOR MEMORY, of no layer: a slice that reads as bytes, a block known whole, what a call leaves of the memory, copy, bytes that came in, a law's last step. By the verifier.
-/
import Derived.Test.YthdagjlgfffpbaaGreatChecked
import Derived.WalkKit
import Derived.ProofKit
import Derived.OpenShut
import Derived.Lib.Hide
import Derived.Deep.QuietTactic
import Derived.BigQuiet
import Derived.Laws.Externs
import Derived.Deep.WholeRow
import Derived.Laws.Rows
import Derived.Laws.Tables
import Derived.Laws.CopyOwn
import Derived.OwnWalk
import Derived.Deep.RegionLaw
import Derived.Laws.OwnMore
import Derived.WideKeyArgs
import Derived.Carry
import Derived.Lib.ItoaMem
import Derived.Deep.Matrix
import Derived.Laws.BytesArg
import Derived.Laws.StructEq
set_option linter.unusedVariables false
namespace Go.Proofs.YthdagjlgfffpbaaGreat
open Go.RowKit

/-- The cells from an address on, where there are any. -/
def Seg (w : World) (A : Option Addr) (n : Nat) (f : Nat → Value) : Prop :=
  ∀ i, i < n → ∃ b o, A = some ⟨b, o, none⟩ ∧ b < w.heap.size ∧ w.cell? ⟨b, o + i, none⟩ = some (f i)

theorem Seg.below {w w' : World} {A : Option Addr} {n : Nat} {f : Nat → Value} (h : Seg w A n f) {B : Nat} (hB : w.heap.size ≤ B) (hb : Below B w w') : Seg w' A n f := by
  intro i hi
  obtain ⟨b, o, h1, h2, h3⟩ := h i hi
  refine ⟨b, o, h1, Nat.lt_of_lt_of_le h2 hb.size, ?_⟩
  rw [hb.cell (p := ⟨b, o + i, none⟩) (Nat.lt_of_lt_of_le h2 hB)]
  exact h3

theorem bcell {W w1 : World} (hb : Below W.heap.size W w1) : ∀ b o, b < W.heap.size → w1.cell? ⟨b, o, none⟩ = W.cell? ⟨b, o, none⟩ :=
  fun b o h => hb.cell (p := ⟨b, o, none⟩) h

theorem below_drewN {B : Nat} {a w : World} (h : Below B a w) (n : Nat) : Below B a (w.drewN n) := ⟨h.os, h.tape, h.output, h.size, h.block⟩

theorem bfrozen {W w1 : World} (hb : Below W.heap.size W w1) : ∀ b o, b < W.heap.size → w1.frozen? ⟨b, o, none⟩ = W.frozen? ⟨b, o, none⟩ :=
  fun b o h => hb.frozen (p := ⟨b, o, none⟩) h

/-- Bytes. -/
def Bs (l : List Nat) : Prop := ∀ x ∈ l, x < 256

theorem Bs.get {l : List Nat} (h : Bs l) (k : Nat) : l.getD k 0 < 256 := by
  by_cases hk : k < l.length
  · have : l.getD k 0 = l[k] := by simp [List.getD, hk]
    rw [this]; exact h _ (List.getElem_mem hk)
  · have : l.getD k 0 = 0 := by rw [List.getD, List.getElem?_eq_none (by omega)]; rfl
    omega
theorem Bs.append {l m : List Nat} (h : Bs l) (h' : Bs m) : Bs (l ++ m) := fun x hx => by
  rcases List.mem_append.1 hx with hx | hx
  · exact h x hx
  · exact h' x hx
theorem Bs.take {l : List Nat} (h : Bs l) (k : Nat) : Bs (l.take k) := fun x hx => h x (List.mem_of_mem_take hx)
theorem Bs.drop {l : List Nat} (h : Bs l) (k : Nat) : Bs (l.drop k) := fun x hx => h x (List.mem_of_mem_drop hx)

theorem zeros_bs (n : Nat) : Bs (List.replicate n 0) := fun x hx => by
  rw [List.eq_of_mem_replicate hx]; omega

/-- Numbers as values. -/
def V32 (n : Nat) : Value := .int .u32 (n : Int)
def V8 (n : Nat) : Value := .int .u8 (n : Int)

/-- The bytes that a slice holds. -/
def Bys (w : World) (A : Option Addr) (l : List Nat) : Prop := Seg w A l.length (fun i => V8 (l.getD i 0)) ∧ Bs l ∧ l.length ≤ maxLen

theorem Bys.below {w w' : World} {A : Option Addr} {l : List Nat} (h : Bys w A l) {B : Nat} (hB : w.heap.size ≤ B) (hb : Below B w w') : Bys w' A l := ⟨h.1.below hB hb, h.2⟩

theorem xor8 (a b : Nat) (ha : a < 256) (hb : b < 256) : bits .xor .u8 (a : Int) (b : Int) = ((a ^^^ b : Nat) : Int) := u8_xor_nat a b ha hb
theorem xor32 (a b : Nat) (ha : a < 4294967296) (hb : b < 4294967296) : bits .xor .u32 (a : Int) (b : Int) = ((a ^^^ b : Nat) : Int) := u32_xor_nat a b ha hb

/-- An array's cells by a function of the index. -/
def rowOf (n : Nat) (f : Nat → Value) : Array Value := ((List.range n).map f).toArray

theorem rowOf_size (n : Nat) (f : Nat → Value) : (rowOf n f).size = n := by simp [rowOf]
theorem rowOf_get {n i : Nat} (f : Nat → Value) (h : i < n) : (rowOf n f)[i]? = some (f i) := by
  simp [rowOf, h]
theorem rowOf_set {n i : Nat} (f : Nat → Value) (v : Value) (h : i < n) : (rowOf n f).setIfInBounds i v = rowOf n (fun j => if j = i then v else f j) := by
  apply Array.ext_getElem?
  intro j
  rw [Array.getElem?_setIfInBounds, rowOf_size]
  by_cases hji : i = j
  · subst hji
    rw [if_pos rfl, if_pos h, rowOf_get _ h, if_pos rfl]
  · rw [if_neg hji]
    by_cases hj : j < n
    · rw [rowOf_get _ hj, rowOf_get _ hj, if_neg (fun e => hji e.symm)]
    · rw [Array.getElem?_eq_none (by rw [rowOf_size]; omega), Array.getElem?_eq_none (by rw [rowOf_size]; omega)]
theorem rowOf_congr {n : Nat} {f g : Nat → Value} (h : ∀ i, i < n → f i = g i) : rowOf n f = rowOf n g := by
  unfold rowOf
  congr 1
  exact List.map_congr_left fun i hi => h i (List.mem_range.1 hi)
theorem rowOf_one {n : Nat} {f : Nat → Value} (h : ∀ i, i < n → (f i).oneCell' = true) : (rowOf n f).all (·.oneCell') = true := by
  unfold rowOf
  simp only [List.all_toArray, List.all_map, List.all_eq_true, List.mem_range]
  exact h

/-- A block that holds an array. -/
def Row (w : World) (B : Nat) (T : TypeId) (n : Nat) (f : Nat → Value) : Prop := w.heap[B]? = some (.cells (rowOf n f) T (0, 0))

theorem Row.lt {w : World} {B : Nat} {T : TypeId} {n : Nat} {f : Nat → Value} (h : Row w B T n f) : B < w.heap.size := by
  unfold Row at h
  rcases Nat.lt_or_ge B w.heap.size with hlt | hge
  · exact hlt
  · rw [Array.getElem?_eq_none hge] at h; cases h
theorem Row.cell {w : World} {B : Nat} {T : TypeId} {n : Nat} {f : Nat → Value} (h : Row w B T n f) {i : Nat} (hi : i < n) : w.cell? ⟨B, i, none⟩ = some (f i) := by
  rw [cell_of_row w B i _ _ _ h, rowOf_get _ hi]
theorem Row.free {w : World} {B : Nat} {T : TypeId} {n : Nat} {f : Nat → Value} (h : Row w B T n f) (i : Nat) : w.frozen? ⟨B, i, none⟩ = false := frozen_of_row w B i _ _ h
theorem Row.set {w : World} {B : Nat} {T : TypeId} {n : Nat} {f : Nat → Value} (h : Row w B T n f) {i : Nat} (hi : i < n) (v : Value) :
    Row (w.setCell ⟨B, i, none⟩ v) B T n (fun j => if j = i then v else f j) := by
  unfold Row
  rw [heap_setCell_same w B i _ _ v h, rowOf_set f v hi]
theorem Row.setOther {w : World} {B : Nat} {T : TypeId} {n : Nat} {f : Nat → Value} (h : Row w B T n f) {a : Addr} (ha : B ≠ a.block) (v : Value) : Row (w.setCell a v) B T n f := by
  unfold Row
  rw [heap_setCell_other w a B v ha]
  exact h
theorem Row.alloc {w : World} {B : Nat} {T : TypeId} {n : Nat} {f : Nat → Value} (h : Row w B T n f) (o : Obj) : Row (w.alloc o) B T n f := by
  unfold Row
  rw [Below.heap_alloc w o B h.lt]
  exact h
theorem Row.congr {w : World} {B : Nat} {T : TypeId} {n : Nat} {f g : Nat → Value} (h : Row w B T n f) (hg : ∀ i, i < n → f i = g i) : Row w B T n g := by
  unfold Row
  rw [← rowOf_congr hg]
  exact h
theorem Row.new (w : World) (T : TypeId) (n : Nat) (f : Nat → Value) : Row (w.alloc (.cells (rowOf n f) T)) w.heap.size T n f := heap_alloc_new w _
theorem Row.drewN {w : World} {B : Nat} {T : TypeId} {n : Nat} {f : Nat → Value} (h : Row w B T n f) (k : Nat) : Row (w.drewN k) B T n f := h

theorem Row.setRow {w : World} {B : Nat} {T : TypeId} {n : Nat} {f : Nat → Value} (h : Row w B T n f) (g : Nat → Value) : Row (w.setRow B (rowOf n g)) B T n g :=
  setRow_heap w B _ _ T _ h
theorem Row.setRowOther {w : World} {B : Nat} {T : TypeId} {n : Nat} {f : Nat → Value} (h : Row w B T n f) {g : Nat} (hg : B ≠ g) (cs : Array Value) : Row (w.setRow g cs) B T n f := by
  unfold Row
  rw [setRow_other w g B cs hg]
  exact h

theorem run_store_whole {P : Program} (w : World) (g : Nat) (t : TypeId) (old cs : Array Value) (hg : w.heap[g]? = some (.cells old t (0, 0))) (hl : old.size = cs.size) (h1 : cs.all (·.oneCell') = true) :
    (storeCells ⟨g, 0, none⟩ cs.toList 0).run P w = .ok () (w.setRow g cs) := by
  have := run_storeCells_from (P := P) g t cs.toList 0 old w hg (by simp; omega) (fun v hv => (Array.all_eq_true_iff_forall_mem.1 h1) v (by simpa using hv))
  simpa using this

theorem wpList_built {P : Program} {ops : Array Oper} {rest : List Oper} {o : Oper} {a : Act} {w : World} {Q : Exit → Act → World → Prop} (hg : o.guard = none) (t : TypeId) (i j : Nat) (x y : Operand) (ho : o.op = .build t #[(i, x), (j, y)])
    (vx vy : Value) (hx : a.eval x = vx) (hy : a.eval y = vy)
    (cells : Array Value) (hf : P.built t [(i, vx), (j, vy)] = some cells) (h : wpList P ops Q rest (a.put o.dst (.agg cells)) w) : wpList P ops Q (o :: rest) a w := by
  subst hx hy
  have e : (#[(i, x), (j, y)].map fun (i, x) => (i, a.eval x)).toList = [(i, a.eval x), (j, a.eval y)] := by simp
  refine wpList_build hg t _ ho (by rw [e, hf]; rfl) ?_
  rw [e, hf]
  exact h

theorem below_setRow {B : Nat} {a w : World} (h : Below B a w) {g : Nat} (hg : B ≤ g) (cs : Array Value) : Below B a (w.setRow g cs) :=
  ⟨h.os, h.tape, h.output, by simp; exact h.size, fun k hk => (setRow_other w g k cs (by omega)).trans (h.block k hk)⟩

/-- Of the blocks that there were, one alone may have turned. -/
structure Sole (B : Nat) (w w' : World) : Prop where
  os : w'.os = w.os
  tape : w'.tape = w.tape
  output : w'.output = w.output
  size : w.heap.size ≤ w'.heap.size
  block : ∀ k, k < w.heap.size → k ≠ B → w'.heap[k]? = w.heap[k]?

theorem Sole.refl (B : Nat) (w : World) : Sole B w w := ⟨rfl, rfl, rfl, Nat.le_refl _, fun _ _ _ => rfl⟩
theorem Sole.trans {B : Nat} {a b c : World} (h : Sole B a b) (k : Sole B b c) : Sole B a c :=
  ⟨k.os.trans h.os, k.tape.trans h.tape, k.output.trans h.output, Nat.le_trans h.size k.size, fun i hi hB => (k.block i (Nat.lt_of_lt_of_le hi h.size) hB).trans (h.block i hi hB)⟩
theorem Sole.setCell (B : Nat) (w : World) (i : Nat) (v : Value) : Sole B w (w.setCell ⟨B, i, none⟩ v) :=
  ⟨rfl, rfl, rfl, by simp, fun k _ hk => heap_setCell_other w _ k v hk⟩
theorem Sole.of_below {B N : Nat} {w w' : World} (h : Below w.heap.size w w') : Sole B w w' := ⟨h.os, h.tape, h.output, h.size, fun k hk _ => h.block k hk⟩
theorem Sole.below {B : Nat} {N : Nat} {w w' : World} (h : Sole B w w') (hN : N ≤ B) (hs : N ≤ w.heap.size) : Below N w w' :=
  ⟨h.os, h.tape, h.output, h.size, fun k hk => h.block k (by omega) (by omega)⟩
theorem Sole.row {B : Nat} {w w' : World} (h : Sole B w w') {g : Nat} {T : TypeId} {n : Nat} {f : Nat → Value} (hr : Row w g T n f) (hg : g ≠ B) : Row w' g T n f := by
  unfold Row
  rw [h.block g hr.lt hg]
  exact hr

theorem Sole.drew {B : Nat} {a w : World} (h : Sole B a w) : Sole B a w.drew := ⟨h.os, h.tape, h.output, h.size, h.block⟩

theorem Bys.sole {w w' : World} {A : Option Addr} {l : List Nat} {B : Nat} (h : Bys w A l) (hs : Sole B w w') (hne : ∀ a, A = some a → a.block ≠ B) : Bys w' A l := by
  refine ⟨fun i hi => ?_, h.2⟩
  obtain ⟨b, o, hA, hb, hc⟩ := h.1 i hi
  refine ⟨b, o, hA, Nat.lt_of_lt_of_le hb hs.size, ?_⟩
  rw [World.cell?_of_block (w := w) (a := ⟨b, o + i, none⟩) (hs.block b hb (hne _ hA))]
  exact hc

theorem Sole.setRow (g : Nat) (w : World) (cs : Array Value) : Sole g w (w.setRow g cs) :=
  ⟨rfl, rfl, rfl, by simp, fun k _ hk => setRow_other w g k cs hk⟩

/-- What a copy asks: the destination lies in a row that is known, the source's cells are known where there are any. -/
structure CopyAsk (w : World) (dp sp : Option Addr) (dLen sLen g off : Nat) (cur : List Value) (t : TypeId) (cs : List Value) : Prop where
  row : w.heap[g]? = some (.cells cur.toArray t (0, 0))
  count : cs.length = Nat.min sLen dLen
  place : 0 < cs.length → dp = some ⟨g, off, none⟩ ∧ ∃ ad, sp = some ad ∧ ∀ j v, cs[j]? = some v → w.cell? (ad.add j) = some v
  fits : off + cs.length ≤ cur.length
  one : ∀ v ∈ cs, v.oneCell' = true

def CopyOut (w w' : World) (g off : Nat) (cur : List Value) (t : TypeId) (cs : List Value) : Prop :=
  w'.heap[g]? = some (.cells (splice cur off cs).toArray t (0, 0)) ∧ Sole g w w' ∧ w'.heap.size = w.heap.size

theorem copy_runs {P : Program} {w : World} (dT sT ty elem : TypeId) (hu : P.underlying dT = some (.slice elem)) (hsz : (P.info? elem).map (·.size) = some 1)
    (dp sp : Option Addr) (dLen dCap sLen sCap g off : Nat) (cur : List Value) (t : TypeId) (cs : List Value) (h : CopyAsk w dp sp dLen sLen g off cur t cs) :
    ∃ w', CopyOut w w' g off cur t cs ∧ (Builtin.copy_ #[dT, sT] ty #[.slice dp dLen dCap, .slice sp sLen sCap]).run P w = .ok (goInt cs.length) w' := by
  by_cases h0 : cs.length = 0
  · obtain rfl : cs = [] := List.eq_nil_of_length_eq_zero h0
    exact ⟨w, ⟨by simpa [splice] using h.row, Sole.refl _ _, rfl⟩, run_copy_none (P := P) w dT sT ty elem dp sp dLen dCap sLen sCap hu hsz (by simpa using h.count.symm)⟩
  · obtain ⟨rfl, ad, rfl, hsrc⟩ := h.place (by omega)
    refine ⟨_, ⟨?_, Sole.setRow g w _, by simp⟩, run_copy_row P w dT sT ty elem g off dLen dCap ad sLen sCap cur.toArray t cs hu hsz h.row h.count hsrc (by simpa using h.fits) h.one⟩
    have := setRow_heap w g _ (cur.toArray.toList.take off ++ cs ++ cur.toArray.toList.drop (off + cs.length)).toArray t _ h.row
    simpa [splice, List.append_assoc] using this

theorem wpList_copy_sole {P : Program} {w : World} {ops : Array Oper} {rest : List Oper} {o : Oper} {a : Act} {Q : Exit → Act → World → Prop} (hgd : o.guard = none) (d s : Operand) (dT sT : TypeId)
    (ho : o.op = .call { callee := .builtin .copy, args := #[d, s], argTypes := #[dT, sT] }) (elem : TypeId) (hu : P.underlying dT = some (.slice elem)) (hsz : (P.info? elem).map (·.size) = some 1)
    (dp sp : Option Addr) (dLen dCap sLen sCap : Nat) (hd : a.eval d = .slice dp dLen dCap) (hs : a.eval s = .slice sp sLen sCap)
    (g off : Nat) (cur : List Value) (t : TypeId) (cs : List Value) (hask : CopyAsk w dp sp dLen sLen g off cur t cs)
    (h : ∀ w', CopyOut w w' g off cur t cs → wpList P ops Q rest (a.put o.dst (goInt cs.length)) w') : wpList P ops Q (o :: rest) a w := by
  refine wpList_plain hgd fun K hK => ?_
  obtain ⟨w', hout, hrun⟩ := copy_runs dT sT o.type elem hu hsz dp sp dLen dCap sLen sCap g off cur t cs hask
  unfold Oper.wp
  simp [execOp, ho, resolve, invoke, builtin, hd, hs, hrun, Result.andThen]
  exact hK _ _ (h w' hout)

/-- The same as one step of a region that draws. -/
theorem step_copy_sole {P : Program} {ops : Array Oper} {o : Oper} {a : Act} {w : World} {K : Act → World → Prop} {Q : Exit → Act → World → Prop} {E : Prop} (hgd : o.guard = none) (d s : Operand) (dT sT : TypeId)
    (ho : o.op = .call { callee := .builtin .copy, args := #[d, s], argTypes := #[dT, sT] }) (elem : TypeId) (hu : P.underlying dT = some (.slice elem)) (hsz : (P.info? elem).map (·.size) = some 1)
    (dp sp : Option Addr) (dLen dCap sLen sCap : Nat) (hd : a.eval d = .slice dp dLen dCap) (hs : a.eval s = .slice sp sLen sCap)
    (g off : Nat) (cur : List Value) (t : TypeId) (cs : List Value) (hask : CopyAsk w dp sp dLen sLen g off cur t cs)
    (h : ∀ w', CopyOut w w' g off cur t cs → K (a.put o.dst (goInt cs.length)) w') :
    if Region.wanted o (yielded ops a.tmps) = true then Oper.wp P o a w K Q else E := by
  have hw : Region.wanted o (yielded ops a.tmps) = true := by simp [Region.wanted, hgd]
  rw [if_pos hw]
  obtain ⟨w', hout, hrun⟩ := copy_runs dT sT o.type elem hu hsz dp sp dLen dCap sLen sCap g off cur t cs hask
  unfold Oper.wp
  simp [execOp, ho, resolve, invoke, builtin, hd, hs, hrun, Result.andThen]
  exact h w' hout

theorem bytes_one (l : List Nat) : ∀ v ∈ l.map V8, v.oneCell' = true := by
  intro v hv
  obtain ⟨x, -, rfl⟩ := List.mem_map.1 hv
  rfl

theorem Bys.cells {w : World} {A : Option Addr} {l : List Nat} (h : Bys w A l) (h0 : 0 < l.length) : ∃ ad, A = some ad ∧ ∀ (j : Nat) v, (l.map V8)[j]? = some v → w.cell? (ad.add j) = some v := by
  obtain ⟨b, o, rfl, hb, hc⟩ := h.1 0 h0
  refine ⟨_, rfl, fun j v hv => ?_⟩
  have hj : j < l.length := by
    rcases Nat.lt_or_ge j l.length with hj | hj
    · exact hj
    · rw [List.getElem?_eq_none (by simpa using hj)] at hv; cases hv
  obtain ⟨b', o', he, hb', hc'⟩ := h.1 j hj
  injection he with he
  injection he with h1 h2
  subst h1 h2
  have hadd : (⟨b, o, none⟩ : Addr).add j = ⟨b, o + j, none⟩ := by unfold Addr.add; split <;> simp_all
  rw [hadd, hc']
  rw [List.getElem?_map] at hv
  simp only [List.getD]
  cases hg : l[j]? with
  | none => rw [hg] at hv; cases hv
  | some x => rw [hg] at hv; simpa using hv

/-- A block that holds bytes. -/
def BRow (w : World) (B : Nat) (l : List Nat) : Prop := w.heap[B]? = some (.cells (l.map V8).toArray 5 (0, 0))

theorem bytes_row (l : List Nat) : (l.map V8).toArray = rowOf l.length (fun i => V8 (l.getD i 0)) := by
  apply Array.ext_getElem?
  intro j
  by_cases hj : j < l.length
  · rw [rowOf_get _ hj]
    simp [List.getD, hj]
  · rw [Array.getElem?_eq_none (xs := (l.map V8).toArray) (by simp; omega), Array.getElem?_eq_none (xs := rowOf _ _) (by rw [rowOf_size]; omega)]

theorem BRow.row {w : World} {B : Nat} {l : List Nat} (h : BRow w B l) : Row w B 5 l.length (fun i => V8 (l.getD i 0)) := by
  unfold BRow at h
  rw [bytes_row] at h
  exact h
theorem BRow.bys {w : World} {B : Nat} {l : List Nat} (h : BRow w B l) (hl : Bs l) (hm : l.length ≤ maxLen) : Bys w (some ⟨B, 0, none⟩) l :=
  ⟨fun i hi => ⟨B, 0, rfl, h.row.lt, by rw [Nat.zero_add]; exact h.row.cell hi⟩, hl, hm⟩
theorem BRow.below {w w' : World} {B : Nat} {l : List Nat} (h : BRow w B l) {N : Nat} (hB : B < N) (hb : Below N w w') : BRow w' B l := by
  unfold BRow
  rw [hb.block B hB]
  exact h

theorem info8 : (Tryz.prog.info? 5).map (fun i => (i.zero, i.size, i.bytes)) = some (some (V8 0), 1, 1) := by kernel_rfl
theorem size8 : (Tryz.prog.info? 5).map (·.size) = some 1 := by kernel_rfl

/-- Bytes of the call's own. -/
def OwnB (w : World) (base : Nat) (v : Value) (l : List Nat) : Prop := w.ownsRow base 5 1 v l.length (l.map V8)

theorem grown_below {B : Nat} {w0 w w' : World} {v : Value} {l : List Nat} (h : Below B w0 w) (ho : OwnB w B v l) (hg : w.grownBy w' v.ownBlock) (hB : B ≤ w.heap.size) : Below B w0 w' :=
  h.grown hg hB fun k hk => (World.ownsRow.lt ho k hk).1

theorem OwnB.below {w w' : World} {base : Nat} {v : Value} {l : List Nat} (h : OwnB w base v l) (hb : Below w.heap.size w w') : OwnB w' base v l := by
  refine World.ownsRow.kept (row := none) h ⟨hb.os, hb.tape, hb.output, hb.size, fun k hk _ => hb.block k hk⟩ ?_
  cases hv : v.ownBlock with
  | none => exact Or.inl rfl
  | some k => exact Or.inr (by simp)

theorem OwnB.drewN {w : World} {base : Nat} {v : Value} {l : List Nat} (h : OwnB w base v l) (n : Nat) : OwnB (w.drewN n) base v l := h

/-- Such bytes are a slice that reads as a list. -/
theorem OwnB.shape {w : World} {base : Nat} {v : Value} {l : List Nat} (h : OwnB w base v l) (hl : Bs l) (hm : l.length ≤ maxLen) :
    ∃ A c, v = .slice A l.length c ∧ Bys w A l ∧ l.length ≤ c ∧ (∀ a, A = some a → a.block < w.heap.size ∧ base ≤ a.block) := by
  rcases h.2 with ⟨hv, hn⟩ | ⟨g, cap, cur, hv, hb, hg, hnc, hcm, hcs, htk⟩
  · have h0 : l = [] := List.eq_nil_of_length_eq_zero hn
    subst h0
    exact ⟨none, 0, hv, ⟨fun i hi => absurd hi (by simp), hl, hm⟩, Nat.le_refl _, fun a ha => by cases ha⟩
  · refine ⟨some ⟨g, 0, none⟩, cap, hv, ⟨fun i hi => ?_, hl, hm⟩, hnc, fun a ha => ?_⟩
    · have hlt : g < w.heap.size := by
        rcases Nat.lt_or_ge g w.heap.size with h1 | h1
        · exact h1
        · rw [Array.getElem?_eq_none h1] at hg; cases hg
      refine ⟨g, 0, rfl, hlt, ?_⟩
      subst hv
      rw [Nat.zero_add, World.ownsRow.cellAt h i (by omega)]
      simp [List.getD, hi]
    · injection ha with ha
      subst ha
      rcases Nat.lt_or_ge g w.heap.size with h1 | h1
      · exact ⟨h1, hb⟩
      · rw [Array.getElem?_eq_none h1] at hg; cases hg

/-- New bytes are handed back. -/
def NewB (w : World) (l : List Nat) (e : Ending) (w' : World) : Prop := ∃ B, e = .returned (.slice (some ⟨B, 0, none⟩) l.length l.length) ∧ BRow w' B l ∧ w.heap.size ≤ B ∧ Below w.heap.size w w'
/-- New bytes that may have room behind them. -/
def NewO (w : World) (l : List Nat) (e : Ending) (w' : World) : Prop := ∃ v, e = .returned v ∧ OwnB w' w.heap.size v l ∧ Below w.heap.size w w'

theorem own_empty (w : World) (base : Nat) : OwnB w base (.slice none 0 0) [] := World.ownsRow_nil w base _ _

theorem own_lit (w : World) : OwnB (w.alloc (.cells #[] 5)) w.heap.size (.slice (some ⟨w.heap.size, 0, none⟩) 0 0) [] :=
  World.ownsRow_lit w #[] 0 (Nat.le_refl _) (by unfold maxLen; omega) rfl

/-- The string of bytes. -/
def strB (l : List Nat) : ByteArray := strOfNums (l.map fun n : Nat => (n : Int))

theorem strB_list (l : List Nat) : (strB l).toList = l.map UInt8.ofNat := by
  rw [ByteArray.toList_eq]
  unfold strB
  show (strOfNums _).data.toList = _
  rw [strOfNums_data, List.map_map]
  rfl

theorem strB_inj {l m : List Nat} (hl : Bs l) (hm : Bs m) (h : (strB l).toList = (strB m).toList) : l = m := by
  rw [strB_list, strB_list] at h
  induction l generalizing m with
  | nil => cases m with
    | nil => rfl
    | cons y m => cases h
  | cons x l ih => cases m with
    | nil => cases h
    | cons y m =>
      simp only [List.map_cons, List.cons.injEq] at h
      have hx := hl x (List.mem_cons_self ..)
      have hy := hm y (List.mem_cons_self ..)
      have e : x = y := by
        have := congrArg UInt8.toNat h.1
        simp at this
        omega
      rw [e, ih (fun z hz => hl z (List.mem_cons_of_mem _ hz)) (fun z hz => hm z (List.mem_cons_of_mem _ hz)) h.2]

theorem bys_lit (w : World) (C : Array Value) (fr : Nat × Nat) (l : List Nat) (hC : C = (l.map V8).toArray) (hl : Bs l) (hm : l.length ≤ maxLen) : Bys (w.alloc (.cells C 5 fr)) (some ⟨w.heap.size, 0, none⟩) l := by
  refine ⟨fun i hi => ⟨w.heap.size, 0, rfl, by simp, ?_⟩, hl, hm⟩
  rw [cell_of_row _ _ _ _ _ _ (heap_alloc_new w _), hC, Nat.zero_add]
  simp [List.getD, hi]

/-- The parts that a slice of slices holds. -/
def Pts (w : World) (A : Option Addr) (ps : List (List Nat)) : Prop :=
  (∀ i, i < ps.length → ∃ b o Ai ci, A = some ⟨b, o, none⟩ ∧ w.cell? ⟨b, o + i, none⟩ = some (.slice Ai (ps.getD i []).length ci) ∧ Bys w Ai (ps.getD i [])) ∧ ps.length ≤ maxLen

open Go.ChangeShapes Go.WideShapes

section
variable {H : Type} {enc : TypeId × Value → H} {P : Program}
/-- The row's last step where the call has left all that was there as it was. -/
theorem post_below {f : Func} {s : ChangeSpec} {apart fresh handsOn again : Bool} {W W' : World} {args : Array Value} {v : Value} {ds gs : List (DataW H)} {before pa pv : List MemPlace}
    (hW : DataW.Whole enc P f.params.toList s.vars apart W args.toList ds gs before)
    (hr : ∀ (b : Nat) (sp : Nat → Bool) (hd : Bool), DataW.TrodAll enc P W' b sp hd f.resultTypes.toList (v.resultList f.resultTypes.size) (s.fn H (ds ++ gs)).results [])
    (ha : ∀ sp : Nat → Bool, (∀ p ∈ before, sp p.block = true) → DataW.TrodAll enc P W' 0 sp true f.params.toList args.toList (s.fn H (ds ++ gs)).args pa)
    (hv : ∀ sp : Nat → Bool, (∀ p ∈ before, sp p.block = true) → DataW.TrodVars enc P W' sp s.vars (s.fn H (ds ++ gs)).vars pv)
    (hps : before = pa ++ pv) (hb : Below W.heap.size W W')
    (hok : ∀ (j : Nat) (t : TypeId) (r : Value), f.resultTypes[j]? = some t → (v.resultList f.resultTypes.size)[j]? = some r → Value.okWide P W' .any 0 t r) :
    s.post enc P f apart fresh handsOn again W args v W' := by
  have old : ∀ p ∈ before, p.block < W.heap.size := fun p hp => hW.lt p hp
  have old' : ∀ p ∈ before, decide (p.block < W.heap.size) = true := fun p hp => by simp [old p hp]
  refine ⟨ds, gs, before, [], pa, pv, hW, hr _ _ _, ha _ old', hv _ old', World.keptBut_mono (fun p hp => ⟨hp, Or.inr ?_⟩) (hb.frame (· ∈ before)), fun _ => ?_⟩
  · rw [hps, List.mem_append] at hp
    exact hp
  · obtain ⟨_, _, _, _, _, hz, hn⟩ := hW
    refine ⟨hok, _, _, ([] ++ pa) ++ pv, ⟨[] ++ pa, pv, trodAll_append (ha _ (fun _ _ => rfl)) (hr _ _ _), hv _ (fun _ _ => rfl), rfl, fun b off hp => ?_, fun h => ?_⟩, fun p hp _ => ?_⟩
    · have hin : MemPlace.cell b off ∈ before := by rw [hps]; simpa using hp
      rw [hb.frozen (old _ hin)]
      exact hz b off hin
    · have h' := hn h
      rw [hps] at h'
      simpa using h'
    · rw [hps]
      simpa using hp

/-- What was read is read again where nothing of it has turned. -/
theorem trodAll_stays (hl : laidOutB P = true) {W W' : World} {sp : Nat → Bool} : ∀ (ts : List TypeId) (vs : List Value) (ds : List (DataW H)) (ps : List MemPlace),
    (∀ t ∈ ts, P.readableRec t = true ∧ t < P.types.size) → DataW.TrodAll enc P W 0 (fun _ => true) true ts vs ds ps → (∀ p ∈ ps, W.sameAt W' p) → (∀ p ∈ ps, sp p.block = true) →
    DataW.TrodAll enc P W' 0 sp true ts vs ds ps
  | [], vs, ds, ps, _, h, _, _ => by
    obtain ⟨rfl, rfl, rfl⟩ := trodAll_nil h
    exact trodAll_mk0
  | t :: ts, vs, ds, ps, hr, h, hs, hp => by
    obtain ⟨v, vs', d, ds', p, p', rfl, rfl, rfl, h0, h1⟩ := trodAll_cons h
    have hr0 := hr t (List.mem_cons_self ..)
    exact trodAll_cons_mk (WideElems.Trod_stays hl hr0.1 hr0.2 h0 (fun x hx => hs x (List.mem_append_left _ hx)) (fun x hx => hp x (List.mem_append_left _ hx)))
      (trodAll_stays hl ts vs' ds' p' (fun u hu => hr u (List.mem_cons_of_mem _ hu)) h1 (fun x hx => hs x (List.mem_append_right _ hx)) (fun x hx => hp x (List.mem_append_right _ hx)))

/-- A law that has returned true and has left all that was there as it was. -/
theorem law_post (hl : laidOutB P = true) {f : Func} {s : ChangeSpec} {W W' : World} {args : Array Value} {ds : List (DataW H)} {before : List MemPlace} {b : TypeId}
    (hv : s.vars = []) (hs : s.fn H (ds ++ []) = { results := [.lit (.bool true)], args := ds })
    (hr : (f.params.toList.all fun t => P.readableRec t && decide (t < P.types.size)) = true) (hb : f.resultTypes = #[b]) (hu : P.underlying b = some .bool)
    (hW : DataW.Whole enc P f.params.toList s.vars false W args.toList ds [] before) (hB : Below W.heap.size W W') :
    ∃ v, Ending.returned (.bool true) = .returned v ∧ s.post enc P f false true false false W args v W' := by
  have hW' := hW
  obtain ⟨p, q, hA, hV, rfl, hfz, hnd⟩ := hW
  rw [hv] at hV
  obtain ⟨-, rfl⟩ := trodVars_none hV
  have hr' : ∀ t ∈ f.params.toList, P.readableRec t = true ∧ t < P.types.size := fun t ht => by
    have := List.all_eq_true.1 hr t ht
    simpa using this
  refine ⟨_, rfl, post_below (pa := p) (pv := []) hW' (fun _ _ _ => ?_) (fun sp hsp => ?_) (fun _ _ => ?_) rfl hB (ok_one hb rfl (okWide_bool_mk hu _))⟩
  · rw [hs, hb]
    exact trodAll_cons_mk (shut_bool hu _) trodAll_mk0
  · rw [hs]
    exact trodAll_stays hl _ _ _ _ hr' hA (fun x hx => hB.same (hW'.lt x (by simpa using hx))) (fun x hx => hsp x (by simpa using hx))
  · rw [hs, hv]
    rfl

/-- Bytes that came in. -/
theorem open_bytes {t e : TypeId} {W : World} {v : Value} {d : DataW H} {p : List MemPlace} (ht : P.underlying t = some (.slice e)) (he : P.underlying e = some (.int .u8)) (hc : P.cellsOf e = 1)
    (hv : Value.okWide P W .any 0 t v) (h : DataW.Trod enc P W 0 (fun _ => true) true t v d p) : ∃ (A : Option Addr) (l : List Nat) (c : Nat), v = .slice A l.length c ∧ Bys W A l ∧ l.length ≤ c := by
  obtain ⟨a0, len, cap, rfl⟩ := okWide_slice ht hv
  obtain ⟨fuel, hf⟩ := h
  rcases open_ints ht he hc hf with ⟨hcs, -⟩ | ⟨a, len', cap', zs, hcs, -, hl, hm, hz, -, hcell, hwz⟩
  · simp [Value.cells] at hcs
    obtain ⟨rfl, rfl, rfl⟩ := hcs
    exact ⟨none, [], 0, rfl, ⟨fun i hi => absurd hi (by simp), fun z hz => absurd hz (by simp), by simp⟩, by simp⟩
  · simp [Value.cells] at hcs
    obtain ⟨rfl, rfl, rfl⟩ := hcs
    simp only [if_true] at hz
    have hlen : ((zs.take len).map Int.toNat).length = len := by rw [List.length_map, List.length_take]; omega
    have hwf : ∀ z ∈ zs, 0 ≤ z ∧ z < 256 := fun z hz' => by
      have := hwz z hz'
      simp [Lit.wf, IntKind.min, IntKind.max, IntKind.signed, IntKind.bits] at this
      omega
    refine ⟨some a, (zs.take len).map Int.toNat, cap, by rw [hlen], ⟨fun i hi => ?_, fun z hz' => ?_, by rw [hlen]; omega⟩, by rw [hlen]; omega⟩
    · rw [hlen] at hi
      have h0 := hcell i (by omega)
      obtain ⟨b, o, sp⟩ := a
      have hsp : sp = none := by
        have := hcell 0 (by omega)
        simpa [Addr.add] using World.cell?_spot this
      subst hsp
      rw [Lib.add_plain] at h0
      refine ⟨b, o, rfl, World.block_lt_of_cell? W _ h0, ?_⟩
      rw [h0]
      have hzi : i < zs.length := by omega
      have := hwf zs[i] (List.getElem_mem hzi)
      simp [V8, List.getD, hi, hzi]
      omega
    · obtain ⟨y, hy, rfl⟩ := List.mem_map.1 hz'
      have := hwf y (List.mem_of_mem_take hy)
      omega
end

theorem Pts.below {w w' : World} {A : Option Addr} {ps : List (List Nat)} (h : Pts w A ps) (hb : Below w.heap.size w w') : Pts w' A ps := by
  refine ⟨fun i hi => ?_, h.2⟩
  obtain ⟨b, o, Ai, ci, hA, hc, hy⟩ := h.1 i hi
  refine ⟨b, o, Ai, ci, hA, ?_, hy.below (Nat.le_refl _) hb⟩
  rw [hb.cell (p := ⟨b, o + i, none⟩) (block_lt_of_cell hc)]
  exact hc

section
variable {H : Type} {enc : TypeId × Value → H} {P : Program}
/-- Parts that came in. -/
theorem open_parts {t e q : TypeId} {W : World} {v : Value} {d : DataW H} {p : List MemPlace} (ht : P.underlying t = some (.slice e)) (he : P.underlying e = some (.slice q)) (hq : P.underlying q = some (.int .u8)) (ce : P.cellsOf e = 1) (cq : P.cellsOf q = 1)
    (hv : Value.okWide P W .any 0 t v) (h : DataW.Trod enc P W 0 (fun _ => true) true t v d p) : ∃ (A : Option Addr) (ps : List (List Nat)) (c : Nat), v = .slice A ps.length c ∧ Pts W A ps := by
  obtain ⟨a0, len, cap, rfl⟩ := okWide_slice ht hv
  obtain ⟨fuel, hf⟩ := h
  rcases Deep.open_int_rows ht he hq ce cq hf with ⟨hcs, -⟩ | ⟨a, len', cap', A, L, C, Z, hcs, -, hl, hm, -, hr⟩
  · simp [Value.cells] at hcs
    obtain ⟨rfl, rfl, rfl⟩ := hcs
    exact ⟨none, [], 0, rfl, fun i hi => absurd hi (by simp), by simp⟩
  · simp [Value.cells] at hcs
    obtain ⟨rfl, rfl, rfl⟩ := hcs
    have hlen : ((List.range len).map fun r => ((Z r).take (L r)).map Int.toNat).length = len := by simp
    refine ⟨some a, (List.range len).map fun r => ((Z r).take (L r)).map Int.toNat, cap, by rw [hlen], fun i hi => ?_, by rw [hlen]; omega⟩
    rw [hlen] at hi
    obtain ⟨hc, h1, h2, h3, h4, h5, h6⟩ := hr i (by omega)
    obtain ⟨b, o, sp⟩ := a
    have hsp : sp = none := by
      have := (hr 0 (by omega)).1
      simpa [Addr.add] using World.cell?_spot this
    subst hsp
    rw [Lib.add_plain] at hc
    have hg : ((List.range len).map fun r => ((Z r).take (L r)).map Int.toNat).getD i [] = ((Z i).take (L i)).map Int.toNat := by simp [List.getD, hi]
    have hgl : (((Z i).take (L i)).map Int.toNat).length = L i := by rw [List.length_map, List.length_take]; omega
    have hwf : ∀ z ∈ Z i, 0 ≤ z ∧ z < 256 := fun z hz' => by
      have := h4 z hz'
      simp [Lit.wf, IntKind.min, IntKind.max, IntKind.signed, IntKind.bits] at this
      omega
    rw [hg]
    refine ⟨b, o, A i, C i, rfl, by rw [hgl]; exact hc, fun j hj => ?_, fun x hx => ?_, by rw [hgl]; omega⟩
    · rw [hgl] at hj
      cases hA : A i with
      | none => have := h5 hA; omega
      | some a' =>
        obtain ⟨-, h7⟩ := h6 a' hA
        obtain ⟨b', o', sp'⟩ := a'
        have hsp' : sp' = none := by
          have := h7 0 (by omega)
          simpa [Addr.add] using World.cell?_spot this
        subst hsp'
        have h8 := h7 j (by omega)
        rw [Lib.add_plain] at h8
        refine ⟨b', o', rfl, World.block_lt_of_cell? W _ h8, ?_⟩
        rw [h8]
        have hzj : j < (Z i).length := by omega
        have := hwf (Z i)[j] (List.getElem_mem hzj)
        simp [V8, List.getD, hj, hzj]
        omega
    · obtain ⟨y, hy, rfl⟩ := List.mem_map.1 hx
      have := hwf y (List.mem_of_mem_take hy)
      omega
end

end Go.Proofs.YthdagjlgfffpbaaGreat
