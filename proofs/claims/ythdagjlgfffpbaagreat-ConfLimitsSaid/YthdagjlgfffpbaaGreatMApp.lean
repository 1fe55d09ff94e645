/-
  WORDS FOR MEMORY, of no layer, more: which blocks may have turned; append onto bytes of the call's own, at any type of bytes, with the block named; append of zero bytes; where a caller's bytes lie. By the verifier.
-/
import Derived.Test.YthdagjlgfffpbaaGreatMMem
import Derived.Lib.AppendZerosOnto
set_option linter.unusedVariables false
namespace Go.Proofs.YthdagjlgfffpbaaGreat
open Go.RowKit

/-- Of the blocks that there were, those of S alone may have turned. -/
structure Turn (S : Nat → Prop) (w w' : World) : Prop where
  os : w'.os = w.os
  tape : w'.tape = w.tape
  output : w'.output = w.output
  size : w.heap.size ≤ w'.heap.size
  block : ∀ k, k < w.heap.size → ¬ S k → w'.heap[k]? = w.heap[k]?

theorem Turn.refl (S : Nat → Prop) (w : World) : Turn S w w := ⟨rfl, rfl, rfl, Nat.le_refl _, fun _ _ _ => rfl⟩
theorem Turn.trans {S S' : Nat → Prop} {a b c : World} (h : Turn S a b) (k : Turn S' b c) (hs : ∀ i, i < a.heap.size → S' i → S i) : Turn S a c :=
  ⟨k.os.trans h.os, k.tape.trans h.tape, k.output.trans h.output, Nat.le_trans h.size k.size, fun i hi hB => (k.block i (Nat.lt_of_lt_of_le hi h.size) (fun h' => hB (hs i hi h'))).trans (h.block i hi hB)⟩
theorem Turn.mono {S S' : Nat → Prop} {a b : World} (h : Turn S a b) (hs : ∀ i, i < a.heap.size → S i → S' i) : Turn S' a b :=
  ⟨h.os, h.tape, h.output, h.size, fun i hi hB => h.block i hi (fun h' => hB (hs i hi h'))⟩
theorem Turn.of_below {S : Nat → Prop} {w w' : World} (h : Below w.heap.size w w') : Turn S w w' := ⟨h.os, h.tape, h.output, h.size, fun k hk _ => h.block k hk⟩
theorem Turn.below {S : Nat → Prop} {N : Nat} {w w' : World} (h : Turn S w w') (hN : ∀ k, S k → N ≤ k) (hs : N ≤ w.heap.size) : Below N w w' :=
  ⟨h.os, h.tape, h.output, h.size, fun k hk => h.block k (by omega) (fun h' => by have := hN k h'; omega)⟩
theorem Turn.setCell {S : Nat → Prop} {a w : World} {B i : Nat} (h : Turn S a w) (hS : S B) (v : Value) : Turn S a (w.setCell ⟨B, i, none⟩ v) :=
  ⟨h.os, h.tape, h.output, by simpa using h.size, fun k hk hn => (heap_setCell_other w _ k v (fun e => hn (by rw [e]; exact hS))).trans (h.block k hk hn)⟩
theorem Turn.drew {S : Nat → Prop} {a w : World} (h : Turn S a w) : Turn S a w.drew := ⟨h.os, h.tape, h.output, h.size, h.block⟩
theorem Turn.of_grown {w w' : World} {g : Option Nat} (h : w.grownBy w' g) : Turn (fun k => g = some k) w w' := ⟨h.os, h.tape, h.output, h.size, fun k hk hn => h.block k hk (fun e => hn e.symm)⟩
theorem Turn.row {S : Nat → Prop} {w w' : World} (h : Turn S w w') {g : Nat} {T : TypeId} {n : Nat} {f : Nat → Value} (hr : Row w g T n f) (hg : ¬ S g) : Row w' g T n f := by
  unfold Row
  rw [h.block g hr.lt hg]
  exact hr
theorem Turn.bys {S : Nat → Prop} {w w' : World} {A : Option Addr} {l : List Nat} (hs : Turn S w w') (h : Bys w A l) (hne : ∀ a, A = some a → ¬ S a.block) : Bys w' A l := by
  refine ⟨fun i hi => ?_, h.2⟩
  obtain ⟨b, o, hA, hb, hc⟩ := h.1 i hi
  refine ⟨b, o, hA, Nat.lt_of_lt_of_le hb hs.size, ?_⟩
  rw [World.cell?_of_block (w := w) (a := ⟨b, o + i, none⟩) (hs.block b hb (hne _ hA))]
  exact hc
theorem Turn.own {S : Nat → Prop} {w w' : World} {base : Nat} {v : Value} {l : List Nat} (hs : Turn S w w') (h : OwnB w base v l) (hne : ∀ k, v.ownBlock = some k → ¬ S k) : OwnB w' base v l := by
  refine ⟨h.1, ?_⟩
  rcases h.2 with h0 | ⟨g, cap, cur, hv, hb, hg, h1, h2, h3, h4⟩
  · exact .inl h0
  · have hlt : g < w.heap.size := (World.ownsRow.lt h g (by rw [hv]; rfl)).2
    exact .inr ⟨g, cap, cur, hv, hb, by rw [hs.block g hlt (hne g (by rw [hv]; rfl))]; exact hg, h1, h2, h3, h4⟩

theorem OwnB.lt {w : World} {base : Nat} {v : Value} {l : List Nat} (h : OwnB w base v l) {k : Nat} (hk : v.ownBlock = some k) : base ≤ k ∧ k < w.heap.size := World.ownsRow.lt h k hk
theorem OwnB.base {w : World} {base base' : Nat} {v : Value} {l : List Nat} (h : OwnB w base v l) (hb : base' ≤ base) : OwnB w base' v l := by
  refine ⟨h.1, ?_⟩
  rcases h.2 with h0 | ⟨g, cap, cur, hv, hbb, hr⟩
  · exact .inl h0
  · exact .inr ⟨g, cap, cur, hv, Nat.le_trans hb hbb, hr⟩

/-- The same, with the address named. -/
theorem OwnB.slice {w : World} {base : Nat} {v : Value} {l : List Nat} (h : OwnB w base v l) (hl : Bs l) (hm : l.length ≤ maxLen) :
    ∃ A c, v = .slice A l.length c ∧ Bys w A l ∧ l.length ≤ c ∧ (∀ a, A = some a → v.ownBlock = some a.block ∧ a.off = 0 ∧ a.spot = none) ∧ (A = none → c = 0) := by
  obtain ⟨A, c, hv, hy, hc, -⟩ := h.shape hl hm
  refine ⟨A, c, hv, hy, hc, fun a ha => ?_, fun ha => ?_⟩
  · subst ha
    refine ⟨by rw [hv]; rfl, ?_⟩
    rcases h.2 with ⟨h0, -⟩ | ⟨g, cap, cur, hg, -⟩
    · rw [hv] at h0; cases h0
    · rw [hv] at hg; injection hg with hg; injection hg with hg; subst hg; exact ⟨rfl, rfl⟩
  · subst ha
    rcases h.2 with ⟨h0, -⟩ | ⟨g, cap, cur, hg, -⟩
    · rw [hv] at h0; injection h0
    · rw [hv] at hg; cases hg

/-- append onto bytes of the call's own, at any type of bytes: the new value lies where the old one lay, or in a new block. -/
theorem append_runs_t {w : World} (t ty : TypeId) (ht : Tryz.prog.underlying t = some (.slice 5)) (base : Nat) (v : Value) (l : List Nat) (ho : OwnB w base v l) (A : Option Addr) (m : List Nat) (c : Nat) (hm : Bys w A m) (hlen : l.length + m.length ≤ 1000000) (hbase : base ≤ w.heap.size) :
    ∃ v' w', (Builtin.append_ #[t, t] ty #[v, .slice A m.length c]).run Tryz.prog w = .ok v' w' ∧ OwnB w' base v' (l ++ m) ∧ w.grownBy w' v.ownBlock ∧ (v'.ownBlock = v.ownBlock ∨ v'.ownBlock = some w.heap.size) := by
  obtain ⟨i, h2, h3, h4, h5⟩ := info_parts info8
  by_cases h0 : m.length = 0
  · have hm0 : m = [] := List.eq_nil_of_length_eq_zero h0
    subst hm0
    rw [List.append_nil]
    refine ⟨v, w, ?_, ho, World.grownBy.refl w _, .inl rfl⟩
    cases A with
    | none =>
      rcases ho.2 with ⟨hv, hn⟩ | ⟨g, cap, cur, hv, -, -, hnc, -⟩
      · rw [hv]
        simp [Builtin.append_, run_underlying ht, sizeOf, typeInfo, h2, Builtin.lenOf, Builtin.firstCells]
      · rw [hv]
        simp [Builtin.append_, run_underlying ht, sizeOf, typeInfo, h2, Builtin.lenOf, Builtin.firstCells, hnc, storeCells]
    | some a =>
      have hl : (loadCells a 0).run Tryz.prog w = .ok (([] : List Int).map (Value.int .u8)).toArray w := by simpa using run_loadCells_list (P := Tryz.prog) w a [] (by simp)
      rcases ho.2 with ⟨hv, hn⟩ | ⟨g, cap, cur, hv, -, -, hnc, -⟩
      · rw [hv]
        simp [Builtin.append_, run_underlying ht, sizeOf, typeInfo, h2, Builtin.lenOf, Builtin.firstCells, hl]
      · rw [hv]
        simp [Builtin.append_, run_underlying ht, sizeOf, typeInfo, h2, Builtin.lenOf, Builtin.firstCells, hnc, storeCells, hl]
  · obtain ⟨ad, rfl, hc⟩ := hm.cells (by omega)
    obtain ⟨v', w', hr, ho', hg, -⟩ := run_append_own (P := Tryz.prog) w base t ty 5 i (V8 0) 1 1 ht h2 h3 h4 h5 rfl (by omega) v l.length (l.map V8) ho ad m.length c (m.map V8) (by rw [List.length_map, Nat.mul_one]) hc (bytes_one m) (by unfold maxLen; omega) (by omega) hbase
    refine ⟨v', w', hr, ?_, hg, ?_⟩
    · unfold OwnB
      rw [List.length_append, List.map_append]
      exact ho'
    · rcases ho.2 with ⟨hv, hn⟩ | ⟨g, cap, cur, hv, hb, hgg, hnc, hcm, hcs, htk⟩
      · have hr2 := run_append_nil (P := Tryz.prog) w t ty 5 i (V8 0) ht h2 h3 ad m.length c (m.map V8) (by rw [List.length_map, h4, Nat.mul_one]) hc (by omega) (by omega) (by rw [h5]; omega)
        rw [hv] at hr
        rw [hr] at hr2
        injection hr2 with e1 e2
        right
        rw [e1]
        rfl
      · by_cases hroom : l.length + m.length ≤ cap
        · rw [hv] at ho hr
          obtain ⟨w2, hr2, -⟩ := run_append_fits (P := Tryz.prog) w base t ty 5 i 1 ht h2 h4 g l.length cap (l.map V8) ho ad m.length c (m.map V8) (by rw [List.length_map, Nat.mul_one]) hc (bytes_one m) hroom
          rw [hr] at hr2
          injection hr2 with e1 e2
          left
          rw [e1, hv]
          rfl
        · have holds := World.ownsRow.cells ho (g := g) (by rw [hv]; rfl)
          have hr2 := run_append_grow (P := Tryz.prog) w t ty 5 i (V8 0) ht h2 h3 ⟨g, 0, none⟩ l.length cap (l.map V8) (by rw [List.length_map, h4, Nat.mul_one]) holds ad m.length c (m.map V8) (by rw [List.length_map, h4, Nat.mul_one]) hc (by omega) (by omega) (growslice_fits (by omega) (by rw [h5]; omega))
          rw [hv] at hr
          rw [hr] at hr2
          injection hr2 with e1 e2
          right
          rw [e1]
          rfl

theorem wpList_append_t (t : TypeId) (ht : Tryz.prog.underlying t = some (.slice 5)) {w : World} {ops : Array Oper} {rest : List Oper} {o : Oper} {a : Act} {Q : Exit → Act → World → Prop} (hgd : o.guard = none) (s x : Operand)
    (hop : o.op = .call { callee := .builtin .append, args := #[s, x], argTypes := #[t, t] })
    (base : Nat) (v : Value) (l : List Nat) (hs : a.eval s = v) (ho : OwnB w base v l) (A : Option Addr) (m : List Nat) (k c : Nat) (hk : m.length = k) (hx : a.eval x = .slice A k c) (hm : Bys w A m) (hlen : l.length + k ≤ 1000000) (hbase : base ≤ w.heap.size)
    (h : ∀ v' w', OwnB w' base v' (l ++ m) → w.grownBy w' v.ownBlock → (v'.ownBlock = v.ownBlock ∨ v'.ownBlock = some w.heap.size) → wpList Tryz.prog ops Q rest (a.put o.dst v') w') : wpList Tryz.prog ops Q (o :: rest) a w := by
  subst hk
  refine wpList_plain hgd fun K hK => ?_
  obtain ⟨v', w', hrun, h1, h2, h3⟩ := append_runs_t t o.type ht base v l ho A m c hm hlen hbase
  unfold Oper.wp
  simp [execOp, hop, resolve, invoke, builtin, hs, hx, hrun, Result.andThen]
  exact hK _ _ (h v' w' h1 h2 h3)

theorem zeroCells8 (n : Nat) : Builtin.zeroCells (V8 0).cells n = ((List.replicate n 0).map V8).toArray := by
  apply Array.ext_getElem?
  intro j
  have hs : (Builtin.zeroCells (V8 0).cells n).size = n := by rw [size_zeroCells]; simp [V8, Value.cells]
  by_cases hj : j < n
  · rw [Array.getElem?_eq_getElem (by omega)]
    simp [Builtin.zeroCells, V8, Value.cells, hj, Nat.mod_one]
  · rw [Array.getElem?_eq_none (by omega), Array.getElem?_eq_none (by simp; omega)]

/-- append of n zero bytes (gc's append of a make). -/
theorem append_zeros_t {w : World} (t tn ty : TypeId) (ht : Tryz.prog.underlying t = some (.slice 5)) (htn : Tryz.prog.underlying tn = some (.int .i64)) (base : Nat) (v : Value) (l : List Nat) (ho : OwnB w base v l) (n : Nat) (hlen : l.length + n ≤ 1000000) (hbase : base ≤ w.heap.size) :
    ∃ v' w', (Builtin.append_ #[t, tn] ty #[v, .int .i64 (n : Int)]).run Tryz.prog w = .ok v' w' ∧ OwnB w' base v' (l ++ List.replicate n 0) ∧ w.grownBy w' v.ownBlock ∧ (v'.ownBlock = v.ownBlock ∨ v'.ownBlock = some w.heap.size) := by
  obtain ⟨i, h2, h3, h4, h5⟩ := info_parts info8
  have hw : IntKind.i64.wrap (n : Int) = n := by rw [IntKind.wrap_i64]; omega
  have hw0 : IntKind.i64.wrap 0 = 0 := by rw [IntKind.wrap_i64]; rfl
  have hneg : ¬ ((n : Int) < 0) := by omega
  have h48 : ¬ (281474976710656 < (n : Int) * (i.bytes : Int)) := by rw [h5]; omega
  by_cases h0 : n = 0
  · subst h0
    rw [List.replicate_zero, List.append_nil]
    refine ⟨v, w, ?_, ho, World.grownBy.refl w _, .inl rfl⟩
    rcases ho.2 with ⟨hv, hn⟩ | ⟨g, cap, cur, hv, -, -, hnc, -⟩
    · rw [hv]
      simp [Builtin.append_, run_underlying ht, run_underlying htn, sizeOf, typeInfo, h2, asInt, asIntOf, hw0]
    · rw [hv]
      simp [Builtin.append_, run_underlying ht, run_underlying htn, sizeOf, typeInfo, h2, asInt, asIntOf, hw0, hnc, storeCells]
  · have grown : ∀ (old : Nat) (row : Option Nat),
        (w.drew.alloc (.cells ((l.map V8).toArray ++ Builtin.zeroCells (V8 0).cells n ++ Builtin.zeroCells (V8 0).cells (grownCap w (l.length + n) old 5 - (l.length + n))) 5)).ownsRow base 5 1
          (.slice (some ⟨w.heap.size, 0, none⟩) (l.length + n) (grownCap w (l.length + n) old 5)) (l.length + n) ((l ++ List.replicate n 0).map V8) ∧
        w.grownBy (w.drew.alloc (.cells ((l.map V8).toArray ++ Builtin.zeroCells (V8 0).cells n ++ Builtin.zeroCells (V8 0).cells (grownCap w (l.length + n) old 5 - (l.length + n))) 5)) row := by
      intro old row
      have hge := grownCap_ge w (l.length + n) old 5
      have hcm : grownCap w (l.length + n) old 5 ≤ maxLen := grownCap_le_maxLen w (l.length + n) old _ (by unfold maxLen; omega)
      refine ⟨⟨by simp, .inr ⟨w.heap.size, _, _, rfl, hbase, heap_alloc_new w.drew _, hge, hcm, ?_, ?_⟩⟩, ⟨rfl, rfl, rfl, by simp, fun k hk _ => Below.heap_alloc w.drew _ k hk⟩⟩
      · simp only [Array.size_append, List.size_toArray, zeroCells8, List.length_map, List.length_replicate]
        omega
      · simp only [zeroCells8, Array.toList_append, List.map_append]
        rw [List.take_left']
        simp
    rcases ho.2 with ⟨hv, hn⟩ | ⟨g, cap, cur, hv, hb, hgg, hnc, hcm, hcs, htk⟩
    · have hl0 : l = [] := List.eq_nil_of_length_eq_zero hn
      subst hl0
      have hr := Lib.run_append_nil_zeros (P := Tryz.prog) w t tn ty 5 i (V8 0) .i64 .i64 ht htn h2 h3 n (by omega) (by omega) (by omega) (by rw [h5]; omega)
      have hgr := grown 0 (Value.ownBlock (.slice none 0 0))
      simp only [List.length_nil, Nat.zero_add, List.map_nil, Array.empty_append] at hgr
      refine ⟨_, _, by rw [hv]; exact hr, ?_, by rw [hv]; exact hgr.2, .inr rfl⟩
      have := hgr.1
      unfold OwnB
      simpa using this
    · by_cases hroom : l.length + n ≤ cap
      · have hst := run_storeCells_at Tryz.prog g l.length 5 ((List.replicate n 0).map V8) 0 cur w hgg (by simp; omega) (bytes_one _)
        simp only [Nat.add_zero] at hst
        have hns : ¬ (n * i.size = 0) := by rw [h4]; omega
        have hns2 : ¬ (i.size = 0) := by rw [h4]; omega
        refine ⟨.slice (some ⟨g, 0, none⟩) (l.length + n) cap, w.setRow g (cur.toList.take l.length ++ (List.replicate n 0).map V8 ++ cur.toList.drop (l.length + ((List.replicate n 0).map V8).length)).toArray, ?_, ?_, ?_, .inl (by rw [hv]; rfl)⟩
        · rw [hv]
          simp [Builtin.append_, run_underlying ht, run_underlying htn, sizeOf, typeInfo, zeroValue, h2, h3, asInt, asIntOf, hw, hneg, h48, hroom, h0, h4, Addr.add_lit]
          rw [zeroCells8]
          simp only [List.map_replicate, List.length_replicate] at hst
          simp only [List.map_replicate, List.append_assoc] at hst ⊢
          rw [hst]
          rfl
        · refine ⟨by simp, .inr ⟨g, cap, _, by simp, hb, setRow_heap w g cur _ _ _ hgg, by simpa using hroom, hcm, ?_, ?_⟩⟩
          · simp only [List.size_toArray, List.length_append, List.length_take, List.length_drop, Array.length_toList, List.length_map, List.length_replicate]
            omega
          · simp only [Nat.mul_one] at htk ⊢
            rw [htk, List.map_append]
            rw [List.take_left']
            simp
        · exact ⟨rfl, rfl, rfl, by simp, fun k _ hk => setRow_other w g k _ (fun e => hk (by rw [hv]; simp [Value.ownBlock, e]))⟩
      · have holds := World.ownsRow.cells ho (g := g) (by rw [hv]; rfl)
        have hold := run_firstCells_some (P := Tryz.prog) w.drew i.size l.length ⟨g, 0, none⟩ l.length cap (l.map V8) (by rw [List.length_map, h4, Nat.mul_one]) holds
        have hr := Lib.run_append_grow_zeros (P := Tryz.prog) w t tn ty 5 i (V8 0) .i64 .i64 ht htn h2 h3 (some ⟨g, 0, none⟩) l.length cap (l.map V8) hold n (by omega) (by omega) (by omega) (by omega) (by rw [h5]; omega) (growslice_fits (by omega) (by rw [h5]; omega))
        have hgr := grown cap v.ownBlock
        refine ⟨_, _, by rw [hv]; exact hr, ?_, hgr.2, .inr rfl⟩
        have := hgr.1
        unfold OwnB
        rw [List.length_append, List.length_replicate]
        exact this

theorem wpList_zeros_t (t tn : TypeId) (ht : Tryz.prog.underlying t = some (.slice 5)) (htn : Tryz.prog.underlying tn = some (.int .i64)) {w : World} {ops : Array Oper} {rest : List Oper} {o : Oper} {a : Act} {Q : Exit → Act → World → Prop} (hgd : o.guard = none) (s x : Operand)
    (hop : o.op = .call { callee := .builtin .append, args := #[s, x], argTypes := #[t, tn] })
    (base : Nat) (v : Value) (l : List Nat) (hs : a.eval s = v) (ho : OwnB w base v l) (n : Nat) (N : Int) (hN : N = (n : Int)) (hx : a.eval x = .int .i64 N) (hlen : l.length + n ≤ 1000000) (hbase : base ≤ w.heap.size)
    (h : ∀ v' w', OwnB w' base v' (l ++ List.replicate n 0) → w.grownBy w' v.ownBlock → (v'.ownBlock = v.ownBlock ∨ v'.ownBlock = some w.heap.size) → wpList Tryz.prog ops Q rest (a.put o.dst v') w') : wpList Tryz.prog ops Q (o :: rest) a w := by
  subst hN
  refine wpList_plain hgd fun K hK => ?_
  obtain ⟨v', w', hrun, h1, h2, h3⟩ := append_zeros_t t tn o.type ht htn base v l ho n hlen hbase
  unfold Oper.wp
  simp [execOp, hop, resolve, invoke, builtin, hs, hx, hrun, Result.andThen]
  exact hK _ _ (h v' w' h1 h2 h3)

end Go.Proofs.YthdagjlgfffpbaaGreat
