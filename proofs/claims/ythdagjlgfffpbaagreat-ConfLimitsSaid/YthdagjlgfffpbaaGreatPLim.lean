/-
  Layer 5 (conf): configurations of zero records that the law ConfLimits makes: their memory, their names, what Check answers. By the verifier.
-/
import Derived.Test.YthdagjlgfffpbaaGreatGChk
import Derived.Test.YthdagjlgfffpbaaGreatMRev
import Derived.Test.YthdagjlgfffpbaaGreatMCat
set_option linter.unusedVariables false
namespace Go.Proofs.YthdagjlgfffpbaaGreat
open Go.RowKit

def lxS : ByteArray := ⟨#[120]⟩
def lzP : PartR := ⟨0, ⟨#[]⟩, 0, 0⟩
def lxP : PartR := ⟨0, lxS, 0, 0⟩
def lzW : WinR := ⟨0, 0, 0⟩
def lzR : RegR := ⟨0, 0, 0, 0, false⟩
def lzT : PortR := ⟨0, 0, ⟨#[]⟩, false, false, 0⟩
def lxT : PortR := ⟨0, 0, lxS, false, false, 0⟩
def lzC : ChanC := ⟨⟨0, 0, []⟩, none, 0⟩

theorem zeros_P (n : Nat) : zerosV (.agg #[.int .u16 0, .string ⟨#[]⟩, .int .u64 0, .int .u64 0]) n = (List.replicate n lzP).flatMap partV := by
  rw [List.flatMap_replicate]; rfl
theorem zeros_W (n : Nat) : zerosV (.agg #[.int .u64 0, .int .u64 0, .int .u16 0]) n = (List.replicate n lzW).flatMap winV := by
  rw [List.flatMap_replicate]; rfl
theorem zeros_R (n : Nat) : zerosV (.agg #[.int .u64 0, .int .u64 0, .int .u16 0, .int .u8 0, .bool false]) n = (List.replicate n lzR).flatMap regV := by
  rw [List.flatMap_replicate]; rfl
theorem zeros_T (n : Nat) : zerosV (.agg #[.int .u16 0, .int .u16 0, .string ⟨#[]⟩, .bool false, .bool false, .int .u32 0]) n = (List.replicate n lzT).flatMap portV := by
  rw [List.flatMap_replicate]; rfl
theorem zeros_C (n : Nat) : zerosV (.agg #[.int .u16 0, .int .u16 0, .slice none 0 0]) n = (List.replicate n lzC).flatMap chanV := by
  rw [List.flatMap_replicate]; rfl
theorem zeros_U (n : Nat) : zerosV (.int .u16 0) n = (List.replicate n 0).map U16 := by
  unfold zerosV
  induction n with
  | zero => rfl
  | succ n ih => rw [List.replicate_succ, List.replicate_succ, List.flatten_cons, List.map_cons, ih]; rfl

/-- A row that is not empty begins at the head of its block. -/
theorem own_first {w : World} {base : Nat} {e : TypeId} {size n m c : Nat} {A : Option Addr} {cs : List Value} (h : OwnC w base e size (.slice A m c) n cs) (h0 : 0 < n) :
    ∃ g cur, A = some ⟨g, 0, none⟩ ∧ w.heap[g]? = some (.cells cur e (0, 0)) ∧ base ≤ g ∧ cur.toList.take (n * size) = cs := by
  rcases h.2 with ⟨-, hn⟩ | ⟨g, cap, cur, hv, hb, hg, h1, h2, h3, h4⟩
  · omega
  · injection hv with hv
    exact ⟨g, cur, hv, hg, hb, h4⟩

theorem own_cell {w : World} {base : Nat} {e : TypeId} {size n m c g : Nat} {cs : List Value} (h : OwnC w base e size (.slice (some ⟨g, 0, none⟩) m c) n cs) {i : Nat} {v : Value} (hv : cs[i]? = some v) :
    w.cell? ⟨g, i, none⟩ = some v ∧ w.frozen? ⟨g, i, none⟩ = false := by
  have hi : i < cs.length := (List.getElem?_eq_some_iff.1 hv).1
  have h0 : 0 < n := by
    have := h.1
    rcases Nat.eq_zero_or_pos n with h2 | h2
    · subst h2; omega
    · exact h2
  obtain ⟨g', cur, hA, hg, -, htk⟩ := own_first h h0
  injection hA with hA
  injection hA with hA
  subst hA
  refine ⟨?_, frozen_of_row _ _ _ _ _ hg⟩
  rw [cell_of_row w g i _ _ _ hg, ← Array.getElem?_toList]
  rw [← htk, List.getElem?_take] at hv
  split at hv
  · exact hv
  · cases hv

/-- A cell of such a row is written. -/
theorem own_put {w : World} {base : Nat} {e : TypeId} {size n m c g : Nat} {cs : List Value} (h : OwnC w base e size (.slice (some ⟨g, 0, none⟩) m c) n cs) (i : Nat) (x : Value) :
    OwnC (w.setCell ⟨g, i, none⟩ x) base e size (.slice (some ⟨g, 0, none⟩) m c) n (cs.set i x) := by
  refine ⟨by rw [List.length_set]; exact h.1, ?_⟩
  rcases h.2 with ⟨hv, -⟩ | ⟨g', cap, cur, hv, hb, hg, h1, h2, h3, h4⟩
  · cases hv
  · have hv' := hv
    injection hv' with hA
    injection hA with hA
    injection hA with hA
    subst hA
    refine .inr ⟨g, cap, _, hv, hb, heap_setCell_same _ _ _ _ _ _ hg, h1, h2, by rw [Array.size_setIfInBounds]; exact h3, ?_⟩
    rw [Array.toList_setIfInBounds, List.take_set, h4]

/-- The first i of n records have their names. -/
def namedP (i n : Nat) : List PartR := List.replicate i lxP ++ List.replicate (n - i) lzP
def namedT (i n : Nat) : List PortR := List.replicate i lxT ++ List.replicate (n - i) lzT
theorem namedP_len {i n : Nat} (h : i ≤ n) : (namedP i n).length = n := by simp [namedP]; omega
theorem namedT_len {i n : Nat} (h : i ≤ n) : (namedT i n).length = n := by simp [namedT]; omega
theorem namedP_zero (n : Nat) : namedP 0 n = List.replicate n lzP := by simp [namedP]
theorem namedT_zero (n : Nat) : namedT 0 n = List.replicate n lzT := by simp [namedT]
theorem namedP_all (n : Nat) : namedP n n = List.replicate n lxP := by simp [namedP]
theorem namedT_all (n : Nat) : namedT n n = List.replicate n lxT := by simp [namedT]
theorem rep_flat {α : Type} (f : α → List Value) (k : Nat) (x : α) (hx : (f x).length = k) (i : Nat) : ((List.replicate i x).flatMap f).length = i * k := by
  induction i with
  | zero => simp
  | succ i ih => rw [List.replicate_succ, List.flatMap_cons, List.length_append, ih, hx, Nat.succ_mul]; omega
theorem namedP_next {i n : Nat} (h : i < n) : ((namedP i n).flatMap partV)[i * 4 + 1]? = some (.string ⟨#[]⟩) ∧ ((namedP i n).flatMap partV).set (i * 4 + 1) (.string lxS) = (namedP (i + 1) n).flatMap partV := by
  have e1 : n - i = (n - (i + 1)) + 1 := by omega
  have e2 : List.replicate (n - i) lzP = lzP :: List.replicate (n - (i + 1)) lzP := by rw [e1, List.replicate_succ]
  have e3 : List.replicate (i + 1) lxP = List.replicate i lxP ++ [lxP] := List.replicate_succ'
  have hl := rep_flat partV 4 lxP rfl i
  unfold namedP
  rw [e2, e3]
  simp only [List.flatMap_append, List.flatMap_cons, List.flatMap_nil]
  constructor
  · rw [List.getElem?_append_right (by omega), hl, Nat.add_sub_cancel_left]
    rfl
  · rw [List.set_append_right _ _ (by omega), hl, Nat.add_sub_cancel_left]
    simp [partV, lzP, lxP]
theorem namedT_next {i n : Nat} (h : i < n) : ((namedT i n).flatMap portV)[i * 6 + 2]? = some (.string ⟨#[]⟩) ∧ ((namedT i n).flatMap portV).set (i * 6 + 2) (.string lxS) = (namedT (i + 1) n).flatMap portV := by
  have e1 : n - i = (n - (i + 1)) + 1 := by omega
  have e2 : List.replicate (n - i) lzT = lzT :: List.replicate (n - (i + 1)) lzT := by rw [e1, List.replicate_succ]
  have e3 : List.replicate (i + 1) lxT = List.replicate i lxT ++ [lxT] := List.replicate_succ'
  have hl := rep_flat portV 6 lxT rfl i
  unfold namedT
  rw [e2, e3]
  simp only [List.flatMap_append, List.flatMap_cons, List.flatMap_nil]
  constructor
  · rw [List.getElem?_append_right (by omega), hl, Nat.add_sub_cancel_left]
    rfl
  · rw [List.set_append_right _ _ (by omega), hl, Nat.add_sub_cancel_left]
    simp [portV, lzT, lxT]

theorem MSt.put1 {w W W' : World} {B : Nat} {K : List (Nat × Obj)} {c : ConfR} {q : CfgQ} (h : MSt w B K W c q) (l : List PartR) (hl : l.length = c.ps.length) (ho : OwnC W' w.heap.size 36 4 (.slice q.A1 c.ps.length q.c1) c.ps.length (l.flatMap partV))
    (ht0 : Turn (fun b => Value.ownBlock (.slice q.A1 c.ps.length q.c1) = some b) W W') : MSt w B K W' { c with ps := l } q := by
  have hsl : q.slots[0]? = some (blk q.A1) := rfl
  have ht : Turn (fun b => q.slots[0]? = some (some b)) W W' := ht0.mono fun b _ hb => by rw [own_blk] at hb; rw [hsl, hb]
  obtain ⟨h1, h2, h3, h4⟩ := h.turned ht
  refine ⟨⟨?_, ?_, ?_, ?_, ?_, h.own.ch, fun x hx => ?_, h.own.sep⟩, by rw [show cfgA { c with ps := l } q = cfgA c q by simp [cfgA, hl]]; exact h1, h2, h.ge, h3, h.out, h4⟩
  · rw [hl]
    exact ho
  · exact own_stay h.own.ws ht (sep_apart h.own.sep (i := 0) (j := 1) (by omega) rfl)
  · exact own_stay h.own.rs ht (sep_apart h.own.sep (i := 0) (j := 2) (by omega) rfl)
  · exact own_stay h.own.ts ht (sep_apart h.own.sep (i := 0) (j := 3) (by omega) rfl)
  · exact own_stay h.own.cs ht (sep_apart h.own.sep (i := 0) (j := 4) (by omega) rfl)
  · obtain ⟨n, hn', hx'⟩ := List.mem_iff_getElem.1 hx
    exact own_stay (h.own.ds x hx) ht (sep_apart h.own.sep (i := 0) (j := 5 + n) (by omega) (chan_slot hn' hx'))

theorem MSt.put4 {w W W' : World} {B : Nat} {K : List (Nat × Obj)} {c : ConfR} {q : CfgQ} (h : MSt w B K W c q) (l : List PortR) (hl : l.length = c.ts.length) (ho : OwnC W' w.heap.size 39 6 (.slice q.A4 c.ts.length q.c4) c.ts.length (l.flatMap portV))
    (ht0 : Turn (fun b => Value.ownBlock (.slice q.A4 c.ts.length q.c4) = some b) W W') : MSt w B K W' { c with ts := l } q := by
  have hsl : q.slots[3]? = some (blk q.A4) := rfl
  have ht : Turn (fun b => q.slots[3]? = some (some b)) W W' := ht0.mono fun b _ hb => by rw [own_blk] at hb; rw [hsl, hb]
  obtain ⟨h1, h2, h3, h4⟩ := h.turned ht
  refine ⟨⟨?_, ?_, ?_, ?_, ?_, h.own.ch, fun x hx => ?_, h.own.sep⟩, by rw [show cfgA { c with ts := l } q = cfgA c q by simp [cfgA, hl]]; exact h1, h2, h.ge, h3, h.out, h4⟩
  · exact own_stay h.own.ps ht (sep_apart h.own.sep (i := 3) (j := 0) (by omega) rfl)
  · exact own_stay h.own.ws ht (sep_apart h.own.sep (i := 3) (j := 1) (by omega) rfl)
  · exact own_stay h.own.rs ht (sep_apart h.own.sep (i := 3) (j := 2) (by omega) rfl)
  · rw [hl]
    exact ho
  · exact own_stay h.own.cs ht (sep_apart h.own.sep (i := 3) (j := 4) (by omega) rfl)
  · obtain ⟨n, hn', hx'⟩ := List.mem_iff_getElem.1 hx
    exact own_stay (h.own.ds x hx) ht (sep_apart h.own.sep (i := 3) (j := 5 + n) (by omega) (chan_slot hn' hx'))

/-- One name is written. -/
theorem MSt.nameP {w W : World} {B : Nat} {K : List (Nat × Obj)} {c : ConfR} {q : CfgQ} {i n g : Nat} (h : MSt w B K W { c with ps := namedP i n } q) (hi : i < n) (hA : q.A1 = some ⟨g, 0, none⟩) :
    W.cell? ⟨g, i * 4 + 1, none⟩ = some (.string ⟨#[]⟩) ∧ W.frozen? ⟨g, i * 4 + 1, none⟩ = false ∧ MSt w B K (W.setCell ⟨g, i * 4 + 1, none⟩ (.string lxS)) { c with ps := namedP (i + 1) n } q := by
  have ho := h.own.ps
  rw [hA] at ho
  obtain ⟨h1, h2⟩ := namedP_next hi
  obtain ⟨h3, h4⟩ := own_cell ho h1
  have hp := own_put ho (i * 4 + 1) (.string lxS)
  rw [h2] at hp
  refine ⟨h3, h4, ?_⟩
  have e1 : (namedP i n).length = n := namedP_len (by omega)
  have e2 : (namedP (i + 1) n).length = n := namedP_len (by omega)
  exact MSt.put1 h (namedP (i + 1) n) (by rw [e2]; exact e1.symm) (by rw [hA]; exact hp) (by rw [hA]; exact (Turn.setCell (S := fun b => b = g) (B := g) (Turn.refl _ _) rfl _).mono fun b _ hb => by rw [hb]; rfl)

theorem MSt.nameT {w W : World} {B : Nat} {K : List (Nat × Obj)} {c : ConfR} {q : CfgQ} {i n g : Nat} (h : MSt w B K W { c with ts := namedT i n } q) (hi : i < n) (hA : q.A4 = some ⟨g, 0, none⟩) :
    W.cell? ⟨g, i * 6 + 2, none⟩ = some (.string ⟨#[]⟩) ∧ W.frozen? ⟨g, i * 6 + 2, none⟩ = false ∧ MSt w B K (W.setCell ⟨g, i * 6 + 2, none⟩ (.string lxS)) { c with ts := namedT (i + 1) n } q := by
  have ho := h.own.ts
  rw [hA] at ho
  obtain ⟨h1, h2⟩ := namedT_next hi
  obtain ⟨h3, h4⟩ := own_cell ho h1
  have hp := own_put ho (i * 6 + 2) (.string lxS)
  rw [h2] at hp
  refine ⟨h3, h4, ?_⟩
  have e1 : (namedT i n).length = n := namedT_len (by omega)
  have e2 : (namedT (i + 1) n).length = n := namedT_len (by omega)
  exact MSt.put4 h (namedT (i + 1) n) (by rw [e2]; exact e1.symm) (by rw [hA]; exact hp) (by rw [hA]; exact (Turn.setCell (S := fun b => b = g) (B := g) (Turn.refl _ _) rfl _).mono fun b _ hb => by rw [hb]; rfl)

theorem append_new {w : World} {t e : TypeId} {z : Value} {size bytes : Nat} (T : ElemT t e z size bytes) (ty : TypeId) (base : Nat) (g : Addr) (n : Nat) (xs : List Value) (ho : OwnC w base e size (.slice (some g) n n) n xs) (A : Option Addr) (m c : Nat) (ms : List Value)
    (hm : Cells w A ms) (hml : ms.length = m * size) (h0 : 0 < m) (hlen : n + m ≤ 1000000) :
    ∃ c' w', (Builtin.append_ #[t, t] ty #[.slice (some g) n n, .slice A m c]).run Tryz.prog w = .ok (.slice (some ⟨w.heap.size, 0, none⟩) (n + m) c') w' ∧ OwnC w' w.heap.size e size (.slice (some ⟨w.heap.size, 0, none⟩) (n + m) c') (n + m) (xs ++ ms) ∧ Below w.heap.size w w' := by
  obtain ⟨i, h2, h3, h4, h5⟩ := info_parts T.info
  have hbytes : (n + m) * bytes ≤ 140737488355328 := by
    have := Nat.mul_le_mul hlen T.small
    omega
  have hpos := T.pos
  have hms0 : 0 < ms.length := by rw [hml]; exact Nat.mul_pos h0 hpos
  obtain ⟨b, o, rfl, hb, hc⟩ := hm.some hms0
  have hnews : ∀ (j : Nat) u, ms[j]? = some u → w.cell? ((⟨b, o, none⟩ : Addr).add j) = some u := by
    intro j u hu
    have hadd : (⟨b, o, none⟩ : Addr).add j = ⟨b, o + j, none⟩ := by unfold Addr.add; split <;> simp_all
    rw [hadd]
    exact hc j u hu
  rcases ho.2 with ⟨hv, -⟩ | ⟨g', cap, cur, hv, hbg, hg, hnc, hcm, hcs, htake⟩
  · cases hv
  · have hcap : n = cap ∧ g = ⟨g', 0, none⟩ := by
      simp only [Value.slice.injEq, Option.some.injEq] at hv
      exact ⟨hv.2.2, hv.1⟩
    obtain ⟨rfl, rfl⟩ := hcap
    have holds : ∀ j u, xs[j]? = some u → w.cell? ((⟨g', 0, none⟩ : Addr).add j) = some u := World.ownsRow.cells ho (g := g') rfl
    have hxl := ho.1
    have hsmall : n + m ≤ maxLen := by unfold maxLen; omega
    have hge := grownCap_ge w (n + m) n e
    refine ⟨_, _, run_append_grow (P := Tryz.prog) w t ty e i z T.under h2 h3 ⟨g', 0, none⟩ n n xs (by rw [h4]; exact hxl) holds ⟨b, o, none⟩ m c ms (by rw [h4]; exact hml) hnews (by omega) (by omega) (growslice_fits (by omega) (by rw [h5]; exact hbytes)), ?_, ?_⟩
    · refine ⟨by rw [List.length_append, hxl, hml, Nat.add_mul], .inr ⟨w.heap.size, _, _, rfl, Nat.le_refl _, heap_alloc_new w.drew _, hge, grownCap_le_maxLen w (n + m) n e hsmall, ?_, ?_⟩⟩
      · simp only [Array.size_append, List.size_toArray, size_zeroCells, T.cells, hxl, hml, ← Nat.add_mul]
        refine congrArg (fun x => x * size) ?_
        omega
      · have hlen' : (xs ++ ms).length = (n + m) * size := by rw [List.length_append, hxl, hml, Nat.add_mul]
        simp only [Array.toList_append, List.append_assoc]
        rw [← List.append_assoc, ← hlen']
        exact List.take_left
    · exact (Below.refl _ _).drew.alloc (Nat.le_refl _) _

theorem wpList_append_new {t e : TypeId} {z : Value} {size bytes : Nat} (T : ElemT t e z size bytes) {w : World} {ops : Array Oper} {rest : List Oper} {o : Oper} {a : Act} {Q : Exit → Act → World → Prop} (hgd : o.guard = none) (s x : Operand)
    (hop : o.op = .call { callee := .builtin .append, args := #[s, x], argTypes := #[t, t] })
    (base : Nat) (g : Addr) (n : Nat) (xs : List Value) (hs : a.eval s = .slice (some g) n n) (ho : OwnC w base e size (.slice (some g) n n) n xs) (A : Option Addr) (m c : Nat) (ms : List Value) (hx : a.eval x = .slice A m c)
    (hm : Cells w A ms) (hml : ms.length = m * size) (hm0 : 0 < m) (hlen : n + m ≤ 1000000)
    (h : ∀ c' w', OwnC w' w.heap.size e size (.slice (some ⟨w.heap.size, 0, none⟩) (n + m) c') (n + m) (xs ++ ms) → Below w.heap.size w w' → wpList Tryz.prog ops Q rest (a.put o.dst (.slice (some ⟨w.heap.size, 0, none⟩) (n + m) c')) w') : wpList Tryz.prog ops Q (o :: rest) a w := by
  refine wpList_plain hgd fun K hK => ?_
  obtain ⟨c', w', hrun, g1, g2⟩ := append_new T o.type base g n xs ho A m c ms hm hml hm0 hlen
  unfold Oper.wp
  simp [execOp, hop, resolve, invoke, builtin, hs, hx, hrun, Result.andThen]
  exact hK _ _ (h c' w' g1 g2)

theorem step_append_new {t e : TypeId} {z : Value} {size bytes : Nat} (T : ElemT t e z size bytes) {w : World} {ops : Array Oper} {o : Oper} {a : Act} {K : Act → World → Prop} {Q : Exit → Act → World → Prop} {E : Prop} (hgd : o.guard = none) (s x : Nat)
    (hop : o.op = .call { callee := .builtin .append, args := #[.tmp s, .tmp x], argTypes := #[t, t] })
    (base : Nat) (g : Addr) (n : Nat) (xs : List Value) (hs : a.tmps[s]?.getD undef = .slice (some g) n n) (ho : OwnC w base e size (.slice (some g) n n) n xs) (A : Option Addr) (m c : Nat) (ms : List Value) (hx : a.tmps[x]?.getD undef = .slice A m c)
    (hm : Cells w A ms) (hml : ms.length = m * size) (hm0 : 0 < m) (hlen : n + m ≤ 1000000)
    (h : ∀ c' w', OwnC w' w.heap.size e size (.slice (some ⟨w.heap.size, 0, none⟩) (n + m) c') (n + m) (xs ++ ms) → Below w.heap.size w w' → K (a.put o.dst (.slice (some ⟨w.heap.size, 0, none⟩) (n + m) c')) w') :
    if Region.wanted o (yielded ops a.tmps) = true then Oper.wp Tryz.prog o a w K Q else E := by
  have hw : Region.wanted o (yielded ops a.tmps) = true := by simp [Region.wanted, hgd]
  rw [if_pos hw]
  obtain ⟨c', w', hrun, g1, g2⟩ := append_new T o.type base g n xs ho A m c ms hm hml hm0 hlen
  unfold Oper.wp
  simp [execOp, hop, resolve, invoke, builtin, eval_tmp, hs, hx, hrun, Result.andThen]
  exact h c' w' g1 g2

/-- A make, as one step of a region that draws. -/
theorem step_make_g {t e : TypeId} {z : Value} {size bytes : Nat} (T : ElemT t e z size bytes) {w : World} {ops : Array Oper} {o : Oper} {a : Act} {K : Act → World → Prop} {Q : Exit → Act → World → Prop} {E : Prop} (hgd : o.guard = none) (L : Int) (n : Nat)
    (hop : o.op = Op.makeSlice t (.const (.int .i64 L)) (.const (.int .i64 L))) (hL : L = (n : Int)) (hn : n ≤ 1000000)
    (h : ∀ w', OwnC w' w.heap.size e size (.slice (some ⟨w.heap.size, 0, none⟩) n n) n (zerosV z n) → Below w.heap.size w w' → K (a.put o.dst (.slice (some ⟨w.heap.size, 0, none⟩) n n)) w') :
    if Region.wanted o (yielded ops a.tmps) = true then Oper.wp Tryz.prog o a w K Q else E := by
  have hw : Region.wanted o (yielded ops a.tmps) = true := by simp [Region.wanted, hgd]
  rw [if_pos hw]
  obtain ⟨i, h2, h3, h4, h5⟩ := info_parts T.info
  have hb : n * i.bytes ≤ 100000000 := by
    rw [h5]
    have := Nat.mul_le_mul hn T.small
    omega
  have hrun := run_make (P := Tryz.prog) w t e i z T.under h2 h3 .i64 .i64 (n : Int) (n : Int) (by omega) (by omega) (by rw [← Int.natCast_mul, Nat.mul_comm]; omega) (by omega)
  subst hL
  unfold Oper.wp
  simp [execOp, hop, Act.eval, hrun, Result.andThen]
  have hz : 0 < z.cells.size := by rw [T.cells]; exact T.pos
  have e1 := made_zeros z hz n
  rw [T.cells] at e1
  refine h _ ?_ ((Below.refl _ _).alloc (Nat.le_refl _) _)
  have ho := OwnC.lit w e size n (madeCells z.cells (n * i.size)) (by unfold maxLen; omega) (by rw [size_madeCells, h4])
  rw [h4, e1] at ho
  rw [h4]
  exact ho

/-- []uint16. -/
theorem elemU : ElemT 31 32 (.int .u16 0) 1 2 := ⟨Tryz.underlying31, by kernel_rfl, rfl, by omega, by omega⟩

theorem eqlF (a b c : Int) (w : World) : (binOp .eql 42 (.agg #[.int .i64 a, .int .i64 b, .int .i64 c]) (.agg #[.int .i64 a, .int .i64 b, .int .i64 c])).run Tryz.prog w = .ok (.bool true) w := by
  have u0 := Tryz.underlying3
  have a0 := Tryz.isAgg3
  have z0 := Tryz.sizeOf3
  have hS : Tryz.prog.underlying 42 = some (.struct (Tryz.prog.fieldsOf 42)) := by kernel_rfl
  have hp : Tryz.prog.stoodInHeld 42 = false := by kernel_rfl
  rw [run_eql_struct, show (10000 : Nat) = 9999 + 1 from rfl, run_equalIn_agg w 9999 42 _ _ hS hp]
  simp only [Program.fieldsOf, Tryz.underlying42]
  go_simp


theorem check_zero {c : ConfR} (h1 : c.ps.length ≤ 64) (h2 : c.ws.length ≤ 1024) (h3 : c.rs.length ≤ 1024) (h4 : c.ts.length ≤ 1024) (h5 : c.cs.length ≤ 512) (h6 : c.links ≤ 1024)
    (hp : ∀ x ∈ c.ps, nameB (bytesOf x.name) = true) (ht : ∀ x ∈ c.ts, nameB (bytesOf x.name) = true) (hr : ∀ x ∈ c.rs, x.rights ≤ 7) : checkV c = (0, 0, 0) := by
  have hw : wrap64 (c.links : Int) = (c.links : Int) := wrap_small (by omega) (by omega)
  have ho : firstTo (overB c) 7 = none := firstTo_none fun j hj => by
    rcases (by omega : j = 0 ∨ j = 1 ∨ j = 2 ∨ j = 3 ∨ j = 4 ∨ j = 5 ∨ j = 6) with rfl | rfl | rfl | rfl | rfl | rfl | rfl <;> simp [overB, cntN, limV, hw] <;> omega
  have e1 : firstTo (badP c) c.ps.length = none := firstTo_none fun j hj => by rw [badP_at hj, hp _ (List.getElem_mem hj)]; rfl
  have e2 : firstTo (badT c) c.ts.length = none := firstTo_none fun j hj => by rw [badT_at hj, ht _ (List.getElem_mem hj)]; rfl
  have e3 : firstTo (badR c) c.rs.length = none := firstTo_none fun j hj => by
    rw [badR_at hj]
    have := hr _ (List.getElem_mem hj)
    simp only [decide_eq_false_iff_not]
    omega
  unfold checkV
  rw [ho, e1, e2, e3]

theorem check_over {c : ConfR} (k : Nat) (hk : k < 7) (h : overB c k = true) (hb : ∀ j, j < k → overB c j = false) : checkV c = (7, (k : Int), limV (k : Int)) := by
  unfold checkV
  rw [firstTo_some h hb hk]

theorem nameX : nameB (bytesOf lxS) = true := by decide +kernel

theorem MSt.setp {w W W' : World} {B : Nat} {K : List (Nat × Obj)} {c : ConfR} {q : CfgQ} (h : MSt w B K W c q) (hw : Below W.heap.size W W') {l : List PartR} {A' : Option Addr} {c' : Nat} (ho : OwnC W' W.heap.size 36 4 (.slice A' l.length c') l.length (l.flatMap partV)) :
    MSt w B K (W'.setCell ⟨B, 1, none⟩ (.slice A' l.length c')) { c with ps := l } { q with A1 := A', c1 := c' } := by
  have h1 := h.more hw
  have ts : Turn (fun b => b = B) W' (W'.setCell ⟨B, 1, none⟩ (.slice A' l.length c')) := Turn.setCell (S := fun b => b = B) (B := B) (Turn.refl _ _) rfl _
  have hB : ∀ b, some b ∈ q.slots → b ≠ B := fun b hb => (h.out b hb).1
  have hss : ({ q with A1 := A', c1 := c' } : CfgQ).slots = q.slots.set 0 (blk A') := rfl
  have hnew : ∀ b, blk A' = some b → W.heap.size ≤ b := fun b hb => (own_lt ho hb).1
  refine ⟨⟨?_, ?_, ?_, ?_, ?_, h.own.ch, fun x hx => ?_, ?_⟩, ?_, Nat.lt_of_lt_of_le h1.lt ts.size, h.ge, fun k hk => ?_, fun b hb => ?_, h1.below.trans (ts.below (fun b hb => by rw [hb]; exact h.ge) h1.below.size)⟩
  · exact own_stay (S := fun b => b = B) (ho.base h.below.size) ts fun b hb e => absurd (own_lt ho hb).1 (by have := h.lt; omega)
  · exact own_stay h1.own.ws ts fun b hb e => hB b (List.mem_of_getElem? (i := 1) (by rw [← hb]; rfl)) e
  · exact own_stay h1.own.rs ts fun b hb e => hB b (List.mem_of_getElem? (i := 2) (by rw [← hb]; rfl)) e
  · exact own_stay h1.own.ts ts fun b hb e => hB b (List.mem_of_getElem? (i := 3) (by rw [← hb]; rfl)) e
  · exact own_stay h1.own.cs ts fun b hb e => hB b (List.mem_of_getElem? (i := 4) (by rw [← hb]; rfl)) e
  · obtain ⟨n, hn', hx'⟩ := List.mem_iff_getElem.1 hx
    refine own_stay (h1.own.ds x hx) ts fun b hb e => hB b ?_ e
    unfold CfgQ.slots
    refine List.mem_append_right _ (List.mem_map.2 ⟨x, hx, hb⟩)
  · rw [hss]
    refine h.own.sep.set_new fun b hb hm => ?_
    have := (h.own.lt hm).2
    have := hnew b hb
    omega
  · rw [heap_setCell_same _ _ _ _ _ _ h1.all]
    congr 2
  · obtain ⟨k1, k2, k3⟩ := h1.keep k hk
    exact ⟨(ts.block k.1 k2 k3).trans k1, Nat.lt_of_lt_of_le k2 ts.size, k3⟩
  · rw [hss] at hb
    rcases slots_set_mem hb with hb | hb
    · exact h.out b hb
    · have := hnew b hb.symm
      refine ⟨by have := h.lt; omega, fun k hk e => ?_⟩
      have := (h.keep k hk).2.1
      omega

theorem MSt.setr {w W W' : World} {B : Nat} {K : List (Nat × Obj)} {c : ConfR} {q : CfgQ} (h : MSt w B K W c q) (hw : Below W.heap.size W W') {l : List RegR} {A' : Option Addr} {c' : Nat} (ho : OwnC W' W.heap.size 47 5 (.slice A' l.length c') l.length (l.flatMap regV)) :
    MSt w B K (W'.setCell ⟨B, 3, none⟩ (.slice A' l.length c')) { c with rs := l } { q with A3 := A', c3 := c' } := by
  have h1 := h.more hw
  have ts : Turn (fun b => b = B) W' (W'.setCell ⟨B, 3, none⟩ (.slice A' l.length c')) := Turn.setCell (S := fun b => b = B) (B := B) (Turn.refl _ _) rfl _
  have hB : ∀ b, some b ∈ q.slots → b ≠ B := fun b hb => (h.out b hb).1
  have hss : ({ q with A3 := A', c3 := c' } : CfgQ).slots = q.slots.set 2 (blk A') := rfl
  have hnew : ∀ b, blk A' = some b → W.heap.size ≤ b := fun b hb => (own_lt ho hb).1
  refine ⟨⟨?_, ?_, ?_, ?_, ?_, h.own.ch, fun x hx => ?_, ?_⟩, ?_, Nat.lt_of_lt_of_le h1.lt ts.size, h.ge, fun k hk => ?_, fun b hb => ?_, h1.below.trans (ts.below (fun b hb => by rw [hb]; exact h.ge) h1.below.size)⟩
  · exact own_stay h1.own.ps ts fun b hb e => hB b (List.mem_of_getElem? (i := 0) (by rw [← hb]; rfl)) e
  · exact own_stay h1.own.ws ts fun b hb e => hB b (List.mem_of_getElem? (i := 1) (by rw [← hb]; rfl)) e
  · exact own_stay (S := fun b => b = B) (ho.base h.below.size) ts fun b hb e => absurd (own_lt ho hb).1 (by have := h.lt; omega)
  · exact own_stay h1.own.ts ts fun b hb e => hB b (List.mem_of_getElem? (i := 3) (by rw [← hb]; rfl)) e
  · exact own_stay h1.own.cs ts fun b hb e => hB b (List.mem_of_getElem? (i := 4) (by rw [← hb]; rfl)) e
  · obtain ⟨n, hn', hx'⟩ := List.mem_iff_getElem.1 hx
    refine own_stay (h1.own.ds x hx) ts fun b hb e => hB b ?_ e
    unfold CfgQ.slots
    refine List.mem_append_right _ (List.mem_map.2 ⟨x, hx, hb⟩)
  · rw [hss]
    refine h.own.sep.set_new fun b hb hm => ?_
    have := (h.own.lt hm).2
    have := hnew b hb
    omega
  · rw [heap_setCell_same _ _ _ _ _ _ h1.all]
    congr 2
  · obtain ⟨k1, k2, k3⟩ := h1.keep k hk
    exact ⟨(ts.block k.1 k2 k3).trans k1, Nat.lt_of_lt_of_le k2 ts.size, k3⟩
  · rw [hss] at hb
    rcases slots_set_mem hb with hb | hb
    · exact h.out b hb
    · have := hnew b hb.symm
      refine ⟨by have := h.lt; omega, fun k hk e => ?_⟩
      have := (h.keep k hk).2.1
      omega

/-- The channels of a new row: those that there were, and new ones. -/
theorem MSt.setc {w W W' : World} {B : Nat} {K : List (Nat × Obj)} {c : ConfR} {q : CfgQ} (h : MSt w B K W c q) (hw : Below W.heap.size W W') (l new : List ChanC) (hl : l = q.ch ++ new) {A' : Option Addr} {c' : Nat} (ho : OwnC W' W.heap.size 34 3 (.slice A' l.length c') l.length (l.flatMap chanV))
    (hd : ∀ x ∈ new, OwnC W' W.heap.size 32 1 (.slice x.A x.r.dests.length x.cap) x.r.dests.length (x.r.dests.map U16)) (hs : Sep (blk A' :: new.map fun x => blk x.A)) :
    MSt w B K (W'.setCell ⟨B, 5, none⟩ (.slice A' l.length c')) { c with cs := l.map (·.r) } { q with A5 := A', c5 := c', ch := l } := by
  have h1 := h.more hw
  have ts : Turn (fun b => b = B) W' (W'.setCell ⟨B, 5, none⟩ (.slice A' l.length c')) := Turn.setCell (S := fun b => b = B) (B := B) (Turn.refl _ _) rfl _
  have hB : ∀ b, some b ∈ q.slots → b ≠ B := fun b hb => (h.out b hb).1
  obtain ⟨old, hold0⟩ : ∃ old, old = [blk q.A1, blk q.A2, blk q.A3, blk q.A4] ++ q.ch.map fun x => blk x.A := ⟨_, rfl⟩
  have hperm : (({ q with A5 := A', c5 := c', ch := l } : CfgQ).slots).Perm (old ++ (blk A' :: new.map fun x => blk x.A)) := by
    rw [hold0, hl]
    show ([blk q.A1, blk q.A2, blk q.A3, blk q.A4, blk A'] ++ (q.ch ++ new).map fun x => blk x.A).Perm _
    rw [List.map_append, show [blk q.A1, blk q.A2, blk q.A3, blk q.A4, blk A'] = [blk q.A1, blk q.A2, blk q.A3, blk q.A4] ++ [blk A'] from rfl, List.append_assoc, List.append_assoc]
    refine List.Perm.append_left _ ?_
    rw [show (blk A' :: new.map fun x => blk x.A) = [blk A'] ++ new.map fun x => blk x.A from rfl, ← List.append_assoc, ← List.append_assoc]
    exact List.Perm.append_right _ List.perm_append_comm
  have hsub : old.Sublist q.slots := by
    rw [hold0]
    show List.Sublist ([blk q.A1, blk q.A2, blk q.A3, blk q.A4] ++ q.ch.map fun x => blk x.A) ([blk q.A1, blk q.A2, blk q.A3, blk q.A4] ++ (blk q.A5 :: q.ch.map fun x => blk x.A))
    exact List.Sublist.append_left (List.sublist_cons_self _ _) _
  have hold : ∀ b, some b ∈ old → some b ∈ q.slots := fun b hb => hsub.subset hb
  have hnew : ∀ b, some b ∈ (blk A' :: new.map fun x => blk x.A) → W.heap.size ≤ b := fun b hb => by
    rcases List.mem_cons.1 hb with hb | hb
    · exact (own_lt ho hb.symm).1
    · obtain ⟨x, hx, hxb⟩ := List.mem_map.1 hb
      exact (own_lt (hd x hx) hxb).1
  have hN : ∀ b, W.heap.size ≤ b → ¬ b = B := fun b hb e => by have := h.lt; omega
  refine ⟨⟨?_, ?_, ?_, ?_, ?_, rfl, fun x hx => ?_, ?_⟩, ?_, Nat.lt_of_lt_of_le h1.lt ts.size, h.ge, fun k hk => ?_, fun b hb => ?_, h1.below.trans (ts.below (fun b hb => by rw [hb]; exact h.ge) h1.below.size)⟩
  · exact own_stay h1.own.ps ts fun b hb e => hB b (List.mem_of_getElem? (i := 0) (by rw [← hb]; rfl)) e
  · exact own_stay h1.own.ws ts fun b hb e => hB b (List.mem_of_getElem? (i := 1) (by rw [← hb]; rfl)) e
  · exact own_stay h1.own.rs ts fun b hb e => hB b (List.mem_of_getElem? (i := 2) (by rw [← hb]; rfl)) e
  · exact own_stay h1.own.ts ts fun b hb e => hB b (List.mem_of_getElem? (i := 3) (by rw [← hb]; rfl)) e
  · show OwnC _ _ _ _ (.slice A' (l.map (·.r)).length c') (l.map (·.r)).length _
    rw [List.length_map]
    exact own_stay (S := fun b => b = B) (ho.base h.below.size) ts fun b hb e => hN b (own_lt ho hb).1 e
  · have hx' : x ∈ q.ch ++ new := by rw [← hl]; exact hx
    rcases List.mem_append.1 hx' with hx' | hx'
    · refine own_stay (h1.own.ds x hx') ts fun b hb e => hB b ?_ e
      unfold CfgQ.slots
      exact List.mem_append_right _ (List.mem_map.2 ⟨x, hx', hb⟩)
    · exact own_stay (S := fun b => b = B) ((hd x hx').base h.below.size) ts fun b hb e => hN b (own_lt (hd x hx') hb).1 e
  · refine Sep.perm ?_ hperm
    refine List.pairwise_append.2 ⟨List.Pairwise.sublist hsub h.own.sep, hs, fun x hx y hy b hxb hyb => ?_⟩
    subst hxb
    subst hyb
    have := (h.own.lt (hold b hx)).2
    have := hnew b hy
    omega
  · rw [heap_setCell_same _ _ _ _ _ _ h1.all]
    congr 2
    simp [cfgA]
  · obtain ⟨k1, k2, k3⟩ := h1.keep k hk
    exact ⟨(ts.block k.1 k2 k3).trans k1, Nat.lt_of_lt_of_le k2 ts.size, k3⟩
  · rcases List.mem_append.1 (hperm.mem_iff.1 hb) with hb | hb
    · exact h.out b (hold b hb)
    · have := hnew b hb
      refine ⟨by have := h.lt; omega, fun k hk e => ?_⟩
      have := (h.keep k hk).2.1
      omega

theorem sep_one {x : Option Nat} {l : List (Option Nat)} (h : ∀ y ∈ l, y = none) : Sep (x :: l) := by
  refine List.pairwise_cons.2 ⟨fun y hy b _ he => ?_, ?_⟩
  · rw [h y hy] at he; cases he
  · exact List.pairwise_of_forall_mem_list fun y hy z hz b hb => by rw [h y hy] at hb; cases hb

theorem sep5 (x y : Option Nat) (h : ∀ b, x = some b → y ≠ some b) : Sep [x, none, none, y, none] := by
  unfold Sep
  cases x <;> cases y <;> simp_all

/-- The law's first configuration. -/
def limC0 : ConfR := ⟨0, [lzP], [], [], [lzT], []⟩
def limQ0 (A1 : Option Addr) (c1 : Nat) (A4 : Option Addr) (c4 : Nat) : CfgQ := ⟨A1, c1, none, 0, none, 0, A4, c4, none, 0, []⟩
theorem lim_start {w W : World} {G c1 c4 : Nat} {A1 A4 : Option Addr} (hb : Below w.heap.size w W) (hG : w.heap.size ≤ G) (hrow : W.heap[G]? = some (.cells (cfgA limC0 (limQ0 A1 c1 A4 c4)) 30))
    (h1 : OwnC W w.heap.size 36 4 (.slice A1 1 c1) 1 ([lzP].flatMap partV)) (h4 : OwnC W w.heap.size 39 6 (.slice A4 1 c4) 1 ([lzT].flatMap portV))
    (n14 : ∀ b, blk A1 = some b → blk A4 ≠ some b) (n1 : ∀ b, blk A1 = some b → b ≠ G) (n4 : ∀ b, blk A4 = some b → b ≠ G) : MSt w G [] W limC0 (limQ0 A1 c1 A4 c4) := by
  have hlt : G < W.heap.size := (Array.getElem?_eq_some_iff.1 hrow).1
  refine ⟨⟨h1, OwnC.nil _ _ _ _, OwnC.nil _ _ _ _, h4, OwnC.nil _ _ _ _, rfl, fun x hx => (by cases hx), ?_⟩, hrow, hlt, hG, fun k hk => (by cases hk), fun b hb => ?_, hb⟩
  · exact sep5 _ _ n14
  · simp only [CfgQ.slots, limQ0, blk, List.map_nil, List.append_nil, List.mem_cons, List.not_mem_nil, or_false] at hb
    refine ⟨?_, fun k hk => (by cases hk)⟩
    rcases hb with hb | hb | hb | hb | hb
    · exact n1 b hb.symm
    · cases hb
    · cases hb
    · exact n4 b hb.symm
    · cases hb

/-- Zero records: the first i partitions and the first j ports have their names. -/
def limN (i np nw nr j nt : Nat) (cs : List ChanR) : ConfR := ⟨0, namedP i np, List.replicate nw lzW, List.replicate nr lzR, namedT j nt, cs⟩
def limR (np nw nr nt : Nat) (cs : List ChanR) : ConfR := ⟨0, List.replicate np lxP, List.replicate nw lzW, List.replicate nr lzR, List.replicate nt lxT, cs⟩
theorem limN_all (np nw nr nt : Nat) (cs : List ChanR) : limN np np nw nr nt nt cs = limR np nw nr nt cs := by unfold limN limR; rw [namedP_all, namedT_all]

theorem lim_nameP {w W : World} {B : Nat} {K : List (Nat × Obj)} {q : CfgQ} {i np nw nr j nt g : Nat} {cs : List ChanR} (h : MSt w B K W (limN i np nw nr j nt cs) q) (hi : i < np) (hA : q.A1 = some ⟨g, 0, none⟩) :
    W.cell? ⟨g, i * 4 + 1, none⟩ = some (.string ⟨#[]⟩) ∧ W.frozen? ⟨g, i * 4 + 1, none⟩ = false ∧ MSt w B K (W.setCell ⟨g, i * 4 + 1, none⟩ (.string lxS)) (limN (i + 1) np nw nr j nt cs) q := MSt.nameP (c := limN i np nw nr j nt cs) h hi hA
theorem lim_nameT {w W : World} {B : Nat} {K : List (Nat × Obj)} {q : CfgQ} {i np nw nr j nt g : Nat} {cs : List ChanR} (h : MSt w B K W (limN i np nw nr j nt cs) q) (hj : j < nt) (hA : q.A4 = some ⟨g, 0, none⟩) :
    W.cell? ⟨g, j * 6 + 2, none⟩ = some (.string ⟨#[]⟩) ∧ W.frozen? ⟨g, j * 6 + 2, none⟩ = false ∧ MSt w B K (W.setCell ⟨g, j * 6 + 2, none⟩ (.string lxS)) (limN i np nw nr (j + 1) nt cs) q := MSt.nameT (c := limN i np nw nr j nt cs) h hj hA
theorem lim_cellP {w W : World} {B : Nat} {K : List (Nat × Obj)} {q : CfgQ} {i np nw nr j nt g c1 : Nat} {cs : List ChanR} (h : MSt w B K W (limN i np nw nr j nt cs) q) (hi : i ≤ np) (hA : q.A1 = some ⟨g, 0, none⟩) (hc : q.c1 = c1) : W.cell? ⟨B, 1, none⟩ = some (.slice (some ⟨g, 0, none⟩) np c1) := by
  have e := h.cell 1
  rw [show (cfgA (limN i np nw nr j nt cs) q)[1]? = some (.slice q.A1 (namedP i np).length q.c1) from rfl, namedP_len hi, hA, hc] at e
  exact e
theorem lim_cellT {w W : World} {B : Nat} {K : List (Nat × Obj)} {q : CfgQ} {i np nw nr j nt g c4 : Nat} {cs : List ChanR} (h : MSt w B K W (limN i np nw nr j nt cs) q) (hj : j ≤ nt) (hA : q.A4 = some ⟨g, 0, none⟩) (hc : q.c4 = c4) : W.cell? ⟨B, 4, none⟩ = some (.slice (some ⟨g, 0, none⟩) nt c4) := by
  have e := h.cell 4
  rw [show (cfgA (limN i np nw nr j nt cs) q)[4]? = some (.slice q.A4 (namedT j nt).length q.c4) from rfl, namedT_len hj, hA, hc] at e
  exact e

theorem lim_okcfg (np nw nr nt : Nat) (cs : List ChanR) (hc : ∀ x ∈ cs, x.ok) : OkCfg (limR np nw nr nt cs) := by
  refine ⟨by simp [limR], fun p hp => ?_, fun p hp => ?_, fun p hp => ?_, fun p hp => ?_, hc⟩
  · obtain rfl := List.eq_of_mem_replicate hp
    exact ⟨by decide, by decide, by decide, by decide⟩
  · obtain rfl := List.eq_of_mem_replicate hp
    exact ⟨by decide, by decide, by decide⟩
  · obtain rfl := List.eq_of_mem_replicate hp
    exact ⟨by decide, by decide, by decide, by decide⟩
  · obtain rfl := List.eq_of_mem_replicate hp
    exact ⟨by decide, by decide, by decide, by decide⟩
theorem lim_small {np nw nr nt : Nat} {cs : List ChanR} (h1 : np ≤ 2000) (h2 : nw ≤ 2000) (h3 : nr ≤ 2000) (h4 : nt ≤ 2000) (h5 : cs.length ≤ 2000) (h6 : ∀ x ∈ cs, x.dests.length ≤ 2000) : Small (limR np nw nr nt cs) 2000 :=
  ⟨by simpa [limR] using h1, by simpa [limR] using h2, by simpa [limR] using h3, by simpa [limR] using h4, h5, h6⟩
theorem lim_zero {np nw nr nt : Nat} {cs : List ChanR} (h1 : np ≤ 64) (h2 : nw ≤ 1024) (h3 : nr ≤ 1024) (h4 : nt ≤ 1024) (h5 : cs.length ≤ 512) (h6 : (cs.map fun d => d.dests.length).sum ≤ 1024) : checkV (limR np nw nr nt cs) = (0, 0, 0) := by
  refine check_zero (by simpa [limR] using h1) (by simpa [limR] using h2) (by simpa [limR] using h3) (by simpa [limR] using h4) h5 h6 (fun x hx => ?_) (fun x hx => ?_) (fun x hx => ?_)
  · obtain rfl := List.eq_of_mem_replicate hx
    exact nameX
  · obtain rfl := List.eq_of_mem_replicate hx
    exact nameX
  · obtain rfl := List.eq_of_mem_replicate hx
    decide
theorem lim_over (k np nw nr nt nc nl : Nat) (cs : List ChanR) (hk : 1 ≤ k ∧ k < 7) (hc : cs.length = nc) (hs : (cs.map fun d => d.dests.length).sum = nl) (hb : nl ≤ 1000000)
    (h : limV (k : Int) < (if k = 1 then (np : Int) else if k = 2 then (nw : Int) else if k = 3 then (nr : Int) else if k = 4 then (nt : Int) else if k = 5 then (nc : Int) else (nl : Int)))
    (h1 : 1 < k → np ≤ 64) (h2 : 2 < k → nw ≤ 1024) (h3 : 3 < k → nr ≤ 1024) (h4 : 4 < k → nt ≤ 1024) (h5 : 5 < k → nc ≤ 512) : checkV (limR np nw nr nt cs) = (7, (k : Int), limV (k : Int)) := by
  have hl : (limR np nw nr nt cs).links = nl := hs
  have hw : wrap64 (nl : Int) = (nl : Int) := wrap_small (by omega) (by omega)
  have e1 : (limR np nw nr nt cs).ps.length = np := by simp [limR]
  have e2 : (limR np nw nr nt cs).ws.length = nw := by simp [limR]
  have e3 : (limR np nw nr nt cs).rs.length = nr := by simp [limR]
  have e4 : (limR np nw nr nt cs).ts.length = nt := by simp [limR]
  have e5 : (limR np nw nr nt cs).cs.length = nc := hc
  refine check_over k hk.2 ?_ fun j hj => ?_
  · rcases (by omega : k = 1 ∨ k = 2 ∨ k = 3 ∨ k = 4 ∨ k = 5 ∨ k = 6) with rfl | rfl | rfl | rfl | rfl | rfl <;> simp [overB, cntN, limV, hl, hw, e1, e2, e3, e4, e5] at h ⊢ <;> omega
  · rcases (by omega : j = 0 ∨ j = 1 ∨ j = 2 ∨ j = 3 ∨ j = 4 ∨ j = 5) with rfl | rfl | rfl | rfl | rfl | rfl <;> simp [overB, cntN, limV, e1, e2, e3, e4, e5] <;> omega

theorem lit_cells (w : World) (cs : Array Value) (e : TypeId) : Cells (w.alloc (.cells cs e)) (some ⟨w.heap.size, 0, none⟩) cs.toList := fun i hi => by
  refine ⟨w.heap.size, 0, rfl, by simp, ?_⟩
  rw [Nat.zero_add, cell_of_row _ _ _ _ _ _ (heap_alloc_new w _)]
  have hi' : i < cs.size := by simpa using hi
  simp [List.getD, hi']

end Go.Proofs.YthdagjlgfffpbaaGreat
