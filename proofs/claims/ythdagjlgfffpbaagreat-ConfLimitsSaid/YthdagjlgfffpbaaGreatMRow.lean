/-
  WORDS FOR SLICES OF ANY ELEMENTS, of no layer: the cells that a slice holds, one after the other; append onto a row of the call's own, at any type; a literal. By the verifier.
-/
import Derived.Test.YthdagjlgfffpbaaGreatMApp
set_option linter.unusedVariables false
namespace Go.Proofs.YthdagjlgfffpbaaGreat
open Go.RowKit

/-- The cells that a slice holds, in order. -/
def Cells (w : World) (A : Option Addr) (cs : List Value) : Prop := Seg w A cs.length (fun j => cs.getD j undef)

theorem Cells.below {w w' : World} {A : Option Addr} {cs : List Value} (h : Cells w A cs) {B : Nat} (hB : w.heap.size ≤ B) (hb : Below B w w') : Cells w' A cs := Seg.below h hB hb
theorem Cells.nil (w : World) (A : Option Addr) : Cells w A [] := fun i hi => absurd hi (by simp)

theorem Cells.some {w : World} {A : Option Addr} {cs : List Value} (h : Cells w A cs) (h0 : 0 < cs.length) :
    ∃ b o, A = some ⟨b, o, none⟩ ∧ b < w.heap.size ∧ ∀ (j : Nat) v, cs[j]? = some v → w.cell? ⟨b, o + j, none⟩ = some v := by
  obtain ⟨b, o, rfl, hb, -⟩ := h 0 h0
  refine ⟨b, o, rfl, hb, fun j v hv => ?_⟩
  have hj : j < cs.length := by
    rcases Nat.lt_or_ge j cs.length with hj | hj
    · exact hj
    · rw [List.getElem?_eq_none hj] at hv; cases hv
  obtain ⟨b', o', he, -, hc⟩ := h j hj
  injection he with he
  injection he with h1 h2
  subst h1 h2
  rw [hc]
  show Option.some (cs.getD j undef) = _
  rw [List.getD, hv]
  rfl

/-- A row of the call's own: n elements, each of size cells. -/
def OwnC (w : World) (base : Nat) (e : TypeId) (size : Nat) (v : Value) (n : Nat) (cs : List Value) : Prop := w.ownsRow base e size v n cs

theorem OwnC.below {w w' : World} {base : Nat} {e : TypeId} {size : Nat} {v : Value} {n : Nat} {cs : List Value} (h : OwnC w base e size v n cs) (hb : Below w.heap.size w w') : OwnC w' base e size v n cs := by
  refine World.ownsRow.kept (row := none) h ⟨hb.os, hb.tape, hb.output, hb.size, fun k hk _ => hb.block k hk⟩ ?_
  cases hv : v.ownBlock with
  | none => exact Or.inl rfl
  | some k => exact Or.inr (by simp)
theorem OwnC.drew {w : World} {base : Nat} {e : TypeId} {size : Nat} {v : Value} {n : Nat} {cs : List Value} (h : OwnC w base e size v n cs) : OwnC w.drew base e size v n cs := h
theorem OwnC.turn {S : Nat → Prop} {w w' : World} {base : Nat} {e : TypeId} {size : Nat} {v : Value} {n : Nat} {cs : List Value} (hs : Turn S w w') (h : OwnC w base e size v n cs) (hne : ∀ k, v.ownBlock = some k → ¬ S k) : OwnC w' base e size v n cs := by
  refine ⟨h.1, ?_⟩
  rcases h.2 with h0 | ⟨g, cap, cur, hv, hb, hg, h1, h2, h3, h4⟩
  · exact .inl h0
  · have hlt : g < w.heap.size := (World.ownsRow.lt h g (by rw [hv]; rfl)).2
    exact .inr ⟨g, cap, cur, hv, hb, by rw [hs.block g hlt (hne g (by rw [hv]; rfl))]; exact hg, h1, h2, h3, h4⟩

theorem OwnC.nil (w : World) (base : Nat) (e : TypeId) (size : Nat) : OwnC w base e size (.slice none 0 0) 0 [] := World.ownsRow_nil w base _ _
theorem OwnC.lit (w : World) (e : TypeId) (size n : Nat) (cs : Array Value) (hm : n ≤ maxLen) (hs : cs.size = n * size) : OwnC (w.alloc (.cells cs e)) w.heap.size e size (.slice (some ⟨w.heap.size, 0, none⟩) n n) n cs.toList :=
  World.ownsRow_lit w cs n (Nat.le_refl _) hm hs
theorem OwnC.base {w : World} {base base' : Nat} {e : TypeId} {size : Nat} {v : Value} {n : Nat} {cs : List Value} (h : OwnC w base e size v n cs) (hb : base' ≤ base) : OwnC w base' e size v n cs := by
  refine ⟨h.1, ?_⟩
  rcases h.2 with h0 | ⟨g, cap, cur, hv, hbb, hr⟩
  · exact .inl h0
  · exact .inr ⟨g, cap, cur, hv, Nat.le_trans hb hbb, hr⟩

/-- Such a row is a slice that holds its cells. -/
theorem OwnC.cells {w : World} {base : Nat} {e : TypeId} {size : Nat} {v : Value} {n : Nat} {cs : List Value} (h : OwnC w base e size v n cs) :
    ∃ A c, v = .slice A n c ∧ Cells w A cs ∧ (A = none → c = 0) ∧ n ≤ c ∧ cs.length = n * size ∧ (∀ a, A = some a → v.ownBlock = some a.block) := by
  have hl := h.1
  rcases h.2 with ⟨hv, hn⟩ | ⟨g, cap, cur, hv, hb, hg, hnc, hcm, hcs, htk⟩
  · subst hn
    have h0 : cs = [] := List.eq_nil_of_length_eq_zero (by omega)
    subst h0
    exact ⟨none, 0, hv, Cells.nil _ _, fun _ => rfl, Nat.le_refl _, hl, fun a ha => by cases ha⟩
  · refine ⟨some ⟨g, 0, none⟩, cap, hv, fun i hi => ?_, (fun h => by cases h), hnc, hl, fun a ha => by rw [hv]; injection ha with ha; rw [← ha]; rfl⟩
    have hlt : g < w.heap.size := by
      rcases Nat.lt_or_ge g w.heap.size with h1 | h1
      · exact h1
      · rw [Array.getElem?_eq_none h1] at hg; cases hg
    refine ⟨g, 0, rfl, hlt, ?_⟩
    subst hv
    rw [Nat.zero_add, World.ownsRow.cellAt h i (by omega)]
    simp [List.getD, hi]

theorem grown_belowc {B : Nat} {w0 w w' : World} {e : TypeId} {size : Nat} {v : Value} {n : Nat} {cs : List Value} (h : Below B w0 w) (ho : OwnC w B e size v n cs) (hg : w.grownBy w' v.ownBlock) (hB : B ≤ w.heap.size) : Below B w0 w' :=
  h.grown hg hB fun k hk => (World.ownsRow.lt ho k hk).1

/-- What append asks of an element's type. -/
structure ElemT (t e : TypeId) (z : Value) (size bytes : Nat) : Prop where
  under : Tryz.prog.underlying t = some (.slice e)
  info : (Tryz.prog.info? e).map (fun i => (i.zero, i.size, i.bytes)) = some (some z, size, bytes)
  cells : z.cells.size = size
  pos : 0 < size
  small : bytes ≤ 100

theorem append_runs_g {w : World} {t e : TypeId} {z : Value} {size bytes : Nat} (T : ElemT t e z size bytes) (ty : TypeId) (base : Nat) (v : Value) (n : Nat) (xs : List Value) (ho : OwnC w base e size v n xs) (A : Option Addr) (m c : Nat) (ms : List Value)
    (hm : Cells w A ms) (hml : ms.length = m * size) (h1 : ∀ u ∈ ms, u.oneCell' = true) (hA : A = none → c = 0) (hlen : n + m ≤ 1000000) (hbase : base ≤ w.heap.size) :
    ∃ v' w', (Builtin.append_ #[t, t] ty #[v, .slice A m c]).run Tryz.prog w = .ok v' w' ∧ OwnC w' base e size v' (n + m) (xs ++ ms) ∧ w.grownBy w' v.ownBlock := by
  obtain ⟨i, h2, h3, h4, h5⟩ := info_parts T.info
  have hbytes : (n + m) * bytes ≤ 140737488355328 := by
    have := Nat.mul_le_mul hlen T.small
    omega
  rcases Nat.eq_zero_or_pos m with h0 | h0
  · subst h0
    have hms : ms = [] := List.eq_nil_of_length_eq_zero (by omega)
    subst hms
    rw [List.append_nil, Nat.add_zero]
    cases A with
    | none =>
      obtain rfl := hA rfl
      exact ⟨v, w, run_append_owned_none (P := Tryz.prog) (w := w) base t ty e i size T.under h2 v n xs ho, ho, World.grownBy.refl w _⟩
    | some a =>
      obtain ⟨v', w', hr, ho', hg, -⟩ := run_append_own (P := Tryz.prog) w base t ty e i z size bytes T.under h2 h3 h4 h5 T.cells T.pos v n xs ho a 0 c [] (by simp) (fun j u hu => by simp at hu) (fun u hu => by cases hu) (by unfold maxLen; omega) (by simpa using hbytes) hbase
      refine ⟨v', w', hr, ?_, hg⟩
      rw [List.append_nil, Nat.add_zero] at ho'
      exact ho'
  · have hpos := T.pos
    have hms0 : 0 < ms.length := by rw [hml]; exact Nat.mul_pos h0 hpos
    obtain ⟨b, o, rfl, hb, hc⟩ := hm.some hms0
    have hnews : ∀ (j : Nat) u, ms[j]? = some u → w.cell? ((⟨b, o, none⟩ : Addr).add j) = some u := by
      intro j u hu
      have hadd : (⟨b, o, none⟩ : Addr).add j = ⟨b, o + j, none⟩ := by unfold Addr.add; split <;> simp_all
      rw [hadd]
      exact hc j u hu
    obtain ⟨v', w', hr, ho', hg, -⟩ := run_append_own (P := Tryz.prog) w base t ty e i z size bytes T.under h2 h3 h4 h5 T.cells T.pos v n xs ho ⟨b, o, none⟩ m c ms hml hnews h1 (by unfold maxLen; omega) hbytes hbase
    exact ⟨v', w', hr, ho', hg⟩

theorem append_full1 {w : World} {t e : TypeId} {z : Value} {size bytes : Nat} (T : ElemT t e z size bytes) (ty : TypeId) (base : Nat) (g : Addr) (n : Nat) (xs : List Value) (ho : OwnC w base e size (.slice (some g) n n) n xs) (A : Option Addr) (m c : Nat) (ms : List Value)
    (hm : Cells w A ms) (hml : ms.length = m * size) (h0 : 0 < m) (hlen : n + m ≤ 1000000) (hbase : base ≤ w.heap.size) :
    ∃ v' w', (Builtin.append_ #[t, t] ty #[.slice (some g) n n, .slice A m c]).run Tryz.prog w = .ok v' w' ∧ OwnC w' base e size v' (n + m) (xs ++ ms) ∧ Below w.heap.size w w' := by
  obtain ⟨i, h2, h3, h4, h5⟩ := info_parts T.info
  have hbytes : (n + m) * bytes ≤ 140737488355328 := by
    have := Nat.mul_le_mul hlen T.small
    omega
  have hpos := T.pos
  have hms0 : 0 < ms.length := by rw [hml]; exact Nat.mul_pos h0 hpos
  obtain ⟨b, o, rfl, hb, hc⟩ := hm.some hms0
  have hnews : ∀ (j : Nat) u, ms[j]? = some u → w.cell? ((⟨b, o, none⟩ : Addr).add j) = some u := by
    intro j u hu
    have hadd : (⟨b, o, none⟩ : Addr).add j = ⟨b, o + j, none⟩ := by unfold Addr.add; split <;> simp_all
    rw [hadd]
    exact hc j u hu
  rcases ho.2 with ⟨hv, -⟩ | ⟨g', cap, cur, hv, hbg, hg, hnc, hcm, hcs, htake⟩
  · cases hv
  · have hcap : n = cap ∧ g = ⟨g', 0, none⟩ := by
      simp only [Value.slice.injEq, Option.some.injEq] at hv
      exact ⟨hv.2.2, hv.1⟩
    obtain ⟨rfl, rfl⟩ := hcap
    have holds : ∀ j u, xs[j]? = some u → w.cell? ((⟨g', 0, none⟩ : Addr).add j) = some u := World.ownsRow.cells ho (g := g') rfl
    have hxl := ho.1
    have hsmall : n + m ≤ maxLen := by unfold maxLen; omega
    have hge := grownCap_ge w (n + m) n e
    refine ⟨_, _, run_append_grow (P := Tryz.prog) w t ty e i z T.under h2 h3 ⟨g', 0, none⟩ n n xs (by rw [h4]; exact hxl) holds ⟨b, o, none⟩ m c ms (by rw [h4]; exact hml) hnews (by omega) (by omega) (growslice_fits (by omega) (by rw [h5]; exact hbytes)), ?_, ?_⟩
    · refine ⟨by rw [List.length_append, hxl, hml, Nat.add_mul], .inr ⟨w.heap.size, _, _, rfl, hbase, heap_alloc_new w.drew _, hge, grownCap_le_maxLen w (n + m) n e hsmall, ?_, ?_⟩⟩
      · simp only [Array.size_append, List.size_toArray, size_zeroCells, T.cells, hxl, hml, ← Nat.add_mul]
        refine congrArg (fun x => x * size) ?_
        omega
      · have hlen' : (xs ++ ms).length = (n + m) * size := by rw [List.length_append, hxl, hml, Nat.add_mul]
        simp only [Array.toList_append, List.append_assoc]
        rw [← List.append_assoc, ← hlen']
        exact List.take_left
    · exact (Below.refl _ _).drew.alloc (Nat.le_refl _) _

/-- append onto a row that is full makes a new row, or nothing: what was there stands. -/
theorem append_full {w : World} {t e : TypeId} {z : Value} {size bytes : Nat} (T : ElemT t e z size bytes) (ty : TypeId) (base : Nat) (g : Addr) (n : Nat) (xs : List Value) (ho : OwnC w base e size (.slice (some g) n n) n xs) (A : Option Addr) (m c : Nat) (ms : List Value)
    (hm : Cells w A ms) (hml : ms.length = m * size) (hA : A = none → c = 0) (hlen : n + m ≤ 1000000) (hbase : base ≤ w.heap.size) :
    ∃ v' w', (Builtin.append_ #[t, t] ty #[.slice (some g) n n, .slice A m c]).run Tryz.prog w = .ok v' w' ∧ OwnC w' base e size v' (n + m) (xs ++ ms) ∧ Below w.heap.size w w' := by
  rcases Nat.eq_zero_or_pos m with h0 | h0
  · subst h0
    have hms : ms = [] := List.eq_nil_of_length_eq_zero (by omega)
    subst hms
    rw [List.append_nil, Nat.add_zero]
    obtain ⟨i, h2, h3, h4, h5⟩ := info_parts T.info
    cases A with
    | none =>
      obtain rfl := hA rfl
      exact ⟨_, w, run_append_owned_none (P := Tryz.prog) (w := w) base t ty e i size T.under h2 _ n xs ho, ho, Below.refl _ _⟩
    | some a =>
      refine ⟨.slice (some g) n n, w, ?_, ho, Below.refl _ _⟩
      have hf := run_firstCells_some (P := Tryz.prog) w i.size 0 a 0 c [] (by simp) (by simp)
      simp [Builtin.append_, run_underlying T.under, sizeOf, typeInfo, h2, Builtin.lenOf, hf, storeCells]
  · exact append_full1 T ty base g n xs ho A m c ms hm hml h0 hlen hbase

/-- append, with the block named: the row's own, or a new one. -/
theorem append_named {w : World} {t e : TypeId} {z : Value} {size bytes : Nat} (T : ElemT t e z size bytes) (ty : TypeId) (base : Nat) (v : Value) (n : Nat) (xs : List Value) (ho : OwnC w base e size v n xs) (A : Option Addr) (m c : Nat) (ms : List Value)
    (hm : Cells w A ms) (hml : ms.length = m * size) (h1 : ∀ u ∈ ms, u.oneCell' = true) (hm0 : 0 < m) (hlen : n + m ≤ 1000000) (hbase : base ≤ w.heap.size) :
    ∃ v' w', (Builtin.append_ #[t, t] ty #[v, .slice A m c]).run Tryz.prog w = .ok v' w' ∧ OwnC w' base e size v' (n + m) (xs ++ ms) ∧ w.grownBy w' v.ownBlock ∧ (v'.ownBlock = v.ownBlock ∨ v'.ownBlock = some w.heap.size) := by
  obtain ⟨i, h2, h3, h4, h5⟩ := info_parts T.info
  have hbytes : (n + m) * bytes ≤ 140737488355328 := by
    have := Nat.mul_le_mul hlen T.small
    omega
  have hpos := T.pos
  have hms0 : 0 < ms.length := by rw [hml]; exact Nat.mul_pos hm0 hpos
  obtain ⟨b, o, rfl, hb, hc⟩ := hm.some hms0
  have hnews : ∀ (j : Nat) u, ms[j]? = some u → w.cell? ((⟨b, o, none⟩ : Addr).add j) = some u := by
    intro j u hu
    have hadd : (⟨b, o, none⟩ : Addr).add j = ⟨b, o + j, none⟩ := by unfold Addr.add; split <;> simp_all
    rw [hadd]
    exact hc j u hu
  have hsmall : n + m ≤ maxLen := by unfold maxLen; omega
  have hxl := ho.1
  have hlen' : (xs ++ ms).length = (n + m) * size := by rw [List.length_append, hxl, hml, Nat.add_mul]
  have grown : ∀ (old : Nat) (row : Option Nat),
      (w.drew.alloc (.cells (xs.toArray ++ ms.toArray ++ Builtin.zeroCells z.cells (grownCap w (n + m) old e - (n + m))) e)).ownsRow base e size
        (.slice (some ⟨w.heap.size, 0, none⟩) (n + m) (grownCap w (n + m) old e)) (n + m) (xs ++ ms) ∧
      w.grownBy (w.drew.alloc (.cells (xs.toArray ++ ms.toArray ++ Builtin.zeroCells z.cells (grownCap w (n + m) old e - (n + m))) e)) row := by
    intro old row
    have hge := grownCap_ge w (n + m) old e
    refine ⟨⟨hlen', .inr ⟨w.heap.size, _, _, rfl, hbase, heap_alloc_new w.drew _, hge, grownCap_le_maxLen w (n + m) old e hsmall, ?_, ?_⟩⟩, ⟨rfl, rfl, rfl, by simp, fun k hk _ => heap_alloc_old w.drew _ hk⟩⟩
    · simp only [Array.size_append, List.size_toArray, size_zeroCells, T.cells, hxl, hml, ← Nat.add_mul]
      refine congrArg (fun x => x * size) ?_
      omega
    · simp only [Array.toList_append, List.append_assoc]
      rw [← List.append_assoc, ← hlen']
      exact List.take_left
  rcases ho.2 with ⟨rfl, rfl⟩ | ⟨g, cap, cur, rfl, hbg, hg, hnc, hcm, hcs, htake⟩
  · have hx : xs = [] := List.eq_nil_of_length_eq_zero (by simpa using hxl)
    subst hx
    have hr := run_append_nil (P := Tryz.prog) w t ty e i z T.under h2 h3 ⟨b, o, none⟩ m c ms (by rw [h4]; exact hml) hnews (by omega) (by omega) (by rw [h5]; simp only [Nat.zero_add] at hbytes; omega)
    have hgr := grown 0 (Value.ownBlock (.slice none 0 0))
    simp only [Nat.zero_add, List.nil_append, Array.empty_append] at hgr ⊢
    exact ⟨_, _, hr, hgr.1, hgr.2, Or.inr rfl⟩
  · by_cases hroom : n + m ≤ cap
    · have hfit : n * i.size + ms.length ≤ cur.size := by rw [h4, hml, hcs, ← Nat.add_mul]; exact Nat.mul_le_mul_right _ hroom
      have hr := run_append_room (P := Tryz.prog) w t ty e i T.under h2 g n cap cur hg ⟨b, o, none⟩ m c ms (by rw [h4]; exact hml) hnews h1 hroom hfit
      rw [h4] at hr hfit
      refine ⟨_, _, hr, ⟨hlen', .inr ⟨g, cap, _, rfl, hbg, setRow_heap w g cur _ e _ hg, hroom, hcm, ?_, ?_⟩⟩, ⟨rfl, rfl, rfl, by simp, fun k _ hk => setRow_other w g k _ (fun e => hk (by simp [Value.ownBlock, e]))⟩, Or.inl rfl⟩
      · simp only [List.size_toArray, List.length_append, List.length_take, List.length_drop, Array.length_toList]
        omega
      · rw [htake, ← hlen']
        exact List.take_left
    · have holds : ∀ j u, xs[j]? = some u → w.cell? ((⟨g, 0, none⟩ : Addr).add j) = some u := World.ownsRow.cells ho (g := g) rfl
      have hr := run_append_grow (P := Tryz.prog) w t ty e i z T.under h2 h3 ⟨g, 0, none⟩ n cap xs (by rw [h4]; exact hxl) holds ⟨b, o, none⟩ m c ms (by rw [h4]; exact hml) hnews (by omega) (by omega) (growslice_fits (by omega) (by rw [h5]; exact hbytes))
      have hgr := grown cap (Value.ownBlock (.slice (some ⟨g, 0, none⟩) n cap))
      exact ⟨_, _, hr, hgr.1, hgr.2, Or.inr rfl⟩

theorem wpList_append_n {t e : TypeId} {z : Value} {size bytes : Nat} (T : ElemT t e z size bytes) {w : World} {ops : Array Oper} {rest : List Oper} {o : Oper} {a : Act} {Q : Exit → Act → World → Prop} (hgd : o.guard = none) (s x : Operand)
    (hop : o.op = .call { callee := .builtin .append, args := #[s, x], argTypes := #[t, t] })
    (base : Nat) (v : Value) (n : Nat) (xs : List Value) (hs : a.eval s = v) (ho : OwnC w base e size v n xs) (A : Option Addr) (m c : Nat) (ms : List Value) (hx : a.eval x = .slice A m c)
    (hm : Cells w A ms) (hml : ms.length = m * size) (h1 : ∀ u ∈ ms, u.oneCell' = true) (hm0 : 0 < m) (hlen : n + m ≤ 1000000) (hbase : base ≤ w.heap.size)
    (h : ∀ v' w', OwnC w' base e size v' (n + m) (xs ++ ms) → w.grownBy w' v.ownBlock → (v'.ownBlock = v.ownBlock ∨ v'.ownBlock = some w.heap.size) → wpList Tryz.prog ops Q rest (a.put o.dst v') w') : wpList Tryz.prog ops Q (o :: rest) a w := by
  refine wpList_plain hgd fun K hK => ?_
  obtain ⟨v', w', hrun, g1, g2, g3⟩ := append_named T o.type base v n xs ho A m c ms hm hml h1 hm0 hlen hbase
  unfold Oper.wp
  simp [execOp, hop, resolve, invoke, builtin, hs, hx, hrun, Result.andThen]
  exact hK _ _ (h v' w' g1 g2 g3)

theorem wpList_append_g {t e : TypeId} {z : Value} {size bytes : Nat} (T : ElemT t e z size bytes) {w : World} {ops : Array Oper} {rest : List Oper} {o : Oper} {a : Act} {Q : Exit → Act → World → Prop} (hgd : o.guard = none) (s x : Operand)
    (hop : o.op = .call { callee := .builtin .append, args := #[s, x], argTypes := #[t, t] })
    (base : Nat) (v : Value) (n : Nat) (xs : List Value) (hs : a.eval s = v) (ho : OwnC w base e size v n xs) (A : Option Addr) (m c : Nat) (ms : List Value) (hx : a.eval x = .slice A m c)
    (hm : Cells w A ms) (hml : ms.length = m * size) (h1 : ∀ u ∈ ms, u.oneCell' = true) (hA : A = none → c = 0) (hlen : n + m ≤ 1000000) (hbase : base ≤ w.heap.size)
    (h : ∀ v' w', OwnC w' base e size v' (n + m) (xs ++ ms) → w.grownBy w' v.ownBlock → wpList Tryz.prog ops Q rest (a.put o.dst v') w') : wpList Tryz.prog ops Q (o :: rest) a w := by
  refine wpList_plain hgd fun K hK => ?_
  obtain ⟨v', w', hrun, g1, g2⟩ := append_runs_g T o.type base v n xs ho A m c ms hm hml h1 hA hlen hbase
  unfold Oper.wp
  simp [execOp, hop, resolve, invoke, builtin, hs, hx, hrun, Result.andThen]
  exact hK _ _ (h v' w' g1 g2)

/-- The same as one step of a region that draws. -/
theorem step_append_g {t e : TypeId} {z : Value} {size bytes : Nat} (T : ElemT t e z size bytes) {w : World} {ops : Array Oper} {o : Oper} {a : Act} {K : Act → World → Prop} {Q : Exit → Act → World → Prop} {E : Prop} (hgd : o.guard = none) (s x : Operand)
    (hop : o.op = .call { callee := .builtin .append, args := #[s, x], argTypes := #[t, t] })
    (base : Nat) (v : Value) (n : Nat) (xs : List Value) (hs : a.eval s = v) (ho : OwnC w base e size v n xs) (A : Option Addr) (m c : Nat) (ms : List Value) (hx : a.eval x = .slice A m c)
    (hm : Cells w A ms) (hml : ms.length = m * size) (h1 : ∀ u ∈ ms, u.oneCell' = true) (hA : A = none → c = 0) (hlen : n + m ≤ 1000000) (hbase : base ≤ w.heap.size)
    (h : ∀ v' w', OwnC w' base e size v' (n + m) (xs ++ ms) → w.grownBy w' v.ownBlock → K (a.put o.dst v') w') :
    if Region.wanted o (yielded ops a.tmps) = true then Oper.wp Tryz.prog o a w K Q else E := by
  have hw : Region.wanted o (yielded ops a.tmps) = true := by simp [Region.wanted, hgd]
  rw [if_pos hw]
  obtain ⟨v', w', hrun, g1, g2⟩ := append_runs_g T o.type base v n xs ho A m c ms hm hml h1 hA hlen hbase
  unfold Oper.wp
  simp [execOp, hop, resolve, invoke, builtin, hs, hx, hrun, Result.andThen]
  exact h v' w' g1 g2

end Go.Proofs.YthdagjlgfffpbaaGreat
