/-
  Layer 5 (conf): few records are few; every cell keeps its kind. By the verifier.
-/
import Derived.Test.YthdagjlgfffpbaaGreatGFew
import Derived.Test.YthdagjlgfffpbaaGreatGKeys
import Derived.Test.YthdagjlgfffpbaaGreatPSam
import Derived.Test.YthdagjlgfffpbaaGreatPCln
set_option linter.unusedVariables false
namespace Go.Proofs.YthdagjlgfffpbaaGreat
open Go.RowKit

theorem sum_part {l : List Nat} {x : Nat} (h : x ∈ l) : x ≤ l.sum := by
  induction l with
  | nil => cases h
  | cons a l ih =>
    rw [List.sum_cons]
    cases List.mem_cons.1 h with
    | inl e => omega
    | inr e => have := ih e; omega

theorem few_small {c : ConfR} (hf : fewV c = true) (hb : c.ps.length + c.ws.length + c.rs.length + c.ts.length + c.cs.length + c.links ≤ 1048576) : Small c 1000 ∧ Short c ∧ Ds c := by
  unfold fewV at hf
  simp only [Bool.and_eq_true, List.all_eq_true, decide_eq_true_eq] at hf
  obtain ⟨h1, h2, h3⟩ := hf
  unfold ConfR.total at h3
  have hw : wrap64 (c.links : Int) = (c.links : Int) := wrap_small (by omega) (by omega)
  rw [hw, wrap_small (by omega) (by omega)] at h3
  have hd : ∀ x ∈ c.cs, x.dests.length ≤ 1000 := fun x hx => by
    have : x.dests.length ≤ c.links := sum_part (List.mem_map_of_mem (f := fun d : ChanR => d.dests.length) hx)
    omega
  exact ⟨⟨by omega, by omega, by omega, by omega, by omega, hd⟩, ⟨by omega, by omega, by omega, by omega, by omega, hd, fun p hp => by have := h1 p hp; omega, fun p hp => by have := h2 p hp; omega⟩, hd⟩

/-- Of the cells that there were, the numbers are still numbers, the others stand; the blocks below B stand. -/
structure Kin (B : Nat) (w0 w : World) : Prop where
  below : Below B w0 w
  old : ∀ a v, w0.cell? a = some v → (∀ k x, v ≠ .int k x) → w.cell? a = some v
  num : ∀ a k x, w0.cell? a = some (.int k x) → ∃ y, w.cell? a = some (.int k y)
  free : ∀ b i, b < w0.heap.size → w0.frozen? ⟨b, i, none⟩ = false → w.frozen? ⟨b, i, none⟩ = false

theorem Kin.refl (B : Nat) (w : World) : Kin B w w := ⟨Below.refl _ _, fun _ _ h _ => h, fun _ _ x h => ⟨x, h⟩, fun _ _ _ h => h⟩

theorem Kin.alloc {B : Nat} {w0 w : World} (h : Kin B w0 w) (hB : B ≤ w.heap.size) (hs : w0.heap.size ≤ w.heap.size) (o : Obj) : Kin B w0 (w.alloc o) := by
  have hb : Below w.heap.size w (w.alloc o) := (Below.refl _ _).alloc (Nat.le_refl _) _
  have hc : ∀ a v, w.cell? a = some v → (w.alloc o).cell? a = some v := fun a v hv => by
    have hlt := World.block_lt_of_cell? w a hv
    unfold World.cell? at hv ⊢
    rw [hb.block _ hlt]
    exact hv
  refine ⟨h.below.alloc hB o, fun a v h1 h2 => hc _ _ (h.old a v h1 h2), fun a k x h1 => ?_, fun b i hlt hf => ?_⟩
  · obtain ⟨y, hy⟩ := h.num a k x h1
    exact ⟨y, hc _ _ hy⟩
  · have := h.free b i hlt hf
    unfold World.frozen? at this ⊢
    have e : (w.alloc o).heap[(⟨b, i, none⟩ : Addr).block]? = w.heap[(⟨b, i, none⟩ : Addr).block]? := hb.block _ (by show b < _; omega)
    rw [e]
    exact this

theorem Kin.set {B : Nat} {w0 w : World} (h : Kin B w0 w) {b i : Nat} {k : IntKind} {x y : Int} (hB : B ≤ b) (hx : w0.cell? ⟨b, i, none⟩ = some (.int k x)) : Kin B w0 (w.setCell ⟨b, i, none⟩ (.int k y)) := by
  obtain ⟨z, hz⟩ := h.num _ _ _ hx
  have hne : ∀ a v, w0.cell? a = some v → (∀ k x, v ≠ .int k x) → (⟨b, i, none⟩ : Addr) ≠ a := fun a v h1 h2 e => by
    subst e
    rw [hx] at h1
    injection h1 with h1
    exact h2 _ _ h1.symm
  refine ⟨⟨h.below.os, h.below.tape, h.below.output, by simp; exact h.below.size, fun g hg => (heap_setCell_other w _ g _ (by show g ≠ b; omega)).trans (h.below.block g hg)⟩, fun a v h1 h2 => ?_, fun a k' x' h1 => ?_, fun b' i' hlt hf => ?_⟩
  · rw [World.cell?_setCell_other w _ a _ (hne a v h1 h2)]
    exact h.old a v h1 h2
  · by_cases e : (⟨b, i, none⟩ : Addr) = a
    · subst e
      rw [hx] at h1
      injection h1 with h1
      injection h1 with h1 h3
      subst h1
      exact ⟨y, World.cell?_setCell_same w _ _ hz⟩
    · rw [World.cell?_setCell_other w _ a _ e]
      exact h.num a k' x' h1
  · have := h.free b' i' hlt hf
    rw [World.frozen?_setCell]
    exact this

theorem Kin.trans {B : Nat} {a b c : World} (h : Kin B a b) (k : Kin B b c) : Kin B a c :=
  ⟨h.below.trans k.below, fun ad v h1 h2 => k.old ad v (h.old ad v h1 h2) h2, fun ad kd x h1 => by
    obtain ⟨y, hy⟩ := h.num ad kd x h1
    exact k.num ad kd y hy, fun b i hlt hf => k.free b i (Nat.lt_of_lt_of_le hlt h.below.size) (h.free b i hlt hf)⟩

/-- A row of the call's own lies above its base and is not frozen. -/
theorem own_free {w : World} {base : Nat} {e : TypeId} {k m c n : Nat} {b o : Nat} {cs : List Value} (h : OwnC w base e k (.slice (some ⟨b, o, none⟩) m c) n cs) : base ≤ b ∧ b < w.heap.size ∧ ∀ i, w.frozen? ⟨b, i, none⟩ = false := by
  obtain ⟨h1, h2⟩ := own_lt h (b := b) rfl
  refine ⟨h1, h2, fun i => ?_⟩
  rcases h.2 with ⟨hv, hn⟩ | ⟨g, cap, cur, hv, hb, hg, hnc, hcm, hcs, htk⟩
  · cases hv
  · injection hv with hv1 hv2 hv3
    injection hv1 with hv1
    injection hv1 with hv4 hv5
    subst hv4 hv5 hv2 hv3
    exact World.ownsRow.frozenAt h i

/-- The first number of a record, whatever else has been added to. -/
theorem kin_rec {α : Type} {B : Nat} {w0 : World} {e : TypeId} {k : Nat} {A : Option Addr} {c : Nat} {l : List α} {f : α → List Value} {kd : IntKind} (ho : OwnC w0 B e k (.slice A l.length c) l.length (l.flatMap f)) (hr : Recs w0 A c l f) (hf : ∀ x, (f x).length = k) (hk : 0 < k)
    (h0 : ∀ x, ∃ z, (f x)[0]? = some (.int kd z)) {i : Nat} (hi : i < l.length) :
    ∃ b o, A = some ⟨b, o, none⟩ ∧ ∀ W, Kin B w0 W → ∃ z, W.cell? ⟨b, o + i * k, none⟩ = some (.int kd z) ∧ W.frozen? ⟨b, o + i * k, none⟩ = false ∧ ∀ y, Kin B w0 (W.setCell ⟨b, o + i * k, none⟩ (.int kd y)) := by
  obtain ⟨b, o, rfl, hb, hc⟩ := hr.at k hf hk hi
  obtain ⟨h1, h2, h3⟩ := own_free ho
  obtain ⟨z, hz⟩ := h0 l[i]
  have hx : w0.cell? ⟨b, o + i * k, none⟩ = some (.int kd z) := hc 0 _ hz
  refine ⟨b, o, rfl, fun W hW => ?_⟩
  obtain ⟨y, hy⟩ := hW.num _ _ _ hx
  exact ⟨y, hy, hW.free _ _ h2 (h3 _), fun y => hW.set h1 hx⟩

/-- The destinations of a channel. -/
theorem kin_dest {B : Nat} {w0 : World} {e : TypeId} {A : Option Addr} {c : Nat} {l : List Nat} (ho : OwnC w0 B e 1 (.slice A l.length c) l.length (l.map U16)) {i : Nat} (hi : i < l.length) :
    ∃ b o, A = some ⟨b, o, none⟩ ∧ ∀ W, Kin B w0 W → ∃ z, W.cell? ⟨b, o + i, none⟩ = some (.int .u16 z) ∧ W.frozen? ⟨b, o + i, none⟩ = false ∧ ∀ y, Kin B w0 (W.setCell ⟨b, o + i, none⟩ (.int .u16 y)) := by
  obtain ⟨A', c', hv, hcl, -⟩ := ho.cells
  injection hv with hv1 hv2 hv3
  subst hv1 hv3
  obtain ⟨b, o, rfl, hb, hc⟩ := hcl.some (by rw [List.length_map]; omega)
  obtain ⟨h1, h2, h3⟩ := own_free ho
  have hx : w0.cell? ⟨b, o + i, none⟩ = some (.int .u16 (l[i] : Int)) := hc i _ (by rw [List.getElem?_map, List.getElem?_eq_getElem hi]; rfl)
  refine ⟨b, o, rfl, fun W hW => ?_⟩
  obtain ⟨y, hy⟩ := hW.num _ _ _ hx
  exact ⟨y, hy, hW.free _ _ h2 (h3 _), fun y => hW.set h1 hx⟩

/-- A channel: its numbers are numbers, its destinations lie where they lay. -/
theorem kin_chan {B : Nat} {w0 : World} {A : Option Addr} {c : Nat} {l : List ChanC} (hr : Recs w0 A c l chanV) {i : Nat} (hi : i < l.length) :
    ∃ b o, A = some ⟨b, o, none⟩ ∧ ∀ W, Kin B w0 W → ∃ z0 z1, W.cell? ⟨b, o + i * 3, none⟩ = some (.int .u16 z0) ∧ W.cell? ⟨b, o + i * 3 + 1, none⟩ = some (.int .u16 z1) ∧ W.cell? ⟨b, o + i * 3 + 2, none⟩ = some (.slice l[i].A l[i].r.dests.length l[i].cap) := by
  obtain ⟨b, o, rfl, hb, hc⟩ := hr.at 3 chanV_len (by omega) hi
  refine ⟨b, o, rfl, fun W hW => ?_⟩
  obtain ⟨z0, h0⟩ := hW.num _ _ _ (hc 0 _ rfl)
  obtain ⟨z1, h1⟩ := hW.num _ _ _ (hc 1 _ rfl)
  exact ⟨z0, z1, h0, h1, hW.old _ _ (hc 2 _ rfl) (fun k x h => by cases h)⟩

/-- A struct is read as a whole, in a region by an invariant. -/
theorem inv_cfg {w : World} {ops : Array Oper} {o : Oper} {a : Act} {K : Act → World → Prop} {Q : Exit → Act → World → Prop} {E : Prop} (hw : Region.wanted o (yielded ops a.tmps) = true) (x : Operand) (ho : o.op = .load 30 x) (g : Nat) (hx : a.eval x = .pointer (some ⟨g, 0, none⟩)) (cs : Array Value)
    (hs : cs.size = 6) (hg : w.heap[g]? = some (.cells cs 30)) (h : K (a.put o.dst (.agg cs)) w) : if Region.wanted o (yielded ops a.tmps) = true then Oper.wp Tryz.prog o a w K Q else E := by
  rw [if_pos hw]
  exact wp_load_row 30 x ho g hx 30 cs (0, 0) _ hg Tryz.underlying30 rfl (by rw [hs]; kernel_rfl) h

theorem keptOwn {w w' : World} {base : Nat} {c : ConfR} {q : CfgQ} (h : OwnCfg w base c q) (hb : Below w.heap.size w w') : OwnCfg w' base c q :=
  ⟨h.ps.below hb, h.ws.below hb, h.rs.below hb, h.ts.below hb, h.cs.below hb, h.ch, fun x hx => (h.ds x hx).below hb, h.sep⟩

end Go.Proofs.YthdagjlgfffpbaaGreat
