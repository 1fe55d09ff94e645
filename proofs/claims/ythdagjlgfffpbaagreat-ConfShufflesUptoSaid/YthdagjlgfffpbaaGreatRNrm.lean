/-
  Layer 5 (conf): the reference's Normal. By the verifier.
-/
import Derived.Test.YthdagjlgfffpbaaGreatRNs
set_option linter.unusedVariables false
namespace Go.Proofs.YthdagjlgfffpbaaGreat
open Go.RowKit

/-- A channel that is being built: its destinations sorted, in a slice of the region's own. -/
def isCh (V : World) (x : ChanC) : Value → World → Prop := fun v w => ∃ A c, v = .agg #[.int .u16 (x.r.id : Int), .int .u16 (x.r.src : Int), .slice A x.r.dests.length c] ∧ OwnC w V.heap.size 32 1 (.slice A x.r.dests.length c) x.r.dests.length ((sortU x.r.dests).map U16)
theorem isCh_keeps (V : World) (x : ChanC) : Keeps (isCh V x) := fun v w w' ⟨A, c, h1, h2⟩ hb => ⟨A, c, h1, h2.below hb⟩
theorem isCh_x {X : Nat → Prop} {V : World} (hX : ∀ b, X b → b < V.heap.size) (x : ChanC) : KeepsX X (isCh V x) := fun v w w' ⟨A, c, h1, h2⟩ ht => ⟨A, c, h1, isRow_x hX _ _ _ _ _ _ _ h2 ht⟩

/-- The literal with one such channel. -/
def isL (V : World) (x : ChanC) : Value → World → Prop := fun v w => ∃ y : ChanC, y.r = srtR x.r ∧ OwnC w V.heap.size 32 1 (.slice y.A y.r.dests.length y.cap) y.r.dests.length (y.r.dests.map U16) ∧ OwnC w V.heap.size 34 3 v 1 (chanV y) ∧ True
theorem isL_keeps (V : World) (x : ChanC) : Keeps (isL V x) := fun v w w' ⟨y, h1, h2, h3, h4⟩ hb => ⟨y, h1, h2.below hb, h3.below hb, h4⟩
theorem isL_x {X : Nat → Prop} {V : World} (hX : ∀ b, X b → b < V.heap.size) (x : ChanC) : KeepsX X (isL V x) := fun v w w' ⟨y, h1, h2, h3, h4⟩ ht => ⟨y, h1, isRow_x hX _ _ _ _ _ _ _ h2 ht, isRow_x hX _ _ _ _ _ _ _ h3 ht, h4⟩
theorem isL_mk {V W : World} {x : ChanC} {A : Option Addr} {c : Nat} (h : OwnC W V.heap.size 32 1 (.slice A x.r.dests.length c) x.r.dests.length ((sortU x.r.dests).map U16)) (hs : V.heap.size ≤ W.heap.size) :
    isL V x (.slice (some ⟨W.heap.size, 0, none⟩) 1 1) (W.alloc (.cells #[.int .u16 (x.r.id : Int), .int .u16 (x.r.src : Int), .slice A x.r.dests.length c] 34)) := by
  have hb : Below W.heap.size W (W.alloc (.cells #[.int .u16 (x.r.id : Int), .int .u16 (x.r.src : Int), .slice A x.r.dests.length c] 34)) := (Below.refl _ _).alloc (Nat.le_refl _) _
  have e : (srtR x.r).dests.length = x.r.dests.length := sortU_len _
  refine ⟨⟨srtR x.r, A, c⟩, rfl, ?_, ?_, trivial⟩
  · have := h.below hb
    show OwnC _ V.heap.size 32 1 (.slice A (sortU x.r.dests).length c) (sortU x.r.dests).length ((sortU x.r.dests).map U16)
    rw [sortU_len]
    exact this
  · have := (OwnC.lit W 34 3 1 #[.int .u16 (x.r.id : Int), .int .u16 (x.r.src : Int), .slice A x.r.dests.length c] (by unfold maxLen; omega) rfl).base hs
    rw [← e] at this ⊢
    exact this

/-- The channels with one more. -/
def isB (w : World) (cs : List ChanR) (k : Nat) : Value → World → Prop := fun v W => ∃ L, ChB w cs (k + 1) v L W
theorem ChB.more {w : World} {cs : List ChanR} {k : Nat} {v : Value} {L : List ChanC} {W W' : World} (h : ChB w cs k v L W) (hb : Below W.heap.size W W') : ChB w cs k v L W' :=
  ⟨h.own.below hb, h.rs, fun x hx => ⟨(h.ds x hx).1.below hb, (h.ds x hx).2⟩, h.below.trans (hb.mono h.below.size)⟩
theorem isB_keeps (w : World) (cs : List ChanR) (k : Nat) : Keeps (isB w cs k) := fun v W W' ⟨L, h⟩ hb => ⟨L, h.more hb⟩

/-- What an append onto a row of the box leaves. -/
def isA (w0 V : World) (r : RowD) (e : TypeId) (z : Nat) (xs : List Value) : Value → World → Prop := fun v W => Turn (XR r) V W ∧ OwnC W w0.heap.size e z v (r.n + 1) (r.cs ++ xs) ∧ ∀ b, v.ownBlock = some b → blk r.A = some b ∨ V.heap.size ≤ b
theorem isA_keeps (w0 V : World) (r : RowD) (e : TypeId) (z : Nat) (xs : List Value) : Keeps (isA w0 V r e z xs) := fun v W W' ⟨h1, h2, h3⟩ hb => ⟨h1.trans (Turn.of_below (S := XR r) hb) (fun _ _ e => e), h2.below hb, h3⟩
theorem isA_mk {w0 V W W' : World} {r : RowD} {e : TypeId} {z : Nat} {xs : List Value} {v' : Value} (hg : Turn (XR r) V W) (ht : Turn (XR r) W W') (ho : OwnC W' w0.heap.size e z v' (r.n + 1) (r.cs ++ xs)) (hn : v'.ownBlock = r.v.ownBlock ∨ v'.ownBlock = some W.heap.size) : isA w0 V r e z xs v' W' := by
  refine ⟨hg.trans ht (fun _ _ e => e), ho, fun b hb => ?_⟩
  rcases hn with hn | hn
  · rw [hb] at hn
    exact Or.inl (by rw [← own_blk r.A r.n r.c]; exact hn.symm)
  · rw [hb] at hn
    injection hn with hn
    have := hg.size
    exact Or.inr (by omega)

theorem alloc3_a (w : World) (a b c : Obj) : (((w.alloc a).alloc b).alloc c).heap[w.heap.size]? = some a := by
  have hb : Below (w.alloc a).heap.size (w.alloc a) (((w.alloc a).alloc b).alloc c) := ((Below.refl _ _).alloc (Nat.le_refl _) _).alloc (by simp) _
  rw [hb.block _ (by simp)]
  exact heap_alloc_new w a
theorem alloc3_b (w : World) (a b c : Obj) : (((w.alloc a).alloc b).alloc c).heap[w.heap.size + 1]? = some b := by
  have hb : Below ((w.alloc a).alloc b).heap.size ((w.alloc a).alloc b) (((w.alloc a).alloc b).alloc c) := (Below.refl _ _).alloc (Nat.le_refl _) _
  rw [hb.block _ (by simp)]
  exact alloc2_row w a b
theorem alloc3_c (w : World) (a b c : Obj) : (((w.alloc a).alloc b).alloc c).heap[w.heap.size + 1 + 1]? = some c := by
  have h := heap_alloc_new ((w.alloc a).alloc b) c
  have e : ((w.alloc a).alloc b).heap.size = w.heap.size + 1 + 1 := by simp
  rw [e] at h
  exact h

theorem far {w1 V W : World} {X : Nat → Prop} (hb : Below w1.heap.size w1 V) (ht : Turn X V W) (hX : ∀ b, X b → w1.heap.size ≤ b) : Below w1.heap.size w1 W := hb.trans (ht.below hX hb.size)

theorem ChB.add {w1 V W w' : World} {cs : List ChanR} {k : Nat} {sv v' : Value} {L : List ChanC} (h : ChB w1 cs k sv L V) (hk : k < cs.length) {x y : ChanC} (hx : x.r = cs[k]) (hy : y.r = srtR x.r)
    (hT : Turn (fun b => sv.ownBlock = some b) V W) (hyd : OwnC W V.heap.size 32 1 (.slice y.A y.r.dests.length y.cap) y.r.dests.length (y.r.dests.map U16)) (ht : Turn (fun b => sv.ownBlock = some b) W w')
    (ho : OwnC w' w1.heap.size 34 3 v' (L.length + 1) (L.flatMap chanV ++ chanV y)) (hn : v'.ownBlock = sv.ownBlock ∨ v'.ownBlock = some W.heap.size) : isB w1 cs k v' w' := by
  refine ⟨L ++ [y], h.next hk (by rw [hy, hx]) ?_ (hT.trans ht (fun _ _ e => e)) ho fun b hb => ?_⟩
  · refine OwnC.turn ht hyd fun b hb hv => ?_
    have h1 := (own_lt hyd (by rw [← own_blk y.A y.r.dests.length y.cap]; exact hb)).1
    have h2 := (World.ownsRow.lt h.own b hv).2
    omega
  · rcases hn with hn | hn
    · exact Or.inl (by rw [← hn]; exact hb)
    · rw [hb] at hn
      injection hn with hn
      have := hT.size
      refine Or.inr ⟨by omega, fun e => ?_⟩
      have := (own_lt hyd e).2
      omega

theorem meas9 {n k : Nat} (h : k < n) (hw : wrap64 ((k : Int) + 1) = (k : Int) + 1) : n - (intOf (.int .i64 (wrap64 ((k : Int) + 1)))).toNat < n - (intOf (.int .i64 (k : Int))).toNat := by
  rw [hw]
  simp only [intOf]
  omega

theorem keys_len {c : ConfR} (h : Short c) (s : Int) : (c.keys s).length ≤ 1000 := by
  unfold ConfR.keys
  have := h.ps
  have := h.ws
  have := h.rs
  have := h.ts
  have := h.cs
  repeat' split
  all_goals (simp; try omega)
theorem keysIn_of {B : Nat} {L : List (List Nat)} {hs : List Value} {sv : Value} {w : World} (h : KeyW B L hs sv w) : ∃ A c, sv = .slice A L.length c ∧ KeysIn w A L hs := by
  obtain ⟨A, c, hv, hc, -, -, hl, -⟩ := h.own.cells
  exact ⟨A, c, hv, hc, by omega, fun i hi => by
    obtain ⟨Ai, ci, h1, h2, -⟩ := h.each i hi
    exact ⟨Ai, ci, h1, h2⟩, h.small⟩
/-- The third loop's state. -/
def L3S (W3 : World) (N fr : Nat) (c : ConfR) (L : List ChanC) (I0 : Nat → List Nat) (s : Nat) (ord : List Nat) (ov : Value) (i : Nat) (V : World) : Prop := Hid (∃ R, L3 W3 N fr c L I0 s ord ov i R V)

set_option maxHeartbeats 16000000 in
set_option maxRecDepth 100000 in
theorem rnormal_ok (c : ConfR) (q : CfgQ) (w : World) (hc : CfgIn w c q) (hs : Short c) : Calls Tryz.prog 18 #[cfgV c q] w fun e w' => ∃ n qn, e = .returned (cfgV n qn) ∧ NormOf c n ∧ CfgIn w' n qn ∧ Below w.heap.size w w' := by
  obtain ⟨w1, hw1⟩ : ∃ w1, w1 = ((w.alloc (.cells (cfgA c q) 30)).alloc (.cells zeroC 30)).alloc (.cells #[.int .u64 (c.frame : Int), .slice none 0 0, .slice none 0 0, .slice none 0 0, .slice none 0 0, .slice none 0 0] 30) := ⟨_, rfl⟩
  have hbA : Below w.heap.size w (w.alloc (.cells (cfgA c q) 30)) := (Below.refl _ _).alloc (Nat.le_refl _) _
  have hb1 : Below w.heap.size w w1 := by rw [hw1]; exact ((hbA.alloc hbA.size _).alloc (by simp; omega) _)
  have hs1 : w1.heap.size = w.heap.size + 3 := by rw [hw1]; simp
  have hr0 : w1.heap[w.heap.size]? = some (.cells (cfgA c q) 30 (0, 0)) := by rw [hw1]; exact alloc3_a w _ _ _
  have hr1 : w1.heap[w.heap.size + 1]? = some (.cells zeroC 30 (0, 0)) := by rw [hw1]; exact alloc3_b w _ _ _
  have hr2 : w1.heap[w.heap.size + 1 + 1]? = some (.cells #[.int .u64 (c.frame : Int), .slice none 0 0, .slice none 0 0, .slice none 0 0, .slice none 0 0, .slice none 0 0] 30 (0, 0)) := by rw [hw1]; exact alloc3_c w _ _ _
  have hbox : ((w.alloc (.cells #[.int .u64 (c.frame : Int), .slice q.A1 c.ps.length q.c1, .slice q.A2 c.ws.length q.c2, .slice q.A3 c.rs.length q.c3, .slice q.A4 c.ts.length q.c4, .slice q.A5 c.cs.length q.c5] 30)).alloc (.cells #[.int .u64 0, .slice none 0 0, .slice none 0 0, .slice none 0 0, .slice none 0 0, .slice none 0 0] 30)).alloc (.cells #[.int .u64 (c.frame : Int), .slice none 0 0, .slice none 0 0, .slice none 0 0, .slice none 0 0, .slice none 0 0] 30) = w1 := hw1.symm
  have HBOX := Lib.hid hbox
  have HC0 := Lib.hid hc
  have HC1 := Lib.hid (hc.below (Nat.le_refl _) hb1)
  have HB1 := Lib.hid hb1
  have HS1 := Lib.hid hs1
  have HR0 := Lib.hid hr0
  have HR1 := Lib.hid hr1
  have HR2 := Lib.hid hr2
  have HSH := Lib.hid hs
  clear hc hw1 hbA hb1 hs1 hr0 hr1 hr2 hbox hs
  unfold cfgV
  go_enter Tryz.func18, Tryz.ntmps18
  go_wp2_with fail
  rw [HBOX.out]
  obtain ⟨n5, hn5⟩ : ∃ n5, n5 = c.cs.length := ⟨_, rfl⟩
  have HN5 : Hid (c.cs.length ≤ 1000) := Lib.hid HSH.out.cs
  clear hn5 n5
  have HB5 : Hid (∀ W, Below w1.heap.size w1 W → W.cell? ⟨w.heap.size, 5, none⟩ = some (.slice q.A5 c.cs.length q.c5)) := Lib.hid fun W hW => by
    rw [cell_of_row W w.heap.size 5 _ _ _ ((hW.block _ (by rw [HS1.out]; omega)).trans HR0.out)]
    rfl
  go_loopw [4, 5] (fun v4 v5 wr => ∃ (k : Nat) (sv : Value), sv = v4 ∧ v5 = .int .i64 (k : Int) ∧ k ≤ c.cs.length ∧ Hid (∃ L, ChB w1 c.cs k sv L wr)) (fun _ v5 _ => c.cs.length - (intOf v5).toNat)
  case atStart => exact ⟨0, _, rfl, by go_num, by omega, Lib.hid ⟨[], ChB.start _ _⟩⟩
  case round =>
    obtain ⟨k, sv, rfl, rfl, hk, ho⟩ := hrel
    obtain ⟨L, hL⟩ := ho.out
    have HL := Lib.hid hL
    have HLL : Hid (L.length = k ∧ k ≤ 1000) := Lib.hid ⟨hL.len hk, by have := HN5.out; omega⟩
    have y5 := HB5.out wr hL.below
    clear ho hL
    by_cases hlt : k < c.cs.length
    · have hki : (k : Int) < (c.cs.length : Int) := by omega
      have HWK : Hid (wrap64 ((k : Int) + 1) = (k : Int) + 1) := Lib.hid (by have := HLL.out; unfold wrap64; omega)
      obtain ⟨hsj, hsr⟩ := HC1.out.chan (i := k) hlt
      obtain ⟨b5, o5, hA5, hlt5, hcell⟩ := HC1.out.cs.at 3 chanV_len (by omega) (i := k) hsj
      have hsin := HC1.out.ds q.ch[k] (List.getElem_mem hsj)
      have hdl : (q.ch[k]).r.dests.length ≤ 1000 := by rw [hsr]; exact HSH.out.ds _ (List.getElem_mem hlt)
      generalize q.ch[k] = x at *
      obtain ⟨V, hV⟩ : ∃ V, V = wr := ⟨_, rfl⟩
      rw [← hV] at HL y5 ⊢
      have HXV : Hid (∀ b, (fun b => sv.ownBlock = some b) b → b < V.heap.size) := Lib.hid fun b hb => (World.ownsRow.lt HL.out.own b hb).2
      have HFAR : Hid (∀ W, Turn (fun b => sv.ownBlock = some b) V W → Below w1.heap.size w1 W) := Lib.hid fun W ht => far HL.out.below ht fun b hb => (World.ownsRow.lt HL.out.own b hb).1
      have HY5 : Hid (∀ W, Turn (fun b => sv.ownBlock = some b) V W → W.cell? ⟨w.heap.size, 5, none⟩ = some (.slice q.A5 c.cs.length q.c5)) := Lib.hid fun W ht => HB5.out W (HFAR.out W ht)
      have HX0 : Hid (∀ W, Turn (fun b => sv.ownBlock = some b) V W → W.cell? ⟨b5, o5 + k * 3, none⟩ = some (.int .u16 (x.r.id : Int))) := Lib.hid fun W ht => (bcell (HFAR.out W ht) _ _ hlt5).trans (hcell 0 _ rfl)
      have HX1 : Hid (∀ W, Turn (fun b => sv.ownBlock = some b) V W → W.cell? ⟨b5, o5 + k * 3 + 1, none⟩ = some (.int .u16 (x.r.src : Int))) := Lib.hid fun W ht => (bcell (HFAR.out W ht) _ _ hlt5).trans (hcell 1 _ rfl)
      have HX2 : Hid (∀ W, Turn (fun b => sv.ownBlock = some b) V W → W.cell? ⟨b5, o5 + k * 3 + 2, none⟩ = some (.slice x.A x.r.dests.length x.cap)) := Lib.hid fun W ht => (bcell (HFAR.out W ht) _ _ hlt5).trans (hcell 2 _ rfl)
      have HDE : Hid (∀ W, Turn (fun b => sv.ownBlock = some b) V W → Calls Tryz.prog 53 #[.slice x.A x.r.dests.length x.cap] W fun e w' => ∃ v, e = .returned v ∧ OwnC w' W.heap.size 32 1 v x.r.dests.length ((sortU x.r.dests).map U16) ∧ Below W.heap.size W w') := Lib.hid fun W ht => dests_ok x.r.dests x.A x.cap W (hsin.cells.below (Nat.le_refl _) (HFAR.out W ht)) hdl
      have HOW : Hid (∀ W, Below V.heap.size V W → OwnC W w1.heap.size 34 3 sv L.length (L.flatMap chanV)) := Lib.hid fun W hb => HL.out.own.below hb
      have HWS : Hid (∀ W, Turn (fun b => sv.ownBlock = some b) V W → w1.heap.size ≤ W.heap.size) := Lib.hid fun W ht => (HFAR.out W ht).size
      have HNX : Hid (∀ W, Turn (fun b => sv.ownBlock = some b) V W → ∀ y : ChanC, y.r = srtR x.r → OwnC W V.heap.size 32 1 (.slice y.A y.r.dests.length y.cap) y.r.dests.length (y.r.dests.map U16) → ∀ v' w', Turn (fun b => sv.ownBlock = some b) W w' → OwnC w' w1.heap.size 34 3 v' (L.length + 1) (L.flatMap chanV ++ chanV y) → (v'.ownBlock = sv.ownBlock ∨ v'.ownBlock = some W.heap.size) → isB w1 c.cs k v' w') := Lib.hid fun W hT y hy hyd v' w' ht ho hn => HL.out.add hlt hsr hy hT hyd ht ho hn
      have HA5 := Lib.hid hA5
      clear hsj hsr hcell hsin hdl hA5 hlt5 hV
      go_wp2_with fail
      clear y5
      refine region_invX V (fun b => sv.ownBlock = some b) 22 [41, 4] (by kernel_rfl) [(19, isV sv), (20, isV (.pointer (some ⟨w.heap.size, 5, none⟩))), (21, isV (.slice q.A5 c.cs.length q.c5)), (22, isV (.int .i64 (k : Int))), (26, isV (.pointer (some ⟨w.heap.size, 5, none⟩))), (27, isV (.slice q.A5 c.cs.length q.c5)), (28, isV (.int .i64 (k : Int))), (32, isV (.pointer (some ⟨w.heap.size, 5, none⟩))), (33, isV (.slice q.A5 c.cs.length q.c5)), (34, isV (.int .i64 (k : Int))), (23, isV (.pointer (some ⟨b5, o5 + k * 3, none⟩))), (24, isV (.pointer (some ⟨b5, o5 + k * 3, none⟩))), (25, isV (.int .u16 (x.r.id : Int))), (29, isV (.pointer (some ⟨b5, o5 + k * 3, none⟩))), (30, isV (.pointer (some ⟨b5, o5 + k * 3 + 1, none⟩))), (31, isV (.int .u16 (x.r.src : Int))), (35, isV (.pointer (some ⟨b5, o5 + k * 3, none⟩))), (36, isV (.pointer (some ⟨b5, o5 + k * 3 + 2, none⟩))), (37, isV (.slice x.A x.r.dests.length x.cap)), (38, isRow V.heap.size 32 1 x.r.dests.length ((sortU x.r.dests).map U16)), (39, isCh V x), (40, isL V x), (41, isB w1 c.cs k), (4, isB w1 c.cs k)] ⟨⟨isV_keeps _, fun _ => isV_x _ _⟩, ⟨isV_keeps _, fun _ => isV_x _ _⟩, ⟨isV_keeps _, fun _ => isV_x _ _⟩, ⟨isV_keeps _, fun _ => isV_x _ _⟩, ⟨isV_keeps _, fun _ => isV_x _ _⟩, ⟨isV_keeps _, fun _ => isV_x _ _⟩, ⟨isV_keeps _, fun _ => isV_x _ _⟩, ⟨isV_keeps _, fun _ => isV_x _ _⟩, ⟨isV_keeps _, fun _ => isV_x _ _⟩, ⟨isV_keeps _, fun _ => isV_x _ _⟩, ⟨isV_keeps _, fun _ => isV_x _ _⟩, ⟨isV_keeps _, fun _ => isV_x _ _⟩, ⟨isV_keeps _, fun _ => isV_x _ _⟩, ⟨isV_keeps _, fun _ => isV_x _ _⟩, ⟨isV_keeps _, fun _ => isV_x _ _⟩, ⟨isV_keeps _, fun _ => isV_x _ _⟩, ⟨isV_keeps _, fun _ => isV_x _ _⟩, ⟨isV_keeps _, fun _ => isV_x _ _⟩, ⟨isV_keeps _, fun _ => isV_x _ _⟩, ⟨isRow_keeps _ _ _ _ _, fun _ => isRow_x HXV.out _ _ _ _⟩, ⟨isCh_keeps _ _, fun _ => isCh_x HXV.out _⟩, ⟨isL_keeps _ _, fun _ => isL_x HXV.out _⟩, ⟨isB_keeps _ _ _, fun h => absurd (by simp) h⟩, ⟨isB_keeps _ _ _, fun h => absurd (by simp) h⟩, trivial⟩ (by kernel_rfl) ?_ ?_ (by kernel_rfl) ?_ ?_
      case refine_1 => exact Turn.of_below (Below.refl _ _).drew
      case refine_2 => exact (Below.refl _ _).drew
      case refine_3 =>
        refine ⟨?_, ?_, ?_, ?_, ?_, ?_, ?_, ?_, ?_, ?_, ?_, ?_, ?_, ?_, ?_, ?_, ?_, ?_, ?_, ?_, ?_, ?_, ?_, ?_, trivial⟩
        case refine_1 =>
          refine ⟨_, rfl, Nat.le_of_ble_eq_true rfl, fun listed a W hst hn hdep K hK => ?_⟩
          have e1 := hst.oldOf hn 4 (by kernel_rfl) rfl; simp only [Array.getD_eq_getD_getElem?] at e1
          go_simp
          exact hK _ _ (Or.inl (Below.refl _ _)) rfl
        case refine_2 =>
          refine ⟨_, rfl, Nat.le_of_ble_eq_true rfl, fun listed a W hst hn hdep K hK => ?_⟩
          have e1 := hst.oldOf hn 1 (by kernel_rfl) rfl; simp only [Array.getD_eq_getD_getElem?] at e1
          go_simp
          exact hK _ _ (Or.inl (Below.refl _ _)) rfl
        case refine_3 =>
          refine ⟨_, rfl, Nat.le_of_ble_eq_true rfl, fun listed a W hst hn hdep K hK => ?_⟩
          have dd := dep_of hdep 1 (by kernel_rfl); have e1 : a.tmps[20]?.getD undef = (.pointer (some ⟨w.heap.size, 5, none⟩)) := hst.fact 1 20 (by kernel_rfl) dd; clear dd
          have y5 := HY5.out W hst.glob
          go_simp
          exact hK _ _ (Or.inl (Below.refl _ _)) rfl
        case refine_4 =>
          refine ⟨_, rfl, Nat.le_of_ble_eq_true rfl, fun listed a W hst hn hdep K hK => ?_⟩
          have e1 := hst.oldOf hn 5 (by kernel_rfl) rfl; simp only [Array.getD_eq_getD_getElem?] at e1
          go_simp
          exact hK _ _ (Or.inl (Below.refl _ _)) rfl
        case refine_5 =>
          refine ⟨_, rfl, Nat.le_of_ble_eq_true rfl, fun listed a W hst hn hdep K hK => ?_⟩
          have dd := dep_of hdep 2 (by kernel_rfl); have e1 : a.tmps[21]?.getD undef = (.slice q.A5 c.cs.length q.c5) := hst.fact 2 21 (by kernel_rfl) dd; clear dd
          have dd := dep_of hdep 3 (by kernel_rfl); have e2 : a.tmps[22]?.getD undef = (.int .i64 (k : Int)) := hst.fact 3 22 (by kernel_rfl) dd; clear dd
          rw [HA5.out] at e1
          go_simp
          exact hK _ _ (Or.inl (Below.refl _ _)) rfl
        case refine_6 =>
          refine ⟨_, rfl, Nat.le_of_ble_eq_true rfl, fun listed a W hst hn hdep K hK => ?_⟩
          have dd := dep_of hdep 4 (by kernel_rfl); have e1 : a.tmps[23]?.getD undef = (.pointer (some ⟨b5, o5 + k * 3, none⟩)) := hst.fact 4 23 (by kernel_rfl) dd; clear dd
          go_simp
          exact hK _ _ (Or.inl (Below.refl _ _)) rfl
        case refine_7 =>
          refine ⟨_, rfl, Nat.le_of_ble_eq_true rfl, fun listed a W hst hn hdep K hK => ?_⟩
          have dd := dep_of hdep 5 (by kernel_rfl); have e1 : a.tmps[24]?.getD undef = (.pointer (some ⟨b5, o5 + k * 3, none⟩)) := hst.fact 5 24 (by kernel_rfl) dd; clear dd
          have y := HX0.out W hst.glob
          go_simp
          exact hK _ _ (Or.inl (Below.refl _ _)) rfl
        case refine_8 =>
          refine ⟨_, rfl, Nat.le_of_ble_eq_true rfl, fun listed a W hst hn hdep K hK => ?_⟩
          have e1 := hst.oldOf hn 1 (by kernel_rfl) rfl; simp only [Array.getD_eq_getD_getElem?] at e1
          go_simp
          exact hK _ _ (Or.inl (Below.refl _ _)) rfl
        case refine_9 =>
          refine ⟨_, rfl, Nat.le_of_ble_eq_true rfl, fun listed a W hst hn hdep K hK => ?_⟩
          have dd := dep_of hdep 7 (by kernel_rfl); have e1 : a.tmps[26]?.getD undef = (.pointer (some ⟨w.heap.size, 5, none⟩)) := hst.fact 7 26 (by kernel_rfl) dd; clear dd
          have y5 := HY5.out W hst.glob
          go_simp
          exact hK _ _ (Or.inl (Below.refl _ _)) rfl
        case refine_10 =>
          refine ⟨_, rfl, Nat.le_of_ble_eq_true rfl, fun listed a W hst hn hdep K hK => ?_⟩
          have e1 := hst.oldOf hn 5 (by kernel_rfl) rfl; simp only [Array.getD_eq_getD_getElem?] at e1
          go_simp
          exact hK _ _ (Or.inl (Below.refl _ _)) rfl
        case refine_11 =>
          refine ⟨_, rfl, Nat.le_of_ble_eq_true rfl, fun listed a W hst hn hdep K hK => ?_⟩
          have dd := dep_of hdep 8 (by kernel_rfl); have e1 : a.tmps[27]?.getD undef = (.slice q.A5 c.cs.length q.c5) := hst.fact 8 27 (by kernel_rfl) dd; clear dd
          have dd := dep_of hdep 9 (by kernel_rfl); have e2 : a.tmps[28]?.getD undef = (.int .i64 (k : Int)) := hst.fact 9 28 (by kernel_rfl) dd; clear dd
          rw [HA5.out] at e1
          go_simp
          exact hK _ _ (Or.inl (Below.refl _ _)) rfl
        case refine_12 =>
          refine ⟨_, rfl, Nat.le_of_ble_eq_true rfl, fun listed a W hst hn hdep K hK => ?_⟩
          have dd := dep_of hdep 10 (by kernel_rfl); have e1 : a.tmps[29]?.getD undef = (.pointer (some ⟨b5, o5 + k * 3, none⟩)) := hst.fact 10 29 (by kernel_rfl) dd; clear dd
          go_simp
          exact hK _ _ (Or.inl (Below.refl _ _)) rfl
        case refine_13 =>
          refine ⟨_, rfl, Nat.le_of_ble_eq_true rfl, fun listed a W hst hn hdep K hK => ?_⟩
          have dd := dep_of hdep 11 (by kernel_rfl); have e1 : a.tmps[30]?.getD undef = (.pointer (some ⟨b5, o5 + k * 3 + 1, none⟩)) := hst.fact 11 30 (by kernel_rfl) dd; clear dd
          have y := HX1.out W hst.glob
          go_simp
          exact hK _ _ (Or.inl (Below.refl _ _)) rfl
        case refine_14 =>
          refine ⟨_, rfl, Nat.le_of_ble_eq_true rfl, fun listed a W hst hn hdep K hK => ?_⟩
          have e1 := hst.oldOf hn 1 (by kernel_rfl) rfl; simp only [Array.getD_eq_getD_getElem?] at e1
          go_simp
          exact hK _ _ (Or.inl (Below.refl _ _)) rfl
        case refine_15 =>
          refine ⟨_, rfl, Nat.le_of_ble_eq_true rfl, fun listed a W hst hn hdep K hK => ?_⟩
          have dd := dep_of hdep 13 (by kernel_rfl); have e1 : a.tmps[32]?.getD undef = (.pointer (some ⟨w.heap.size, 5, none⟩)) := hst.fact 13 32 (by kernel_rfl) dd; clear dd
          have y5 := HY5.out W hst.glob
          go_simp
          exact hK _ _ (Or.inl (Below.refl _ _)) rfl
        case refine_16 =>
          refine ⟨_, rfl, Nat.le_of_ble_eq_true rfl, fun listed a W hst hn hdep K hK => ?_⟩
          have e1 := hst.oldOf hn 5 (by kernel_rfl) rfl; simp only [Array.getD_eq_getD_getElem?] at e1
          go_simp
          exact hK _ _ (Or.inl (Below.refl _ _)) rfl
        case refine_17 =>
          refine ⟨_, rfl, Nat.le_of_ble_eq_true rfl, fun listed a W hst hn hdep K hK => ?_⟩
          have dd := dep_of hdep 14 (by kernel_rfl); have e1 : a.tmps[33]?.getD undef = (.slice q.A5 c.cs.length q.c5) := hst.fact 14 33 (by kernel_rfl) dd; clear dd
          have dd := dep_of hdep 15 (by kernel_rfl); have e2 : a.tmps[34]?.getD undef = (.int .i64 (k : Int)) := hst.fact 15 34 (by kernel_rfl) dd; clear dd
          rw [HA5.out] at e1
          go_simp
          exact hK _ _ (Or.inl (Below.refl _ _)) rfl
        case refine_18 =>
          refine ⟨_, rfl, Nat.le_of_ble_eq_true rfl, fun listed a W hst hn hdep K hK => ?_⟩
          have dd := dep_of hdep 16 (by kernel_rfl); have e1 : a.tmps[35]?.getD undef = (.pointer (some ⟨b5, o5 + k * 3, none⟩)) := hst.fact 16 35 (by kernel_rfl) dd; clear dd
          go_simp
          exact hK _ _ (Or.inl (Below.refl _ _)) rfl
        case refine_19 =>
          refine ⟨_, rfl, Nat.le_of_ble_eq_true rfl, fun listed a W hst hn hdep K hK => ?_⟩
          have dd := dep_of hdep 17 (by kernel_rfl); have e1 : a.tmps[36]?.getD undef = (.pointer (some ⟨b5, o5 + k * 3 + 2, none⟩)) := hst.fact 17 36 (by kernel_rfl) dd; clear dd
          have y := HX2.out W hst.glob
          go_simp
          exact hK _ _ (Or.inl (Below.refl _ _)) rfl
        case refine_20 =>
          refine ⟨_, rfl, Nat.le_of_ble_eq_true rfl, fun listed a W hst hn hdep K hK => ?_⟩
          have dd := dep_of hdep 18 (by kernel_rfl); have e1 : a.tmps[37]?.getD undef = (.slice x.A x.r.dests.length x.cap) := hst.fact 18 37 (by kernel_rfl) dd; clear dd
          have HDD := Lib.hid (HDE.out W hst.glob)
          go_simp
          go_wp2_with (go_at_call 53; with_reducible refine HDD.out.mono ?_; rintro e w9 ⟨v9, rfl, ho9, hb9⟩)
          exact hK _ _ (Or.inl hb9) (OwnC.base ho9 hst.glob.size)
        case refine_21 =>
          refine ⟨_, rfl, Nat.le_of_ble_eq_true rfl, fun listed a W hst hn hdep K hK => ?_⟩
          have dd := dep_of hdep 6 (by kernel_rfl); have e1 : a.tmps[25]?.getD undef = (.int .u16 (x.r.id : Int)) := hst.fact 6 25 (by kernel_rfl) dd; clear dd
          have dd := dep_of hdep 12 (by kernel_rfl); have e2 : a.tmps[31]?.getD undef = (.int .u16 (x.r.src : Int)) := hst.fact 12 31 (by kernel_rfl) dd; clear dd
          have dd := dep_of hdep 19 (by kernel_rfl); have r3 := hst.fact 19 38 (by kernel_rfl) dd; clear dd
          obtain ⟨A9, c9, h9, -⟩ := OwnC.cells r3
          rw [h9] at r3
          go_simp
          exact hK _ _ (Or.inl (Below.refl _ _)) ⟨A9, c9, rfl, r3⟩
        case refine_22 =>
          refine ⟨_, rfl, Nat.le_of_ble_eq_true rfl, fun listed a W hst hn hdep K hK => ?_⟩
          have dd := dep_of hdep 20 (by kernel_rfl); have r1 := hst.fact 20 39 (by kernel_rfl) dd; clear dd
          obtain ⟨A9, c9, h9, r3⟩ := r1
          go_simp
          exact hK _ _ (Or.inl ((Below.refl _ _).alloc (Nat.le_refl _) _)) (isL_mk r3 hst.glob.size)
        case refine_23 =>
          refine ⟨_, rfl, Nat.le_of_ble_eq_true rfl, fun listed a W hst hn hdep K hK => ?_⟩
          have dd := dep_of hdep 0 (by kernel_rfl); have e1 : a.tmps[19]?.getD undef = sv := hst.fact 0 19 (by kernel_rfl) dd; clear dd
          have dd := dep_of hdep 21 (by kernel_rfl); have r1 := hst.fact 21 40 (by kernel_rfl) dd; clear dd
          obtain ⟨y, hy, hyd, hyl, hyb⟩ := r1
          refine inv_append_any elemC rfl 19 40 rfl w1.heap.size sv L.length (L.flatMap chanV) e1 (HOW.out W (hst.calm hn)) 1 (chanV y) (OwnC.arg hyl) (chanV_c1 y) (by have := HLL.out; omega) (HWS.out W hst.glob) (fun v' w' ho hg hnm => ?_)
          have ht : Turn (fun b => sv.ownBlock = some b) W w' := Turn.of_grown hg
          exact hK _ _ (Or.inr ⟨rfl, ht⟩) (HNX.out W hst.glob y hy hyd v' w' ht ho hnm)
        case refine_24 =>
          refine ⟨_, rfl, Nat.le_of_ble_eq_true rfl, fun listed a W hst hn hdep K hK => ?_⟩
          have dd := dep_of hdep 22 (by kernel_rfl); have r1 := hst.fact 22 41 (by kernel_rfl) dd; clear dd
          go_simp
          exact hK _ _ (Or.inl (Below.refl _ _)) r1
      case refine_4 =>
        rintro ⟨tm, df⟩ W listed hl hst
        obtain rfl : df = [] := hst.defers
        obtain ⟨f, hfd, hf⟩ := hst.frameR [(19, 41), (4, 4)] (by kernel_rfl)
        have f4 : isB w1 c.cs k _ W := hst.fact 23 4 (by kernel_rfl) (hl 23 (Nat.le_of_ble_eq_true rfl))
        rw [← hfd 4] at f4
        have HF4 := Lib.hid f4
        clear hst hl f4 hfd
        simp only [updR, List.any_cons, List.any_nil, Nat.reduceAdd, Nat.reduceLeDiff, decide_true, decide_false, Bool.and_true, Bool.and_false, Bool.or_true, Bool.or_false, if_true, if_false, Bool.false_eq_true] at hf
        subst hf
        have hkb : (k : Int) ≤ 1000 := by have := HLL.out; omega
        go_wp2_with fail
        go_roundw
        case rel => exact ⟨k + 1, _, rfl, by go_num, by omega, HF4⟩
        case measure => simp only [intOf]; omega
    · have hki : ¬ (k : Int) < (c.cs.length : Int) := by omega
      have hkk : k = c.cs.length := by omega
      subst hkk
      obtain ⟨hfz, q', hK3, hN0⟩ := start3 HC0.out HB1.out HS1.out HR0.out HR1.out HR2.out HL.out HN5.out HSH.out.ds
      obtain ⟨c', hc'⟩ : ∃ c', c' = ({ c with cs := c.cs.map srtR } : ConfR) := ⟨_, rfl⟩
      rw [← hc'] at hK3
      have HCC := Lib.hid hc'
      have HSC : Hid (Short c') := Lib.hid (by rw [hc']; exact short_srt HSH.out)
      obtain ⟨W3, hW3⟩ : ∃ W3, wr.setCell ⟨w.heap.size, 5, none⟩ sv = W3 := ⟨_, rfl⟩
      rw [hW3] at hK3 hN0
      have HK := Lib.hid hK3
      have HN0 : Hid (∃ R I, NS W3 (w.heap.size + 1 + 1) c.frame R W3 ∧ Rws c' q'.ch R I ∧ Srt c' (0 + 1) I) := Lib.hid ⟨R0, _, hN0, R0_ok c' q'.ch, srt_start c'⟩
      have HW3 := Lib.hid hW3
      obtain ⟨As, cs9, hsv, -⟩ := HL.out.own.cells
      subst hsv
      clear hc' hK3 hN0 hW3 HC0 HC1 HB1 HR0 HR1 HR2 HBOX HB5 HL HLL HN5
      go_wp2_with fail
      rw [HW3.out]
      clear HW3 hfz y5 hk hlt hki
      go_loopw [6] (fun v6 wr => ∃ (si : Nat) (sI : Int), v6 = .int .i64 sI ∧ Hid (sI = si + 1) ∧ si ≤ 5 ∧ Hid (∃ R I, NS W3 (w.heap.size + 1 + 1) c.frame R wr ∧ Rws c' q'.ch R I ∧ Srt c' (si + 1) I)) (fun v6 _ => 7 - (intOf v6).toNat)
      case atStart => exact ⟨0, 1, by go_num, Lib.hid rfl, by omega, HN0⟩
      case round =>
        obtain ⟨si, sI, rfl, HSI, hsi, ho⟩ := hrel
        obtain ⟨R, I, hns, hrw, hsrt⟩ := ho.out
        have HNS := Lib.hid hns
        have HRW := Lib.hid hrw
        have HST := Lib.hid hsrt
        have HBX : Hid (wr.heap[w.heap.size]? = some (.cells (cfgA c' q') 30 (0, 0))) := Lib.hid (HK.out.box _ hns.turn)
        have hcv := HK.out.cfg2 hns.turn
        have HCV := Lib.hid hcv
        clear ho hns hrw hsrt hcv
        by_cases hlt : si < 5
        · have hsI5 : sI ≤ 5 := by have := HSI.out; omega
          have hsI1 : 1 ≤ sI := by have := HSI.out; omega
          have HKEY := Lib.hid (keys_ok c' q' wr HCV.out HSC.out sI (by have := HSI.out; omega) hsI5)
          unfold cfgV at HKEY
          obtain ⟨CA, hCA⟩ : ∃ CA, CA = cfgA c' q' := ⟨_, rfl⟩
          have HCA := Lib.hid hCA
          have HZ : Hid (CA.size = 6) := Lib.hid (by rw [hCA]; rfl)
          rw [← hCA] at HBX
          have hKE : (.agg #[.int .u64 (c'.frame : Int), .slice q'.A1 c'.ps.length q'.c1, .slice q'.A2 c'.ws.length q'.c2, .slice q'.A3 c'.rs.length q'.c3, .slice q'.A4 c'.ts.length q'.c4, .slice q'.A5 c'.cs.length q'.c5] : Value) = .agg CA := by rw [hCA]; rfl
          rw [hKE] at HKEY
          clear hKE hCA
          go_wp2_with (with_reducible refine load_cfg rfl (.tmp 1) rfl w.heap.size rfl CA HZ.out HBX.out ?_)
          refine HKEY.out.mono ?_
          rintro e w5 ⟨v5, rfl, ⟨hs, hkw⟩, hb5⟩
          have hkin := keysIn_of hkw
          obtain ⟨A5, c5, hv5, hkin⟩ := hkin
          subst hv5
          have hkl : (c'.keys sI).length ≤ 1000 := keys_len HSC.out sI
          have HORD := Lib.hid (order_ok (c'.keys sI) A5 c5 hs w5 hkin hkl)
          have HB5 := Lib.hid hb5
          have HKL0 := Lib.hid hkl
          clear hkw hkin hb5 hkl HKEY
          go_wp2_with fail
          refine HORD.out.mono ?_
          rintro e w6 ⟨ov, ord, rfl, hord⟩
          have hb6 : Below wr.heap.size wr w6 := HB5.out.trans (hord.below.mono HB5.out.size)
          have hol := hord.len
          have HL0 : Hid (L3 W3 w.heap.size c.frame c' q'.ch I si ord ov 0 R w6) := Lib.hid (L3.start HNS.out HRW.out ((HST.out si (by omega)).2 (by omega)) hb6 (by rw [hol]; exact hord.own.base HB5.out.size))
          have ekk : ((si + 1 : Nat) : Int) = sI := by rw [HSI.out]; omega
          have HS2 : Hid (Srt c' (si + 1 + 1) (fun k => if k = si then ord else I k)) := Lib.hid (srt_next HST.out (by rw [ekk]; exact hord.perm) (by rw [ekk]; exact hord.sorted))
          clear ekk
          have HOP : Hid (ord.Perm (List.range (c'.keys sI).length)) := Lib.hid hord.perm
          obtain ⟨Ao, co, hov, -⟩ := hord.own.cells
          rw [← hol] at hov
          have HOVV := Lib.hid hov
          have hol2 : ord.length ≤ 1000 := by rw [hol]; exact HKL0.out
          have HOL2 := Lib.hid hol2
          clear hord hb6 hol HKL0 HORD HB5 HBX HNS HRW HST hol2 hov
          rw [HOVV.out]
          go_wp2_with fail
          go_loopw [8] (fun v8 wr => ∃ (i : Nat), v8 = .int .i64 (i : Int) ∧ i ≤ ord.length ∧ L3S W3 w.heap.size c.frame c' q'.ch I si ord ov i wr) (fun v8 _ => ord.length - (intOf v8).toNat)
          case atStart => exact ⟨0, by go_num, by omega, Lib.hid ⟨R, HL0.out⟩⟩
          case round =>
            obtain ⟨i, rfl, hil, hl3⟩ := hrel
            obtain ⟨R', hl3⟩ := hl3.out
            have hbi : (i : Int) ≤ 1000 := by have := HOL2.out; omega
            by_cases hi : i < ord.length
            · have hii : (i : Int) < (ord.length : Int) := by omega
              obtain ⟨V, hV⟩ : ∃ V, V = wr := ⟨_, rfl⟩
              rw [← hV] at hl3 ⊢
              obtain ⟨r, hrr⟩ := hl3.rw.at (i := si) hlt
              obtain ⟨bo, oo, co', hovv, hyo⟩ := hl3.ord hrr hi
              have HAO : Hid (Ao = some ⟨bo, oo, none⟩) := Lib.hid (by rw [HOVV.out] at hovv; injection hovv)
              have HRR := Lib.hid (show r.e = eT si ∧ r.z = zT si from ⟨(hl3.rw.row si r hrr).1, (hl3.rw.row si r hrr).2.1⟩)
              have HRL : Hid (r.n ≤ 1000) := Lib.hid (by
                have := (hl3.rw.row si r hrr).2.2.1
                simp only [if_true] at this
                rw [this, List.length_take]
                have := HOL2.out
                omega)
              have hjk : ord[i] < (c'.keys sI).length := idx_lt HOP.out _ (List.getElem_mem hi)
              have HCW : Hid (∀ W, Turn (XR r) V W → CfgIn W c' q') := Lib.hid fun W hW => HK.out.cfg2 (hl3.turn hrr hW)
              have HBG : Hid (∀ W, Turn (XR r) V W → W.heap[w.heap.size]? = some (.cells (cfgA c' q') 30 (0, 0))) := Lib.hid fun W hW => HK.out.box W (hl3.turn hrr hW)
              have HFG : Hid (∀ W, Turn (XR r) V W → W.cell? ⟨w.heap.size + 1 + 1, si + 1, none⟩ = some r.v) := Lib.hid fun W hW => (hl3.ns.hold hrr hW).1
              have HOG : Hid (∀ W, Below V.heap.size V W → OwnC W W3.heap.size r.e r.z r.v r.n r.cs) := Lib.hid fun W hb => (hl3.ns.own si r hrr).below hb
              have HWS : Hid (∀ W, Turn (XR r) V W → W3.heap.size ≤ W.heap.size) := Lib.hid fun W hW => Nat.le_trans hl3.ns.turn.size hW.size
              have HXV : Hid (∀ b, XR r b → b < V.heap.size) := Lib.hid fun b hb => (hl3.ns.lt_own hrr hb).2
              have HNG : Hid (∀ W xs v', (secs c' q'.ch si).getD ord[i] [] = xs → Turn (XR r) V W → OwnC W W3.heap.size r.e r.z v' (r.n + 1) (r.cs ++ xs) → (∀ b, v'.ownBlock = some b → blk r.A = some b ∨ V.heap.size ≤ b) → W.cell? ⟨w.heap.size + 1 + 1, si + 1, none⟩ = some r.v ∧ W.frozen? ⟨w.heap.size + 1 + 1, si + 1, none⟩ = false ∧ L3S W3 w.heap.size c.frame c' q'.ch I si ord ov (i + 1) (W.setCell ⟨w.heap.size + 1 + 1, si + 1, none⟩ v')) := Lib.hid fun W xs v' hx ht ho hn => by
                obtain ⟨g1, g2, g3⟩ := hl3.next hrr hi hx ht ho hn
                exact ⟨g1, g2, Lib.hid g3⟩
              have HYO : Hid (∀ W, Turn (XR r) V W → W.cell? ⟨bo, oo + i, none⟩ = some (.int .i64 (ord[i] : Int))) := Lib.hid hyo
              generalize ord[i] = j at hjk HNG HYO
              have HKL := Lib.hid hjk
              clear hovv hyo hjk hl3 hV hrr
              rcases (by have := HSI.out; omega : (si = 0 ∧ sI = 1) ∨ (si = 1 ∧ sI = 2) ∨ (si = 2 ∧ sI = 3) ∨ (si = 3 ∧ sI = 4) ∨ (si = 4 ∧ sI = 5)) with ⟨rfl, rfl⟩ | ⟨rfl, rfl⟩ | ⟨rfl, rfl⟩ | ⟨rfl, rfl⟩ | ⟨rfl, rfl⟩

              · obtain ⟨b1, o1, hA1, hrg⟩ := recs_all (P := fun W => Turn (XR r) V W) (fun W hW => (HCW.out W hW).ps) V (Turn.refl _ _) 4 partV_len (by omega) (i := j) (by have := HKL.out; simpa [ConfR.keys] using this)
                have hjl : j < c'.ps.length := by have := HKL.out; simpa [ConfR.keys] using this
                have hjli : (j : Int) < (c'.ps.length : Int) := by omega
                have HPX : Hid ((secs c' q'.ch 0).getD j [] = partV c'.ps[j]) := Lib.hid (by
                  have e : secs c' q'.ch 0 = c'.ps.map partV := rfl
                  rw [e]
                  simp [List.getD, hjl])
                generalize c'.ps[j] = p at hrg HPX
                have HRG : Hid (∀ W, Turn (XR r) V W → W.rangeAt b1 (o1 + j * 4) [.int .u16 (p.id : Int), .string p.name, .int .u64 (p.period : Int), .int .u64 (p.dur : Int)]) := Lib.hid hrg
                have HAR := Lib.hid hA1
                obtain ⟨he1, he2⟩ : r.e = 36 ∧ r.z = 4 := HRR.out
                have HOW : Hid (∀ W, Below V.heap.size V W → OwnC W W3.heap.size 36 4 r.v r.n r.cs) := Lib.hid fun W hb => by have := HOG.out W hb; rw [he1, he2] at this; exact this
                have HNX : Hid (∀ W v', Turn (XR r) V W → OwnC W W3.heap.size 36 4 v' (r.n + 1) (r.cs ++ [.int .u16 (p.id : Int), .string p.name, .int .u64 (p.period : Int), .int .u64 (p.dur : Int)]) → (∀ b, v'.ownBlock = some b → blk r.A = some b ∨ V.heap.size ≤ b) → W.cell? ⟨w.heap.size + 1 + 1, 1, none⟩ = some r.v ∧ W.frozen? ⟨w.heap.size + 1 + 1, 1, none⟩ = false ∧ L3S W3 w.heap.size c.frame c' q'.ch I 0 ord ov (i + 1) (W.setCell ⟨w.heap.size + 1 + 1, 1, none⟩ v')) := Lib.hid fun W v' ht ho hn => HNG.out W [.int .u16 (p.id : Int), .string p.name, .int .u64 (p.period : Int), .int .u64 (p.dur : Int)] v' HPX.out ht (by rw [he1, he2]; exact ho) hn
                have HF1 : Hid (∀ W, Turn (XR r) V W → W.cell? ⟨w.heap.size + 1 + 1, 1, none⟩ = some r.v) := HFG
                have HYN : Hid (∀ W, Turn (XR r) V W → W.cell? ⟨w.heap.size, 1, none⟩ = some (.slice q'.A1 c'.ps.length q'.c1)) := Lib.hid fun W hW => by
                  rw [cell_of_row W w.heap.size 1 _ _ _ (HBG.out W hW)]
                  rfl
                have HONE : Hid (∀ u ∈ ([.int .u16 (p.id : Int), .string p.name, .int .u64 (p.period : Int), .int .u64 (p.dur : Int)] : List Value), u.oneCell' = true) := Lib.hid (by intro u hu; simp only [List.mem_cons, List.not_mem_nil, or_false] at hu; rcases hu with rfl | rfl | rfl | rfl <;> rfl)
                clear hA1 hrg HPX HKL HRR HOG HNG HFG HBG HCW he1 he2 hjl
                go_wp2_with fail
                refine region_invXL V (XR r) 11 [72] (by kernel_rfl) [(61, isV (.pointer (some ⟨w.heap.size + 1 + 1, 1, none⟩))), (62, isV r.v), (63, isV (.pointer (some ⟨w.heap.size, 1, none⟩))), (64, isV (.slice q'.A1 c'.ps.length q'.c1)), (65, isV (.slice Ao ord.length co)), (66, isV (.int .i64 (i : Int))), (67, isV (.pointer (some ⟨bo, oo + i, none⟩))), (68, isV (.int .i64 (j : Int))), (69, isV (.pointer (some ⟨b1, o1 + j * 4, none⟩))), (70, isV (.agg #[.int .u16 (p.id : Int), .string p.name, .int .u64 (p.period : Int), .int .u64 (p.dur : Int)])), (71, isRow V.heap.size 36 4 1 [.int .u16 (p.id : Int), .string p.name, .int .u64 (p.period : Int), .int .u64 (p.dur : Int)]), (72, isA W3 V r 36 4 [.int .u16 (p.id : Int), .string p.name, .int .u64 (p.period : Int), .int .u64 (p.dur : Int)]), (73, isV (.pointer (some ⟨w.heap.size + 1 + 1, 1, none⟩)))] 13 ⟨⟨isV_keeps _, fun _ => isV_x _ _⟩, ⟨isV_keeps _, fun _ => isV_x _ _⟩, ⟨isV_keeps _, fun _ => isV_x _ _⟩, ⟨isV_keeps _, fun _ => isV_x _ _⟩, ⟨isV_keeps _, fun _ => isV_x _ _⟩, ⟨isV_keeps _, fun _ => isV_x _ _⟩, ⟨isV_keeps _, fun _ => isV_x _ _⟩, ⟨isV_keeps _, fun _ => isV_x _ _⟩, ⟨isV_keeps _, fun _ => isV_x _ _⟩, ⟨isV_keeps _, fun _ => isV_x _ _⟩, ⟨isRow_keeps _ _ _ _ _, fun _ => isRow_x HXV.out _ _ _ _⟩, ⟨isA_keeps _ _ _ _ _ _, fun h => absurd (by simp) h⟩, ⟨isV_keeps _, fun _ => isV_x _ _⟩, trivial⟩ (by kernel_rfl) ?_ ?_ (by kernel_rfl) (by kernel_rfl) (by kernel_rfl) ?_ ?_
                case refine_1 => exact Turn.of_below (Below.refl _ _).drew
                case refine_2 => exact (Below.refl _ _).drew
                case refine_3 =>
                  refine ⟨?_, ?_, ?_, ?_, ?_, ?_, ?_, ?_, ?_, ?_, ?_, ?_, ?_, trivial⟩
                  case refine_1 =>
                    refine ⟨_, rfl, Nat.le_of_ble_eq_true rfl, fun listed a W hst hn hdep K hK => ?_⟩
                    have e1 := hst.oldOf hn 3 (by kernel_rfl) rfl; simp only [Array.getD_eq_getD_getElem?] at e1
                    go_simp
                    exact hK _ _ (Or.inl (Below.refl _ _)) rfl
                  case refine_2 =>
                    refine ⟨_, rfl, Nat.le_of_ble_eq_true rfl, fun listed a W hst hn hdep K hK => ?_⟩
                    have dd := dep_of hdep 0 (by kernel_rfl); have e1 : a.tmps[61]?.getD undef = (.pointer (some ⟨w.heap.size + 1 + 1, 1, none⟩)) := hst.fact 0 61 (by kernel_rfl) dd; clear dd
                    have y := HF1.out W hst.glob
                    go_simp
                    exact hK _ _ (Or.inl (Below.refl _ _)) rfl
                  case refine_3 =>
                    refine ⟨_, rfl, Nat.le_of_ble_eq_true rfl, fun listed a W hst hn hdep K hK => ?_⟩
                    have e1 := hst.oldOf hn 1 (by kernel_rfl) rfl; simp only [Array.getD_eq_getD_getElem?] at e1
                    go_simp
                    exact hK _ _ (Or.inl (Below.refl _ _)) rfl
                  case refine_4 =>
                    refine ⟨_, rfl, Nat.le_of_ble_eq_true rfl, fun listed a W hst hn hdep K hK => ?_⟩
                    have dd := dep_of hdep 2 (by kernel_rfl); have e1 : a.tmps[63]?.getD undef = (.pointer (some ⟨w.heap.size, 1, none⟩)) := hst.fact 2 63 (by kernel_rfl) dd; clear dd
                    have y := HYN.out W hst.glob
                    go_simp
                    exact hK _ _ (Or.inl (Below.refl _ _)) rfl
                  case refine_5 =>
                    refine ⟨_, rfl, Nat.le_of_ble_eq_true rfl, fun listed a W hst hn hdep K hK => ?_⟩
                    have e1 := hst.oldOf hn 7 (by kernel_rfl) rfl; simp only [Array.getD_eq_getD_getElem?] at e1
                    go_simp
                    exact hK _ _ (Or.inl (Below.refl _ _)) rfl
                  case refine_6 =>
                    refine ⟨_, rfl, Nat.le_of_ble_eq_true rfl, fun listed a W hst hn hdep K hK => ?_⟩
                    have e1 := hst.oldOf hn 8 (by kernel_rfl) rfl; simp only [Array.getD_eq_getD_getElem?] at e1
                    go_simp
                    exact hK _ _ (Or.inl (Below.refl _ _)) rfl
                  case refine_7 =>
                    refine ⟨_, rfl, Nat.le_of_ble_eq_true rfl, fun listed a W hst hn hdep K hK => ?_⟩
                    have dd := dep_of hdep 4 (by kernel_rfl); have e1 : a.tmps[65]?.getD undef = (.slice Ao ord.length co) := hst.fact 4 65 (by kernel_rfl) dd; clear dd
                    have dd := dep_of hdep 5 (by kernel_rfl); have e2 : a.tmps[66]?.getD undef = (.int .i64 (i : Int)) := hst.fact 5 66 (by kernel_rfl) dd; clear dd
                    rw [HAO.out] at e1
                    go_simp
                    exact hK _ _ (Or.inl (Below.refl _ _)) rfl
                  case refine_8 =>
                    refine ⟨_, rfl, Nat.le_of_ble_eq_true rfl, fun listed a W hst hn hdep K hK => ?_⟩
                    have dd := dep_of hdep 6 (by kernel_rfl); have e1 : a.tmps[67]?.getD undef = (.pointer (some ⟨bo, oo + i, none⟩)) := hst.fact 6 67 (by kernel_rfl) dd; clear dd
                    have y := HYO.out W hst.glob
                    go_simp
                    exact hK _ _ (Or.inl (Below.refl _ _)) rfl
                  case refine_9 =>
                    refine ⟨_, rfl, Nat.le_of_ble_eq_true rfl, fun listed a W hst hn hdep K hK => ?_⟩
                    have dd := dep_of hdep 3 (by kernel_rfl); have e1 : a.tmps[64]?.getD undef = (.slice q'.A1 c'.ps.length q'.c1) := hst.fact 3 64 (by kernel_rfl) dd; clear dd
                    have dd := dep_of hdep 7 (by kernel_rfl); have e2 : a.tmps[68]?.getD undef = (.int .i64 (j : Int)) := hst.fact 7 68 (by kernel_rfl) dd; clear dd
                    rw [HAR.out] at e1
                    go_simp
                    exact hK _ _ (Or.inl (Below.refl _ _)) rfl
                  case refine_10 =>
                    refine ⟨_, rfl, Nat.le_of_ble_eq_true rfl, fun listed a W hst hn hdep K hK => ?_⟩
                    have dd := dep_of hdep 8 (by kernel_rfl); have e1 : a.tmps[69]?.getD undef = (.pointer (some ⟨b1, o1 + j * 4, none⟩)) := hst.fact 8 69 (by kernel_rfl) dd; clear dd
                    rw [if_pos (by simp [Region.wanted])]
                    refine wp_load_mid 36 (.tmp 69) rfl b1 (o1 + j * 4) ((eval_tmp a 69).trans e1) [.int .u16 (p.id : Int), .string p.name, .int .u64 (p.period : Int), .int .u64 (p.dur : Int)] _ (HRG.out W hst.glob) Tryz.underlying36 rfl (by kernel_rfl) ?_
                    exact hK _ _ (Or.inl (Below.refl _ _)) rfl
                  case refine_11 =>
                    refine ⟨_, rfl, Nat.le_of_ble_eq_true rfl, fun listed a W hst hn hdep K hK => ?_⟩
                    have dd := dep_of hdep 9 (by kernel_rfl); have e1 : a.tmps[70]?.getD undef = (.agg #[.int .u16 (p.id : Int), .string p.name, .int .u64 (p.period : Int), .int .u64 (p.dur : Int)]) := hst.fact 9 70 (by kernel_rfl) dd; clear dd
                    go_simp
                    exact hK _ _ (Or.inl ((Below.refl _ _).alloc (Nat.le_refl _) _)) (OwnC.base (OwnC.lit W 36 4 1 #[.int .u16 (p.id : Int), .string p.name, .int .u64 (p.period : Int), .int .u64 (p.dur : Int)] (by unfold maxLen; omega) rfl) hst.glob.size)
                  case refine_12 =>
                    refine ⟨_, rfl, Nat.le_of_ble_eq_true rfl, fun listed a W hst hn hdep K hK => ?_⟩
                    have dd := dep_of hdep 1 (by kernel_rfl); have e1 : a.tmps[62]?.getD undef = r.v := hst.fact 1 62 (by kernel_rfl) dd; clear dd
                    have dd := dep_of hdep 10 (by kernel_rfl); have r1 := hst.fact 10 71 (by kernel_rfl) dd; clear dd
                    refine inv_append_any elemP rfl 62 71 rfl W3.heap.size r.v r.n r.cs e1 (HOW.out W (hst.calm hn)) 1 [.int .u16 (p.id : Int), .string p.name, .int .u64 (p.period : Int), .int .u64 (p.dur : Int)] (OwnC.arg r1) HONE.out (by have := HRL.out; omega) (HWS.out W hst.glob) (fun v' w' ho hg hnm => ?_)
                    have ht : Turn (XR r) W w' := (Turn.of_grown hg).mono fun b _ hb => by unfold XR; rw [← own_blk r.A r.n r.c]; exact hb
                    exact hK _ _ (Or.inr ⟨rfl, ht⟩) (isA_mk hst.glob ht ho hnm)
                  case refine_13 =>
                    refine ⟨_, rfl, Nat.le_of_ble_eq_true rfl, fun listed a W hst hn hdep K hK => ?_⟩
                    have e1 := hst.oldOf hn 3 (by kernel_rfl) rfl; simp only [Array.getD_eq_getD_getElem?] at e1
                    go_simp
                    exact hK _ _ (Or.inl (Below.refl _ _)) rfl
                case refine_4 =>
                  intro ok listed a' W ho hst hn hall K hK
                  obtain ⟨f, hfd, hf⟩ := hst.frameR [(61, 73)] (by kernel_rfl)
                  have f72 : isA W3 V r 36 4 [.int .u16 (p.id : Int), .string p.name, .int .u64 (p.period : Int), .int .u64 (p.dur : Int)] _ W := hst.fact 11 72 (by kernel_rfl) (hall 11 (Nat.le_of_ble_eq_true rfl) (by omega))
                  have f73 : a'.tmps[73]?.getD undef = (.pointer (some ⟨w.heap.size + 1 + 1, 1, none⟩)) := hst.fact 12 73 (by kernel_rfl) (hall 12 (Nat.le_of_ble_eq_true rfl) (by omega))
                  obtain ⟨av, hav⟩ : ∃ av, a'.tmps[72]?.getD undef = av := ⟨_, rfl⟩
                  rw [hav] at f72
                  have hdf : a'.defers = [] := hst.defers
                  obtain rfl : _ = ok := by injection ho
                  clear hst hall hn hfd ho
                  obtain ⟨hT, hO, hN⟩ := f72
                  obtain ⟨hcl, hfz, hL'⟩ := HNX.out W av hT hO hN
                  have h1c : av.oneCell' = true := by obtain ⟨A9, c9, rfl, -⟩ := hO.cells; rfl
                  have HLX := Lib.hid hL'
                  clear hT hO hN hL'
                  refine sec_store rfl 23 73 72 rfl rfl (w.heap.size + 1 + 1) 1 av r.v f73 hav h1c hcl hfz (by kernel_rfl) ?_
                  refine hK _ _ ?_
                  clear f73 hav hcl hfz h1c hK
                  generalize W.setCell ⟨w.heap.size + 1 + 1, 1, none⟩ av = W9 at HLX ⊢
                  obtain ⟨tm, df⟩ := a'
                  obtain rfl : df = [] := hdf
                  simp only [updR, List.any_cons, List.any_nil, Nat.reduceAdd, Nat.reduceLeDiff, decide_true, decide_false, Bool.and_true, Bool.and_false, Bool.or_false, if_true, if_false, Bool.false_eq_true] at hf
                  have hf' : tm = _ := hf
                  subst hf'
                  clear hf
                  go_wp2_with fail
                  go_roundw
                  case rel => exact ⟨i + 1, by go_num, by omega, HLX⟩
                  case measure => simp only [intOf]; omega
              · obtain ⟨b1, o1, hA1, hrg⟩ := recs_all (P := fun W => Turn (XR r) V W) (fun W hW => (HCW.out W hW).ws) V (Turn.refl _ _) 3 winV_len (by omega) (i := j) (by have := HKL.out; simpa [ConfR.keys] using this)
                have hjl : j < c'.ws.length := by have := HKL.out; simpa [ConfR.keys] using this
                have hjli : (j : Int) < (c'.ws.length : Int) := by omega
                have HPX : Hid ((secs c' q'.ch 1).getD j [] = winV c'.ws[j]) := Lib.hid (by
                  have e : secs c' q'.ch 1 = c'.ws.map winV := rfl
                  rw [e]
                  simp [List.getD, hjl])
                generalize c'.ws[j] = p at hrg HPX
                have HRG : Hid (∀ W, Turn (XR r) V W → W.rangeAt b1 (o1 + j * 3) [.int .u64 (p.start : Int), .int .u64 (p.len : Int), .int .u16 (p.part : Int)]) := Lib.hid hrg
                have HAR := Lib.hid hA1
                obtain ⟨he1, he2⟩ : r.e = 45 ∧ r.z = 3 := HRR.out
                have HOW : Hid (∀ W, Below V.heap.size V W → OwnC W W3.heap.size 45 3 r.v r.n r.cs) := Lib.hid fun W hb => by have := HOG.out W hb; rw [he1, he2] at this; exact this
                have HNX : Hid (∀ W v', Turn (XR r) V W → OwnC W W3.heap.size 45 3 v' (r.n + 1) (r.cs ++ [.int .u64 (p.start : Int), .int .u64 (p.len : Int), .int .u16 (p.part : Int)]) → (∀ b, v'.ownBlock = some b → blk r.A = some b ∨ V.heap.size ≤ b) → W.cell? ⟨w.heap.size + 1 + 1, 2, none⟩ = some r.v ∧ W.frozen? ⟨w.heap.size + 1 + 1, 2, none⟩ = false ∧ L3S W3 w.heap.size c.frame c' q'.ch I 1 ord ov (i + 1) (W.setCell ⟨w.heap.size + 1 + 1, 2, none⟩ v')) := Lib.hid fun W v' ht ho hn => HNG.out W [.int .u64 (p.start : Int), .int .u64 (p.len : Int), .int .u16 (p.part : Int)] v' HPX.out ht (by rw [he1, he2]; exact ho) hn
                have HF1 : Hid (∀ W, Turn (XR r) V W → W.cell? ⟨w.heap.size + 1 + 1, 2, none⟩ = some r.v) := HFG
                have HYN : Hid (∀ W, Turn (XR r) V W → W.cell? ⟨w.heap.size, 2, none⟩ = some (.slice q'.A2 c'.ws.length q'.c2)) := Lib.hid fun W hW => by
                  rw [cell_of_row W w.heap.size 2 _ _ _ (HBG.out W hW)]
                  rfl
                have HONE : Hid (∀ u ∈ ([.int .u64 (p.start : Int), .int .u64 (p.len : Int), .int .u16 (p.part : Int)] : List Value), u.oneCell' = true) := Lib.hid (by intro u hu; simp only [List.mem_cons, List.not_mem_nil, or_false] at hu; rcases hu with rfl | rfl | rfl <;> rfl)
                clear hA1 hrg HPX HKL HRR HOG HNG HFG HBG HCW he1 he2 hjl
                go_wp2_with fail
                refine region_invXL V (XR r) 11 [87] (by kernel_rfl) [(76, isV (.pointer (some ⟨w.heap.size + 1 + 1, 2, none⟩))), (77, isV r.v), (78, isV (.pointer (some ⟨w.heap.size, 2, none⟩))), (79, isV (.slice q'.A2 c'.ws.length q'.c2)), (80, isV (.slice Ao ord.length co)), (81, isV (.int .i64 (i : Int))), (82, isV (.pointer (some ⟨bo, oo + i, none⟩))), (83, isV (.int .i64 (j : Int))), (84, isV (.pointer (some ⟨b1, o1 + j * 3, none⟩))), (85, isV (.agg #[.int .u64 (p.start : Int), .int .u64 (p.len : Int), .int .u16 (p.part : Int)])), (86, isRow V.heap.size 45 3 1 [.int .u64 (p.start : Int), .int .u64 (p.len : Int), .int .u16 (p.part : Int)]), (87, isA W3 V r 45 3 [.int .u64 (p.start : Int), .int .u64 (p.len : Int), .int .u16 (p.part : Int)]), (88, isV (.pointer (some ⟨w.heap.size + 1 + 1, 2, none⟩)))] 13 ⟨⟨isV_keeps _, fun _ => isV_x _ _⟩, ⟨isV_keeps _, fun _ => isV_x _ _⟩, ⟨isV_keeps _, fun _ => isV_x _ _⟩, ⟨isV_keeps _, fun _ => isV_x _ _⟩, ⟨isV_keeps _, fun _ => isV_x _ _⟩, ⟨isV_keeps _, fun _ => isV_x _ _⟩, ⟨isV_keeps _, fun _ => isV_x _ _⟩, ⟨isV_keeps _, fun _ => isV_x _ _⟩, ⟨isV_keeps _, fun _ => isV_x _ _⟩, ⟨isV_keeps _, fun _ => isV_x _ _⟩, ⟨isRow_keeps _ _ _ _ _, fun _ => isRow_x HXV.out _ _ _ _⟩, ⟨isA_keeps _ _ _ _ _ _, fun h => absurd (by simp) h⟩, ⟨isV_keeps _, fun _ => isV_x _ _⟩, trivial⟩ (by kernel_rfl) ?_ ?_ (by kernel_rfl) (by kernel_rfl) (by kernel_rfl) ?_ ?_
                case refine_1 => exact Turn.of_below (Below.refl _ _).drew
                case refine_2 => exact (Below.refl _ _).drew
                case refine_3 =>
                  refine ⟨?_, ?_, ?_, ?_, ?_, ?_, ?_, ?_, ?_, ?_, ?_, ?_, ?_, trivial⟩
                  case refine_1 =>
                    refine ⟨_, rfl, Nat.le_of_ble_eq_true rfl, fun listed a W hst hn hdep K hK => ?_⟩
                    have e1 := hst.oldOf hn 3 (by kernel_rfl) rfl; simp only [Array.getD_eq_getD_getElem?] at e1
                    go_simp
                    exact hK _ _ (Or.inl (Below.refl _ _)) rfl
                  case refine_2 =>
                    refine ⟨_, rfl, Nat.le_of_ble_eq_true rfl, fun listed a W hst hn hdep K hK => ?_⟩
                    have dd := dep_of hdep 0 (by kernel_rfl); have e1 : a.tmps[76]?.getD undef = (.pointer (some ⟨w.heap.size + 1 + 1, 2, none⟩)) := hst.fact 0 76 (by kernel_rfl) dd; clear dd
                    have y := HF1.out W hst.glob
                    go_simp
                    exact hK _ _ (Or.inl (Below.refl _ _)) rfl
                  case refine_3 =>
                    refine ⟨_, rfl, Nat.le_of_ble_eq_true rfl, fun listed a W hst hn hdep K hK => ?_⟩
                    have e1 := hst.oldOf hn 1 (by kernel_rfl) rfl; simp only [Array.getD_eq_getD_getElem?] at e1
                    go_simp
                    exact hK _ _ (Or.inl (Below.refl _ _)) rfl
                  case refine_4 =>
                    refine ⟨_, rfl, Nat.le_of_ble_eq_true rfl, fun listed a W hst hn hdep K hK => ?_⟩
                    have dd := dep_of hdep 2 (by kernel_rfl); have e1 : a.tmps[78]?.getD undef = (.pointer (some ⟨w.heap.size, 2, none⟩)) := hst.fact 2 78 (by kernel_rfl) dd; clear dd
                    have y := HYN.out W hst.glob
                    go_simp
                    exact hK _ _ (Or.inl (Below.refl _ _)) rfl
                  case refine_5 =>
                    refine ⟨_, rfl, Nat.le_of_ble_eq_true rfl, fun listed a W hst hn hdep K hK => ?_⟩
                    have e1 := hst.oldOf hn 7 (by kernel_rfl) rfl; simp only [Array.getD_eq_getD_getElem?] at e1
                    go_simp
                    exact hK _ _ (Or.inl (Below.refl _ _)) rfl
                  case refine_6 =>
                    refine ⟨_, rfl, Nat.le_of_ble_eq_true rfl, fun listed a W hst hn hdep K hK => ?_⟩
                    have e1 := hst.oldOf hn 8 (by kernel_rfl) rfl; simp only [Array.getD_eq_getD_getElem?] at e1
                    go_simp
                    exact hK _ _ (Or.inl (Below.refl _ _)) rfl
                  case refine_7 =>
                    refine ⟨_, rfl, Nat.le_of_ble_eq_true rfl, fun listed a W hst hn hdep K hK => ?_⟩
                    have dd := dep_of hdep 4 (by kernel_rfl); have e1 : a.tmps[80]?.getD undef = (.slice Ao ord.length co) := hst.fact 4 80 (by kernel_rfl) dd; clear dd
                    have dd := dep_of hdep 5 (by kernel_rfl); have e2 : a.tmps[81]?.getD undef = (.int .i64 (i : Int)) := hst.fact 5 81 (by kernel_rfl) dd; clear dd
                    rw [HAO.out] at e1
                    go_simp
                    exact hK _ _ (Or.inl (Below.refl _ _)) rfl
                  case refine_8 =>
                    refine ⟨_, rfl, Nat.le_of_ble_eq_true rfl, fun listed a W hst hn hdep K hK => ?_⟩
                    have dd := dep_of hdep 6 (by kernel_rfl); have e1 : a.tmps[82]?.getD undef = (.pointer (some ⟨bo, oo + i, none⟩)) := hst.fact 6 82 (by kernel_rfl) dd; clear dd
                    have y := HYO.out W hst.glob
                    go_simp
                    exact hK _ _ (Or.inl (Below.refl _ _)) rfl
                  case refine_9 =>
                    refine ⟨_, rfl, Nat.le_of_ble_eq_true rfl, fun listed a W hst hn hdep K hK => ?_⟩
                    have dd := dep_of hdep 3 (by kernel_rfl); have e1 : a.tmps[79]?.getD undef = (.slice q'.A2 c'.ws.length q'.c2) := hst.fact 3 79 (by kernel_rfl) dd; clear dd
                    have dd := dep_of hdep 7 (by kernel_rfl); have e2 : a.tmps[83]?.getD undef = (.int .i64 (j : Int)) := hst.fact 7 83 (by kernel_rfl) dd; clear dd
                    rw [HAR.out] at e1
                    go_simp
                    exact hK _ _ (Or.inl (Below.refl _ _)) rfl
                  case refine_10 =>
                    refine ⟨_, rfl, Nat.le_of_ble_eq_true rfl, fun listed a W hst hn hdep K hK => ?_⟩
                    have dd := dep_of hdep 8 (by kernel_rfl); have e1 : a.tmps[84]?.getD undef = (.pointer (some ⟨b1, o1 + j * 3, none⟩)) := hst.fact 8 84 (by kernel_rfl) dd; clear dd
                    rw [if_pos (by simp [Region.wanted])]
                    refine wp_load_mid 45 (.tmp 84) rfl b1 (o1 + j * 3) ((eval_tmp a 84).trans e1) [.int .u64 (p.start : Int), .int .u64 (p.len : Int), .int .u16 (p.part : Int)] _ (HRG.out W hst.glob) Tryz.underlying45 rfl (by kernel_rfl) ?_
                    exact hK _ _ (Or.inl (Below.refl _ _)) rfl
                  case refine_11 =>
                    refine ⟨_, rfl, Nat.le_of_ble_eq_true rfl, fun listed a W hst hn hdep K hK => ?_⟩
                    have dd := dep_of hdep 9 (by kernel_rfl); have e1 : a.tmps[85]?.getD undef = (.agg #[.int .u64 (p.start : Int), .int .u64 (p.len : Int), .int .u16 (p.part : Int)]) := hst.fact 9 85 (by kernel_rfl) dd; clear dd
                    go_simp
                    exact hK _ _ (Or.inl ((Below.refl _ _).alloc (Nat.le_refl _) _)) (OwnC.base (OwnC.lit W 45 3 1 #[.int .u64 (p.start : Int), .int .u64 (p.len : Int), .int .u16 (p.part : Int)] (by unfold maxLen; omega) rfl) hst.glob.size)
                  case refine_12 =>
                    refine ⟨_, rfl, Nat.le_of_ble_eq_true rfl, fun listed a W hst hn hdep K hK => ?_⟩
                    have dd := dep_of hdep 1 (by kernel_rfl); have e1 : a.tmps[77]?.getD undef = r.v := hst.fact 1 77 (by kernel_rfl) dd; clear dd
                    have dd := dep_of hdep 10 (by kernel_rfl); have r1 := hst.fact 10 86 (by kernel_rfl) dd; clear dd
                    refine inv_append_any elemW rfl 77 86 rfl W3.heap.size r.v r.n r.cs e1 (HOW.out W (hst.calm hn)) 1 [.int .u64 (p.start : Int), .int .u64 (p.len : Int), .int .u16 (p.part : Int)] (OwnC.arg r1) HONE.out (by have := HRL.out; omega) (HWS.out W hst.glob) (fun v' w' ho hg hnm => ?_)
                    have ht : Turn (XR r) W w' := (Turn.of_grown hg).mono fun b _ hb => by unfold XR; rw [← own_blk r.A r.n r.c]; exact hb
                    exact hK _ _ (Or.inr ⟨rfl, ht⟩) (isA_mk hst.glob ht ho hnm)
                  case refine_13 =>
                    refine ⟨_, rfl, Nat.le_of_ble_eq_true rfl, fun listed a W hst hn hdep K hK => ?_⟩
                    have e1 := hst.oldOf hn 3 (by kernel_rfl) rfl; simp only [Array.getD_eq_getD_getElem?] at e1
                    go_simp
                    exact hK _ _ (Or.inl (Below.refl _ _)) rfl
                case refine_4 =>
                  intro ok listed a' W ho hst hn hall K hK
                  obtain ⟨f, hfd, hf⟩ := hst.frameR [(76, 88)] (by kernel_rfl)
                  have f72 : isA W3 V r 45 3 [.int .u64 (p.start : Int), .int .u64 (p.len : Int), .int .u16 (p.part : Int)] _ W := hst.fact 11 87 (by kernel_rfl) (hall 11 (Nat.le_of_ble_eq_true rfl) (by omega))
                  have f73 : a'.tmps[88]?.getD undef = (.pointer (some ⟨w.heap.size + 1 + 1, 2, none⟩)) := hst.fact 12 88 (by kernel_rfl) (hall 12 (Nat.le_of_ble_eq_true rfl) (by omega))
                  obtain ⟨av, hav⟩ : ∃ av, a'.tmps[87]?.getD undef = av := ⟨_, rfl⟩
                  rw [hav] at f72
                  have hdf : a'.defers = [] := hst.defers
                  obtain rfl : _ = ok := by injection ho
                  clear hst hall hn hfd ho
                  obtain ⟨hT, hO, hN⟩ := f72
                  obtain ⟨hcl, hfz, hL'⟩ := HNX.out W av hT hO hN
                  have h1c : av.oneCell' = true := by obtain ⟨A9, c9, rfl, -⟩ := hO.cells; rfl
                  have HLX := Lib.hid hL'
                  clear hT hO hN hL'
                  refine sec_store rfl 26 88 87 rfl rfl (w.heap.size + 1 + 1) 2 av r.v f73 hav h1c hcl hfz (by kernel_rfl) ?_
                  refine hK _ _ ?_
                  clear f73 hav hcl hfz h1c hK
                  generalize W.setCell ⟨w.heap.size + 1 + 1, 2, none⟩ av = W9 at HLX ⊢
                  obtain ⟨tm, df⟩ := a'
                  obtain rfl : df = [] := hdf
                  simp only [updR, List.any_cons, List.any_nil, Nat.reduceAdd, Nat.reduceLeDiff, decide_true, decide_false, Bool.and_true, Bool.and_false, Bool.or_false, if_true, if_false, Bool.false_eq_true] at hf
                  have hf' : tm = _ := hf
                  subst hf'
                  clear hf
                  go_wp2_with fail
                  go_roundw
                  case rel => exact ⟨i + 1, by go_num, by omega, HLX⟩
                  case measure => simp only [intOf]; omega
              · obtain ⟨b1, o1, hA1, hrg⟩ := recs_all (P := fun W => Turn (XR r) V W) (fun W hW => (HCW.out W hW).rs) V (Turn.refl _ _) 5 regV_len (by omega) (i := j) (by have := HKL.out; simpa [ConfR.keys] using this)
                have hjl : j < c'.rs.length := by have := HKL.out; simpa [ConfR.keys] using this
                have hjli : (j : Int) < (c'.rs.length : Int) := by omega
                have HPX : Hid ((secs c' q'.ch 2).getD j [] = regV c'.rs[j]) := Lib.hid (by
                  have e : secs c' q'.ch 2 = c'.rs.map regV := rfl
                  rw [e]
                  simp [List.getD, hjl])
                generalize c'.rs[j] = p at hrg HPX
                have HRG : Hid (∀ W, Turn (XR r) V W → W.rangeAt b1 (o1 + j * 5) [.int .u64 (p.base : Int), .int .u64 (p.size : Int), .int .u16 (p.part : Int), .int .u8 (p.rights : Int), .bool p.shared]) := Lib.hid hrg
                have HAR := Lib.hid hA1
                obtain ⟨he1, he2⟩ : r.e = 47 ∧ r.z = 5 := HRR.out
                have HOW : Hid (∀ W, Below V.heap.size V W → OwnC W W3.heap.size 47 5 r.v r.n r.cs) := Lib.hid fun W hb => by have := HOG.out W hb; rw [he1, he2] at this; exact this
                have HNX : Hid (∀ W v', Turn (XR r) V W → OwnC W W3.heap.size 47 5 v' (r.n + 1) (r.cs ++ [.int .u64 (p.base : Int), .int .u64 (p.size : Int), .int .u16 (p.part : Int), .int .u8 (p.rights : Int), .bool p.shared]) → (∀ b, v'.ownBlock = some b → blk r.A = some b ∨ V.heap.size ≤ b) → W.cell? ⟨w.heap.size + 1 + 1, 3, none⟩ = some r.v ∧ W.frozen? ⟨w.heap.size + 1 + 1, 3, none⟩ = false ∧ L3S W3 w.heap.size c.frame c' q'.ch I 2 ord ov (i + 1) (W.setCell ⟨w.heap.size + 1 + 1, 3, none⟩ v')) := Lib.hid fun W v' ht ho hn => HNG.out W [.int .u64 (p.base : Int), .int .u64 (p.size : Int), .int .u16 (p.part : Int), .int .u8 (p.rights : Int), .bool p.shared] v' HPX.out ht (by rw [he1, he2]; exact ho) hn
                have HF1 : Hid (∀ W, Turn (XR r) V W → W.cell? ⟨w.heap.size + 1 + 1, 3, none⟩ = some r.v) := HFG
                have HYN : Hid (∀ W, Turn (XR r) V W → W.cell? ⟨w.heap.size, 3, none⟩ = some (.slice q'.A3 c'.rs.length q'.c3)) := Lib.hid fun W hW => by
                  rw [cell_of_row W w.heap.size 3 _ _ _ (HBG.out W hW)]
                  rfl
                have HONE : Hid (∀ u ∈ ([.int .u64 (p.base : Int), .int .u64 (p.size : Int), .int .u16 (p.part : Int), .int .u8 (p.rights : Int), .bool p.shared] : List Value), u.oneCell' = true) := Lib.hid (by intro u hu; simp only [List.mem_cons, List.not_mem_nil, or_false] at hu; rcases hu with rfl | rfl | rfl | rfl | rfl <;> rfl)
                clear hA1 hrg HPX HKL HRR HOG HNG HFG HBG HCW he1 he2 hjl
                go_wp2_with fail
                refine region_invXL V (XR r) 11 [102] (by kernel_rfl) [(91, isV (.pointer (some ⟨w.heap.size + 1 + 1, 3, none⟩))), (92, isV r.v), (93, isV (.pointer (some ⟨w.heap.size, 3, none⟩))), (94, isV (.slice q'.A3 c'.rs.length q'.c3)), (95, isV (.slice Ao ord.length co)), (96, isV (.int .i64 (i : Int))), (97, isV (.pointer (some ⟨bo, oo + i, none⟩))), (98, isV (.int .i64 (j : Int))), (99, isV (.pointer (some ⟨b1, o1 + j * 5, none⟩))), (100, isV (.agg #[.int .u64 (p.base : Int), .int .u64 (p.size : Int), .int .u16 (p.part : Int), .int .u8 (p.rights : Int), .bool p.shared])), (101, isRow V.heap.size 47 5 1 [.int .u64 (p.base : Int), .int .u64 (p.size : Int), .int .u16 (p.part : Int), .int .u8 (p.rights : Int), .bool p.shared]), (102, isA W3 V r 47 5 [.int .u64 (p.base : Int), .int .u64 (p.size : Int), .int .u16 (p.part : Int), .int .u8 (p.rights : Int), .bool p.shared]), (103, isV (.pointer (some ⟨w.heap.size + 1 + 1, 3, none⟩)))] 13 ⟨⟨isV_keeps _, fun _ => isV_x _ _⟩, ⟨isV_keeps _, fun _ => isV_x _ _⟩, ⟨isV_keeps _, fun _ => isV_x _ _⟩, ⟨isV_keeps _, fun _ => isV_x _ _⟩, ⟨isV_keeps _, fun _ => isV_x _ _⟩, ⟨isV_keeps _, fun _ => isV_x _ _⟩, ⟨isV_keeps _, fun _ => isV_x _ _⟩, ⟨isV_keeps _, fun _ => isV_x _ _⟩, ⟨isV_keeps _, fun _ => isV_x _ _⟩, ⟨isV_keeps _, fun _ => isV_x _ _⟩, ⟨isRow_keeps _ _ _ _ _, fun _ => isRow_x HXV.out _ _ _ _⟩, ⟨isA_keeps _ _ _ _ _ _, fun h => absurd (by simp) h⟩, ⟨isV_keeps _, fun _ => isV_x _ _⟩, trivial⟩ (by kernel_rfl) ?_ ?_ (by kernel_rfl) (by kernel_rfl) (by kernel_rfl) ?_ ?_
                case refine_1 => exact Turn.of_below (Below.refl _ _).drew
                case refine_2 => exact (Below.refl _ _).drew
                case refine_3 =>
                  refine ⟨?_, ?_, ?_, ?_, ?_, ?_, ?_, ?_, ?_, ?_, ?_, ?_, ?_, trivial⟩
                  case refine_1 =>
                    refine ⟨_, rfl, Nat.le_of_ble_eq_true rfl, fun listed a W hst hn hdep K hK => ?_⟩
                    have e1 := hst.oldOf hn 3 (by kernel_rfl) rfl; simp only [Array.getD_eq_getD_getElem?] at e1
                    go_simp
                    exact hK _ _ (Or.inl (Below.refl _ _)) rfl
                  case refine_2 =>
                    refine ⟨_, rfl, Nat.le_of_ble_eq_true rfl, fun listed a W hst hn hdep K hK => ?_⟩
                    have dd := dep_of hdep 0 (by kernel_rfl); have e1 : a.tmps[91]?.getD undef = (.pointer (some ⟨w.heap.size + 1 + 1, 3, none⟩)) := hst.fact 0 91 (by kernel_rfl) dd; clear dd
                    have y := HF1.out W hst.glob
                    go_simp
                    exact hK _ _ (Or.inl (Below.refl _ _)) rfl
                  case refine_3 =>
                    refine ⟨_, rfl, Nat.le_of_ble_eq_true rfl, fun listed a W hst hn hdep K hK => ?_⟩
                    have e1 := hst.oldOf hn 1 (by kernel_rfl) rfl; simp only [Array.getD_eq_getD_getElem?] at e1
                    go_simp
                    exact hK _ _ (Or.inl (Below.refl _ _)) rfl
                  case refine_4 =>
                    refine ⟨_, rfl, Nat.le_of_ble_eq_true rfl, fun listed a W hst hn hdep K hK => ?_⟩
                    have dd := dep_of hdep 2 (by kernel_rfl); have e1 : a.tmps[93]?.getD undef = (.pointer (some ⟨w.heap.size, 3, none⟩)) := hst.fact 2 93 (by kernel_rfl) dd; clear dd
                    have y := HYN.out W hst.glob
                    go_simp
                    exact hK _ _ (Or.inl (Below.refl _ _)) rfl
                  case refine_5 =>
                    refine ⟨_, rfl, Nat.le_of_ble_eq_true rfl, fun listed a W hst hn hdep K hK => ?_⟩
                    have e1 := hst.oldOf hn 7 (by kernel_rfl) rfl; simp only [Array.getD_eq_getD_getElem?] at e1
                    go_simp
                    exact hK _ _ (Or.inl (Below.refl _ _)) rfl
                  case refine_6 =>
                    refine ⟨_, rfl, Nat.le_of_ble_eq_true rfl, fun listed a W hst hn hdep K hK => ?_⟩
                    have e1 := hst.oldOf hn 8 (by kernel_rfl) rfl; simp only [Array.getD_eq_getD_getElem?] at e1
                    go_simp
                    exact hK _ _ (Or.inl (Below.refl _ _)) rfl
                  case refine_7 =>
                    refine ⟨_, rfl, Nat.le_of_ble_eq_true rfl, fun listed a W hst hn hdep K hK => ?_⟩
                    have dd := dep_of hdep 4 (by kernel_rfl); have e1 : a.tmps[95]?.getD undef = (.slice Ao ord.length co) := hst.fact 4 95 (by kernel_rfl) dd; clear dd
                    have dd := dep_of hdep 5 (by kernel_rfl); have e2 : a.tmps[96]?.getD undef = (.int .i64 (i : Int)) := hst.fact 5 96 (by kernel_rfl) dd; clear dd
                    rw [HAO.out] at e1
                    go_simp
                    exact hK _ _ (Or.inl (Below.refl _ _)) rfl
                  case refine_8 =>
                    refine ⟨_, rfl, Nat.le_of_ble_eq_true rfl, fun listed a W hst hn hdep K hK => ?_⟩
                    have dd := dep_of hdep 6 (by kernel_rfl); have e1 : a.tmps[97]?.getD undef = (.pointer (some ⟨bo, oo + i, none⟩)) := hst.fact 6 97 (by kernel_rfl) dd; clear dd
                    have y := HYO.out W hst.glob
                    go_simp
                    exact hK _ _ (Or.inl (Below.refl _ _)) rfl
                  case refine_9 =>
                    refine ⟨_, rfl, Nat.le_of_ble_eq_true rfl, fun listed a W hst hn hdep K hK => ?_⟩
                    have dd := dep_of hdep 3 (by kernel_rfl); have e1 : a.tmps[94]?.getD undef = (.slice q'.A3 c'.rs.length q'.c3) := hst.fact 3 94 (by kernel_rfl) dd; clear dd
                    have dd := dep_of hdep 7 (by kernel_rfl); have e2 : a.tmps[98]?.getD undef = (.int .i64 (j : Int)) := hst.fact 7 98 (by kernel_rfl) dd; clear dd
                    rw [HAR.out] at e1
                    go_simp
                    exact hK _ _ (Or.inl (Below.refl _ _)) rfl
                  case refine_10 =>
                    refine ⟨_, rfl, Nat.le_of_ble_eq_true rfl, fun listed a W hst hn hdep K hK => ?_⟩
                    have dd := dep_of hdep 8 (by kernel_rfl); have e1 : a.tmps[99]?.getD undef = (.pointer (some ⟨b1, o1 + j * 5, none⟩)) := hst.fact 8 99 (by kernel_rfl) dd; clear dd
                    rw [if_pos (by simp [Region.wanted])]
                    refine wp_load_mid 47 (.tmp 99) rfl b1 (o1 + j * 5) ((eval_tmp a 99).trans e1) [.int .u64 (p.base : Int), .int .u64 (p.size : Int), .int .u16 (p.part : Int), .int .u8 (p.rights : Int), .bool p.shared] _ (HRG.out W hst.glob) Tryz.underlying47 rfl (by kernel_rfl) ?_
                    exact hK _ _ (Or.inl (Below.refl _ _)) rfl
                  case refine_11 =>
                    refine ⟨_, rfl, Nat.le_of_ble_eq_true rfl, fun listed a W hst hn hdep K hK => ?_⟩
                    have dd := dep_of hdep 9 (by kernel_rfl); have e1 : a.tmps[100]?.getD undef = (.agg #[.int .u64 (p.base : Int), .int .u64 (p.size : Int), .int .u16 (p.part : Int), .int .u8 (p.rights : Int), .bool p.shared]) := hst.fact 9 100 (by kernel_rfl) dd; clear dd
                    go_simp
                    exact hK _ _ (Or.inl ((Below.refl _ _).alloc (Nat.le_refl _) _)) (OwnC.base (OwnC.lit W 47 5 1 #[.int .u64 (p.base : Int), .int .u64 (p.size : Int), .int .u16 (p.part : Int), .int .u8 (p.rights : Int), .bool p.shared] (by unfold maxLen; omega) rfl) hst.glob.size)
                  case refine_12 =>
                    refine ⟨_, rfl, Nat.le_of_ble_eq_true rfl, fun listed a W hst hn hdep K hK => ?_⟩
                    have dd := dep_of hdep 1 (by kernel_rfl); have e1 : a.tmps[92]?.getD undef = r.v := hst.fact 1 92 (by kernel_rfl) dd; clear dd
                    have dd := dep_of hdep 10 (by kernel_rfl); have r1 := hst.fact 10 101 (by kernel_rfl) dd; clear dd
                    refine inv_append_any elemR rfl 92 101 rfl W3.heap.size r.v r.n r.cs e1 (HOW.out W (hst.calm hn)) 1 [.int .u64 (p.base : Int), .int .u64 (p.size : Int), .int .u16 (p.part : Int), .int .u8 (p.rights : Int), .bool p.shared] (OwnC.arg r1) HONE.out (by have := HRL.out; omega) (HWS.out W hst.glob) (fun v' w' ho hg hnm => ?_)
                    have ht : Turn (XR r) W w' := (Turn.of_grown hg).mono fun b _ hb => by unfold XR; rw [← own_blk r.A r.n r.c]; exact hb
                    exact hK _ _ (Or.inr ⟨rfl, ht⟩) (isA_mk hst.glob ht ho hnm)
                  case refine_13 =>
                    refine ⟨_, rfl, Nat.le_of_ble_eq_true rfl, fun listed a W hst hn hdep K hK => ?_⟩
                    have e1 := hst.oldOf hn 3 (by kernel_rfl) rfl; simp only [Array.getD_eq_getD_getElem?] at e1
                    go_simp
                    exact hK _ _ (Or.inl (Below.refl _ _)) rfl
                case refine_4 =>
                  intro ok listed a' W ho hst hn hall K hK
                  obtain ⟨f, hfd, hf⟩ := hst.frameR [(91, 103)] (by kernel_rfl)
                  have f72 : isA W3 V r 47 5 [.int .u64 (p.base : Int), .int .u64 (p.size : Int), .int .u16 (p.part : Int), .int .u8 (p.rights : Int), .bool p.shared] _ W := hst.fact 11 102 (by kernel_rfl) (hall 11 (Nat.le_of_ble_eq_true rfl) (by omega))
                  have f73 : a'.tmps[103]?.getD undef = (.pointer (some ⟨w.heap.size + 1 + 1, 3, none⟩)) := hst.fact 12 103 (by kernel_rfl) (hall 12 (Nat.le_of_ble_eq_true rfl) (by omega))
                  obtain ⟨av, hav⟩ : ∃ av, a'.tmps[102]?.getD undef = av := ⟨_, rfl⟩
                  rw [hav] at f72
                  have hdf : a'.defers = [] := hst.defers
                  obtain rfl : _ = ok := by injection ho
                  clear hst hall hn hfd ho
                  obtain ⟨hT, hO, hN⟩ := f72
                  obtain ⟨hcl, hfz, hL'⟩ := HNX.out W av hT hO hN
                  have h1c : av.oneCell' = true := by obtain ⟨A9, c9, rfl, -⟩ := hO.cells; rfl
                  have HLX := Lib.hid hL'
                  clear hT hO hN hL'
                  refine sec_store rfl 27 103 102 rfl rfl (w.heap.size + 1 + 1) 3 av r.v f73 hav h1c hcl hfz (by kernel_rfl) ?_
                  refine hK _ _ ?_
                  clear f73 hav hcl hfz h1c hK
                  generalize W.setCell ⟨w.heap.size + 1 + 1, 3, none⟩ av = W9 at HLX ⊢
                  obtain ⟨tm, df⟩ := a'
                  obtain rfl : df = [] := hdf
                  simp only [updR, List.any_cons, List.any_nil, Nat.reduceAdd, Nat.reduceLeDiff, decide_true, decide_false, Bool.and_true, Bool.and_false, Bool.or_false, if_true, if_false, Bool.false_eq_true] at hf
                  have hf' : tm = _ := hf
                  subst hf'
                  clear hf
                  go_wp2_with fail
                  go_roundw
                  case rel => exact ⟨i + 1, by go_num, by omega, HLX⟩
                  case measure => simp only [intOf]; omega
              · obtain ⟨b1, o1, hA1, hrg⟩ := recs_all (P := fun W => Turn (XR r) V W) (fun W hW => (HCW.out W hW).ts) V (Turn.refl _ _) 6 portV_len (by omega) (i := j) (by have := HKL.out; simpa [ConfR.keys] using this)
                have hjl : j < c'.ts.length := by have := HKL.out; simpa [ConfR.keys] using this
                have hjli : (j : Int) < (c'.ts.length : Int) := by omega
                have HPX : Hid ((secs c' q'.ch 3).getD j [] = portV c'.ts[j]) := Lib.hid (by
                  have e : secs c' q'.ch 3 = c'.ts.map portV := rfl
                  rw [e]
                  simp [List.getD, hjl])
                generalize c'.ts[j] = p at hrg HPX
                have HRG : Hid (∀ W, Turn (XR r) V W → W.rangeAt b1 (o1 + j * 6) [.int .u16 (p.id : Int), .int .u16 (p.part : Int), .string p.name, .bool p.out, .bool p.que, .int .u32 (p.size : Int)]) := Lib.hid hrg
                have HAR := Lib.hid hA1
                obtain ⟨he1, he2⟩ : r.e = 39 ∧ r.z = 6 := HRR.out
                have HOW : Hid (∀ W, Below V.heap.size V W → OwnC W W3.heap.size 39 6 r.v r.n r.cs) := Lib.hid fun W hb => by have := HOG.out W hb; rw [he1, he2] at this; exact this
                have HNX : Hid (∀ W v', Turn (XR r) V W → OwnC W W3.heap.size 39 6 v' (r.n + 1) (r.cs ++ [.int .u16 (p.id : Int), .int .u16 (p.part : Int), .string p.name, .bool p.out, .bool p.que, .int .u32 (p.size : Int)]) → (∀ b, v'.ownBlock = some b → blk r.A = some b ∨ V.heap.size ≤ b) → W.cell? ⟨w.heap.size + 1 + 1, 4, none⟩ = some r.v ∧ W.frozen? ⟨w.heap.size + 1 + 1, 4, none⟩ = false ∧ L3S W3 w.heap.size c.frame c' q'.ch I 3 ord ov (i + 1) (W.setCell ⟨w.heap.size + 1 + 1, 4, none⟩ v')) := Lib.hid fun W v' ht ho hn => HNG.out W [.int .u16 (p.id : Int), .int .u16 (p.part : Int), .string p.name, .bool p.out, .bool p.que, .int .u32 (p.size : Int)] v' HPX.out ht (by rw [he1, he2]; exact ho) hn
                have HF1 : Hid (∀ W, Turn (XR r) V W → W.cell? ⟨w.heap.size + 1 + 1, 4, none⟩ = some r.v) := HFG
                have HYN : Hid (∀ W, Turn (XR r) V W → W.cell? ⟨w.heap.size, 4, none⟩ = some (.slice q'.A4 c'.ts.length q'.c4)) := Lib.hid fun W hW => by
                  rw [cell_of_row W w.heap.size 4 _ _ _ (HBG.out W hW)]
                  rfl
                have HONE : Hid (∀ u ∈ ([.int .u16 (p.id : Int), .int .u16 (p.part : Int), .string p.name, .bool p.out, .bool p.que, .int .u32 (p.size : Int)] : List Value), u.oneCell' = true) := Lib.hid (by intro u hu; simp only [List.mem_cons, List.not_mem_nil, or_false] at hu; rcases hu with rfl | rfl | rfl | rfl | rfl | rfl <;> rfl)
                clear hA1 hrg HPX HKL HRR HOG HNG HFG HBG HCW he1 he2 hjl
                go_wp2_with fail
                refine region_invXL V (XR r) 11 [117] (by kernel_rfl) [(106, isV (.pointer (some ⟨w.heap.size + 1 + 1, 4, none⟩))), (107, isV r.v), (108, isV (.pointer (some ⟨w.heap.size, 4, none⟩))), (109, isV (.slice q'.A4 c'.ts.length q'.c4)), (110, isV (.slice Ao ord.length co)), (111, isV (.int .i64 (i : Int))), (112, isV (.pointer (some ⟨bo, oo + i, none⟩))), (113, isV (.int .i64 (j : Int))), (114, isV (.pointer (some ⟨b1, o1 + j * 6, none⟩))), (115, isV (.agg #[.int .u16 (p.id : Int), .int .u16 (p.part : Int), .string p.name, .bool p.out, .bool p.que, .int .u32 (p.size : Int)])), (116, isRow V.heap.size 39 6 1 [.int .u16 (p.id : Int), .int .u16 (p.part : Int), .string p.name, .bool p.out, .bool p.que, .int .u32 (p.size : Int)]), (117, isA W3 V r 39 6 [.int .u16 (p.id : Int), .int .u16 (p.part : Int), .string p.name, .bool p.out, .bool p.que, .int .u32 (p.size : Int)]), (118, isV (.pointer (some ⟨w.heap.size + 1 + 1, 4, none⟩)))] 13 ⟨⟨isV_keeps _, fun _ => isV_x _ _⟩, ⟨isV_keeps _, fun _ => isV_x _ _⟩, ⟨isV_keeps _, fun _ => isV_x _ _⟩, ⟨isV_keeps _, fun _ => isV_x _ _⟩, ⟨isV_keeps _, fun _ => isV_x _ _⟩, ⟨isV_keeps _, fun _ => isV_x _ _⟩, ⟨isV_keeps _, fun _ => isV_x _ _⟩, ⟨isV_keeps _, fun _ => isV_x _ _⟩, ⟨isV_keeps _, fun _ => isV_x _ _⟩, ⟨isV_keeps _, fun _ => isV_x _ _⟩, ⟨isRow_keeps _ _ _ _ _, fun _ => isRow_x HXV.out _ _ _ _⟩, ⟨isA_keeps _ _ _ _ _ _, fun h => absurd (by simp) h⟩, ⟨isV_keeps _, fun _ => isV_x _ _⟩, trivial⟩ (by kernel_rfl) ?_ ?_ (by kernel_rfl) (by kernel_rfl) (by kernel_rfl) ?_ ?_
                case refine_1 => exact Turn.of_below (Below.refl _ _).drew
                case refine_2 => exact (Below.refl _ _).drew
                case refine_3 =>
                  refine ⟨?_, ?_, ?_, ?_, ?_, ?_, ?_, ?_, ?_, ?_, ?_, ?_, ?_, trivial⟩
                  case refine_1 =>
                    refine ⟨_, rfl, Nat.le_of_ble_eq_true rfl, fun listed a W hst hn hdep K hK => ?_⟩
                    have e1 := hst.oldOf hn 3 (by kernel_rfl) rfl; simp only [Array.getD_eq_getD_getElem?] at e1
                    go_simp
                    exact hK _ _ (Or.inl (Below.refl _ _)) rfl
                  case refine_2 =>
                    refine ⟨_, rfl, Nat.le_of_ble_eq_true rfl, fun listed a W hst hn hdep K hK => ?_⟩
                    have dd := dep_of hdep 0 (by kernel_rfl); have e1 : a.tmps[106]?.getD undef = (.pointer (some ⟨w.heap.size + 1 + 1, 4, none⟩)) := hst.fact 0 106 (by kernel_rfl) dd; clear dd
                    have y := HF1.out W hst.glob
                    go_simp
                    exact hK _ _ (Or.inl (Below.refl _ _)) rfl
                  case refine_3 =>
                    refine ⟨_, rfl, Nat.le_of_ble_eq_true rfl, fun listed a W hst hn hdep K hK => ?_⟩
                    have e1 := hst.oldOf hn 1 (by kernel_rfl) rfl; simp only [Array.getD_eq_getD_getElem?] at e1
                    go_simp
                    exact hK _ _ (Or.inl (Below.refl _ _)) rfl
                  case refine_4 =>
                    refine ⟨_, rfl, Nat.le_of_ble_eq_true rfl, fun listed a W hst hn hdep K hK => ?_⟩
                    have dd := dep_of hdep 2 (by kernel_rfl); have e1 : a.tmps[108]?.getD undef = (.pointer (some ⟨w.heap.size, 4, none⟩)) := hst.fact 2 108 (by kernel_rfl) dd; clear dd
                    have y := HYN.out W hst.glob
                    go_simp
                    exact hK _ _ (Or.inl (Below.refl _ _)) rfl
                  case refine_5 =>
                    refine ⟨_, rfl, Nat.le_of_ble_eq_true rfl, fun listed a W hst hn hdep K hK => ?_⟩
                    have e1 := hst.oldOf hn 7 (by kernel_rfl) rfl; simp only [Array.getD_eq_getD_getElem?] at e1
                    go_simp
                    exact hK _ _ (Or.inl (Below.refl _ _)) rfl
                  case refine_6 =>
                    refine ⟨_, rfl, Nat.le_of_ble_eq_true rfl, fun listed a W hst hn hdep K hK => ?_⟩
                    have e1 := hst.oldOf hn 8 (by kernel_rfl) rfl; simp only [Array.getD_eq_getD_getElem?] at e1
                    go_simp
                    exact hK _ _ (Or.inl (Below.refl _ _)) rfl
                  case refine_7 =>
                    refine ⟨_, rfl, Nat.le_of_ble_eq_true rfl, fun listed a W hst hn hdep K hK => ?_⟩
                    have dd := dep_of hdep 4 (by kernel_rfl); have e1 : a.tmps[110]?.getD undef = (.slice Ao ord.length co) := hst.fact 4 110 (by kernel_rfl) dd; clear dd
                    have dd := dep_of hdep 5 (by kernel_rfl); have e2 : a.tmps[111]?.getD undef = (.int .i64 (i : Int)) := hst.fact 5 111 (by kernel_rfl) dd; clear dd
                    rw [HAO.out] at e1
                    go_simp
                    exact hK _ _ (Or.inl (Below.refl _ _)) rfl
                  case refine_8 =>
                    refine ⟨_, rfl, Nat.le_of_ble_eq_true rfl, fun listed a W hst hn hdep K hK => ?_⟩
                    have dd := dep_of hdep 6 (by kernel_rfl); have e1 : a.tmps[112]?.getD undef = (.pointer (some ⟨bo, oo + i, none⟩)) := hst.fact 6 112 (by kernel_rfl) dd; clear dd
                    have y := HYO.out W hst.glob
                    go_simp
                    exact hK _ _ (Or.inl (Below.refl _ _)) rfl
                  case refine_9 =>
                    refine ⟨_, rfl, Nat.le_of_ble_eq_true rfl, fun listed a W hst hn hdep K hK => ?_⟩
                    have dd := dep_of hdep 3 (by kernel_rfl); have e1 : a.tmps[109]?.getD undef = (.slice q'.A4 c'.ts.length q'.c4) := hst.fact 3 109 (by kernel_rfl) dd; clear dd
                    have dd := dep_of hdep 7 (by kernel_rfl); have e2 : a.tmps[113]?.getD undef = (.int .i64 (j : Int)) := hst.fact 7 113 (by kernel_rfl) dd; clear dd
                    rw [HAR.out] at e1
                    go_simp
                    exact hK _ _ (Or.inl (Below.refl _ _)) rfl
                  case refine_10 =>
                    refine ⟨_, rfl, Nat.le_of_ble_eq_true rfl, fun listed a W hst hn hdep K hK => ?_⟩
                    have dd := dep_of hdep 8 (by kernel_rfl); have e1 : a.tmps[114]?.getD undef = (.pointer (some ⟨b1, o1 + j * 6, none⟩)) := hst.fact 8 114 (by kernel_rfl) dd; clear dd
                    rw [if_pos (by simp [Region.wanted])]
                    refine wp_load_mid 39 (.tmp 114) rfl b1 (o1 + j * 6) ((eval_tmp a 114).trans e1) [.int .u16 (p.id : Int), .int .u16 (p.part : Int), .string p.name, .bool p.out, .bool p.que, .int .u32 (p.size : Int)] _ (HRG.out W hst.glob) Tryz.underlying39 rfl (by kernel_rfl) ?_
                    exact hK _ _ (Or.inl (Below.refl _ _)) rfl
                  case refine_11 =>
                    refine ⟨_, rfl, Nat.le_of_ble_eq_true rfl, fun listed a W hst hn hdep K hK => ?_⟩
                    have dd := dep_of hdep 9 (by kernel_rfl); have e1 : a.tmps[115]?.getD undef = (.agg #[.int .u16 (p.id : Int), .int .u16 (p.part : Int), .string p.name, .bool p.out, .bool p.que, .int .u32 (p.size : Int)]) := hst.fact 9 115 (by kernel_rfl) dd; clear dd
                    go_simp
                    exact hK _ _ (Or.inl ((Below.refl _ _).alloc (Nat.le_refl _) _)) (OwnC.base (OwnC.lit W 39 6 1 #[.int .u16 (p.id : Int), .int .u16 (p.part : Int), .string p.name, .bool p.out, .bool p.que, .int .u32 (p.size : Int)] (by unfold maxLen; omega) rfl) hst.glob.size)
                  case refine_12 =>
                    refine ⟨_, rfl, Nat.le_of_ble_eq_true rfl, fun listed a W hst hn hdep K hK => ?_⟩
                    have dd := dep_of hdep 1 (by kernel_rfl); have e1 : a.tmps[107]?.getD undef = r.v := hst.fact 1 107 (by kernel_rfl) dd; clear dd
                    have dd := dep_of hdep 10 (by kernel_rfl); have r1 := hst.fact 10 116 (by kernel_rfl) dd; clear dd
                    refine inv_append_any elemT rfl 107 116 rfl W3.heap.size r.v r.n r.cs e1 (HOW.out W (hst.calm hn)) 1 [.int .u16 (p.id : Int), .int .u16 (p.part : Int), .string p.name, .bool p.out, .bool p.que, .int .u32 (p.size : Int)] (OwnC.arg r1) HONE.out (by have := HRL.out; omega) (HWS.out W hst.glob) (fun v' w' ho hg hnm => ?_)
                    have ht : Turn (XR r) W w' := (Turn.of_grown hg).mono fun b _ hb => by unfold XR; rw [← own_blk r.A r.n r.c]; exact hb
                    exact hK _ _ (Or.inr ⟨rfl, ht⟩) (isA_mk hst.glob ht ho hnm)
                  case refine_13 =>
                    refine ⟨_, rfl, Nat.le_of_ble_eq_true rfl, fun listed a W hst hn hdep K hK => ?_⟩
                    have e1 := hst.oldOf hn 3 (by kernel_rfl) rfl; simp only [Array.getD_eq_getD_getElem?] at e1
                    go_simp
                    exact hK _ _ (Or.inl (Below.refl _ _)) rfl
                case refine_4 =>
                  intro ok listed a' W ho hst hn hall K hK
                  obtain ⟨f, hfd, hf⟩ := hst.frameR [(106, 118)] (by kernel_rfl)
                  have f72 : isA W3 V r 39 6 [.int .u16 (p.id : Int), .int .u16 (p.part : Int), .string p.name, .bool p.out, .bool p.que, .int .u32 (p.size : Int)] _ W := hst.fact 11 117 (by kernel_rfl) (hall 11 (Nat.le_of_ble_eq_true rfl) (by omega))
                  have f73 : a'.tmps[118]?.getD undef = (.pointer (some ⟨w.heap.size + 1 + 1, 4, none⟩)) := hst.fact 12 118 (by kernel_rfl) (hall 12 (Nat.le_of_ble_eq_true rfl) (by omega))
                  obtain ⟨av, hav⟩ : ∃ av, a'.tmps[117]?.getD undef = av := ⟨_, rfl⟩
                  rw [hav] at f72
                  have hdf : a'.defers = [] := hst.defers
                  obtain rfl : _ = ok := by injection ho
                  clear hst hall hn hfd ho
                  obtain ⟨hT, hO, hN⟩ := f72
                  obtain ⟨hcl, hfz, hL'⟩ := HNX.out W av hT hO hN
                  have h1c : av.oneCell' = true := by obtain ⟨A9, c9, rfl, -⟩ := hO.cells; rfl
                  have HLX := Lib.hid hL'
                  clear hT hO hN hL'
                  refine sec_store rfl 24 118 117 rfl rfl (w.heap.size + 1 + 1) 4 av r.v f73 hav h1c hcl hfz (by kernel_rfl) ?_
                  refine hK _ _ ?_
                  clear f73 hav hcl hfz h1c hK
                  generalize W.setCell ⟨w.heap.size + 1 + 1, 4, none⟩ av = W9 at HLX ⊢
                  obtain ⟨tm, df⟩ := a'
                  obtain rfl : df = [] := hdf
                  simp only [updR, List.any_cons, List.any_nil, Nat.reduceAdd, Nat.reduceLeDiff, decide_true, decide_false, Bool.and_true, Bool.and_false, Bool.or_false, if_true, if_false, Bool.false_eq_true] at hf
                  have hf' : tm = _ := hf
                  subst hf'
                  clear hf
                  go_wp2_with fail
                  go_roundw
                  case rel => exact ⟨i + 1, by go_num, by omega, HLX⟩
                  case measure => simp only [intOf]; omega
              · obtain ⟨b1, o1, hA1, hrg⟩ := recs_all (P := fun W => Turn (XR r) V W) (fun W hW => (HCW.out W hW).cs) V (Turn.refl _ _) 3 chanV_len (by omega) (i := j) (by rw [(HCW.out V (Turn.refl _ _)).len5]; have := HKL.out; simpa [ConfR.keys] using this)
                have hjl : j < q'.ch.length := by rw [(HCW.out V (Turn.refl _ _)).len5]; have := HKL.out; simpa [ConfR.keys] using this
                have hjli : (j : Int) < (c'.cs.length : Int) := by rw [← (HCW.out V (Turn.refl _ _)).len5]; omega
                have HPX : Hid ((secs c' q'.ch 4).getD j [] = chanV q'.ch[j]) := Lib.hid (by
                  have e : secs c' q'.ch 4 = q'.ch.map chanV := rfl
                  rw [e]
                  simp [List.getD, hjl])
                generalize q'.ch[j] = p at hrg HPX
                have HRG : Hid (∀ W, Turn (XR r) V W → W.rangeAt b1 (o1 + j * 3) [.int .u16 (p.r.id : Int), .int .u16 (p.r.src : Int), .slice p.A p.r.dests.length p.cap]) := Lib.hid hrg
                have HAR := Lib.hid hA1
                obtain ⟨he1, he2⟩ : r.e = 34 ∧ r.z = 3 := HRR.out
                have HOW : Hid (∀ W, Below V.heap.size V W → OwnC W W3.heap.size 34 3 r.v r.n r.cs) := Lib.hid fun W hb => by have := HOG.out W hb; rw [he1, he2] at this; exact this
                have HNX : Hid (∀ W v', Turn (XR r) V W → OwnC W W3.heap.size 34 3 v' (r.n + 1) (r.cs ++ [.int .u16 (p.r.id : Int), .int .u16 (p.r.src : Int), .slice p.A p.r.dests.length p.cap]) → (∀ b, v'.ownBlock = some b → blk r.A = some b ∨ V.heap.size ≤ b) → W.cell? ⟨w.heap.size + 1 + 1, 5, none⟩ = some r.v ∧ W.frozen? ⟨w.heap.size + 1 + 1, 5, none⟩ = false ∧ L3S W3 w.heap.size c.frame c' q'.ch I 4 ord ov (i + 1) (W.setCell ⟨w.heap.size + 1 + 1, 5, none⟩ v')) := Lib.hid fun W v' ht ho hn => HNG.out W [.int .u16 (p.r.id : Int), .int .u16 (p.r.src : Int), .slice p.A p.r.dests.length p.cap] v' HPX.out ht (by rw [he1, he2]; exact ho) hn
                have HF1 : Hid (∀ W, Turn (XR r) V W → W.cell? ⟨w.heap.size + 1 + 1, 5, none⟩ = some r.v) := HFG
                have HYN : Hid (∀ W, Turn (XR r) V W → W.cell? ⟨w.heap.size, 5, none⟩ = some (.slice q'.A5 c'.cs.length q'.c5)) := Lib.hid fun W hW => by
                  rw [cell_of_row W w.heap.size 5 _ _ _ (HBG.out W hW)]
                  rfl
                have HONE : Hid (∀ u ∈ ([.int .u16 (p.r.id : Int), .int .u16 (p.r.src : Int), .slice p.A p.r.dests.length p.cap] : List Value), u.oneCell' = true) := Lib.hid (by intro u hu; simp only [List.mem_cons, List.not_mem_nil, or_false] at hu; rcases hu with rfl | rfl | rfl <;> rfl)
                clear hA1 hrg HPX HKL HRR HOG HNG HFG HBG HCW he1 he2 hjl
                go_wp2_with fail
                refine region_invXL V (XR r) 11 [132] (by kernel_rfl) [(121, isV (.pointer (some ⟨w.heap.size + 1 + 1, 5, none⟩))), (122, isV r.v), (123, isV (.pointer (some ⟨w.heap.size, 5, none⟩))), (124, isV (.slice q'.A5 c'.cs.length q'.c5)), (125, isV (.slice Ao ord.length co)), (126, isV (.int .i64 (i : Int))), (127, isV (.pointer (some ⟨bo, oo + i, none⟩))), (128, isV (.int .i64 (j : Int))), (129, isV (.pointer (some ⟨b1, o1 + j * 3, none⟩))), (130, isV (.agg #[.int .u16 (p.r.id : Int), .int .u16 (p.r.src : Int), .slice p.A p.r.dests.length p.cap])), (131, isRow V.heap.size 34 3 1 [.int .u16 (p.r.id : Int), .int .u16 (p.r.src : Int), .slice p.A p.r.dests.length p.cap]), (132, isA W3 V r 34 3 [.int .u16 (p.r.id : Int), .int .u16 (p.r.src : Int), .slice p.A p.r.dests.length p.cap]), (133, isV (.pointer (some ⟨w.heap.size + 1 + 1, 5, none⟩)))] 13 ⟨⟨isV_keeps _, fun _ => isV_x _ _⟩, ⟨isV_keeps _, fun _ => isV_x _ _⟩, ⟨isV_keeps _, fun _ => isV_x _ _⟩, ⟨isV_keeps _, fun _ => isV_x _ _⟩, ⟨isV_keeps _, fun _ => isV_x _ _⟩, ⟨isV_keeps _, fun _ => isV_x _ _⟩, ⟨isV_keeps _, fun _ => isV_x _ _⟩, ⟨isV_keeps _, fun _ => isV_x _ _⟩, ⟨isV_keeps _, fun _ => isV_x _ _⟩, ⟨isV_keeps _, fun _ => isV_x _ _⟩, ⟨isRow_keeps _ _ _ _ _, fun _ => isRow_x HXV.out _ _ _ _⟩, ⟨isA_keeps _ _ _ _ _ _, fun h => absurd (by simp) h⟩, ⟨isV_keeps _, fun _ => isV_x _ _⟩, trivial⟩ (by kernel_rfl) ?_ ?_ (by kernel_rfl) (by kernel_rfl) (by kernel_rfl) ?_ ?_
                case refine_1 => exact Turn.of_below (Below.refl _ _).drew
                case refine_2 => exact (Below.refl _ _).drew
                case refine_3 =>
                  refine ⟨?_, ?_, ?_, ?_, ?_, ?_, ?_, ?_, ?_, ?_, ?_, ?_, ?_, trivial⟩
                  case refine_1 =>
                    refine ⟨_, rfl, Nat.le_of_ble_eq_true rfl, fun listed a W hst hn hdep K hK => ?_⟩
                    have e1 := hst.oldOf hn 3 (by kernel_rfl) rfl; simp only [Array.getD_eq_getD_getElem?] at e1
                    go_simp
                    exact hK _ _ (Or.inl (Below.refl _ _)) rfl
                  case refine_2 =>
                    refine ⟨_, rfl, Nat.le_of_ble_eq_true rfl, fun listed a W hst hn hdep K hK => ?_⟩
                    have dd := dep_of hdep 0 (by kernel_rfl); have e1 : a.tmps[121]?.getD undef = (.pointer (some ⟨w.heap.size + 1 + 1, 5, none⟩)) := hst.fact 0 121 (by kernel_rfl) dd; clear dd
                    have y := HF1.out W hst.glob
                    go_simp
                    exact hK _ _ (Or.inl (Below.refl _ _)) rfl
                  case refine_3 =>
                    refine ⟨_, rfl, Nat.le_of_ble_eq_true rfl, fun listed a W hst hn hdep K hK => ?_⟩
                    have e1 := hst.oldOf hn 1 (by kernel_rfl) rfl; simp only [Array.getD_eq_getD_getElem?] at e1
                    go_simp
                    exact hK _ _ (Or.inl (Below.refl _ _)) rfl
                  case refine_4 =>
                    refine ⟨_, rfl, Nat.le_of_ble_eq_true rfl, fun listed a W hst hn hdep K hK => ?_⟩
                    have dd := dep_of hdep 2 (by kernel_rfl); have e1 : a.tmps[123]?.getD undef = (.pointer (some ⟨w.heap.size, 5, none⟩)) := hst.fact 2 123 (by kernel_rfl) dd; clear dd
                    have y := HYN.out W hst.glob
                    go_simp
                    exact hK _ _ (Or.inl (Below.refl _ _)) rfl
                  case refine_5 =>
                    refine ⟨_, rfl, Nat.le_of_ble_eq_true rfl, fun listed a W hst hn hdep K hK => ?_⟩
                    have e1 := hst.oldOf hn 7 (by kernel_rfl) rfl; simp only [Array.getD_eq_getD_getElem?] at e1
                    go_simp
                    exact hK _ _ (Or.inl (Below.refl _ _)) rfl
                  case refine_6 =>
                    refine ⟨_, rfl, Nat.le_of_ble_eq_true rfl, fun listed a W hst hn hdep K hK => ?_⟩
                    have e1 := hst.oldOf hn 8 (by kernel_rfl) rfl; simp only [Array.getD_eq_getD_getElem?] at e1
                    go_simp
                    exact hK _ _ (Or.inl (Below.refl _ _)) rfl
                  case refine_7 =>
                    refine ⟨_, rfl, Nat.le_of_ble_eq_true rfl, fun listed a W hst hn hdep K hK => ?_⟩
                    have dd := dep_of hdep 4 (by kernel_rfl); have e1 : a.tmps[125]?.getD undef = (.slice Ao ord.length co) := hst.fact 4 125 (by kernel_rfl) dd; clear dd
                    have dd := dep_of hdep 5 (by kernel_rfl); have e2 : a.tmps[126]?.getD undef = (.int .i64 (i : Int)) := hst.fact 5 126 (by kernel_rfl) dd; clear dd
                    rw [HAO.out] at e1
                    go_simp
                    exact hK _ _ (Or.inl (Below.refl _ _)) rfl
                  case refine_8 =>
                    refine ⟨_, rfl, Nat.le_of_ble_eq_true rfl, fun listed a W hst hn hdep K hK => ?_⟩
                    have dd := dep_of hdep 6 (by kernel_rfl); have e1 : a.tmps[127]?.getD undef = (.pointer (some ⟨bo, oo + i, none⟩)) := hst.fact 6 127 (by kernel_rfl) dd; clear dd
                    have y := HYO.out W hst.glob
                    go_simp
                    exact hK _ _ (Or.inl (Below.refl _ _)) rfl
                  case refine_9 =>
                    refine ⟨_, rfl, Nat.le_of_ble_eq_true rfl, fun listed a W hst hn hdep K hK => ?_⟩
                    have dd := dep_of hdep 3 (by kernel_rfl); have e1 : a.tmps[124]?.getD undef = (.slice q'.A5 c'.cs.length q'.c5) := hst.fact 3 124 (by kernel_rfl) dd; clear dd
                    have dd := dep_of hdep 7 (by kernel_rfl); have e2 : a.tmps[128]?.getD undef = (.int .i64 (j : Int)) := hst.fact 7 128 (by kernel_rfl) dd; clear dd
                    rw [HAR.out] at e1
                    go_simp
                    exact hK _ _ (Or.inl (Below.refl _ _)) rfl
                  case refine_10 =>
                    refine ⟨_, rfl, Nat.le_of_ble_eq_true rfl, fun listed a W hst hn hdep K hK => ?_⟩
                    have dd := dep_of hdep 8 (by kernel_rfl); have e1 : a.tmps[129]?.getD undef = (.pointer (some ⟨b1, o1 + j * 3, none⟩)) := hst.fact 8 129 (by kernel_rfl) dd; clear dd
                    rw [if_pos (by simp [Region.wanted])]
                    refine wp_load_mid 34 (.tmp 129) rfl b1 (o1 + j * 3) ((eval_tmp a 129).trans e1) [.int .u16 (p.r.id : Int), .int .u16 (p.r.src : Int), .slice p.A p.r.dests.length p.cap] _ (HRG.out W hst.glob) Tryz.underlying34 rfl (by kernel_rfl) ?_
                    exact hK _ _ (Or.inl (Below.refl _ _)) rfl
                  case refine_11 =>
                    refine ⟨_, rfl, Nat.le_of_ble_eq_true rfl, fun listed a W hst hn hdep K hK => ?_⟩
                    have dd := dep_of hdep 9 (by kernel_rfl); have e1 : a.tmps[130]?.getD undef = (.agg #[.int .u16 (p.r.id : Int), .int .u16 (p.r.src : Int), .slice p.A p.r.dests.length p.cap]) := hst.fact 9 130 (by kernel_rfl) dd; clear dd
                    go_simp
                    exact hK _ _ (Or.inl ((Below.refl _ _).alloc (Nat.le_refl _) _)) (OwnC.base (OwnC.lit W 34 3 1 #[.int .u16 (p.r.id : Int), .int .u16 (p.r.src : Int), .slice p.A p.r.dests.length p.cap] (by unfold maxLen; omega) rfl) hst.glob.size)
                  case refine_12 =>
                    refine ⟨_, rfl, Nat.le_of_ble_eq_true rfl, fun listed a W hst hn hdep K hK => ?_⟩
                    have dd := dep_of hdep 1 (by kernel_rfl); have e1 : a.tmps[122]?.getD undef = r.v := hst.fact 1 122 (by kernel_rfl) dd; clear dd
                    have dd := dep_of hdep 10 (by kernel_rfl); have r1 := hst.fact 10 131 (by kernel_rfl) dd; clear dd
                    refine inv_append_any elemC rfl 122 131 rfl W3.heap.size r.v r.n r.cs e1 (HOW.out W (hst.calm hn)) 1 [.int .u16 (p.r.id : Int), .int .u16 (p.r.src : Int), .slice p.A p.r.dests.length p.cap] (OwnC.arg r1) HONE.out (by have := HRL.out; omega) (HWS.out W hst.glob) (fun v' w' ho hg hnm => ?_)
                    have ht : Turn (XR r) W w' := (Turn.of_grown hg).mono fun b _ hb => by unfold XR; rw [← own_blk r.A r.n r.c]; exact hb
                    exact hK _ _ (Or.inr ⟨rfl, ht⟩) (isA_mk hst.glob ht ho hnm)
                  case refine_13 =>
                    refine ⟨_, rfl, Nat.le_of_ble_eq_true rfl, fun listed a W hst hn hdep K hK => ?_⟩
                    have e1 := hst.oldOf hn 3 (by kernel_rfl) rfl; simp only [Array.getD_eq_getD_getElem?] at e1
                    go_simp
                    exact hK _ _ (Or.inl (Below.refl _ _)) rfl
                case refine_4 =>
                  intro ok listed a' W ho hst hn hall K hK
                  obtain ⟨f, hfd, hf⟩ := hst.frameR [(121, 133)] (by kernel_rfl)
                  have f72 : isA W3 V r 34 3 [.int .u16 (p.r.id : Int), .int .u16 (p.r.src : Int), .slice p.A p.r.dests.length p.cap] _ W := hst.fact 11 132 (by kernel_rfl) (hall 11 (Nat.le_of_ble_eq_true rfl) (by omega))
                  have f73 : a'.tmps[133]?.getD undef = (.pointer (some ⟨w.heap.size + 1 + 1, 5, none⟩)) := hst.fact 12 133 (by kernel_rfl) (hall 12 (Nat.le_of_ble_eq_true rfl) (by omega))
                  obtain ⟨av, hav⟩ : ∃ av, a'.tmps[132]?.getD undef = av := ⟨_, rfl⟩
                  rw [hav] at f72
                  have hdf : a'.defers = [] := hst.defers
                  obtain rfl : _ = ok := by injection ho
                  clear hst hall hn hfd ho
                  obtain ⟨hT, hO, hN⟩ := f72
                  obtain ⟨hcl, hfz, hL'⟩ := HNX.out W av hT hO hN
                  have h1c : av.oneCell' = true := by obtain ⟨A9, c9, rfl, -⟩ := hO.cells; rfl
                  have HLX := Lib.hid hL'
                  clear hT hO hN hL'
                  refine sec_store rfl 28 133 132 rfl rfl (w.heap.size + 1 + 1) 5 av r.v f73 hav h1c hcl hfz (by kernel_rfl) ?_
                  refine hK _ _ ?_
                  clear f73 hav hcl hfz h1c hK
                  generalize W.setCell ⟨w.heap.size + 1 + 1, 5, none⟩ av = W9 at HLX ⊢
                  obtain ⟨tm, df⟩ := a'
                  obtain rfl : df = [] := hdf
                  simp only [updR, List.any_cons, List.any_nil, Nat.reduceAdd, Nat.reduceLeDiff, decide_true, decide_false, Bool.and_true, Bool.and_false, Bool.or_false, if_true, if_false, Bool.false_eq_true] at hf
                  have hf' : tm = _ := hf
                  subst hf'
                  clear hf
                  go_wp2_with fail
                  go_roundw
                  case rel => exact ⟨i + 1, by go_num, by omega, HLX⟩
                  case measure => simp only [intOf]; omega
            · have hii : ¬ (i : Int) < (ord.length : Int) := by omega
              have hie : i = ord.length := by omega
              subst hie
              have HL3 : Hid (∃ R I, NS W3 (w.heap.size + 1 + 1) c.frame R wr ∧ Rws c' q'.ch R I ∧ Srt c' (si + 1 + 1) I) := Lib.hid ⟨R', _, hl3.ns, hl3.rw.congr (fun k hk => by simp only [List.take_length]), HS2.out⟩
              clear hl3
              go_wp2_with fail
              go_roundw
              case rel => exact ⟨si + 1, sI + 1, by go_num, Lib.hid (by have := HSI.out; omega), by omega, HL3⟩
              case measure => simp only [intOf]; have := HSI.out; omega
        · have hsI6 : ¬ sI ≤ 5 := by have := HSI.out; omega
          have hs5 : si = 5 := by omega
          subst hs5
          obtain ⟨n, qn, hbox, hnorm, hcfg, hbel⟩ := end3 HK.out HNS.out HRW.out HST.out HCC.out HSC.out
          have hres := HK.out.res _ HNS.out.turn
          obtain ⟨NV, hNV⟩ : ∃ NV, NV = cfgA n qn := ⟨_, rfl⟩
          have hz : NV.size = 6 := by rw [hNV]; rfl
          have HZ := Lib.hid hz
          have HI : Hid ((Tryz.prog.info? 30).map (·.size) = some NV.size) := Lib.hid (by rw [hz]; kernel_rfl)
          have HO : Hid (zeroC.size = NV.size ∧ NV.all (·.oneCell') = true) := Lib.hid (by rw [hNV]; refine ⟨rfl, ?_⟩; simp only [cfgA, List.all_toArray, List.all_cons, List.all_nil]; rfl)
          have HV : Hid (cfgV n qn = .agg NV) := Lib.hid (by rw [hNV]; rfl)
          rw [← hNV] at hbox hcfg hbel
          have HALL := Lib.hid hbox
          have HRES := Lib.hid hres
          have HF := Lib.hid (And.intro hnorm (And.intro hcfg hbel))
          clear hbox hres hnorm hcfg hbel hNV hz HNS HRW HST HBX HCV
          go_wp2_with (first
            | (with_reducible refine load_cfg rfl (.tmp 3) rfl (w.heap.size + 1 + 1) rfl NV HZ.out HALL.out ?_)
            | (with_reducible refine wpList_store_row rfl _ _ _ rfl (w.heap.size + 1) NV rfl rfl _ _ HRES.out HI.out HO.out.1 HO.out.2 ?_))
          refine bodyPost_ret (v := .agg NV) ?_ rfl ⟨n, qn, by rw [← HV.out]; rfl, HF.out.1, HF.out.2.1, HF.out.2.2⟩
          exact results_cell_row rfl _ _ (w.heap.size + 1) _ NV _ _ rfl (setRow_heap wr _ _ _ _ _ HRES.out) Tryz.underlying30 rfl HI.out

end Go.Proofs.YthdagjlgfffpbaaGreat
