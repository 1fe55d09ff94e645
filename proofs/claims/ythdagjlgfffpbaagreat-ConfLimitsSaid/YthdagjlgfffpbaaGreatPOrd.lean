/-
  Layer 5 (conf): words for the program's order of records. By the verifier.
-/
import Derived.Test.YthdagjlgfffpbaaGreatMSort
import Derived.Test.YthdagjlgfffpbaaGreatPMath
import Derived.Test.YthdagjlgfffpbaaGreatPRec2
set_option linter.unusedVariables false
namespace Go.Proofs.YthdagjlgfffpbaaGreat
open Go.RowKit Go.Sort

theorem alloc2_row (w : World) (a b : Obj) : ((w.alloc a).alloc b).heap[w.heap.size + 1]? = some b := by
  have h := heap_alloc_new (w.alloc a) b
  rwa [show (w.alloc a).heap.size = w.heap.size + 1 by simp] at h

/-- Two records boxed, read whole. -/
structure TwoR (w W1 : World) (bz : Nat) (cx cy : Array Value) (t : TypeId) : Prop where
  x : ∀ W, Below W1.heap.size W1 W → W.heap[bz]? = some (.cells cx t)
  y : ∀ W, Below W1.heap.size W1 W → W.heap[bz + 1]? = some (.cells cy t)
  below : Below w.heap.size w W1
  drawn : w.drawn ≤ W1.drawn
theorem twoR_boxed (w : World) (cx cy : Array Value) (t : TypeId) : TwoR w ((w.alloc (.cells cx t)).alloc (.cells cy t)) w.heap.size cx cy t := by
  have hA : Below w.heap.size w (w.alloc (.cells cx t)) := (Below.refl _ _).alloc (Nat.le_refl _) _
  have hs : (w.alloc (.cells cx t)).heap.size = w.heap.size + 1 := by simp
  have hB : Below (w.alloc (.cells cx t)).heap.size (w.alloc (.cells cx t)) ((w.alloc (.cells cx t)).alloc (.cells cy t)) := (Below.refl _ _).alloc (Nat.le_refl _) _
  have hz : ((w.alloc (.cells cx t)).alloc (.cells cy t)).heap.size = w.heap.size + 2 := by simp
  refine ⟨fun W hW => ?_, fun W hW => ?_, hA.trans (hB.mono hA.size), Nat.le_refl _⟩
  · rw [hW.block _ (by omega), hB.block _ (by omega)]
    exact heap_alloc_new w _
  · rw [hW.block _ (by omega)]
    exact alloc2_row w _ _

theorem inv_load_row {P : Program} {ops : Array Oper} {o : Oper} {a : Act} {w : World} {K : Act → World → Prop} {Q : Exit → Act → World → Prop} {E : Prop} (hgd : o.guard = none) (ty : TypeId) (x : Nat) (ho : o.op = .load ty (.tmp x)) (g : Nat) (hx : a.tmps[x]?.getD undef = .pointer (some ⟨g, 0, none⟩)) (cs : Array Value) (d : TypeDesc) (hg : w.heap[g]? = some (.cells cs ty))
    (hu : P.underlying ty = some d) (hd : (match d with | .struct _ | .array _ _ => true | _ => false) = true) (hi : (P.info? ty).map (·.size) = some cs.size) (h : K (a.put o.dst (.agg cs)) w) :
    if Region.wanted o (yielded ops a.tmps) = true then Oper.wp P o a w K Q else E := by
  have hw : Region.wanted o (yielded ops a.tmps) = true := by simp [Region.wanted, hgd]
  rw [if_pos hw]
  exact wp_load_row ty (.tmp x) ho g ((eval_tmp a x).trans hx) ty cs (0, 0) d hg hu hd hi h

theorem SortRes.more {α : Type} {w W1 : World} {base : Nat} {e : TypeId} {k : Nat} {v : Value} {enc : α → List Value} {cf : α → α → Int} {l : List α} {w' : World} (h : SortRes W1 base e k v enc cf l w') (hb : Gd w W1) : SortRes w base e k v enc cf l w' := by
  obtain ⟨l', h1, h2, h3, h4, h5⟩ := h
  exact ⟨l', h1, h2, h3, (Turn.of_below hb.1).trans h4 fun i _ hi => hi, Nat.le_trans hb.2 h5⟩

theorem Cells.turn {S : Nat → Prop} {w w' : World} {A : Option Addr} {cs : List Value} (h : Cells w A cs) (hs : Turn S w w') (hne : ∀ a, A = Option.some a → ¬ S a.block) : Cells w' A cs := by
  intro i hi
  obtain ⟨b, o, hA, hb, hc⟩ := h i hi
  refine ⟨b, o, hA, Nat.lt_of_lt_of_le hb hs.size, ?_⟩
  rw [World.cell?_of_block (w := w) (a := ⟨b, o + i, none⟩) (hs.block b hb (hne _ hA))]
  exact hc

end Go.Proofs.YthdagjlgfffpbaaGreat

/-
  Layer 5 (conf): the program's order of partitions. By the verifier.
-/
set_option linter.unusedVariables false
namespace Go.Proofs.YthdagjlgfffpbaaGreat
open Go.RowKit Go.Sort

theorem rec1_ok (a0 : Int) (a1 : ByteArray) (a2 : Int) (a3 : Int) (w : World) : Calls Tryz.prog 39 #[.agg #[.int .u16 a0, .string a1, .int .u64 a2, .int .u64 a3]] w fun e w' => e = .returned (.agg #[.int .u16 a0, .string a1, .int .u64 a2, .int .u64 a3]) ∧ Gd w w' := by
  go_enter Tryz.func39, Tryz.ntmps39
  go_wp2_with fail
  refine bodyPost_ret (v := .agg #[.int .u16 a0, .string a1, .int .u64 a2, .int .u64 a3]) ?_ rfl ⟨rfl, ((Gd.refl w).alloc _).alloc _⟩
  exact results_cell_row rfl _ _ (w.heap.size + 1) 81 #[.int .u16 a0, .string a1, .int .u64 a2, .int .u64 a3] (0, 0) _ rfl (alloc2_row w _ _) Tryz.underlying81 rfl (by kernel_rfl)

theorem row1_load : (Tryz.prog.info? 36).map (·.size) = some 4 := by kernel_rfl

set_option maxHeartbeats 4000000 in
theorem clo1_ok (a0 b0 : Int) (a1 b1 : ByteArray) (a2 b2 : Int) (a3 b3 : Int) (Bc Br : Nat) (w : World) (hc : w.cell? ⟨Bc, 0, none⟩ = some (.func (.func 40) #[] #[])) (hr : w.cell? ⟨Br, 0, none⟩ = some (.func (.func 39) #[] #[])) (lc : Bc < w.heap.size) (lr : Br < w.heap.size) :
    Calls Tryz.prog 74 #[.agg #[.int .u16 a0, .string a1, .int .u64 a2, .int .u64 a3], .agg #[.int .u16 b0, .string b1, .int .u64 b2, .int .u64 b3], .pointer (some ⟨Bc, 0, none⟩), .pointer (some ⟨Br, 0, none⟩)] w fun e w' => e = .returned (.int .i64 (orI [cmpI a0 b0, cmpS a1 b1, cmpI a2 b2, cmpI a3 b3])) ∧ Gd w w' := by
  have HK := Lib.hid (fun W (hW : Below w.heap.size w W) => pcmp_ok a0 b0 a1 b1 a2 b2 a3 b3 W)
  generalize orI [cmpI a0 b0, cmpS a1 b1, cmpI a2 b2, cmpI a3 b3] = r at *
  have HX := Lib.hid (fun W => rec1_ok a0 a1 a2 a3 W)
  have HY := Lib.hid (fun W => rec1_ok b0 b1 b2 b3 W)
  obtain ⟨W1, hW1⟩ : ∃ W1, W1 = (w.alloc (.cells #[.int .u16 a0, .string a1, .int .u64 a2, .int .u64 a3] 36)).alloc (.cells #[.int .u16 b0, .string b1, .int .u64 b2, .int .u64 b3] 36) := ⟨_, rfl⟩
  have HP : Hid (TwoR w W1 w.heap.size #[.int .u16 a0, .string a1, .int .u64 a2, .int .u64 a3] #[.int .u16 b0, .string b1, .int .u64 b2, .int .u64 b3] 36) := Lib.hid (by rw [hW1]; exact twoR_boxed _ _ _ _)
  have HC : Hid (∀ W, Below W1.heap.size W1 W → W.cell? ⟨Bc, 0, none⟩ = some (.func (.func 40) #[] #[])) := Lib.hid (fun W hW => ((bcell (HP.out.below.trans (hW.mono HP.out.below.size)) Bc 0 lc).trans hc))
  have HR : Hid (∀ W, Below W1.heap.size W1 W → W.cell? ⟨Br, 0, none⟩ = some (.func (.func 39) #[] #[])) := Lib.hid (fun W hW => ((bcell (HP.out.below.trans (hW.mono HP.out.below.size)) Br 0 lr).trans hr))
  generalize hb1 : w.heap.size = bz at HP
  have HB := Lib.hid hb1
  clear hc hr lc lr
  go_enter Tryz.func74, Tryz.ntmps74
  go_wp2_with fail
  rw [← hW1]
  clear hW1 hb1
  refine region_invG (fun x => W1.drawn ≤ x.drawn) [] W1 [(7, Sp.val (.func (.func 40) #[] #[])), (8, Sp.val (.func (.func 39) #[] #[])), (9, Sp.val (.agg #[.int .u16 a0, .string a1, .int .u64 a2, .int .u64 a3])), (10, Sp.val (.agg #[.int .u16 a0, .string a1, .int .u64 a2, .int .u64 a3])), (11, Sp.val (.func (.func 39) #[] #[])), (12, Sp.val (.agg #[.int .u16 b0, .string b1, .int .u64 b2, .int .u64 b3])), (13, Sp.val (.agg #[.int .u16 b0, .string b1, .int .u64 b2, .int .u64 b3])), (14, Sp.val (.int .i64 r)), (6, Sp.val (.int .i64 r))] [] rfl (by kernel_rfl) ?_ ?_ (by kernel_rfl) ?_ ?_
  case refine_1 => exact (Below.refl _ _).drew
  case refine_2 => exact Nat.le_succ _
  case refine_3 =>
    refine ⟨?_, ?_, ?_, ?_, ?_, ?_, ?_, ?_, ?_, trivial⟩
    case refine_1 =>
      refine ⟨_, rfl, Nat.le_of_ble_eq_true rfl, fun listed a W hst hn hdep K hK => ?_⟩
      (have e1 := hst.oldOf hn 2 (by kernel_rfl) rfl; simp only [Array.getD_eq_getD_getElem?] at e1)
      have c := HC.out W hst.glob
      go_simp
      exact hK _ _ (Or.inr (Below.refl _ _)) hst.glob (Sp.of_val rfl) hst.extra
    case refine_2 =>
      refine ⟨_, rfl, Nat.le_of_ble_eq_true rfl, fun listed a W hst hn hdep K hK => ?_⟩
      (have e1 := hst.oldOf hn 3 (by kernel_rfl) rfl; simp only [Array.getD_eq_getD_getElem?] at e1)
      have c := HR.out W hst.glob
      go_simp
      exact hK _ _ (Or.inr (Below.refl _ _)) hst.glob (Sp.of_val rfl) hst.extra
    case refine_3 =>
      refine ⟨_, rfl, Nat.le_of_ble_eq_true rfl, fun listed a W hst hn hdep K hK => ?_⟩
      (have e1 := hst.oldOf hn 4 (by kernel_rfl) rfl; simp only [Array.getD_eq_getD_getElem?] at e1)
      refine inv_load_row rfl 36 4 rfl bz e1 #[.int .u16 a0, .string a1, .int .u64 a2, .int .u64 a3] _ (HP.out.x W hst.glob) Tryz.underlying36 rfl row1_load ?_
      exact hK _ _ (Or.inr (Below.refl _ _)) hst.glob (Sp.of_val rfl) hst.extra
    case refine_4 =>
      refine ⟨_, rfl, Nat.le_of_ble_eq_true rfl, fun listed a W hst hn hdep K hK => ?_⟩
      (have dd := dep_of hdep 1 (by kernel_rfl); have e1 := hst.valOf 1 8 (by kernel_rfl) dd rfl; clear dd)
      (have dd := dep_of hdep 2 (by kernel_rfl); have e2 := hst.valOf 2 9 (by kernel_rfl) dd rfl; clear dd)
      go_simp
      go_wp2_with (go_at_call 39; with_reducible refine (HX.out _).mono ?_; rintro e w1 ⟨rfl, hg⟩)
      exact hK _ _ (Or.inr hg.1) (hst.glob.trans (hg.1.mono hst.glob.size)) (Sp.of_val rfl) (Nat.le_trans hst.extra hg.2)
    case refine_5 =>
      refine ⟨_, rfl, Nat.le_of_ble_eq_true rfl, fun listed a W hst hn hdep K hK => ?_⟩
      (have e1 := hst.oldOf hn 3 (by kernel_rfl) rfl; simp only [Array.getD_eq_getD_getElem?] at e1)
      have c := HR.out W hst.glob
      go_simp
      exact hK _ _ (Or.inr (Below.refl _ _)) hst.glob (Sp.of_val rfl) hst.extra
    case refine_6 =>
      refine ⟨_, rfl, Nat.le_of_ble_eq_true rfl, fun listed a W hst hn hdep K hK => ?_⟩
      (have e1 := hst.oldOf hn 5 (by kernel_rfl) rfl; simp only [Array.getD_eq_getD_getElem?] at e1)
      refine inv_load_row rfl 36 5 rfl (bz + 1) e1 #[.int .u16 b0, .string b1, .int .u64 b2, .int .u64 b3] _ (HP.out.y W hst.glob) Tryz.underlying36 rfl row1_load ?_
      exact hK _ _ (Or.inr (Below.refl _ _)) hst.glob (Sp.of_val rfl) hst.extra
    case refine_7 =>
      refine ⟨_, rfl, Nat.le_of_ble_eq_true rfl, fun listed a W hst hn hdep K hK => ?_⟩
      (have dd := dep_of hdep 4 (by kernel_rfl); have e1 := hst.valOf 4 11 (by kernel_rfl) dd rfl; clear dd)
      (have dd := dep_of hdep 5 (by kernel_rfl); have e2 := hst.valOf 5 12 (by kernel_rfl) dd rfl; clear dd)
      go_simp
      go_wp2_with (go_at_call 39; with_reducible refine (HY.out _).mono ?_; rintro e w1 ⟨rfl, hg⟩)
      exact hK _ _ (Or.inr hg.1) (hst.glob.trans (hg.1.mono hst.glob.size)) (Sp.of_val rfl) (Nat.le_trans hst.extra hg.2)
    case refine_8 =>
      refine ⟨_, rfl, Nat.le_of_ble_eq_true rfl, fun listed a W hst hn hdep K hK => ?_⟩
      (have dd := dep_of hdep 0 (by kernel_rfl); have e1 := hst.valOf 0 7 (by kernel_rfl) dd rfl; clear dd)
      (have dd := dep_of hdep 3 (by kernel_rfl); have e2 := hst.valOf 3 10 (by kernel_rfl) dd rfl; clear dd)
      (have dd := dep_of hdep 6 (by kernel_rfl); have e3 := hst.valOf 6 13 (by kernel_rfl) dd rfl; clear dd)
      have HKW := HK.out W (HP.out.below.trans (hst.glob.mono HP.out.below.size))
      go_simp
      go_wp2_with (go_at_call 40; with_reducible refine HKW.mono ?_; rintro e w1 ⟨rfl, hg⟩)
      exact hK _ _ (Or.inr hg.1) (hst.glob.trans (hg.1.mono hst.glob.size)) (Sp.of_val rfl) (Nat.le_trans hst.extra hg.2)
    case refine_9 => (refine ⟨_, rfl, Nat.le_of_ble_eq_true rfl, fun listed a W hst hn hdep K hK => ?_⟩; (have dd := dep_of hdep 7 (by kernel_rfl); have e1 := hst.valOf 7 14 (by kernel_rfl) dd rfl; clear dd); go_simp; exact hK _ _ (Or.inr (Below.refl _ _)) hst.glob (Sp.of_val rfl) hst.extra)
  case refine_4 =>
    rintro ⟨tm, df⟩ w' listed hl hst
    obtain rfl : df = [] := hst.defers
    have hr := hst.valOf 8 6 (by kernel_rfl) (hl 8 (Nat.le_of_ble_eq_true rfl)) rfl
    have hw := hst.glob
    have hd := hst.extra
    clear hst hl
    go_wp2_with fail
    go_ret
    exact ⟨by simp [hr], HP.out.below.trans (hw.mono HP.out.below.size), Nat.le_trans HP.out.drawn hd⟩

theorem partV_one (x : PartR) : ∀ v ∈ partV x, v.oneCell' = true := by
  intro v hv
  simp only [partV, List.mem_cons, List.not_mem_nil, or_false] at hv
  rcases hv with rfl | rfl | rfl | rfl <;> rfl

set_option maxHeartbeats 1000000 in
theorem ord1_ok (l : List PartR) (w : World) (base : Nat) (v : Value) (ho : OwnC w base 36 4 v l.length (l.flatMap partV)) (hl : l.length ≤ 1000000) :
    Calls Tryz.prog 38 #[v, .func (.func 39) #[] #[], .func (.func 40) #[] #[]] w fun e w' => e = .returned (.tuple #[]) ∧ SortRes w base 36 4 v partV cfP l w' := by
  obtain ⟨W1, hW1⟩ : ∃ W1, W1 = (w.alloc (.cells #[.func (.func 39) #[] #[]] 82)).alloc (.cells #[.func (.func 40) #[] #[]] 83) := ⟨_, rfl⟩
  have HT : Hid (Two w W1 w.heap.size #[.func (.func 39) #[] #[]] #[.func (.func 40) #[] #[]]) := Lib.hid (by rw [hW1]; exact two_boxed _ _ _ _ _)
  have hs1 : w.heap.size + 2 = W1.heap.size := by rw [hW1]; simp
  have hcmp : CmpOk 74 #[.pointer (some ⟨w.heap.size + 1, 0, none⟩), .pointer (some ⟨w.heap.size, 0, none⟩)] partV cfP v.ownBlock W1 := by
    intro W hW x y
    have old : ∀ b, w.heap.size ≤ b → b < W1.heap.size → W.cell? ⟨b, 0, none⟩ = W1.cell? ⟨b, 0, none⟩ := fun b h1 h2 => World.cell?_of_block (hW.block b h2 (fun h => by have := (World.ownsRow.lt ho b h).2; omega))
    have c1 := HT.out.x W1 (Below.refl _ _) 0 _ rfl
    have c2 := HT.out.y W1 (Below.refl _ _) 0 _ rfl
    have hz := hW.size
    exact clo1_ok (x.id : Int) (y.id : Int) (x.name) (y.name) (x.period : Int) (y.period : Int) (x.dur : Int) (y.dur : Int) (w.heap.size + 1) w.heap.size W ((old _ (by omega) (by omega)).trans c2) ((old _ (by omega) (by omega)).trans c1) (by omega) (by omega)
  have hcon := sortFunc_own Tryz.srt73 4 (by omega) Tryz.isAgg36 Tryz.sizeOf36 partV (fun _ => rfl) partV_one cfP (swo_key _ PartR.key ltP) 74 #[.pointer (some ⟨w.heap.size + 1, 0, none⟩), .pointer (some ⟨w.heap.size, 0, none⟩)] (enters_of Tryz.func74 (by kernel_rfl) rfl) l W1 base 36 v (ho.below HT.out.below) hcmp hl
  have HCON := Lib.hid (hcon.mono fun r w' h => And.intro h.1 (h.2.more ⟨HT.out.below, HT.out.drawn⟩))
  change Hid (Calls Tryz.prog 73 _ _ _) at HCON
  clear hcon hcmp hs1 HT ho
  have hbox := hW1.symm
  clear hW1
  go_enter Tryz.func38, Tryz.ntmps38
  go_wp2_with (go_at_call 73; refine HCON.out.mono ?_; rintro e w1 ⟨rfl, hs⟩)
  go_end0
  exact ⟨rfl, hs⟩

end Go.Proofs.YthdagjlgfffpbaaGreat

/-
  Layer 5 (conf): the program's order of windows. By the verifier.
-/
set_option linter.unusedVariables false
namespace Go.Proofs.YthdagjlgfffpbaaGreat
open Go.RowKit Go.Sort

theorem rec2_ok (a0 : Int) (a1 : Int) (a2 : Int) (w : World) : Calls Tryz.prog 42 #[.agg #[.int .u64 a0, .int .u64 a1, .int .u16 a2]] w fun e w' => e = .returned (.agg #[.int .u64 a0, .int .u64 a1, .int .u16 a2]) ∧ Gd w w' := by
  go_enter Tryz.func42, Tryz.ntmps42
  go_wp2_with fail
  refine bodyPost_ret (v := .agg #[.int .u64 a0, .int .u64 a1, .int .u16 a2]) ?_ rfl ⟨rfl, ((Gd.refl w).alloc _).alloc _⟩
  exact results_cell_row rfl _ _ (w.heap.size + 1) 87 #[.int .u64 a0, .int .u64 a1, .int .u16 a2] (0, 0) _ rfl (alloc2_row w _ _) Tryz.underlying87 rfl (by kernel_rfl)

theorem row2_load : (Tryz.prog.info? 45).map (·.size) = some 3 := by kernel_rfl

set_option maxHeartbeats 4000000 in
theorem clo2_ok (a0 b0 : Int) (a1 b1 : Int) (a2 b2 : Int) (Bc Br : Nat) (w : World) (hc : w.cell? ⟨Bc, 0, none⟩ = some (.func (.func 43) #[] #[])) (hr : w.cell? ⟨Br, 0, none⟩ = some (.func (.func 42) #[] #[])) (lc : Bc < w.heap.size) (lr : Br < w.heap.size) :
    Calls Tryz.prog 80 #[.agg #[.int .u64 a0, .int .u64 a1, .int .u16 a2], .agg #[.int .u64 b0, .int .u64 b1, .int .u16 b2], .pointer (some ⟨Bc, 0, none⟩), .pointer (some ⟨Br, 0, none⟩)] w fun e w' => e = .returned (.int .i64 (orI [cmpI a0 b0, cmpI a1 b1, cmpI a2 b2])) ∧ Gd w w' := by
  have HK := Lib.hid (fun W (hW : Below w.heap.size w W) => wcmp_ok a0 b0 a1 b1 a2 b2 W)
  generalize orI [cmpI a0 b0, cmpI a1 b1, cmpI a2 b2] = r at *
  have HX := Lib.hid (fun W => rec2_ok a0 a1 a2 W)
  have HY := Lib.hid (fun W => rec2_ok b0 b1 b2 W)
  obtain ⟨W1, hW1⟩ : ∃ W1, W1 = (w.alloc (.cells #[.int .u64 a0, .int .u64 a1, .int .u16 a2] 45)).alloc (.cells #[.int .u64 b0, .int .u64 b1, .int .u16 b2] 45) := ⟨_, rfl⟩
  have HP : Hid (TwoR w W1 w.heap.size #[.int .u64 a0, .int .u64 a1, .int .u16 a2] #[.int .u64 b0, .int .u64 b1, .int .u16 b2] 45) := Lib.hid (by rw [hW1]; exact twoR_boxed _ _ _ _)
  have HC : Hid (∀ W, Below W1.heap.size W1 W → W.cell? ⟨Bc, 0, none⟩ = some (.func (.func 43) #[] #[])) := Lib.hid (fun W hW => ((bcell (HP.out.below.trans (hW.mono HP.out.below.size)) Bc 0 lc).trans hc))
  have HR : Hid (∀ W, Below W1.heap.size W1 W → W.cell? ⟨Br, 0, none⟩ = some (.func (.func 42) #[] #[])) := Lib.hid (fun W hW => ((bcell (HP.out.below.trans (hW.mono HP.out.below.size)) Br 0 lr).trans hr))
  generalize hb1 : w.heap.size = bz at HP
  have HB := Lib.hid hb1
  clear hc hr lc lr
  go_enter Tryz.func80, Tryz.ntmps80
  go_wp2_with fail
  rw [← hW1]
  clear hW1 hb1
  refine region_invG (fun x => W1.drawn ≤ x.drawn) [] W1 [(7, Sp.val (.func (.func 43) #[] #[])), (8, Sp.val (.func (.func 42) #[] #[])), (9, Sp.val (.agg #[.int .u64 a0, .int .u64 a1, .int .u16 a2])), (10, Sp.val (.agg #[.int .u64 a0, .int .u64 a1, .int .u16 a2])), (11, Sp.val (.func (.func 42) #[] #[])), (12, Sp.val (.agg #[.int .u64 b0, .int .u64 b1, .int .u16 b2])), (13, Sp.val (.agg #[.int .u64 b0, .int .u64 b1, .int .u16 b2])), (14, Sp.val (.int .i64 r)), (6, Sp.val (.int .i64 r))] [] rfl (by kernel_rfl) ?_ ?_ (by kernel_rfl) ?_ ?_
  case refine_1 => exact (Below.refl _ _).drew
  case refine_2 => exact Nat.le_succ _
  case refine_3 =>
    refine ⟨?_, ?_, ?_, ?_, ?_, ?_, ?_, ?_, ?_, trivial⟩
    case refine_1 =>
      refine ⟨_, rfl, Nat.le_of_ble_eq_true rfl, fun listed a W hst hn hdep K hK => ?_⟩
      (have e1 := hst.oldOf hn 2 (by kernel_rfl) rfl; simp only [Array.getD_eq_getD_getElem?] at e1)
      have c := HC.out W hst.glob
      go_simp
      exact hK _ _ (Or.inr (Below.refl _ _)) hst.glob (Sp.of_val rfl) hst.extra
    case refine_2 =>
      refine ⟨_, rfl, Nat.le_of_ble_eq_true rfl, fun listed a W hst hn hdep K hK => ?_⟩
      (have e1 := hst.oldOf hn 3 (by kernel_rfl) rfl; simp only [Array.getD_eq_getD_getElem?] at e1)
      have c := HR.out W hst.glob
      go_simp
      exact hK _ _ (Or.inr (Below.refl _ _)) hst.glob (Sp.of_val rfl) hst.extra
    case refine_3 =>
      refine ⟨_, rfl, Nat.le_of_ble_eq_true rfl, fun listed a W hst hn hdep K hK => ?_⟩
      (have e1 := hst.oldOf hn 4 (by kernel_rfl) rfl; simp only [Array.getD_eq_getD_getElem?] at e1)
      refine inv_load_row rfl 45 4 rfl bz e1 #[.int .u64 a0, .int .u64 a1, .int .u16 a2] _ (HP.out.x W hst.glob) Tryz.underlying45 rfl row2_load ?_
      exact hK _ _ (Or.inr (Below.refl _ _)) hst.glob (Sp.of_val rfl) hst.extra
    case refine_4 =>
      refine ⟨_, rfl, Nat.le_of_ble_eq_true rfl, fun listed a W hst hn hdep K hK => ?_⟩
      (have dd := dep_of hdep 1 (by kernel_rfl); have e1 := hst.valOf 1 8 (by kernel_rfl) dd rfl; clear dd)
      (have dd := dep_of hdep 2 (by kernel_rfl); have e2 := hst.valOf 2 9 (by kernel_rfl) dd rfl; clear dd)
      go_simp
      go_wp2_with (go_at_call 42; with_reducible refine (HX.out _).mono ?_; rintro e w1 ⟨rfl, hg⟩)
      exact hK _ _ (Or.inr hg.1) (hst.glob.trans (hg.1.mono hst.glob.size)) (Sp.of_val rfl) (Nat.le_trans hst.extra hg.2)
    case refine_5 =>
      refine ⟨_, rfl, Nat.le_of_ble_eq_true rfl, fun listed a W hst hn hdep K hK => ?_⟩
      (have e1 := hst.oldOf hn 3 (by kernel_rfl) rfl; simp only [Array.getD_eq_getD_getElem?] at e1)
      have c := HR.out W hst.glob
      go_simp
      exact hK _ _ (Or.inr (Below.refl _ _)) hst.glob (Sp.of_val rfl) hst.extra
    case refine_6 =>
      refine ⟨_, rfl, Nat.le_of_ble_eq_true rfl, fun listed a W hst hn hdep K hK => ?_⟩
      (have e1 := hst.oldOf hn 5 (by kernel_rfl) rfl; simp only [Array.getD_eq_getD_getElem?] at e1)
      refine inv_load_row rfl 45 5 rfl (bz + 1) e1 #[.int .u64 b0, .int .u64 b1, .int .u16 b2] _ (HP.out.y W hst.glob) Tryz.underlying45 rfl row2_load ?_
      exact hK _ _ (Or.inr (Below.refl _ _)) hst.glob (Sp.of_val rfl) hst.extra
    case refine_7 =>
      refine ⟨_, rfl, Nat.le_of_ble_eq_true rfl, fun listed a W hst hn hdep K hK => ?_⟩
      (have dd := dep_of hdep 4 (by kernel_rfl); have e1 := hst.valOf 4 11 (by kernel_rfl) dd rfl; clear dd)
      (have dd := dep_of hdep 5 (by kernel_rfl); have e2 := hst.valOf 5 12 (by kernel_rfl) dd rfl; clear dd)
      go_simp
      go_wp2_with (go_at_call 42; with_reducible refine (HY.out _).mono ?_; rintro e w1 ⟨rfl, hg⟩)
      exact hK _ _ (Or.inr hg.1) (hst.glob.trans (hg.1.mono hst.glob.size)) (Sp.of_val rfl) (Nat.le_trans hst.extra hg.2)
    case refine_8 =>
      refine ⟨_, rfl, Nat.le_of_ble_eq_true rfl, fun listed a W hst hn hdep K hK => ?_⟩
      (have dd := dep_of hdep 0 (by kernel_rfl); have e1 := hst.valOf 0 7 (by kernel_rfl) dd rfl; clear dd)
      (have dd := dep_of hdep 3 (by kernel_rfl); have e2 := hst.valOf 3 10 (by kernel_rfl) dd rfl; clear dd)
      (have dd := dep_of hdep 6 (by kernel_rfl); have e3 := hst.valOf 6 13 (by kernel_rfl) dd rfl; clear dd)
      have HKW := HK.out W (HP.out.below.trans (hst.glob.mono HP.out.below.size))
      go_simp
      go_wp2_with (go_at_call 43; with_reducible refine HKW.mono ?_; rintro e w1 ⟨rfl, hg⟩)
      exact hK _ _ (Or.inr hg.1) (hst.glob.trans (hg.1.mono hst.glob.size)) (Sp.of_val rfl) (Nat.le_trans hst.extra hg.2)
    case refine_9 => (refine ⟨_, rfl, Nat.le_of_ble_eq_true rfl, fun listed a W hst hn hdep K hK => ?_⟩; (have dd := dep_of hdep 7 (by kernel_rfl); have e1 := hst.valOf 7 14 (by kernel_rfl) dd rfl; clear dd); go_simp; exact hK _ _ (Or.inr (Below.refl _ _)) hst.glob (Sp.of_val rfl) hst.extra)
  case refine_4 =>
    rintro ⟨tm, df⟩ w' listed hl hst
    obtain rfl : df = [] := hst.defers
    have hr := hst.valOf 8 6 (by kernel_rfl) (hl 8 (Nat.le_of_ble_eq_true rfl)) rfl
    have hw := hst.glob
    have hd := hst.extra
    clear hst hl
    go_wp2_with fail
    go_ret
    exact ⟨by simp [hr], HP.out.below.trans (hw.mono HP.out.below.size), Nat.le_trans HP.out.drawn hd⟩

theorem winV_one (x : WinR) : ∀ v ∈ winV x, v.oneCell' = true := by
  intro v hv
  simp only [winV, List.mem_cons, List.not_mem_nil, or_false] at hv
  rcases hv with rfl | rfl | rfl <;> rfl

set_option maxHeartbeats 1000000 in
theorem ord2_ok (l : List WinR) (w : World) (base : Nat) (v : Value) (ho : OwnC w base 45 3 v l.length (l.flatMap winV)) (hl : l.length ≤ 1000000) :
    Calls Tryz.prog 41 #[v, .func (.func 42) #[] #[], .func (.func 43) #[] #[]] w fun e w' => e = .returned (.tuple #[]) ∧ SortRes w base 45 3 v winV cfW l w' := by
  obtain ⟨W1, hW1⟩ : ∃ W1, W1 = (w.alloc (.cells #[.func (.func 42) #[] #[]] 88)).alloc (.cells #[.func (.func 43) #[] #[]] 89) := ⟨_, rfl⟩
  have HT : Hid (Two w W1 w.heap.size #[.func (.func 42) #[] #[]] #[.func (.func 43) #[] #[]]) := Lib.hid (by rw [hW1]; exact two_boxed _ _ _ _ _)
  have hs1 : w.heap.size + 2 = W1.heap.size := by rw [hW1]; simp
  have hcmp : CmpOk 80 #[.pointer (some ⟨w.heap.size + 1, 0, none⟩), .pointer (some ⟨w.heap.size, 0, none⟩)] winV cfW v.ownBlock W1 := by
    intro W hW x y
    have old : ∀ b, w.heap.size ≤ b → b < W1.heap.size → W.cell? ⟨b, 0, none⟩ = W1.cell? ⟨b, 0, none⟩ := fun b h1 h2 => World.cell?_of_block (hW.block b h2 (fun h => by have := (World.ownsRow.lt ho b h).2; omega))
    have c1 := HT.out.x W1 (Below.refl _ _) 0 _ rfl
    have c2 := HT.out.y W1 (Below.refl _ _) 0 _ rfl
    have hz := hW.size
    exact clo2_ok (x.start : Int) (y.start : Int) (x.len : Int) (y.len : Int) (x.part : Int) (y.part : Int) (w.heap.size + 1) w.heap.size W ((old _ (by omega) (by omega)).trans c2) ((old _ (by omega) (by omega)).trans c1) (by omega) (by omega)
  have hcon := sortFunc_own Tryz.srt79 3 (by omega) Tryz.isAgg45 Tryz.sizeOf45 winV (fun _ => rfl) winV_one cfW (swo_key _ WinR.key ltW) 80 #[.pointer (some ⟨w.heap.size + 1, 0, none⟩), .pointer (some ⟨w.heap.size, 0, none⟩)] (enters_of Tryz.func80 (by kernel_rfl) rfl) l W1 base 45 v (ho.below HT.out.below) hcmp hl
  have HCON := Lib.hid (hcon.mono fun r w' h => And.intro h.1 (h.2.more ⟨HT.out.below, HT.out.drawn⟩))
  change Hid (Calls Tryz.prog 79 _ _ _) at HCON
  clear hcon hcmp hs1 HT ho
  have hbox := hW1.symm
  clear hW1
  go_enter Tryz.func41, Tryz.ntmps41
  go_wp2_with (go_at_call 79; refine HCON.out.mono ?_; rintro e w1 ⟨rfl, hs⟩)
  go_end0
  exact ⟨rfl, hs⟩

end Go.Proofs.YthdagjlgfffpbaaGreat

/-
  Layer 5 (conf): the program's order of regions. By the verifier.
-/
set_option linter.unusedVariables false
namespace Go.Proofs.YthdagjlgfffpbaaGreat
open Go.RowKit Go.Sort

theorem rec3_ok (a0 : Int) (a1 : Int) (a2 : Int) (a3 : Int) (a4 : Bool) (w : World) : Calls Tryz.prog 45 #[.agg #[.int .u64 a0, .int .u64 a1, .int .u16 a2, .int .u8 a3, .bool a4]] w fun e w' => e = .returned (.agg #[.int .u64 a0, .int .u64 a1, .int .u16 a2, .int .u8 a3, .bool a4]) ∧ Gd w w' := by
  go_enter Tryz.func45, Tryz.ntmps45
  go_wp2_with fail
  refine bodyPost_ret (v := .agg #[.int .u64 a0, .int .u64 a1, .int .u16 a2, .int .u8 a3, .bool a4]) ?_ rfl ⟨rfl, ((Gd.refl w).alloc _).alloc _⟩
  exact results_cell_row rfl _ _ (w.heap.size + 1) 93 #[.int .u64 a0, .int .u64 a1, .int .u16 a2, .int .u8 a3, .bool a4] (0, 0) _ rfl (alloc2_row w _ _) Tryz.underlying93 rfl (by kernel_rfl)

theorem row3_load : (Tryz.prog.info? 47).map (·.size) = some 5 := by kernel_rfl

set_option maxHeartbeats 4000000 in
theorem clo3_ok (a0 b0 : Int) (a1 b1 : Int) (a2 b2 : Int) (a3 b3 : Int) (a4 b4 : Bool) (Bc Br : Nat) (w : World) (hc : w.cell? ⟨Bc, 0, none⟩ = some (.func (.func 46) #[] #[])) (hr : w.cell? ⟨Br, 0, none⟩ = some (.func (.func 45) #[] #[])) (lc : Bc < w.heap.size) (lr : Br < w.heap.size) :
    Calls Tryz.prog 82 #[.agg #[.int .u64 a0, .int .u64 a1, .int .u16 a2, .int .u8 a3, .bool a4], .agg #[.int .u64 b0, .int .u64 b1, .int .u16 b2, .int .u8 b3, .bool b4], .pointer (some ⟨Bc, 0, none⟩), .pointer (some ⟨Br, 0, none⟩)] w fun e w' => e = .returned (.int .i64 (orI [cmpI a0 b0, cmpI a1 b1, cmpI a2 b2, cmpI a3 b3, cmpB a4 b4])) ∧ Gd w w' := by
  have HK := Lib.hid (fun W (hW : Below w.heap.size w W) => rcmp_ok a0 b0 a1 b1 a2 b2 a3 b3 a4 b4 W)
  generalize orI [cmpI a0 b0, cmpI a1 b1, cmpI a2 b2, cmpI a3 b3, cmpB a4 b4] = r at *
  have HX := Lib.hid (fun W => rec3_ok a0 a1 a2 a3 a4 W)
  have HY := Lib.hid (fun W => rec3_ok b0 b1 b2 b3 b4 W)
  obtain ⟨W1, hW1⟩ : ∃ W1, W1 = (w.alloc (.cells #[.int .u64 a0, .int .u64 a1, .int .u16 a2, .int .u8 a3, .bool a4] 47)).alloc (.cells #[.int .u64 b0, .int .u64 b1, .int .u16 b2, .int .u8 b3, .bool b4] 47) := ⟨_, rfl⟩
  have HP : Hid (TwoR w W1 w.heap.size #[.int .u64 a0, .int .u64 a1, .int .u16 a2, .int .u8 a3, .bool a4] #[.int .u64 b0, .int .u64 b1, .int .u16 b2, .int .u8 b3, .bool b4] 47) := Lib.hid (by rw [hW1]; exact twoR_boxed _ _ _ _)
  have HC : Hid (∀ W, Below W1.heap.size W1 W → W.cell? ⟨Bc, 0, none⟩ = some (.func (.func 46) #[] #[])) := Lib.hid (fun W hW => ((bcell (HP.out.below.trans (hW.mono HP.out.below.size)) Bc 0 lc).trans hc))
  have HR : Hid (∀ W, Below W1.heap.size W1 W → W.cell? ⟨Br, 0, none⟩ = some (.func (.func 45) #[] #[])) := Lib.hid (fun W hW => ((bcell (HP.out.below.trans (hW.mono HP.out.below.size)) Br 0 lr).trans hr))
  generalize hb1 : w.heap.size = bz at HP
  have HB := Lib.hid hb1
  clear hc hr lc lr
  go_enter Tryz.func82, Tryz.ntmps82
  go_wp2_with fail
  rw [← hW1]
  clear hW1 hb1
  refine region_invG (fun x => W1.drawn ≤ x.drawn) [] W1 [(7, Sp.val (.func (.func 46) #[] #[])), (8, Sp.val (.func (.func 45) #[] #[])), (9, Sp.val (.agg #[.int .u64 a0, .int .u64 a1, .int .u16 a2, .int .u8 a3, .bool a4])), (10, Sp.val (.agg #[.int .u64 a0, .int .u64 a1, .int .u16 a2, .int .u8 a3, .bool a4])), (11, Sp.val (.func (.func 45) #[] #[])), (12, Sp.val (.agg #[.int .u64 b0, .int .u64 b1, .int .u16 b2, .int .u8 b3, .bool b4])), (13, Sp.val (.agg #[.int .u64 b0, .int .u64 b1, .int .u16 b2, .int .u8 b3, .bool b4])), (14, Sp.val (.int .i64 r)), (6, Sp.val (.int .i64 r))] [] rfl (by kernel_rfl) ?_ ?_ (by kernel_rfl) ?_ ?_
  case refine_1 => exact (Below.refl _ _).drew
  case refine_2 => exact Nat.le_succ _
  case refine_3 =>
    refine ⟨?_, ?_, ?_, ?_, ?_, ?_, ?_, ?_, ?_, trivial⟩
    case refine_1 =>
      refine ⟨_, rfl, Nat.le_of_ble_eq_true rfl, fun listed a W hst hn hdep K hK => ?_⟩
      (have e1 := hst.oldOf hn 2 (by kernel_rfl) rfl; simp only [Array.getD_eq_getD_getElem?] at e1)
      have c := HC.out W hst.glob
      go_simp
      exact hK _ _ (Or.inr (Below.refl _ _)) hst.glob (Sp.of_val rfl) hst.extra
    case refine_2 =>
      refine ⟨_, rfl, Nat.le_of_ble_eq_true rfl, fun listed a W hst hn hdep K hK => ?_⟩
      (have e1 := hst.oldOf hn 3 (by kernel_rfl) rfl; simp only [Array.getD_eq_getD_getElem?] at e1)
      have c := HR.out W hst.glob
      go_simp
      exact hK _ _ (Or.inr (Below.refl _ _)) hst.glob (Sp.of_val rfl) hst.extra
    case refine_3 =>
      refine ⟨_, rfl, Nat.le_of_ble_eq_true rfl, fun listed a W hst hn hdep K hK => ?_⟩
      (have e1 := hst.oldOf hn 4 (by kernel_rfl) rfl; simp only [Array.getD_eq_getD_getElem?] at e1)
      refine inv_load_row rfl 47 4 rfl bz e1 #[.int .u64 a0, .int .u64 a1, .int .u16 a2, .int .u8 a3, .bool a4] _ (HP.out.x W hst.glob) Tryz.underlying47 rfl row3_load ?_
      exact hK _ _ (Or.inr (Below.refl _ _)) hst.glob (Sp.of_val rfl) hst.extra
    case refine_4 =>
      refine ⟨_, rfl, Nat.le_of_ble_eq_true rfl, fun listed a W hst hn hdep K hK => ?_⟩
      (have dd := dep_of hdep 1 (by kernel_rfl); have e1 := hst.valOf 1 8 (by kernel_rfl) dd rfl; clear dd)
      (have dd := dep_of hdep 2 (by kernel_rfl); have e2 := hst.valOf 2 9 (by kernel_rfl) dd rfl; clear dd)
      go_simp
      go_wp2_with (go_at_call 45; with_reducible refine (HX.out _).mono ?_; rintro e w1 ⟨rfl, hg⟩)
      exact hK _ _ (Or.inr hg.1) (hst.glob.trans (hg.1.mono hst.glob.size)) (Sp.of_val rfl) (Nat.le_trans hst.extra hg.2)
    case refine_5 =>
      refine ⟨_, rfl, Nat.le_of_ble_eq_true rfl, fun listed a W hst hn hdep K hK => ?_⟩
      (have e1 := hst.oldOf hn 3 (by kernel_rfl) rfl; simp only [Array.getD_eq_getD_getElem?] at e1)
      have c := HR.out W hst.glob
      go_simp
      exact hK _ _ (Or.inr (Below.refl _ _)) hst.glob (Sp.of_val rfl) hst.extra
    case refine_6 =>
      refine ⟨_, rfl, Nat.le_of_ble_eq_true rfl, fun listed a W hst hn hdep K hK => ?_⟩
      (have e1 := hst.oldOf hn 5 (by kernel_rfl) rfl; simp only [Array.getD_eq_getD_getElem?] at e1)
      refine inv_load_row rfl 47 5 rfl (bz + 1) e1 #[.int .u64 b0, .int .u64 b1, .int .u16 b2, .int .u8 b3, .bool b4] _ (HP.out.y W hst.glob) Tryz.underlying47 rfl row3_load ?_
      exact hK _ _ (Or.inr (Below.refl _ _)) hst.glob (Sp.of_val rfl) hst.extra
    case refine_7 =>
      refine ⟨_, rfl, Nat.le_of_ble_eq_true rfl, fun listed a W hst hn hdep K hK => ?_⟩
      (have dd := dep_of hdep 4 (by kernel_rfl); have e1 := hst.valOf 4 11 (by kernel_rfl) dd rfl; clear dd)
      (have dd := dep_of hdep 5 (by kernel_rfl); have e2 := hst.valOf 5 12 (by kernel_rfl) dd rfl; clear dd)
      go_simp
      go_wp2_with (go_at_call 45; with_reducible refine (HY.out _).mono ?_; rintro e w1 ⟨rfl, hg⟩)
      exact hK _ _ (Or.inr hg.1) (hst.glob.trans (hg.1.mono hst.glob.size)) (Sp.of_val rfl) (Nat.le_trans hst.extra hg.2)
    case refine_8 =>
      refine ⟨_, rfl, Nat.le_of_ble_eq_true rfl, fun listed a W hst hn hdep K hK => ?_⟩
      (have dd := dep_of hdep 0 (by kernel_rfl); have e1 := hst.valOf 0 7 (by kernel_rfl) dd rfl; clear dd)
      (have dd := dep_of hdep 3 (by kernel_rfl); have e2 := hst.valOf 3 10 (by kernel_rfl) dd rfl; clear dd)
      (have dd := dep_of hdep 6 (by kernel_rfl); have e3 := hst.valOf 6 13 (by kernel_rfl) dd rfl; clear dd)
      have HKW := HK.out W (HP.out.below.trans (hst.glob.mono HP.out.below.size))
      go_simp
      go_wp2_with (go_at_call 46; with_reducible refine HKW.mono ?_; rintro e w1 ⟨rfl, hg⟩)
      exact hK _ _ (Or.inr hg.1) (hst.glob.trans (hg.1.mono hst.glob.size)) (Sp.of_val rfl) (Nat.le_trans hst.extra hg.2)
    case refine_9 => (refine ⟨_, rfl, Nat.le_of_ble_eq_true rfl, fun listed a W hst hn hdep K hK => ?_⟩; (have dd := dep_of hdep 7 (by kernel_rfl); have e1 := hst.valOf 7 14 (by kernel_rfl) dd rfl; clear dd); go_simp; exact hK _ _ (Or.inr (Below.refl _ _)) hst.glob (Sp.of_val rfl) hst.extra)
  case refine_4 =>
    rintro ⟨tm, df⟩ w' listed hl hst
    obtain rfl : df = [] := hst.defers
    have hr := hst.valOf 8 6 (by kernel_rfl) (hl 8 (Nat.le_of_ble_eq_true rfl)) rfl
    have hw := hst.glob
    have hd := hst.extra
    clear hst hl
    go_wp2_with fail
    go_ret
    exact ⟨by simp [hr], HP.out.below.trans (hw.mono HP.out.below.size), Nat.le_trans HP.out.drawn hd⟩

theorem regV_one (x : RegR) : ∀ v ∈ regV x, v.oneCell' = true := by
  intro v hv
  simp only [regV, List.mem_cons, List.not_mem_nil, or_false] at hv
  rcases hv with rfl | rfl | rfl | rfl | rfl <;> rfl

set_option maxHeartbeats 1000000 in
theorem ord3_ok (l : List RegR) (w : World) (base : Nat) (v : Value) (ho : OwnC w base 47 5 v l.length (l.flatMap regV)) (hl : l.length ≤ 1000000) :
    Calls Tryz.prog 44 #[v, .func (.func 45) #[] #[], .func (.func 46) #[] #[]] w fun e w' => e = .returned (.tuple #[]) ∧ SortRes w base 47 5 v regV cfR l w' := by
  obtain ⟨W1, hW1⟩ : ∃ W1, W1 = (w.alloc (.cells #[.func (.func 45) #[] #[]] 94)).alloc (.cells #[.func (.func 46) #[] #[]] 95) := ⟨_, rfl⟩
  have HT : Hid (Two w W1 w.heap.size #[.func (.func 45) #[] #[]] #[.func (.func 46) #[] #[]]) := Lib.hid (by rw [hW1]; exact two_boxed _ _ _ _ _)
  have hs1 : w.heap.size + 2 = W1.heap.size := by rw [hW1]; simp
  have hcmp : CmpOk 82 #[.pointer (some ⟨w.heap.size + 1, 0, none⟩), .pointer (some ⟨w.heap.size, 0, none⟩)] regV cfR v.ownBlock W1 := by
    intro W hW x y
    have old : ∀ b, w.heap.size ≤ b → b < W1.heap.size → W.cell? ⟨b, 0, none⟩ = W1.cell? ⟨b, 0, none⟩ := fun b h1 h2 => World.cell?_of_block (hW.block b h2 (fun h => by have := (World.ownsRow.lt ho b h).2; omega))
    have c1 := HT.out.x W1 (Below.refl _ _) 0 _ rfl
    have c2 := HT.out.y W1 (Below.refl _ _) 0 _ rfl
    have hz := hW.size
    exact clo3_ok (x.base : Int) (y.base : Int) (x.size : Int) (y.size : Int) (x.part : Int) (y.part : Int) (x.rights : Int) (y.rights : Int) (x.shared) (y.shared) (w.heap.size + 1) w.heap.size W ((old _ (by omega) (by omega)).trans c2) ((old _ (by omega) (by omega)).trans c1) (by omega) (by omega)
  have hcon := sortFunc_own Tryz.srt81 5 (by omega) Tryz.isAgg47 Tryz.sizeOf47 regV (fun _ => rfl) regV_one cfR (swo_key _ RegR.key ltR) 82 #[.pointer (some ⟨w.heap.size + 1, 0, none⟩), .pointer (some ⟨w.heap.size, 0, none⟩)] (enters_of Tryz.func82 (by kernel_rfl) rfl) l W1 base 47 v (ho.below HT.out.below) hcmp hl
  have HCON := Lib.hid (hcon.mono fun r w' h => And.intro h.1 (h.2.more ⟨HT.out.below, HT.out.drawn⟩))
  change Hid (Calls Tryz.prog 81 _ _ _) at HCON
  clear hcon hcmp hs1 HT ho
  have hbox := hW1.symm
  clear hW1
  go_enter Tryz.func44, Tryz.ntmps44
  go_wp2_with (go_at_call 81; refine HCON.out.mono ?_; rintro e w1 ⟨rfl, hs⟩)
  go_end0
  exact ⟨rfl, hs⟩

end Go.Proofs.YthdagjlgfffpbaaGreat

/-
  Layer 5 (conf): the program's order of ports. By the verifier.
-/
set_option linter.unusedVariables false
namespace Go.Proofs.YthdagjlgfffpbaaGreat
open Go.RowKit Go.Sort

theorem rec4_ok (a0 : Int) (a1 : Int) (a2 : ByteArray) (a3 : Bool) (a4 : Bool) (a5 : Int) (w : World) : Calls Tryz.prog 48 #[.agg #[.int .u16 a0, .int .u16 a1, .string a2, .bool a3, .bool a4, .int .u32 a5]] w fun e w' => e = .returned (.agg #[.int .u16 a0, .int .u16 a1, .string a2, .bool a3, .bool a4, .int .u32 a5]) ∧ Gd w w' := by
  go_enter Tryz.func48, Tryz.ntmps48
  go_wp2_with fail
  refine bodyPost_ret (v := .agg #[.int .u16 a0, .int .u16 a1, .string a2, .bool a3, .bool a4, .int .u32 a5]) ?_ rfl ⟨rfl, ((Gd.refl w).alloc _).alloc _⟩
  exact results_cell_row rfl _ _ (w.heap.size + 1) 99 #[.int .u16 a0, .int .u16 a1, .string a2, .bool a3, .bool a4, .int .u32 a5] (0, 0) _ rfl (alloc2_row w _ _) Tryz.underlying99 rfl (by kernel_rfl)

theorem row4_load : (Tryz.prog.info? 39).map (·.size) = some 6 := by kernel_rfl

set_option maxHeartbeats 4000000 in
theorem clo4_ok (a0 b0 : Int) (a1 b1 : Int) (a2 b2 : ByteArray) (a3 b3 : Bool) (a4 b4 : Bool) (a5 b5 : Int) (Bc Br : Nat) (w : World) (hc : w.cell? ⟨Bc, 0, none⟩ = some (.func (.func 49) #[] #[])) (hr : w.cell? ⟨Br, 0, none⟩ = some (.func (.func 48) #[] #[])) (lc : Bc < w.heap.size) (lr : Br < w.heap.size) :
    Calls Tryz.prog 86 #[.agg #[.int .u16 a0, .int .u16 a1, .string a2, .bool a3, .bool a4, .int .u32 a5], .agg #[.int .u16 b0, .int .u16 b1, .string b2, .bool b3, .bool b4, .int .u32 b5], .pointer (some ⟨Bc, 0, none⟩), .pointer (some ⟨Br, 0, none⟩)] w fun e w' => e = .returned (.int .i64 (orI [cmpI a0 b0, cmpI a1 b1, cmpS a2 b2, cmpB a3 b3, cmpB a4 b4, cmpI a5 b5])) ∧ Gd w w' := by
  have HK := Lib.hid (fun W (hW : Below w.heap.size w W) => tcmp_ok a0 b0 a1 b1 a2 b2 a3 b3 a4 b4 a5 b5 W)
  generalize orI [cmpI a0 b0, cmpI a1 b1, cmpS a2 b2, cmpB a3 b3, cmpB a4 b4, cmpI a5 b5] = r at *
  have HX := Lib.hid (fun W => rec4_ok a0 a1 a2 a3 a4 a5 W)
  have HY := Lib.hid (fun W => rec4_ok b0 b1 b2 b3 b4 b5 W)
  obtain ⟨W1, hW1⟩ : ∃ W1, W1 = (w.alloc (.cells #[.int .u16 a0, .int .u16 a1, .string a2, .bool a3, .bool a4, .int .u32 a5] 39)).alloc (.cells #[.int .u16 b0, .int .u16 b1, .string b2, .bool b3, .bool b4, .int .u32 b5] 39) := ⟨_, rfl⟩
  have HP : Hid (TwoR w W1 w.heap.size #[.int .u16 a0, .int .u16 a1, .string a2, .bool a3, .bool a4, .int .u32 a5] #[.int .u16 b0, .int .u16 b1, .string b2, .bool b3, .bool b4, .int .u32 b5] 39) := Lib.hid (by rw [hW1]; exact twoR_boxed _ _ _ _)
  have HC : Hid (∀ W, Below W1.heap.size W1 W → W.cell? ⟨Bc, 0, none⟩ = some (.func (.func 49) #[] #[])) := Lib.hid (fun W hW => ((bcell (HP.out.below.trans (hW.mono HP.out.below.size)) Bc 0 lc).trans hc))
  have HR : Hid (∀ W, Below W1.heap.size W1 W → W.cell? ⟨Br, 0, none⟩ = some (.func (.func 48) #[] #[])) := Lib.hid (fun W hW => ((bcell (HP.out.below.trans (hW.mono HP.out.below.size)) Br 0 lr).trans hr))
  generalize hb1 : w.heap.size = bz at HP
  have HB := Lib.hid hb1
  clear hc hr lc lr
  go_enter Tryz.func86, Tryz.ntmps86
  go_wp2_with fail
  rw [← hW1]
  clear hW1 hb1
  refine region_invG (fun x => W1.drawn ≤ x.drawn) [] W1 [(7, Sp.val (.func (.func 49) #[] #[])), (8, Sp.val (.func (.func 48) #[] #[])), (9, Sp.val (.agg #[.int .u16 a0, .int .u16 a1, .string a2, .bool a3, .bool a4, .int .u32 a5])), (10, Sp.val (.agg #[.int .u16 a0, .int .u16 a1, .string a2, .bool a3, .bool a4, .int .u32 a5])), (11, Sp.val (.func (.func 48) #[] #[])), (12, Sp.val (.agg #[.int .u16 b0, .int .u16 b1, .string b2, .bool b3, .bool b4, .int .u32 b5])), (13, Sp.val (.agg #[.int .u16 b0, .int .u16 b1, .string b2, .bool b3, .bool b4, .int .u32 b5])), (14, Sp.val (.int .i64 r)), (6, Sp.val (.int .i64 r))] [] rfl (by kernel_rfl) ?_ ?_ (by kernel_rfl) ?_ ?_
  case refine_1 => exact (Below.refl _ _).drew
  case refine_2 => exact Nat.le_succ _
  case refine_3 =>
    refine ⟨?_, ?_, ?_, ?_, ?_, ?_, ?_, ?_, ?_, trivial⟩
    case refine_1 =>
      refine ⟨_, rfl, Nat.le_of_ble_eq_true rfl, fun listed a W hst hn hdep K hK => ?_⟩
      (have e1 := hst.oldOf hn 2 (by kernel_rfl) rfl; simp only [Array.getD_eq_getD_getElem?] at e1)
      have c := HC.out W hst.glob
      go_simp
      exact hK _ _ (Or.inr (Below.refl _ _)) hst.glob (Sp.of_val rfl) hst.extra
    case refine_2 =>
      refine ⟨_, rfl, Nat.le_of_ble_eq_true rfl, fun listed a W hst hn hdep K hK => ?_⟩
      (have e1 := hst.oldOf hn 3 (by kernel_rfl) rfl; simp only [Array.getD_eq_getD_getElem?] at e1)
      have c := HR.out W hst.glob
      go_simp
      exact hK _ _ (Or.inr (Below.refl _ _)) hst.glob (Sp.of_val rfl) hst.extra
    case refine_3 =>
      refine ⟨_, rfl, Nat.le_of_ble_eq_true rfl, fun listed a W hst hn hdep K hK => ?_⟩
      (have e1 := hst.oldOf hn 4 (by kernel_rfl) rfl; simp only [Array.getD_eq_getD_getElem?] at e1)
      refine inv_load_row rfl 39 4 rfl bz e1 #[.int .u16 a0, .int .u16 a1, .string a2, .bool a3, .bool a4, .int .u32 a5] _ (HP.out.x W hst.glob) Tryz.underlying39 rfl row4_load ?_
      exact hK _ _ (Or.inr (Below.refl _ _)) hst.glob (Sp.of_val rfl) hst.extra
    case refine_4 =>
      refine ⟨_, rfl, Nat.le_of_ble_eq_true rfl, fun listed a W hst hn hdep K hK => ?_⟩
      (have dd := dep_of hdep 1 (by kernel_rfl); have e1 := hst.valOf 1 8 (by kernel_rfl) dd rfl; clear dd)
      (have dd := dep_of hdep 2 (by kernel_rfl); have e2 := hst.valOf 2 9 (by kernel_rfl) dd rfl; clear dd)
      go_simp
      go_wp2_with (go_at_call 48; with_reducible refine (HX.out _).mono ?_; rintro e w1 ⟨rfl, hg⟩)
      exact hK _ _ (Or.inr hg.1) (hst.glob.trans (hg.1.mono hst.glob.size)) (Sp.of_val rfl) (Nat.le_trans hst.extra hg.2)
    case refine_5 =>
      refine ⟨_, rfl, Nat.le_of_ble_eq_true rfl, fun listed a W hst hn hdep K hK => ?_⟩
      (have e1 := hst.oldOf hn 3 (by kernel_rfl) rfl; simp only [Array.getD_eq_getD_getElem?] at e1)
      have c := HR.out W hst.glob
      go_simp
      exact hK _ _ (Or.inr (Below.refl _ _)) hst.glob (Sp.of_val rfl) hst.extra
    case refine_6 =>
      refine ⟨_, rfl, Nat.le_of_ble_eq_true rfl, fun listed a W hst hn hdep K hK => ?_⟩
      (have e1 := hst.oldOf hn 5 (by kernel_rfl) rfl; simp only [Array.getD_eq_getD_getElem?] at e1)
      refine inv_load_row rfl 39 5 rfl (bz + 1) e1 #[.int .u16 b0, .int .u16 b1, .string b2, .bool b3, .bool b4, .int .u32 b5] _ (HP.out.y W hst.glob) Tryz.underlying39 rfl row4_load ?_
      exact hK _ _ (Or.inr (Below.refl _ _)) hst.glob (Sp.of_val rfl) hst.extra
    case refine_7 =>
      refine ⟨_, rfl, Nat.le_of_ble_eq_true rfl, fun listed a W hst hn hdep K hK => ?_⟩
      (have dd := dep_of hdep 4 (by kernel_rfl); have e1 := hst.valOf 4 11 (by kernel_rfl) dd rfl; clear dd)
      (have dd := dep_of hdep 5 (by kernel_rfl); have e2 := hst.valOf 5 12 (by kernel_rfl) dd rfl; clear dd)
      go_simp
      go_wp2_with (go_at_call 48; with_reducible refine (HY.out _).mono ?_; rintro e w1 ⟨rfl, hg⟩)
      exact hK _ _ (Or.inr hg.1) (hst.glob.trans (hg.1.mono hst.glob.size)) (Sp.of_val rfl) (Nat.le_trans hst.extra hg.2)
    case refine_8 =>
      refine ⟨_, rfl, Nat.le_of_ble_eq_true rfl, fun listed a W hst hn hdep K hK => ?_⟩
      (have dd := dep_of hdep 0 (by kernel_rfl); have e1 := hst.valOf 0 7 (by kernel_rfl) dd rfl; clear dd)
      (have dd := dep_of hdep 3 (by kernel_rfl); have e2 := hst.valOf 3 10 (by kernel_rfl) dd rfl; clear dd)
      (have dd := dep_of hdep 6 (by kernel_rfl); have e3 := hst.valOf 6 13 (by kernel_rfl) dd rfl; clear dd)
      have HKW := HK.out W (HP.out.below.trans (hst.glob.mono HP.out.below.size))
      go_simp
      go_wp2_with (go_at_call 49; with_reducible refine HKW.mono ?_; rintro e w1 ⟨rfl, hg⟩)
      exact hK _ _ (Or.inr hg.1) (hst.glob.trans (hg.1.mono hst.glob.size)) (Sp.of_val rfl) (Nat.le_trans hst.extra hg.2)
    case refine_9 => (refine ⟨_, rfl, Nat.le_of_ble_eq_true rfl, fun listed a W hst hn hdep K hK => ?_⟩; (have dd := dep_of hdep 7 (by kernel_rfl); have e1 := hst.valOf 7 14 (by kernel_rfl) dd rfl; clear dd); go_simp; exact hK _ _ (Or.inr (Below.refl _ _)) hst.glob (Sp.of_val rfl) hst.extra)
  case refine_4 =>
    rintro ⟨tm, df⟩ w' listed hl hst
    obtain rfl : df = [] := hst.defers
    have hr := hst.valOf 8 6 (by kernel_rfl) (hl 8 (Nat.le_of_ble_eq_true rfl)) rfl
    have hw := hst.glob
    have hd := hst.extra
    clear hst hl
    go_wp2_with fail
    go_ret
    exact ⟨by simp [hr], HP.out.below.trans (hw.mono HP.out.below.size), Nat.le_trans HP.out.drawn hd⟩

theorem portV_one (x : PortR) : ∀ v ∈ portV x, v.oneCell' = true := by
  intro v hv
  simp only [portV, List.mem_cons, List.not_mem_nil, or_false] at hv
  rcases hv with rfl | rfl | rfl | rfl | rfl | rfl <;> rfl

set_option maxHeartbeats 1000000 in
theorem ord4_ok (l : List PortR) (w : World) (base : Nat) (v : Value) (ho : OwnC w base 39 6 v l.length (l.flatMap portV)) (hl : l.length ≤ 1000000) :
    Calls Tryz.prog 47 #[v, .func (.func 48) #[] #[], .func (.func 49) #[] #[]] w fun e w' => e = .returned (.tuple #[]) ∧ SortRes w base 39 6 v portV cfT l w' := by
  obtain ⟨W1, hW1⟩ : ∃ W1, W1 = (w.alloc (.cells #[.func (.func 48) #[] #[]] 100)).alloc (.cells #[.func (.func 49) #[] #[]] 101) := ⟨_, rfl⟩
  have HT : Hid (Two w W1 w.heap.size #[.func (.func 48) #[] #[]] #[.func (.func 49) #[] #[]]) := Lib.hid (by rw [hW1]; exact two_boxed _ _ _ _ _)
  have hs1 : w.heap.size + 2 = W1.heap.size := by rw [hW1]; simp
  have hcmp : CmpOk 86 #[.pointer (some ⟨w.heap.size + 1, 0, none⟩), .pointer (some ⟨w.heap.size, 0, none⟩)] portV cfT v.ownBlock W1 := by
    intro W hW x y
    have old : ∀ b, w.heap.size ≤ b → b < W1.heap.size → W.cell? ⟨b, 0, none⟩ = W1.cell? ⟨b, 0, none⟩ := fun b h1 h2 => World.cell?_of_block (hW.block b h2 (fun h => by have := (World.ownsRow.lt ho b h).2; omega))
    have c1 := HT.out.x W1 (Below.refl _ _) 0 _ rfl
    have c2 := HT.out.y W1 (Below.refl _ _) 0 _ rfl
    have hz := hW.size
    exact clo4_ok (x.id : Int) (y.id : Int) (x.part : Int) (y.part : Int) (x.name) (y.name) (x.out) (y.out) (x.que) (y.que) (x.size : Int) (y.size : Int) (w.heap.size + 1) w.heap.size W ((old _ (by omega) (by omega)).trans c2) ((old _ (by omega) (by omega)).trans c1) (by omega) (by omega)
  have hcon := sortFunc_own Tryz.srt85 6 (by omega) Tryz.isAgg39 Tryz.sizeOf39 portV (fun _ => rfl) portV_one cfT (swo_key _ PortR.key ltT) 86 #[.pointer (some ⟨w.heap.size + 1, 0, none⟩), .pointer (some ⟨w.heap.size, 0, none⟩)] (enters_of Tryz.func86 (by kernel_rfl) rfl) l W1 base 39 v (ho.below HT.out.below) hcmp hl
  have HCON := Lib.hid (hcon.mono fun r w' h => And.intro h.1 (h.2.more ⟨HT.out.below, HT.out.drawn⟩))
  change Hid (Calls Tryz.prog 85 _ _ _) at HCON
  clear hcon hcmp hs1 HT ho
  have hbox := hW1.symm
  clear hW1
  go_enter Tryz.func47, Tryz.ntmps47
  go_wp2_with (go_at_call 85; refine HCON.out.mono ?_; rintro e w1 ⟨rfl, hs⟩)
  go_end0
  exact ⟨rfl, hs⟩

end Go.Proofs.YthdagjlgfffpbaaGreat

/-
  Layer 5 (conf): the program's order of channels. By the verifier.
-/
set_option linter.unusedVariables false
namespace Go.Proofs.YthdagjlgfffpbaaGreat
open Go.RowKit Go.Sort

theorem rec5_ok (a0 : Int) (a1 : Int) (A2 : Option Addr) (s2 p2 : Nat) (w : World) : Calls Tryz.prog 51 #[.agg #[.int .u16 a0, .int .u16 a1, .slice A2 s2 p2]] w fun e w' => e = .returned (.agg #[.int .u16 a0, .int .u16 a1, .slice A2 s2 p2]) ∧ Gd w w' := by
  go_enter Tryz.func51, Tryz.ntmps51
  go_wp2_with fail
  refine bodyPost_ret (v := .agg #[.int .u16 a0, .int .u16 a1, .slice A2 s2 p2]) ?_ rfl ⟨rfl, ((Gd.refl w).alloc _).alloc _⟩
  exact results_cell_row rfl _ _ (w.heap.size + 1) 105 #[.int .u16 a0, .int .u16 a1, .slice A2 s2 p2] (0, 0) _ rfl (alloc2_row w _ _) Tryz.underlying105 rfl (by kernel_rfl)

theorem row5_load : (Tryz.prog.info? 34).map (·.size) = some 3 := by kernel_rfl

set_option maxHeartbeats 4000000 in
theorem clo5_ok (a0 b0 : Int) (a1 b1 : Int) (A2 B2 : Option Addr) (l2 m2 : List Nat) (p2 q2 : Nat) (Bc Br : Nat) (w : World) (hc : w.cell? ⟨Bc, 0, none⟩ = some (.func (.func 52) #[] #[])) (hr : w.cell? ⟨Br, 0, none⟩ = some (.func (.func 51) #[] #[])) (lc : Bc < w.heap.size) (lr : Br < w.heap.size) (hA : Cells w A2 (l2.map U16)) (hB : Cells w B2 (m2.map U16)) (hl : l2.length ≤ 1000) (hm : m2.length ≤ 1000) :
    Calls Tryz.prog 89 #[.agg #[.int .u16 a0, .int .u16 a1, .slice A2 l2.length p2], .agg #[.int .u16 b0, .int .u16 b1, .slice B2 m2.length q2], .pointer (some ⟨Bc, 0, none⟩), .pointer (some ⟨Br, 0, none⟩)] w fun e w' => e = .returned (.int .i64 (orI [cmpI a0 b0, cmpI a1 b1, cmpD l2 m2])) ∧ Gd w w' := by
  have HK := Lib.hid (fun W (hW : Below w.heap.size w W) => ccmp_ok a0 b0 a1 b1 A2 B2 l2 m2 p2 q2 W (hA.below (Nat.le_refl _) hW) (hB.below (Nat.le_refl _) hW) hl hm)
  generalize orI [cmpI a0 b0, cmpI a1 b1, cmpD l2 m2] = r at *
  generalize l2.length = s2 at *
  generalize m2.length = t2 at *
  clear hA hB hl hm
  have HX := Lib.hid (fun W => rec5_ok a0 a1 A2 s2 p2 W)
  have HY := Lib.hid (fun W => rec5_ok b0 b1 B2 t2 q2 W)
  obtain ⟨W1, hW1⟩ : ∃ W1, W1 = (w.alloc (.cells #[.int .u16 a0, .int .u16 a1, .slice A2 s2 p2] 34)).alloc (.cells #[.int .u16 b0, .int .u16 b1, .slice B2 t2 q2] 34) := ⟨_, rfl⟩
  have HP : Hid (TwoR w W1 w.heap.size #[.int .u16 a0, .int .u16 a1, .slice A2 s2 p2] #[.int .u16 b0, .int .u16 b1, .slice B2 t2 q2] 34) := Lib.hid (by rw [hW1]; exact twoR_boxed _ _ _ _)
  have HC : Hid (∀ W, Below W1.heap.size W1 W → W.cell? ⟨Bc, 0, none⟩ = some (.func (.func 52) #[] #[])) := Lib.hid (fun W hW => ((bcell (HP.out.below.trans (hW.mono HP.out.below.size)) Bc 0 lc).trans hc))
  have HR : Hid (∀ W, Below W1.heap.size W1 W → W.cell? ⟨Br, 0, none⟩ = some (.func (.func 51) #[] #[])) := Lib.hid (fun W hW => ((bcell (HP.out.below.trans (hW.mono HP.out.below.size)) Br 0 lr).trans hr))
  generalize hb1 : w.heap.size = bz at HP
  have HB := Lib.hid hb1
  clear hc hr lc lr
  go_enter Tryz.func89, Tryz.ntmps89
  go_wp2_with fail
  rw [← hW1]
  clear hW1 hb1
  refine region_invG (fun x => W1.drawn ≤ x.drawn) [] W1 [(7, Sp.val (.func (.func 52) #[] #[])), (8, Sp.val (.func (.func 51) #[] #[])), (9, Sp.val (.agg #[.int .u16 a0, .int .u16 a1, .slice A2 s2 p2])), (10, Sp.val (.agg #[.int .u16 a0, .int .u16 a1, .slice A2 s2 p2])), (11, Sp.val (.func (.func 51) #[] #[])), (12, Sp.val (.agg #[.int .u16 b0, .int .u16 b1, .slice B2 t2 q2])), (13, Sp.val (.agg #[.int .u16 b0, .int .u16 b1, .slice B2 t2 q2])), (14, Sp.val (.int .i64 r)), (6, Sp.val (.int .i64 r))] [] rfl (by kernel_rfl) ?_ ?_ (by kernel_rfl) ?_ ?_
  case refine_1 => exact (Below.refl _ _).drew
  case refine_2 => exact Nat.le_succ _
  case refine_3 =>
    refine ⟨?_, ?_, ?_, ?_, ?_, ?_, ?_, ?_, ?_, trivial⟩
    case refine_1 =>
      refine ⟨_, rfl, Nat.le_of_ble_eq_true rfl, fun listed a W hst hn hdep K hK => ?_⟩
      (have e1 := hst.oldOf hn 2 (by kernel_rfl) rfl; simp only [Array.getD_eq_getD_getElem?] at e1)
      have c := HC.out W hst.glob
      go_simp
      exact hK _ _ (Or.inr (Below.refl _ _)) hst.glob (Sp.of_val rfl) hst.extra
    case refine_2 =>
      refine ⟨_, rfl, Nat.le_of_ble_eq_true rfl, fun listed a W hst hn hdep K hK => ?_⟩
      (have e1 := hst.oldOf hn 3 (by kernel_rfl) rfl; simp only [Array.getD_eq_getD_getElem?] at e1)
      have c := HR.out W hst.glob
      go_simp
      exact hK _ _ (Or.inr (Below.refl _ _)) hst.glob (Sp.of_val rfl) hst.extra
    case refine_3 =>
      refine ⟨_, rfl, Nat.le_of_ble_eq_true rfl, fun listed a W hst hn hdep K hK => ?_⟩
      (have e1 := hst.oldOf hn 4 (by kernel_rfl) rfl; simp only [Array.getD_eq_getD_getElem?] at e1)
      refine inv_load_row rfl 34 4 rfl bz e1 #[.int .u16 a0, .int .u16 a1, .slice A2 s2 p2] _ (HP.out.x W hst.glob) Tryz.underlying34 rfl row5_load ?_
      exact hK _ _ (Or.inr (Below.refl _ _)) hst.glob (Sp.of_val rfl) hst.extra
    case refine_4 =>
      refine ⟨_, rfl, Nat.le_of_ble_eq_true rfl, fun listed a W hst hn hdep K hK => ?_⟩
      (have dd := dep_of hdep 1 (by kernel_rfl); have e1 := hst.valOf 1 8 (by kernel_rfl) dd rfl; clear dd)
      (have dd := dep_of hdep 2 (by kernel_rfl); have e2 := hst.valOf 2 9 (by kernel_rfl) dd rfl; clear dd)
      go_simp
      go_wp2_with (go_at_call 51; with_reducible refine (HX.out _).mono ?_; rintro e w1 ⟨rfl, hg⟩)
      exact hK _ _ (Or.inr hg.1) (hst.glob.trans (hg.1.mono hst.glob.size)) (Sp.of_val rfl) (Nat.le_trans hst.extra hg.2)
    case refine_5 =>
      refine ⟨_, rfl, Nat.le_of_ble_eq_true rfl, fun listed a W hst hn hdep K hK => ?_⟩
      (have e1 := hst.oldOf hn 3 (by kernel_rfl) rfl; simp only [Array.getD_eq_getD_getElem?] at e1)
      have c := HR.out W hst.glob
      go_simp
      exact hK _ _ (Or.inr (Below.refl _ _)) hst.glob (Sp.of_val rfl) hst.extra
    case refine_6 =>
      refine ⟨_, rfl, Nat.le_of_ble_eq_true rfl, fun listed a W hst hn hdep K hK => ?_⟩
      (have e1 := hst.oldOf hn 5 (by kernel_rfl) rfl; simp only [Array.getD_eq_getD_getElem?] at e1)
      refine inv_load_row rfl 34 5 rfl (bz + 1) e1 #[.int .u16 b0, .int .u16 b1, .slice B2 t2 q2] _ (HP.out.y W hst.glob) Tryz.underlying34 rfl row5_load ?_
      exact hK _ _ (Or.inr (Below.refl _ _)) hst.glob (Sp.of_val rfl) hst.extra
    case refine_7 =>
      refine ⟨_, rfl, Nat.le_of_ble_eq_true rfl, fun listed a W hst hn hdep K hK => ?_⟩
      (have dd := dep_of hdep 4 (by kernel_rfl); have e1 := hst.valOf 4 11 (by kernel_rfl) dd rfl; clear dd)
      (have dd := dep_of hdep 5 (by kernel_rfl); have e2 := hst.valOf 5 12 (by kernel_rfl) dd rfl; clear dd)
      go_simp
      go_wp2_with (go_at_call 51; with_reducible refine (HY.out _).mono ?_; rintro e w1 ⟨rfl, hg⟩)
      exact hK _ _ (Or.inr hg.1) (hst.glob.trans (hg.1.mono hst.glob.size)) (Sp.of_val rfl) (Nat.le_trans hst.extra hg.2)
    case refine_8 =>
      refine ⟨_, rfl, Nat.le_of_ble_eq_true rfl, fun listed a W hst hn hdep K hK => ?_⟩
      (have dd := dep_of hdep 0 (by kernel_rfl); have e1 := hst.valOf 0 7 (by kernel_rfl) dd rfl; clear dd)
      (have dd := dep_of hdep 3 (by kernel_rfl); have e2 := hst.valOf 3 10 (by kernel_rfl) dd rfl; clear dd)
      (have dd := dep_of hdep 6 (by kernel_rfl); have e3 := hst.valOf 6 13 (by kernel_rfl) dd rfl; clear dd)
      have HKW := HK.out W (HP.out.below.trans (hst.glob.mono HP.out.below.size))
      go_simp
      go_wp2_with (go_at_call 52; with_reducible refine HKW.mono ?_; rintro e w1 ⟨rfl, hg⟩)
      exact hK _ _ (Or.inr hg.1) (hst.glob.trans (hg.1.mono hst.glob.size)) (Sp.of_val rfl) (Nat.le_trans hst.extra hg.2)
    case refine_9 => (refine ⟨_, rfl, Nat.le_of_ble_eq_true rfl, fun listed a W hst hn hdep K hK => ?_⟩; (have dd := dep_of hdep 7 (by kernel_rfl); have e1 := hst.valOf 7 14 (by kernel_rfl) dd rfl; clear dd); go_simp; exact hK _ _ (Or.inr (Below.refl _ _)) hst.glob (Sp.of_val rfl) hst.extra)
  case refine_4 =>
    rintro ⟨tm, df⟩ w' listed hl hst
    obtain rfl : df = [] := hst.defers
    have hr := hst.valOf 8 6 (by kernel_rfl) (hl 8 (Nat.le_of_ble_eq_true rfl)) rfl
    have hw := hst.glob
    have hd := hst.extra
    clear hst hl
    go_wp2_with fail
    go_ret
    exact ⟨by simp [hr], HP.out.below.trans (hw.mono HP.out.below.size), Nat.le_trans HP.out.drawn hd⟩

theorem chanV_one (x : ChanC) : ∀ v ∈ chanV x, v.oneCell' = true := by
  intro v hv
  simp only [chanV, List.mem_cons, List.not_mem_nil, or_false] at hv
  rcases hv with rfl | rfl | rfl <;> rfl

/-- What the order of channels leaves. -/
structure ChanRes (w : World) (base : Nat) (v : Value) (ch : List ChanC) (w' : World) (ch' : List ChanC) : Prop where
  perm : ch'.Perm ch
  sorted : (ch'.map (·.r)).Pairwise (fun x y => lessN y.key x.key = false)
  own : OwnC w' base 34 3 v ch.length (ch'.flatMap chanV)
  turn : Turn (fun b => v.ownBlock = some b) w w'
  drawn : w.drawn ≤ w'.drawn

theorem attach_flat (ch : List ChanC) : (ch.attach.flatMap fun x => chanV x.1) = ch.flatMap chanV := by
  have : (ch.attach.map (·.1)).flatMap chanV = ch.attach.flatMap fun x => chanV x.1 := by rw [List.flatMap_map]
  rw [← this, List.attach_map_subtype_val]

set_option maxHeartbeats 1000000 in
theorem ord5_ok (ch : List ChanC) (w : World) (base : Nat) (v : Value) (ho : OwnC w base 34 3 v ch.length (ch.flatMap chanV)) (hd : ∀ x ∈ ch, Cells w x.A (x.r.dests.map U16) ∧ x.r.dests.length ≤ 1000 ∧ ∀ a, x.A = some a → ¬ v.ownBlock = some a.block) (hl : ch.length ≤ 1000000) :
    Calls Tryz.prog 50 #[v, .func (.func 51) #[] #[], .func (.func 52) #[] #[]] w fun e w' => e = .returned (.tuple #[]) ∧ ∃ ch', ChanRes w base v ch w' ch' := by
  obtain ⟨W1, hW1⟩ : ∃ W1, W1 = (w.alloc (.cells #[.func (.func 51) #[] #[]] 106)).alloc (.cells #[.func (.func 52) #[] #[]] 107) := ⟨_, rfl⟩
  have HT : Hid (Two w W1 w.heap.size #[.func (.func 51) #[] #[]] #[.func (.func 52) #[] #[]]) := Lib.hid (by rw [hW1]; exact two_boxed _ _ _ _ _)
  have hs1 : w.heap.size + 2 = W1.heap.size := by rw [hW1]; simp
  have hcmp : CmpOk (α := {x : ChanC // x ∈ ch}) 89 #[.pointer (some ⟨w.heap.size + 1, 0, none⟩), .pointer (some ⟨w.heap.size, 0, none⟩)] (fun x => chanV x.1) (fun x y => cfC x.1.r y.1.r) v.ownBlock W1 := by
    intro W hW x y
    have old : ∀ b, w.heap.size ≤ b → b < W1.heap.size → W.cell? ⟨b, 0, none⟩ = W1.cell? ⟨b, 0, none⟩ := fun b h1 h2 => World.cell?_of_block (hW.block b h2 (fun h => by have := (World.ownsRow.lt ho b h).2; omega))
    have c1 := HT.out.x W1 (Below.refl _ _) 0 _ rfl
    have c2 := HT.out.y W1 (Below.refl _ _) 0 _ rfl
    have hz := hW.size
    obtain ⟨d1, d2, d3⟩ := hd x.1 x.2
    obtain ⟨e1, e2, e3⟩ := hd y.1 y.2
    exact clo5_ok (x.1.r.id : Int) (y.1.r.id : Int) (x.1.r.src : Int) (y.1.r.src : Int) x.1.A y.1.A x.1.r.dests y.1.r.dests x.1.cap y.1.cap (w.heap.size + 1) w.heap.size W ((old _ (by omega) (by omega)).trans c2) ((old _ (by omega) (by omega)).trans c1) (by omega) (by omega)
      ((d1.below (Nat.le_refl _) HT.out.below).turn hW d3) ((e1.below (Nat.le_refl _) HT.out.below).turn hW e3) d2 e2
  have hlen : ch.attach.length = ch.length := by simp
  have hcon := sortFunc_own Tryz.srt88 (α := {x : ChanC // x ∈ ch}) 3 (by omega) Tryz.isAgg34 Tryz.sizeOf34 (fun x => chanV x.1) (fun _ => rfl) (fun x => chanV_one x.1) (fun x y => cfC x.1.r y.1.r) (swo_key _ (fun x => x.1.r.key) (fun x y => ltC x.1.r y.1.r)) 89 #[.pointer (some ⟨w.heap.size + 1, 0, none⟩), .pointer (some ⟨w.heap.size, 0, none⟩)] (enters_of Tryz.func89 (by kernel_rfl) rfl) ch.attach W1 base 34 v (by rw [hlen, attach_flat]; exact ho.below HT.out.below) hcmp (by rw [hlen]; exact hl)
  have HCON := Lib.hid (hcon.mono (R' := fun r w' => r = .returned (.tuple #[]) ∧ ∃ ch', ChanRes w base v ch w' ch') fun r w' h => by
    obtain ⟨h1, h2⟩ := h
    obtain ⟨l', g1, g2, g3, g4, g5⟩ := h2.more ⟨HT.out.below, HT.out.drawn⟩
    have g3' : OwnC w' base 34 3 v ch.length ((l'.map (·.1)).flatMap chanV) := by
      rw [List.flatMap_map]
      rw [hlen] at g3
      exact g3
    refine ⟨h1, l'.map (·.1), ?_, ?_, g3', g4, g5⟩
    · have := g1.map (·.1)
      rwa [List.attach_map_subtype_val] at this
    · rw [List.pairwise_map, List.pairwise_map]
      refine g2.imp fun {x y} hxy => ?_
      have := ltC y.1.r x.1.r
      rw [← this]
      exact hxy)
  change Hid (Calls Tryz.prog 88 _ _ _) at HCON
  clear hcon hcmp hs1 HT ho hd
  have hbox := hW1.symm
  clear hW1
  go_enter Tryz.func50, Tryz.ntmps50
  go_wp2_with (go_at_call 88; refine HCON.out.mono ?_; rintro e w1 ⟨rfl, hs⟩)
  go_end0
  exact ⟨rfl, hs⟩

end Go.Proofs.YthdagjlgfffpbaaGreat
