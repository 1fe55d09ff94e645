/-
  Layer 5 (conf): the example of the chapter. By the verifier.
-/
import Derived.Test.YthdagjlgfffpbaaGreatPIsn
import Derived.Test.YthdagjlgfffpbaaGreatPCnt
import Derived.Test.YthdagjlgfffpbaaGreatPArr
set_option linter.unusedVariables false
namespace Go.Proofs.YthdagjlgfffpbaaGreat
open Go.RowKit Go.Sort

def exC : ConfR := ⟨100, [], [⟨50, 5, 0⟩, ⟨10, 5, 0⟩], [], [], []⟩
def exN : List WinR := [⟨10, 5, 0⟩, ⟨50, 5, 0⟩]

theorem exC_ws {l : List WinR} (hp : l.Perm exC.ws) (ha : Asc WinR.key l) : l = exN := by
  have h1 : exN.Perm exC.ws := List.Perm.swap _ _ _
  have h2 : Asc WinR.key exN := by
    unfold Asc exN
    simp [WinR.key, lessN]
  have hk := asc_keys (hp.trans h1.symm) ha h2
  have hi : ∀ x y : WinR, x.key = y.key → x = y := by
    rintro ⟨a, b, c⟩ ⟨d, e, f⟩ h
    simp only [WinR.key, List.cons.injEq, and_true] at h
    obtain ⟨rfl, rfl, rfl⟩ := h
    rfl
  exact (List.map_inj_right (fun a b => hi a b)).1 hk

theorem exC_norm {n : ConfR} (h : NormOf exC n) : n = ⟨100, [], exN, [], [], []⟩ := by
  obtain ⟨f, a, b, c, d, e⟩ := n
  have h1 : f = 100 := h.frame
  have h2 : a = [] := List.Perm.eq_nil h.ps
  have h3 : b = exN := exC_ws h.ws h.sw
  have h4 : c = [] := List.Perm.eq_nil h.rs
  have h5 : d = [] := List.Perm.eq_nil h.ts
  have h6 : e = [] := List.Perm.eq_nil h.cs
  subst h1 h2 h3 h4 h5 h6
  rfl
def exM : ConfR := ⟨100, [], exN, [], [], []⟩
theorem exM_of : NormOf exM exM := by
  refine ⟨rfl, List.Perm.refl _, List.Perm.refl _, List.Perm.refl _, List.Perm.refl _, List.Perm.refl _, List.Pairwise.nil, ?_, List.Pairwise.nil, List.Pairwise.nil, List.Pairwise.nil⟩
  show Asc WinR.key exN
  unfold Asc exN
  simp [WinR.key, lessN]
theorem exM_same : sameV exM (normR exM) = true := sameV_refl (exM_of.same (normR_of exM))
theorem exC_same : sameV exC (normR exC) = false := by
  rw [exC_norm (normR_of exC)]
  refine sameV_no 2 (by omega) (by omega) ?_
  simp [ConfR.keys, exC, exN, WinR.key]
theorem exC_small : Small exC 1000 := ⟨by simp [exC], by simp [exC], by simp [exC], by simp [exC], by simp [exC], fun x hx => by simp [exC] at hx⟩
theorem exM_small : Small exM 1000 := ⟨by simp [exM], by simp [exM, exN], by simp [exM], by simp [exM], by simp [exM], fun x hx => by simp [exM] at hx⟩
theorem exC_nums : OkCfg exC := by
  refine ⟨by simp [exC], fun x hx => by simp [exC] at hx, fun x hx => ?_, fun x hx => by simp [exC] at hx, fun x hx => by simp [exC] at hx, fun x hx => by simp [exC] at hx⟩
  simp only [exC, List.mem_cons, List.not_mem_nil, or_false] at hx
  rcases hx with rfl | rfl <;> exact ⟨by decide, by decide, by decide⟩
theorem exM_nums : OkCfg exM := by
  refine ⟨by simp [exM], fun x hx => by simp [exM] at hx, fun x hx => ?_, fun x hx => by simp [exM] at hx, fun x hx => by simp [exM] at hx, fun x hx => by simp [exM] at hx⟩
  simp only [exM, exN, List.mem_cons, List.not_mem_nil, or_false] at hx
  rcases hx with rfl | rfl <;> exact ⟨by decide, by decide, by decide⟩

def exQ (b : Nat) : CfgQ := ⟨none, 0, some ⟨b, 0, none⟩, 2, none, 0, none, 0, none, 0, []⟩

/-- The example in memory. -/
structure ExIn (w : World) (W : World) : Prop where
  box : W.heap[w.heap.size + 1]? = some (.cells (cfgA exC (exQ w.heap.size)) 30)
  cfg : CfgIn W exC (exQ w.heap.size)
  below : Below w.heap.size w W
  lt : w.heap.size + 1 < W.heap.size
theorem ExIn.more {w W W' : World} (h : ExIn w W) (hb : Below W.heap.size W W') : ExIn w W' :=
  ⟨by rw [hb.block _ h.lt]; exact h.box, h.cfg.below (Nat.le_refl _) hb, h.below.trans (hb.mono h.below.size), Nat.lt_of_lt_of_le h.lt hb.size⟩
theorem ex_start (w : World) : ExIn w ((w.alloc (.cells #[.int .u64 50, .int .u64 5, .int .u16 0, .int .u64 10, .int .u64 5, .int .u16 0] 45)).alloc (.cells (cfgA exC (exQ w.heap.size)) 30)) := by
  obtain ⟨W1, hW1⟩ : ∃ W1, W1 = w.alloc (.cells #[.int .u64 50, .int .u64 5, .int .u16 0, .int .u64 10, .int .u64 5, .int .u16 0] 45) := ⟨_, rfl⟩
  have hA : Below w.heap.size w W1 := by rw [hW1]; exact (Below.refl _ _).alloc (Nat.le_refl _) _
  have hs : W1.heap.size = w.heap.size + 1 := by rw [hW1]; simp
  have hc : Cells W1 (some ⟨w.heap.size, 0, none⟩) (exC.ws.flatMap winV) := by rw [hW1]; exact cells_lit w _ _ _ rfl
  rw [← hW1]
  have hB : Below W1.heap.size W1 (W1.alloc (.cells (cfgA exC (exQ w.heap.size)) 30)) := (Below.refl _ _).alloc (Nat.le_refl _) _
  have he := exC_nums
  refine ⟨by rw [← hs]; exact heap_alloc_new W1 _, ⟨?_, ?_, ?_, ?_, ?_, rfl, fun x hx => (by cases hx), he.frame, he.okp, he.okw, he.okr, he.okt, he.okc⟩, hA.trans (hB.mono hA.size), by simp [hs]⟩
  · exact ⟨Cells.nil _ _, fun _ => rfl, Nat.le_refl _, by simp [exC]⟩
  · exact ⟨hc.below (Nat.le_refl _) hB, (fun h => by cases h), Nat.le_refl _, by simp [exC]⟩
  · exact ⟨Cells.nil _ _, fun _ => rfl, Nat.le_refl _, by simp [exC]⟩
  · exact ⟨Cells.nil _ _, fun _ => rfl, Nat.le_refl _, by simp [exC]⟩
  · exact ⟨Cells.nil _ _, fun _ => rfl, Nat.le_refl _, by simp [exQ]⟩

theorem load_cfgw {w : World} {ops : Array Oper} {rest : List Oper} {op : Oper} {a : Act} {Q : Exit → Act → World → Prop} (hw : Region.wanted op (yielded ops a.tmps) = true) (x : Operand) (ho : op.op = .load 30 x) (g : Nat) (hx : a.eval x = .pointer (some ⟨g, 0, none⟩)) (cs : Array Value)
    (hs : cs.size = 6) (hg : w.heap[g]? = some (.cells cs 30)) (h : wpList Tryz.prog ops Q rest (a.put op.dst (.agg cs)) w) : wpList Tryz.prog ops Q (op :: rest) a w :=
  BigFrame.wpList_want hw fun K hK => wp_load_row 30 x ho g hx 30 cs (0, 0) _ hg Tryz.underlying30 rfl (by rw [hs]; kernel_rfl) (hK _ _ h)

set_option maxHeartbeats 4000000 in
set_option maxRecDepth 50000 in
theorem alive_ok (w : World) : Calls Tryz.prog 7 #[] w fun e w' => e = .returned (.bool true) ∧ Below w.heap.size w w' := by
  obtain ⟨W1, hW1⟩ : ∃ W1, W1 = (w.alloc (.cells #[.int .u64 50, .int .u64 5, .int .u16 0, .int .u64 10, .int .u64 5, .int .u16 0] 45)).alloc (.cells (cfgA exC (exQ w.heap.size)) 30) := ⟨_, rfl⟩
  have hx : ExIn w W1 := by rw [hW1]; exact ex_start w
  have HX := Lib.hid hx
  have HN : Hid (Calls Tryz.prog 17 #[.agg #[.int .u64 100, .slice none 0 0, .slice (some ⟨w.heap.size, 0, none⟩) 2 2, .slice none 0 0, .slice none 0 0, .slice none 0 0]] W1 fun e w' => ∃ s, e = .returned (.agg #[.int .u64 100, .slice s.A1 0 s.c1, .slice s.A2 2 s.c2, .slice s.A3 0 s.c3, .slice s.A4 0 s.c4, .slice s.A5 0 s.c5]) ∧ OwnCfg w' W1.heap.size exM s ∧ Below W1.heap.size W1 w') := Lib.hid ((normal_ok exC (exQ w.heap.size) W1 hx.cfg exC_small (Or.inl rfl)).mono fun e w' h => by
    obtain ⟨n, hn, s, he, ho, hb⟩ := h
    have hnn := exC_norm hn
    subst hnn
    exact ⟨s, he, ho, hb⟩)
  have hbox : (w.alloc (.cells #[.int .u64 50, .int .u64 5, .int .u16 0, .int .u64 10, .int .u64 5, .int .u16 0] 45)).alloc (.cells #[.int .u64 100, .slice none 0 0, .slice (some ⟨w.heap.size, 0, none⟩) 2 2, .slice none 0 0, .slice none 0 0, .slice none 0 0] 30) = W1 := hW1.symm
  have HBOX := Lib.hid hbox
  clear hx hW1 hbox
  go_enter Tryz.func7, Tryz.ntmps7
  go_wp2_with fail
  rw [HBOX.out]
  have hx0 : W1.heap[w.heap.size + 1]? = some (.cells #[.int .u64 100, .slice none 0 0, .slice (some ⟨w.heap.size, 0, none⟩) 2 2, .slice none 0 0, .slice none 0 0, .slice none 0 0] 30) := HX.out.box
  have HX0 := Lib.hid hx0
  clear hx0
  go_wp2_with ((refine load_cfg rfl (.tmp 1) rfl (w.heap.size + 1) rfl #[.int .u64 100, .slice none 0 0, .slice (some ⟨w.heap.size, 0, none⟩) 2 2, .slice none 0 0, .slice none 0 0, .slice none 0 0] rfl HX0.out ?_))
  refine HN.out.mono ?_
  rintro e wr ⟨s, rfl, ho, hb⟩
  have hx2 := HX.out.more hb
  obtain ⟨A', c', hv, hc, -⟩ := ho.ws.cells
  injection hv with e1 e2 e3
  subst e1
  obtain ⟨b, o, hA, hbl, hcell⟩ := hc.some (by decide)
  obtain ⟨N, hN⟩ : ∃ N, N = wr.heap.size := ⟨_, rfl⟩
  obtain ⟨W2, hW2⟩ : ∃ W2, wr.alloc (.cells #[.int .u64 100, .slice s.A1 0 s.c1, .slice s.A2 2 s.c2, .slice s.A3 0 s.c3, .slice s.A4 0 s.c4, .slice s.A5 0 s.c5] 30) = W2 := ⟨_, rfl⟩
  have hb2 : Below wr.heap.size wr W2 := by rw [← hW2]; exact (Below.refl _ _).alloc (Nat.le_refl _) _
  have hrow : W2.heap[N]? = some (.cells #[.int .u64 100, .slice s.A1 0 s.c1, .slice s.A2 2 s.c2, .slice s.A3 0 s.c3, .slice s.A4 0 s.c4, .slice s.A5 0 s.c5] 30) := by rw [hN, ← hW2]; exact heap_alloc_new wr _
  have hNlt : N < W2.heap.size := by rw [hN, ← hW2]; simp
  have n2 : W2.cell? ⟨N, 2, none⟩ = some (.slice s.A2 2 s.c2) := cell_of_row _ _ 2 _ _ _ hrow
  have n0 : W2.cell? ⟨b, o, none⟩ = some (.int .u64 10) := by
    rw [bcell hb2 b o hbl]
    have := hcell 0 (.int .u64 10) rfl
    rwa [Nat.add_zero] at this
  have ho2 := ho.stay (S := fun _ => False) (Turn.of_below hb2) (fun _ _ h => h)
  have HI1 : Hid (Calls Tryz.prog 29 #[.agg #[.int .u64 100, .slice s.A1 0 s.c1, .slice s.A2 2 s.c2, .slice s.A3 0 s.c3, .slice s.A4 0 s.c4, .slice s.A5 0 s.c5]] W2 fun e w' => e = .returned (.bool true) ∧ Below W2.heap.size W2 w') := Lib.hid (by
    have h := isn_ok exM s W2 (ho2.cfg exM_nums exM_small (by omega)) exM_small (Or.inl rfl)
    rw [exM_same] at h
    exact h)
  have hx3 := hx2.more hb2
  have HX3 := Lib.hid hx3
  have HI2 : Hid (∀ W, ExIn w W → Calls Tryz.prog 29 #[.agg #[.int .u64 100, .slice none 0 0, .slice (some ⟨w.heap.size, 0, none⟩) 2 2, .slice none 0 0, .slice none 0 0, .slice none 0 0]] W fun e w' => e = .returned (.bool false) ∧ Below W.heap.size W w') := Lib.hid (fun W hW => by
    have h := isn_ok exC _ W hW.cfg exC_small (Or.inl rfl)
    rw [exC_same] at h
    exact h)
  have HI3 : Hid (∀ W, ExIn w W → Calls Tryz.prog 30 #[.agg #[.int .u64 100, .slice none 0 0, .slice (some ⟨w.heap.size, 0, none⟩) 2 2, .slice none 0 0, .slice none 0 0, .slice none 0 0]] W fun e w' => e = .returned (.agg #[.int .i64 0, .int .i64 0, .int .i64 2, .int .i64 0, .int .i64 0, .int .i64 0, .int .i64 0]) ∧ Below W.heap.size W w') := Lib.hid (fun W hW => by
    have h := pcounts_ok exC _ W hW.cfg
    have e : cntV exC = .agg #[.int .i64 0, .int .i64 0, .int .i64 2, .int .i64 0, .int .i64 0, .int .i64 0, .int .i64 0] := by
      unfold cntV
      simp [exC, ConfR.links, wrap64]
    rw [e] at h
    exact h)
  have HR := Lib.hid hrow
  have hboxN : wr.alloc (.cells #[.int .u64 100, .slice s.A1 0 s.c1, .slice s.A2 2 s.c2, .slice s.A3 0 s.c3, .slice s.A4 0 s.c4, .slice s.A5 0 s.c5] 30) = W2 := hW2
  have hNs : wr.heap.size = N := hN.symm
  have hgd : Tryz.prog.eqGuardType Tryz.prog.depth 68 = false := by kernel_rfl
  have he7 := eql7 0 0 2 0 0 0 0 0 0 2 0 0 0 0
  have HBX : Hid (∀ W, ExIn w W → W.heap[w.heap.size + 1]? = some (.cells #[.int .u64 100, .slice none 0 0, .slice (some ⟨w.heap.size, 0, none⟩) 2 2, .slice none 0 0, .slice none 0 0, .slice none 0 0] 30)) := Lib.hid (fun W hW => hW.box)
  rw [hA] at n2
  clear ho hb hx2 hc hcell hbl hN hW2 hb2 hrow hNlt ho2 hx3 HN HX HX0 HBOX
  rw [hA]
  rw [hA] at hboxN HI1 HR
  clear hA e2 e3
  go_wp2_with (first
    | (refine load_cfgw rfl (.tmp 2) rfl N rfl #[.int .u64 100, .slice s.A1 0 s.c1, .slice (some ⟨b, o, none⟩) 2 s.c2, .slice s.A3 0 s.c3, .slice s.A4 0 s.c4, .slice s.A5 0 s.c5] rfl HR.out ?_)
    | (go_at_call 29; refine HI1.out.mono ?_; rintro e w1 ⟨rfl, hb1⟩; have HX4 := Lib.hid (HX3.out.more hb1); clear hb1)
    | (refine load_cfgw rfl (.tmp 1) rfl (w.heap.size + 1) rfl #[.int .u64 100, .slice none 0 0, .slice (some ⟨w.heap.size, 0, none⟩) 2 2, .slice none 0 0, .slice none 0 0, .slice none 0 0] rfl (HBX.out _ HX4.out) ?_)
    | (go_at_call 29; refine (HI2.out _ HX4.out).mono ?_; rintro e w2 ⟨rfl, hb2⟩; have HX5 := Lib.hid (HX4.out.more hb2); clear hb2)
    | (refine load_cfgw rfl (.tmp 1) rfl (w.heap.size + 1) rfl #[.int .u64 100, .slice none 0 0, .slice (some ⟨w.heap.size, 0, none⟩) 2 2, .slice none 0 0, .slice none 0 0, .slice none 0 0] rfl (HBX.out _ HX5.out) ?_)
    | (go_at_call 30; refine (HI3.out _ HX5.out).mono ?_; rintro e w3 ⟨rfl, hb3⟩; have HX6 := Lib.hid (HX5.out.more hb3); clear hb3))
  go_ret
  exact ⟨by simp, HX6.out.below⟩

end Go.Proofs.YthdagjlgfffpbaaGreat
