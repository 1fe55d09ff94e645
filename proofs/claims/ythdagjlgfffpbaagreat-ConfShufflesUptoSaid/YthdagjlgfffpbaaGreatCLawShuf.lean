/-
  The law ConfShuffles returns true where what it reads is of bulk at most 1048576: the normal form does not depend on the order of records and of destinations. By the verifier.
-/
import Derived.Test.YthdagjlgfffpbaaGreatSKin
import Derived.Test.YthdagjlgfffpbaaGreatLBulk
import Derived.Test.YthdagjlgfffpbaaGreatPAlv
import Derived.Test.YthdagjlgfffpbaaGreatPIsn
import Derived.Test.YthdagjlgfffpbaaGreatMLst
import Derived.Test.YthdagjlgfffpbaaGreatRNrm
import Derived.Test.YthdagjlgfffpbaaGreatSU8
import Derived.Test.YthdagjlgfffpbaaGreatMRev
import Derived.Test.YthdagjlgfffpbaaGreatMCat
import Derived.Test.YthdagjlgfffpbaaGreatPSam
import Derived.JoinedCond
set_option linter.unusedVariables false
namespace Go.Proofs.YthdagjlgfffpbaaGreat.LawShuf
open Go.RowKit Go.ChangeShapes Go.WideShapes Go.ChangeAt

theorem getD_bool {l : Array Value} {i : Nat} {b : Bool} (h : l[i]?.getD undef = .bool b) : l[i]? = some (.bool b) := by
  cases hl : l[i]? with
  | none => rw [hl] at h; cases h
  | some v => rw [hl] at h; exact congrArg some h

theorem same_refl (a : ConfR) : sameV a a = true := sameV_yes rfl fun _ _ _ => rfl

def sizes (c : ConfR) : Nat := c.ps.length + c.ws.length + c.rs.length + c.ts.length + c.cs.length + c.links
theorem link_le {c : ConfR} {x : ChanR} (hx : x ∈ c.cs) : x.dests.length ≤ c.links := sum_part (List.mem_map_of_mem (f := fun d : ChanR => d.dests.length) hx)

/-- Few records are at most 120. -/
theorem few_tight {c : ConfR} (hf : fewV c = true) (hb : sizes c ≤ 1048576) : Short c ∧ Small c 1000 := by
  unfold sizes at hb
  unfold fewV at hf
  simp only [Bool.and_eq_true, List.all_eq_true, decide_eq_true_eq] at hf
  obtain ⟨h1, h2, h3⟩ := hf
  unfold ConfR.total at h3
  have hw : wrap64 (c.links : Int) = (c.links : Int) := wrap_small (by omega) (by omega)
  rw [hw, wrap_small (by omega) (by omega)] at h3
  have hd : ∀ x ∈ c.cs, x.dests.length ≤ 1000 := fun x hx => by have := link_le hx; omega
  exact ⟨⟨by omega, by omega, by omega, by omega, by omega, hd, fun x hx => by have := h1 x hx; omega, fun x hx => by have := h2 x hx; omega⟩, ⟨by omega, by omega, by omega, by omega, by omega, hd⟩⟩

theorem short_norm {c n : ConfR} (h : NormOf c n) (hs : Short c) : Short n := by
  refine ⟨by rw [h.ps.length_eq]; exact hs.ps, by rw [h.ws.length_eq]; exact hs.ws, by rw [h.rs.length_eq]; exact hs.rs, by rw [h.ts.length_eq]; exact hs.ts, by rw [h.cs.length_eq, List.length_map]; exact hs.cs, fun x hx => ?_, fun x hx => hs.np x (h.ps.mem_iff.1 hx), fun x hx => hs.nt x (h.ts.mem_iff.1 hx)⟩
  obtain ⟨y, hy, rfl⟩ := List.mem_map.1 (h.cs.mem_iff.1 hx)
  show (sortU y.dests).length ≤ 1000
  rw [sortU_len]
  exact hs.ds y hy

/-- The configuration in its box. -/
structure OneIn (w : World) (ca : ConfR) (p : CfgQ) (CA : Array Value) (W : World) : Prop where
  b1 : W.heap[w.heap.size]? = some (.cells CA 30)
  c1 : CfgIn W ca p
  below : Below w.heap.size w W
theorem OneIn.more {w W W' : World} {ca : ConfR} {p : CfgQ} {CA : Array Value} (h : OneIn w ca p CA W) (hb : Below W.heap.size W W') : OneIn w ca p CA W' :=
  ⟨(hb.block _ (Array.getElem?_eq_some_iff.1 h.b1).1).trans h.b1, h.c1.below (Nat.le_refl _) hb, h.below.trans (hb.mono h.below.size)⟩
theorem OneIn.start {w : World} {ca : ConfR} {p : CfgQ} (h : CfgIn w ca p) : OneIn w ca p (cfgA ca p) (w.alloc (.cells (cfgA ca p) 30)) := by
  have hb : Below w.heap.size w (w.alloc (.cells (cfgA ca p) 30)) := (Below.refl _ _).alloc (Nat.le_refl _) _
  exact ⟨heap_alloc_new w _, h.below (Nat.le_refl _) hb, hb⟩

def isNN (n : ConfR) : Value → World → Prop := fun v w => ∃ nn q, v = cfgV nn q ∧ NormOf n nn ∧ CfgIn w nn q
theorem isNN_keeps (n : ConfR) : Keeps (isNN n) := fun v w w' ⟨nn, q, h1, h2, h3⟩ hb => ⟨nn, q, h1, h2, h3.below (Nat.le_refl _) hb⟩

theorem shuf_nums {c : ConfR} (h : OkCfg c) (i j : Nat) : OkCfg (shufR c i j) := by
  refine ⟨h.frame, fun x hx => h.okp x (List.mem_reverse.1 hx), fun x hx => h.okw x ((rot_perm c.ws i).mem_iff.1 hx), fun x hx => h.okr x (List.mem_reverse.1 hx), fun x hx => h.okt x ((rot_perm c.ts j).mem_iff.1 hx), fun x hx => ?_⟩
  obtain ⟨y, hy, rfl⟩ := List.mem_map.1 (List.mem_reverse.1 hx)
  obtain ⟨h1, h2, h3⟩ := h.okc y hy
  exact ⟨h1, h2, fun d hd => h3 d (List.mem_reverse.1 hd)⟩
theorem shuf_small {c : ConfR} {n : Nat} (h : Small c n) (i j : Nat) : Small (shufR c i j) n := by
  refine ⟨?_, ?_, ?_, ?_, ?_, fun x hx => ?_⟩
  · show c.ps.reverse.length ≤ n
    rw [List.length_reverse]; exact h.ps
  · have e := (rot_perm c.ws i).length_eq
    show (c.ws.drop i ++ c.ws.take i).length ≤ n
    rw [e]; exact h.ws
  · show c.rs.reverse.length ≤ n
    rw [List.length_reverse]; exact h.rs
  · have e := (rot_perm c.ts j).length_eq
    show (c.ts.drop j ++ c.ts.take j).length ≤ n
    rw [e]; exact h.ts
  · show (c.cs.map revR).reverse.length ≤ n
    rw [List.length_reverse, List.length_map]; exact h.cs
  · obtain ⟨y, hy, rfl⟩ := List.mem_map.1 (List.mem_reverse.1 hx)
    show y.dests.reverse.length ≤ n
    rw [List.length_reverse]; exact h.ds y hy

theorem run_dropg {t e : TypeId} {z : Value} {size bytes : Nat} (T : ElemT t e z size bytes) (he : Tryz.prog.elem t = e) (A : Option Addr) (n c m : Nat) (hm : m ≤ n) (W : World) : (Instr.slice t (.slice A n c) (some (.int .i64 (m : Int))) none none).run Tryz.prog W = .ok (.slice (if c = m then A else A.map (·.add (m * size))) (n - m) (c - m)) W := by
  rw [run_slice_l W t A n c (by rw [he]; exact T.under) .i64 (m : Int) (by omega) (by omega), size_g T he]
  simp [Result.andThen, sliced]

theorem run_takeg {t e : TypeId} {z : Value} {size bytes : Nat} (T : ElemT t e z size bytes) (he : Tryz.prog.elem t = e) (A : Option Addr) (n c m : Nat) (hm : m ≤ c) (W : World) : (Instr.slice t (.slice A n c) none (some (.int .i64 (m : Int))) none).run Tryz.prog W = .ok (.slice A m c) W := by
  rw [run_slice_h W t A n c (by rw [he]; exact T.under) .i64 (m : Int) (by omega) (by omega), size_g T he]
  have h0 : A.map (fun a => a.add 0) = A := by
    cases A with
    | none => rfl
    | some a => obtain ⟨b, o, s⟩ := a; simp [Addr.add]
  simp [Result.andThen, sliced, h0]

theorem mod_nat {x n : Int} (hx : 0 ≤ x) (hn : 0 < n) : ∃ m : Nat, x.tmod n = (m : Int) ∧ (m : Int) < n := by
  have h1 := Int.emod_nonneg x (by omega : n ≠ 0)
  have h2 := Int.emod_lt_of_pos x hn
  refine ⟨(x % n).toNat, ?_, by omega⟩
  rw [Int.tmod_eq_emod_of_nonneg hx]
  omega

set_option maxHeartbeats 8000000 in
set_option maxRecDepth 100000 in
theorem walk (ca : ConfR) (p : CfgQ) (kk : Int) (hk0 : 0 ≤ kk) (hk1 : kk < 256) (w : World) (h1 : CfgIn w ca p) (ha : sizes ca ≤ 1048576) : Calls Tryz.prog 4 #[cfgV ca p, .int .u8 kk] w fun e w' => e = .returned (.bool true) ∧ Below w.heap.size w w' := by
  have hT := OneIn.start h1
  obtain ⟨CA, hCA⟩ : ∃ CA, CA = cfgA ca p := ⟨_, rfl⟩
  have HCA := Lib.hid hCA
  have hv1 : cfgV ca p = .agg CA := by rw [hCA]; rfl
  have HZ1 : Hid (CA.size = 6) := Lib.hid (by rw [hCA]; rfl)
  rw [← hCA] at hT
  have HT := Lib.hid hT
  have HAL := Lib.hid alive_ok
  have HFA : Hid (∀ W, OneIn w ca p CA W → Calls Tryz.prog 8 #[.agg CA] W fun e w' => e = .returned (.bool (fewV ca)) ∧ Below W.heap.size W w') := Lib.hid fun W hW => by rw [hCA]; exact few_ok ca p W hW.c1
  have HSA : Hid (fewV ca = true → Short ca ∧ Small ca 1000) := Lib.hid fun h => few_tight h ha
  have HOA := Lib.hid h1.nums
  rw [hv1]
  generalize hfa : fewV ca = fa at *
  clear hCA hfa hv1 hT h1 ha
  go_enter Tryz.func4, Tryz.ntmps4
  cases fa with
  | false =>
    go_wp2_with (first
      | (with_reducible refine load_cfg rfl (.tmp 2) rfl w.heap.size rfl CA HZ1.out HT.out.b1 ?_)
      | (go_at_call 8; refine (HFA.out _ HT.out).mono ?_; rintro e w1 ⟨rfl, hb1⟩; have HT1 := Lib.hid (HT.out.more hb1); clear hb1 HT)
      | (go_at_call 7; refine (HAL.out _).mono ?_; rintro e w2 ⟨rfl, hb2⟩; have HT2 := Lib.hid (HT1.out.more hb2); clear hb2))
    go_ret
    exact ⟨rfl, HT2.out.below⟩
  | true =>
    have HSM := Lib.hid (HSA.out rfl)
    have HKB : Hid (0 ≤ kk ∧ kk < 256) := Lib.hid ⟨hk0, hk1⟩
    have HKK : Hid (IntKind.i64.wrap kk = kk) := Lib.hid (by rw [IntKind.wrap_i64]; omega)
    clear hk0 hk1
    clear HSA
    go_wp2_with (first
      | (with_reducible refine load_cfg rfl (.tmp 2) rfl w.heap.size rfl CA HZ1.out HT.out.b1 ?_)
      | (go_at_call 8; refine (HFA.out _ HT.out).mono ?_; rintro e w1 ⟨rfl, hb1⟩; have HT1 := Lib.hid (HT.out.more hb1); clear hb1 HT)
      | (with_reducible refine load_cfg rfl (.tmp 2) rfl w.heap.size rfl CA HZ1.out HT1.out.b1 ?_))
    have hcl := clone_ok ca p _ HT1.out.c1 HSM.out.2
    rw [show cfgV ca p = .agg CA by rw [HCA.out]; rfl] at hcl
    refine hcl.mono ?_
    rintro e w3 ⟨qx, rfl, hox, hbx⟩
    obtain ⟨X, hX⟩ : ∃ X, X = w3.heap.size := ⟨_, rfl⟩
    obtain ⟨W3, hW3⟩ : ∃ W3, W3 = w3.alloc (.cells #[.int .u64 (ca.frame : Int), .slice qx.A1 ca.ps.length qx.c1, .slice qx.A2 ca.ws.length qx.c2, .slice qx.A3 ca.rs.length qx.c3, .slice qx.A4 ca.ts.length qx.c4, .slice qx.A5 ca.cs.length qx.c5] 30) := ⟨_, rfl⟩
    have bW3 : Below w3.heap.size w3 W3 := by rw [hW3]; exact (Below.refl _ _).alloc (Nat.le_refl _) _
    have sW3 : X < W3.heap.size := by rw [hW3, hX]; simp
    have rW3 : W3.heap[X]? = some (.cells (cfgA ca qx) 30) := by rw [hW3, hX]; exact heap_alloc_new w3 _
    obtain ⟨C3, hC3⟩ : ∃ C3, C3 = cfgA ca qx := ⟨_, rfl⟩
    rw [← hC3] at rW3
    have HXW3 : Hid (w3.alloc (.cells #[.int .u64 (ca.frame : Int), .slice qx.A1 ca.ps.length qx.c1, .slice qx.A2 ca.ws.length qx.c2, .slice qx.A3 ca.rs.length qx.c3, .slice qx.A4 ca.ts.length qx.c4, .slice qx.A5 ca.cs.length qx.c5] 30) = W3) := Lib.hid hW3.symm
    have HYX := Lib.hid hX
    have HVC3 := Lib.hid hC3
    have HRWX : Hid (∀ W, Below W3.heap.size W3 W → W.heap[X]? = some (.cells C3 30)) := Lib.hid fun W hW => (hW.block X sW3).trans rW3
    have hm := mst_clone hox hbx HT1.out.b1
    rw [← hX, ← hC3] at hm
    have eW : w3.alloc (.cells C3 30) = W3 := by rw [hW3, hC3]; rfl
    rw [eW] at hm
    have hch : qx.ch.map (·.r) = ca.cs := hox.ch
    have HCH := Lib.hid hch
    have hlen : qx.ch.length = ca.cs.length := by rw [← hch, List.length_map]
    have HLN := Lib.hid hlen
    have HM0 : Hid (MSt w1 X [(w.heap.size, .cells CA 30)] W3 { ca with cs := (revTo qx.ch 0).map (·.r) } { qx with ch := revTo qx.ch 0 }) := Lib.hid (by rw [revTo_zero, hch]; exact hm)
    have HBW := Lib.hid HT1.out.below
    have HT1S := Lib.hid HT1.out.b1
    clear hcl hox hbx hX hW3 bW3 sW3 rW3 hC3 hm eW hch hlen HRWX
    unfold cfgV
    go_wp2_with fail
    rw [HXW3.out, ← HYX.out]
    have hnl : ca.cs.length ≤ 1000 := HSM.out.2.cs
    go_loopw [19] (fun i wr => ∃ j : Nat, j ≤ ca.cs.length ∧ i = .int .i64 (j : Int) ∧ Hid (MSt w1 X [(w.heap.size, .cells CA 30)] wr { ca with cs := (revTo qx.ch j).map (·.r) } { qx with ch := revTo qx.ch j })) (fun i _ => ca.cs.length - (intOf i).toNat)
    case atStart => exact ⟨0, by omega, by go_num, HM0⟩
    case round =>
      obtain ⟨j, hj, rfl, hst⟩ := hrel
      by_cases hlt : j < ca.cs.length
      · have hji : (j : Int) < (ca.cs.length : Int) := by omega
        have hwj : wrap64 ((j : Int) + 1) = (j : Int) + 1 := by unfold wrap64; omega
        have hjs : j < qx.ch.length := by rw [HLN.out]; exact hlt
        obtain ⟨b, o, hA5, hcell⟩ := hst.out.rchan_at hjs
        have hc0 : wr.cell? ⟨b, o + j * 3, none⟩ = some (.int .u16 (qx.ch[j].r.id : Int)) := hcell 0 _ rfl
        have hc1 : wr.cell? ⟨b, o + j * 3 + 1, none⟩ = some (.int .u16 (qx.ch[j].r.src : Int)) := hcell 1 _ rfl
        have hc2 : wr.cell? ⟨b, o + j * 3 + 2, none⟩ = some (.slice qx.ch[j].A qx.ch[j].r.dests.length qx.ch[j].cap) := hcell 2 _ rfl
        obtain ⟨V1, hV1⟩ : ∃ V1, wr.alloc (.cells #[.int .u16 (qx.ch[j].r.id : Int), .int .u16 (qx.ch[j].r.src : Int), .slice qx.ch[j].A qx.ch[j].r.dests.length qx.ch[j].cap] 34) = V1 := ⟨_, rfl⟩
        have hb1 : Below wr.heap.size wr V1 := by rw [← hV1]; exact (Below.refl _ _).alloc (Nat.le_refl _) _
        have hx2 : V1.cell? ⟨wr.heap.size, 2, none⟩ = some (.slice qx.ch[j].A qx.ch[j].r.dests.length qx.ch[j].cap) := by rw [← hV1]; exact cell_of_row _ _ 2 _ _ _ (heap_alloc_new wr _)
        have hm1 := hst.out.more hb1
        have hdm : qx.ch[j] ∈ revTo qx.ch j := List.mem_of_getElem? (revTo_at hjs)
        have hdl : qx.ch[j].r.dests.length ≤ 1000 := HSM.out.2.ds _ (by rw [← HCH.out]; exact List.mem_map_of_mem (List.getElem_mem hjs))
        have HSC := Lib.hid (reverse_one Tryz.rev10 U16 (fun _ => rfl) qx.ch[j].r.dests V1 w1.heap.size 32 (.slice qx.ch[j].A qx.ch[j].r.dests.length qx.ch[j].cap) (hm1.own.ds _ hdm) (by omega))
        have HDS := Lib.hid (fun (W' : World) ho ht => MSt.rdst (W' := W') hjs hm1 ho ht)
        clear hcell hst hb1 hm1 hdm hdl HM0
        have HA5 := Lib.hid hA5
        rw [hA5]
        generalize qx.ch[j] = x at *
        go_wp2_with fail
        refine HSC.out.mono ?_
        rintro e W' ⟨rfl, ho, ht⟩
        have HE := Lib.hid (HDS.out W' ho ht)
        clear ho ht HSC HDS
        go_wp2_with fail
        go_roundw
        case rel => exact ⟨j + 1, by omega, by go_num, by have h := HE.out; rw [HA5.out] at h; exact Lib.hid h⟩
        case measure => simp [intOf]; omega
      · have hji : ¬ (j : Int) < (ca.cs.length : Int) := by omega
        have hjj : j = qx.ch.length := by rw [HLN.out]; omega
        subst hjj
        have hst0 := hst.out
        rw [revTo_all] at hst0
        obtain ⟨H, hH⟩ : ∃ H, H = qx.ch.map revC := ⟨_, rfl⟩
        rw [← hH] at hst0
        have hk1 : H.map (·.r) = ca.cs.map revR := by rw [hH, ← HCH.out, List.map_map, List.map_map]; rfl
        have hHl : H.length = ca.cs.length := by rw [hH, List.length_map]; exact HLN.out
        rw [hk1] at hst0
        have HHL := Lib.hid hHl
        have e1 : wr.cell? ⟨X, 1, none⟩ = some (.slice qx.A1 ca.ps.length qx.c1) := hst0.cell 1
        have HR1 := Lib.hid (reverse_own Tryz.rev11 4 (by omega) Tryz.isAgg36 Tryz.sizeOf36 partV (fun _ => rfl) partV_c1 ca.ps wr w1.heap.size 36 (.slice qx.A1 ca.ps.length qx.c1) hst0.own.ps (by have := HSM.out.2.ps; omega))
        have HD1 := Lib.hid (fun (W' : World) hs => MSt.rev1 (W' := W') hst0 hs)
        clear hst hst0 hH hk1 hHl HM0
        go_wp2_with fail
        refine HR1.out.mono ?_
        rintro e W5 ⟨rfl, hr1⟩
        have hm5 := HD1.out W5 hr1
        clear hr1 e1 HR1 HD1
        have e3 : W5.cell? ⟨X, 3, none⟩ = some (.slice qx.A3 ca.rs.length qx.c3) := hm5.cell 3
        have HR3 := Lib.hid (reverse_own Tryz.rev12 5 (by omega) Tryz.isAgg47 Tryz.sizeOf47 regV (fun _ => rfl) regV_c1 ca.rs W5 w1.heap.size 47 (.slice qx.A3 ca.rs.length qx.c3) hm5.own.rs (by have := HSM.out.2.rs; omega))
        have HD3 := Lib.hid (fun (W' : World) hs => MSt.rev3 (W' := W') hm5 hs)
        clear hm5
        go_wp2_with fail
        refine HR3.out.mono ?_
        rintro e W6 ⟨rfl, hr3⟩
        have hm6 := HD3.out W6 hr3
        clear hr3 e3 HR3 HD3
        have e5 : W6.cell? ⟨X, 5, none⟩ = some (.slice qx.A5 H.length qx.c5) := by
          have := hm6.cell 5
          rw [this]
          simp [cfgA, HHL.out]
        have ho5 : OwnC W6 w1.heap.size 34 3 (.slice qx.A5 H.length qx.c5) H.length (H.flatMap chanV) := by
          have := hm6.own.cs
          simp only [List.length_map, ← HHL.out] at this
          exact this
        have HR5 := Lib.hid (reverse_own Tryz.rev13 3 (by omega) Tryz.isAgg34 Tryz.sizeOf34 chanV (fun _ => rfl) chanV_c1 H W6 w1.heap.size 34 (.slice qx.A5 H.length qx.c5) ho5 (by have := HHL.out; omega))
        have HD5 := Lib.hid (fun (W' : World) hs => MSt.rev5 (W' := W') hm6 hs)
        clear hm6 ho5
        go_wp2_with fail
        refine HR5.out.mono ?_
        rintro e W7 ⟨rfl, hr5⟩
        have hm7 := HD5.out W7 hr5
        clear hr5 e5 HR5 HD5
        have HM7 : Hid (MSt w1 X [(w.heap.size, .cells CA 30)] W7 { ca with ps := ca.ps.reverse, rs := ca.rs.reverse, cs := (ca.cs.map revR).reverse } { qx with ch := H.reverse }) := Lib.hid hm7
        clear hm7
        have HKW : Hid (∀ W, Below W7.heap.size W7 W → W.heap[w.heap.size]? = some (.cells CA 30)) := Lib.hid fun W hW => ((HM7.out.more hW).keep _ (List.mem_singleton.2 rfl)).1
        have HYW : Hid (∀ W, Below W7.heap.size W7 W → W.cell? ⟨w.heap.size, 2, none⟩ = some (.slice p.A2 ca.ws.length p.c2)) := Lib.hid fun W hW => by rw [cell_of_row W w.heap.size 2 _ _ _ (HKW.out W hW), HCA.out]; rfl
        have HRE : Hid (Recs W7 p.A2 p.c2 ca.ws winV) := Lib.hid ((HT1.out.more HM7.out.below).c1).ws
        obtain ⟨nn, hnn⟩ : ∃ nn : Int, nn = (ca.ws.length : Int) := ⟨_, rfl⟩
        have HNN := Lib.hid hnn
        have HLN : Hid (ca.ws.length ≤ 1000) := Lib.hid HSM.out.2.ws
        have HTB : Hid (∀ W, Turn (fun _ => False) W7 W → Below W7.heap.size W7 W) := Lib.hid fun W h => h.below (fun _ h => h.elim) (Nat.le_refl _)
        have e8 : W7.cell? ⟨w.heap.size, 2, none⟩ = some (.slice p.A2 ca.ws.length p.c2) := HYW.out W7 (Below.refl _ _)
        clear hnn
        go_upto_if 40 with fail
        go_cut [8] from 8 to 57 (fun _ wx => ∃ A' c' i, Hid (MSt w1 X [(w.heap.size, .cells CA 30)] wx { ca with ps := ca.ps.reverse, rs := ca.rs.reverse, cs := (ca.cs.map revR).reverse, ws := ca.ws.drop i ++ ca.ws.take i } { qx with ch := H.reverse, A2 := A', c2 := c' }))
        case first =>
          by_cases hz : ca.ws.length = 0
          · have hz1 : ¬ (0 : Int) < (ca.ws.length : Int) := by omega
            go_wp2_with fail
            go_meet
            exact ⟨_, _, 0, Lib.hid (by have := HM7.out; (try unfold shufR); rw [List.drop_zero, List.take_zero, List.append_nil]; exact this)⟩
          · have hz1 : (0 : Int) < (ca.ws.length : Int) := by omega
            obtain ⟨m, hm1, hm2⟩ := mod_nat (x := kk) (n := nn) HKB.out.1 (by rw [HNN.out]; exact hz1)
            obtain ⟨mm, hmm⟩ : ∃ mm : Int, mm = (m : Int) := ⟨_, rfl⟩
            rw [← hmm] at hm1
            have hml : m < ca.ws.length := by rw [HNN.out] at hm2; omega
            have HNB : Hid (0 < nn ∧ ¬ nn = 0 ∧ (nn == 0) = false) := Lib.hid (by have h1 : 0 < nn := (by rw [HNN.out]; exact hz1); exact ⟨h1, by omega, by simp; omega⟩)
            have HTM := Lib.hid hm1
            have HMM := Lib.hid hmm
            have HMW : Hid (wrap64 mm = mm ∧ 0 ≤ mm ∧ mm < 1000) := Lib.hid (by have := HLN.out; have h1 : mm < 1000 := (by omega); exact ⟨wrap_small (by omega) (by omega), by omega, h1⟩)
            obtain ⟨AD, hAD⟩ : ∃ AD, AD = if p.c2 = m then p.A2 else p.A2.map (·.add (m * 3)) := ⟨_, rfl⟩
            have hfit := HRE.out.fit
            have HDR : Hid (∀ W, (Instr.slice 26 (.slice p.A2 ca.ws.length p.c2) (some (.int .i64 (m : Int))) none none).run Tryz.prog W = .ok (.slice AD (ca.ws.length - m) (p.c2 - m)) W) := Lib.hid fun W => by rw [hAD]; exact run_dropg elemW eo_W p.A2 ca.ws.length p.c2 m (by omega) W
            have HTK : Hid (∀ W, (Instr.slice 26 (.slice p.A2 ca.ws.length p.c2) none (some (.int .i64 (m : Int))) none).run Tryz.prog W = .ok (.slice p.A2 m p.c2) W) := Lib.hid fun W => run_takeg elemW eo_W p.A2 ca.ws.length p.c2 m (by omega) W
            have HPD : Hid (PartOk W7 3 ⟨AD, ca.ws.length - m, p.c2 - m, (ca.ws.drop m).flatMap winV⟩ ∧ PartOk W7 3 ⟨p.A2, m, p.c2, (ca.ws.take m).flatMap winV⟩) := Lib.hid ⟨by rw [hAD]; exact part_drop HRE.out 3 (fun _ => rfl) winV_c1 (by omega), part_take HRE.out 3 (fun _ => rfl) winV_c1 (by omega)⟩
            have HML := Lib.hid hml
            clear hm1 hm2 hmm hAD hfit hml
            go_wp2_with fail
            refine region_invXL W7 (fun _ => False) 17 [] (by kernel_rfl) [(41, isV (.pointer (some ⟨w.heap.size, 2, none⟩))), (42, isV (.slice p.A2 ca.ws.length p.c2)), (43, isV (.int .u8 kk)), (44, isV (.int .i64 kk)), (45, isV (.int .i64 nn)), (46, isV (.int .i64 mm)), (47, isV (.slice AD (ca.ws.length - m) (p.c2 - m))), (48, isV (.pointer (some ⟨w.heap.size, 2, none⟩))), (49, isV (.slice p.A2 ca.ws.length p.c2)), (50, isV (.int .u8 kk)), (51, isV (.int .i64 kk)), (52, isV (.int .i64 nn)), (53, isV (.int .i64 mm)), (54, isV (.slice p.A2 m p.c2)), (55, isRow W7.heap.size 26 1 2 [(.slice AD (ca.ws.length - m) (p.c2 - m)), (.slice p.A2 m p.c2)]), (56, isRow W7.heap.size 45 3 (ca.ws.length - m + m) ((ca.ws.drop m).flatMap winV ++ (ca.ws.take m).flatMap winV)), (57, isV (.pointer (some ⟨X, 2, none⟩)))] 17 ⟨⟨isV_keeps _, fun _ => isV_x _ _⟩, ⟨isV_keeps _, fun _ => isV_x _ _⟩, ⟨isV_keeps _, fun _ => isV_x _ _⟩, ⟨isV_keeps _, fun _ => isV_x _ _⟩, ⟨isV_keeps _, fun _ => isV_x _ _⟩, ⟨isV_keeps _, fun _ => isV_x _ _⟩, ⟨isV_keeps _, fun _ => isV_x _ _⟩, ⟨isV_keeps _, fun _ => isV_x _ _⟩, ⟨isV_keeps _, fun _ => isV_x _ _⟩, ⟨isV_keeps _, fun _ => isV_x _ _⟩, ⟨isV_keeps _, fun _ => isV_x _ _⟩, ⟨isV_keeps _, fun _ => isV_x _ _⟩, ⟨isV_keeps _, fun _ => isV_x _ _⟩, ⟨isV_keeps _, fun _ => isV_x _ _⟩, ⟨isRow_keeps _ _ _ _ _, fun _ => isRow_x (fun _ h => h.elim) _ _ _ _⟩, ⟨isRow_keeps _ _ _ _ _, fun _ => isRow_x (fun _ h => h.elim) _ _ _ _⟩, ⟨isV_keeps _, fun _ => isV_x _ _⟩, trivial⟩ (by kernel_rfl) ?_ ?_ (by kernel_rfl) (by kernel_rfl) (by kernel_rfl) ?_ ?_
            case refine_1 => exact Turn.of_below (Below.refl _ _).drew
            case refine_2 => exact (Below.refl _ _).drew
            case refine_3 =>
              refine ⟨?_, ?_, ?_, ?_, ?_, ?_, ?_, ?_, ?_, ?_, ?_, ?_, ?_, ?_, ?_, ?_, ?_, trivial⟩
              case refine_1 =>
                refine ⟨_, rfl, Nat.le_of_ble_eq_true rfl, fun listed a W hst hn hdep K hK => ?_⟩
                (have e1 := hst.oldOf hn 2 (by kernel_rfl) rfl; simp only [Array.getD_eq_getD_getElem?] at e1)
                go_simp
                exact hK _ _ (Or.inl (Below.refl _ _)) rfl
              case refine_2 =>
                refine ⟨_, rfl, Nat.le_of_ble_eq_true rfl, fun listed a W hst hn hdep K hK => ?_⟩
                (have dd := dep_of hdep 0 (by kernel_rfl); have e1 : a.tmps[41]?.getD undef = (.pointer (some ⟨w.heap.size, 2, none⟩)) := hst.fact 0 41 (by kernel_rfl) dd; clear dd)
                have y := HYW.out W (HTB.out W hst.glob)
                go_simp
                exact hK _ _ (Or.inl (Below.refl _ _)) rfl
              case refine_3 =>
                refine ⟨_, rfl, Nat.le_of_ble_eq_true rfl, fun listed a W hst hn hdep K hK => ?_⟩
                (have e1 := hst.oldOf hn 1 (by kernel_rfl) rfl; simp only [Array.getD_eq_getD_getElem?] at e1)
                go_simp
                exact hK _ _ (Or.inl (Below.refl _ _)) rfl
              case refine_4 =>
                refine ⟨_, rfl, Nat.le_of_ble_eq_true rfl, fun listed a W hst hn hdep K hK => ?_⟩
                (have dd := dep_of hdep 2 (by kernel_rfl); have e1 : a.tmps[43]?.getD undef = (.int .u8 kk) := hst.fact 2 43 (by kernel_rfl) dd; clear dd)
                have hk0 := HKB.out.1
                have hk1 := HKB.out.2
                have hkw := HKK.out
                go_simp
                exact hK _ _ (Or.inl (Below.refl _ _)) rfl
              case refine_5 =>
                refine ⟨_, rfl, Nat.le_of_ble_eq_true rfl, fun listed a W hst hn hdep K hK => ?_⟩
                (have e1 := hst.oldOf hn 8 (by kernel_rfl) rfl; simp only [Array.getD_eq_getD_getElem?] at e1)
                rw [← HNN.out] at e1
                go_simp
                exact hK _ _ (Or.inl (Below.refl _ _)) rfl
              case refine_6 =>
                refine ⟨_, rfl, Nat.le_of_ble_eq_true rfl, fun listed a W hst hn hdep K hK => ?_⟩
                (have dd := dep_of hdep 3 (by kernel_rfl); have e1 : a.tmps[44]?.getD undef = (.int .i64 kk) := hst.fact 3 44 (by kernel_rfl) dd; clear dd)
                (have dd := dep_of hdep 4 (by kernel_rfl); have e2 : a.tmps[45]?.getD undef = (.int .i64 nn) := hst.fact 4 45 (by kernel_rfl) dd; clear dd)
                have hn0 := HNB.out
                have ht := HTM.out
                have hw := HMW.out
                have hk0 := HKB.out.1
                have hk1 := HKB.out.2
                go_simp
                exact hK _ _ (Or.inl (Below.refl _ _)) rfl
              case refine_7 =>
                refine ⟨_, rfl, Nat.le_of_ble_eq_true rfl, fun listed a W hst hn hdep K hK => ?_⟩
                (have dd := dep_of hdep 1 (by kernel_rfl); have e1 : a.tmps[42]?.getD undef = (.slice p.A2 ca.ws.length p.c2) := hst.fact 1 42 (by kernel_rfl) dd; clear dd)
                (have dd := dep_of hdep 5 (by kernel_rfl); have e2 : a.tmps[46]?.getD undef = (.int .i64 mm) := hst.fact 5 46 (by kernel_rfl) dd; clear dd)
                rw [HMM.out] at e2
                have y := HDR.out W
                go_simp
                exact hK _ _ (Or.inl (Below.refl _ _)) rfl
              case refine_8 =>
                refine ⟨_, rfl, Nat.le_of_ble_eq_true rfl, fun listed a W hst hn hdep K hK => ?_⟩
                (have e1 := hst.oldOf hn 2 (by kernel_rfl) rfl; simp only [Array.getD_eq_getD_getElem?] at e1)
                go_simp
                exact hK _ _ (Or.inl (Below.refl _ _)) rfl
              case refine_9 =>
                refine ⟨_, rfl, Nat.le_of_ble_eq_true rfl, fun listed a W hst hn hdep K hK => ?_⟩
                (have dd := dep_of hdep 7 (by kernel_rfl); have e1 : a.tmps[48]?.getD undef = (.pointer (some ⟨w.heap.size, 2, none⟩)) := hst.fact 7 48 (by kernel_rfl) dd; clear dd)
                have y := HYW.out W (HTB.out W hst.glob)
                go_simp
                exact hK _ _ (Or.inl (Below.refl _ _)) rfl
              case refine_10 =>
                refine ⟨_, rfl, Nat.le_of_ble_eq_true rfl, fun listed a W hst hn hdep K hK => ?_⟩
                (have e1 := hst.oldOf hn 1 (by kernel_rfl) rfl; simp only [Array.getD_eq_getD_getElem?] at e1)
                go_simp
                exact hK _ _ (Or.inl (Below.refl _ _)) rfl
              case refine_11 =>
                refine ⟨_, rfl, Nat.le_of_ble_eq_true rfl, fun listed a W hst hn hdep K hK => ?_⟩
                (have dd := dep_of hdep 9 (by kernel_rfl); have e1 : a.tmps[50]?.getD undef = (.int .u8 kk) := hst.fact 9 50 (by kernel_rfl) dd; clear dd)
                have hk0 := HKB.out.1
                have hk1 := HKB.out.2
                have hkw := HKK.out
                go_simp
                exact hK _ _ (Or.inl (Below.refl _ _)) rfl
              case refine_12 =>
                refine ⟨_, rfl, Nat.le_of_ble_eq_true rfl, fun listed a W hst hn hdep K hK => ?_⟩
                (have e1 := hst.oldOf hn 8 (by kernel_rfl) rfl; simp only [Array.getD_eq_getD_getElem?] at e1)
                rw [← HNN.out] at e1
                go_simp
                exact hK _ _ (Or.inl (Below.refl _ _)) rfl
              case refine_13 =>
                refine ⟨_, rfl, Nat.le_of_ble_eq_true rfl, fun listed a W hst hn hdep K hK => ?_⟩
                (have dd := dep_of hdep 10 (by kernel_rfl); have e1 : a.tmps[51]?.getD undef = (.int .i64 kk) := hst.fact 10 51 (by kernel_rfl) dd; clear dd)
                (have dd := dep_of hdep 11 (by kernel_rfl); have e2 : a.tmps[52]?.getD undef = (.int .i64 nn) := hst.fact 11 52 (by kernel_rfl) dd; clear dd)
                have hn0 := HNB.out
                have ht := HTM.out
                have hw := HMW.out
                have hk0 := HKB.out.1
                have hk1 := HKB.out.2
                go_simp
                exact hK _ _ (Or.inl (Below.refl _ _)) rfl
              case refine_14 =>
                refine ⟨_, rfl, Nat.le_of_ble_eq_true rfl, fun listed a W hst hn hdep K hK => ?_⟩
                (have dd := dep_of hdep 8 (by kernel_rfl); have e1 : a.tmps[49]?.getD undef = (.slice p.A2 ca.ws.length p.c2) := hst.fact 8 49 (by kernel_rfl) dd; clear dd)
                (have dd := dep_of hdep 12 (by kernel_rfl); have e2 : a.tmps[53]?.getD undef = (.int .i64 mm) := hst.fact 12 53 (by kernel_rfl) dd; clear dd)
                rw [HMM.out] at e2
                have y := HTK.out W
                go_simp
                exact hK _ _ (Or.inl (Below.refl _ _)) rfl
              case refine_15 =>
                refine ⟨_, rfl, Nat.le_of_ble_eq_true rfl, fun listed a W hst hn hdep K hK => ?_⟩
                (have dd := dep_of hdep 6 (by kernel_rfl); have e1 : a.tmps[47]?.getD undef = (.slice AD (ca.ws.length - m) (p.c2 - m)) := hst.fact 6 47 (by kernel_rfl) dd; clear dd)
                (have dd := dep_of hdep 13 (by kernel_rfl); have e2 : a.tmps[54]?.getD undef = (.slice p.A2 m p.c2) := hst.fact 13 54 (by kernel_rfl) dd; clear dd)
                have hgs := hst.glob.size
                go_simp
                exact hK _ _ (Or.inl ((Below.refl _ _).alloc (Nat.le_refl _) _)) (OwnC.base (OwnC.lit W 26 1 2 #[(.slice AD (ca.ws.length - m) (p.c2 - m)), (.slice p.A2 m p.c2)] (by unfold maxLen; omega) rfl) hgs)
              case refine_16 =>
                refine ⟨_, rfl, Nat.le_of_ble_eq_true rfl, fun listed a W hst hn hdep K hK => ?_⟩
                (have dd := dep_of hdep 14 (by kernel_rfl); have r1 := hst.fact 14 55 (by kernel_rfl) dd; clear dd)
                have HCAT := Lib.hid (cat2_W (p1 := ⟨AD, ca.ws.length - m, p.c2 - m, (ca.ws.drop m).flatMap winV⟩) (p2 := ⟨p.A2, m, p.c2, (ca.ws.take m).flatMap winV⟩) r1 (HPD.out.1.below (HTB.out W hst.glob)) (HPD.out.2.below (HTB.out W hst.glob)) (by have := HLN.out; have := HML.out; simp only; omega))
                clear r1
                have hgs := hst.glob.size
                go_simp
                generalize a.tmps[55]?.getD undef = v at HCAT ⊢
                go_wp2_with (go_at_call 14; with_reducible refine HCAT.out.mono ?_; rintro e w1 ⟨v', rfl, ho, hb⟩)
                exact hK _ _ (Or.inl hb) (OwnC.base ho hgs)
              case refine_17 =>
                refine ⟨_, rfl, Nat.le_of_ble_eq_true rfl, fun listed a W hst hn hdep K hK => ?_⟩
                (have e1 := hst.oldOf hn 5 (by kernel_rfl) rfl; simp only [Array.getD_eq_getD_getElem?] at e1)
                go_simp
                exact hK _ _ (Or.inl (Below.refl _ _)) rfl
            case refine_4 =>
              intro ok listed a' W ho hst hn hall K hK
              obtain ⟨f, hfd, hf⟩ := hst.frameR [(41, 57)] (by kernel_rfl)
              have f1 : OwnC W W7.heap.size 45 3 _ (ca.ws.length - m + m) _ := hst.fact 15 56 (by kernel_rfl) (hall 15 (Nat.le_of_ble_eq_true rfl) (by omega))
              have f2 : a'.tmps[57]?.getD undef = (.pointer (some ⟨X, 2, none⟩)) := hst.fact 16 57 (by kernel_rfl) (hall 16 (Nat.le_of_ble_eq_true rfl) (by omega))
              obtain ⟨av, hav⟩ : ∃ av, a'.tmps[56]?.getD undef = av := ⟨_, rfl⟩
              rw [hav] at f1
              have hdf : a'.defers = [] := hst.defers
              have hbl := HTB.out W hst.glob
              obtain rfl : _ = ok := by injection ho
              clear hst hall hn hfd ho
              have hmore := HM7.out.more hbl
              obtain ⟨A9, c9, rfl, -⟩ := f1.cells
              have hMS : MSt w1 X [(w.heap.size, .cells CA 30)] (W.setCell ⟨X, 2, none⟩ (.slice A9 (ca.ws.length - m + m) c9)) { ca with ps := ca.ps.reverse, rs := ca.rs.reverse, cs := (ca.cs.map revR).reverse, ws := ca.ws.drop m ++ ca.ws.take m } { qx with ch := H.reverse, A2 := A9, c2 := c9 } := by
                have e1 : ca.ws.length - m + m = (ca.ws.drop m ++ ca.ws.take m).length := by rw [(rot_perm ca.ws m).length_eq]; have := HML.out; omega
                rw [e1] at f1 ⊢
                rw [← List.flatMap_append] at f1
                exact HM7.out.setw hbl f1
              have HMS := Lib.hid hMS
              refine sec_store rfl 26 57 56 rfl rfl X 2 _ _ f2 hav rfl (hmore.cell 2) (frozen_of_row _ _ _ _ _ hmore.all) (by kernel_rfl) ?_
              refine hK _ _ ?_
              clear f1 f2 hav hmore hMS hbl hK
              generalize W.setCell ⟨X, 2, none⟩ (.slice A9 (ca.ws.length - m + m) c9) = W9 at HMS ⊢
              obtain ⟨tm, df⟩ := a'
              obtain rfl : df = [] := hdf
              simp only [updR, List.any_cons, List.any_nil, Nat.reduceAdd, Nat.reduceLeDiff, decide_true, decide_false, Bool.and_true, Bool.and_false, Bool.or_false, if_true, if_false, Bool.false_eq_true] at hf
              have hf' : tm = _ := hf
              subst hf'
              clear hf
              go_wp2_with fail
              go_meet
              exact ⟨A9, c9, m, HMS⟩
        case rest =>
          obtain ⟨A2, c2, i1, hst⟩ := hcut
          obtain ⟨wa, rfl⟩ : ∃ wa, wa = wc := ⟨_, rfl⟩
          have HM8 : Hid (MSt w1 X [(w.heap.size, .cells CA 30)] wa { ca with ps := ca.ps.reverse, rs := ca.rs.reverse, cs := (ca.cs.map revR).reverse, ws := ca.ws.drop i1 ++ ca.ws.take i1 } { qx with ch := H.reverse, A2 := A2, c2 := c2 }) := hst
          clear hst
          have HKW : Hid (∀ W, Below wa.heap.size wa W → W.heap[w.heap.size]? = some (.cells CA 30)) := Lib.hid fun W hW => ((HM8.out.more hW).keep _ (List.mem_singleton.2 rfl)).1
          have HYW : Hid (∀ W, Below wa.heap.size wa W → W.cell? ⟨w.heap.size, 4, none⟩ = some (.slice p.A4 ca.ts.length p.c4)) := Lib.hid fun W hW => by rw [cell_of_row W w.heap.size 4 _ _ _ (HKW.out W hW), HCA.out]; rfl
          have HRE : Hid (Recs wa p.A4 p.c4 ca.ts portV) := Lib.hid ((HT1.out.more HM8.out.below).c1).ts
          obtain ⟨nn, hnn⟩ : ∃ nn : Int, nn = (ca.ts.length : Int) := ⟨_, rfl⟩
          have HNN := Lib.hid hnn
          have HLN : Hid (ca.ts.length ≤ 1000) := Lib.hid HSM.out.2.ts
          have HTB : Hid (∀ W, Turn (fun _ => False) wa W → Below wa.heap.size wa W) := Lib.hid fun W h => h.below (fun _ h => h.elim) (Nat.le_refl _)
          have e8 : wa.cell? ⟨w.heap.size, 4, none⟩ = some (.slice p.A4 ca.ts.length p.c4) := HYW.out wa (Below.refl _ _)
          clear hnn
          go_upto_if 62 with fail
          go_cut [9] from 9 to 79 (fun _ wx => ∃ A' c' i, Hid (MSt w1 X [(w.heap.size, .cells CA 30)] wx (shufR ca i1 i) { qx with ch := H.reverse, A2 := A2, c2 := c2, A4 := A', c4 := c' }))
          case first =>
            by_cases hz : ca.ts.length = 0
            · have hz1 : ¬ (0 : Int) < (ca.ts.length : Int) := by omega
              go_wp2_with fail
              go_meet
              exact ⟨_, _, 0, Lib.hid (by have := HM8.out; (try unfold shufR); rw [List.drop_zero, List.take_zero, List.append_nil]; exact this)⟩
            · have hz1 : (0 : Int) < (ca.ts.length : Int) := by omega
              obtain ⟨m, hm1, hm2⟩ := mod_nat (x := kk) (n := nn) HKB.out.1 (by rw [HNN.out]; exact hz1)
              obtain ⟨mm, hmm⟩ : ∃ mm : Int, mm = (m : Int) := ⟨_, rfl⟩
              rw [← hmm] at hm1
              have hml : m < ca.ts.length := by rw [HNN.out] at hm2; omega
              have HNB : Hid (0 < nn ∧ ¬ nn = 0 ∧ (nn == 0) = false) := Lib.hid (by have h1 : 0 < nn := (by rw [HNN.out]; exact hz1); exact ⟨h1, by omega, by simp; omega⟩)
              have HTM := Lib.hid hm1
              have HMM := Lib.hid hmm
              have HMW : Hid (wrap64 mm = mm ∧ 0 ≤ mm ∧ mm < 1000) := Lib.hid (by have := HLN.out; have h1 : mm < 1000 := (by omega); exact ⟨wrap_small (by omega) (by omega), by omega, h1⟩)
              obtain ⟨AD, hAD⟩ : ∃ AD, AD = if p.c4 = m then p.A4 else p.A4.map (·.add (m * 6)) := ⟨_, rfl⟩
              have hfit := HRE.out.fit
              have HDR : Hid (∀ W, (Instr.slice 24 (.slice p.A4 ca.ts.length p.c4) (some (.int .i64 (m : Int))) none none).run Tryz.prog W = .ok (.slice AD (ca.ts.length - m) (p.c4 - m)) W) := Lib.hid fun W => by rw [hAD]; exact run_dropg elemT eo_T p.A4 ca.ts.length p.c4 m (by omega) W
              have HTK : Hid (∀ W, (Instr.slice 24 (.slice p.A4 ca.ts.length p.c4) none (some (.int .i64 (m : Int))) none).run Tryz.prog W = .ok (.slice p.A4 m p.c4) W) := Lib.hid fun W => run_takeg elemT eo_T p.A4 ca.ts.length p.c4 m (by omega) W
              have HPD : Hid (PartOk wa 6 ⟨AD, ca.ts.length - m, p.c4 - m, (ca.ts.drop m).flatMap portV⟩ ∧ PartOk wa 6 ⟨p.A4, m, p.c4, (ca.ts.take m).flatMap portV⟩) := Lib.hid ⟨by rw [hAD]; exact part_drop HRE.out 6 (fun _ => rfl) portV_c1 (by omega), part_take HRE.out 6 (fun _ => rfl) portV_c1 (by omega)⟩
              have HML := Lib.hid hml
              clear hm1 hm2 hmm hAD hfit hml
              go_wp2_with fail
              refine region_invXL wa (fun _ => False) 17 [] (by kernel_rfl) [(63, isV (.pointer (some ⟨w.heap.size, 4, none⟩))), (64, isV (.slice p.A4 ca.ts.length p.c4)), (65, isV (.int .u8 kk)), (66, isV (.int .i64 kk)), (67, isV (.int .i64 nn)), (68, isV (.int .i64 mm)), (69, isV (.slice AD (ca.ts.length - m) (p.c4 - m))), (70, isV (.pointer (some ⟨w.heap.size, 4, none⟩))), (71, isV (.slice p.A4 ca.ts.length p.c4)), (72, isV (.int .u8 kk)), (73, isV (.int .i64 kk)), (74, isV (.int .i64 nn)), (75, isV (.int .i64 mm)), (76, isV (.slice p.A4 m p.c4)), (77, isRow wa.heap.size 24 1 2 [(.slice AD (ca.ts.length - m) (p.c4 - m)), (.slice p.A4 m p.c4)]), (78, isRow wa.heap.size 39 6 (ca.ts.length - m + m) ((ca.ts.drop m).flatMap portV ++ (ca.ts.take m).flatMap portV)), (79, isV (.pointer (some ⟨X, 4, none⟩)))] 17 ⟨⟨isV_keeps _, fun _ => isV_x _ _⟩, ⟨isV_keeps _, fun _ => isV_x _ _⟩, ⟨isV_keeps _, fun _ => isV_x _ _⟩, ⟨isV_keeps _, fun _ => isV_x _ _⟩, ⟨isV_keeps _, fun _ => isV_x _ _⟩, ⟨isV_keeps _, fun _ => isV_x _ _⟩, ⟨isV_keeps _, fun _ => isV_x _ _⟩, ⟨isV_keeps _, fun _ => isV_x _ _⟩, ⟨isV_keeps _, fun _ => isV_x _ _⟩, ⟨isV_keeps _, fun _ => isV_x _ _⟩, ⟨isV_keeps _, fun _ => isV_x _ _⟩, ⟨isV_keeps _, fun _ => isV_x _ _⟩, ⟨isV_keeps _, fun _ => isV_x _ _⟩, ⟨isV_keeps _, fun _ => isV_x _ _⟩, ⟨isRow_keeps _ _ _ _ _, fun _ => isRow_x (fun _ h => h.elim) _ _ _ _⟩, ⟨isRow_keeps _ _ _ _ _, fun _ => isRow_x (fun _ h => h.elim) _ _ _ _⟩, ⟨isV_keeps _, fun _ => isV_x _ _⟩, trivial⟩ (by kernel_rfl) ?_ ?_ (by kernel_rfl) (by kernel_rfl) (by kernel_rfl) ?_ ?_
              case refine_1 => exact Turn.of_below (Below.refl _ _).drew
              case refine_2 => exact (Below.refl _ _).drew
              case refine_3 =>
                refine ⟨?_, ?_, ?_, ?_, ?_, ?_, ?_, ?_, ?_, ?_, ?_, ?_, ?_, ?_, ?_, ?_, ?_, trivial⟩
                case refine_1 =>
                  refine ⟨_, rfl, Nat.le_of_ble_eq_true rfl, fun listed a W hst hn hdep K hK => ?_⟩
                  (have e1 := hst.oldOf hn 2 (by kernel_rfl) rfl; simp only [Array.getD_eq_getD_getElem?] at e1)
                  go_simp
                  exact hK _ _ (Or.inl (Below.refl _ _)) rfl
                case refine_2 =>
                  refine ⟨_, rfl, Nat.le_of_ble_eq_true rfl, fun listed a W hst hn hdep K hK => ?_⟩
                  (have dd := dep_of hdep 0 (by kernel_rfl); have e1 : a.tmps[63]?.getD undef = (.pointer (some ⟨w.heap.size, 4, none⟩)) := hst.fact 0 63 (by kernel_rfl) dd; clear dd)
                  have y := HYW.out W (HTB.out W hst.glob)
                  go_simp
                  exact hK _ _ (Or.inl (Below.refl _ _)) rfl
                case refine_3 =>
                  refine ⟨_, rfl, Nat.le_of_ble_eq_true rfl, fun listed a W hst hn hdep K hK => ?_⟩
                  (have e1 := hst.oldOf hn 1 (by kernel_rfl) rfl; simp only [Array.getD_eq_getD_getElem?] at e1)
                  go_simp
                  exact hK _ _ (Or.inl (Below.refl _ _)) rfl
                case refine_4 =>
                  refine ⟨_, rfl, Nat.le_of_ble_eq_true rfl, fun listed a W hst hn hdep K hK => ?_⟩
                  (have dd := dep_of hdep 2 (by kernel_rfl); have e1 : a.tmps[65]?.getD undef = (.int .u8 kk) := hst.fact 2 65 (by kernel_rfl) dd; clear dd)
                  have hk0 := HKB.out.1
                  have hk1 := HKB.out.2
                  have hkw := HKK.out
                  go_simp
                  exact hK _ _ (Or.inl (Below.refl _ _)) rfl
                case refine_5 =>
                  refine ⟨_, rfl, Nat.le_of_ble_eq_true rfl, fun listed a W hst hn hdep K hK => ?_⟩
                  (have e1 := hst.oldOf hn 9 (by kernel_rfl) rfl; simp only [Array.getD_eq_getD_getElem?] at e1)
                  rw [← HNN.out] at e1
                  go_simp
                  exact hK _ _ (Or.inl (Below.refl _ _)) rfl
                case refine_6 =>
                  refine ⟨_, rfl, Nat.le_of_ble_eq_true rfl, fun listed a W hst hn hdep K hK => ?_⟩
                  (have dd := dep_of hdep 3 (by kernel_rfl); have e1 : a.tmps[66]?.getD undef = (.int .i64 kk) := hst.fact 3 66 (by kernel_rfl) dd; clear dd)
                  (have dd := dep_of hdep 4 (by kernel_rfl); have e2 : a.tmps[67]?.getD undef = (.int .i64 nn) := hst.fact 4 67 (by kernel_rfl) dd; clear dd)
                  have hn0 := HNB.out
                  have ht := HTM.out
                  have hw := HMW.out
                  have hk0 := HKB.out.1
                  have hk1 := HKB.out.2
                  go_simp
                  exact hK _ _ (Or.inl (Below.refl _ _)) rfl
                case refine_7 =>
                  refine ⟨_, rfl, Nat.le_of_ble_eq_true rfl, fun listed a W hst hn hdep K hK => ?_⟩
                  (have dd := dep_of hdep 1 (by kernel_rfl); have e1 : a.tmps[64]?.getD undef = (.slice p.A4 ca.ts.length p.c4) := hst.fact 1 64 (by kernel_rfl) dd; clear dd)
                  (have dd := dep_of hdep 5 (by kernel_rfl); have e2 : a.tmps[68]?.getD undef = (.int .i64 mm) := hst.fact 5 68 (by kernel_rfl) dd; clear dd)
                  rw [HMM.out] at e2
                  have y := HDR.out W
                  go_simp
                  exact hK _ _ (Or.inl (Below.refl _ _)) rfl
                case refine_8 =>
                  refine ⟨_, rfl, Nat.le_of_ble_eq_true rfl, fun listed a W hst hn hdep K hK => ?_⟩
                  (have e1 := hst.oldOf hn 2 (by kernel_rfl) rfl; simp only [Array.getD_eq_getD_getElem?] at e1)
                  go_simp
                  exact hK _ _ (Or.inl (Below.refl _ _)) rfl
                case refine_9 =>
                  refine ⟨_, rfl, Nat.le_of_ble_eq_true rfl, fun listed a W hst hn hdep K hK => ?_⟩
                  (have dd := dep_of hdep 7 (by kernel_rfl); have e1 : a.tmps[70]?.getD undef = (.pointer (some ⟨w.heap.size, 4, none⟩)) := hst.fact 7 70 (by kernel_rfl) dd; clear dd)
                  have y := HYW.out W (HTB.out W hst.glob)
                  go_simp
                  exact hK _ _ (Or.inl (Below.refl _ _)) rfl
                case refine_10 =>
                  refine ⟨_, rfl, Nat.le_of_ble_eq_true rfl, fun listed a W hst hn hdep K hK => ?_⟩
                  (have e1 := hst.oldOf hn 1 (by kernel_rfl) rfl; simp only [Array.getD_eq_getD_getElem?] at e1)
                  go_simp
                  exact hK _ _ (Or.inl (Below.refl _ _)) rfl
                case refine_11 =>
                  refine ⟨_, rfl, Nat.le_of_ble_eq_true rfl, fun listed a W hst hn hdep K hK => ?_⟩
                  (have dd := dep_of hdep 9 (by kernel_rfl); have e1 : a.tmps[72]?.getD undef = (.int .u8 kk) := hst.fact 9 72 (by kernel_rfl) dd; clear dd)
                  have hk0 := HKB.out.1
                  have hk1 := HKB.out.2
                  have hkw := HKK.out
                  go_simp
                  exact hK _ _ (Or.inl (Below.refl _ _)) rfl
                case refine_12 =>
                  refine ⟨_, rfl, Nat.le_of_ble_eq_true rfl, fun listed a W hst hn hdep K hK => ?_⟩
                  (have e1 := hst.oldOf hn 9 (by kernel_rfl) rfl; simp only [Array.getD_eq_getD_getElem?] at e1)
                  rw [← HNN.out] at e1
                  go_simp
                  exact hK _ _ (Or.inl (Below.refl _ _)) rfl
                case refine_13 =>
                  refine ⟨_, rfl, Nat.le_of_ble_eq_true rfl, fun listed a W hst hn hdep K hK => ?_⟩
                  (have dd := dep_of hdep 10 (by kernel_rfl); have e1 : a.tmps[73]?.getD undef = (.int .i64 kk) := hst.fact 10 73 (by kernel_rfl) dd; clear dd)
                  (have dd := dep_of hdep 11 (by kernel_rfl); have e2 : a.tmps[74]?.getD undef = (.int .i64 nn) := hst.fact 11 74 (by kernel_rfl) dd; clear dd)
                  have hn0 := HNB.out
                  have ht := HTM.out
                  have hw := HMW.out
                  have hk0 := HKB.out.1
                  have hk1 := HKB.out.2
                  go_simp
                  exact hK _ _ (Or.inl (Below.refl _ _)) rfl
                case refine_14 =>
                  refine ⟨_, rfl, Nat.le_of_ble_eq_true rfl, fun listed a W hst hn hdep K hK => ?_⟩
                  (have dd := dep_of hdep 8 (by kernel_rfl); have e1 : a.tmps[71]?.getD undef = (.slice p.A4 ca.ts.length p.c4) := hst.fact 8 71 (by kernel_rfl) dd; clear dd)
                  (have dd := dep_of hdep 12 (by kernel_rfl); have e2 : a.tmps[75]?.getD undef = (.int .i64 mm) := hst.fact 12 75 (by kernel_rfl) dd; clear dd)
                  rw [HMM.out] at e2
                  have y := HTK.out W
                  go_simp
                  exact hK _ _ (Or.inl (Below.refl _ _)) rfl
                case refine_15 =>
                  refine ⟨_, rfl, Nat.le_of_ble_eq_true rfl, fun listed a W hst hn hdep K hK => ?_⟩
                  (have dd := dep_of hdep 6 (by kernel_rfl); have e1 : a.tmps[69]?.getD undef = (.slice AD (ca.ts.length - m) (p.c4 - m)) := hst.fact 6 69 (by kernel_rfl) dd; clear dd)
                  (have dd := dep_of hdep 13 (by kernel_rfl); have e2 : a.tmps[76]?.getD undef = (.slice p.A4 m p.c4) := hst.fact 13 76 (by kernel_rfl) dd; clear dd)
                  have hgs := hst.glob.size
                  go_simp
                  exact hK _ _ (Or.inl ((Below.refl _ _).alloc (Nat.le_refl _) _)) (OwnC.base (OwnC.lit W 24 1 2 #[(.slice AD (ca.ts.length - m) (p.c4 - m)), (.slice p.A4 m p.c4)] (by unfold maxLen; omega) rfl) hgs)
                case refine_16 =>
                  refine ⟨_, rfl, Nat.le_of_ble_eq_true rfl, fun listed a W hst hn hdep K hK => ?_⟩
                  (have dd := dep_of hdep 14 (by kernel_rfl); have r1 := hst.fact 14 77 (by kernel_rfl) dd; clear dd)
                  have HCAT := Lib.hid (cat2_T (p1 := ⟨AD, ca.ts.length - m, p.c4 - m, (ca.ts.drop m).flatMap portV⟩) (p2 := ⟨p.A4, m, p.c4, (ca.ts.take m).flatMap portV⟩) r1 (HPD.out.1.below (HTB.out W hst.glob)) (HPD.out.2.below (HTB.out W hst.glob)) (by have := HLN.out; have := HML.out; simp only; omega))
                  clear r1
                  have hgs := hst.glob.size
                  go_simp
                  generalize a.tmps[77]?.getD undef = v at HCAT ⊢
                  go_wp2_with (go_at_call 15; with_reducible refine HCAT.out.mono ?_; rintro e w1 ⟨v', rfl, ho, hb⟩)
                  exact hK _ _ (Or.inl hb) (OwnC.base ho hgs)
                case refine_17 =>
                  refine ⟨_, rfl, Nat.le_of_ble_eq_true rfl, fun listed a W hst hn hdep K hK => ?_⟩
                  (have e1 := hst.oldOf hn 5 (by kernel_rfl) rfl; simp only [Array.getD_eq_getD_getElem?] at e1)
                  go_simp
                  exact hK _ _ (Or.inl (Below.refl _ _)) rfl
              case refine_4 =>
                intro ok listed a' W ho hst hn hall K hK
                obtain ⟨f, hfd, hf⟩ := hst.frameR [(63, 79)] (by kernel_rfl)
                have f1 : OwnC W wa.heap.size 39 6 _ (ca.ts.length - m + m) _ := hst.fact 15 78 (by kernel_rfl) (hall 15 (Nat.le_of_ble_eq_true rfl) (by omega))
                have f2 : a'.tmps[79]?.getD undef = (.pointer (some ⟨X, 4, none⟩)) := hst.fact 16 79 (by kernel_rfl) (hall 16 (Nat.le_of_ble_eq_true rfl) (by omega))
                obtain ⟨av, hav⟩ : ∃ av, a'.tmps[78]?.getD undef = av := ⟨_, rfl⟩
                rw [hav] at f1
                have hdf : a'.defers = [] := hst.defers
                have hbl := HTB.out W hst.glob
                obtain rfl : _ = ok := by injection ho
                clear hst hall hn hfd ho
                have hmore := HM8.out.more hbl
                obtain ⟨A9, c9, rfl, -⟩ := f1.cells
                have hMS : MSt w1 X [(w.heap.size, .cells CA 30)] (W.setCell ⟨X, 4, none⟩ (.slice A9 (ca.ts.length - m + m) c9)) (shufR ca i1 m) { qx with ch := H.reverse, A2 := A2, c2 := c2, A4 := A9, c4 := c9 } := by
                  have e1 : ca.ts.length - m + m = (ca.ts.drop m ++ ca.ts.take m).length := by rw [(rot_perm ca.ts m).length_eq]; have := HML.out; omega
                  rw [e1] at f1 ⊢
                  rw [← List.flatMap_append] at f1
                  exact HM8.out.sett hbl f1
                have HMS := Lib.hid hMS
                refine sec_store rfl 24 79 78 rfl rfl X 4 _ _ f2 hav rfl (hmore.cell 4) (frozen_of_row _ _ _ _ _ hmore.all) (by kernel_rfl) ?_
                refine hK _ _ ?_
                clear f1 f2 hav hmore hMS hbl hK
                generalize W.setCell ⟨X, 4, none⟩ (.slice A9 (ca.ts.length - m + m) c9) = W9 at HMS ⊢
                obtain ⟨tm, df⟩ := a'
                obtain rfl : df = [] := hdf
                simp only [updR, List.any_cons, List.any_nil, Nat.reduceAdd, Nat.reduceLeDiff, decide_true, decide_false, Bool.and_true, Bool.and_false, Bool.or_false, if_true, if_false, Bool.false_eq_true] at hf
                have hf' : tm = _ := hf
                subst hf'
                clear hf
                go_wp2_with fail
                go_meet
                exact ⟨A9, c9, m, HMS⟩
          case rest =>
            obtain ⟨A4, c4, j1, hst⟩ := hcut
            obtain ⟨wb, rfl⟩ : ∃ wb, wb = wc := ⟨_, rfl⟩
            obtain ⟨qz, hqz⟩ : ∃ qz : CfgQ, qz = { qx with ch := H.reverse, A2 := A2, c2 := c2, A4 := A4, c4 := c4 } := ⟨_, rfl⟩
            have HM9 : Hid (MSt w1 X [(w.heap.size, .cells CA 30)] wb (shufR ca i1 j1) qz) := by rw [hqz]; exact hst
            clear hst hqz HM8
            obtain ⟨CX, hCX⟩ : ∃ CX, CX = cfgA (shufR ca i1 j1) qz := ⟨_, rfl⟩
            have HZX : Hid (CX.size = 6) := Lib.hid (by rw [hCX]; rfl)
            have HRX : Hid (∀ W, Below wb.heap.size wb W → W.heap[X]? = some (.cells CX 30)) := Lib.hid fun W hW => by rw [hCX]; exact (HM9.out.more hW).all
            have HRA : Hid (∀ W, Below wb.heap.size wb W → W.heap[w.heap.size]? = some (.cells CA 30)) := Lib.hid fun W hW => ((HM9.out.more hW).keep _ (List.mem_singleton.2 rfl)).1
            have HIX : Hid (∀ W, Below wb.heap.size wb W → CfgIn W (shufR ca i1 j1) qz) := Lib.hid fun W hW => (HM9.out.more hW).own.cfg (shuf_nums HOA.out i1 j1) (shuf_small HSM.out.2 i1 j1) (by omega)
            have HIA : Hid (∀ W, Below wb.heap.size wb W → CfgIn W ca p) := Lib.hid fun W hW => ((HT1.out.more HM9.out.below).more hW).c1
            have HNX : Hid (∀ W, Below wb.heap.size wb W → Calls Tryz.prog 17 #[.agg CX] W fun e w' => ∃ nn q9, e = .returned (cfgV nn q9) ∧ NormOf ca nn ∧ CfgIn w' nn q9 ∧ Below W.heap.size W w') := Lib.hid fun W hW => by
              rw [hCX]
              refine (normal_ok _ qz W (HIX.out W hW) (shuf_small HSM.out.2 i1 j1) (Or.inr sortU16)).mono ?_
              rintro e w' ⟨nn, hn9, q9, rfl, ho9, hb9⟩
              exact ⟨nn, q9, rfl, (shuf_of ca i1 j1).norm hn9, ho9.cfg (hn9.nums (shuf_nums HOA.out i1 j1)) (hn9.small (shuf_small HSM.out.2 i1 j1)) (by omega), hb9⟩
            have HNC : Hid (∀ W, Below wb.heap.size wb W → Calls Tryz.prog 17 #[.agg CA] W fun e w' => ∃ nn q9, e = .returned (cfgV nn q9) ∧ NormOf ca nn ∧ CfgIn w' nn q9 ∧ Below W.heap.size W w') := Lib.hid fun W hW => by
              rw [HCA.out]
              refine (normal_ok ca p W (HIA.out W hW) HSM.out.2 (Or.inr sortU16)).mono ?_
              rintro e w' ⟨nn, hn9, q9, rfl, ho9, hb9⟩
              exact ⟨nn, q9, rfl, hn9, ho9.cfg (hn9.nums HOA.out) (hn9.small HSM.out.2) (by omega), hb9⟩
            have HNR : Hid (∀ W, Below wb.heap.size wb W → Calls Tryz.prog 18 #[.agg CA] W fun e w' => ∃ nn q9, e = .returned (cfgV nn q9) ∧ NormOf ca nn ∧ CfgIn w' nn q9 ∧ Below W.heap.size W w') := Lib.hid fun W hW => by
              rw [HCA.out]
              exact rnormal_ok ca p W (HIA.out W hW) HSM.out.1
            have HS1 : Hid (∀ W na nb qa qb, NormOf ca na → NormOf ca nb → CfgIn W na qa → CfgIn W nb qb → Calls Tryz.prog 16 #[cfgV na qa, cfgV nb qb] W fun e w' => e = .returned (.bool true) ∧ Below W.heap.size W w') := Lib.hid fun W na nb qa qb ha hb hia hib => (same_ok na nb qa qb W hia hib (short_norm ha HSM.out.1) (short_norm hb HSM.out.1)).mono fun e w' h => ⟨by rw [h.1, sameV_refl (ha.same hb)], h.2⟩
            have HS2 : Hid (∀ W na nb qa qb, NormOf ca na → NormOf ca nb → CfgIn W na qa → CfgIn W nb qb → Calls Tryz.prog 19 #[cfgV na qa, cfgV nb qb] W fun e w' => e = .returned (.bool true) ∧ Below W.heap.size W w') := Lib.hid fun W na nb qa qb ha hb hia hib => (psame_ok na nb qa qb W hia hib (short_norm ha HSM.out.1).ds (short_norm hb HSM.out.1).ds).mono fun e w' h => ⟨by rw [h.1, sameV_refl (ha.same hb)], h.2.1⟩
            have HBE : Hid (∀ W, Below wb.heap.size wb W → Below w.heap.size w W) := Lib.hid fun W hW => ((HT1.out.more HM9.out.below).more hW).below
            clear hCX HM9
            go_upto_region 18 with fail
            refine region_invP wb [(80, isV (.bool true)), (81, isV (.bool true)), (82, isV (.agg CX)), (83, isNN ca), (84, isV (.agg CA)), (85, isNN ca), (86, isV (.bool true)), (87, isV (.bool true)), (88, isV (.bool true)), (89, isV (.agg CX)), (90, isNN ca), (91, isV (.agg CA)), (92, isNN ca), (93, isV (.bool true)), (94, isV (.bool true)), (4, isV (.bool true))] ⟨isV_keeps _, isV_keeps _, isV_keeps _, isNN_keeps _, isV_keeps _, isNN_keeps _, isV_keeps _, isV_keeps _, isV_keeps _, isV_keeps _, isNN_keeps _, isV_keeps _, isNN_keeps _, isV_keeps _, isV_keeps _, isV_keeps _, trivial⟩ (by kernel_rfl) ?_ (by kernel_rfl) ?_ ?_
            case refine_1 => exact (Below.refl _ _).drew
            case refine_2 =>
              refine ⟨?_, ?_, ?_, ?_, ?_, ?_, ?_, ?_, ?_, ?_, ?_, ?_, ?_, ?_, ?_, ?_, trivial⟩
              case refine_1 =>
                refine ⟨_, rfl, Nat.le_of_ble_eq_true rfl, fun listed a W hst hn hdep K hK => ?_⟩
                go_simp
                go_wp2_with (go_at_call 7; with_reducible refine (HAL.out W).mono ?_; rintro e w1 ⟨rfl, hb⟩)
                exact hK _ _ hb rfl
              case refine_2 =>
                (refine ⟨_, rfl, Nat.le_of_ble_eq_true rfl, fun listed a W hst hn hdep K hK => ?_⟩; have dd := dep_of hdep 0 (by kernel_rfl); have e1 : a.tmps[80]?.getD undef = (.bool true) := hst.fact 0 80 (by kernel_rfl) dd; clear dd; go_simp; exact hK _ _ (Below.refl _ _) rfl)
              case refine_3 =>
                refine ⟨_, rfl, Nat.le_of_ble_eq_true rfl, fun listed a W hst hn hdep K hK => ?_⟩
                (have dd := dep_of hdep 1 (by kernel_rfl); have g1 : a.tmps[81]?.getD undef = (.bool true) := hst.fact 1 81 (by kernel_rfl) dd; clear dd)
                have g2 := getD_bool g1
                (have e1 := hst.oldOf hn 5 (by kernel_rfl) rfl; simp only [Array.getD_eq_getD_getElem?] at e1)
                refine inv_cfg (by simp [Region.wanted, yielded, g2]) (.tmp 5) rfl X ((eval_tmp a 5).trans e1) CX HZX.out (HRX.out W hst.glob) ?_
                exact hK _ _ (Below.refl _ _) rfl
              case refine_4 =>
                refine ⟨_, rfl, Nat.le_of_ble_eq_true rfl, fun listed a W hst hn hdep K hK => ?_⟩
                (have dd := dep_of hdep 1 (by kernel_rfl); have g1 : a.tmps[81]?.getD undef = (.bool true) := hst.fact 1 81 (by kernel_rfl) dd; clear dd)
                have g2 := getD_bool g1
                (have dd := dep_of hdep 2 (by kernel_rfl); have e1 : a.tmps[82]?.getD undef = (.agg CX) := hst.fact 2 82 (by kernel_rfl) dd; clear dd)
                go_simp
                go_wp2_with (go_at_call 17; with_reducible refine (HNX.out W hst.glob).mono ?_; rintro e w1 ⟨nn, q9, rfl, hn9, hi9, hb⟩)
                exact hK _ _ hb ⟨nn, q9, rfl, hn9, hi9⟩
              case refine_5 =>
                refine ⟨_, rfl, Nat.le_of_ble_eq_true rfl, fun listed a W hst hn hdep K hK => ?_⟩
                (have dd := dep_of hdep 1 (by kernel_rfl); have g1 : a.tmps[81]?.getD undef = (.bool true) := hst.fact 1 81 (by kernel_rfl) dd; clear dd)
                have g2 := getD_bool g1
                (have e1 := hst.oldOf hn 2 (by kernel_rfl) rfl; simp only [Array.getD_eq_getD_getElem?] at e1)
                refine inv_cfg (by simp [Region.wanted, yielded, g2]) (.tmp 2) rfl w.heap.size ((eval_tmp a 2).trans e1) CA HZ1.out (HRA.out W hst.glob) ?_
                exact hK _ _ (Below.refl _ _) rfl
              case refine_6 =>
                refine ⟨_, rfl, Nat.le_of_ble_eq_true rfl, fun listed a W hst hn hdep K hK => ?_⟩
                (have dd := dep_of hdep 1 (by kernel_rfl); have g1 : a.tmps[81]?.getD undef = (.bool true) := hst.fact 1 81 (by kernel_rfl) dd; clear dd)
                have g2 := getD_bool g1
                (have dd := dep_of hdep 4 (by kernel_rfl); have e1 : a.tmps[84]?.getD undef = (.agg CA) := hst.fact 4 84 (by kernel_rfl) dd; clear dd)
                go_simp
                go_wp2_with (go_at_call 18; with_reducible refine (HNR.out W hst.glob).mono ?_; rintro e w1 ⟨nn, q9, rfl, hn9, hi9, hb⟩)
                exact hK _ _ hb ⟨nn, q9, rfl, hn9, hi9⟩
              case refine_7 =>
                refine ⟨_, rfl, Nat.le_of_ble_eq_true rfl, fun listed a W hst hn hdep K hK => ?_⟩
                (have dd := dep_of hdep 1 (by kernel_rfl); have g1 : a.tmps[81]?.getD undef = (.bool true) := hst.fact 1 81 (by kernel_rfl) dd; clear dd)
                have g2 := getD_bool g1
                (have dd := dep_of hdep 3 (by kernel_rfl); have r1 := hst.fact 3 83 (by kernel_rfl) dd; clear dd)
                (have dd := dep_of hdep 5 (by kernel_rfl); have r2 := hst.fact 5 85 (by kernel_rfl) dd; clear dd)
                obtain ⟨na, qa, ha1, ha2, ha3⟩ := r1
                obtain ⟨nb, qb, hb1, hb2, hb3⟩ := r2
                have HSMX := Lib.hid (HS1.out W na nb qa qb ha2 hb2 ha3 hb3)
                clear ha2 hb2 ha3 hb3
                go_simp
                go_wp2_with (go_at_call 16; with_reducible refine HSMX.out.mono ?_; rintro e w1 ⟨rfl, hb⟩)
                exact hK _ _ hb rfl
              case refine_8 =>
                refine ⟨_, rfl, Nat.le_of_ble_eq_true rfl, fun listed a W hst hn hdep K hK => ?_⟩
                (have dd := dep_of hdep 1 (by kernel_rfl); have e1 : a.tmps[81]?.getD undef = (.bool true) := hst.fact 1 81 (by kernel_rfl) dd; clear dd)
                (have dd := dep_of hdep 1 (by kernel_rfl); have g1 : a.tmps[81]?.getD undef = (.bool true) := hst.fact 1 81 (by kernel_rfl) dd; clear dd)
                have g2 := getD_bool g1
                (have dd := dep_of hdep 6 (by kernel_rfl); have e2 : a.tmps[86]?.getD undef = (.bool true) := hst.fact 6 86 (by kernel_rfl) dd; clear dd)
                go_simp
                exact hK _ _ (Below.refl _ _) rfl
              case refine_9 =>
                (refine ⟨_, rfl, Nat.le_of_ble_eq_true rfl, fun listed a W hst hn hdep K hK => ?_⟩; have dd := dep_of hdep 7 (by kernel_rfl); have e1 : a.tmps[87]?.getD undef = (.bool true) := hst.fact 7 87 (by kernel_rfl) dd; clear dd; go_simp; exact hK _ _ (Below.refl _ _) rfl)
              case refine_10 =>
                refine ⟨_, rfl, Nat.le_of_ble_eq_true rfl, fun listed a W hst hn hdep K hK => ?_⟩
                (have dd := dep_of hdep 8 (by kernel_rfl); have g1 : a.tmps[88]?.getD undef = (.bool true) := hst.fact 8 88 (by kernel_rfl) dd; clear dd)
                have g2 := getD_bool g1
                (have e1 := hst.oldOf hn 5 (by kernel_rfl) rfl; simp only [Array.getD_eq_getD_getElem?] at e1)
                refine inv_cfg (by simp [Region.wanted, yielded, g2]) (.tmp 5) rfl X ((eval_tmp a 5).trans e1) CX HZX.out (HRX.out W hst.glob) ?_
                exact hK _ _ (Below.refl _ _) rfl
              case refine_11 =>
                refine ⟨_, rfl, Nat.le_of_ble_eq_true rfl, fun listed a W hst hn hdep K hK => ?_⟩
                (have dd := dep_of hdep 8 (by kernel_rfl); have g1 : a.tmps[88]?.getD undef = (.bool true) := hst.fact 8 88 (by kernel_rfl) dd; clear dd)
                have g2 := getD_bool g1
                (have dd := dep_of hdep 9 (by kernel_rfl); have e1 : a.tmps[89]?.getD undef = (.agg CX) := hst.fact 9 89 (by kernel_rfl) dd; clear dd)
                go_simp
                go_wp2_with (go_at_call 17; with_reducible refine (HNX.out W hst.glob).mono ?_; rintro e w1 ⟨nn, q9, rfl, hn9, hi9, hb⟩)
                exact hK _ _ hb ⟨nn, q9, rfl, hn9, hi9⟩
              case refine_12 =>
                refine ⟨_, rfl, Nat.le_of_ble_eq_true rfl, fun listed a W hst hn hdep K hK => ?_⟩
                (have dd := dep_of hdep 8 (by kernel_rfl); have g1 : a.tmps[88]?.getD undef = (.bool true) := hst.fact 8 88 (by kernel_rfl) dd; clear dd)
                have g2 := getD_bool g1
                (have e1 := hst.oldOf hn 2 (by kernel_rfl) rfl; simp only [Array.getD_eq_getD_getElem?] at e1)
                refine inv_cfg (by simp [Region.wanted, yielded, g2]) (.tmp 2) rfl w.heap.size ((eval_tmp a 2).trans e1) CA HZ1.out (HRA.out W hst.glob) ?_
                exact hK _ _ (Below.refl _ _) rfl
              case refine_13 =>
                refine ⟨_, rfl, Nat.le_of_ble_eq_true rfl, fun listed a W hst hn hdep K hK => ?_⟩
                (have dd := dep_of hdep 8 (by kernel_rfl); have g1 : a.tmps[88]?.getD undef = (.bool true) := hst.fact 8 88 (by kernel_rfl) dd; clear dd)
                have g2 := getD_bool g1
                (have dd := dep_of hdep 11 (by kernel_rfl); have e1 : a.tmps[91]?.getD undef = (.agg CA) := hst.fact 11 91 (by kernel_rfl) dd; clear dd)
                go_simp
                go_wp2_with (go_at_call 17; with_reducible refine (HNC.out W hst.glob).mono ?_; rintro e w1 ⟨nn, q9, rfl, hn9, hi9, hb⟩)
                exact hK _ _ hb ⟨nn, q9, rfl, hn9, hi9⟩
              case refine_14 =>
                refine ⟨_, rfl, Nat.le_of_ble_eq_true rfl, fun listed a W hst hn hdep K hK => ?_⟩
                (have dd := dep_of hdep 8 (by kernel_rfl); have g1 : a.tmps[88]?.getD undef = (.bool true) := hst.fact 8 88 (by kernel_rfl) dd; clear dd)
                have g2 := getD_bool g1
                (have dd := dep_of hdep 10 (by kernel_rfl); have r1 := hst.fact 10 90 (by kernel_rfl) dd; clear dd)
                (have dd := dep_of hdep 12 (by kernel_rfl); have r2 := hst.fact 12 92 (by kernel_rfl) dd; clear dd)
                obtain ⟨na, qa, ha1, ha2, ha3⟩ := r1
                obtain ⟨nb, qb, hb1, hb2, hb3⟩ := r2
                have HSMX := Lib.hid (HS2.out W na nb qa qb ha2 hb2 ha3 hb3)
                clear ha2 hb2 ha3 hb3
                go_simp
                go_wp2_with (go_at_call 19; with_reducible refine HSMX.out.mono ?_; rintro e w1 ⟨rfl, hb⟩)
                exact hK _ _ hb rfl
              case refine_15 =>
                refine ⟨_, rfl, Nat.le_of_ble_eq_true rfl, fun listed a W hst hn hdep K hK => ?_⟩
                (have dd := dep_of hdep 8 (by kernel_rfl); have e1 : a.tmps[88]?.getD undef = (.bool true) := hst.fact 8 88 (by kernel_rfl) dd; clear dd)
                (have dd := dep_of hdep 8 (by kernel_rfl); have g1 : a.tmps[88]?.getD undef = (.bool true) := hst.fact 8 88 (by kernel_rfl) dd; clear dd)
                have g2 := getD_bool g1
                (have dd := dep_of hdep 13 (by kernel_rfl); have e2 : a.tmps[93]?.getD undef = (.bool true) := hst.fact 13 93 (by kernel_rfl) dd; clear dd)
                go_simp
                exact hK _ _ (Below.refl _ _) rfl
              case refine_16 =>
                (refine ⟨_, rfl, Nat.le_of_ble_eq_true rfl, fun listed a W hst hn hdep K hK => ?_⟩; have dd := dep_of hdep 14 (by kernel_rfl); have e1 : a.tmps[94]?.getD undef = (.bool true) := hst.fact 14 94 (by kernel_rfl) dd; clear dd; go_simp; exact hK _ _ (Below.refl _ _) rfl)
            case refine_3 =>
              rintro ⟨⟨tm5⟩, df5⟩ W9 listed5 hl5 hst5
              obtain rfl : df5 = [] := hst5.defers
              have s6 : _ = _ := hst5.fact 15 4 (by kernel_rfl) (hl5 15 (Nat.le_of_ble_eq_true rfl))
              have hsz5 : tm5.length = 95 := hst5.size
              have hg5 := hst5.glob
              clear hst5 hl5
              ((repeat (have hh := arr_succ hsz5; clear hsz5; obtain ⟨_, tm5, rfl, hsz5⟩ := hh)); (obtain rfl := List.eq_nil_of_length_eq_zero hsz5))
              simp at s6
              subst s6
              have HG5 := Lib.hid hg5
              clear hg5
              go_wp2_with fail
              go_ret
              exact ⟨rfl, HBE.out _ HG5.out⟩

theorem own : ownKnob Tryz.prog.godebug = none := by kernel_rfl

set_option maxRecDepth 100000 in
theorem lifted (os : Os) (started : os.Started) (H : Type) (enc : TypeId × Value → H) (F : Stop.Interp) :
    ReturnsInHanded {} Tryz.checked os 4 .any ((Rows.OpenSpec.upto Rows.confShufflesSpec).pre6 enc Tryz.prog Tryz.f4 Rows.confShufflesUptoRow.domain false) (((Rows.OpenSpec.upto Rows.confShufflesSpec).at F).post enc Tryz.prog Tryz.f4 false true false false) := by
  refine returnsInHanded_of_cond (C := Tryz.checked) (s := Rows.OpenSpec.upto Rows.confShufflesSpec) (k := Rows.uptoSmall) rfl own started (by kernel_rfl) Tryz.func4
    (OpenSpec.witness (enc := enc) (C := Tryz.checked) (s := Rows.OpenSpec.upto Rows.confShufflesSpec) (k := Rows.uptoSmall) rfl false ⟨#[], #[.agg #[.int .u64 0, .slice none 0 0, .slice none 0 0, .slice none 0 0, .slice none 0 0, .slice none 0 0], .int .u8 0], []⟩ 8 (by kernel_rfl) (by kernel_rfl) (by kernel_rfl)
      (x := ([.agg [.lit (.int .u64 0), .nil, .nil, .nil, .nil, .nil], .lit (.int .u8 0)], [], [])) (by kernel_rfl) rfl (by kernel_rfl)) ?_
  intro W base args ds gs before hval0 hW _ hk _
  have hval : ∀ (j : Nat) t v, Tryz.f4.params[j]? = some t → args[j]? = some v → Value.okWide Tryz.prog W .any base t v := hval0
  have hW' := hW
  obtain ⟨p, q, hA0, hV, rfl, hfz, hnd⟩ := hW
  have hA : DataW.TrodAll enc Tryz.prog W 0 (fun _ => true) true Tryz.f4.params.toList args.toList ds p := hA0
  rw [Tryz.params4] at hA hval
  obtain ⟨v0, vs0, d0, ds0, p0, q0, hargs, rfl, rfl, h0, r0⟩ := trodAll_cons hA
  obtain ⟨v1, vs1, d1, ds1, p1, q1, rfl, rfl, rfl, h1, r1⟩ := trodAll_cons r0
  obtain ⟨rfl, rfl, rfl⟩ := trodAll_nil r1
  obtain rfl : args = #[v0, v1] := by cases args; simp_all
  obtain ⟨rfl, rfl⟩ := trodVars_none hV
  have hk2 : Rows.uptoBulk d0 + (Rows.uptoBulk d1 + 0) ≤ 1048576 := of_decide_eq_true hk
  obtain ⟨ca, qa, rfl, hca, hba⟩ := open_cfgB (hval 0 30 v0 rfl rfl) h0
  obtain ⟨a1, rfl, rfl, rfl, w1⟩ := open_int Tryz.underlying5 (hval 1 5 v1 rfl rfl) h1
  have hb8 : 0 ≤ a1 ∧ a1 < 256 := by simp [Lit.wf, IntKind.min, IntKind.max, IntKind.signed, IntKind.bits] at w1; omega
  clear hA0 hval0
  simp only [List.append_nil] at hW'
  refine (walk ca qa a1 hb8.1 hb8.2 W hca (by unfold sizes; omega)).mono fun e W' ⟨he, hg⟩ => ?_
  subst he
  exact law_post (by kernel_rfl) rfl rfl (by kernel_rfl) (by kernel_rfl) Tryz.underlying4 hW' hg

theorem over : Rows.confShufflesUptoRow.holds Tryz.pinned (Rows.OpenSpec.upto Rows.confShufflesSpec) :=
  OpenClaim.holds_of_cond 4 Tryz.f4 rfl rfl rfl rfl rfl rfl rfl ⟨rfl, rfl, rfl, rfl, rfl⟩ rfl rfl rfl rfl rfl (by kernel_rfl) Tryz.func4 (by kernel_rfl)
    (of_decide_eq_true (by kernel_rfl)) (by unfold Func.isWrapper; first | (rw [if_pos (by decide +kernel)]; kernel_rfl) | (rw [if_neg (by decide +kernel)]; exact ⟨rfl, rfl⟩))
    (fun os started H enc _ F => lifted os started H enc F)

/-- WHAT IS PROVED. -/
theorem proved : Rows.ConfShufflesUptoSaid :=
  over

end Go.Proofs.YthdagjlgfffpbaaGreat.LawShuf
