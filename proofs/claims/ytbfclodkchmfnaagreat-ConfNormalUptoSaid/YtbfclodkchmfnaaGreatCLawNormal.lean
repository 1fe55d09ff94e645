/-
  The law ConfNormal returns true where what it reads is of bulk at most 1048576: Normal returns the normal form of the reference, which is its own normal form. By the verifier.
-/
import Derived.Test.YtbfclodkchmfnaaGreatSKin
import Derived.Test.YtbfclodkchmfnaaGreatLBulk
import Derived.Test.YtbfclodkchmfnaaGreatPAlv
import Derived.Test.YtbfclodkchmfnaaGreatPIsn
import Derived.Test.YtbfclodkchmfnaaGreatMLst
import Derived.Test.YtbfclodkchmfnaaGreatRNrm
import Derived.Test.YtbfclodkchmfnaaGreatSU8
import Derived.JoinedCond
set_option linter.unusedVariables false
namespace Go.Proofs.YtbfclodkchmfnaaGreat.LawNormal
open Go.RowKit Go.ChangeShapes Go.WideShapes Go.ChangeAt

theorem getD_bool {l : Array Value} {i : Nat} {b : Bool} (h : l[i]?.getD undef = .bool b) : l[i]? = some (.bool b) := by
  cases hl : l[i]? with
  | none => rw [hl] at h; cases h
  | some v => rw [hl] at h; exact congrArg some h

theorem same_refl (a : ConfR) : sameV a a = true := sameV_yes rfl fun _ _ _ => rfl

def sizes (c : ConfR) : Nat := c.ps.length + c.ws.length + c.rs.length + c.ts.length + c.cs.length + c.links
theorem link_le {c : ConfR} {x : ChanR} (hx : x ∈ c.cs) : x.dests.length ≤ c.links := sum_part (List.mem_map_of_mem (f := fun d : ChanR => d.dests.length) hx)

/-- Few records are at most 120. -/
theorem few_tight {c : ConfR} (hf : fewV c = true) (hb : sizes c ≤ 1048576) : Short c ∧ Small c 1000 := by
  unfold sizes at hb
  unfold fewV at hf
  simp only [Bool.and_eq_true, List.all_eq_true, decide_eq_true_eq] at hf
  obtain ⟨h1, h2, h3⟩ := hf
  unfold ConfR.total at h3
  have hw : wrap64 (c.links : Int) = (c.links : Int) := wrap_small (by omega) (by omega)
  rw [hw, wrap_small (by omega) (by omega)] at h3
  have hd : ∀ x ∈ c.cs, x.dests.length ≤ 1000 := fun x hx => by have := link_le hx; omega
  exact ⟨⟨by omega, by omega, by omega, by omega, by omega, hd, fun x hx => by have := h1 x hx; omega, fun x hx => by have := h2 x hx; omega⟩, ⟨by omega, by omega, by omega, by omega, by omega, hd⟩⟩

theorem sortU_idem (l : List Nat) : sortU (sortU l) = sortU l := (sortU_unique (List.Perm.refl _) (sortU_sorted l)).symm
/-- A normal form is its own. -/
theorem norm_self {c n : ConfR} (h : NormOf c n) : NormOf n n := by
  have e : n.cs.map srtR = n.cs := by
    have h1 : ∀ x ∈ n.cs, srtR x = x := fun x hx => by
      obtain ⟨y, hy, rfl⟩ := List.mem_map.1 (h.cs.mem_iff.1 hx)
      unfold srtR
      simp only [sortU_idem]
    exact (List.map_congr_left h1).trans (List.map_id _)
  exact ⟨rfl, List.Perm.refl _, List.Perm.refl _, List.Perm.refl _, List.Perm.refl _, by rw [e], h.sp, h.sw, h.sr, h.st, h.sc⟩
theorem short_norm {c n : ConfR} (h : NormOf c n) (hs : Short c) : Short n := by
  refine ⟨by rw [h.ps.length_eq]; exact hs.ps, by rw [h.ws.length_eq]; exact hs.ws, by rw [h.rs.length_eq]; exact hs.rs, by rw [h.ts.length_eq]; exact hs.ts, by rw [h.cs.length_eq, List.length_map]; exact hs.cs, fun x hx => ?_, fun x hx => hs.np x (h.ps.mem_iff.1 hx), fun x hx => hs.nt x (h.ts.mem_iff.1 hx)⟩
  obtain ⟨y, hy, rfl⟩ := List.mem_map.1 (h.cs.mem_iff.1 hx)
  show (sortU y.dests).length ≤ 1000
  rw [sortU_len]
  exact hs.ds y hy

/-- The configuration in its box. -/
structure OneIn (w : World) (ca : ConfR) (p : CfgQ) (CA : Array Value) (W : World) : Prop where
  b1 : W.heap[w.heap.size]? = some (.cells CA 30)
  c1 : CfgIn W ca p
  below : Below w.heap.size w W
theorem OneIn.more {w W W' : World} {ca : ConfR} {p : CfgQ} {CA : Array Value} (h : OneIn w ca p CA W) (hb : Below W.heap.size W W') : OneIn w ca p CA W' :=
  ⟨(hb.block _ (Array.getElem?_eq_some_iff.1 h.b1).1).trans h.b1, h.c1.below (Nat.le_refl _) hb, h.below.trans (hb.mono h.below.size)⟩
theorem OneIn.start {w : World} {ca : ConfR} {p : CfgQ} (h : CfgIn w ca p) : OneIn w ca p (cfgA ca p) (w.alloc (.cells (cfgA ca p) 30)) := by
  have hb : Below w.heap.size w (w.alloc (.cells (cfgA ca p) 30)) := (Below.refl _ _).alloc (Nat.le_refl _) _
  exact ⟨heap_alloc_new w _, h.below (Nat.le_refl _) hb, hb⟩

def isNN (n : ConfR) : Value → World → Prop := fun v w => ∃ nn q, v = cfgV nn q ∧ NormOf n nn ∧ CfgIn w nn q
theorem isNN_keeps (n : ConfR) : Keeps (isNN n) := fun v w w' ⟨nn, q, h1, h2, h3⟩ hb => ⟨nn, q, h1, h2, h3.below (Nat.le_refl _) hb⟩

set_option maxHeartbeats 8000000 in
set_option maxRecDepth 100000 in
theorem walk (ca : ConfR) (p : CfgQ) (w : World) (h1 : CfgIn w ca p) (ha : sizes ca ≤ 1048576) : Calls Tryz.prog 4 #[cfgV ca p] w fun e w' => e = .returned (.bool true) ∧ Below w.heap.size w w' := by
  have hT := OneIn.start h1
  obtain ⟨CA, hCA⟩ : ∃ CA, CA = cfgA ca p := ⟨_, rfl⟩
  have HCA := Lib.hid hCA
  have hv1 : cfgV ca p = .agg CA := by rw [hCA]; rfl
  have HZ1 : Hid (CA.size = 6) := Lib.hid (by rw [hCA]; rfl)
  rw [← hCA] at hT
  have HT := Lib.hid hT
  have HAL := Lib.hid alive_ok
  have HFA : Hid (∀ W, OneIn w ca p CA W → Calls Tryz.prog 10 #[.agg CA] W fun e w' => e = .returned (.bool (fewV ca)) ∧ Below W.heap.size W w') := Lib.hid fun W hW => by rw [hCA]; exact few_ok ca p W hW.c1
  have HSA : Hid (fewV ca = true → Short ca ∧ Small ca 1000) := Lib.hid fun h => few_tight h ha
  have HOA := Lib.hid h1.nums
  rw [hv1]
  generalize hfa : fewV ca = fa at *
  clear hCA hfa hv1 hT h1 ha
  go_enter Tryz.func4, Tryz.ntmps4
  cases fa with
  | false =>
    go_wp2_with (first
      | (with_reducible refine load_cfg rfl (.tmp 1) rfl w.heap.size rfl CA HZ1.out HT.out.b1 ?_)
      | (go_at_call 10; refine (HFA.out _ HT.out).mono ?_; rintro e w1 ⟨rfl, hb1⟩; have HT1 := Lib.hid (HT.out.more hb1); clear hb1 HT)
      | (go_at_call 9; refine (HAL.out _).mono ?_; rintro e w2 ⟨rfl, hb2⟩; have HT2 := Lib.hid (HT1.out.more hb2); clear hb2))
    go_ret
    exact ⟨rfl, HT2.out.below⟩
  | true =>
    have HSM := Lib.hid (HSA.out rfl)
    clear HSA
    go_wp2_with (first
      | (with_reducible refine load_cfg rfl (.tmp 1) rfl w.heap.size rfl CA HZ1.out HT.out.b1 ?_)
      | (go_at_call 10; refine (HFA.out _ HT.out).mono ?_; rintro e w1 ⟨rfl, hb1⟩; have HT1 := Lib.hid (HT.out.more hb1); clear hb1 HT)
      | (with_reducible refine load_cfg rfl (.tmp 1) rfl w.heap.size rfl CA HZ1.out HT1.out.b1 ?_))
    have hcl := clone_ok ca p _ HT1.out.c1 HSM.out.2
    rw [show cfgV ca p = .agg CA by rw [HCA.out]; rfl] at hcl
    refine hcl.mono ?_
    rintro e w3 ⟨qx, rfl, hox, hbx⟩
    obtain ⟨X, hX⟩ : ∃ X, X = w3.heap.size := ⟨_, rfl⟩
    obtain ⟨W3, hW3⟩ : ∃ W3, W3 = w3.alloc (.cells #[.int .u64 (ca.frame : Int), .slice qx.A1 ca.ps.length qx.c1, .slice qx.A2 ca.ws.length qx.c2, .slice qx.A3 ca.rs.length qx.c3, .slice qx.A4 ca.ts.length qx.c4, .slice qx.A5 ca.cs.length qx.c5] 30) := ⟨_, rfl⟩
    have bW3 : Below w3.heap.size w3 W3 := by rw [hW3]; exact (Below.refl _ _).alloc (Nat.le_refl _) _
    have sW3 : X < W3.heap.size := by rw [hW3, hX]; simp
    have rW3 : W3.heap[X]? = some (.cells (cfgA ca qx) 30) := by rw [hW3, hX]; exact heap_alloc_new w3 _
    obtain ⟨C3, hC3⟩ : ∃ C3, C3 = cfgA ca qx := ⟨_, rfl⟩
    rw [← hC3] at rW3
    have HXW3 : Hid (w3.alloc (.cells #[.int .u64 (ca.frame : Int), .slice qx.A1 ca.ps.length qx.c1, .slice qx.A2 ca.ws.length qx.c2, .slice qx.A3 ca.rs.length qx.c3, .slice qx.A4 ca.ts.length qx.c4, .slice qx.A5 ca.cs.length qx.c5] 30) = W3) := Lib.hid hW3.symm
    have HYX := Lib.hid hX
    have HVC3 := Lib.hid hC3
    have HRWX : Hid (∀ W, Below W3.heap.size W3 W → W.heap[X]? = some (.cells C3 30)) := Lib.hid fun W hW => (hW.block X sW3).trans rW3
    have h3x : CfgIn W3 ca qx := (hox.cfg HOA.out HSM.out.2 (by omega)).below (Nat.le_refl _) bW3
    have HT3 := Lib.hid ((HT1.out.more hbx).more bW3)
    have HCX : Hid (∀ W, Below W3.heap.size W3 W → CfgIn W ca qx) := Lib.hid fun W hW => h3x.below (Nat.le_refl _) hW
    have HZ3 : Hid (C3.size = 6) := Lib.hid (by rw [hC3]; rfl)
    have hrow3 := rW3
    have HROW3 := Lib.hid hrow3
    clear hcl hox hbx hX hW3 bW3 sW3 rW3 hC3 h3x hrow3 HT1
    unfold cfgV
    go_wp2_with fail
    rw [HXW3.out, ← HYX.out]
    clear HXW3 HYX
    go_wp2_with (with_reducible refine load_cfg rfl (.tmp 3) rfl X rfl C3 HZ3.out HROW3.out ?_)
    have hn1 := normal_ok ca qx W3 (HCX.out W3 (Below.refl _ _)) HSM.out.2 (Or.inr sortU16)
    unfold cfgV at hn1
    refine hn1.mono ?_
    rintro e w5 ⟨n, hnf, qn, rfl, hon, hbn⟩
    obtain ⟨Y, hY⟩ : ∃ Y, Y = w5.heap.size := ⟨_, rfl⟩
    obtain ⟨W5, hW5⟩ : ∃ W5, W5 = w5.alloc (.cells #[.int .u64 (n.frame : Int), .slice qn.A1 n.ps.length qn.c1, .slice qn.A2 n.ws.length qn.c2, .slice qn.A3 n.rs.length qn.c3, .slice qn.A4 n.ts.length qn.c4, .slice qn.A5 n.cs.length qn.c5] 30) := ⟨_, rfl⟩
    have bW5 : Below w5.heap.size w5 W5 := by rw [hW5]; exact (Below.refl _ _).alloc (Nat.le_refl _) _
    have sW5 : Y < W5.heap.size := by rw [hW5, hY]; simp
    have rW5 : W5.heap[Y]? = some (.cells (cfgA n qn) 30) := by rw [hW5, hY]; exact heap_alloc_new w5 _
    obtain ⟨CN, hCN⟩ : ∃ CN, CN = cfgA n qn := ⟨_, rfl⟩
    rw [← hCN] at rW5
    have HXW5 : Hid (w5.alloc (.cells #[.int .u64 (n.frame : Int), .slice qn.A1 n.ps.length qn.c1, .slice qn.A2 n.ws.length qn.c2, .slice qn.A3 n.rs.length qn.c3, .slice qn.A4 n.ts.length qn.c4, .slice qn.A5 n.cs.length qn.c5] 30) = W5) := Lib.hid hW5.symm
    have HYY := Lib.hid hY
    have HVCN := Lib.hid hCN
    have HRWY : Hid (∀ W, Below W5.heap.size W5 W → W.heap[Y]? = some (.cells CN 30)) := Lib.hid fun W hW => (hW.block Y sW5).trans rW5
    have h5x : CfgIn W5 n qn := (hon.cfg (hnf.nums HOA.out) (hnf.small HSM.out.2) (by omega)).below (Nat.le_refl _) bW5
    have HT5 := Lib.hid ((HT3.out.more hbn).more bW5)
    have HB5 : Hid (Below W3.heap.size W3 W5) := Lib.hid (hbn.trans (bW5.mono hbn.size))
    have HCN : Hid (∀ W, Below W5.heap.size W5 W → CfgIn W n qn) := Lib.hid fun W hW => h5x.below (Nat.le_refl _) hW
    have HZN : Hid (CN.size = 6) := Lib.hid (by rw [hCN]; rfl)
    have HNF := Lib.hid hnf
    have HROW5 : Hid ((w5.alloc (.cells #[.int .u64 (n.frame : Int), .slice qn.A1 n.ps.length qn.c1, .slice qn.A2 n.ws.length qn.c2, .slice qn.A3 n.rs.length qn.c3, .slice qn.A4 n.ts.length qn.c4, .slice qn.A5 n.cs.length qn.c5] 30)).heap[w.heap.size]? = some (.cells CA 30)) := Lib.hid (by rw [← hW5]; exact HT5.out.b1)
    clear hn1 hon hbn hY hW5 bW5 sW5 rW5 hCN h5x hnf
    unfold cfgV
    go_wp2_with (with_reducible refine load_cfg rfl (.tmp 1) rfl w.heap.size rfl CA HZ1.out HROW5.out ?_)
    rw [HXW5.out, ← HYY.out]
    clear HXW5 HYY HROW5
    have hn2 := rnormal_ok ca p W5 HT5.out.c1 HSM.out.1
    rw [show cfgV ca p = .agg CA by rw [HCA.out]; rfl] at hn2
    refine hn2.mono ?_
    rintro e w7 ⟨n2, q2, rfl, hnf2, hin2, hb7⟩
    obtain ⟨Z, hZ⟩ : ∃ Z, Z = w7.heap.size := ⟨_, rfl⟩
    obtain ⟨W7, hW7⟩ : ∃ W7, W7 = w7.alloc (.cells #[.int .u64 (n2.frame : Int), .slice q2.A1 n2.ps.length q2.c1, .slice q2.A2 n2.ws.length q2.c2, .slice q2.A3 n2.rs.length q2.c3, .slice q2.A4 n2.ts.length q2.c4, .slice q2.A5 n2.cs.length q2.c5] 30) := ⟨_, rfl⟩
    have bW7 : Below w7.heap.size w7 W7 := by rw [hW7]; exact (Below.refl _ _).alloc (Nat.le_refl _) _
    have sW7 : Z < W7.heap.size := by rw [hW7, hZ]; simp
    have rW7 : W7.heap[Z]? = some (.cells (cfgA n2 q2) 30) := by rw [hW7, hZ]; exact heap_alloc_new w7 _
    obtain ⟨C2, hC2⟩ : ∃ C2, C2 = cfgA n2 q2 := ⟨_, rfl⟩
    rw [← hC2] at rW7
    have HXW7 : Hid (w7.alloc (.cells #[.int .u64 (n2.frame : Int), .slice q2.A1 n2.ps.length q2.c1, .slice q2.A2 n2.ws.length q2.c2, .slice q2.A3 n2.rs.length q2.c3, .slice q2.A4 n2.ts.length q2.c4, .slice q2.A5 n2.cs.length q2.c5] 30) = W7) := Lib.hid hW7.symm
    have HYZ := Lib.hid hZ
    have HVC2 := Lib.hid hC2
    have HRWZ : Hid (∀ W, Below W7.heap.size W7 W → W.heap[Z]? = some (.cells C2 30)) := Lib.hid fun W hW => (hW.block Z sW7).trans rW7
    have h7x : CfgIn W7 n2 q2 := hin2.below (Nat.le_refl _) bW7
    have hb57 : Below W5.heap.size W5 W7 := hb7.trans (bW7.mono hb7.size)
    have hT7 := (HT5.out.more hb7).more bW7
    have HBE : Hid (∀ W, Below W7.heap.size W7 W → Below w.heap.size w W) := Lib.hid fun W hW => (hT7.more hW).below
    have H75 : Hid (∀ W, Below W7.heap.size W7 W → Below W5.heap.size W5 W) := Lib.hid fun W hW => hb57.trans (hW.mono hb57.size)
    have H73 : Hid (∀ W, Below W7.heap.size W7 W → Below W3.heap.size W3 W) := Lib.hid fun W hW => HB5.out.trans ((H75.out W hW).mono HB5.out.size)
    have HC1 : Hid (∀ W, Below W7.heap.size W7 W → CfgIn W ca p) := Lib.hid fun W hW => (hT7.more hW).c1
    have HCC2 : Hid (∀ W, Below W7.heap.size W7 W → CfgIn W n2 q2) := Lib.hid fun W hW => h7x.below (Nat.le_refl _) hW
    have HZ2 : Hid (C2.size = 6) := Lib.hid (by rw [hC2]; rfl)
    have HR1 : Hid (∀ W, Below W7.heap.size W7 W → W.heap[w.heap.size]? = some (.cells CA 30)) := Lib.hid fun W hW => (hT7.more hW).b1
    have HR3 : Hid (∀ W, Below W7.heap.size W7 W → W.heap[X]? = some (.cells C3 30)) := Lib.hid fun W hW => HRWX.out W (H73.out W hW)
    have HRN : Hid (∀ W, Below W7.heap.size W7 W → W.heap[Y]? = some (.cells CN 30)) := Lib.hid fun W hW => HRWY.out W (H75.out W hW)
    have HR2 := HRWZ
    have HN2 := Lib.hid hnf2
    obtain ⟨b0, hb0⟩ : ∃ b0, b0 = sameV ca (normR ca) := ⟨_, rfl⟩
    have HS1 : Hid (∀ W, Below W7.heap.size W7 W → Calls Tryz.prog 14 #[.agg C3, .agg CA] W fun e w' => e = .returned (.bool true) ∧ Below W.heap.size W w') := Lib.hid fun W hW => by rw [HVC3.out, HCA.out]; exact (same_ok ca ca qx p W (HCX.out W (H73.out W hW)) (HC1.out W hW) HSM.out.1 HSM.out.1).mono fun e w' h => ⟨by rw [h.1, same_refl], h.2⟩
    have HS2 : Hid (∀ W, Below W7.heap.size W7 W → Calls Tryz.prog 14 #[.agg CN, .agg C2] W fun e w' => e = .returned (.bool true) ∧ Below W.heap.size W w') := Lib.hid fun W hW => by rw [HVCN.out, HVC2.out]; exact (same_ok n n2 qn q2 W (HCN.out W (H75.out W hW)) (HCC2.out W hW) (short_norm HNF.out HSM.out.1) (short_norm HN2.out HSM.out.1)).mono fun e w' h => ⟨by rw [h.1, sameV_refl (HNF.out.same HN2.out)], h.2⟩
    have HI1 : Hid (∀ W, Below W7.heap.size W7 W → Calls Tryz.prog 15 #[.agg CN] W fun e w' => e = .returned (.bool true) ∧ Below W.heap.size W w') := Lib.hid fun W hW => by rw [HVCN.out]; exact (isn_ok n qn W (HCN.out W (H75.out W hW)) (HNF.out.small HSM.out.2) (Or.inr sortU16)).mono fun e w' h => ⟨by rw [h.1, sameV_refl ((norm_self HNF.out).same (normR_of n))], h.2⟩
    have HNN : Hid (∀ W, Below W7.heap.size W7 W → Calls Tryz.prog 12 #[.agg CN] W fun e w' => ∃ nn q9, e = .returned (cfgV nn q9) ∧ NormOf n nn ∧ CfgIn w' nn q9 ∧ Below W.heap.size W w') := Lib.hid fun W hW => by
      rw [HVCN.out]
      refine (normal_ok n qn W (HCN.out W (H75.out W hW)) (HNF.out.small HSM.out.2) (Or.inr sortU16)).mono ?_
      rintro e w' ⟨nn, hn9, q9, rfl, ho9, hb9⟩
      exact ⟨nn, q9, rfl, hn9, ho9.cfg (hn9.nums (HNF.out.nums HOA.out)) (hn9.small (HNF.out.small HSM.out.2)) (by omega), hb9⟩
    have HS3 : Hid (∀ W, Below W7.heap.size W7 W → ∀ nn q9, NormOf n nn → CfgIn W nn q9 → Calls Tryz.prog 14 #[cfgV nn q9, .agg CN] W fun e w' => e = .returned (.bool true) ∧ Below W.heap.size W w') := Lib.hid fun W hW nn q9 hn9 hi9 => by
      rw [HVCN.out]
      exact (same_ok nn n q9 qn W hi9 (HCN.out W (H75.out W hW)) (short_norm hn9 (short_norm HNF.out HSM.out.1)) (short_norm HNF.out HSM.out.1)).mono fun e w' h => ⟨by rw [h.1, sameV_refl (hn9.same (norm_self HNF.out))], h.2⟩
    have HI2 : Hid (∀ W, Below W7.heap.size W7 W → Calls Tryz.prog 15 #[.agg CA] W fun e w' => e = .returned (.bool b0) ∧ Below W.heap.size W w') := Lib.hid fun W hW => by rw [HCA.out, hb0]; exact isn_ok ca p W (HC1.out W hW) HSM.out.2 (Or.inr sortU16)
    have HS4 : Hid (∀ W, Below W7.heap.size W7 W → Calls Tryz.prog 14 #[.agg CA, .agg C2] W fun e w' => e = .returned (.bool b0) ∧ Below W.heap.size W w') := Lib.hid fun W hW => by rw [HCA.out, HVC2.out, hb0]; exact (same_ok ca n2 p q2 W (HC1.out W hW) (HCC2.out W hW) HSM.out.1 (short_norm HN2.out HSM.out.1)).mono fun e w' h => ⟨by rw [h.1, sameV_right (HN2.out.same (normR_of ca))], h.2⟩
    clear hn2 hin2 hb7 hZ hW7 bW7 sW7 rW7 hC2 h7x hb57 hT7 hnf2 hb0 HT3 HT5 HRWX HRWY HRWZ HCX HCN HCC2 HC1
    unfold cfgV
    go_wp2_with fail
    rw [HXW7.out, ← HYZ.out]
    clear HXW7 HYZ
    refine region_invP W7 [(16, isV (.bool true)), (17, isV (.bool true)), (18, isV (.agg C3)), (19, isV (.agg CA)), (20, isV (.bool true)), (21, isV (.bool true)), (22, isV (.bool true)), (23, isV (.agg CN)), (24, isV (.agg C2)), (25, isV (.bool true)), (26, isV (.bool true)), (27, isV (.bool true)), (28, isV (.agg CN)), (29, isV (.bool true)), (30, isV (.bool true)), (31, isV (.bool true)), (32, isV (.agg CN)), (33, isNN n), (34, isV (.agg CN)), (35, isV (.bool true)), (36, isV (.bool true)), (37, isV (.bool true)), (38, isV (.agg CA)), (39, isV (.bool b0)), (40, isV (.agg CA)), (41, isV (.agg C2)), (42, isV (.bool b0)), (43, isV (.bool true)), (44, isV (.bool true)), (2, isV (.bool true))] ⟨isV_keeps _, isV_keeps _, isV_keeps _, isV_keeps _, isV_keeps _, isV_keeps _, isV_keeps _, isV_keeps _, isV_keeps _, isV_keeps _, isV_keeps _, isV_keeps _, isV_keeps _, isV_keeps _, isV_keeps _, isV_keeps _, isV_keeps _, isNN_keeps _, isV_keeps _, isV_keeps _, isV_keeps _, isV_keeps _, isV_keeps _, isV_keeps _, isV_keeps _, isV_keeps _, isV_keeps _, isV_keeps _, isV_keeps _, isV_keeps _, trivial⟩ (by kernel_rfl) ?_ (by kernel_rfl) ?_ ?_
    case refine_1 => exact (Below.refl _ _).drew
    case refine_2 =>
      refine ⟨?_, ?_, ?_, ?_, ?_, ?_, ?_, ?_, ?_, ?_, ?_, ?_, ?_, ?_, ?_, ?_, ?_, ?_, ?_, ?_, ?_, ?_, ?_, ?_, ?_, ?_, ?_, ?_, ?_, ?_, trivial⟩
      case refine_1 =>
        refine ⟨_, rfl, Nat.le_of_ble_eq_true rfl, fun listed a W hst hn hdep K hK => ?_⟩
        go_simp
        go_wp2_with (go_at_call 9; with_reducible refine (HAL.out W).mono ?_; rintro e w1 ⟨rfl, hb⟩)
        exact hK _ _ hb rfl
      case refine_2 =>
        (refine ⟨_, rfl, Nat.le_of_ble_eq_true rfl, fun listed a W hst hn hdep K hK => ?_⟩; have dd := dep_of hdep 0 (by kernel_rfl); have e1 : a.tmps[16]?.getD undef = (.bool true) := hst.fact 0 16 (by kernel_rfl) dd; clear dd; go_simp; exact hK _ _ (Below.refl _ _) rfl)
      case refine_3 =>
        refine ⟨_, rfl, Nat.le_of_ble_eq_true rfl, fun listed a W hst hn hdep K hK => ?_⟩
        (have dd := dep_of hdep 1 (by kernel_rfl); have g1 : a.tmps[17]?.getD undef = (.bool true) := hst.fact 1 17 (by kernel_rfl) dd; clear dd)
        have g2 := getD_bool g1
        (have e1 := hst.oldOf hn 3 (by kernel_rfl) rfl; simp only [Array.getD_eq_getD_getElem?] at e1)
        refine inv_cfg (by simp [Region.wanted, yielded, g2]) (.tmp 3) rfl X ((eval_tmp a 3).trans e1) C3 HZ3.out (HR3.out W hst.glob) ?_
        exact hK _ _ (Below.refl _ _) rfl
      case refine_4 =>
        refine ⟨_, rfl, Nat.le_of_ble_eq_true rfl, fun listed a W hst hn hdep K hK => ?_⟩
        (have dd := dep_of hdep 1 (by kernel_rfl); have g1 : a.tmps[17]?.getD undef = (.bool true) := hst.fact 1 17 (by kernel_rfl) dd; clear dd)
        have g2 := getD_bool g1
        (have e1 := hst.oldOf hn 1 (by kernel_rfl) rfl; simp only [Array.getD_eq_getD_getElem?] at e1)
        refine inv_cfg (by simp [Region.wanted, yielded, g2]) (.tmp 1) rfl w.heap.size ((eval_tmp a 1).trans e1) CA HZ1.out (HR1.out W hst.glob) ?_
        exact hK _ _ (Below.refl _ _) rfl
      case refine_5 =>
        refine ⟨_, rfl, Nat.le_of_ble_eq_true rfl, fun listed a W hst hn hdep K hK => ?_⟩
        (have dd := dep_of hdep 1 (by kernel_rfl); have g1 : a.tmps[17]?.getD undef = (.bool true) := hst.fact 1 17 (by kernel_rfl) dd; clear dd)
        have g2 := getD_bool g1
        (have dd := dep_of hdep 2 (by kernel_rfl); have e1 : a.tmps[18]?.getD undef = (.agg C3) := hst.fact 2 18 (by kernel_rfl) dd; clear dd)
        (have dd := dep_of hdep 3 (by kernel_rfl); have e2 : a.tmps[19]?.getD undef = (.agg CA) := hst.fact 3 19 (by kernel_rfl) dd; clear dd)
        go_simp
        go_wp2_with (go_at_call 14; with_reducible refine (HS1.out W hst.glob).mono ?_; rintro e w1 ⟨rfl, hb⟩)
        exact hK _ _ hb rfl
      case refine_6 =>
        refine ⟨_, rfl, Nat.le_of_ble_eq_true rfl, fun listed a W hst hn hdep K hK => ?_⟩
        (have dd := dep_of hdep 1 (by kernel_rfl); have e1 : a.tmps[17]?.getD undef = (.bool true) := hst.fact 1 17 (by kernel_rfl) dd; clear dd)
        (have dd := dep_of hdep 1 (by kernel_rfl); have g1 : a.tmps[17]?.getD undef = (.bool true) := hst.fact 1 17 (by kernel_rfl) dd; clear dd)
        have g2 := getD_bool g1
        (have dd := dep_of hdep 4 (by kernel_rfl); have e2 : a.tmps[20]?.getD undef = (.bool true) := hst.fact 4 20 (by kernel_rfl) dd; clear dd)
        go_simp
        exact hK _ _ (Below.refl _ _) rfl
      case refine_7 =>
        (refine ⟨_, rfl, Nat.le_of_ble_eq_true rfl, fun listed a W hst hn hdep K hK => ?_⟩; have dd := dep_of hdep 5 (by kernel_rfl); have e1 : a.tmps[21]?.getD undef = (.bool true) := hst.fact 5 21 (by kernel_rfl) dd; clear dd; go_simp; exact hK _ _ (Below.refl _ _) rfl)
      case refine_8 =>
        refine ⟨_, rfl, Nat.le_of_ble_eq_true rfl, fun listed a W hst hn hdep K hK => ?_⟩
        (have dd := dep_of hdep 6 (by kernel_rfl); have g1 : a.tmps[22]?.getD undef = (.bool true) := hst.fact 6 22 (by kernel_rfl) dd; clear dd)
        have g2 := getD_bool g1
        (have e1 := hst.oldOf hn 4 (by kernel_rfl) rfl; simp only [Array.getD_eq_getD_getElem?] at e1)
        refine inv_cfg (by simp [Region.wanted, yielded, g2]) (.tmp 4) rfl Y ((eval_tmp a 4).trans e1) CN HZN.out (HRN.out W hst.glob) ?_
        exact hK _ _ (Below.refl _ _) rfl
      case refine_9 =>
        refine ⟨_, rfl, Nat.le_of_ble_eq_true rfl, fun listed a W hst hn hdep K hK => ?_⟩
        (have dd := dep_of hdep 6 (by kernel_rfl); have g1 : a.tmps[22]?.getD undef = (.bool true) := hst.fact 6 22 (by kernel_rfl) dd; clear dd)
        have g2 := getD_bool g1
        (have e1 := hst.oldOf hn 5 (by kernel_rfl) rfl; simp only [Array.getD_eq_getD_getElem?] at e1)
        refine inv_cfg (by simp [Region.wanted, yielded, g2]) (.tmp 5) rfl Z ((eval_tmp a 5).trans e1) C2 HZ2.out (HR2.out W hst.glob) ?_
        exact hK _ _ (Below.refl _ _) rfl
      case refine_10 =>
        refine ⟨_, rfl, Nat.le_of_ble_eq_true rfl, fun listed a W hst hn hdep K hK => ?_⟩
        (have dd := dep_of hdep 6 (by kernel_rfl); have g1 : a.tmps[22]?.getD undef = (.bool true) := hst.fact 6 22 (by kernel_rfl) dd; clear dd)
        have g2 := getD_bool g1
        (have dd := dep_of hdep 7 (by kernel_rfl); have e1 : a.tmps[23]?.getD undef = (.agg CN) := hst.fact 7 23 (by kernel_rfl) dd; clear dd)
        (have dd := dep_of hdep 8 (by kernel_rfl); have e2 : a.tmps[24]?.getD undef = (.agg C2) := hst.fact 8 24 (by kernel_rfl) dd; clear dd)
        go_simp
        go_wp2_with (go_at_call 14; with_reducible refine (HS2.out W hst.glob).mono ?_; rintro e w1 ⟨rfl, hb⟩)
        exact hK _ _ hb rfl
      case refine_11 =>
        refine ⟨_, rfl, Nat.le_of_ble_eq_true rfl, fun listed a W hst hn hdep K hK => ?_⟩
        (have dd := dep_of hdep 6 (by kernel_rfl); have e1 : a.tmps[22]?.getD undef = (.bool true) := hst.fact 6 22 (by kernel_rfl) dd; clear dd)
        (have dd := dep_of hdep 6 (by kernel_rfl); have g1 : a.tmps[22]?.getD undef = (.bool true) := hst.fact 6 22 (by kernel_rfl) dd; clear dd)
        have g2 := getD_bool g1
        (have dd := dep_of hdep 9 (by kernel_rfl); have e2 : a.tmps[25]?.getD undef = (.bool true) := hst.fact 9 25 (by kernel_rfl) dd; clear dd)
        go_simp
        exact hK _ _ (Below.refl _ _) rfl
      case refine_12 =>
        (refine ⟨_, rfl, Nat.le_of_ble_eq_true rfl, fun listed a W hst hn hdep K hK => ?_⟩; have dd := dep_of hdep 10 (by kernel_rfl); have e1 : a.tmps[26]?.getD undef = (.bool true) := hst.fact 10 26 (by kernel_rfl) dd; clear dd; go_simp; exact hK _ _ (Below.refl _ _) rfl)
      case refine_13 =>
        refine ⟨_, rfl, Nat.le_of_ble_eq_true rfl, fun listed a W hst hn hdep K hK => ?_⟩
        (have dd := dep_of hdep 11 (by kernel_rfl); have g1 : a.tmps[27]?.getD undef = (.bool true) := hst.fact 11 27 (by kernel_rfl) dd; clear dd)
        have g2 := getD_bool g1
        (have e1 := hst.oldOf hn 4 (by kernel_rfl) rfl; simp only [Array.getD_eq_getD_getElem?] at e1)
        refine inv_cfg (by simp [Region.wanted, yielded, g2]) (.tmp 4) rfl Y ((eval_tmp a 4).trans e1) CN HZN.out (HRN.out W hst.glob) ?_
        exact hK _ _ (Below.refl _ _) rfl
      case refine_14 =>
        refine ⟨_, rfl, Nat.le_of_ble_eq_true rfl, fun listed a W hst hn hdep K hK => ?_⟩
        (have dd := dep_of hdep 11 (by kernel_rfl); have g1 : a.tmps[27]?.getD undef = (.bool true) := hst.fact 11 27 (by kernel_rfl) dd; clear dd)
        have g2 := getD_bool g1
        (have dd := dep_of hdep 12 (by kernel_rfl); have e1 : a.tmps[28]?.getD undef = (.agg CN) := hst.fact 12 28 (by kernel_rfl) dd; clear dd)
        go_simp
        go_wp2_with (go_at_call 15; with_reducible refine (HI1.out W hst.glob).mono ?_; rintro e w1 ⟨rfl, hb⟩)
        exact hK _ _ hb rfl
      case refine_15 =>
        refine ⟨_, rfl, Nat.le_of_ble_eq_true rfl, fun listed a W hst hn hdep K hK => ?_⟩
        (have dd := dep_of hdep 11 (by kernel_rfl); have e1 : a.tmps[27]?.getD undef = (.bool true) := hst.fact 11 27 (by kernel_rfl) dd; clear dd)
        (have dd := dep_of hdep 11 (by kernel_rfl); have g1 : a.tmps[27]?.getD undef = (.bool true) := hst.fact 11 27 (by kernel_rfl) dd; clear dd)
        have g2 := getD_bool g1
        (have dd := dep_of hdep 13 (by kernel_rfl); have e2 : a.tmps[29]?.getD undef = (.bool true) := hst.fact 13 29 (by kernel_rfl) dd; clear dd)
        go_simp
        exact hK _ _ (Below.refl _ _) rfl
      case refine_16 =>
        (refine ⟨_, rfl, Nat.le_of_ble_eq_true rfl, fun listed a W hst hn hdep K hK => ?_⟩; have dd := dep_of hdep 14 (by kernel_rfl); have e1 : a.tmps[30]?.getD undef = (.bool true) := hst.fact 14 30 (by kernel_rfl) dd; clear dd; go_simp; exact hK _ _ (Below.refl _ _) rfl)
      case refine_17 =>
        refine ⟨_, rfl, Nat.le_of_ble_eq_true rfl, fun listed a W hst hn hdep K hK => ?_⟩
        (have dd := dep_of hdep 15 (by kernel_rfl); have g1 : a.tmps[31]?.getD undef = (.bool true) := hst.fact 15 31 (by kernel_rfl) dd; clear dd)
        have g2 := getD_bool g1
        (have e1 := hst.oldOf hn 4 (by kernel_rfl) rfl; simp only [Array.getD_eq_getD_getElem?] at e1)
        refine inv_cfg (by simp [Region.wanted, yielded, g2]) (.tmp 4) rfl Y ((eval_tmp a 4).trans e1) CN HZN.out (HRN.out W hst.glob) ?_
        exact hK _ _ (Below.refl _ _) rfl
      case refine_18 =>
        refine ⟨_, rfl, Nat.le_of_ble_eq_true rfl, fun listed a W hst hn hdep K hK => ?_⟩
        (have dd := dep_of hdep 15 (by kernel_rfl); have g1 : a.tmps[31]?.getD undef = (.bool true) := hst.fact 15 31 (by kernel_rfl) dd; clear dd)
        have g2 := getD_bool g1
        (have dd := dep_of hdep 16 (by kernel_rfl); have e1 : a.tmps[32]?.getD undef = (.agg CN) := hst.fact 16 32 (by kernel_rfl) dd; clear dd)
        go_simp
        go_wp2_with (go_at_call 12; with_reducible refine (HNN.out W hst.glob).mono ?_; rintro e w1 ⟨nn, q9, rfl, hn9, hi9, hb⟩)
        exact hK _ _ hb ⟨nn, q9, rfl, hn9, hi9⟩
      case refine_19 =>
        refine ⟨_, rfl, Nat.le_of_ble_eq_true rfl, fun listed a W hst hn hdep K hK => ?_⟩
        (have dd := dep_of hdep 15 (by kernel_rfl); have g1 : a.tmps[31]?.getD undef = (.bool true) := hst.fact 15 31 (by kernel_rfl) dd; clear dd)
        have g2 := getD_bool g1
        (have e1 := hst.oldOf hn 4 (by kernel_rfl) rfl; simp only [Array.getD_eq_getD_getElem?] at e1)
        refine inv_cfg (by simp [Region.wanted, yielded, g2]) (.tmp 4) rfl Y ((eval_tmp a 4).trans e1) CN HZN.out (HRN.out W hst.glob) ?_
        exact hK _ _ (Below.refl _ _) rfl
      case refine_20 =>
        refine ⟨_, rfl, Nat.le_of_ble_eq_true rfl, fun listed a W hst hn hdep K hK => ?_⟩
        (have dd := dep_of hdep 15 (by kernel_rfl); have g1 : a.tmps[31]?.getD undef = (.bool true) := hst.fact 15 31 (by kernel_rfl) dd; clear dd)
        have g2 := getD_bool g1
        (have dd := dep_of hdep 17 (by kernel_rfl); have r1 := hst.fact 17 33 (by kernel_rfl) dd; clear dd)
        (have dd := dep_of hdep 18 (by kernel_rfl); have e2 : a.tmps[34]?.getD undef = (.agg CN) := hst.fact 18 34 (by kernel_rfl) dd; clear dd)
        obtain ⟨nn, q9, h9, hn9, hi9⟩ := r1
        have HSM9 := Lib.hid (HS3.out W hst.glob nn q9 hn9 hi9)
        clear hn9 hi9
        go_simp
        go_wp2_with (go_at_call 14; with_reducible refine HSM9.out.mono ?_; rintro e w1 ⟨rfl, hb⟩)
        exact hK _ _ hb rfl
      case refine_21 =>
        refine ⟨_, rfl, Nat.le_of_ble_eq_true rfl, fun listed a W hst hn hdep K hK => ?_⟩
        (have dd := dep_of hdep 15 (by kernel_rfl); have e1 : a.tmps[31]?.getD undef = (.bool true) := hst.fact 15 31 (by kernel_rfl) dd; clear dd)
        (have dd := dep_of hdep 15 (by kernel_rfl); have g1 : a.tmps[31]?.getD undef = (.bool true) := hst.fact 15 31 (by kernel_rfl) dd; clear dd)
        have g2 := getD_bool g1
        (have dd := dep_of hdep 19 (by kernel_rfl); have e2 : a.tmps[35]?.getD undef = (.bool true) := hst.fact 19 35 (by kernel_rfl) dd; clear dd)
        go_simp
        exact hK _ _ (Below.refl _ _) rfl
      case refine_22 =>
        (refine ⟨_, rfl, Nat.le_of_ble_eq_true rfl, fun listed a W hst hn hdep K hK => ?_⟩; have dd := dep_of hdep 20 (by kernel_rfl); have e1 : a.tmps[36]?.getD undef = (.bool true) := hst.fact 20 36 (by kernel_rfl) dd; clear dd; go_simp; exact hK _ _ (Below.refl _ _) rfl)
      case refine_23 =>
        refine ⟨_, rfl, Nat.le_of_ble_eq_true rfl, fun listed a W hst hn hdep K hK => ?_⟩
        (have dd := dep_of hdep 21 (by kernel_rfl); have g1 : a.tmps[37]?.getD undef = (.bool true) := hst.fact 21 37 (by kernel_rfl) dd; clear dd)
        have g2 := getD_bool g1
        (have e1 := hst.oldOf hn 1 (by kernel_rfl) rfl; simp only [Array.getD_eq_getD_getElem?] at e1)
        refine inv_cfg (by simp [Region.wanted, yielded, g2]) (.tmp 1) rfl w.heap.size ((eval_tmp a 1).trans e1) CA HZ1.out (HR1.out W hst.glob) ?_
        exact hK _ _ (Below.refl _ _) rfl
      case refine_24 =>
        refine ⟨_, rfl, Nat.le_of_ble_eq_true rfl, fun listed a W hst hn hdep K hK => ?_⟩
        (have dd := dep_of hdep 21 (by kernel_rfl); have g1 : a.tmps[37]?.getD undef = (.bool true) := hst.fact 21 37 (by kernel_rfl) dd; clear dd)
        have g2 := getD_bool g1
        (have dd := dep_of hdep 22 (by kernel_rfl); have e1 : a.tmps[38]?.getD undef = (.agg CA) := hst.fact 22 38 (by kernel_rfl) dd; clear dd)
        go_simp
        go_wp2_with (go_at_call 15; with_reducible refine (HI2.out W hst.glob).mono ?_; rintro e w1 ⟨rfl, hb⟩)
        exact hK _ _ hb rfl
      case refine_25 =>
        refine ⟨_, rfl, Nat.le_of_ble_eq_true rfl, fun listed a W hst hn hdep K hK => ?_⟩
        (have dd := dep_of hdep 21 (by kernel_rfl); have g1 : a.tmps[37]?.getD undef = (.bool true) := hst.fact 21 37 (by kernel_rfl) dd; clear dd)
        have g2 := getD_bool g1
        (have e1 := hst.oldOf hn 1 (by kernel_rfl) rfl; simp only [Array.getD_eq_getD_getElem?] at e1)
        refine inv_cfg (by simp [Region.wanted, yielded, g2]) (.tmp 1) rfl w.heap.size ((eval_tmp a 1).trans e1) CA HZ1.out (HR1.out W hst.glob) ?_
        exact hK _ _ (Below.refl _ _) rfl
      case refine_26 =>
        refine ⟨_, rfl, Nat.le_of_ble_eq_true rfl, fun listed a W hst hn hdep K hK => ?_⟩
        (have dd := dep_of hdep 21 (by kernel_rfl); have g1 : a.tmps[37]?.getD undef = (.bool true) := hst.fact 21 37 (by kernel_rfl) dd; clear dd)
        have g2 := getD_bool g1
        (have e1 := hst.oldOf hn 5 (by kernel_rfl) rfl; simp only [Array.getD_eq_getD_getElem?] at e1)
        refine inv_cfg (by simp [Region.wanted, yielded, g2]) (.tmp 5) rfl Z ((eval_tmp a 5).trans e1) C2 HZ2.out (HR2.out W hst.glob) ?_
        exact hK _ _ (Below.refl _ _) rfl
      case refine_27 =>
        refine ⟨_, rfl, Nat.le_of_ble_eq_true rfl, fun listed a W hst hn hdep K hK => ?_⟩
        (have dd := dep_of hdep 21 (by kernel_rfl); have g1 : a.tmps[37]?.getD undef = (.bool true) := hst.fact 21 37 (by kernel_rfl) dd; clear dd)
        have g2 := getD_bool g1
        (have dd := dep_of hdep 24 (by kernel_rfl); have e1 : a.tmps[40]?.getD undef = (.agg CA) := hst.fact 24 40 (by kernel_rfl) dd; clear dd)
        (have dd := dep_of hdep 25 (by kernel_rfl); have e2 : a.tmps[41]?.getD undef = (.agg C2) := hst.fact 25 41 (by kernel_rfl) dd; clear dd)
        go_simp
        go_wp2_with (go_at_call 14; with_reducible refine (HS4.out W hst.glob).mono ?_; rintro e w1 ⟨rfl, hb⟩)
        exact hK _ _ hb rfl
      case refine_28 =>
        refine ⟨_, rfl, Nat.le_of_ble_eq_true rfl, fun listed a W hst hn hdep K hK => ?_⟩
        (have dd := dep_of hdep 21 (by kernel_rfl); have g1 : a.tmps[37]?.getD undef = (.bool true) := hst.fact 21 37 (by kernel_rfl) dd; clear dd)
        have g2 := getD_bool g1
        (have dd := dep_of hdep 23 (by kernel_rfl); have e1 : a.tmps[39]?.getD undef = (.bool b0) := hst.fact 23 39 (by kernel_rfl) dd; clear dd)
        (have dd := dep_of hdep 26 (by kernel_rfl); have e2 : a.tmps[42]?.getD undef = (.bool b0) := hst.fact 26 42 (by kernel_rfl) dd; clear dd)
        cases b0 <;> (go_simp; exact hK _ _ (Below.refl _ _) rfl)
      case refine_29 =>
        refine ⟨_, rfl, Nat.le_of_ble_eq_true rfl, fun listed a W hst hn hdep K hK => ?_⟩
        (have dd := dep_of hdep 21 (by kernel_rfl); have e1 : a.tmps[37]?.getD undef = (.bool true) := hst.fact 21 37 (by kernel_rfl) dd; clear dd)
        (have dd := dep_of hdep 21 (by kernel_rfl); have g1 : a.tmps[37]?.getD undef = (.bool true) := hst.fact 21 37 (by kernel_rfl) dd; clear dd)
        have g2 := getD_bool g1
        (have dd := dep_of hdep 27 (by kernel_rfl); have e2 : a.tmps[43]?.getD undef = (.bool true) := hst.fact 27 43 (by kernel_rfl) dd; clear dd)
        go_simp
        exact hK _ _ (Below.refl _ _) rfl
      case refine_30 =>
        (refine ⟨_, rfl, Nat.le_of_ble_eq_true rfl, fun listed a W hst hn hdep K hK => ?_⟩; have dd := dep_of hdep 28 (by kernel_rfl); have e1 : a.tmps[44]?.getD undef = (.bool true) := hst.fact 28 44 (by kernel_rfl) dd; clear dd; go_simp; exact hK _ _ (Below.refl _ _) rfl)
    case refine_3 =>
      rintro ⟨⟨tm5⟩, df5⟩ W9 listed5 hl5 hst5
      obtain rfl : df5 = [] := hst5.defers
      have s6 : _ = _ := hst5.fact 29 2 (by kernel_rfl) (hl5 29 (Nat.le_of_ble_eq_true rfl))
      have hsz5 : tm5.length = 45 := hst5.size
      have hg5 := hst5.glob
      clear hst5 hl5
      ((repeat (have hh := arr_succ hsz5; clear hsz5; obtain ⟨_, tm5, rfl, hsz5⟩ := hh)); (obtain rfl := List.eq_nil_of_length_eq_zero hsz5))
      simp at s6
      subst s6
      have HG5 := Lib.hid hg5
      clear hg5
      go_wp2_with fail
      go_ret
      exact ⟨rfl, HBE.out _ HG5.out⟩

theorem own : ownKnob Tryz.prog.godebug = none := by kernel_rfl

set_option maxRecDepth 100000 in
theorem lifted (os : Os) (started : os.Started) (H : Type) (enc : TypeId × Value → H) (F : Stop.Interp) :
    ReturnsInHanded {} Tryz.checked os 4 .any ((Rows.OpenSpec.upto Rows.confNormalSpec).pre6 enc Tryz.prog Tryz.f4 Rows.confNormalUptoRow.domain false) (((Rows.OpenSpec.upto Rows.confNormalSpec).at F).post enc Tryz.prog Tryz.f4 false true false false) := by
  refine returnsInHanded_of_cond (C := Tryz.checked) (s := Rows.OpenSpec.upto Rows.confNormalSpec) (k := Rows.uptoSmall) rfl own started (by kernel_rfl) Tryz.func4
    (OpenSpec.witness (enc := enc) (C := Tryz.checked) (s := Rows.OpenSpec.upto Rows.confNormalSpec) (k := Rows.uptoSmall) rfl false ⟨#[], #[.agg #[.int .u64 0, .slice none 0 0, .slice none 0 0, .slice none 0 0, .slice none 0 0, .slice none 0 0]], []⟩ 8 (by kernel_rfl) (by kernel_rfl) (by kernel_rfl)
      (x := ([.agg [.lit (.int .u64 0), .nil, .nil, .nil, .nil, .nil]], [], [])) (by kernel_rfl) rfl (by kernel_rfl)) ?_
  intro W base args ds gs before hval0 hW _ hk _
  have hval : ∀ (j : Nat) t v, Tryz.f4.params[j]? = some t → args[j]? = some v → Value.okWide Tryz.prog W .any base t v := hval0
  have hW' := hW
  obtain ⟨p, q, hA0, hV, rfl, hfz, hnd⟩ := hW
  have hA : DataW.TrodAll enc Tryz.prog W 0 (fun _ => true) true Tryz.f4.params.toList args.toList ds p := hA0
  rw [Tryz.params4] at hA hval
  obtain ⟨v0, vs0, d0, ds0, p0, q0, hargs, rfl, rfl, h0, r0⟩ := trodAll_cons hA
  obtain ⟨rfl, rfl, rfl⟩ := trodAll_nil r0
  obtain rfl : args = #[v0] := by cases args; simp_all
  obtain ⟨rfl, rfl⟩ := trodVars_none hV
  have hk2 : Rows.uptoBulk d0 + 0 ≤ 1048576 := of_decide_eq_true hk
  obtain ⟨ca, qa, rfl, hca, hba⟩ := open_cfgB (hval 0 30 v0 rfl rfl) h0
  clear hA0 hval0
  simp only [List.append_nil] at hW'
  refine (walk ca qa W hca (by unfold sizes; omega)).mono fun e W' ⟨he, hg⟩ => ?_
  subst he
  exact law_post (by kernel_rfl) rfl rfl (by kernel_rfl) (by kernel_rfl) Tryz.underlying4 hW' hg

theorem over : Rows.confNormalUptoRow.holds Tryz.pinned (Rows.OpenSpec.upto Rows.confNormalSpec) :=
  OpenClaim.holds_of_cond 4 Tryz.f4 rfl rfl rfl rfl rfl rfl rfl ⟨rfl, rfl, rfl, rfl, rfl⟩ rfl rfl rfl rfl rfl (by kernel_rfl) Tryz.func4 (by kernel_rfl)
    (of_decide_eq_true (by kernel_rfl)) (by unfold Func.isWrapper; first | (rw [if_pos (by decide +kernel)]; kernel_rfl) | (rw [if_neg (by decide +kernel)]; exact ⟨rfl, rfl⟩))
    (fun os started H enc _ F => lifted os started H enc F)

/-- WHAT IS PROVED. -/
theorem proved : Rows.ConfNormalUptoSaid :=
  over

end Go.Proofs.YtbfclodkchmfnaaGreat.LawNormal
