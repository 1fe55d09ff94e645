/-
  The law ConfSame returns true where what it reads is of bulk at most 1048576: for all pairs of configurations, Same returns the result of the reference; a clone is the same, and changing it does not change the configuration. By the verifier.
-/
import Derived.Test.YtbilgnejipekpaaGreatSKin
import Derived.Test.YtbilgnejipekpaaGreatLBulk
import Derived.Test.YtbilgnejipekpaaGreatPAlv
import Derived.JoinedCond
set_option linter.unusedVariables false
namespace Go.Proofs.YtbilgnejipekpaaGreat.LawSame
open Go.RowKit Go.ChangeShapes Go.WideShapes Go.ChangeAt

theorem getD_bool {l : Array Value} {i : Nat} {b : Bool} (h : l[i]?.getD undef = .bool b) : l[i]? = some (.bool b) := by
  cases hl : l[i]? with
  | none => rw [hl] at h; cases h
  | some v => rw [hl] at h; exact congrArg some h

theorem same_refl (a : ConfR) : sameV a a = true := sameV_yes rfl fun _ _ _ => rfl

theorem meas {n k : Nat} (h : k < n) (hw : wrap64 ((k : Int) + 1) = (k : Int) + 1) : n - (intOf (.int .i64 (wrap64 ((k : Int) + 1)))).toNat < n - (intOf (.int .i64 (k : Int))).toNat := by
  rw [hw]
  simp only [intOf]
  omega

theorem nxt {k : Nat} (hw : wrap64 ((k : Int) + 1) = (k : Int) + 1) : (Value.int .i64 (wrap64 ((k : Int) + 1)) : Value) = .int .i64 ((k + 1 : Nat) : Int) := by
  rw [hw]
  rfl

def sizes (c : ConfR) : Nat := c.ps.length + c.ws.length + c.rs.length + c.ts.length + c.cs.length + c.links

set_option maxHeartbeats 8000000 in
set_option maxRecDepth 100000 in
theorem walk (ca cb : ConfR) (p q : CfgQ) (w : World) (h1 : CfgIn w ca p) (h2 : CfgIn w cb q) (ha : sizes ca ≤ 1048576) (hb : sizes cb ≤ 1048576) : Calls Tryz.prog 7 #[cfgV ca p, cfgV cb q] w fun e w' => e = .returned (.bool true) ∧ Below w.heap.size w w' := by
  have hT := TwoIn.start h1 h2
  obtain ⟨CA, hCA⟩ : ∃ CA, CA = cfgA ca p := ⟨_, rfl⟩
  obtain ⟨CB, hCB⟩ : ∃ CB, CB = cfgA cb q := ⟨_, rfl⟩
  have HCA := Lib.hid hCA
  have HCB := Lib.hid hCB
  have hv1 : cfgV ca p = .agg CA := by rw [hCA]; rfl
  have hv2 : cfgV cb q = .agg CB := by rw [hCB]; rfl
  have HZ1 : Hid (CA.size = 6) := Lib.hid (by rw [hCA]; rfl)
  have HZ2 : Hid (CB.size = 6) := Lib.hid (by rw [hCB]; rfl)
  have HB1 : Hid (∀ W, TwoIn w ca cb p q W → W.heap[w.heap.size]? = some (.cells CA 29)) := Lib.hid fun W hW => by rw [hCA]; exact hW.b1
  have HB2 : Hid (∀ W, TwoIn w ca cb p q W → W.heap[w.heap.size + 1]? = some (.cells CB 29)) := Lib.hid fun W hW => by rw [hCB]; exact hW.b2
  have HAL := Lib.hid alive_ok
  have HFA : Hid (∀ W, TwoIn w ca cb p q W → Calls Tryz.prog 9 #[.agg CA] W fun e w' => e = .returned (.bool (fewV ca)) ∧ Below W.heap.size W w') := Lib.hid fun W hW => by rw [hCA]; exact few_ok ca p W hW.c1
  have HFB : Hid (∀ W, TwoIn w ca cb p q W → Calls Tryz.prog 9 #[.agg CB] W fun e w' => e = .returned (.bool (fewV cb)) ∧ Below W.heap.size W w') := Lib.hid fun W hW => by rw [hCB]; exact few_ok cb q W hW.c2
  have HSA : Hid (fewV ca = true → Small ca 1000 ∧ Short ca ∧ Ds ca) := Lib.hid fun h => few_small h ha
  have HSB : Hid (fewV cb = true → Small cb 1000 ∧ Short cb ∧ Ds cb) := Lib.hid fun h => few_small h hb
  have HOK := Lib.hid h1.nums
  rw [← hCA, ← hCB] at hT
  have HT := Lib.hid hT
  rw [hv1, hv2]
  generalize hfa : fewV ca = fa at *
  generalize hfb : fewV cb = fb at *
  clear hCA hCB hfa hfb hv1 hv2 hT h1 h2 ha hb
  go_enter Tryz.func7, Tryz.ntmps7
  cases fa with
  | false =>
    go_wp2_with (first
      | (with_reducible refine load_cfg rfl (.tmp 2) rfl w.heap.size rfl CA HZ1.out (HB1.out _ HT.out) ?_)
      | (go_at_call 9; refine (HFA.out _ HT.out).mono ?_; rintro e w1 ⟨rfl, hb1⟩; have HT1 := Lib.hid (HT.out.more hb1); clear hb1 HT)
      | (go_at_call 10; refine (HAL.out _).mono ?_; rintro e w2 ⟨rfl, hb2⟩; have HT2 := Lib.hid (HT1.out.more hb2); clear hb2))
    go_ret
    exact ⟨rfl, HT2.out.below⟩
  | true =>
  cases fb with
  | false =>
    go_wp2_with (first
      | (with_reducible refine load_cfg rfl (.tmp 2) rfl w.heap.size rfl CA HZ1.out (HB1.out _ HT.out) ?_)
      | (go_at_call 9; refine (HFA.out _ HT.out).mono ?_; rintro e w1 ⟨rfl, hb1⟩; have HT1 := Lib.hid (HT.out.more hb1); clear hb1 HT)
      | ((with_reducible refine load_cfgw ?_ (.tmp 3) rfl (w.heap.size + 1) rfl CB HZ2.out (HB2.out _ HT1.out) ?_); exact rfl)
      | (go_at_call 9; refine (HFB.out _ HT1.out).mono ?_; rintro e w2 ⟨rfl, hb2⟩; have HT2 := Lib.hid (HT1.out.more hb2); clear hb2)
      | (go_at_call 10; refine (HAL.out _).mono ?_; rintro e w3 ⟨rfl, hb3⟩; have HT3 := Lib.hid (HT2.out.more hb3); clear hb3))
    go_ret
    exact ⟨rfl, HT3.out.below⟩
  | true =>
    obtain ⟨sma, sha, dsa⟩ := HSA.out rfl
    obtain ⟨smb, shb, dsb⟩ := HSB.out rfl
    have HSM := Lib.hid (And.intro sma (And.intro sha (And.intro dsa (And.intro smb (And.intro shb dsb)))))
    clear sma sha dsa smb shb dsb HSA HSB
    go_wp2_with (first
      | (with_reducible refine load_cfg rfl (.tmp 2) rfl w.heap.size rfl CA HZ1.out (HB1.out _ HT.out) ?_)
      | (go_at_call 9; refine (HFA.out _ HT.out).mono ?_; rintro e w1 ⟨rfl, hb1⟩; have HT1 := Lib.hid (HT.out.more hb1); clear hb1 HT)
      | ((with_reducible refine load_cfgw ?_ (.tmp 3) rfl (w.heap.size + 1) rfl CB HZ2.out (HB2.out _ HT1.out) ?_); exact rfl)
      | (go_at_call 9; refine (HFB.out _ HT1.out).mono ?_; rintro e w2 ⟨rfl, hb2⟩; have HT2 := Lib.hid (HT1.out.more hb2); clear hb2)
      | (with_reducible refine load_cfg rfl (.tmp 2) rfl w.heap.size rfl CA HZ1.out (HB1.out _ HT2.out) ?_))
    have hcl := clone_ok ca p _ HT2.out.c1 HSM.out.1
    rw [show cfgV ca p = .agg CA by rw [HCA.out]; rfl] at hcl
    refine hcl.mono ?_
    rintro e w3 ⟨qx, rfl, hox, hbx⟩
    obtain ⟨X, hX⟩ : ∃ X, X = w3.heap.size := ⟨_, rfl⟩
    obtain ⟨W3, hW3⟩ : ∃ W3, W3 = w3.alloc (.cells #[.int .u64 (ca.frame : Int), .slice qx.A1 ca.ps.length qx.c1, .slice qx.A2 ca.ws.length qx.c2, .slice qx.A3 ca.rs.length qx.c3, .slice qx.A4 ca.ts.length qx.c4, .slice qx.A5 ca.cs.length qx.c5] 29) := ⟨_, rfl⟩
    have hb3 : Below w3.heap.size w3 W3 := by rw [hW3]; exact (Below.refl _ _).alloc (Nat.le_refl _) _
    have hxin := hox.cfg HOK.out HSM.out.1 (by omega)
    have htw := (HT2.out.more hbx).more hb3
    have HT3 : Hid (∀ W, Below W3.heap.size W3 W → TwoIn w ca cb p q W) := Lib.hid fun W hW => htw.more hW
    have HXC : Hid (∀ W, Below W3.heap.size W3 W → CfgIn W ca qx) := Lib.hid fun W hW => hxin.below (Nat.le_refl _) (hb3.trans (hW.mono hb3.size))
    have hs3 : W3.heap.size = X + 1 := by rw [hW3, hX]; simp
    have hxrow : W3.heap[X]? = some (.cells (cfgA ca qx) 29) := by rw [hW3, hX]; exact heap_alloc_new w3 _
    have HXB : Hid (∀ W, Below W3.heap.size W3 W → W.heap[X]? = some (.cells (cfgA ca qx) 29)) := Lib.hid fun W hW => (hW.block X (by omega)).trans hxrow
    generalize hs : sameV ca cb = s
    have HPS : Hid (∀ W, Below W3.heap.size W3 W → Calls Tryz.prog 27 #[.agg CA, .agg CB] W fun e w' => e = .returned (.bool s) ∧ Below W.heap.size W w') := Lib.hid fun W hW => by rw [HCA.out, HCB.out]; exact (psame_ok ca cb p q W (HT3.out W hW).c1 (HT3.out W hW).c2 HSM.out.2.2.1 HSM.out.2.2.2.2.2).mono fun e w' h => ⟨by rw [h.1, hs], h.2.1⟩
    have HRS : Hid (∀ W, Below W3.heap.size W3 W → Calls Tryz.prog 19 #[.agg CA, .agg CB] W fun e w' => e = .returned (.bool s) ∧ Below W.heap.size W w') := Lib.hid fun W hW => by rw [HCA.out, HCB.out]; exact (same_ok ca cb p q W (HT3.out W hW).c1 (HT3.out W hW).c2 HSM.out.2.1 HSM.out.2.2.2.2.1).mono fun e w' h => ⟨by rw [h.1, hs], h.2⟩
    have HXS : Hid (∀ W, Below W3.heap.size W3 W → Calls Tryz.prog 19 #[.agg (cfgA ca qx), .agg CA] W fun e w' => e = .returned (.bool true) ∧ Below W.heap.size W w') := Lib.hid fun W hW => by rw [HCA.out]; exact (same_ok ca ca qx p W (HXC.out W hW) (HT3.out W hW).c1 HSM.out.2.1 HSM.out.2.1).mono fun e w' h => ⟨by rw [h.1, same_refl], h.2⟩
    have HBX3 : Hid (w3.alloc (.cells #[.int .u64 (ca.frame : Int), .slice qx.A1 ca.ps.length qx.c1, .slice qx.A2 ca.ws.length qx.c2, .slice qx.A3 ca.rs.length qx.c3, .slice qx.A4 ca.ts.length qx.c4, .slice qx.A5 ca.cs.length qx.c5] 29) = W3) := Lib.hid hW3.symm
    have HX := Lib.hid hX
    clear hs hxrow hs3 htw hxin hb3 hW3 hX hox hbx HT1 HT2 HFA HFB
    unfold cfgV
    go_wp2_with fail
    rw [HBX3.out, ← HX.out]
    clear HBX3
    refine region_inv [] W3 [(25, Sp.val (.agg CA)), (26, Sp.val (.agg CB)), (27, Sp.val (.bool s)), (28, Sp.val (.agg CA)), (29, Sp.val (.agg CB)), (30, Sp.val (.bool s)), (31, Sp.val (.bool false)), (32, Sp.val (.bool false)), (33, Sp.val (.agg (cfgA ca qx))), (34, Sp.val (.agg CA)), (35, Sp.val (.bool true)), (36, Sp.val (.bool false)), (37, Sp.val (.bool false))] [] rfl (by kernel_rfl) ?_ (by kernel_rfl) ?_ ?_
    case refine_1 => exact (Below.refl _ _).drew
    case refine_2 =>
      refine ⟨?_, ?_, ?_, ?_, ?_, ?_, ?_, ?_, ?_, ?_, ?_, ?_, ?_, trivial⟩
      case refine_1 =>
        refine ⟨_, rfl, Nat.le_of_ble_eq_true rfl, fun listed a W hst hn hdep K hK => ?_⟩
        (have e1 := hst.oldOf hn 2 (by kernel_rfl) rfl; simp only [Array.getD_eq_getD_getElem?] at e1)
        refine inv_cfg (by simp [Region.wanted]) (.tmp 2) rfl w.heap.size ((eval_tmp a 2).trans e1) (CA) (HZ1.out) (HB1.out W (HT3.out W hst.glob)) ?_
        exact hK _ _ (Or.inr (Below.refl _ _)) hst.glob (Sp.of_val rfl) trivial
      case refine_2 =>
        refine ⟨_, rfl, Nat.le_of_ble_eq_true rfl, fun listed a W hst hn hdep K hK => ?_⟩
        (have e1 := hst.oldOf hn 3 (by kernel_rfl) rfl; simp only [Array.getD_eq_getD_getElem?] at e1)
        refine inv_cfg (by simp [Region.wanted]) (.tmp 3) rfl (w.heap.size + 1) ((eval_tmp a 3).trans e1) (CB) (HZ2.out) (HB2.out W (HT3.out W hst.glob)) ?_
        exact hK _ _ (Or.inr (Below.refl _ _)) hst.glob (Sp.of_val rfl) trivial
      case refine_3 =>
        refine ⟨_, rfl, Nat.le_of_ble_eq_true rfl, fun listed a W hst hn hdep K hK => ?_⟩
        (have dd := dep_of hdep 0 (by kernel_rfl); have e1 := hst.valOf 0 25 (by kernel_rfl) dd rfl; clear dd)
        (have dd := dep_of hdep 1 (by kernel_rfl); have e2 := hst.valOf 1 26 (by kernel_rfl) dd rfl; clear dd)
        go_simp
        go_wp2_with (go_at_call 27; with_reducible refine (HPS.out W hst.glob).mono ?_; rintro e w1 ⟨rfl, hb⟩)
        exact hK _ _ (Or.inr hb) (hst.glob.trans (Below.mono hb hst.glob.size)) (Sp.of_val rfl) trivial
      case refine_4 =>
        refine ⟨_, rfl, Nat.le_of_ble_eq_true rfl, fun listed a W hst hn hdep K hK => ?_⟩
        (have e1 := hst.oldOf hn 2 (by kernel_rfl) rfl; simp only [Array.getD_eq_getD_getElem?] at e1)
        refine inv_cfg (by simp [Region.wanted]) (.tmp 2) rfl w.heap.size ((eval_tmp a 2).trans e1) (CA) (HZ1.out) (HB1.out W (HT3.out W hst.glob)) ?_
        exact hK _ _ (Or.inr (Below.refl _ _)) hst.glob (Sp.of_val rfl) trivial
      case refine_5 =>
        refine ⟨_, rfl, Nat.le_of_ble_eq_true rfl, fun listed a W hst hn hdep K hK => ?_⟩
        (have e1 := hst.oldOf hn 3 (by kernel_rfl) rfl; simp only [Array.getD_eq_getD_getElem?] at e1)
        refine inv_cfg (by simp [Region.wanted]) (.tmp 3) rfl (w.heap.size + 1) ((eval_tmp a 3).trans e1) (CB) (HZ2.out) (HB2.out W (HT3.out W hst.glob)) ?_
        exact hK _ _ (Or.inr (Below.refl _ _)) hst.glob (Sp.of_val rfl) trivial
      case refine_6 =>
        refine ⟨_, rfl, Nat.le_of_ble_eq_true rfl, fun listed a W hst hn hdep K hK => ?_⟩
        (have dd := dep_of hdep 3 (by kernel_rfl); have e1 := hst.valOf 3 28 (by kernel_rfl) dd rfl; clear dd)
        (have dd := dep_of hdep 4 (by kernel_rfl); have e2 := hst.valOf 4 29 (by kernel_rfl) dd rfl; clear dd)
        go_simp
        go_wp2_with (go_at_call 19; with_reducible refine (HRS.out W hst.glob).mono ?_; rintro e w1 ⟨rfl, hb⟩)
        exact hK _ _ (Or.inr hb) (hst.glob.trans (Below.mono hb hst.glob.size)) (Sp.of_val rfl) trivial
      case refine_7 =>
        refine ⟨_, rfl, Nat.le_of_ble_eq_true rfl, fun listed a W hst hn hdep K hK => ?_⟩
        (have dd := dep_of hdep 2 (by kernel_rfl); have e1 := hst.valOf 2 27 (by kernel_rfl) dd rfl; clear dd)
        (have dd := dep_of hdep 5 (by kernel_rfl); have e2 := hst.valOf 5 30 (by kernel_rfl) dd rfl; clear dd)
        go_simp
        cases s <;> exact hK _ _ (Or.inr (Below.refl _ _)) hst.glob (Sp.of_val rfl) trivial
      case refine_8 => (refine ⟨_, rfl, Nat.le_of_ble_eq_true rfl, fun listed a W hst hn hdep K hK => ?_⟩; (have dd := dep_of hdep 6 (by kernel_rfl); have e1 := hst.valOf 6 31 (by kernel_rfl) dd rfl; clear dd); go_simp; exact hK _ _ (Or.inr (Below.refl _ _)) hst.glob (Sp.of_val rfl) trivial)
      case refine_9 =>
        refine ⟨_, rfl, Nat.le_of_ble_eq_true rfl, fun listed a W hst hn hdep K hK => ?_⟩
        (have dd := dep_of hdep 7 (by kernel_rfl); have g1 := hst.valOf 7 32 (by kernel_rfl) dd rfl; clear dd)
        have g2 := getD_bool g1
        (have e1 := hst.oldOf hn 5 (by kernel_rfl) rfl; simp only [Array.getD_eq_getD_getElem?] at e1)
        refine inv_cfg (by simp [Region.wanted, yielded, g2]) (.tmp 5) rfl X ((eval_tmp a 5).trans e1) (cfgA ca qx) (rfl) (HXB.out W hst.glob) ?_
        exact hK _ _ (Or.inr (Below.refl _ _)) hst.glob (Sp.of_val rfl) trivial
      case refine_10 =>
        refine ⟨_, rfl, Nat.le_of_ble_eq_true rfl, fun listed a W hst hn hdep K hK => ?_⟩
        (have dd := dep_of hdep 7 (by kernel_rfl); have g1 := hst.valOf 7 32 (by kernel_rfl) dd rfl; clear dd)
        have g2 := getD_bool g1
        (have e1 := hst.oldOf hn 2 (by kernel_rfl) rfl; simp only [Array.getD_eq_getD_getElem?] at e1)
        refine inv_cfg (by simp [Region.wanted, yielded, g2]) (.tmp 2) rfl w.heap.size ((eval_tmp a 2).trans e1) (CA) (HZ1.out) (HB1.out W (HT3.out W hst.glob)) ?_
        exact hK _ _ (Or.inr (Below.refl _ _)) hst.glob (Sp.of_val rfl) trivial
      case refine_11 =>
        refine ⟨_, rfl, Nat.le_of_ble_eq_true rfl, fun listed a W hst hn hdep K hK => ?_⟩
        (have dd := dep_of hdep 7 (by kernel_rfl); have g1 := hst.valOf 7 32 (by kernel_rfl) dd rfl; clear dd)
        have g2 := getD_bool g1
        (have dd := dep_of hdep 8 (by kernel_rfl); have e1 := hst.valOf 8 33 (by kernel_rfl) dd rfl; clear dd)
        (have dd := dep_of hdep 9 (by kernel_rfl); have e2 := hst.valOf 9 34 (by kernel_rfl) dd rfl; clear dd)
        go_simp
        go_wp2_with (go_at_call 19; with_reducible refine (HXS.out W hst.glob).mono ?_; rintro e w1 ⟨rfl, hb⟩)
        exact hK _ _ (Or.inr hb) (hst.glob.trans (Below.mono hb hst.glob.size)) (Sp.of_val rfl) trivial
      case refine_12 =>
        refine ⟨_, rfl, Nat.le_of_ble_eq_true rfl, fun listed a W hst hn hdep K hK => ?_⟩
        (have dd := dep_of hdep 7 (by kernel_rfl); have g1 := hst.valOf 7 32 (by kernel_rfl) dd rfl; clear dd)
        have g2 := getD_bool g1
        (have dd := dep_of hdep 10 (by kernel_rfl); have e1 := hst.valOf 10 35 (by kernel_rfl) dd rfl; clear dd)
        go_simp
        exact hK _ _ (Or.inr (Below.refl _ _)) hst.glob (Sp.of_val rfl) trivial
      case refine_13 =>
        refine ⟨_, rfl, Nat.le_of_ble_eq_true rfl, fun listed a W hst hn hdep K hK => ?_⟩
        (have dd := dep_of hdep 7 (by kernel_rfl); have e1 := hst.valOf 7 32 (by kernel_rfl) dd rfl; clear dd)
        (have dd := dep_of hdep 11 (by kernel_rfl); have e2 := hst.valOf 11 36 (by kernel_rfl) dd rfl; clear dd)
        go_simp
        exact hK _ _ (Or.inr (Below.refl _ _)) hst.glob (Sp.of_val rfl) trivial
    case refine_3 =>
      rintro ⟨⟨tm⟩, df⟩ W4 listed hl hst
      obtain rfl : df = [] := hst.defers
      have s2 := hst.oldEnd 2 (by kernel_rfl) rfl
      have s5 := hst.oldEnd 5 (by kernel_rfl) rfl
      have s37 := hst.valOf 12 37 (by kernel_rfl) (hl 12 (Nat.le_of_ble_eq_true rfl)) rfl
      have hsz : tm.length = 132 := hst.size
      have hglob := hst.glob
      clear hst hl
      ((repeat (have hh := arr_succ hsz; clear hsz; obtain ⟨_, tm, rfl, hsz⟩ := hh)); (obtain rfl := List.eq_nil_of_length_eq_zero hsz))
      simp at s2 s5 s37
      subst s2 s5 s37
      have HG := Lib.hid hglob
      clear hglob HPS HRS
      go_wp2_with (with_reducible refine load_cfg rfl (.tmp 5) rfl X rfl (cfgA ca qx) rfl (HXB.out _ HG.out) ?_)
      have hcl2 := clone_ok ca qx W4 (HXC.out W4 HG.out) HSM.out.1
      rw [show cfgV ca qx = .agg (cfgA ca qx) from rfl] at hcl2
      refine hcl2.mono ?_
      rintro e w5 ⟨qy, rfl, hoy, hby⟩
      obtain ⟨B, hB⟩ : ∃ B, B = W4.heap.size := ⟨_, rfl⟩
      obtain ⟨Y, hY⟩ : ∃ Y, Y = w5.heap.size := ⟨_, rfl⟩
      obtain ⟨W5, hW5⟩ : ∃ W5, W5 = w5.alloc (.cells #[.int .u64 (ca.frame : Int), .slice qy.A1 ca.ps.length qy.c1, .slice qy.A2 ca.ws.length qy.c2, .slice qy.A3 ca.rs.length qy.c3, .slice qy.A4 ca.ts.length qy.c4, .slice qy.A5 ca.cs.length qy.c5] 29) := ⟨_, rfl⟩
      have hb5 : Below w5.heap.size w5 W5 := by rw [hW5]; exact (Below.refl _ _).alloc (Nat.le_refl _) _
      have hyin := (hoy.cfg HOK.out HSM.out.1 (by omega)).below (Nat.le_refl _) hb5
      have hoy5 := keptOwn hoy hb5
      rw [← hB] at hoy5
      have hyrow : W5.heap[Y]? = some (.cells (cfgA ca qy) 29) := by rw [hW5, hY]; exact heap_alloc_new w5 _
      have hyc : ∀ n v, (cfgA ca qy)[n]? = some v → (∀ k x, v ≠ .int k x) → ∀ W, Kin B W5 W → W.cell? ⟨Y, n, none⟩ = some v := fun n v h1 h2 W hW => hW.old _ _ (by rw [cell_of_row W5 Y n _ _ _ hyrow]; exact h1) h2
      have HY1 := Lib.hid (hyc 1 (.slice qy.A1 ca.ps.length qy.c1) rfl (fun k x h => by cases h))
      have HY2 := Lib.hid (hyc 2 (.slice qy.A2 ca.ws.length qy.c2) rfl (fun k x h => by cases h))
      have HY3 := Lib.hid (hyc 3 (.slice qy.A3 ca.rs.length qy.c3) rfl (fun k x h => by cases h))
      have HY4 := Lib.hid (hyc 4 (.slice qy.A4 ca.ts.length qy.c4) rfl (fun k x h => by cases h))
      have HY5 := Lib.hid (hyc 5 (.slice qy.A5 ca.cs.length qy.c5) rfl (fun k x h => by cases h))
      have HR1 := Lib.hid (fun k (hk : k < ca.ps.length) => kin_rec (kd := .u16) hoy5.ps hyin.ps partV_len (by omega) (fun x => ⟨_, rfl⟩) hk)
      have HR2 := Lib.hid (fun k (hk : k < ca.ws.length) => kin_rec (kd := .u64) hoy5.ws hyin.ws winV_len (by omega) (fun x => ⟨_, rfl⟩) hk)
      have HR3 := Lib.hid (fun k (hk : k < ca.rs.length) => kin_rec (kd := .u64) hoy5.rs hyin.rs (fun _ => rfl) (by omega) (fun x => ⟨_, rfl⟩) hk)
      have HR4 := Lib.hid (fun k (hk : k < ca.ts.length) => kin_rec (kd := .u16) hoy5.ts hyin.ts (fun _ => rfl) (by omega) (fun x => ⟨_, rfl⟩) hk)
      have HR5 : Hid (∀ k, k < ca.cs.length → ∃ b o, qy.A5 = some ⟨b, o, none⟩ ∧ ∀ W, Kin B W5 W → ∃ z0 z1 xA m xc, W.cell? ⟨b, o + k * 3, none⟩ = some (.int .u16 z0) ∧ W.cell? ⟨b, o + k * 3 + 1, none⟩ = some (.int .u16 z1) ∧ W.cell? ⟨b, o + k * 3 + 2, none⟩ = some (.slice xA m xc) ∧ m ≤ 1000 ∧
          ∀ l, l < m → ∃ b' o', xA = some ⟨b', o', none⟩ ∧ ∀ W, Kin B W5 W → ∃ z, W.cell? ⟨b', o' + l, none⟩ = some (.int .u16 z) ∧ W.frozen? ⟨b', o' + l, none⟩ = false ∧ ∀ y, Kin B W5 (W.setCell ⟨b', o' + l, none⟩ (.int .u16 y))) := Lib.hid fun k hk => by
        have hkl : k < qy.ch.length := by rw [hyin.len5]; exact hk
        obtain ⟨b, o, hA, hall⟩ := kin_chan (B := B) hyin.cs hkl
        refine ⟨b, o, hA, fun W hW => ?_⟩
        obtain ⟨z0, z1, d0, d1, d2⟩ := hall W hW
        have hmem : qy.ch[k] ∈ qy.ch := List.getElem_mem hkl
        exact ⟨z0, z1, _, _, _, d0, d1, d2, HSM.out.1.ds _ (by rw [← hyin.ch]; exact List.mem_map_of_mem hmem), fun l hl => kin_dest (hoy5.ds _ hmem) hl⟩
      have HLEN : Hid (ca.ps.length ≤ 1000 ∧ ca.ws.length ≤ 1000 ∧ ca.rs.length ≤ 1000 ∧ ca.ts.length ≤ 1000 ∧ ca.cs.length ≤ 1000) := Lib.hid ⟨HSM.out.1.ps, HSM.out.1.ws, HSM.out.1.rs, HSM.out.1.ts, HSM.out.1.cs⟩
      have HBS : Hid (B ≤ W5.heap.size) := Lib.hid (by rw [hB]; exact Nat.le_trans hby.size hb5.size)
      have HB4 : Hid (∀ W, Kin B W5 W → Below W4.heap.size W4 W) := Lib.hid fun W hW => by
        have h1 := hW.below
        rw [hB] at h1
        exact (hby.trans (hb5.mono hby.size)).trans h1
      have HK0 : Hid (Kin B W5 W5) := Lib.hid (Kin.refl _ _)
      have HBX5 : Hid (w5.alloc (.cells #[.int .u64 (ca.frame : Int), .slice qy.A1 ca.ps.length qy.c1, .slice qy.A2 ca.ws.length qy.c2, .slice qy.A3 ca.rs.length qy.c3, .slice qy.A4 ca.ts.length qy.c4, .slice qy.A5 ca.cs.length qy.c5] 29) = W5) := Lib.hid hW5.symm
      have HYX := Lib.hid hY
      clear hyc hyrow hoy5 hyin hb5 hW5 hY hB hby hoy hcl2
      have hyv := HY1.out W5 HK0.out
      unfold cfgV
      go_wp2_with fail
      rw [HBX5.out, ← HYX.out]
      clear hyv HBX5
      go_loopw [43] (fun i wr => ∃ k : Nat, k ≤ ca.ps.length ∧ i = .int .i64 (k : Int) ∧ Hid (Kin B W5 wr)) (fun i _ => ca.ps.length - (intOf i).toNat)
      case atStart => exact ⟨0, by omega, rfl, HK0.out |> Lib.hid⟩
      case round =>
        obtain ⟨k, hk, rfl, ho⟩ := hrel
        have hml := HLEN.out
        by_cases hlt : k < ca.ps.length
        · have hki : (k : Int) < (ca.ps.length : Int) := by omega
          obtain ⟨b', o', hA, hall⟩ := HR1.out k hlt
          obtain ⟨z, hz, hfz, hkin⟩ := hall wr ho.out
          have y1 := HY1.out wr ho.out
          rw [hA] at y1
          have HKI := Lib.hid hkin
          have hws : wrap64 ((k : Int) + 1) = (k : Int) + 1 := by unfold wrap64; omega
          clear hall hkin hA hml
          go_wp2_with fail
          go_roundw
          case rel => exact ⟨k + 1, hlt, nxt hws, Lib.hid (HKI.out _)⟩
          case measure => exact meas hlt hws
        · have hki : ¬ (k : Int) < (ca.ps.length : Int) := by omega
          have HK1 := ho
          clear hlt hk ho hml
          obtain ⟨wk1, hwk1⟩ : ∃ wk, wk = wr := ⟨_, rfl⟩
          rw [← hwk1] at HK1 ⊢
          clear hwk1
          have y2 := HY2.out _ HK1.out
          go_wp2_with fail
          clear y2
          go_loopw [59] (fun i wr => ∃ k : Nat, k ≤ ca.ws.length ∧ i = .int .i64 (k : Int) ∧ Hid (Kin B W5 wr)) (fun i _ => ca.ws.length - (intOf i).toNat)
          case atStart => exact ⟨0, by omega, rfl, HK1.out |> Lib.hid⟩
          case round =>
            obtain ⟨k, hk, rfl, ho⟩ := hrel
            have hml := HLEN.out
            by_cases hlt : k < ca.ws.length
            · have hki : (k : Int) < (ca.ws.length : Int) := by omega
              obtain ⟨b', o', hA, hall⟩ := HR2.out k hlt
              obtain ⟨z, hz, hfz, hkin⟩ := hall wr ho.out
              have y2 := HY2.out wr ho.out
              rw [hA] at y2
              have HKI := Lib.hid hkin
              have hws : wrap64 ((k : Int) + 1) = (k : Int) + 1 := by unfold wrap64; omega
              clear hall hkin hA hml
              go_wp2_with fail
              go_roundw
              case rel => exact ⟨k + 1, hlt, nxt hws, Lib.hid (HKI.out _)⟩
              case measure => exact meas hlt hws
            · have hki : ¬ (k : Int) < (ca.ws.length : Int) := by omega
              have HK2 := ho
              clear hlt hk ho hml
              obtain ⟨wk2, hwk2⟩ : ∃ wk, wk = wr := ⟨_, rfl⟩
              rw [← hwk2] at HK2 ⊢
              clear hwk2
              have y3 := HY3.out _ HK2.out
              go_wp2_with fail
              clear y3
              go_loopw [75] (fun i wr => ∃ k : Nat, k ≤ ca.rs.length ∧ i = .int .i64 (k : Int) ∧ Hid (Kin B W5 wr)) (fun i _ => ca.rs.length - (intOf i).toNat)
              case atStart => exact ⟨0, by omega, rfl, HK2.out |> Lib.hid⟩
              case round =>
                obtain ⟨k, hk, rfl, ho⟩ := hrel
                have hml := HLEN.out
                by_cases hlt : k < ca.rs.length
                · have hki : (k : Int) < (ca.rs.length : Int) := by omega
                  obtain ⟨b', o', hA, hall⟩ := HR3.out k hlt
                  obtain ⟨z, hz, hfz, hkin⟩ := hall wr ho.out
                  have y3 := HY3.out wr ho.out
                  rw [hA] at y3
                  have HKI := Lib.hid hkin
                  have hws : wrap64 ((k : Int) + 1) = (k : Int) + 1 := by unfold wrap64; omega
                  clear hall hkin hA hml
                  go_wp2_with fail
                  go_roundw
                  case rel => exact ⟨k + 1, hlt, nxt hws, Lib.hid (HKI.out _)⟩
                  case measure => exact meas hlt hws
                · have hki : ¬ (k : Int) < (ca.rs.length : Int) := by omega
                  have HK3 := ho
                  clear hlt hk ho hml
                  obtain ⟨wk3, hwk3⟩ : ∃ wk, wk = wr := ⟨_, rfl⟩
                  rw [← hwk3] at HK3 ⊢
                  clear hwk3
                  have y4 := HY4.out _ HK3.out
                  go_wp2_with fail
                  clear y4
                  go_loopw [91] (fun i wr => ∃ k : Nat, k ≤ ca.ts.length ∧ i = .int .i64 (k : Int) ∧ Hid (Kin B W5 wr)) (fun i _ => ca.ts.length - (intOf i).toNat)
                  case atStart => exact ⟨0, by omega, rfl, HK3.out |> Lib.hid⟩
                  case round =>
                    obtain ⟨k, hk, rfl, ho⟩ := hrel
                    have hml := HLEN.out
                    by_cases hlt : k < ca.ts.length
                    · have hki : (k : Int) < (ca.ts.length : Int) := by omega
                      obtain ⟨b', o', hA, hall⟩ := HR4.out k hlt
                      obtain ⟨z, hz, hfz, hkin⟩ := hall wr ho.out
                      have y4 := HY4.out wr ho.out
                      rw [hA] at y4
                      have HKI := Lib.hid hkin
                      have hws : wrap64 ((k : Int) + 1) = (k : Int) + 1 := by unfold wrap64; omega
                      clear hall hkin hA hml
                      go_wp2_with fail
                      go_roundw
                      case rel => exact ⟨k + 1, hlt, nxt hws, Lib.hid (HKI.out _)⟩
                      case measure => exact meas hlt hws
                    · have hki : ¬ (k : Int) < (ca.ts.length : Int) := by omega
                      have HK4 := ho
                      clear hlt hk ho hml
                      obtain ⟨wk4, hwk4⟩ : ∃ wk, wk = wr := ⟨_, rfl⟩
                      rw [← hwk4] at HK4 ⊢
                      clear hwk4
                      have y5 := HY5.out _ HK4.out
                      go_wp2_with fail
                      clear y5
                      go_loopw [107] (fun i wr => ∃ k : Nat, k ≤ ca.cs.length ∧ i = .int .i64 (k : Int) ∧ Hid (Kin B W5 wr)) (fun i _ => ca.cs.length - (intOf i).toNat)
                      case atStart => exact ⟨0, by omega, rfl, HK4.out |> Lib.hid⟩
                      case round =>
                        obtain ⟨k, hk, rfl, ho⟩ := hrel
                        have hml := HLEN.out
                        by_cases hlt : k < ca.cs.length
                        · have hki : (k : Int) < (ca.cs.length : Int) := by omega
                          obtain ⟨b', o', hA, hall⟩ := HR5.out k hlt
                          obtain ⟨z0, z1, xA, m, xc, d0, d1, d2, hm, hdest⟩ := hall wr ho.out
                          have HDE := Lib.hid hdest
                          have HO := Lib.hid ho.out
                          obtain ⟨W6, hW6⟩ : ∃ W6, W6 = wr.alloc (.cells #[.int .u16 z0, .int .u16 z1, .slice xA m xc] 44) := ⟨_, rfl⟩
                          have HBX : Hid (wr.alloc (.cells #[.int .u16 z0, .int .u16 z1, .slice xA m xc] 44) = W6) := Lib.hid hW6.symm
                          have HK6 : Hid (Kin B W5 W6 ∧ Kin B wr W6) := Lib.hid (by
                            rw [hW6]
                            have hs : B ≤ wr.heap.size := Nat.le_trans HBS.out ho.out.below.size
                            exact ⟨ho.out.alloc hs ho.out.below.size _, (Kin.refl B wr).alloc hs (Nat.le_refl _) _⟩)
                          have hx2 : W6.cell? ⟨wr.heap.size, 2, none⟩ = some (.slice xA m xc) := by
                            rw [hW6]
                            exact cell_of_row _ _ 2 _ _ _ (heap_alloc_new wr _)
                          have HX2 : Hid (∀ W, Kin B W6 W → W.cell? ⟨wr.heap.size, 2, none⟩ = some (.slice xA m xc)) := Lib.hid fun W hW => hW.old _ _ hx2 (fun k x h => by cases h)
                          have HM := Lib.hid hm
                          have HBD : Hid (∀ l, l < m → ∀ bd od, xA = some ⟨bd, od, none⟩ → bd < wr.heap.size) := Lib.hid fun l hl bd od he => by
                            obtain ⟨b1, o1, e1, e2⟩ := HDE.out l hl
                            rw [e1] at he
                            injection he with he
                            injection he with e3 e4
                            subst e3
                            obtain ⟨z, hz, -⟩ := e2 wr HO.out
                            exact World.block_lt_of_cell? wr _ hz
                          have HI0 : Hid (Kin B W5 W6 ∧ W6.cell? ⟨wr.heap.size, 2, none⟩ = some (.slice xA m xc)) := Lib.hid ⟨HK6.out.1, hx2⟩
                          have HWK : Hid (wrap64 ((k : Int) + 1) = (k : Int) + 1) := Lib.hid (by unfold wrap64; omega)
                          rw [hA]
                          clear hall hdest hA hml hW6 ho hx2 hm HX2 HK6 HO
                          go_wp2_with fail
                          rw [HBX.out]
                          clear d0 d1 d2 HBX
                          generalize hV : wr.heap.size = V at *
                          go_loopw [114] (fun i wr => ∃ l : Nat, l ≤ m ∧ i = .int .i64 (l : Int) ∧ Hid (Kin B W5 wr ∧ wr.cell? ⟨V, 2, none⟩ = some (.slice xA m xc))) (fun i _ => m - (intOf i).toNat)
                          case atStart => exact ⟨0, by omega, rfl, HI0⟩
                          case round =>
                            obtain ⟨l, hl, rfl, ho⟩ := hrel
                            have hml := HM.out
                            by_cases hll : l < m
                            · have hkl : (l : Int) < (m : Int) := by omega
                              obtain ⟨bd, od, hxA, hd⟩ := HDE.out l hll
                              obtain ⟨z, hz, hfz, hkin⟩ := hd wr ho.out.1
                              have hbd := HBD.out l hll bd od hxA
                              have x2 := ho.out.2
                              have HX2 := Lib.hid x2
                              have HNE : Hid (bd ≠ V) := Lib.hid (by omega)
                              rw [hxA] at x2
                              have HKI := Lib.hid hkin
                              have hws : wrap64 ((l : Int) + 1) = (l : Int) + 1 := by unfold wrap64; omega
                              clear hd hkin hxA hml hbd
                              go_wp2_with fail
                              go_roundw
                              case rel => exact ⟨l + 1, hll, nxt hws, Lib.hid ⟨HKI.out _, (World.cell?_setCell_other _ _ _ _ (fun e => HNE.out (congrArg Addr.block e))).trans HX2.out⟩⟩
                              case measure => exact meas hll hws
                            · have hkl : ¬ (l : Int) < (m : Int) := by omega
                              have HKE := Lib.hid ho.out.1
                              clear hl ho hml
                              have hwk := HWK.out
                              go_wp2_with fail
                              go_roundw
                              case rel => exact ⟨k + 1, hlt, nxt hwk, HKE⟩
                              case measure => exact meas hlt hwk
                        · have hki : ¬ (k : Int) < (ca.cs.length : Int) := by omega
                          have HBZ : Hid (Below W3.heap.size W3 wr) := Lib.hid (HG.out.trans ((HB4.out wr ho.out).mono HG.out.size))
                          clear hk hlt hml ho
                          go_wp2_with (first
                            | (go_at_call 10; refine (HAL.out _).mono ?_; rintro e w6 ⟨rfl, hb6⟩; have HBZ2 := Lib.hid (HBZ.out.trans (hb6.mono HBZ.out.size)); clear hb6 HBZ)
                            | ((with_reducible refine load_cfgw ?_ (.tmp 5) rfl X rfl (cfgA ca qx) rfl (HXB.out _ HBZ2.out) ?_); exact rfl)
                            | ((with_reducible refine load_cfgw ?_ (.tmp 2) rfl w.heap.size rfl CA HZ1.out (HB1.out _ (HT3.out _ HBZ2.out)) ?_); exact rfl)
                            | (go_at_call 19; refine (HXS.out _ HBZ2.out).mono ?_; rintro e w7 ⟨rfl, hb7⟩; have HBZ3 := Lib.hid (HBZ2.out.trans (hb7.mono HBZ2.out.size)); clear hb7 HBZ2))
                          go_ret
                          exact ⟨rfl, (HT3.out _ HBZ3.out).below⟩

theorem own : ownKnob Tryz.prog.godebug = none := by kernel_rfl

set_option maxRecDepth 100000 in
theorem lifted (os : Os) (started : os.Started) (H : Type) (enc : TypeId × Value → H) (F : Stop.Interp) :
    ReturnsInHanded {} Tryz.checked os 7 .any ((Rows.OpenSpec.upto Rows.confSameSpec).pre6 enc Tryz.prog Tryz.f7 Rows.confSameUptoRow.domain false) (((Rows.OpenSpec.upto Rows.confSameSpec).at F).post enc Tryz.prog Tryz.f7 false true false false) := by
  refine returnsInHanded_of_cond (C := Tryz.checked) (s := Rows.OpenSpec.upto Rows.confSameSpec) (k := Rows.uptoSmall) rfl own started (by kernel_rfl) Tryz.func7
    (OpenSpec.witness (enc := enc) (C := Tryz.checked) (s := Rows.OpenSpec.upto Rows.confSameSpec) (k := Rows.uptoSmall) rfl false ⟨#[], #[.agg #[.int .u64 0, .slice none 0 0, .slice none 0 0, .slice none 0 0, .slice none 0 0, .slice none 0 0], .agg #[.int .u64 0, .slice none 0 0, .slice none 0 0, .slice none 0 0, .slice none 0 0, .slice none 0 0]], []⟩ 8 (by kernel_rfl) (by kernel_rfl) (by kernel_rfl)
      (x := ([.agg [.lit (.int .u64 0), .nil, .nil, .nil, .nil, .nil], .agg [.lit (.int .u64 0), .nil, .nil, .nil, .nil, .nil]], [], [])) (by kernel_rfl) rfl (by kernel_rfl)) ?_
  intro W base args ds gs before hval0 hW _ hk _
  have hval : ∀ (j : Nat) t v, Tryz.f7.params[j]? = some t → args[j]? = some v → Value.okWide Tryz.prog W .any base t v := hval0
  have hW' := hW
  obtain ⟨p, q, hA0, hV, rfl, hfz, hnd⟩ := hW
  have hA : DataW.TrodAll enc Tryz.prog W 0 (fun _ => true) true Tryz.f7.params.toList args.toList ds p := hA0
  rw [Tryz.params7] at hA hval
  obtain ⟨v0, vs0, d0, ds0, p0, q0, hargs, rfl, rfl, h0, r0⟩ := trodAll_cons hA
  obtain ⟨v1, vs1, d1, ds1, p1, q1, rfl, rfl, rfl, h1, r1⟩ := trodAll_cons r0
  obtain ⟨rfl, rfl, rfl⟩ := trodAll_nil r1
  obtain rfl : args = #[v0, v1] := by cases args; simp_all
  obtain ⟨rfl, rfl⟩ := trodVars_none hV
  have hk2 : Rows.uptoBulk d0 + (Rows.uptoBulk d1 + 0) ≤ 1048576 := of_decide_eq_true hk
  obtain ⟨ca, qa, rfl, hca, hba⟩ := open_cfgB (hval 0 29 v0 rfl rfl) h0
  obtain ⟨cb, qb, rfl, hcb, hbb⟩ := open_cfgB (hval 1 29 v1 rfl rfl) h1
  clear hA0 hval0
  simp only [List.append_nil] at hW'
  refine (walk ca cb qa qb W hca hcb (by unfold sizes; omega) (by unfold sizes; omega)).mono fun e W' ⟨he, hg⟩ => ?_
  subst he
  exact law_post (by kernel_rfl) rfl rfl (by kernel_rfl) (by kernel_rfl) Tryz.underlying4 hW' hg

theorem over : Rows.confSameUptoRow.holds Tryz.pinned (Rows.OpenSpec.upto Rows.confSameSpec) :=
  OpenClaim.holds_of_cond 7 Tryz.f7 rfl rfl rfl rfl rfl rfl rfl ⟨rfl, rfl, rfl, rfl, rfl⟩ rfl rfl rfl rfl rfl (by kernel_rfl) Tryz.func7 (by kernel_rfl)
    (of_decide_eq_true (by kernel_rfl)) (by unfold Func.isWrapper; first | (rw [if_pos (by decide +kernel)]; kernel_rfl) | (rw [if_neg (by decide +kernel)]; exact ⟨rfl, rfl⟩))
    (fun os started H enc _ F => lifted os started H enc F)

/-- WHAT IS PROVED. -/
theorem proved : Rows.ConfSameUptoSaid :=
  over

end Go.Proofs.YtbilgnejipekpaaGreat.LawSame
