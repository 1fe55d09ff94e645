/-
  Layer 5 (conf): the six ways of the law ConfLimits. By the verifier.
-/
import Derived.Test.YthdagjlgfffpbaaGreatPLim
import Derived.Test.YthdagjlgfffpbaaGreatPAlv
import Derived.Test.YthdagjlgfffpbaaGreatPChk1
import Derived.Test.YthdagjlgfffpbaaGreatMLst
import Derived.Test.YthdagjlgfffpbaaGreatMTrn
import Derived.Test.YthdagjlgfffpbaaGreatRNs
set_option linter.unusedVariables false
namespace Go.Proofs.YthdagjlgfffpbaaGreat.LawLim
open Go.RowKit

theorem meas2 {n k : Nat} (h : k < n) : n - (intOf (.int .i64 ((k : Int) + 1))).toNat < n - (intOf (.int .i64 (k : Int))).toNat := by
  simp only [intOf]
  omega

structure QF (q : CfgQ) (g1 c1 g4 c4 : Nat) : Prop where
  a1 : q.A1 = some ⟨g1, 0, none⟩
  a1c : q.c1 = c1
  a4 : q.A4 = some ⟨g4, 0, none⟩
  a4c : q.c4 = c4

def isZ (w8 : World) : Value → World → Prop := fun v W => ∃ A c, v = .agg #[.int .u16 0, .int .u16 0, .slice A 1 c] ∧ OwnC W w8.heap.size 32 1 (.slice A 1 c) 1 [.int .u16 0]
def isZR (w8 : World) : Value → World → Prop := fun v W => ∃ A c, OwnC W w8.heap.size 32 1 (.slice A 1 c) 1 [.int .u16 0] ∧ OwnC W w8.heap.size 34 3 v 1 [.int .u16 0, .int .u16 0, .slice A 1 c]
def isZA (w8 : World) (X : List Value) : Value → World → Prop := fun v W => ∃ A c, OwnC W w8.heap.size 32 1 (.slice A 1 c) 1 [.int .u16 0] ∧ OwnC W w8.heap.size 34 3 v 2 (X ++ [.int .u16 0, .int .u16 0, .slice A 1 c]) ∧ ∀ b, v.ownBlock = some b → blk A ≠ some b
theorem isZ_keeps (w8 : World) : Keeps (isZ w8) := fun v w w' ⟨A, c, h1, h2⟩ hb => ⟨A, c, h1, OwnC.below h2 hb⟩
theorem isZR_keeps (w8 : World) : Keeps (isZR w8) := fun v w w' ⟨A, c, h1, h2⟩ hb => ⟨A, c, OwnC.below h1 hb, OwnC.below h2 hb⟩
theorem isZA_keeps (w8 : World) (X : List Value) : Keeps (isZA w8 X) := fun v w w' ⟨A, c, h1, h2, h3⟩ hb => ⟨A, c, OwnC.below h1 hb, OwnC.below h2 hb, h3⟩
theorem isZ_x (w8 : World) : KeepsX (fun _ => False) (isZ w8) := fun v w w' h ht => isZ_keeps w8 v w w' h (ht.below (fun _ h => h.elim) (Nat.le_refl _))
theorem isZR_x (w8 : World) : KeepsX (fun _ => False) (isZR w8) := fun v w w' h ht => isZR_keeps w8 v w w' h (ht.below (fun _ h => h.elim) (Nat.le_refl _))
theorem isZA_x (w8 : World) (X : List Value) : KeepsX (fun _ => False) (isZA w8 X) := fun v w w' h ht => isZA_keeps w8 X v w w' h (ht.below (fun _ h => h.elim) (Nat.le_refl _))

set_option maxHeartbeats 8000000 in
set_option maxRecDepth 100000 in
theorem walk1 (kk : Int) (hk0 : 0 ≤ kk) (hk1 : kk < 256) (hj : kk.tmod 6 = 0) (w : World) : Calls Tryz.prog 3 #[.int .u8 kk] w fun e w' => e = .returned (.bool true) ∧ Below w.heap.size w w' := by
  have hkk : IntKind.i64.wrap kk = kk := by rw [IntKind.wrap_i64]; omega
  have HLM : Hid (∀ W, Calls Tryz.prog 5 #[.int .i64 1] W fun e w' => e = .returned (.int .i64 64) ∧ W = w') := Lib.hid fun W => limit_ok 1 W
  have HAL := Lib.hid alive_ok
  go_enter Tryz.func3, Tryz.ntmps3
  go_wp2_with (go_at_call 5; refine (HLM.out _).mono ?_; rintro e w1 ⟨rfl, rfl⟩)
  refine region_invB w [(14, Sq.row 36 4 1 ([lzP].flatMap partV)), (15, Sq.row 39 6 1 ([lzT].flatMap portV)), (16, Sq.of [(0, 14), (1, 15)] (fun l => .agg #[.int .u64 0, l.getD 0 undef, .slice none 0 0, .slice none 0 0, l.getD 1 undef, .slice none 0 0])), (5, Sq.box 30 zeroC [(0, 14), (1, 15)] (fun l => #[.int .u64 0, l.getD 0 undef, .slice none 0 0, .slice none 0 0, l.getD 1 undef, .slice none 0 0]) 4)] [(16, [(0, 14), (1, 15)])] [(5, 4, [(0, 14), (1, 15)])] (by kernel_rfl) ?_ (by kernel_rfl) rfl rfl ?_ ?_
  case refine_1 => exact (Below.refl _ _).drew
  case refine_2 =>
    refine ⟨?_, ?_, ?_, ?_, ?_, trivial⟩
    case refine_1 =>
      refine Or.inl ⟨_, rfl, Nat.le_of_ble_eq_true rfl, fun listed a W hst hn hdep K hK => ?_⟩
      refine step_make_g elemP rfl 1 1 rfl rfl (by omega) (fun w' ho hb => ?_)
      rw [zeros_P 1] at ho
      exact hK _ _ hb (Sq.of_row rfl ho)
    case refine_2 =>
      refine Or.inl ⟨_, rfl, Nat.le_of_ble_eq_true rfl, fun listed a W hst hn hdep K hK => ?_⟩
      refine step_make_g elemT rfl 1 1 rfl rfl (by omega) (fun w' ho hb => ?_)
      rw [zeros_T 1] at ho
      exact hK _ _ hb (Sq.of_row rfl ho)
    case refine_3 =>
      refine Or.inl ⟨_, rfl, Nat.le_of_ble_eq_true rfl, fun listed a W hst hn hdep K hK => ?_⟩
      have D0 := dep_of hdep 0 (by kernel_rfl)
      have D1 := dep_of hdep 1 (by kernel_rfl)
      obtain ⟨B0, d0, h0, -⟩ := (hst.rowOf 0 14 (by kernel_rfl) D0 rfl).cells
      obtain ⟨B1, d1, h1, -⟩ := (hst.rowOf 1 15 (by kernel_rfl) D1 rfl).cells
      go_simp
      exact hK _ _ (Below.refl _ _) (Sq.of_fn rfl (by simp [h0, h1]))
    case refine_4 =>
      refine Or.inl ⟨_, rfl, Nat.le_of_ble_eq_true rfl, fun listed a W hst hn hdep K hK => ?_⟩
      go_simp
      exact hK _ _ ((Below.refl _ _).alloc (Nat.le_refl _) _) (Sq.of_box rfl)
    case refine_5 =>
      refine Or.inr ⟨rfl, 3, 5, _, _, _, _, by kernel_rfl, rfl, after_of (by kernel_rfl), fun listed a W hst hn hdep g hg hz K hK => ?_⟩
      have DD := dep_of hdep 2 (by kernel_rfl)
      have f16 := hst.fnOf 2 16 (by kernel_rfl) DD rfl
      have D0 := hst.reach 14 2 0 (by kernel_rfl) DD
      have D1 := hst.reach 14 2 1 (by kernel_rfl) DD
      obtain ⟨B0, d0, h0, -⟩ := (hst.rowOf 0 14 (by kernel_rfl) D0 rfl).cells
      obtain ⟨B1, d1, h1, -⟩ := (hst.rowOf 1 15 (by kernel_rfl) D1 rfl).cells
      have hC : (fun l => #[.int .u64 0, l.getD 0 undef, .slice none 0 0, .slice none 0 0, l.getD 1 undef, .slice none 0 0]) (List.map (fun k => tv a k.2) [(0, 14), (1, 15)]) = #[.int .u64 0, .slice B0 1 d0, .slice none 0 0, .slice none 0 0, .slice B1 1 d1, .slice none 0 0] := by simp [tv, h0, h1]
      have hC' : a.tmps[16]?.getD undef = .agg #[.int .u64 0, .slice B0 1 d0, .slice none 0 0, .slice none 0 0, .slice B1 1 d1, .slice none 0 0] := by rw [f16]; simp [h0, h1]
      refine box_store rfl 30 5 16 rfl rfl g _ (by simpa [tv] using hg) hC' 30 zeroC hz (by kernel_rfl) rfl (by simp only [List.all_toArray, List.all_cons, List.all_nil]; rfl) (fun w' hT hw => hK w' hT ?_)
      exact hw.trans (congrArg (fun x => some (Obj.cells x 30 (0, 0))) hC.symm)
  case refine_3 =>
    rintro ⟨⟨tm⟩, df⟩ W3 listed hl hst
    obtain rfl : df = [] := hst.defers
    have L0 := hl 0 (Nat.le_of_ble_eq_true rfl)
    have L1 := hl 1 (Nat.le_of_ble_eq_true rfl)
    have L3 := hl 3 (Nat.le_of_ble_eq_true rfl)
    obtain ⟨G, s5, hG1, hG2, hrow⟩ := hst.boxOf 3 5 (by kernel_rfl) L3 rfl (hl 4 (Nat.le_of_ble_eq_true rfl))
    have o14 := hst.rowOf 0 14 (by kernel_rfl) L0 rfl
    have o15 := hst.rowOf 1 15 (by kernel_rfl) L1 rfl
    have x1 := hst.apart 0 1 14 15 (by kernel_rfl) (by kernel_rfl) L0 L1 (by omega) (by intro h; cases h) (by intro h; cases h)
    have x2 := hst.apart 0 3 14 5 (by kernel_rfl) (by kernel_rfl) L0 L3 (by omega) (by intro h; cases h) (by intro h; cases h)
    have x3 := hst.apart 1 3 15 5 (by kernel_rfl) (by kernel_rfl) L1 L3 (by omega) (by intro h; cases h) (by intro h; cases h)
    have s0 := hst.oldEnd 0 (by kernel_rfl) rfl
    have s2 := hst.oldEnd 2 (by kernel_rfl) rfl
    have s3 := hst.oldEnd 3 (by kernel_rfl) rfl
    have s4 := hst.oldEnd 4 (by kernel_rfl) rfl
    have hsz : tm.length = 139 := hst.size
    have hglob := hst.glob
    obtain ⟨A1, c1, h14, -, -, -, -, -⟩ := o14.cells
    obtain ⟨A4, c4, h15, -, -, -, -, -⟩ := o15.cells
    have hrow3 : W3.heap[G]? = some (.cells (cfgA limC0 (limQ0 A1 c1 A4 c4)) 30) := by
      have k14 := h14
      have k15 := h15
      simp at k14 k15
      rw [hrow]
      simp [k14, k15, cfgA, limC0, limQ0]
    rw [h14] at o14 x1 x2
    rw [h15] at o15 x1 x3
    rw [s5] at x2 x3
    obtain ⟨g1, cur1, rfl, -, -, -⟩ := own_first o14 (by omega)
    obtain ⟨g4, cur4, rfl, -, -, -⟩ := own_first o15 (by omega)
    have HM0 : Hid (MSt w G [] W3 (limN 0 1 0 0 0 1 []) (limQ0 (some ⟨g1, 0, none⟩) c1 (some ⟨g4, 0, none⟩) c4)) := Lib.hid (lim_start hglob hG1 hrow3 o14 o15 (fun b hb => x1 b hb) (fun b hb e => x2 b hb (by rw [e]; rfl)) (fun b hb e => x3 b hb (by rw [e]; rfl)))
    clear hst hl hrow hrow3 o14 o15 x1 x2 x3 hglob hG1 hG2 h14 h15 L0 L1 L3 cur1 cur4
    ((repeat (have hh := arr_succ hsz; clear hsz; obtain ⟨_, tm, rfl, hsz⟩ := hh)); (obtain rfl := List.eq_nil_of_length_eq_zero hsz))
    simp at s0 s2 s3 s4 s5
    subst s0 s2 s3 s4 s5
    go_upto_region 16 with ((with_reducible refine wpList_make_g elemP W3 rfl (.tmp 25) (.tmp 25) rfl 64 64 64 rfl rfl rfl rfl (by omega) ?_); intro w4 ho4 hb4 hs4; have e4 : w4.cell? ⟨G, 1, none⟩ = some (.slice (some ⟨g1, 0, none⟩) 1 c1) := (HM0.out.more hb4).cell 1; have f4 : w4.frozen? ⟨G, 1, none⟩ = false := frozen_of_row _ _ _ _ _ (HM0.out.more hb4).all; have HO4 := Lib.hid ho4; have HB4 := Lib.hid hb4; clear ho4 hb4 hs4)
    have HMA : Hid (MSt w G [] (w4.setCell ⟨G, 1, none⟩ (.slice (some ⟨W3.heap.size, 0, none⟩) 64 64)) (limN 0 64 0 0 0 1 []) { (limQ0 (some ⟨g1, 0, none⟩) c1 (some ⟨g4, 0, none⟩) c4) with A1 := some ⟨W3.heap.size, 0, none⟩, c1 := 64 }) := Lib.hid (by
      have ho := HO4.out
      rw [zeros_P 64] at ho
      have h := HM0.out.setp HB4.out (l := List.replicate 64 lzP) (A' := some ⟨W3.heap.size, 0, none⟩) (c' := 64) (by rw [List.length_replicate]; exact ho)
      rw [List.length_replicate] at h
      rw [← namedP_zero] at h
      exact h)
    generalize w4.setCell ⟨G, 1, none⟩ (.slice (some ⟨W3.heap.size, 0, none⟩) 64 64) = W5 at HMA ⊢
    clear e4 f4 HM0 HO4 HB4
    obtain ⟨qz, hqz⟩ : ∃ qz : CfgQ, qz = ({ (limQ0 (some ⟨g1, 0, none⟩) c1 (some ⟨g4, 0, none⟩) c4) with A1 := some ⟨W3.heap.size, 0, none⟩, c1 := 64 } : CfgQ) := ⟨_, rfl⟩
    rw [← hqz] at HMA
    have HQF : Hid (QF qz W3.heap.size 64 g4 c4) := Lib.hid (by rw [hqz]; exact ⟨rfl, rfl, rfl, rfl⟩)
    obtain ⟨gz, hgz⟩ : ∃ gz, gz = W3.heap.size := ⟨_, rfl⟩
    have HQZ : Hid (qz.A1 = some ⟨gz, 0, none⟩ ∧ qz.c1 = 64) := Lib.hid (by rw [hqz, hgz]; exact ⟨rfl, rfl⟩)
    clear hqz hgz
    have e1 : W5.cell? ⟨G, 1, none⟩ = some (.slice (some ⟨W3.heap.size, 0, none⟩) 64 64) := lim_cellP HMA.out (by omega) HQF.out.a1 HQF.out.a1c
    go_wp2_with fail
    go_loopw [51] (fun i wr => ∃ k : Nat, k ≤ 64 ∧ i = .int .i64 (k : Int) ∧ Hid (MSt w G [] wr (limN k 64 0 0 0 1 []) qz)) (fun i _ => 64 - (intOf i).toNat)
    case atStart => exact ⟨0, by omega, rfl, HMA⟩
    case round =>
      obtain ⟨k, hk, rfl, hst⟩ := hrel
      by_cases hlt : k < 64
      · have hki : (k : Int) < 64 := by omega
        have hwk : wrap64 ((k : Int) + 1) = (k : Int) + 1 := by unfold wrap64; omega
        obtain ⟨y1, y2, y3⟩ := lim_nameP hst.out hlt HQF.out.a1
        have e1 : wr.cell? ⟨G, 1, none⟩ = some (.slice (some ⟨W3.heap.size, 0, none⟩) 64 64) := lim_cellP hst.out (by omega) HQF.out.a1 HQF.out.a1c
        have HY := Lib.hid y3
        clear hst y3
        go_wp2_with fail
        go_roundw
        case rel => exact ⟨k + 1, by omega, rfl, HY⟩
        case measure => exact meas2 hlt
      · have hki : ¬ (k : Int) < 64 := by omega
        have hkn : k = 64 := by omega
        have HMB : Hid (MSt w G [] wr (limN 64 64 0 0 0 1 []) qz) := by rw [hkn] at hst; exact hst
        clear hst hlt hk hkn

        have e1 : wr.cell? ⟨G, 4, none⟩ = some (.slice (some ⟨g4, 0, none⟩) 1 c4) := lim_cellT HMB.out (by omega) HQF.out.a4 HQF.out.a4c
        go_wp2_with fail
        go_loopw [63] (fun i wr => ∃ k : Nat, k ≤ 1 ∧ i = .int .i64 (k : Int) ∧ Hid (MSt w G [] wr (limN 64 64 0 0 k 1 []) qz)) (fun i _ => 1 - (intOf i).toNat)
        case atStart => exact ⟨0, by omega, rfl, HMB⟩
        case round =>
          obtain ⟨k, hk, rfl, hst⟩ := hrel
          by_cases hlt : k < 1
          · have hki : (k : Int) < 1 := by omega
            have hwk : wrap64 ((k : Int) + 1) = (k : Int) + 1 := by unfold wrap64; omega
            obtain ⟨y1, y2, y3⟩ := lim_nameT hst.out hlt HQF.out.a4
            have e1 : wr.cell? ⟨G, 4, none⟩ = some (.slice (some ⟨g4, 0, none⟩) 1 c4) := lim_cellT hst.out (by omega) HQF.out.a4 HQF.out.a4c
            have HY := Lib.hid y3
            clear hst y3
            go_wp2_with fail
            go_roundw
            case rel => exact ⟨k + 1, by omega, rfl, HY⟩
            case measure => exact meas2 hlt
          · have hki : ¬ (k : Int) < 1 := by omega
            have hkn : k = 1 := by omega
            have HMC : Hid (MSt w G [] wr (limN 64 64 0 0 1 1 []) qz) := by rw [hkn] at hst; exact hst
            clear hst hlt hk hkn
            have HMD : Hid (MSt w G [] wr (limR 64 0 0 1 []) qz) := Lib.hid (by have h := HMC.out; rw [limN_all] at h; exact h)
            obtain ⟨CX, hCX⟩ : ∃ CX, CX = cfgA (limR 64 0 0 1 []) qz := ⟨_, rfl⟩
            have HZ : Hid (CX.size = 6) := Lib.hid (by rw [hCX]; rfl)
            have HROW : Hid (wr.heap[G]? = some (.cells CX 30)) := Lib.hid (by rw [hCX]; exact HMD.out.all)
            have HK : Hid (Calls Tryz.prog 6 #[.agg CX] wr fun e w' => e = .returned (.agg #[.int .i64 0, .int .i64 0, .int .i64 0]) ∧ Below wr.heap.size wr w') := Lib.hid (by
              have hin : CfgIn wr (limR 64 0 0 1 []) qz := HMD.out.own.cfg (lim_okcfg _ _ _ _ _ (fun x hx => by cases hx)) (lim_small (by omega) (by omega) (by omega) (by omega) (by simp) (fun x hx => by cases hx)) (by omega)
              have h := pcheck_ok (limR 64 0 0 1 []) qz wr hin
              rw [lim_zero (by omega) (by omega) (by omega) (by omega) (by simp) (by simp)] at h
              rw [hCX]
              exact h)
            have HEQ := eqlF 0 0 0
            clear HMC hCX
            go_upto_region 28 with (first
              | (with_reducible refine load_cfg rfl (.tmp 5) rfl G rfl CX HZ.out HROW.out ?_)
              | (go_at_call 6; refine HK.out.mono ?_; rintro e w8 ⟨rfl, hb8⟩; have HB8 := Lib.hid hb8; clear hb8))
            have HME : Hid (MSt w G [] w8 (limR 64 0 0 1 []) qz) := Lib.hid (HMD.out.more HB8.out)
            have HOE : Hid (∀ W, Below w8.heap.size w8 W → OwnC W w.heap.size 36 4 (.slice (some ⟨gz, 0, none⟩) 64 64) 64 ((List.replicate 64 lxP).flatMap partV)) := Lib.hid fun W hW => by
              have h := (HME.out.more hW).own.ps
              rw [HQZ.out.1, HQZ.out.2, show (limR 64 0 0 1 []).ps.length = 64 from by simp [limR]] at h
              exact h
            have HYE : Hid (∀ W, Below w8.heap.size w8 W → W.cell? ⟨G, 1, none⟩ = some (.slice (some ⟨gz, 0, none⟩) 64 64)) := Lib.hid fun W hW => by
              have h := (HME.out.more hW).cell 1
              rw [h]
              show some (Value.slice qz.A1 (limR 64 0 0 1 []).ps.length qz.c1) = _
              rw [HQZ.out.1, HQZ.out.2, show (limR 64 0 0 1 []).ps.length = 64 from by simp [limR]]
            have HFE : Hid (∀ W, Below w8.heap.size w8 W → W.frozen? ⟨G, 1, none⟩ = false) := Lib.hid fun W hW => frozen_of_row _ _ _ _ _ (HME.out.more hW).all
            clear HMD HROW HK HEQ
            have HRG : Hid (∀ W, Below w8.heap.size w8 W → W.rangeAt gz 0 [.int .u16 0, .string ⟨#[120]⟩, .int .u64 0, .int .u64 0]) := Lib.hid fun W hW t v hv => by
              have ht : t < 4 := (List.getElem?_eq_some_iff.1 hv).1
              rw [Nat.zero_add]
              refine (own_cell (HOE.out W hW) ?_).1
              rw [List.replicate_succ, List.flatMap_cons, List.getElem?_append_left (by exact ht)]
              exact hv
            have HTB : Hid (∀ W, Turn (fun _ => False) w8 W → Below w8.heap.size w8 W) := Lib.hid fun W h => h.below (fun _ h => h.elim) (Nat.le_refl _)
            go_upto_region 31 with fail
            refine region_invXL w8 (fun _ => False) 9 [] (by kernel_rfl) [(86, isV (.pointer (some ⟨G, 1, none⟩))), (87, isV (.slice (some ⟨gz, 0, none⟩) 64 64)), (88, isV (.pointer (some ⟨G, 1, none⟩))), (89, isV (.slice (some ⟨gz, 0, none⟩) 64 64)), (90, isV (.pointer (some ⟨gz, 0, none⟩))), (91, isV (.agg #[.int .u16 0, .string ⟨#[120]⟩, .int .u64 0, .int .u64 0])), (92, isRow w8.heap.size 36 4 1 [.int .u16 0, .string ⟨#[120]⟩, .int .u64 0, .int .u64 0]), (93, isRow w8.heap.size 36 4 (64 + 1) (((List.replicate 64 lxP).flatMap partV) ++ [.int .u16 0, .string ⟨#[120]⟩, .int .u64 0, .int .u64 0])), (94, isV (.pointer (some ⟨G, 1, none⟩)))] 9 ⟨⟨isV_keeps _, fun _ => isV_x _ _⟩, ⟨isV_keeps _, fun _ => isV_x _ _⟩, ⟨isV_keeps _, fun _ => isV_x _ _⟩, ⟨isV_keeps _, fun _ => isV_x _ _⟩, ⟨isV_keeps _, fun _ => isV_x _ _⟩, ⟨isV_keeps _, fun _ => isV_x _ _⟩, ⟨isRow_keeps _ _ _ _ _, fun _ => isRow_x (fun _ h => h.elim) _ _ _ _⟩, ⟨isRow_keeps _ _ _ _ _, fun _ => isRow_x (fun _ h => h.elim) _ _ _ _⟩, ⟨isV_keeps _, fun _ => isV_x _ _⟩, trivial⟩ (by kernel_rfl) ?_ ?_ (by kernel_rfl) (by kernel_rfl) (by kernel_rfl) ?_ ?_
            case refine_1 => exact Turn.of_below (Below.refl _ _).drew
            case refine_2 => exact (Below.refl _ _).drew
            case refine_3 =>
              refine ⟨?_, ?_, ?_, ?_, ?_, ?_, ?_, ?_, ?_, trivial⟩
              case refine_1 =>
                refine ⟨_, rfl, Nat.le_of_ble_eq_true rfl, fun listed a W hst hn hdep K hK => ?_⟩
                (have e1 := hst.oldOf hn 5 (by kernel_rfl) rfl; simp only [Array.getD_eq_getD_getElem?] at e1)
                go_simp
                exact hK _ _ (Or.inl (Below.refl _ _)) rfl
              case refine_2 =>
                refine ⟨_, rfl, Nat.le_of_ble_eq_true rfl, fun listed a W hst hn hdep K hK => ?_⟩
                (have dd := dep_of hdep 0 (by kernel_rfl); have e1 : a.tmps[86]?.getD undef = (.pointer (some ⟨G, 1, none⟩)) := hst.fact 0 86 (by kernel_rfl) dd; clear dd)
                have y := HYE.out W (HTB.out W hst.glob)
                go_simp
                exact hK _ _ (Or.inl (Below.refl _ _)) rfl
              case refine_3 =>
                refine ⟨_, rfl, Nat.le_of_ble_eq_true rfl, fun listed a W hst hn hdep K hK => ?_⟩
                (have e1 := hst.oldOf hn 5 (by kernel_rfl) rfl; simp only [Array.getD_eq_getD_getElem?] at e1)
                go_simp
                exact hK _ _ (Or.inl (Below.refl _ _)) rfl
              case refine_4 =>
                refine ⟨_, rfl, Nat.le_of_ble_eq_true rfl, fun listed a W hst hn hdep K hK => ?_⟩
                (have dd := dep_of hdep 2 (by kernel_rfl); have e1 : a.tmps[88]?.getD undef = (.pointer (some ⟨G, 1, none⟩)) := hst.fact 2 88 (by kernel_rfl) dd; clear dd)
                have y := HYE.out W (HTB.out W hst.glob)
                go_simp
                exact hK _ _ (Or.inl (Below.refl _ _)) rfl
              case refine_5 =>
                refine ⟨_, rfl, Nat.le_of_ble_eq_true rfl, fun listed a W hst hn hdep K hK => ?_⟩
                (have dd := dep_of hdep 3 (by kernel_rfl); have e1 : a.tmps[89]?.getD undef = (.slice (some ⟨gz, 0, none⟩) 64 64) := hst.fact 3 89 (by kernel_rfl) dd; clear dd)
                go_simp
                exact hK _ _ (Or.inl (Below.refl _ _)) rfl
              case refine_6 =>
                refine ⟨_, rfl, Nat.le_of_ble_eq_true rfl, fun listed a W hst hn hdep K hK => ?_⟩
                (have dd := dep_of hdep 4 (by kernel_rfl); have e1 : a.tmps[90]?.getD undef = (.pointer (some ⟨gz, 0, none⟩)) := hst.fact 4 90 (by kernel_rfl) dd; clear dd)
                rw [if_pos (by simp [Region.wanted])]
                refine wp_load_mid 36 (.tmp 90) rfl gz 0 ((eval_tmp a 90).trans e1) [.int .u16 0, .string ⟨#[120]⟩, .int .u64 0, .int .u64 0] _ (HRG.out W (HTB.out W hst.glob)) Tryz.underlying36 rfl (by kernel_rfl) ?_
                exact hK _ _ (Or.inl (Below.refl _ _)) rfl
              case refine_7 =>
                refine ⟨_, rfl, Nat.le_of_ble_eq_true rfl, fun listed a W hst hn hdep K hK => ?_⟩
                (have dd := dep_of hdep 5 (by kernel_rfl); have e1 : a.tmps[91]?.getD undef = (.agg #[.int .u16 0, .string ⟨#[120]⟩, .int .u64 0, .int .u64 0]) := hst.fact 5 91 (by kernel_rfl) dd; clear dd)
                have hgs := hst.glob.size
                go_simp
                exact hK _ _ (Or.inl ((Below.refl _ _).alloc (Nat.le_refl _) _)) (OwnC.base (OwnC.lit W 36 4 1 #[.int .u16 0, .string ⟨#[120]⟩, .int .u64 0, .int .u64 0] (by unfold maxLen; omega) rfl) hgs)
              case refine_8 =>
                refine ⟨_, rfl, Nat.le_of_ble_eq_true rfl, fun listed a W hst hn hdep K hK => ?_⟩
                (have dd := dep_of hdep 1 (by kernel_rfl); have e1 : a.tmps[87]?.getD undef = (.slice (some ⟨gz, 0, none⟩) 64 64) := hst.fact 1 87 (by kernel_rfl) dd; clear dd)
                (have dd := dep_of hdep 6 (by kernel_rfl); have r1 := hst.fact 6 92 (by kernel_rfl) dd; clear dd)
                obtain ⟨A9, c9, h9, hc9, -⟩ := OwnC.cells r1
                have hgs := hst.glob.size
                refine step_append_new elemP rfl 87 92 rfl w.heap.size ⟨gz, 0, none⟩ 64 ((List.replicate 64 lxP).flatMap partV) e1 (HOE.out W (HTB.out W hst.glob)) A9 1 c9 [.int .u16 0, .string ⟨#[120]⟩, .int .u64 0, .int .u64 0] h9 hc9 rfl (by omega) (by omega) (fun c' w' ho hb => ?_)
                exact hK _ _ (Or.inl hb) (OwnC.base ho hgs)
              case refine_9 =>
                refine ⟨_, rfl, Nat.le_of_ble_eq_true rfl, fun listed a W hst hn hdep K hK => ?_⟩
                (have e1 := hst.oldOf hn 5 (by kernel_rfl) rfl; simp only [Array.getD_eq_getD_getElem?] at e1)
                go_simp
                exact hK _ _ (Or.inl (Below.refl _ _)) rfl
            case refine_4 =>
              intro ok listed a' W ho hst hn hall K hK
              obtain ⟨f, hfd, hf⟩ := hst.frameR [(86, 94)] (by kernel_rfl)
              have f1 : OwnC W w8.heap.size 36 4 _ (64 + 1) _ := hst.fact 7 93 (by kernel_rfl) (hall 7 (Nat.le_of_ble_eq_true rfl) (by omega))
              have f2 : a'.tmps[94]?.getD undef = (.pointer (some ⟨G, 1, none⟩)) := hst.fact 8 94 (by kernel_rfl) (hall 8 (Nat.le_of_ble_eq_true rfl) (by omega))
              obtain ⟨av, hav⟩ : ∃ av, a'.tmps[93]?.getD undef = av := ⟨_, rfl⟩
              rw [hav] at f1
              have hdf : a'.defers = [] := hst.defers
              have hbl := HTB.out W hst.glob
              obtain rfl : _ = ok := by injection ho
              clear hst hall hn hfd ho
              obtain ⟨A9, c9, rfl, -⟩ := f1.cells
              have HMS : Hid (∃ qy : CfgQ, MSt w G [] (W.setCell ⟨G, 1, none⟩ (.slice A9 (64 + 1) c9)) (limR 65 0 0 1 []) qy) := Lib.hid (by
                have e : ((List.replicate 64 lxP).flatMap partV) ++ [.int .u16 0, .string ⟨#[120]⟩, .int .u64 0, .int .u64 0] = (List.replicate (64 + 1) lxP).flatMap partV := by
                  rw [List.replicate_succ', List.flatMap_append]; rfl
                rw [e] at f1
                have h := HME.out.setp hbl (l := List.replicate (64 + 1) lxP) (A' := A9) (c' := c9) (by rw [List.length_replicate]; exact f1)
                rw [List.length_replicate] at h
                exact ⟨_, h⟩)
              refine sec_store rfl 23 94 93 rfl rfl G 1 _ _ f2 hav rfl (HYE.out W hbl) (HFE.out W hbl) (by kernel_rfl) ?_
              refine hK _ _ ?_
              clear f2 hav hbl hK HME HOE HYE HFE HTB
              generalize W.setCell ⟨G, 1, none⟩ (.slice A9 (64 + 1) c9) = WZ at HMS ⊢
              obtain ⟨tm, df⟩ := a'
              obtain rfl : df = [] := hdf
              simp only [updR, List.any_cons, List.any_nil, Nat.reduceAdd, Nat.reduceLeDiff, decide_true, decide_false, Bool.and_true, Bool.and_false, Bool.or_false, if_true, if_false, Bool.false_eq_true] at hf
              have hf' : tm = _ := hf
              subst hf'
              clear hf
              go_upto_region 40 with fail
              obtain ⟨qy0, hqy0⟩ := HMS.out
              obtain ⟨qy, HMY⟩ : ∃ qy : CfgQ, Hid (MSt w G [] WZ (limR 65 0 0 1 []) qy) := ⟨_, Lib.hid hqy0⟩
              obtain ⟨CY, hCY⟩ : ∃ CY, CY = cfgA (limR 65 0 0 1 []) qy := ⟨_, rfl⟩
              have HZY : Hid (CY.size = 6) := Lib.hid (by rw [hCY]; rfl)
              have HRY : Hid (∀ W, Below WZ.heap.size WZ W → W.heap[G]? = some (.cells CY 30)) := Lib.hid fun W hW => by rw [hCY]; exact (HMY.out.more hW).all
              have HKY : Hid (∀ W, Below WZ.heap.size WZ W → Calls Tryz.prog 6 #[.agg CY] W fun e w' => e = .returned (.agg #[.int .i64 7, .int .i64 1, .int .i64 64]) ∧ Below W.heap.size W w') := Lib.hid fun W hW => by
                have hin : CfgIn W (limR 65 0 0 1 []) qy := (HMY.out.more hW).own.cfg (lim_okcfg _ _ _ _ _ (fun x hx => by cases hx)) (lim_small (by omega) (by omega) (by omega) (by omega) (by simp) (fun x hx => by cases hx)) (by omega)
                have h := pcheck_ok (limR 65 0 0 1 []) qy W hin
                rw [(lim_over 1 65 0 0 1 0 0 _ (by omega) rfl rfl (by omega) (by decide) (by omega) (by omega) (by omega) (by omega) (by omega))] at h
                rw [hCY]
                exact h
              have HEQ := eqlF 7 1 64
              have HBY := Lib.hid HMY.out.below
              clear hCY HMY
              go_wp2_with (first
                | (go_at_call 7; refine (HAL.out _).mono ?_; rintro e v1 ⟨rfl, hv1⟩; have HV1 := Lib.hid hv1; clear hv1)
                | ((with_reducible refine load_cfgw ?_ (.tmp 5) rfl G rfl CY HZY.out (HRY.out _ HV1.out) ?_); exact rfl)
                | (go_at_call 6; refine (HKY.out _ HV1.out).mono ?_; rintro e v2 ⟨rfl, hv2⟩; have HV2 := Lib.hid hv2; clear hv2))
              go_ret
              exact ⟨rfl, HBY.out.trans ((HV1.out.trans (HV2.out.mono HV1.out.size)).mono HBY.out.size)⟩

set_option maxHeartbeats 8000000 in
set_option maxRecDepth 100000 in
theorem walk2 (kk : Int) (hk0 : 0 ≤ kk) (hk1 : kk < 256) (hj : kk.tmod 6 = 1) (w : World) : Calls Tryz.prog 3 #[.int .u8 kk] w fun e w' => e = .returned (.bool true) ∧ Below w.heap.size w w' := by
  have hkk : IntKind.i64.wrap kk = kk := by rw [IntKind.wrap_i64]; omega
  have HLM : Hid (∀ W, Calls Tryz.prog 5 #[.int .i64 2] W fun e w' => e = .returned (.int .i64 1024) ∧ W = w') := Lib.hid fun W => limit_ok 2 W
  have HAL := Lib.hid alive_ok
  go_enter Tryz.func3, Tryz.ntmps3
  go_wp2_with (go_at_call 5; refine (HLM.out _).mono ?_; rintro e w1 ⟨rfl, rfl⟩)
  refine region_invB w [(14, Sq.row 36 4 1 ([lzP].flatMap partV)), (15, Sq.row 39 6 1 ([lzT].flatMap portV)), (16, Sq.of [(0, 14), (1, 15)] (fun l => .agg #[.int .u64 0, l.getD 0 undef, .slice none 0 0, .slice none 0 0, l.getD 1 undef, .slice none 0 0])), (5, Sq.box 30 zeroC [(0, 14), (1, 15)] (fun l => #[.int .u64 0, l.getD 0 undef, .slice none 0 0, .slice none 0 0, l.getD 1 undef, .slice none 0 0]) 4)] [(16, [(0, 14), (1, 15)])] [(5, 4, [(0, 14), (1, 15)])] (by kernel_rfl) ?_ (by kernel_rfl) rfl rfl ?_ ?_
  case refine_1 => exact (Below.refl _ _).drew
  case refine_2 =>
    refine ⟨?_, ?_, ?_, ?_, ?_, trivial⟩
    case refine_1 =>
      refine Or.inl ⟨_, rfl, Nat.le_of_ble_eq_true rfl, fun listed a W hst hn hdep K hK => ?_⟩
      refine step_make_g elemP rfl 1 1 rfl rfl (by omega) (fun w' ho hb => ?_)
      rw [zeros_P 1] at ho
      exact hK _ _ hb (Sq.of_row rfl ho)
    case refine_2 =>
      refine Or.inl ⟨_, rfl, Nat.le_of_ble_eq_true rfl, fun listed a W hst hn hdep K hK => ?_⟩
      refine step_make_g elemT rfl 1 1 rfl rfl (by omega) (fun w' ho hb => ?_)
      rw [zeros_T 1] at ho
      exact hK _ _ hb (Sq.of_row rfl ho)
    case refine_3 =>
      refine Or.inl ⟨_, rfl, Nat.le_of_ble_eq_true rfl, fun listed a W hst hn hdep K hK => ?_⟩
      have D0 := dep_of hdep 0 (by kernel_rfl)
      have D1 := dep_of hdep 1 (by kernel_rfl)
      obtain ⟨B0, d0, h0, -⟩ := (hst.rowOf 0 14 (by kernel_rfl) D0 rfl).cells
      obtain ⟨B1, d1, h1, -⟩ := (hst.rowOf 1 15 (by kernel_rfl) D1 rfl).cells
      go_simp
      exact hK _ _ (Below.refl _ _) (Sq.of_fn rfl (by simp [h0, h1]))
    case refine_4 =>
      refine Or.inl ⟨_, rfl, Nat.le_of_ble_eq_true rfl, fun listed a W hst hn hdep K hK => ?_⟩
      go_simp
      exact hK _ _ ((Below.refl _ _).alloc (Nat.le_refl _) _) (Sq.of_box rfl)
    case refine_5 =>
      refine Or.inr ⟨rfl, 3, 5, _, _, _, _, by kernel_rfl, rfl, after_of (by kernel_rfl), fun listed a W hst hn hdep g hg hz K hK => ?_⟩
      have DD := dep_of hdep 2 (by kernel_rfl)
      have f16 := hst.fnOf 2 16 (by kernel_rfl) DD rfl
      have D0 := hst.reach 14 2 0 (by kernel_rfl) DD
      have D1 := hst.reach 14 2 1 (by kernel_rfl) DD
      obtain ⟨B0, d0, h0, -⟩ := (hst.rowOf 0 14 (by kernel_rfl) D0 rfl).cells
      obtain ⟨B1, d1, h1, -⟩ := (hst.rowOf 1 15 (by kernel_rfl) D1 rfl).cells
      have hC : (fun l => #[.int .u64 0, l.getD 0 undef, .slice none 0 0, .slice none 0 0, l.getD 1 undef, .slice none 0 0]) (List.map (fun k => tv a k.2) [(0, 14), (1, 15)]) = #[.int .u64 0, .slice B0 1 d0, .slice none 0 0, .slice none 0 0, .slice B1 1 d1, .slice none 0 0] := by simp [tv, h0, h1]
      have hC' : a.tmps[16]?.getD undef = .agg #[.int .u64 0, .slice B0 1 d0, .slice none 0 0, .slice none 0 0, .slice B1 1 d1, .slice none 0 0] := by rw [f16]; simp [h0, h1]
      refine box_store rfl 30 5 16 rfl rfl g _ (by simpa [tv] using hg) hC' 30 zeroC hz (by kernel_rfl) rfl (by simp only [List.all_toArray, List.all_cons, List.all_nil]; rfl) (fun w' hT hw => hK w' hT ?_)
      exact hw.trans (congrArg (fun x => some (Obj.cells x 30 (0, 0))) hC.symm)
  case refine_3 =>
    rintro ⟨⟨tm⟩, df⟩ W3 listed hl hst
    obtain rfl : df = [] := hst.defers
    have L0 := hl 0 (Nat.le_of_ble_eq_true rfl)
    have L1 := hl 1 (Nat.le_of_ble_eq_true rfl)
    have L3 := hl 3 (Nat.le_of_ble_eq_true rfl)
    obtain ⟨G, s5, hG1, hG2, hrow⟩ := hst.boxOf 3 5 (by kernel_rfl) L3 rfl (hl 4 (Nat.le_of_ble_eq_true rfl))
    have o14 := hst.rowOf 0 14 (by kernel_rfl) L0 rfl
    have o15 := hst.rowOf 1 15 (by kernel_rfl) L1 rfl
    have x1 := hst.apart 0 1 14 15 (by kernel_rfl) (by kernel_rfl) L0 L1 (by omega) (by intro h; cases h) (by intro h; cases h)
    have x2 := hst.apart 0 3 14 5 (by kernel_rfl) (by kernel_rfl) L0 L3 (by omega) (by intro h; cases h) (by intro h; cases h)
    have x3 := hst.apart 1 3 15 5 (by kernel_rfl) (by kernel_rfl) L1 L3 (by omega) (by intro h; cases h) (by intro h; cases h)
    have s0 := hst.oldEnd 0 (by kernel_rfl) rfl
    have s2 := hst.oldEnd 2 (by kernel_rfl) rfl
    have s3 := hst.oldEnd 3 (by kernel_rfl) rfl
    have s4 := hst.oldEnd 4 (by kernel_rfl) rfl
    have hsz : tm.length = 139 := hst.size
    have hglob := hst.glob
    obtain ⟨A1, c1, h14, -, -, -, -, -⟩ := o14.cells
    obtain ⟨A4, c4, h15, -, -, -, -, -⟩ := o15.cells
    have hrow3 : W3.heap[G]? = some (.cells (cfgA limC0 (limQ0 A1 c1 A4 c4)) 30) := by
      have k14 := h14
      have k15 := h15
      simp at k14 k15
      rw [hrow]
      simp [k14, k15, cfgA, limC0, limQ0]
    rw [h14] at o14 x1 x2
    rw [h15] at o15 x1 x3
    rw [s5] at x2 x3
    obtain ⟨g1, cur1, rfl, -, -, -⟩ := own_first o14 (by omega)
    obtain ⟨g4, cur4, rfl, -, -, -⟩ := own_first o15 (by omega)
    have HM0 : Hid (MSt w G [] W3 (limN 0 1 0 0 0 1 []) (limQ0 (some ⟨g1, 0, none⟩) c1 (some ⟨g4, 0, none⟩) c4)) := Lib.hid (lim_start hglob hG1 hrow3 o14 o15 (fun b hb => x1 b hb) (fun b hb e => x2 b hb (by rw [e]; rfl)) (fun b hb e => x3 b hb (by rw [e]; rfl)))
    clear hst hl hrow hrow3 o14 o15 x1 x2 x3 hglob hG1 hG2 h14 h15 L0 L1 L3 cur1 cur4
    ((repeat (have hh := arr_succ hsz; clear hsz; obtain ⟨_, tm, rfl, hsz⟩ := hh)); (obtain rfl := List.eq_nil_of_length_eq_zero hsz))
    simp at s0 s2 s3 s4 s5
    subst s0 s2 s3 s4 s5
    go_upto_region 16 with ((with_reducible refine wpList_make_g elemW W3 rfl (.tmp 30) (.tmp 30) rfl 1024 1024 1024 rfl rfl rfl rfl (by omega) ?_); intro w4 ho4 hb4 hs4; have e4 : w4.cell? ⟨G, 2, none⟩ = some (.slice none 0 0) := (HM0.out.more hb4).cell 2; have f4 : w4.frozen? ⟨G, 2, none⟩ = false := frozen_of_row _ _ _ _ _ (HM0.out.more hb4).all; have HO4 := Lib.hid ho4; have HB4 := Lib.hid hb4; clear ho4 hb4 hs4)
    have HMA : Hid (MSt w G [] (w4.setCell ⟨G, 2, none⟩ (.slice (some ⟨W3.heap.size, 0, none⟩) 1024 1024)) (limN 0 1 1024 0 0 1 []) { (limQ0 (some ⟨g1, 0, none⟩) c1 (some ⟨g4, 0, none⟩) c4) with A2 := some ⟨W3.heap.size, 0, none⟩, c2 := 1024 }) := Lib.hid (by
      have ho := HO4.out
      rw [zeros_W 1024] at ho
      have h := HM0.out.setw HB4.out (l := List.replicate 1024 lzW) (A' := some ⟨W3.heap.size, 0, none⟩) (c' := 1024) (by rw [List.length_replicate]; exact ho)
      rw [List.length_replicate] at h
      skip
      exact h)
    generalize w4.setCell ⟨G, 2, none⟩ (.slice (some ⟨W3.heap.size, 0, none⟩) 1024 1024) = W5 at HMA ⊢
    clear e4 f4 HM0 HO4 HB4
    obtain ⟨qz, hqz⟩ : ∃ qz : CfgQ, qz = ({ (limQ0 (some ⟨g1, 0, none⟩) c1 (some ⟨g4, 0, none⟩) c4) with A2 := some ⟨W3.heap.size, 0, none⟩, c2 := 1024 } : CfgQ) := ⟨_, rfl⟩
    rw [← hqz] at HMA
    have HQF : Hid (QF qz g1 c1 g4 c4) := Lib.hid (by rw [hqz]; exact ⟨rfl, rfl, rfl, rfl⟩)
    obtain ⟨gz, hgz⟩ : ∃ gz, gz = W3.heap.size := ⟨_, rfl⟩
    have HQZ : Hid (qz.A2 = some ⟨gz, 0, none⟩ ∧ qz.c2 = 1024) := Lib.hid (by rw [hqz, hgz]; exact ⟨rfl, rfl⟩)
    clear hqz hgz
    have e1 : W5.cell? ⟨G, 1, none⟩ = some (.slice (some ⟨g1, 0, none⟩) 1 c1) := lim_cellP HMA.out (by omega) HQF.out.a1 HQF.out.a1c
    go_wp2_with fail
    go_loopw [51] (fun i wr => ∃ k : Nat, k ≤ 1 ∧ i = .int .i64 (k : Int) ∧ Hid (MSt w G [] wr (limN k 1 1024 0 0 1 []) qz)) (fun i _ => 1 - (intOf i).toNat)
    case atStart => exact ⟨0, by omega, rfl, HMA⟩
    case round =>
      obtain ⟨k, hk, rfl, hst⟩ := hrel
      by_cases hlt : k < 1
      · have hki : (k : Int) < 1 := by omega
        have hwk : wrap64 ((k : Int) + 1) = (k : Int) + 1 := by unfold wrap64; omega
        obtain ⟨y1, y2, y3⟩ := lim_nameP hst.out hlt HQF.out.a1
        have e1 : wr.cell? ⟨G, 1, none⟩ = some (.slice (some ⟨g1, 0, none⟩) 1 c1) := lim_cellP hst.out (by omega) HQF.out.a1 HQF.out.a1c
        have HY := Lib.hid y3
        clear hst y3
        go_wp2_with fail
        go_roundw
        case rel => exact ⟨k + 1, by omega, rfl, HY⟩
        case measure => exact meas2 hlt
      · have hki : ¬ (k : Int) < 1 := by omega
        have hkn : k = 1 := by omega
        have HMB : Hid (MSt w G [] wr (limN 1 1 1024 0 0 1 []) qz) := by rw [hkn] at hst; exact hst
        clear hst hlt hk hkn

        have e1 : wr.cell? ⟨G, 4, none⟩ = some (.slice (some ⟨g4, 0, none⟩) 1 c4) := lim_cellT HMB.out (by omega) HQF.out.a4 HQF.out.a4c
        go_wp2_with fail
        go_loopw [63] (fun i wr => ∃ k : Nat, k ≤ 1 ∧ i = .int .i64 (k : Int) ∧ Hid (MSt w G [] wr (limN 1 1 1024 0 k 1 []) qz)) (fun i _ => 1 - (intOf i).toNat)
        case atStart => exact ⟨0, by omega, rfl, HMB⟩
        case round =>
          obtain ⟨k, hk, rfl, hst⟩ := hrel
          by_cases hlt : k < 1
          · have hki : (k : Int) < 1 := by omega
            have hwk : wrap64 ((k : Int) + 1) = (k : Int) + 1 := by unfold wrap64; omega
            obtain ⟨y1, y2, y3⟩ := lim_nameT hst.out hlt HQF.out.a4
            have e1 : wr.cell? ⟨G, 4, none⟩ = some (.slice (some ⟨g4, 0, none⟩) 1 c4) := lim_cellT hst.out (by omega) HQF.out.a4 HQF.out.a4c
            have HY := Lib.hid y3
            clear hst y3
            go_wp2_with fail
            go_roundw
            case rel => exact ⟨k + 1, by omega, rfl, HY⟩
            case measure => exact meas2 hlt
          · have hki : ¬ (k : Int) < 1 := by omega
            have hkn : k = 1 := by omega
            have HMC : Hid (MSt w G [] wr (limN 1 1 1024 0 1 1 []) qz) := by rw [hkn] at hst; exact hst
            clear hst hlt hk hkn
            have HMD : Hid (MSt w G [] wr (limR 1 1024 0 1 []) qz) := Lib.hid (by have h := HMC.out; rw [limN_all] at h; exact h)
            obtain ⟨CX, hCX⟩ : ∃ CX, CX = cfgA (limR 1 1024 0 1 []) qz := ⟨_, rfl⟩
            have HZ : Hid (CX.size = 6) := Lib.hid (by rw [hCX]; rfl)
            have HROW : Hid (wr.heap[G]? = some (.cells CX 30)) := Lib.hid (by rw [hCX]; exact HMD.out.all)
            have HK : Hid (Calls Tryz.prog 6 #[.agg CX] wr fun e w' => e = .returned (.agg #[.int .i64 0, .int .i64 0, .int .i64 0]) ∧ Below wr.heap.size wr w') := Lib.hid (by
              have hin : CfgIn wr (limR 1 1024 0 1 []) qz := HMD.out.own.cfg (lim_okcfg _ _ _ _ _ (fun x hx => by cases hx)) (lim_small (by omega) (by omega) (by omega) (by omega) (by simp) (fun x hx => by cases hx)) (by omega)
              have h := pcheck_ok (limR 1 1024 0 1 []) qz wr hin
              rw [lim_zero (by omega) (by omega) (by omega) (by omega) (by simp) (by simp)] at h
              rw [hCX]
              exact h)
            have HEQ := eqlF 0 0 0
            clear HMC hCX
            go_upto_region 28 with (first
              | (with_reducible refine load_cfg rfl (.tmp 5) rfl G rfl CX HZ.out HROW.out ?_)
              | (go_at_call 6; refine HK.out.mono ?_; rintro e w8 ⟨rfl, hb8⟩; have HB8 := Lib.hid hb8; clear hb8))
            have HME : Hid (MSt w G [] w8 (limR 1 1024 0 1 []) qz) := Lib.hid (HMD.out.more HB8.out)
            have HOE : Hid (∀ W, Below w8.heap.size w8 W → OwnC W w.heap.size 45 3 (.slice (some ⟨gz, 0, none⟩) 1024 1024) 1024 ((List.replicate 1024 lzW).flatMap winV)) := Lib.hid fun W hW => by
              have h := (HME.out.more hW).own.ws
              rw [HQZ.out.1, HQZ.out.2, show (limR 1 1024 0 1 []).ws.length = 1024 from by simp [limR]] at h
              exact h
            have HYE : Hid (∀ W, Below w8.heap.size w8 W → W.cell? ⟨G, 2, none⟩ = some (.slice (some ⟨gz, 0, none⟩) 1024 1024)) := Lib.hid fun W hW => by
              have h := (HME.out.more hW).cell 2
              rw [h]
              show some (Value.slice qz.A2 (limR 1 1024 0 1 []).ws.length qz.c2) = _
              rw [HQZ.out.1, HQZ.out.2, show (limR 1 1024 0 1 []).ws.length = 1024 from by simp [limR]]
            have HFE : Hid (∀ W, Below w8.heap.size w8 W → W.frozen? ⟨G, 2, none⟩ = false) := Lib.hid fun W hW => frozen_of_row _ _ _ _ _ (HME.out.more hW).all
            clear HMD HROW HK HEQ
            obtain ⟨w9, hw9⟩ : ∃ w9, w8.alloc (.cells #[.int .u64 0, .int .u64 0, .int .u16 0] 45) = w9 := ⟨_, rfl⟩
            have hb9 : Below w8.heap.size w8 w9 := by rw [← hw9]; exact (Below.refl _ _).alloc (Nat.le_refl _) _
            have HB9 := Lib.hid hb9
            have HCL : Hid (Cells w9 (some ⟨w8.heap.size, 0, none⟩) [.int .u64 0, .int .u64 0, .int .u16 0]) := Lib.hid (by rw [← hw9]; exact lit_cells w8 #[.int .u64 0, .int .u64 0, .int .u16 0] 45)
            have e8 : w8.cell? ⟨G, 2, none⟩ = some (.slice (some ⟨gz, 0, none⟩) 1024 1024) := HYE.out w8 (Below.refl _ _)
            clear hb9
            go_upto_region 40 with ((with_reducible refine wpList_append_new elemW rfl (.tmp 98) (.tmp 100) rfl w.heap.size ⟨gz, 0, none⟩ 1024 ((List.replicate 1024 lzW).flatMap winV) rfl (HOE.out w9 HB9.out) (some ⟨w8.heap.size, 0, none⟩) 1 1 [.int .u64 0, .int .u64 0, .int .u16 0] rfl HCL.out rfl (by omega) (by omega) ?_); intro c' w10 ho10 hb10; have hb8 : Below w8.heap.size w8 w10 := HB9.out.trans (hb10.mono HB9.out.size); have e10 : w10.cell? ⟨G, 2, none⟩ = some (.slice (some ⟨gz, 0, none⟩) 1024 1024) := HYE.out w10 hb8; have f10 : w10.frozen? ⟨G, 2, none⟩ = false := HFE.out w10 hb8; have HO10 := Lib.hid ho10; have HB10 := Lib.hid hb8; clear ho10 hb10 hb8)
            have HMS : Hid (∃ qy : CfgQ, MSt w G [] (w10.setCell ⟨G, 2, none⟩ (.slice (some ⟨w9.heap.size, 0, none⟩) (1024 + 1) c')) (limR 1 1025 0 1 []) qy) := Lib.hid (by
              have ho := HO10.out.base HB9.out.size
              have e : ((List.replicate 1024 lzW).flatMap winV) ++ [.int .u64 0, .int .u64 0, .int .u16 0] = (List.replicate (1024 + 1) lzW).flatMap winV := by
                rw [List.replicate_succ', List.flatMap_append]; rfl
              rw [e] at ho
              have h := HME.out.setw HB10.out (l := List.replicate (1024 + 1) lzW) (A' := some ⟨w9.heap.size, 0, none⟩) (c' := c') (by rw [List.length_replicate]; exact ho)
              rw [List.length_replicate] at h
              exact ⟨_, h⟩)
            generalize w10.setCell ⟨G, 2, none⟩ (.slice (some ⟨w9.heap.size, 0, none⟩) (1024 + 1) c') = WZ at HMS ⊢
            clear HME HOE HYE HFE HO10 HB10 HCL HB9 e8 e10 f10 hw9
            obtain ⟨qy0, hqy0⟩ := HMS.out
            obtain ⟨qy, HMY⟩ : ∃ qy : CfgQ, Hid (MSt w G [] WZ (limR 1 1025 0 1 []) qy) := ⟨_, Lib.hid hqy0⟩
            obtain ⟨CY, hCY⟩ : ∃ CY, CY = cfgA (limR 1 1025 0 1 []) qy := ⟨_, rfl⟩
            have HZY : Hid (CY.size = 6) := Lib.hid (by rw [hCY]; rfl)
            have HRY : Hid (∀ W, Below WZ.heap.size WZ W → W.heap[G]? = some (.cells CY 30)) := Lib.hid fun W hW => by rw [hCY]; exact (HMY.out.more hW).all
            have HKY : Hid (∀ W, Below WZ.heap.size WZ W → Calls Tryz.prog 6 #[.agg CY] W fun e w' => e = .returned (.agg #[.int .i64 7, .int .i64 2, .int .i64 1024]) ∧ Below W.heap.size W w') := Lib.hid fun W hW => by
              have hin : CfgIn W (limR 1 1025 0 1 []) qy := (HMY.out.more hW).own.cfg (lim_okcfg _ _ _ _ _ (fun x hx => by cases hx)) (lim_small (by omega) (by omega) (by omega) (by omega) (by simp) (fun x hx => by cases hx)) (by omega)
              have h := pcheck_ok (limR 1 1025 0 1 []) qy W hin
              rw [(lim_over 2 1 1025 0 1 0 0 _ (by omega) rfl rfl (by omega) (by decide) (by omega) (by omega) (by omega) (by omega) (by omega))] at h
              rw [hCY]
              exact h
            have HEQ := eqlF 7 2 1024
            have HBY := Lib.hid HMY.out.below
            clear hCY HMY
            go_wp2_with (first
              | (go_at_call 7; refine (HAL.out _).mono ?_; rintro e v1 ⟨rfl, hv1⟩; have HV1 := Lib.hid hv1; clear hv1)
              | ((with_reducible refine load_cfgw ?_ (.tmp 5) rfl G rfl CY HZY.out (HRY.out _ HV1.out) ?_); exact rfl)
              | (go_at_call 6; refine (HKY.out _ HV1.out).mono ?_; rintro e v2 ⟨rfl, hv2⟩; have HV2 := Lib.hid hv2; clear hv2))
            go_ret
            exact ⟨rfl, HBY.out.trans ((HV1.out.trans (HV2.out.mono HV1.out.size)).mono HBY.out.size)⟩

set_option maxHeartbeats 8000000 in
set_option maxRecDepth 100000 in
theorem walk3 (kk : Int) (hk0 : 0 ≤ kk) (hk1 : kk < 256) (hj : kk.tmod 6 = 2) (w : World) : Calls Tryz.prog 3 #[.int .u8 kk] w fun e w' => e = .returned (.bool true) ∧ Below w.heap.size w w' := by
  have hkk : IntKind.i64.wrap kk = kk := by rw [IntKind.wrap_i64]; omega
  have HLM : Hid (∀ W, Calls Tryz.prog 5 #[.int .i64 3] W fun e w' => e = .returned (.int .i64 1024) ∧ W = w') := Lib.hid fun W => limit_ok 3 W
  have HAL := Lib.hid alive_ok
  go_enter Tryz.func3, Tryz.ntmps3
  go_wp2_with (go_at_call 5; refine (HLM.out _).mono ?_; rintro e w1 ⟨rfl, rfl⟩)
  refine region_invB w [(14, Sq.row 36 4 1 ([lzP].flatMap partV)), (15, Sq.row 39 6 1 ([lzT].flatMap portV)), (16, Sq.of [(0, 14), (1, 15)] (fun l => .agg #[.int .u64 0, l.getD 0 undef, .slice none 0 0, .slice none 0 0, l.getD 1 undef, .slice none 0 0])), (5, Sq.box 30 zeroC [(0, 14), (1, 15)] (fun l => #[.int .u64 0, l.getD 0 undef, .slice none 0 0, .slice none 0 0, l.getD 1 undef, .slice none 0 0]) 4)] [(16, [(0, 14), (1, 15)])] [(5, 4, [(0, 14), (1, 15)])] (by kernel_rfl) ?_ (by kernel_rfl) rfl rfl ?_ ?_
  case refine_1 => exact (Below.refl _ _).drew
  case refine_2 =>
    refine ⟨?_, ?_, ?_, ?_, ?_, trivial⟩
    case refine_1 =>
      refine Or.inl ⟨_, rfl, Nat.le_of_ble_eq_true rfl, fun listed a W hst hn hdep K hK => ?_⟩
      refine step_make_g elemP rfl 1 1 rfl rfl (by omega) (fun w' ho hb => ?_)
      rw [zeros_P 1] at ho
      exact hK _ _ hb (Sq.of_row rfl ho)
    case refine_2 =>
      refine Or.inl ⟨_, rfl, Nat.le_of_ble_eq_true rfl, fun listed a W hst hn hdep K hK => ?_⟩
      refine step_make_g elemT rfl 1 1 rfl rfl (by omega) (fun w' ho hb => ?_)
      rw [zeros_T 1] at ho
      exact hK _ _ hb (Sq.of_row rfl ho)
    case refine_3 =>
      refine Or.inl ⟨_, rfl, Nat.le_of_ble_eq_true rfl, fun listed a W hst hn hdep K hK => ?_⟩
      have D0 := dep_of hdep 0 (by kernel_rfl)
      have D1 := dep_of hdep 1 (by kernel_rfl)
      obtain ⟨B0, d0, h0, -⟩ := (hst.rowOf 0 14 (by kernel_rfl) D0 rfl).cells
      obtain ⟨B1, d1, h1, -⟩ := (hst.rowOf 1 15 (by kernel_rfl) D1 rfl).cells
      go_simp
      exact hK _ _ (Below.refl _ _) (Sq.of_fn rfl (by simp [h0, h1]))
    case refine_4 =>
      refine Or.inl ⟨_, rfl, Nat.le_of_ble_eq_true rfl, fun listed a W hst hn hdep K hK => ?_⟩
      go_simp
      exact hK _ _ ((Below.refl _ _).alloc (Nat.le_refl _) _) (Sq.of_box rfl)
    case refine_5 =>
      refine Or.inr ⟨rfl, 3, 5, _, _, _, _, by kernel_rfl, rfl, after_of (by kernel_rfl), fun listed a W hst hn hdep g hg hz K hK => ?_⟩
      have DD := dep_of hdep 2 (by kernel_rfl)
      have f16 := hst.fnOf 2 16 (by kernel_rfl) DD rfl
      have D0 := hst.reach 14 2 0 (by kernel_rfl) DD
      have D1 := hst.reach 14 2 1 (by kernel_rfl) DD
      obtain ⟨B0, d0, h0, -⟩ := (hst.rowOf 0 14 (by kernel_rfl) D0 rfl).cells
      obtain ⟨B1, d1, h1, -⟩ := (hst.rowOf 1 15 (by kernel_rfl) D1 rfl).cells
      have hC : (fun l => #[.int .u64 0, l.getD 0 undef, .slice none 0 0, .slice none 0 0, l.getD 1 undef, .slice none 0 0]) (List.map (fun k => tv a k.2) [(0, 14), (1, 15)]) = #[.int .u64 0, .slice B0 1 d0, .slice none 0 0, .slice none 0 0, .slice B1 1 d1, .slice none 0 0] := by simp [tv, h0, h1]
      have hC' : a.tmps[16]?.getD undef = .agg #[.int .u64 0, .slice B0 1 d0, .slice none 0 0, .slice none 0 0, .slice B1 1 d1, .slice none 0 0] := by rw [f16]; simp [h0, h1]
      refine box_store rfl 30 5 16 rfl rfl g _ (by simpa [tv] using hg) hC' 30 zeroC hz (by kernel_rfl) rfl (by simp only [List.all_toArray, List.all_cons, List.all_nil]; rfl) (fun w' hT hw => hK w' hT ?_)
      exact hw.trans (congrArg (fun x => some (Obj.cells x 30 (0, 0))) hC.symm)
  case refine_3 =>
    rintro ⟨⟨tm⟩, df⟩ W3 listed hl hst
    obtain rfl : df = [] := hst.defers
    have L0 := hl 0 (Nat.le_of_ble_eq_true rfl)
    have L1 := hl 1 (Nat.le_of_ble_eq_true rfl)
    have L3 := hl 3 (Nat.le_of_ble_eq_true rfl)
    obtain ⟨G, s5, hG1, hG2, hrow⟩ := hst.boxOf 3 5 (by kernel_rfl) L3 rfl (hl 4 (Nat.le_of_ble_eq_true rfl))
    have o14 := hst.rowOf 0 14 (by kernel_rfl) L0 rfl
    have o15 := hst.rowOf 1 15 (by kernel_rfl) L1 rfl
    have x1 := hst.apart 0 1 14 15 (by kernel_rfl) (by kernel_rfl) L0 L1 (by omega) (by intro h; cases h) (by intro h; cases h)
    have x2 := hst.apart 0 3 14 5 (by kernel_rfl) (by kernel_rfl) L0 L3 (by omega) (by intro h; cases h) (by intro h; cases h)
    have x3 := hst.apart 1 3 15 5 (by kernel_rfl) (by kernel_rfl) L1 L3 (by omega) (by intro h; cases h) (by intro h; cases h)
    have s0 := hst.oldEnd 0 (by kernel_rfl) rfl
    have s2 := hst.oldEnd 2 (by kernel_rfl) rfl
    have s3 := hst.oldEnd 3 (by kernel_rfl) rfl
    have s4 := hst.oldEnd 4 (by kernel_rfl) rfl
    have hsz : tm.length = 139 := hst.size
    have hglob := hst.glob
    obtain ⟨A1, c1, h14, -, -, -, -, -⟩ := o14.cells
    obtain ⟨A4, c4, h15, -, -, -, -, -⟩ := o15.cells
    have hrow3 : W3.heap[G]? = some (.cells (cfgA limC0 (limQ0 A1 c1 A4 c4)) 30) := by
      have k14 := h14
      have k15 := h15
      simp at k14 k15
      rw [hrow]
      simp [k14, k15, cfgA, limC0, limQ0]
    rw [h14] at o14 x1 x2
    rw [h15] at o15 x1 x3
    rw [s5] at x2 x3
    obtain ⟨g1, cur1, rfl, -, -, -⟩ := own_first o14 (by omega)
    obtain ⟨g4, cur4, rfl, -, -, -⟩ := own_first o15 (by omega)
    have HM0 : Hid (MSt w G [] W3 (limN 0 1 0 0 0 1 []) (limQ0 (some ⟨g1, 0, none⟩) c1 (some ⟨g4, 0, none⟩) c4)) := Lib.hid (lim_start hglob hG1 hrow3 o14 o15 (fun b hb => x1 b hb) (fun b hb e => x2 b hb (by rw [e]; rfl)) (fun b hb e => x3 b hb (by rw [e]; rfl)))
    clear hst hl hrow hrow3 o14 o15 x1 x2 x3 hglob hG1 hG2 h14 h15 L0 L1 L3 cur1 cur4
    ((repeat (have hh := arr_succ hsz; clear hsz; obtain ⟨_, tm, rfl, hsz⟩ := hh)); (obtain rfl := List.eq_nil_of_length_eq_zero hsz))
    simp at s0 s2 s3 s4 s5
    subst s0 s2 s3 s4 s5
    go_upto_region 16 with ((with_reducible refine wpList_make_g elemR W3 rfl (.tmp 35) (.tmp 35) rfl 1024 1024 1024 rfl rfl rfl rfl (by omega) ?_); intro w4 ho4 hb4 hs4; have e4 : w4.cell? ⟨G, 3, none⟩ = some (.slice none 0 0) := (HM0.out.more hb4).cell 3; have f4 : w4.frozen? ⟨G, 3, none⟩ = false := frozen_of_row _ _ _ _ _ (HM0.out.more hb4).all; have HO4 := Lib.hid ho4; have HB4 := Lib.hid hb4; clear ho4 hb4 hs4)
    have HMA : Hid (MSt w G [] (w4.setCell ⟨G, 3, none⟩ (.slice (some ⟨W3.heap.size, 0, none⟩) 1024 1024)) (limN 0 1 0 1024 0 1 []) { (limQ0 (some ⟨g1, 0, none⟩) c1 (some ⟨g4, 0, none⟩) c4) with A3 := some ⟨W3.heap.size, 0, none⟩, c3 := 1024 }) := Lib.hid (by
      have ho := HO4.out
      rw [zeros_R 1024] at ho
      have h := HM0.out.setr HB4.out (l := List.replicate 1024 lzR) (A' := some ⟨W3.heap.size, 0, none⟩) (c' := 1024) (by rw [List.length_replicate]; exact ho)
      rw [List.length_replicate] at h
      skip
      exact h)
    generalize w4.setCell ⟨G, 3, none⟩ (.slice (some ⟨W3.heap.size, 0, none⟩) 1024 1024) = W5 at HMA ⊢
    clear e4 f4 HM0 HO4 HB4
    obtain ⟨qz, hqz⟩ : ∃ qz : CfgQ, qz = ({ (limQ0 (some ⟨g1, 0, none⟩) c1 (some ⟨g4, 0, none⟩) c4) with A3 := some ⟨W3.heap.size, 0, none⟩, c3 := 1024 } : CfgQ) := ⟨_, rfl⟩
    rw [← hqz] at HMA
    have HQF : Hid (QF qz g1 c1 g4 c4) := Lib.hid (by rw [hqz]; exact ⟨rfl, rfl, rfl, rfl⟩)
    obtain ⟨gz, hgz⟩ : ∃ gz, gz = W3.heap.size := ⟨_, rfl⟩
    have HQZ : Hid (qz.A3 = some ⟨gz, 0, none⟩ ∧ qz.c3 = 1024) := Lib.hid (by rw [hqz, hgz]; exact ⟨rfl, rfl⟩)
    clear hqz hgz
    have e1 : W5.cell? ⟨G, 1, none⟩ = some (.slice (some ⟨g1, 0, none⟩) 1 c1) := lim_cellP HMA.out (by omega) HQF.out.a1 HQF.out.a1c
    go_wp2_with fail
    go_loopw [51] (fun i wr => ∃ k : Nat, k ≤ 1 ∧ i = .int .i64 (k : Int) ∧ Hid (MSt w G [] wr (limN k 1 0 1024 0 1 []) qz)) (fun i _ => 1 - (intOf i).toNat)
    case atStart => exact ⟨0, by omega, rfl, HMA⟩
    case round =>
      obtain ⟨k, hk, rfl, hst⟩ := hrel
      by_cases hlt : k < 1
      · have hki : (k : Int) < 1 := by omega
        have hwk : wrap64 ((k : Int) + 1) = (k : Int) + 1 := by unfold wrap64; omega
        obtain ⟨y1, y2, y3⟩ := lim_nameP hst.out hlt HQF.out.a1
        have e1 : wr.cell? ⟨G, 1, none⟩ = some (.slice (some ⟨g1, 0, none⟩) 1 c1) := lim_cellP hst.out (by omega) HQF.out.a1 HQF.out.a1c
        have HY := Lib.hid y3
        clear hst y3
        go_wp2_with fail
        go_roundw
        case rel => exact ⟨k + 1, by omega, rfl, HY⟩
        case measure => exact meas2 hlt
      · have hki : ¬ (k : Int) < 1 := by omega
        have hkn : k = 1 := by omega
        have HMB : Hid (MSt w G [] wr (limN 1 1 0 1024 0 1 []) qz) := by rw [hkn] at hst; exact hst
        clear hst hlt hk hkn

        have e1 : wr.cell? ⟨G, 4, none⟩ = some (.slice (some ⟨g4, 0, none⟩) 1 c4) := lim_cellT HMB.out (by omega) HQF.out.a4 HQF.out.a4c
        go_wp2_with fail
        go_loopw [63] (fun i wr => ∃ k : Nat, k ≤ 1 ∧ i = .int .i64 (k : Int) ∧ Hid (MSt w G [] wr (limN 1 1 0 1024 k 1 []) qz)) (fun i _ => 1 - (intOf i).toNat)
        case atStart => exact ⟨0, by omega, rfl, HMB⟩
        case round =>
          obtain ⟨k, hk, rfl, hst⟩ := hrel
          by_cases hlt : k < 1
          · have hki : (k : Int) < 1 := by omega
            have hwk : wrap64 ((k : Int) + 1) = (k : Int) + 1 := by unfold wrap64; omega
            obtain ⟨y1, y2, y3⟩ := lim_nameT hst.out hlt HQF.out.a4
            have e1 : wr.cell? ⟨G, 4, none⟩ = some (.slice (some ⟨g4, 0, none⟩) 1 c4) := lim_cellT hst.out (by omega) HQF.out.a4 HQF.out.a4c
            have HY := Lib.hid y3
            clear hst y3
            go_wp2_with fail
            go_roundw
            case rel => exact ⟨k + 1, by omega, rfl, HY⟩
            case measure => exact meas2 hlt
          · have hki : ¬ (k : Int) < 1 := by omega
            have hkn : k = 1 := by omega
            have HMC : Hid (MSt w G [] wr (limN 1 1 0 1024 1 1 []) qz) := by rw [hkn] at hst; exact hst
            clear hst hlt hk hkn
            have HMD : Hid (MSt w G [] wr (limR 1 0 1024 1 []) qz) := Lib.hid (by have h := HMC.out; rw [limN_all] at h; exact h)
            obtain ⟨CX, hCX⟩ : ∃ CX, CX = cfgA (limR 1 0 1024 1 []) qz := ⟨_, rfl⟩
            have HZ : Hid (CX.size = 6) := Lib.hid (by rw [hCX]; rfl)
            have HROW : Hid (wr.heap[G]? = some (.cells CX 30)) := Lib.hid (by rw [hCX]; exact HMD.out.all)
            have HK : Hid (Calls Tryz.prog 6 #[.agg CX] wr fun e w' => e = .returned (.agg #[.int .i64 0, .int .i64 0, .int .i64 0]) ∧ Below wr.heap.size wr w') := Lib.hid (by
              have hin : CfgIn wr (limR 1 0 1024 1 []) qz := HMD.out.own.cfg (lim_okcfg _ _ _ _ _ (fun x hx => by cases hx)) (lim_small (by omega) (by omega) (by omega) (by omega) (by simp) (fun x hx => by cases hx)) (by omega)
              have h := pcheck_ok (limR 1 0 1024 1 []) qz wr hin
              rw [lim_zero (by omega) (by omega) (by omega) (by omega) (by simp) (by simp)] at h
              rw [hCX]
              exact h)
            have HEQ := eqlF 0 0 0
            clear HMC hCX
            go_upto_region 28 with (first
              | (with_reducible refine load_cfg rfl (.tmp 5) rfl G rfl CX HZ.out HROW.out ?_)
              | (go_at_call 6; refine HK.out.mono ?_; rintro e w8 ⟨rfl, hb8⟩; have HB8 := Lib.hid hb8; clear hb8))
            have HME : Hid (MSt w G [] w8 (limR 1 0 1024 1 []) qz) := Lib.hid (HMD.out.more HB8.out)
            have HOE : Hid (∀ W, Below w8.heap.size w8 W → OwnC W w.heap.size 47 5 (.slice (some ⟨gz, 0, none⟩) 1024 1024) 1024 ((List.replicate 1024 lzR).flatMap regV)) := Lib.hid fun W hW => by
              have h := (HME.out.more hW).own.rs
              rw [HQZ.out.1, HQZ.out.2, show (limR 1 0 1024 1 []).rs.length = 1024 from by simp [limR]] at h
              exact h
            have HYE : Hid (∀ W, Below w8.heap.size w8 W → W.cell? ⟨G, 3, none⟩ = some (.slice (some ⟨gz, 0, none⟩) 1024 1024)) := Lib.hid fun W hW => by
              have h := (HME.out.more hW).cell 3
              rw [h]
              show some (Value.slice qz.A3 (limR 1 0 1024 1 []).rs.length qz.c3) = _
              rw [HQZ.out.1, HQZ.out.2, show (limR 1 0 1024 1 []).rs.length = 1024 from by simp [limR]]
            have HFE : Hid (∀ W, Below w8.heap.size w8 W → W.frozen? ⟨G, 3, none⟩ = false) := Lib.hid fun W hW => frozen_of_row _ _ _ _ _ (HME.out.more hW).all
            clear HMD HROW HK HEQ
            obtain ⟨w9, hw9⟩ : ∃ w9, w8.alloc (.cells #[.int .u64 0, .int .u64 0, .int .u16 0, .int .u8 0, .bool false] 47) = w9 := ⟨_, rfl⟩
            have hb9 : Below w8.heap.size w8 w9 := by rw [← hw9]; exact (Below.refl _ _).alloc (Nat.le_refl _) _
            have HB9 := Lib.hid hb9
            have HCL : Hid (Cells w9 (some ⟨w8.heap.size, 0, none⟩) [.int .u64 0, .int .u64 0, .int .u16 0, .int .u8 0, .bool false]) := Lib.hid (by rw [← hw9]; exact lit_cells w8 #[.int .u64 0, .int .u64 0, .int .u16 0, .int .u8 0, .bool false] 47)
            have e8 : w8.cell? ⟨G, 3, none⟩ = some (.slice (some ⟨gz, 0, none⟩) 1024 1024) := HYE.out w8 (Below.refl _ _)
            clear hb9
            go_upto_region 40 with ((with_reducible refine wpList_append_new elemR rfl (.tmp 106) (.tmp 108) rfl w.heap.size ⟨gz, 0, none⟩ 1024 ((List.replicate 1024 lzR).flatMap regV) rfl (HOE.out w9 HB9.out) (some ⟨w8.heap.size, 0, none⟩) 1 1 [.int .u64 0, .int .u64 0, .int .u16 0, .int .u8 0, .bool false] rfl HCL.out rfl (by omega) (by omega) ?_); intro c' w10 ho10 hb10; have hb8 : Below w8.heap.size w8 w10 := HB9.out.trans (hb10.mono HB9.out.size); have e10 : w10.cell? ⟨G, 3, none⟩ = some (.slice (some ⟨gz, 0, none⟩) 1024 1024) := HYE.out w10 hb8; have f10 : w10.frozen? ⟨G, 3, none⟩ = false := HFE.out w10 hb8; have HO10 := Lib.hid ho10; have HB10 := Lib.hid hb8; clear ho10 hb10 hb8)
            have HMS : Hid (∃ qy : CfgQ, MSt w G [] (w10.setCell ⟨G, 3, none⟩ (.slice (some ⟨w9.heap.size, 0, none⟩) (1024 + 1) c')) (limR 1 0 1025 1 []) qy) := Lib.hid (by
              have ho := HO10.out.base HB9.out.size
              have e : ((List.replicate 1024 lzR).flatMap regV) ++ [.int .u64 0, .int .u64 0, .int .u16 0, .int .u8 0, .bool false] = (List.replicate (1024 + 1) lzR).flatMap regV := by
                rw [List.replicate_succ', List.flatMap_append]; rfl
              rw [e] at ho
              have h := HME.out.setr HB10.out (l := List.replicate (1024 + 1) lzR) (A' := some ⟨w9.heap.size, 0, none⟩) (c' := c') (by rw [List.length_replicate]; exact ho)
              rw [List.length_replicate] at h
              exact ⟨_, h⟩)
            generalize w10.setCell ⟨G, 3, none⟩ (.slice (some ⟨w9.heap.size, 0, none⟩) (1024 + 1) c') = WZ at HMS ⊢
            clear HME HOE HYE HFE HO10 HB10 HCL HB9 e8 e10 f10 hw9
            obtain ⟨qy0, hqy0⟩ := HMS.out
            obtain ⟨qy, HMY⟩ : ∃ qy : CfgQ, Hid (MSt w G [] WZ (limR 1 0 1025 1 []) qy) := ⟨_, Lib.hid hqy0⟩
            obtain ⟨CY, hCY⟩ : ∃ CY, CY = cfgA (limR 1 0 1025 1 []) qy := ⟨_, rfl⟩
            have HZY : Hid (CY.size = 6) := Lib.hid (by rw [hCY]; rfl)
            have HRY : Hid (∀ W, Below WZ.heap.size WZ W → W.heap[G]? = some (.cells CY 30)) := Lib.hid fun W hW => by rw [hCY]; exact (HMY.out.more hW).all
            have HKY : Hid (∀ W, Below WZ.heap.size WZ W → Calls Tryz.prog 6 #[.agg CY] W fun e w' => e = .returned (.agg #[.int .i64 7, .int .i64 3, .int .i64 1024]) ∧ Below W.heap.size W w') := Lib.hid fun W hW => by
              have hin : CfgIn W (limR 1 0 1025 1 []) qy := (HMY.out.more hW).own.cfg (lim_okcfg _ _ _ _ _ (fun x hx => by cases hx)) (lim_small (by omega) (by omega) (by omega) (by omega) (by simp) (fun x hx => by cases hx)) (by omega)
              have h := pcheck_ok (limR 1 0 1025 1 []) qy W hin
              rw [(lim_over 3 1 0 1025 1 0 0 _ (by omega) rfl rfl (by omega) (by decide) (by omega) (by omega) (by omega) (by omega) (by omega))] at h
              rw [hCY]
              exact h
            have HEQ := eqlF 7 3 1024
            have HBY := Lib.hid HMY.out.below
            clear hCY HMY
            go_wp2_with (first
              | (go_at_call 7; refine (HAL.out _).mono ?_; rintro e v1 ⟨rfl, hv1⟩; have HV1 := Lib.hid hv1; clear hv1)
              | ((with_reducible refine load_cfgw ?_ (.tmp 5) rfl G rfl CY HZY.out (HRY.out _ HV1.out) ?_); exact rfl)
              | (go_at_call 6; refine (HKY.out _ HV1.out).mono ?_; rintro e v2 ⟨rfl, hv2⟩; have HV2 := Lib.hid hv2; clear hv2))
            go_ret
            exact ⟨rfl, HBY.out.trans ((HV1.out.trans (HV2.out.mono HV1.out.size)).mono HBY.out.size)⟩

set_option maxHeartbeats 8000000 in
set_option maxRecDepth 100000 in
theorem walk4 (kk : Int) (hk0 : 0 ≤ kk) (hk1 : kk < 256) (hj : kk.tmod 6 = 3) (w : World) : Calls Tryz.prog 3 #[.int .u8 kk] w fun e w' => e = .returned (.bool true) ∧ Below w.heap.size w w' := by
  have hkk : IntKind.i64.wrap kk = kk := by rw [IntKind.wrap_i64]; omega
  have HLM : Hid (∀ W, Calls Tryz.prog 5 #[.int .i64 4] W fun e w' => e = .returned (.int .i64 1024) ∧ W = w') := Lib.hid fun W => limit_ok 4 W
  have HAL := Lib.hid alive_ok
  go_enter Tryz.func3, Tryz.ntmps3
  go_wp2_with (go_at_call 5; refine (HLM.out _).mono ?_; rintro e w1 ⟨rfl, rfl⟩)
  refine region_invB w [(14, Sq.row 36 4 1 ([lzP].flatMap partV)), (15, Sq.row 39 6 1 ([lzT].flatMap portV)), (16, Sq.of [(0, 14), (1, 15)] (fun l => .agg #[.int .u64 0, l.getD 0 undef, .slice none 0 0, .slice none 0 0, l.getD 1 undef, .slice none 0 0])), (5, Sq.box 30 zeroC [(0, 14), (1, 15)] (fun l => #[.int .u64 0, l.getD 0 undef, .slice none 0 0, .slice none 0 0, l.getD 1 undef, .slice none 0 0]) 4)] [(16, [(0, 14), (1, 15)])] [(5, 4, [(0, 14), (1, 15)])] (by kernel_rfl) ?_ (by kernel_rfl) rfl rfl ?_ ?_
  case refine_1 => exact (Below.refl _ _).drew
  case refine_2 =>
    refine ⟨?_, ?_, ?_, ?_, ?_, trivial⟩
    case refine_1 =>
      refine Or.inl ⟨_, rfl, Nat.le_of_ble_eq_true rfl, fun listed a W hst hn hdep K hK => ?_⟩
      refine step_make_g elemP rfl 1 1 rfl rfl (by omega) (fun w' ho hb => ?_)
      rw [zeros_P 1] at ho
      exact hK _ _ hb (Sq.of_row rfl ho)
    case refine_2 =>
      refine Or.inl ⟨_, rfl, Nat.le_of_ble_eq_true rfl, fun listed a W hst hn hdep K hK => ?_⟩
      refine step_make_g elemT rfl 1 1 rfl rfl (by omega) (fun w' ho hb => ?_)
      rw [zeros_T 1] at ho
      exact hK _ _ hb (Sq.of_row rfl ho)
    case refine_3 =>
      refine Or.inl ⟨_, rfl, Nat.le_of_ble_eq_true rfl, fun listed a W hst hn hdep K hK => ?_⟩
      have D0 := dep_of hdep 0 (by kernel_rfl)
      have D1 := dep_of hdep 1 (by kernel_rfl)
      obtain ⟨B0, d0, h0, -⟩ := (hst.rowOf 0 14 (by kernel_rfl) D0 rfl).cells
      obtain ⟨B1, d1, h1, -⟩ := (hst.rowOf 1 15 (by kernel_rfl) D1 rfl).cells
      go_simp
      exact hK _ _ (Below.refl _ _) (Sq.of_fn rfl (by simp [h0, h1]))
    case refine_4 =>
      refine Or.inl ⟨_, rfl, Nat.le_of_ble_eq_true rfl, fun listed a W hst hn hdep K hK => ?_⟩
      go_simp
      exact hK _ _ ((Below.refl _ _).alloc (Nat.le_refl _) _) (Sq.of_box rfl)
    case refine_5 =>
      refine Or.inr ⟨rfl, 3, 5, _, _, _, _, by kernel_rfl, rfl, after_of (by kernel_rfl), fun listed a W hst hn hdep g hg hz K hK => ?_⟩
      have DD := dep_of hdep 2 (by kernel_rfl)
      have f16 := hst.fnOf 2 16 (by kernel_rfl) DD rfl
      have D0 := hst.reach 14 2 0 (by kernel_rfl) DD
      have D1 := hst.reach 14 2 1 (by kernel_rfl) DD
      obtain ⟨B0, d0, h0, -⟩ := (hst.rowOf 0 14 (by kernel_rfl) D0 rfl).cells
      obtain ⟨B1, d1, h1, -⟩ := (hst.rowOf 1 15 (by kernel_rfl) D1 rfl).cells
      have hC : (fun l => #[.int .u64 0, l.getD 0 undef, .slice none 0 0, .slice none 0 0, l.getD 1 undef, .slice none 0 0]) (List.map (fun k => tv a k.2) [(0, 14), (1, 15)]) = #[.int .u64 0, .slice B0 1 d0, .slice none 0 0, .slice none 0 0, .slice B1 1 d1, .slice none 0 0] := by simp [tv, h0, h1]
      have hC' : a.tmps[16]?.getD undef = .agg #[.int .u64 0, .slice B0 1 d0, .slice none 0 0, .slice none 0 0, .slice B1 1 d1, .slice none 0 0] := by rw [f16]; simp [h0, h1]
      refine box_store rfl 30 5 16 rfl rfl g _ (by simpa [tv] using hg) hC' 30 zeroC hz (by kernel_rfl) rfl (by simp only [List.all_toArray, List.all_cons, List.all_nil]; rfl) (fun w' hT hw => hK w' hT ?_)
      exact hw.trans (congrArg (fun x => some (Obj.cells x 30 (0, 0))) hC.symm)
  case refine_3 =>
    rintro ⟨⟨tm⟩, df⟩ W3 listed hl hst
    obtain rfl : df = [] := hst.defers
    have L0 := hl 0 (Nat.le_of_ble_eq_true rfl)
    have L1 := hl 1 (Nat.le_of_ble_eq_true rfl)
    have L3 := hl 3 (Nat.le_of_ble_eq_true rfl)
    obtain ⟨G, s5, hG1, hG2, hrow⟩ := hst.boxOf 3 5 (by kernel_rfl) L3 rfl (hl 4 (Nat.le_of_ble_eq_true rfl))
    have o14 := hst.rowOf 0 14 (by kernel_rfl) L0 rfl
    have o15 := hst.rowOf 1 15 (by kernel_rfl) L1 rfl
    have x1 := hst.apart 0 1 14 15 (by kernel_rfl) (by kernel_rfl) L0 L1 (by omega) (by intro h; cases h) (by intro h; cases h)
    have x2 := hst.apart 0 3 14 5 (by kernel_rfl) (by kernel_rfl) L0 L3 (by omega) (by intro h; cases h) (by intro h; cases h)
    have x3 := hst.apart 1 3 15 5 (by kernel_rfl) (by kernel_rfl) L1 L3 (by omega) (by intro h; cases h) (by intro h; cases h)
    have s0 := hst.oldEnd 0 (by kernel_rfl) rfl
    have s2 := hst.oldEnd 2 (by kernel_rfl) rfl
    have s3 := hst.oldEnd 3 (by kernel_rfl) rfl
    have s4 := hst.oldEnd 4 (by kernel_rfl) rfl
    have hsz : tm.length = 139 := hst.size
    have hglob := hst.glob
    obtain ⟨A1, c1, h14, -, -, -, -, -⟩ := o14.cells
    obtain ⟨A4, c4, h15, -, -, -, -, -⟩ := o15.cells
    have hrow3 : W3.heap[G]? = some (.cells (cfgA limC0 (limQ0 A1 c1 A4 c4)) 30) := by
      have k14 := h14
      have k15 := h15
      simp at k14 k15
      rw [hrow]
      simp [k14, k15, cfgA, limC0, limQ0]
    rw [h14] at o14 x1 x2
    rw [h15] at o15 x1 x3
    rw [s5] at x2 x3
    obtain ⟨g1, cur1, rfl, -, -, -⟩ := own_first o14 (by omega)
    obtain ⟨g4, cur4, rfl, -, -, -⟩ := own_first o15 (by omega)
    have HM0 : Hid (MSt w G [] W3 (limN 0 1 0 0 0 1 []) (limQ0 (some ⟨g1, 0, none⟩) c1 (some ⟨g4, 0, none⟩) c4)) := Lib.hid (lim_start hglob hG1 hrow3 o14 o15 (fun b hb => x1 b hb) (fun b hb e => x2 b hb (by rw [e]; rfl)) (fun b hb e => x3 b hb (by rw [e]; rfl)))
    clear hst hl hrow hrow3 o14 o15 x1 x2 x3 hglob hG1 hG2 h14 h15 L0 L1 L3 cur1 cur4
    ((repeat (have hh := arr_succ hsz; clear hsz; obtain ⟨_, tm, rfl, hsz⟩ := hh)); (obtain rfl := List.eq_nil_of_length_eq_zero hsz))
    simp at s0 s2 s3 s4 s5
    subst s0 s2 s3 s4 s5
    go_upto_region 16 with ((with_reducible refine wpList_make_g elemT W3 rfl (.tmp 40) (.tmp 40) rfl 1024 1024 1024 rfl rfl rfl rfl (by omega) ?_); intro w4 ho4 hb4 hs4; have e4 : w4.cell? ⟨G, 4, none⟩ = some (.slice (some ⟨g4, 0, none⟩) 1 c4) := (HM0.out.more hb4).cell 4; have f4 : w4.frozen? ⟨G, 4, none⟩ = false := frozen_of_row _ _ _ _ _ (HM0.out.more hb4).all; have HO4 := Lib.hid ho4; have HB4 := Lib.hid hb4; clear ho4 hb4 hs4)
    have HMA : Hid (MSt w G [] (w4.setCell ⟨G, 4, none⟩ (.slice (some ⟨W3.heap.size, 0, none⟩) 1024 1024)) (limN 0 1 0 0 0 1024 []) { (limQ0 (some ⟨g1, 0, none⟩) c1 (some ⟨g4, 0, none⟩) c4) with A4 := some ⟨W3.heap.size, 0, none⟩, c4 := 1024 }) := Lib.hid (by
      have ho := HO4.out
      rw [zeros_T 1024] at ho
      have h := HM0.out.sett HB4.out (l := List.replicate 1024 lzT) (A' := some ⟨W3.heap.size, 0, none⟩) (c' := 1024) (by rw [List.length_replicate]; exact ho)
      rw [List.length_replicate] at h
      rw [← namedT_zero] at h
      exact h)
    generalize w4.setCell ⟨G, 4, none⟩ (.slice (some ⟨W3.heap.size, 0, none⟩) 1024 1024) = W5 at HMA ⊢
    clear e4 f4 HM0 HO4 HB4
    obtain ⟨qz, hqz⟩ : ∃ qz : CfgQ, qz = ({ (limQ0 (some ⟨g1, 0, none⟩) c1 (some ⟨g4, 0, none⟩) c4) with A4 := some ⟨W3.heap.size, 0, none⟩, c4 := 1024 } : CfgQ) := ⟨_, rfl⟩
    rw [← hqz] at HMA
    have HQF : Hid (QF qz g1 c1 W3.heap.size 1024) := Lib.hid (by rw [hqz]; exact ⟨rfl, rfl, rfl, rfl⟩)
    obtain ⟨gz, hgz⟩ : ∃ gz, gz = W3.heap.size := ⟨_, rfl⟩
    have HQZ : Hid (qz.A4 = some ⟨gz, 0, none⟩ ∧ qz.c4 = 1024) := Lib.hid (by rw [hqz, hgz]; exact ⟨rfl, rfl⟩)
    clear hqz hgz
    have e1 : W5.cell? ⟨G, 1, none⟩ = some (.slice (some ⟨g1, 0, none⟩) 1 c1) := lim_cellP HMA.out (by omega) HQF.out.a1 HQF.out.a1c
    go_wp2_with fail
    go_loopw [51] (fun i wr => ∃ k : Nat, k ≤ 1 ∧ i = .int .i64 (k : Int) ∧ Hid (MSt w G [] wr (limN k 1 0 0 0 1024 []) qz)) (fun i _ => 1 - (intOf i).toNat)
    case atStart => exact ⟨0, by omega, rfl, HMA⟩
    case round =>
      obtain ⟨k, hk, rfl, hst⟩ := hrel
      by_cases hlt : k < 1
      · have hki : (k : Int) < 1 := by omega
        have hwk : wrap64 ((k : Int) + 1) = (k : Int) + 1 := by unfold wrap64; omega
        obtain ⟨y1, y2, y3⟩ := lim_nameP hst.out hlt HQF.out.a1
        have e1 : wr.cell? ⟨G, 1, none⟩ = some (.slice (some ⟨g1, 0, none⟩) 1 c1) := lim_cellP hst.out (by omega) HQF.out.a1 HQF.out.a1c
        have HY := Lib.hid y3
        clear hst y3
        go_wp2_with fail
        go_roundw
        case rel => exact ⟨k + 1, by omega, rfl, HY⟩
        case measure => exact meas2 hlt
      · have hki : ¬ (k : Int) < 1 := by omega
        have hkn : k = 1 := by omega
        have HMB : Hid (MSt w G [] wr (limN 1 1 0 0 0 1024 []) qz) := by rw [hkn] at hst; exact hst
        clear hst hlt hk hkn

        have e1 : wr.cell? ⟨G, 4, none⟩ = some (.slice (some ⟨W3.heap.size, 0, none⟩) 1024 1024) := lim_cellT HMB.out (by omega) HQF.out.a4 HQF.out.a4c
        go_wp2_with fail
        go_loopw [63] (fun i wr => ∃ k : Nat, k ≤ 1024 ∧ i = .int .i64 (k : Int) ∧ Hid (MSt w G [] wr (limN 1 1 0 0 k 1024 []) qz)) (fun i _ => 1024 - (intOf i).toNat)
        case atStart => exact ⟨0, by omega, rfl, HMB⟩
        case round =>
          obtain ⟨k, hk, rfl, hst⟩ := hrel
          by_cases hlt : k < 1024
          · have hki : (k : Int) < 1024 := by omega
            have hwk : wrap64 ((k : Int) + 1) = (k : Int) + 1 := by unfold wrap64; omega
            obtain ⟨y1, y2, y3⟩ := lim_nameT hst.out hlt HQF.out.a4
            have e1 : wr.cell? ⟨G, 4, none⟩ = some (.slice (some ⟨W3.heap.size, 0, none⟩) 1024 1024) := lim_cellT hst.out (by omega) HQF.out.a4 HQF.out.a4c
            have HY := Lib.hid y3
            clear hst y3
            go_wp2_with fail
            go_roundw
            case rel => exact ⟨k + 1, by omega, rfl, HY⟩
            case measure => exact meas2 hlt
          · have hki : ¬ (k : Int) < 1024 := by omega
            have hkn : k = 1024 := by omega
            have HMC : Hid (MSt w G [] wr (limN 1 1 0 0 1024 1024 []) qz) := by rw [hkn] at hst; exact hst
            clear hst hlt hk hkn
            have HMD : Hid (MSt w G [] wr (limR 1 0 0 1024 []) qz) := Lib.hid (by have h := HMC.out; rw [limN_all] at h; exact h)
            obtain ⟨CX, hCX⟩ : ∃ CX, CX = cfgA (limR 1 0 0 1024 []) qz := ⟨_, rfl⟩
            have HZ : Hid (CX.size = 6) := Lib.hid (by rw [hCX]; rfl)
            have HROW : Hid (wr.heap[G]? = some (.cells CX 30)) := Lib.hid (by rw [hCX]; exact HMD.out.all)
            have HK : Hid (Calls Tryz.prog 6 #[.agg CX] wr fun e w' => e = .returned (.agg #[.int .i64 0, .int .i64 0, .int .i64 0]) ∧ Below wr.heap.size wr w') := Lib.hid (by
              have hin : CfgIn wr (limR 1 0 0 1024 []) qz := HMD.out.own.cfg (lim_okcfg _ _ _ _ _ (fun x hx => by cases hx)) (lim_small (by omega) (by omega) (by omega) (by omega) (by simp) (fun x hx => by cases hx)) (by omega)
              have h := pcheck_ok (limR 1 0 0 1024 []) qz wr hin
              rw [lim_zero (by omega) (by omega) (by omega) (by omega) (by simp) (by simp)] at h
              rw [hCX]
              exact h)
            have HEQ := eqlF 0 0 0
            clear HMC hCX
            go_upto_region 28 with (first
              | (with_reducible refine load_cfg rfl (.tmp 5) rfl G rfl CX HZ.out HROW.out ?_)
              | (go_at_call 6; refine HK.out.mono ?_; rintro e w8 ⟨rfl, hb8⟩; have HB8 := Lib.hid hb8; clear hb8))
            have HME : Hid (MSt w G [] w8 (limR 1 0 0 1024 []) qz) := Lib.hid (HMD.out.more HB8.out)
            have HOE : Hid (∀ W, Below w8.heap.size w8 W → OwnC W w.heap.size 39 6 (.slice (some ⟨gz, 0, none⟩) 1024 1024) 1024 ((List.replicate 1024 lxT).flatMap portV)) := Lib.hid fun W hW => by
              have h := (HME.out.more hW).own.ts
              rw [HQZ.out.1, HQZ.out.2, show (limR 1 0 0 1024 []).ts.length = 1024 from by simp [limR]] at h
              exact h
            have HYE : Hid (∀ W, Below w8.heap.size w8 W → W.cell? ⟨G, 4, none⟩ = some (.slice (some ⟨gz, 0, none⟩) 1024 1024)) := Lib.hid fun W hW => by
              have h := (HME.out.more hW).cell 4
              rw [h]
              show some (Value.slice qz.A4 (limR 1 0 0 1024 []).ts.length qz.c4) = _
              rw [HQZ.out.1, HQZ.out.2, show (limR 1 0 0 1024 []).ts.length = 1024 from by simp [limR]]
            have HFE : Hid (∀ W, Below w8.heap.size w8 W → W.frozen? ⟨G, 4, none⟩ = false) := Lib.hid fun W hW => frozen_of_row _ _ _ _ _ (HME.out.more hW).all
            clear HMD HROW HK HEQ
            have HRG : Hid (∀ W, Below w8.heap.size w8 W → W.rangeAt gz 0 [.int .u16 0, .int .u16 0, .string ⟨#[120]⟩, .bool false, .bool false, .int .u32 0]) := Lib.hid fun W hW t v hv => by
              have ht : t < 6 := (List.getElem?_eq_some_iff.1 hv).1
              rw [Nat.zero_add]
              refine (own_cell (HOE.out W hW) ?_).1
              rw [List.replicate_succ, List.flatMap_cons, List.getElem?_append_left (by exact ht)]
              exact hv
            have HTB : Hid (∀ W, Turn (fun _ => False) w8 W → Below w8.heap.size w8 W) := Lib.hid fun W h => h.below (fun _ h => h.elim) (Nat.le_refl _)
            go_upto_region 37 with fail
            refine region_invXL w8 (fun _ => False) 9 [] (by kernel_rfl) [(113, isV (.pointer (some ⟨G, 4, none⟩))), (114, isV (.slice (some ⟨gz, 0, none⟩) 1024 1024)), (115, isV (.pointer (some ⟨G, 4, none⟩))), (116, isV (.slice (some ⟨gz, 0, none⟩) 1024 1024)), (117, isV (.pointer (some ⟨gz, 0, none⟩))), (118, isV (.agg #[.int .u16 0, .int .u16 0, .string ⟨#[120]⟩, .bool false, .bool false, .int .u32 0])), (119, isRow w8.heap.size 39 6 1 [.int .u16 0, .int .u16 0, .string ⟨#[120]⟩, .bool false, .bool false, .int .u32 0]), (120, isRow w8.heap.size 39 6 (1024 + 1) (((List.replicate 1024 lxT).flatMap portV) ++ [.int .u16 0, .int .u16 0, .string ⟨#[120]⟩, .bool false, .bool false, .int .u32 0])), (121, isV (.pointer (some ⟨G, 4, none⟩)))] 9 ⟨⟨isV_keeps _, fun _ => isV_x _ _⟩, ⟨isV_keeps _, fun _ => isV_x _ _⟩, ⟨isV_keeps _, fun _ => isV_x _ _⟩, ⟨isV_keeps _, fun _ => isV_x _ _⟩, ⟨isV_keeps _, fun _ => isV_x _ _⟩, ⟨isV_keeps _, fun _ => isV_x _ _⟩, ⟨isRow_keeps _ _ _ _ _, fun _ => isRow_x (fun _ h => h.elim) _ _ _ _⟩, ⟨isRow_keeps _ _ _ _ _, fun _ => isRow_x (fun _ h => h.elim) _ _ _ _⟩, ⟨isV_keeps _, fun _ => isV_x _ _⟩, trivial⟩ (by kernel_rfl) ?_ ?_ (by kernel_rfl) (by kernel_rfl) (by kernel_rfl) ?_ ?_
            case refine_1 => exact Turn.of_below (Below.refl _ _).drew
            case refine_2 => exact (Below.refl _ _).drew
            case refine_3 =>
              refine ⟨?_, ?_, ?_, ?_, ?_, ?_, ?_, ?_, ?_, trivial⟩
              case refine_1 =>
                refine ⟨_, rfl, Nat.le_of_ble_eq_true rfl, fun listed a W hst hn hdep K hK => ?_⟩
                (have e1 := hst.oldOf hn 5 (by kernel_rfl) rfl; simp only [Array.getD_eq_getD_getElem?] at e1)
                go_simp
                exact hK _ _ (Or.inl (Below.refl _ _)) rfl
              case refine_2 =>
                refine ⟨_, rfl, Nat.le_of_ble_eq_true rfl, fun listed a W hst hn hdep K hK => ?_⟩
                (have dd := dep_of hdep 0 (by kernel_rfl); have e1 : a.tmps[113]?.getD undef = (.pointer (some ⟨G, 4, none⟩)) := hst.fact 0 113 (by kernel_rfl) dd; clear dd)
                have y := HYE.out W (HTB.out W hst.glob)
                go_simp
                exact hK _ _ (Or.inl (Below.refl _ _)) rfl
              case refine_3 =>
                refine ⟨_, rfl, Nat.le_of_ble_eq_true rfl, fun listed a W hst hn hdep K hK => ?_⟩
                (have e1 := hst.oldOf hn 5 (by kernel_rfl) rfl; simp only [Array.getD_eq_getD_getElem?] at e1)
                go_simp
                exact hK _ _ (Or.inl (Below.refl _ _)) rfl
              case refine_4 =>
                refine ⟨_, rfl, Nat.le_of_ble_eq_true rfl, fun listed a W hst hn hdep K hK => ?_⟩
                (have dd := dep_of hdep 2 (by kernel_rfl); have e1 : a.tmps[115]?.getD undef = (.pointer (some ⟨G, 4, none⟩)) := hst.fact 2 115 (by kernel_rfl) dd; clear dd)
                have y := HYE.out W (HTB.out W hst.glob)
                go_simp
                exact hK _ _ (Or.inl (Below.refl _ _)) rfl
              case refine_5 =>
                refine ⟨_, rfl, Nat.le_of_ble_eq_true rfl, fun listed a W hst hn hdep K hK => ?_⟩
                (have dd := dep_of hdep 3 (by kernel_rfl); have e1 : a.tmps[116]?.getD undef = (.slice (some ⟨gz, 0, none⟩) 1024 1024) := hst.fact 3 116 (by kernel_rfl) dd; clear dd)
                go_simp
                exact hK _ _ (Or.inl (Below.refl _ _)) rfl
              case refine_6 =>
                refine ⟨_, rfl, Nat.le_of_ble_eq_true rfl, fun listed a W hst hn hdep K hK => ?_⟩
                (have dd := dep_of hdep 4 (by kernel_rfl); have e1 : a.tmps[117]?.getD undef = (.pointer (some ⟨gz, 0, none⟩)) := hst.fact 4 117 (by kernel_rfl) dd; clear dd)
                rw [if_pos (by simp [Region.wanted])]
                refine wp_load_mid 39 (.tmp 117) rfl gz 0 ((eval_tmp a 117).trans e1) [.int .u16 0, .int .u16 0, .string ⟨#[120]⟩, .bool false, .bool false, .int .u32 0] _ (HRG.out W (HTB.out W hst.glob)) Tryz.underlying39 rfl (by kernel_rfl) ?_
                exact hK _ _ (Or.inl (Below.refl _ _)) rfl
              case refine_7 =>
                refine ⟨_, rfl, Nat.le_of_ble_eq_true rfl, fun listed a W hst hn hdep K hK => ?_⟩
                (have dd := dep_of hdep 5 (by kernel_rfl); have e1 : a.tmps[118]?.getD undef = (.agg #[.int .u16 0, .int .u16 0, .string ⟨#[120]⟩, .bool false, .bool false, .int .u32 0]) := hst.fact 5 118 (by kernel_rfl) dd; clear dd)
                have hgs := hst.glob.size
                go_simp
                exact hK _ _ (Or.inl ((Below.refl _ _).alloc (Nat.le_refl _) _)) (OwnC.base (OwnC.lit W 39 6 1 #[.int .u16 0, .int .u16 0, .string ⟨#[120]⟩, .bool false, .bool false, .int .u32 0] (by unfold maxLen; omega) rfl) hgs)
              case refine_8 =>
                refine ⟨_, rfl, Nat.le_of_ble_eq_true rfl, fun listed a W hst hn hdep K hK => ?_⟩
                (have dd := dep_of hdep 1 (by kernel_rfl); have e1 : a.tmps[114]?.getD undef = (.slice (some ⟨gz, 0, none⟩) 1024 1024) := hst.fact 1 114 (by kernel_rfl) dd; clear dd)
                (have dd := dep_of hdep 6 (by kernel_rfl); have r1 := hst.fact 6 119 (by kernel_rfl) dd; clear dd)
                obtain ⟨A9, c9, h9, hc9, -⟩ := OwnC.cells r1
                have hgs := hst.glob.size
                refine step_append_new elemT rfl 114 119 rfl w.heap.size ⟨gz, 0, none⟩ 1024 ((List.replicate 1024 lxT).flatMap portV) e1 (HOE.out W (HTB.out W hst.glob)) A9 1 c9 [.int .u16 0, .int .u16 0, .string ⟨#[120]⟩, .bool false, .bool false, .int .u32 0] h9 hc9 rfl (by omega) (by omega) (fun c' w' ho hb => ?_)
                exact hK _ _ (Or.inl hb) (OwnC.base ho hgs)
              case refine_9 =>
                refine ⟨_, rfl, Nat.le_of_ble_eq_true rfl, fun listed a W hst hn hdep K hK => ?_⟩
                (have e1 := hst.oldOf hn 5 (by kernel_rfl) rfl; simp only [Array.getD_eq_getD_getElem?] at e1)
                go_simp
                exact hK _ _ (Or.inl (Below.refl _ _)) rfl
            case refine_4 =>
              intro ok listed a' W ho hst hn hall K hK
              obtain ⟨f, hfd, hf⟩ := hst.frameR [(113, 121)] (by kernel_rfl)
              have f1 : OwnC W w8.heap.size 39 6 _ (1024 + 1) _ := hst.fact 7 120 (by kernel_rfl) (hall 7 (Nat.le_of_ble_eq_true rfl) (by omega))
              have f2 : a'.tmps[121]?.getD undef = (.pointer (some ⟨G, 4, none⟩)) := hst.fact 8 121 (by kernel_rfl) (hall 8 (Nat.le_of_ble_eq_true rfl) (by omega))
              obtain ⟨av, hav⟩ : ∃ av, a'.tmps[120]?.getD undef = av := ⟨_, rfl⟩
              rw [hav] at f1
              have hdf : a'.defers = [] := hst.defers
              have hbl := HTB.out W hst.glob
              obtain rfl : _ = ok := by injection ho
              clear hst hall hn hfd ho
              obtain ⟨A9, c9, rfl, -⟩ := f1.cells
              have HMS : Hid (∃ qy : CfgQ, MSt w G [] (W.setCell ⟨G, 4, none⟩ (.slice A9 (1024 + 1) c9)) (limR 1 0 0 1025 []) qy) := Lib.hid (by
                have e : ((List.replicate 1024 lxT).flatMap portV) ++ [.int .u16 0, .int .u16 0, .string ⟨#[120]⟩, .bool false, .bool false, .int .u32 0] = (List.replicate (1024 + 1) lxT).flatMap portV := by
                  rw [List.replicate_succ', List.flatMap_append]; rfl
                rw [e] at f1
                have h := HME.out.sett hbl (l := List.replicate (1024 + 1) lxT) (A' := A9) (c' := c9) (by rw [List.length_replicate]; exact f1)
                rw [List.length_replicate] at h
                exact ⟨_, h⟩)
              refine sec_store rfl 24 121 120 rfl rfl G 4 _ _ f2 hav rfl (HYE.out W hbl) (HFE.out W hbl) (by kernel_rfl) ?_
              refine hK _ _ ?_
              clear f2 hav hbl hK HME HOE HYE HFE HTB
              generalize W.setCell ⟨G, 4, none⟩ (.slice A9 (1024 + 1) c9) = WZ at HMS ⊢
              obtain ⟨tm, df⟩ := a'
              obtain rfl : df = [] := hdf
              simp only [updR, List.any_cons, List.any_nil, Nat.reduceAdd, Nat.reduceLeDiff, decide_true, decide_false, Bool.and_true, Bool.and_false, Bool.or_false, if_true, if_false, Bool.false_eq_true] at hf
              have hf' : tm = _ := hf
              subst hf'
              clear hf
              go_upto_region 40 with fail
              obtain ⟨qy0, hqy0⟩ := HMS.out
              obtain ⟨qy, HMY⟩ : ∃ qy : CfgQ, Hid (MSt w G [] WZ (limR 1 0 0 1025 []) qy) := ⟨_, Lib.hid hqy0⟩
              obtain ⟨CY, hCY⟩ : ∃ CY, CY = cfgA (limR 1 0 0 1025 []) qy := ⟨_, rfl⟩
              have HZY : Hid (CY.size = 6) := Lib.hid (by rw [hCY]; rfl)
              have HRY : Hid (∀ W, Below WZ.heap.size WZ W → W.heap[G]? = some (.cells CY 30)) := Lib.hid fun W hW => by rw [hCY]; exact (HMY.out.more hW).all
              have HKY : Hid (∀ W, Below WZ.heap.size WZ W → Calls Tryz.prog 6 #[.agg CY] W fun e w' => e = .returned (.agg #[.int .i64 7, .int .i64 4, .int .i64 1024]) ∧ Below W.heap.size W w') := Lib.hid fun W hW => by
                have hin : CfgIn W (limR 1 0 0 1025 []) qy := (HMY.out.more hW).own.cfg (lim_okcfg _ _ _ _ _ (fun x hx => by cases hx)) (lim_small (by omega) (by omega) (by omega) (by omega) (by simp) (fun x hx => by cases hx)) (by omega)
                have h := pcheck_ok (limR 1 0 0 1025 []) qy W hin
                rw [(lim_over 4 1 0 0 1025 0 0 _ (by omega) rfl rfl (by omega) (by decide) (by omega) (by omega) (by omega) (by omega) (by omega))] at h
                rw [hCY]
                exact h
              have HEQ := eqlF 7 4 1024
              have HBY := Lib.hid HMY.out.below
              clear hCY HMY
              go_wp2_with (first
                | (go_at_call 7; refine (HAL.out _).mono ?_; rintro e v1 ⟨rfl, hv1⟩; have HV1 := Lib.hid hv1; clear hv1)
                | ((with_reducible refine load_cfgw ?_ (.tmp 5) rfl G rfl CY HZY.out (HRY.out _ HV1.out) ?_); exact rfl)
                | (go_at_call 6; refine (HKY.out _ HV1.out).mono ?_; rintro e v2 ⟨rfl, hv2⟩; have HV2 := Lib.hid hv2; clear hv2))
              go_ret
              exact ⟨rfl, HBY.out.trans ((HV1.out.trans (HV2.out.mono HV1.out.size)).mono HBY.out.size)⟩

set_option maxHeartbeats 8000000 in
set_option maxRecDepth 100000 in
theorem walk5 (kk : Int) (hk0 : 0 ≤ kk) (hk1 : kk < 256) (hj : kk.tmod 6 = 4) (w : World) : Calls Tryz.prog 3 #[.int .u8 kk] w fun e w' => e = .returned (.bool true) ∧ Below w.heap.size w w' := by
  have hkk : IntKind.i64.wrap kk = kk := by rw [IntKind.wrap_i64]; omega
  have HLM : Hid (∀ W, Calls Tryz.prog 5 #[.int .i64 5] W fun e w' => e = .returned (.int .i64 512) ∧ W = w') := Lib.hid fun W => limit_ok 5 W
  have HAL := Lib.hid alive_ok
  go_enter Tryz.func3, Tryz.ntmps3
  go_wp2_with (go_at_call 5; refine (HLM.out _).mono ?_; rintro e w1 ⟨rfl, rfl⟩)
  refine region_invB w [(14, Sq.row 36 4 1 ([lzP].flatMap partV)), (15, Sq.row 39 6 1 ([lzT].flatMap portV)), (16, Sq.of [(0, 14), (1, 15)] (fun l => .agg #[.int .u64 0, l.getD 0 undef, .slice none 0 0, .slice none 0 0, l.getD 1 undef, .slice none 0 0])), (5, Sq.box 30 zeroC [(0, 14), (1, 15)] (fun l => #[.int .u64 0, l.getD 0 undef, .slice none 0 0, .slice none 0 0, l.getD 1 undef, .slice none 0 0]) 4)] [(16, [(0, 14), (1, 15)])] [(5, 4, [(0, 14), (1, 15)])] (by kernel_rfl) ?_ (by kernel_rfl) rfl rfl ?_ ?_
  case refine_1 => exact (Below.refl _ _).drew
  case refine_2 =>
    refine ⟨?_, ?_, ?_, ?_, ?_, trivial⟩
    case refine_1 =>
      refine Or.inl ⟨_, rfl, Nat.le_of_ble_eq_true rfl, fun listed a W hst hn hdep K hK => ?_⟩
      refine step_make_g elemP rfl 1 1 rfl rfl (by omega) (fun w' ho hb => ?_)
      rw [zeros_P 1] at ho
      exact hK _ _ hb (Sq.of_row rfl ho)
    case refine_2 =>
      refine Or.inl ⟨_, rfl, Nat.le_of_ble_eq_true rfl, fun listed a W hst hn hdep K hK => ?_⟩
      refine step_make_g elemT rfl 1 1 rfl rfl (by omega) (fun w' ho hb => ?_)
      rw [zeros_T 1] at ho
      exact hK _ _ hb (Sq.of_row rfl ho)
    case refine_3 =>
      refine Or.inl ⟨_, rfl, Nat.le_of_ble_eq_true rfl, fun listed a W hst hn hdep K hK => ?_⟩
      have D0 := dep_of hdep 0 (by kernel_rfl)
      have D1 := dep_of hdep 1 (by kernel_rfl)
      obtain ⟨B0, d0, h0, -⟩ := (hst.rowOf 0 14 (by kernel_rfl) D0 rfl).cells
      obtain ⟨B1, d1, h1, -⟩ := (hst.rowOf 1 15 (by kernel_rfl) D1 rfl).cells
      go_simp
      exact hK _ _ (Below.refl _ _) (Sq.of_fn rfl (by simp [h0, h1]))
    case refine_4 =>
      refine Or.inl ⟨_, rfl, Nat.le_of_ble_eq_true rfl, fun listed a W hst hn hdep K hK => ?_⟩
      go_simp
      exact hK _ _ ((Below.refl _ _).alloc (Nat.le_refl _) _) (Sq.of_box rfl)
    case refine_5 =>
      refine Or.inr ⟨rfl, 3, 5, _, _, _, _, by kernel_rfl, rfl, after_of (by kernel_rfl), fun listed a W hst hn hdep g hg hz K hK => ?_⟩
      have DD := dep_of hdep 2 (by kernel_rfl)
      have f16 := hst.fnOf 2 16 (by kernel_rfl) DD rfl
      have D0 := hst.reach 14 2 0 (by kernel_rfl) DD
      have D1 := hst.reach 14 2 1 (by kernel_rfl) DD
      obtain ⟨B0, d0, h0, -⟩ := (hst.rowOf 0 14 (by kernel_rfl) D0 rfl).cells
      obtain ⟨B1, d1, h1, -⟩ := (hst.rowOf 1 15 (by kernel_rfl) D1 rfl).cells
      have hC : (fun l => #[.int .u64 0, l.getD 0 undef, .slice none 0 0, .slice none 0 0, l.getD 1 undef, .slice none 0 0]) (List.map (fun k => tv a k.2) [(0, 14), (1, 15)]) = #[.int .u64 0, .slice B0 1 d0, .slice none 0 0, .slice none 0 0, .slice B1 1 d1, .slice none 0 0] := by simp [tv, h0, h1]
      have hC' : a.tmps[16]?.getD undef = .agg #[.int .u64 0, .slice B0 1 d0, .slice none 0 0, .slice none 0 0, .slice B1 1 d1, .slice none 0 0] := by rw [f16]; simp [h0, h1]
      refine box_store rfl 30 5 16 rfl rfl g _ (by simpa [tv] using hg) hC' 30 zeroC hz (by kernel_rfl) rfl (by simp only [List.all_toArray, List.all_cons, List.all_nil]; rfl) (fun w' hT hw => hK w' hT ?_)
      exact hw.trans (congrArg (fun x => some (Obj.cells x 30 (0, 0))) hC.symm)
  case refine_3 =>
    rintro ⟨⟨tm⟩, df⟩ W3 listed hl hst
    obtain rfl : df = [] := hst.defers
    have L0 := hl 0 (Nat.le_of_ble_eq_true rfl)
    have L1 := hl 1 (Nat.le_of_ble_eq_true rfl)
    have L3 := hl 3 (Nat.le_of_ble_eq_true rfl)
    obtain ⟨G, s5, hG1, hG2, hrow⟩ := hst.boxOf 3 5 (by kernel_rfl) L3 rfl (hl 4 (Nat.le_of_ble_eq_true rfl))
    have o14 := hst.rowOf 0 14 (by kernel_rfl) L0 rfl
    have o15 := hst.rowOf 1 15 (by kernel_rfl) L1 rfl
    have x1 := hst.apart 0 1 14 15 (by kernel_rfl) (by kernel_rfl) L0 L1 (by omega) (by intro h; cases h) (by intro h; cases h)
    have x2 := hst.apart 0 3 14 5 (by kernel_rfl) (by kernel_rfl) L0 L3 (by omega) (by intro h; cases h) (by intro h; cases h)
    have x3 := hst.apart 1 3 15 5 (by kernel_rfl) (by kernel_rfl) L1 L3 (by omega) (by intro h; cases h) (by intro h; cases h)
    have s0 := hst.oldEnd 0 (by kernel_rfl) rfl
    have s2 := hst.oldEnd 2 (by kernel_rfl) rfl
    have s3 := hst.oldEnd 3 (by kernel_rfl) rfl
    have s4 := hst.oldEnd 4 (by kernel_rfl) rfl
    have hsz : tm.length = 139 := hst.size
    have hglob := hst.glob
    obtain ⟨A1, c1, h14, -, -, -, -, -⟩ := o14.cells
    obtain ⟨A4, c4, h15, -, -, -, -, -⟩ := o15.cells
    have hrow3 : W3.heap[G]? = some (.cells (cfgA limC0 (limQ0 A1 c1 A4 c4)) 30) := by
      have k14 := h14
      have k15 := h15
      simp at k14 k15
      rw [hrow]
      simp [k14, k15, cfgA, limC0, limQ0]
    rw [h14] at o14 x1 x2
    rw [h15] at o15 x1 x3
    rw [s5] at x2 x3
    obtain ⟨g1, cur1, rfl, -, -, -⟩ := own_first o14 (by omega)
    obtain ⟨g4, cur4, rfl, -, -, -⟩ := own_first o15 (by omega)
    have HM0 : Hid (MSt w G [] W3 (limN 0 1 0 0 0 1 []) (limQ0 (some ⟨g1, 0, none⟩) c1 (some ⟨g4, 0, none⟩) c4)) := Lib.hid (lim_start hglob hG1 hrow3 o14 o15 (fun b hb => x1 b hb) (fun b hb e => x2 b hb (by rw [e]; rfl)) (fun b hb e => x3 b hb (by rw [e]; rfl)))
    clear hst hl hrow hrow3 o14 o15 x1 x2 x3 hglob hG1 hG2 h14 h15 L0 L1 L3 cur1 cur4
    ((repeat (have hh := arr_succ hsz; clear hsz; obtain ⟨_, tm, rfl, hsz⟩ := hh)); (obtain rfl := List.eq_nil_of_length_eq_zero hsz))
    simp at s0 s2 s3 s4 s5
    subst s0 s2 s3 s4 s5
    go_upto_region 16 with ((with_reducible refine wpList_make_g elemC W3 rfl (.tmp 45) (.tmp 45) rfl 512 512 512 rfl rfl rfl rfl (by omega) ?_); intro w4 ho4 hb4 hs4; have e4 : w4.cell? ⟨G, 5, none⟩ = some (.slice none 0 0) := (HM0.out.more hb4).cell 5; have f4 : w4.frozen? ⟨G, 5, none⟩ = false := frozen_of_row _ _ _ _ _ (HM0.out.more hb4).all; have HO4 := Lib.hid ho4; have HB4 := Lib.hid hb4; clear ho4 hb4 hs4)
    have HMA : Hid (MSt w G [] (w4.setCell ⟨G, 5, none⟩ (.slice (some ⟨W3.heap.size, 0, none⟩) 512 512)) (limN 0 1 0 0 0 1 ((List.replicate 512 lzC).map (·.r))) { (limQ0 (some ⟨g1, 0, none⟩) c1 (some ⟨g4, 0, none⟩) c4) with A5 := some ⟨W3.heap.size, 0, none⟩, c5 := 512, ch := List.replicate 512 lzC }) := Lib.hid (by
      have ho := HO4.out
      rw [zeros_C 512] at ho
      have h := HM0.out.setc HB4.out (List.replicate 512 lzC) (List.replicate 512 lzC) rfl (A' := some ⟨W3.heap.size, 0, none⟩) (c' := 512) (by rw [List.length_replicate]; exact ho) (fun x hx => by obtain rfl := List.eq_of_mem_replicate hx; exact OwnC.nil _ _ _ _) (sep_one fun y hy => by obtain ⟨x, hx, rfl⟩ := List.mem_map.1 hy; obtain rfl := List.eq_of_mem_replicate hx; rfl)
      rw [List.length_replicate] at h
      exact h)
    generalize w4.setCell ⟨G, 5, none⟩ (.slice (some ⟨W3.heap.size, 0, none⟩) 512 512) = W5 at HMA ⊢
    clear e4 f4 HM0 HO4 HB4
    obtain ⟨qz, hqz⟩ : ∃ qz : CfgQ, qz = ({ (limQ0 (some ⟨g1, 0, none⟩) c1 (some ⟨g4, 0, none⟩) c4) with A5 := some ⟨W3.heap.size, 0, none⟩, c5 := 512, ch := List.replicate 512 lzC } : CfgQ) := ⟨_, rfl⟩
    rw [← hqz] at HMA
    have HQF : Hid (QF qz g1 c1 g4 c4) := Lib.hid (by rw [hqz]; exact ⟨rfl, rfl, rfl, rfl⟩)
    obtain ⟨gz, hgz⟩ : ∃ gz, gz = W3.heap.size := ⟨_, rfl⟩
    have HQZ : Hid (qz.A5 = some ⟨gz, 0, none⟩ ∧ qz.c5 = 512 ∧ qz.ch = List.replicate 512 lzC) := Lib.hid (by rw [hqz, hgz]; exact ⟨rfl, rfl, rfl⟩)
    clear hqz hgz
    have e1 : W5.cell? ⟨G, 1, none⟩ = some (.slice (some ⟨g1, 0, none⟩) 1 c1) := lim_cellP HMA.out (by omega) HQF.out.a1 HQF.out.a1c
    go_wp2_with fail
    go_loopw [51] (fun i wr => ∃ k : Nat, k ≤ 1 ∧ i = .int .i64 (k : Int) ∧ Hid (MSt w G [] wr (limN k 1 0 0 0 1 ((List.replicate 512 lzC).map (·.r))) qz)) (fun i _ => 1 - (intOf i).toNat)
    case atStart => exact ⟨0, by omega, rfl, HMA⟩
    case round =>
      obtain ⟨k, hk, rfl, hst⟩ := hrel
      by_cases hlt : k < 1
      · have hki : (k : Int) < 1 := by omega
        have hwk : wrap64 ((k : Int) + 1) = (k : Int) + 1 := by unfold wrap64; omega
        obtain ⟨y1, y2, y3⟩ := lim_nameP hst.out hlt HQF.out.a1
        have e1 : wr.cell? ⟨G, 1, none⟩ = some (.slice (some ⟨g1, 0, none⟩) 1 c1) := lim_cellP hst.out (by omega) HQF.out.a1 HQF.out.a1c
        have HY := Lib.hid y3
        clear hst y3
        go_wp2_with fail
        go_roundw
        case rel => exact ⟨k + 1, by omega, rfl, HY⟩
        case measure => exact meas2 hlt
      · have hki : ¬ (k : Int) < 1 := by omega
        have hkn : k = 1 := by omega
        have HMB : Hid (MSt w G [] wr (limN 1 1 0 0 0 1 ((List.replicate 512 lzC).map (·.r))) qz) := by rw [hkn] at hst; exact hst
        clear hst hlt hk hkn

        have e1 : wr.cell? ⟨G, 4, none⟩ = some (.slice (some ⟨g4, 0, none⟩) 1 c4) := lim_cellT HMB.out (by omega) HQF.out.a4 HQF.out.a4c
        go_wp2_with fail
        go_loopw [63] (fun i wr => ∃ k : Nat, k ≤ 1 ∧ i = .int .i64 (k : Int) ∧ Hid (MSt w G [] wr (limN 1 1 0 0 k 1 ((List.replicate 512 lzC).map (·.r))) qz)) (fun i _ => 1 - (intOf i).toNat)
        case atStart => exact ⟨0, by omega, rfl, HMB⟩
        case round =>
          obtain ⟨k, hk, rfl, hst⟩ := hrel
          by_cases hlt : k < 1
          · have hki : (k : Int) < 1 := by omega
            have hwk : wrap64 ((k : Int) + 1) = (k : Int) + 1 := by unfold wrap64; omega
            obtain ⟨y1, y2, y3⟩ := lim_nameT hst.out hlt HQF.out.a4
            have e1 : wr.cell? ⟨G, 4, none⟩ = some (.slice (some ⟨g4, 0, none⟩) 1 c4) := lim_cellT hst.out (by omega) HQF.out.a4 HQF.out.a4c
            have HY := Lib.hid y3
            clear hst y3
            go_wp2_with fail
            go_roundw
            case rel => exact ⟨k + 1, by omega, rfl, HY⟩
            case measure => exact meas2 hlt
          · have hki : ¬ (k : Int) < 1 := by omega
            have hkn : k = 1 := by omega
            have HMC : Hid (MSt w G [] wr (limN 1 1 0 0 1 1 ((List.replicate 512 lzC).map (·.r))) qz) := by rw [hkn] at hst; exact hst
            clear hst hlt hk hkn
            have HMD : Hid (MSt w G [] wr (limR 1 0 0 1 ((List.replicate 512 lzC).map (·.r))) qz) := Lib.hid (by have h := HMC.out; rw [limN_all] at h; exact h)
            obtain ⟨CX, hCX⟩ : ∃ CX, CX = cfgA (limR 1 0 0 1 ((List.replicate 512 lzC).map (·.r))) qz := ⟨_, rfl⟩
            have HZ : Hid (CX.size = 6) := Lib.hid (by rw [hCX]; rfl)
            have HROW : Hid (wr.heap[G]? = some (.cells CX 30)) := Lib.hid (by rw [hCX]; exact HMD.out.all)
            have HK : Hid (Calls Tryz.prog 6 #[.agg CX] wr fun e w' => e = .returned (.agg #[.int .i64 0, .int .i64 0, .int .i64 0]) ∧ Below wr.heap.size wr w') := Lib.hid (by
              have hin : CfgIn wr (limR 1 0 0 1 ((List.replicate 512 lzC).map (·.r))) qz := HMD.out.own.cfg (lim_okcfg _ _ _ _ _ (fun x hx => by obtain ⟨y, hy, rfl⟩ := List.mem_map.1 hx; obtain rfl := List.eq_of_mem_replicate hy; exact ⟨by decide, by decide, fun d hd => by cases hd⟩)) (lim_small (by omega) (by omega) (by omega) (by omega) (by simp) (fun x hx => by obtain ⟨y, hy, rfl⟩ := List.mem_map.1 hx; obtain rfl := List.eq_of_mem_replicate hy; exact Nat.zero_le _)) (by omega)
              have h := pcheck_ok (limR 1 0 0 1 ((List.replicate 512 lzC).map (·.r))) qz wr hin
              rw [lim_zero (by omega) (by omega) (by omega) (by omega) (by simp) (by rw [List.map_map, List.map_replicate]; simp [lzC])] at h
              rw [hCX]
              exact h)
            have HEQ := eqlF 0 0 0
            clear HMC hCX
            go_upto_region 28 with (first
              | (with_reducible refine load_cfg rfl (.tmp 5) rfl G rfl CX HZ.out HROW.out ?_)
              | (go_at_call 6; refine HK.out.mono ?_; rintro e w8 ⟨rfl, hb8⟩; have HB8 := Lib.hid hb8; clear hb8))
            have HME : Hid (MSt w G [] w8 (limR 1 0 0 1 ((List.replicate 512 lzC).map (·.r))) qz) := Lib.hid (HMD.out.more HB8.out)
            have HOE : Hid (∀ W, Below w8.heap.size w8 W → OwnC W w.heap.size 34 3 (.slice (some ⟨gz, 0, none⟩) 512 512) 512 (qz.ch.flatMap chanV)) := Lib.hid fun W hW => by
              have h := (HME.out.more hW).own.cs
              rw [HQZ.out.1, HQZ.out.2.1, show (limR 1 0 0 1 ((List.replicate 512 lzC).map (·.r))).cs.length = 512 from by simp [limR]] at h
              exact h
            have HYE : Hid (∀ W, Below w8.heap.size w8 W → W.cell? ⟨G, 5, none⟩ = some (.slice (some ⟨gz, 0, none⟩) 512 512)) := Lib.hid fun W hW => by
              have h := (HME.out.more hW).cell 5
              rw [h]
              show some (Value.slice qz.A5 (limR 1 0 0 1 ((List.replicate 512 lzC).map (·.r))).cs.length qz.c5) = _
              rw [HQZ.out.1, HQZ.out.2.1, show (limR 1 0 0 1 ((List.replicate 512 lzC).map (·.r))).cs.length = 512 from by simp [limR]]
            have HFE : Hid (∀ W, Below w8.heap.size w8 W → W.frozen? ⟨G, 5, none⟩ = false) := Lib.hid fun W hW => frozen_of_row _ _ _ _ _ (HME.out.more hW).all
            clear HMD HROW HK HEQ
            obtain ⟨w9, hw9⟩ : ∃ w9, w8.alloc (.cells #[.int .u16 0, .int .u16 0, .slice none 0 0] 34) = w9 := ⟨_, rfl⟩
            have hb9 : Below w8.heap.size w8 w9 := by rw [← hw9]; exact (Below.refl _ _).alloc (Nat.le_refl _) _
            have HB9 := Lib.hid hb9
            have HCL : Hid (Cells w9 (some ⟨w8.heap.size, 0, none⟩) [.int .u16 0, .int .u16 0, .slice none 0 0]) := Lib.hid (by rw [← hw9]; exact lit_cells w8 #[.int .u16 0, .int .u16 0, .slice none 0 0] 34)
            have e8 : w8.cell? ⟨G, 5, none⟩ = some (.slice (some ⟨gz, 0, none⟩) 512 512) := HYE.out w8 (Below.refl _ _)
            clear hb9
            go_upto_region 40 with ((with_reducible refine wpList_append_new elemC rfl (.tmp 125) (.tmp 127) rfl w.heap.size ⟨gz, 0, none⟩ 512 (qz.ch.flatMap chanV) rfl (HOE.out w9 HB9.out) (some ⟨w8.heap.size, 0, none⟩) 1 1 [.int .u16 0, .int .u16 0, .slice none 0 0] rfl HCL.out rfl (by omega) (by omega) ?_); intro c' w10 ho10 hb10; have hb8 : Below w8.heap.size w8 w10 := HB9.out.trans (hb10.mono HB9.out.size); have e10 : w10.cell? ⟨G, 5, none⟩ = some (.slice (some ⟨gz, 0, none⟩) 512 512) := HYE.out w10 hb8; have f10 : w10.frozen? ⟨G, 5, none⟩ = false := HFE.out w10 hb8; have HO10 := Lib.hid ho10; have HB10 := Lib.hid hb8; clear ho10 hb10 hb8)
            have HMS : Hid (∃ qy : CfgQ, MSt w G [] (w10.setCell ⟨G, 5, none⟩ (.slice (some ⟨w9.heap.size, 0, none⟩) (512 + 1) c')) (limR 1 0 0 1 ((List.replicate 513 lzC).map (·.r))) qy) := Lib.hid (by
              have ho := HO10.out.base HB9.out.size
              have hch := HQZ.out.2.2
              have e0 : List.replicate (512 + 1) lzC = qz.ch ++ [lzC] := by rw [hch]; exact List.replicate_succ'
              have e : qz.ch.flatMap chanV ++ [.int .u16 0, .int .u16 0, .slice none 0 0] = (List.replicate (512 + 1) lzC).flatMap chanV := by
                rw [e0, List.flatMap_append]; rfl
              rw [e] at ho
              have h := HME.out.setc HB10.out (List.replicate (512 + 1) lzC) [lzC] e0 (A' := some ⟨w9.heap.size, 0, none⟩) (c' := c') (by rw [List.length_replicate]; exact ho) (fun x hx => by obtain rfl := List.mem_singleton.1 hx; exact OwnC.nil _ _ _ _) (sep_one fun y hy => by obtain ⟨x, hx, rfl⟩ := List.mem_map.1 hy; obtain rfl := List.mem_singleton.1 hx; rfl)
              rw [List.length_replicate] at h
              exact ⟨_, h⟩)
            generalize w10.setCell ⟨G, 5, none⟩ (.slice (some ⟨w9.heap.size, 0, none⟩) (512 + 1) c') = WZ at HMS ⊢
            clear HME HOE HYE HFE HO10 HB10 HCL HB9 e8 e10 f10 hw9
            obtain ⟨qy0, hqy0⟩ := HMS.out
            obtain ⟨qy, HMY⟩ : ∃ qy : CfgQ, Hid (MSt w G [] WZ (limR 1 0 0 1 ((List.replicate 513 lzC).map (·.r))) qy) := ⟨_, Lib.hid hqy0⟩
            obtain ⟨CY, hCY⟩ : ∃ CY, CY = cfgA (limR 1 0 0 1 ((List.replicate 513 lzC).map (·.r))) qy := ⟨_, rfl⟩
            have HZY : Hid (CY.size = 6) := Lib.hid (by rw [hCY]; rfl)
            have HRY : Hid (∀ W, Below WZ.heap.size WZ W → W.heap[G]? = some (.cells CY 30)) := Lib.hid fun W hW => by rw [hCY]; exact (HMY.out.more hW).all
            have HKY : Hid (∀ W, Below WZ.heap.size WZ W → Calls Tryz.prog 6 #[.agg CY] W fun e w' => e = .returned (.agg #[.int .i64 7, .int .i64 5, .int .i64 512]) ∧ Below W.heap.size W w') := Lib.hid fun W hW => by
              have hin : CfgIn W (limR 1 0 0 1 ((List.replicate 513 lzC).map (·.r))) qy := (HMY.out.more hW).own.cfg (lim_okcfg _ _ _ _ _ (fun x hx => by obtain ⟨y, hy, rfl⟩ := List.mem_map.1 hx; obtain rfl := List.eq_of_mem_replicate hy; exact ⟨by decide, by decide, fun d hd => by cases hd⟩)) (lim_small (by omega) (by omega) (by omega) (by omega) (by simp) (fun x hx => by obtain ⟨y, hy, rfl⟩ := List.mem_map.1 hx; obtain rfl := List.eq_of_mem_replicate hy; exact Nat.zero_le _)) (by omega)
              have h := pcheck_ok (limR 1 0 0 1 ((List.replicate 513 lzC).map (·.r))) qy W hin
              rw [(lim_over 5 1 0 0 1 513 0 _ (by omega) (by simp) (by rw [List.map_map, List.map_replicate]; simp [lzC]) (by omega) (by decide) (by omega) (by omega) (by omega) (by omega) (by omega))] at h
              rw [hCY]
              exact h
            have HEQ := eqlF 7 5 512
            have HBY := Lib.hid HMY.out.below
            clear hCY HMY
            go_wp2_with (first
              | (go_at_call 7; refine (HAL.out _).mono ?_; rintro e v1 ⟨rfl, hv1⟩; have HV1 := Lib.hid hv1; clear hv1)
              | ((with_reducible refine load_cfgw ?_ (.tmp 5) rfl G rfl CY HZY.out (HRY.out _ HV1.out) ?_); exact rfl)
              | (go_at_call 6; refine (HKY.out _ HV1.out).mono ?_; rintro e v2 ⟨rfl, hv2⟩; have HV2 := Lib.hid hv2; clear hv2))
            go_ret
            exact ⟨rfl, HBY.out.trans ((HV1.out.trans (HV2.out.mono HV1.out.size)).mono HBY.out.size)⟩

set_option maxHeartbeats 8000000 in
set_option maxRecDepth 100000 in
theorem walk6 (kk : Int) (hk0 : 0 ≤ kk) (hk1 : kk < 256) (hj : kk.tmod 6 = 5) (w : World) : Calls Tryz.prog 3 #[.int .u8 kk] w fun e w' => e = .returned (.bool true) ∧ Below w.heap.size w w' := by
  have hkk : IntKind.i64.wrap kk = kk := by rw [IntKind.wrap_i64]; omega
  have HLM : Hid (∀ W, Calls Tryz.prog 5 #[.int .i64 6] W fun e w' => e = .returned (.int .i64 1024) ∧ W = w') := Lib.hid fun W => limit_ok 6 W
  have HAL := Lib.hid alive_ok
  go_enter Tryz.func3, Tryz.ntmps3
  go_wp2_with (go_at_call 5; refine (HLM.out _).mono ?_; rintro e w1 ⟨rfl, rfl⟩)
  refine region_invB w [(14, Sq.row 36 4 1 ([lzP].flatMap partV)), (15, Sq.row 39 6 1 ([lzT].flatMap portV)), (16, Sq.of [(0, 14), (1, 15)] (fun l => .agg #[.int .u64 0, l.getD 0 undef, .slice none 0 0, .slice none 0 0, l.getD 1 undef, .slice none 0 0])), (5, Sq.box 30 zeroC [(0, 14), (1, 15)] (fun l => #[.int .u64 0, l.getD 0 undef, .slice none 0 0, .slice none 0 0, l.getD 1 undef, .slice none 0 0]) 4)] [(16, [(0, 14), (1, 15)])] [(5, 4, [(0, 14), (1, 15)])] (by kernel_rfl) ?_ (by kernel_rfl) rfl rfl ?_ ?_
  case refine_1 => exact (Below.refl _ _).drew
  case refine_2 =>
    refine ⟨?_, ?_, ?_, ?_, ?_, trivial⟩
    case refine_1 =>
      refine Or.inl ⟨_, rfl, Nat.le_of_ble_eq_true rfl, fun listed a W hst hn hdep K hK => ?_⟩
      refine step_make_g elemP rfl 1 1 rfl rfl (by omega) (fun w' ho hb => ?_)
      rw [zeros_P 1] at ho
      exact hK _ _ hb (Sq.of_row rfl ho)
    case refine_2 =>
      refine Or.inl ⟨_, rfl, Nat.le_of_ble_eq_true rfl, fun listed a W hst hn hdep K hK => ?_⟩
      refine step_make_g elemT rfl 1 1 rfl rfl (by omega) (fun w' ho hb => ?_)
      rw [zeros_T 1] at ho
      exact hK _ _ hb (Sq.of_row rfl ho)
    case refine_3 =>
      refine Or.inl ⟨_, rfl, Nat.le_of_ble_eq_true rfl, fun listed a W hst hn hdep K hK => ?_⟩
      have D0 := dep_of hdep 0 (by kernel_rfl)
      have D1 := dep_of hdep 1 (by kernel_rfl)
      obtain ⟨B0, d0, h0, -⟩ := (hst.rowOf 0 14 (by kernel_rfl) D0 rfl).cells
      obtain ⟨B1, d1, h1, -⟩ := (hst.rowOf 1 15 (by kernel_rfl) D1 rfl).cells
      go_simp
      exact hK _ _ (Below.refl _ _) (Sq.of_fn rfl (by simp [h0, h1]))
    case refine_4 =>
      refine Or.inl ⟨_, rfl, Nat.le_of_ble_eq_true rfl, fun listed a W hst hn hdep K hK => ?_⟩
      go_simp
      exact hK _ _ ((Below.refl _ _).alloc (Nat.le_refl _) _) (Sq.of_box rfl)
    case refine_5 =>
      refine Or.inr ⟨rfl, 3, 5, _, _, _, _, by kernel_rfl, rfl, after_of (by kernel_rfl), fun listed a W hst hn hdep g hg hz K hK => ?_⟩
      have DD := dep_of hdep 2 (by kernel_rfl)
      have f16 := hst.fnOf 2 16 (by kernel_rfl) DD rfl
      have D0 := hst.reach 14 2 0 (by kernel_rfl) DD
      have D1 := hst.reach 14 2 1 (by kernel_rfl) DD
      obtain ⟨B0, d0, h0, -⟩ := (hst.rowOf 0 14 (by kernel_rfl) D0 rfl).cells
      obtain ⟨B1, d1, h1, -⟩ := (hst.rowOf 1 15 (by kernel_rfl) D1 rfl).cells
      have hC : (fun l => #[.int .u64 0, l.getD 0 undef, .slice none 0 0, .slice none 0 0, l.getD 1 undef, .slice none 0 0]) (List.map (fun k => tv a k.2) [(0, 14), (1, 15)]) = #[.int .u64 0, .slice B0 1 d0, .slice none 0 0, .slice none 0 0, .slice B1 1 d1, .slice none 0 0] := by simp [tv, h0, h1]
      have hC' : a.tmps[16]?.getD undef = .agg #[.int .u64 0, .slice B0 1 d0, .slice none 0 0, .slice none 0 0, .slice B1 1 d1, .slice none 0 0] := by rw [f16]; simp [h0, h1]
      refine box_store rfl 30 5 16 rfl rfl g _ (by simpa [tv] using hg) hC' 30 zeroC hz (by kernel_rfl) rfl (by simp only [List.all_toArray, List.all_cons, List.all_nil]; rfl) (fun w' hT hw => hK w' hT ?_)
      exact hw.trans (congrArg (fun x => some (Obj.cells x 30 (0, 0))) hC.symm)
  case refine_3 =>
    rintro ⟨⟨tm⟩, df⟩ W3 listed hl hst
    obtain rfl : df = [] := hst.defers
    have L0 := hl 0 (Nat.le_of_ble_eq_true rfl)
    have L1 := hl 1 (Nat.le_of_ble_eq_true rfl)
    have L3 := hl 3 (Nat.le_of_ble_eq_true rfl)
    obtain ⟨G, s5, hG1, hG2, hrow⟩ := hst.boxOf 3 5 (by kernel_rfl) L3 rfl (hl 4 (Nat.le_of_ble_eq_true rfl))
    have o14 := hst.rowOf 0 14 (by kernel_rfl) L0 rfl
    have o15 := hst.rowOf 1 15 (by kernel_rfl) L1 rfl
    have x1 := hst.apart 0 1 14 15 (by kernel_rfl) (by kernel_rfl) L0 L1 (by omega) (by intro h; cases h) (by intro h; cases h)
    have x2 := hst.apart 0 3 14 5 (by kernel_rfl) (by kernel_rfl) L0 L3 (by omega) (by intro h; cases h) (by intro h; cases h)
    have x3 := hst.apart 1 3 15 5 (by kernel_rfl) (by kernel_rfl) L1 L3 (by omega) (by intro h; cases h) (by intro h; cases h)
    have s0 := hst.oldEnd 0 (by kernel_rfl) rfl
    have s2 := hst.oldEnd 2 (by kernel_rfl) rfl
    have s3 := hst.oldEnd 3 (by kernel_rfl) rfl
    have s4 := hst.oldEnd 4 (by kernel_rfl) rfl
    have hsz : tm.length = 139 := hst.size
    have hglob := hst.glob
    obtain ⟨A1, c1, h14, -, -, -, -, -⟩ := o14.cells
    obtain ⟨A4, c4, h15, -, -, -, -, -⟩ := o15.cells
    have hrow3 : W3.heap[G]? = some (.cells (cfgA limC0 (limQ0 A1 c1 A4 c4)) 30) := by
      have k14 := h14
      have k15 := h15
      simp at k14 k15
      rw [hrow]
      simp [k14, k15, cfgA, limC0, limQ0]
    rw [h14] at o14 x1 x2
    rw [h15] at o15 x1 x3
    rw [s5] at x2 x3
    obtain ⟨g1, cur1, rfl, -, -, -⟩ := own_first o14 (by omega)
    obtain ⟨g4, cur4, rfl, -, -, -⟩ := own_first o15 (by omega)
    have HM0 : Hid (MSt w G [] W3 (limN 0 1 0 0 0 1 []) (limQ0 (some ⟨g1, 0, none⟩) c1 (some ⟨g4, 0, none⟩) c4)) := Lib.hid (lim_start hglob hG1 hrow3 o14 o15 (fun b hb => x1 b hb) (fun b hb e => x2 b hb (by rw [e]; rfl)) (fun b hb e => x3 b hb (by rw [e]; rfl)))
    clear hst hl hrow hrow3 o14 o15 x1 x2 x3 hglob hG1 hG2 h14 h15 L0 L1 L3 cur1 cur4
    ((repeat (have hh := arr_succ hsz; clear hsz; obtain ⟨_, tm, rfl, hsz⟩ := hh)); (obtain rfl := List.eq_nil_of_length_eq_zero hsz))
    simp at s0 s2 s3 s4 s5
    subst s0 s2 s3 s4 s5
    go_upto_region 16 with ((with_reducible refine wpList_make_g elemU W3 rfl (.tmp 18) (.tmp 18) rfl 1024 1024 1024 rfl rfl rfl rfl (by omega) ?_); intro w4 ho4 hb4 hs4; have hb5 : Below W3.heap.size W3 (w4.alloc (.cells #[.int .u16 0, .int .u16 0, .slice (some ⟨W3.heap.size, 0, none⟩) 1024 1024] 34)) := hb4.trans (((Below.refl _ _).alloc (Nat.le_refl _) _).mono hb4.size); have e4 : (w4.alloc (.cells #[.int .u16 0, .int .u16 0, .slice (some ⟨W3.heap.size, 0, none⟩) 1024 1024] 34)).cell? ⟨G, 5, none⟩ = some (.slice none 0 0) := (HM0.out.more hb5).cell 5; have f4 : (w4.alloc (.cells #[.int .u16 0, .int .u16 0, .slice (some ⟨W3.heap.size, 0, none⟩) 1024 1024] 34)).frozen? ⟨G, 5, none⟩ = false := frozen_of_row _ _ _ _ _ (HM0.out.more hb5).all; have HO4 := Lib.hid ho4; have HB5 := Lib.hid hb5; have HS4 := Lib.hid hs4; clear ho4 hb4 hs4 hb5)
    have HMA : Hid (MSt w G [] ((w4.alloc (.cells #[.int .u16 0, .int .u16 0, .slice (some ⟨W3.heap.size, 0, none⟩) 1024 1024] 34)).setCell ⟨G, 5, none⟩ (.slice (some ⟨w4.heap.size, 0, none⟩) 1 1)) (limN 0 1 0 0 0 1 [⟨0, 0, List.replicate 1024 0⟩]) { (limQ0 (some ⟨g1, 0, none⟩) c1 (some ⟨g4, 0, none⟩) c4) with A5 := some ⟨w4.heap.size, 0, none⟩, c5 := 1, ch := [⟨⟨0, 0, List.replicate 1024 0⟩, some ⟨W3.heap.size, 0, none⟩, 1024⟩] }) := Lib.hid (by
      have ho := HO4.out
      rw [zeros_U 1024] at ho
      have hb45 : Below w4.heap.size w4 (w4.alloc (.cells #[.int .u16 0, .int .u16 0, .slice (some ⟨W3.heap.size, 0, none⟩) 1024 1024] 34)) := (Below.refl _ _).alloc (Nat.le_refl _) _
      have hr := OwnC.lit w4 34 3 1 #[.int .u16 0, .int .u16 0, .slice (some ⟨W3.heap.size, 0, none⟩) 1024 1024] (by unfold maxLen; omega) rfl
      have hs4 := HS4.out
      have hcv : chanV ⟨⟨0, 0, List.replicate 1024 0⟩, some ⟨W3.heap.size, 0, none⟩, 1024⟩ = [.int .u16 0, .int .u16 0, .slice (some ⟨W3.heap.size, 0, none⟩) 1024 1024] := by simp [chanV]
      have hd : ∀ x ∈ ([⟨⟨0, 0, List.replicate 1024 0⟩, some ⟨W3.heap.size, 0, none⟩, 1024⟩] : List ChanC), OwnC (w4.alloc (.cells #[.int .u16 0, .int .u16 0, .slice (some ⟨W3.heap.size, 0, none⟩) 1024 1024] 34)) W3.heap.size 32 1 (.slice x.A x.r.dests.length x.cap) x.r.dests.length (x.r.dests.map U16) := fun x hx => by
        obtain rfl := List.mem_singleton.1 hx
        show OwnC _ _ _ 1 (.slice (some ⟨W3.heap.size, 0, none⟩) (List.replicate 1024 0).length 1024) (List.replicate 1024 0).length _
        rw [List.length_replicate]
        exact ho.below hb45
      have h := HM0.out.setc HB5.out [⟨⟨0, 0, List.replicate 1024 0⟩, some ⟨W3.heap.size, 0, none⟩, 1024⟩] [⟨⟨0, 0, List.replicate 1024 0⟩, some ⟨W3.heap.size, 0, none⟩, 1024⟩] rfl (A' := some ⟨w4.heap.size, 0, none⟩) (c' := 1) (by
        show OwnC _ _ _ 3 (.slice (some ⟨w4.heap.size, 0, none⟩) 1 1) 1 (([⟨⟨0, 0, List.replicate 1024 0⟩, some ⟨W3.heap.size, 0, none⟩, 1024⟩] : List ChanC).flatMap chanV)
        rw [List.flatMap_singleton, hcv]
        exact hr.base (by omega)) hd (by
        refine List.pairwise_cons.2 ⟨fun y hy b hb he => ?_, List.pairwise_singleton _ _⟩
        simp only [List.map_cons, List.map_nil, List.mem_singleton] at hy
        subst hy
        simp only [blk, Option.some.injEq] at hb he
        omega)
      exact h)
    generalize (w4.alloc (.cells #[.int .u16 0, .int .u16 0, .slice (some ⟨W3.heap.size, 0, none⟩) 1024 1024] 34)).setCell ⟨G, 5, none⟩ (.slice (some ⟨w4.heap.size, 0, none⟩) 1 1) = W5 at HMA ⊢
    clear e4 f4 HM0 HO4 HB5 HS4
    obtain ⟨qz, hqz⟩ : ∃ qz : CfgQ, qz = ({ (limQ0 (some ⟨g1, 0, none⟩) c1 (some ⟨g4, 0, none⟩) c4) with A5 := some ⟨w4.heap.size, 0, none⟩, c5 := 1, ch := [⟨⟨0, 0, List.replicate 1024 0⟩, some ⟨W3.heap.size, 0, none⟩, 1024⟩] } : CfgQ) := ⟨_, rfl⟩
    rw [← hqz] at HMA
    have HQF : Hid (QF qz g1 c1 g4 c4) := Lib.hid (by rw [hqz]; exact ⟨rfl, rfl, rfl, rfl⟩)
    obtain ⟨gz, hgz⟩ : ∃ gz, gz = w4.heap.size := ⟨_, rfl⟩
    have HQZ : Hid (qz.A5 = some ⟨gz, 0, none⟩ ∧ qz.c5 = 1) := Lib.hid (by rw [hqz, hgz]; exact ⟨rfl, rfl⟩)
    clear hqz hgz
    have e1 : W5.cell? ⟨G, 1, none⟩ = some (.slice (some ⟨g1, 0, none⟩) 1 c1) := lim_cellP HMA.out (by omega) HQF.out.a1 HQF.out.a1c
    go_wp2_with fail
    go_loopw [51] (fun i wr => ∃ k : Nat, k ≤ 1 ∧ i = .int .i64 (k : Int) ∧ Hid (MSt w G [] wr (limN k 1 0 0 0 1 [⟨0, 0, List.replicate 1024 0⟩]) qz)) (fun i _ => 1 - (intOf i).toNat)
    case atStart => exact ⟨0, by omega, rfl, HMA⟩
    case round =>
      obtain ⟨k, hk, rfl, hst⟩ := hrel
      by_cases hlt : k < 1
      · have hki : (k : Int) < 1 := by omega
        have hwk : wrap64 ((k : Int) + 1) = (k : Int) + 1 := by unfold wrap64; omega
        obtain ⟨y1, y2, y3⟩ := lim_nameP hst.out hlt HQF.out.a1
        have e1 : wr.cell? ⟨G, 1, none⟩ = some (.slice (some ⟨g1, 0, none⟩) 1 c1) := lim_cellP hst.out (by omega) HQF.out.a1 HQF.out.a1c
        have HY := Lib.hid y3
        clear hst y3
        go_wp2_with fail
        go_roundw
        case rel => exact ⟨k + 1, by omega, rfl, HY⟩
        case measure => exact meas2 hlt
      · have hki : ¬ (k : Int) < 1 := by omega
        have hkn : k = 1 := by omega
        have HMB : Hid (MSt w G [] wr (limN 1 1 0 0 0 1 [⟨0, 0, List.replicate 1024 0⟩]) qz) := by rw [hkn] at hst; exact hst
        clear hst hlt hk hkn

        have e1 : wr.cell? ⟨G, 4, none⟩ = some (.slice (some ⟨g4, 0, none⟩) 1 c4) := lim_cellT HMB.out (by omega) HQF.out.a4 HQF.out.a4c
        go_wp2_with fail
        go_loopw [63] (fun i wr => ∃ k : Nat, k ≤ 1 ∧ i = .int .i64 (k : Int) ∧ Hid (MSt w G [] wr (limN 1 1 0 0 k 1 [⟨0, 0, List.replicate 1024 0⟩]) qz)) (fun i _ => 1 - (intOf i).toNat)
        case atStart => exact ⟨0, by omega, rfl, HMB⟩
        case round =>
          obtain ⟨k, hk, rfl, hst⟩ := hrel
          by_cases hlt : k < 1
          · have hki : (k : Int) < 1 := by omega
            have hwk : wrap64 ((k : Int) + 1) = (k : Int) + 1 := by unfold wrap64; omega
            obtain ⟨y1, y2, y3⟩ := lim_nameT hst.out hlt HQF.out.a4
            have e1 : wr.cell? ⟨G, 4, none⟩ = some (.slice (some ⟨g4, 0, none⟩) 1 c4) := lim_cellT hst.out (by omega) HQF.out.a4 HQF.out.a4c
            have HY := Lib.hid y3
            clear hst y3
            go_wp2_with fail
            go_roundw
            case rel => exact ⟨k + 1, by omega, rfl, HY⟩
            case measure => exact meas2 hlt
          · have hki : ¬ (k : Int) < 1 := by omega
            have hkn : k = 1 := by omega
            have HMC : Hid (MSt w G [] wr (limN 1 1 0 0 1 1 [⟨0, 0, List.replicate 1024 0⟩]) qz) := by rw [hkn] at hst; exact hst
            clear hst hlt hk hkn
            have HMD : Hid (MSt w G [] wr (limR 1 0 0 1 [⟨0, 0, List.replicate 1024 0⟩]) qz) := Lib.hid (by have h := HMC.out; rw [limN_all] at h; exact h)
            obtain ⟨CX, hCX⟩ : ∃ CX, CX = cfgA (limR 1 0 0 1 [⟨0, 0, List.replicate 1024 0⟩]) qz := ⟨_, rfl⟩
            have HZ : Hid (CX.size = 6) := Lib.hid (by rw [hCX]; rfl)
            have HROW : Hid (wr.heap[G]? = some (.cells CX 30)) := Lib.hid (by rw [hCX]; exact HMD.out.all)
            have HK : Hid (Calls Tryz.prog 6 #[.agg CX] wr fun e w' => e = .returned (.agg #[.int .i64 0, .int .i64 0, .int .i64 0]) ∧ Below wr.heap.size wr w') := Lib.hid (by
              have hin : CfgIn wr (limR 1 0 0 1 [⟨0, 0, List.replicate 1024 0⟩]) qz := HMD.out.own.cfg (lim_okcfg _ _ _ _ _ (fun x hx => by obtain rfl := List.mem_singleton.1 hx; exact ⟨by decide, by decide, fun d hd => by obtain rfl := List.eq_of_mem_replicate hd; decide⟩)) (lim_small (by omega) (by omega) (by omega) (by omega) (by simp) (fun x hx => by obtain rfl := List.mem_singleton.1 hx; simp)) (by omega)
              have h := pcheck_ok (limR 1 0 0 1 [⟨0, 0, List.replicate 1024 0⟩]) qz wr hin
              rw [lim_zero (by omega) (by omega) (by omega) (by omega) (by simp) (by simp)] at h
              rw [hCX]
              exact h)
            have HEQ := eqlF 0 0 0
            clear HMC hCX
            go_upto_region 28 with (first
              | (with_reducible refine load_cfg rfl (.tmp 5) rfl G rfl CX HZ.out HROW.out ?_)
              | (go_at_call 6; refine HK.out.mono ?_; rintro e w8 ⟨rfl, hb8⟩; have HB8 := Lib.hid hb8; clear hb8))
            have HME : Hid (MSt w G [] w8 (limR 1 0 0 1 [⟨0, 0, List.replicate 1024 0⟩]) qz) := Lib.hid (HMD.out.more HB8.out)
            have HOE : Hid (∀ W, Below w8.heap.size w8 W → OwnC W w.heap.size 34 3 (.slice (some ⟨gz, 0, none⟩) 1 1) 1 (qz.ch.flatMap chanV)) := Lib.hid fun W hW => by
              have h := (HME.out.more hW).own.cs
              rw [HQZ.out.1, HQZ.out.2, show (limR 1 0 0 1 [⟨0, 0, List.replicate 1024 0⟩]).cs.length = 1 from rfl] at h
              exact h
            have HYE : Hid (∀ W, Below w8.heap.size w8 W → W.cell? ⟨G, 5, none⟩ = some (.slice (some ⟨gz, 0, none⟩) 1 1)) := Lib.hid fun W hW => by
              have h := (HME.out.more hW).cell 5
              rw [h]
              show some (Value.slice qz.A5 (limR 1 0 0 1 [⟨0, 0, List.replicate 1024 0⟩]).cs.length qz.c5) = _
              rw [HQZ.out.1, HQZ.out.2, show (limR 1 0 0 1 [⟨0, 0, List.replicate 1024 0⟩]).cs.length = 1 from rfl]
            have HFE : Hid (∀ W, Below w8.heap.size w8 W → W.frozen? ⟨G, 5, none⟩ = false) := Lib.hid fun W hW => frozen_of_row _ _ _ _ _ (HME.out.more hW).all
            clear HMD HROW HK HEQ
            have HTB : Hid (∀ W, Turn (fun _ => False) w8 W → Below w8.heap.size w8 W) := Lib.hid fun W h => h.below (fun _ h => h.elim) (Nat.le_refl _)
            go_upto_region 29 with fail
            refine region_invXL w8 (fun _ => False) 7 [] (by kernel_rfl) [(77, isV (.pointer (some ⟨G, 5, none⟩))), (78, isV (.slice (some ⟨gz, 0, none⟩) 1 1)), (79, isRow w8.heap.size 32 1 1 [.int .u16 0]), (80, isZ w8), (81, isZR w8), (82, isZA w8 (qz.ch.flatMap chanV)), (83, isV (.pointer (some ⟨G, 5, none⟩)))] 7 ⟨⟨isV_keeps _, fun _ => isV_x _ _⟩, ⟨isV_keeps _, fun _ => isV_x _ _⟩, ⟨isRow_keeps _ _ _ _ _, fun _ => isRow_x (fun _ h => h.elim) _ _ _ _⟩, ⟨isZ_keeps _, fun _ => isZ_x _⟩, ⟨isZR_keeps _, fun _ => isZR_x _⟩, ⟨isZA_keeps _ _, fun _ => isZA_x _ _⟩, ⟨isV_keeps _, fun _ => isV_x _ _⟩, trivial⟩ (by kernel_rfl) ?_ ?_ (by kernel_rfl) (by kernel_rfl) (by kernel_rfl) ?_ ?_
            case refine_1 => exact Turn.of_below (Below.refl _ _).drew
            case refine_2 => exact (Below.refl _ _).drew
            case refine_3 =>
              refine ⟨?_, ?_, ?_, ?_, ?_, ?_, ?_, trivial⟩
              case refine_1 =>
                refine ⟨_, rfl, Nat.le_of_ble_eq_true rfl, fun listed a W hst hn hdep K hK => ?_⟩
                (have e1 := hst.oldOf hn 5 (by kernel_rfl) rfl; simp only [Array.getD_eq_getD_getElem?] at e1)
                go_simp
                exact hK _ _ (Or.inl (Below.refl _ _)) rfl
              case refine_2 =>
                refine ⟨_, rfl, Nat.le_of_ble_eq_true rfl, fun listed a W hst hn hdep K hK => ?_⟩
                (have dd := dep_of hdep 0 (by kernel_rfl); have e1 : a.tmps[77]?.getD undef = (.pointer (some ⟨G, 5, none⟩)) := hst.fact 0 77 (by kernel_rfl) dd; clear dd)
                have y := HYE.out W (HTB.out W hst.glob)
                go_simp
                exact hK _ _ (Or.inl (Below.refl _ _)) rfl
              case refine_3 =>
                refine ⟨_, rfl, Nat.le_of_ble_eq_true rfl, fun listed a W hst hn hdep K hK => ?_⟩
                have hgs := hst.glob.size
                refine step_make_g elemU rfl 1 1 rfl rfl (by omega) (fun w' ho hb => ?_)
                exact hK _ _ (Or.inl hb) (OwnC.base ho hgs)
              case refine_4 =>
                refine ⟨_, rfl, Nat.le_of_ble_eq_true rfl, fun listed a W hst hn hdep K hK => ?_⟩
                (have dd := dep_of hdep 2 (by kernel_rfl); have r1 := hst.fact 2 79 (by kernel_rfl) dd; clear dd)
                obtain ⟨A9, c9, h9, -, -⟩ := OwnC.cells r1
                have r2 : OwnC W w8.heap.size 32 1 (.slice A9 1 c9) 1 [.int .u16 0] := by rw [← h9]; exact r1
                clear r1
                go_simp
                exact hK _ _ (Or.inl (Below.refl _ _)) ⟨A9, c9, by simp, r2⟩
              case refine_5 =>
                refine ⟨_, rfl, Nat.le_of_ble_eq_true rfl, fun listed a W hst hn hdep K hK => ?_⟩
                (have dd := dep_of hdep 3 (by kernel_rfl); have r1 := hst.fact 3 80 (by kernel_rfl) dd; clear dd)
                obtain ⟨A9, c9, h9, r2⟩ := r1
                have hgs := hst.glob.size
                go_simp
                exact hK _ _ (Or.inl ((Below.refl _ _).alloc (Nat.le_refl _) _)) ⟨A9, c9, OwnC.below r2 ((Below.refl _ _).alloc (Nat.le_refl _) _), OwnC.base (OwnC.lit W 34 3 1 #[.int .u16 0, .int .u16 0, .slice A9 1 c9] (by unfold maxLen; omega) rfl) hgs⟩
              case refine_6 =>
                refine ⟨_, rfl, Nat.le_of_ble_eq_true rfl, fun listed a W hst hn hdep K hK => ?_⟩
                (have dd := dep_of hdep 1 (by kernel_rfl); have e1 : a.tmps[78]?.getD undef = (.slice (some ⟨gz, 0, none⟩) 1 1) := hst.fact 1 78 (by kernel_rfl) dd; clear dd)
                (have dd := dep_of hdep 4 (by kernel_rfl); have r1 := hst.fact 4 81 (by kernel_rfl) dd; clear dd)
                obtain ⟨A8, c8, r2, r3⟩ := r1
                obtain ⟨A9, c9, h9, hc9, -⟩ := OwnC.cells r3
                have hgs := hst.glob.size
                refine step_append_new elemC rfl 78 81 rfl w.heap.size ⟨gz, 0, none⟩ 1 (qz.ch.flatMap chanV) e1 (HOE.out W (HTB.out W hst.glob)) A9 1 c9 [.int .u16 0, .int .u16 0, .slice A8 1 c8] h9 hc9 rfl (by omega) (by omega) (fun c' w' ho hb => ?_)
                exact hK _ _ (Or.inl hb) ⟨A8, c8, OwnC.below r2 hb, OwnC.base ho hgs, fun b hb1 hb2 => by have h1 := (own_lt r2 hb2).2; simp only [Value.ownBlock, Option.some.injEq] at hb1; omega⟩
              case refine_7 =>
                refine ⟨_, rfl, Nat.le_of_ble_eq_true rfl, fun listed a W hst hn hdep K hK => ?_⟩
                (have e1 := hst.oldOf hn 5 (by kernel_rfl) rfl; simp only [Array.getD_eq_getD_getElem?] at e1)
                go_simp
                exact hK _ _ (Or.inl (Below.refl _ _)) rfl
            case refine_4 =>
              intro ok listed a' W ho hst hn hall K hK
              obtain ⟨f, hfd, hf⟩ := hst.frameR [(77, 83)] (by kernel_rfl)
              have f1 : isZA w8 (qz.ch.flatMap chanV) _ W := hst.fact 5 82 (by kernel_rfl) (hall 5 (Nat.le_of_ble_eq_true rfl) (by omega))
              have f2 : a'.tmps[83]?.getD undef = (.pointer (some ⟨G, 5, none⟩)) := hst.fact 6 83 (by kernel_rfl) (hall 6 (Nat.le_of_ble_eq_true rfl) (by omega))
              obtain ⟨av, hav⟩ : ∃ av, a'.tmps[82]?.getD undef = av := ⟨_, rfl⟩
              rw [hav] at f1
              have hdf : a'.defers = [] := hst.defers
              have hbl := HTB.out W hst.glob
              obtain rfl : _ = ok := by injection ho
              clear hst hall hn hfd ho
              obtain ⟨A8, c8, f2u, f3u, hne⟩ := f1
              obtain ⟨A9, c9, rfl, -⟩ := OwnC.cells f3u
              have HMS : Hid (∃ qy : CfgQ, MSt w G [] (W.setCell ⟨G, 5, none⟩ (.slice A9 2 c9)) (limR 1 0 0 1 [⟨0, 0, List.replicate 1024 0⟩, ⟨0, 0, [0]⟩]) qy) := Lib.hid (by
                have hcr : qz.ch.map (·.r) = [⟨0, 0, List.replicate 1024 0⟩] := HME.out.own.ch
                have hl1 : qz.ch.length = 1 := by have := congrArg List.length hcr; simpa using this
                have e : qz.ch.flatMap chanV ++ [.int .u16 0, .int .u16 0, .slice A8 1 c8] = (qz.ch ++ [(⟨⟨0, 0, [0]⟩, A8, c8⟩ : ChanC)]).flatMap chanV := by
                  rw [List.flatMap_append]; rfl
                rw [e] at f3u
                have hl2 : (qz.ch ++ [(⟨⟨0, 0, [0]⟩, A8, c8⟩ : ChanC)]).length = 2 := by rw [List.length_append, hl1]; rfl
                have h := HME.out.setc hbl (qz.ch ++ [⟨⟨0, 0, [0]⟩, A8, c8⟩]) [⟨⟨0, 0, [0]⟩, A8, c8⟩] rfl (A' := A9) (c' := c9) (by rw [hl2]; exact f3u) (fun x hx => by obtain rfl := List.mem_singleton.1 hx; exact f2u) (by
                  refine List.pairwise_cons.2 ⟨fun y hy b hb he => ?_, List.pairwise_singleton _ _⟩
                  simp only [List.map_cons, List.map_nil, List.mem_singleton] at hy
                  subst hy
                  exact hne b (by rw [own_blk]; exact hb) he)
                rw [hl2, List.map_append, hcr] at h
                exact ⟨_, h⟩)
              refine sec_store rfl 28 83 82 rfl rfl G 5 _ _ f2 hav rfl (HYE.out W hbl) (HFE.out W hbl) (by kernel_rfl) ?_
              refine hK _ _ ?_
              clear f2 hav hbl hK HME HOE HYE HFE HTB
              generalize W.setCell ⟨G, 5, none⟩ (.slice A9 2 c9) = WZ at HMS ⊢
              obtain ⟨tm, df⟩ := a'
              obtain rfl : df = [] := hdf
              simp only [updR, List.any_cons, List.any_nil, Nat.reduceAdd, Nat.reduceLeDiff, decide_true, decide_false, Bool.and_true, Bool.and_false, Bool.or_false, if_true, if_false, Bool.false_eq_true] at hf
              have hf' : tm = _ := hf
              subst hf'
              clear hf
              go_upto_region 40 with fail
              obtain ⟨qy0, hqy0⟩ := HMS.out
              obtain ⟨qy, HMY⟩ : ∃ qy : CfgQ, Hid (MSt w G [] WZ (limR 1 0 0 1 [⟨0, 0, List.replicate 1024 0⟩, ⟨0, 0, [0]⟩]) qy) := ⟨_, Lib.hid hqy0⟩
              obtain ⟨CY, hCY⟩ : ∃ CY, CY = cfgA (limR 1 0 0 1 [⟨0, 0, List.replicate 1024 0⟩, ⟨0, 0, [0]⟩]) qy := ⟨_, rfl⟩
              have HZY : Hid (CY.size = 6) := Lib.hid (by rw [hCY]; rfl)
              have HRY : Hid (∀ W, Below WZ.heap.size WZ W → W.heap[G]? = some (.cells CY 30)) := Lib.hid fun W hW => by rw [hCY]; exact (HMY.out.more hW).all
              have HKY : Hid (∀ W, Below WZ.heap.size WZ W → Calls Tryz.prog 6 #[.agg CY] W fun e w' => e = .returned (.agg #[.int .i64 7, .int .i64 6, .int .i64 1024]) ∧ Below W.heap.size W w') := Lib.hid fun W hW => by
                have hin : CfgIn W (limR 1 0 0 1 [⟨0, 0, List.replicate 1024 0⟩, ⟨0, 0, [0]⟩]) qy := (HMY.out.more hW).own.cfg (lim_okcfg _ _ _ _ _ (fun x hx => by rcases List.mem_cons.1 hx with rfl | hx; exact ⟨by decide, by decide, fun d hd => by obtain rfl := List.eq_of_mem_replicate hd; decide⟩; obtain rfl := List.mem_singleton.1 hx; exact ⟨by decide, by decide, fun d hd => by obtain rfl := List.mem_singleton.1 hd; decide⟩)) (lim_small (by omega) (by omega) (by omega) (by omega) (by simp) (fun x hx => by rcases List.mem_cons.1 hx with rfl | hx; simp; obtain rfl := List.mem_singleton.1 hx; simp)) (by omega)
                have h := pcheck_ok (limR 1 0 0 1 [⟨0, 0, List.replicate 1024 0⟩, ⟨0, 0, [0]⟩]) qy W hin
                rw [(lim_over 6 1 0 0 1 2 1025 _ (by omega) rfl (by simp) (by omega) (by decide) (by omega) (by omega) (by omega) (by omega) (by omega))] at h
                rw [hCY]
                exact h
              have HEQ := eqlF 7 6 1024
              have HBY := Lib.hid HMY.out.below
              clear hCY HMY
              go_wp2_with (first
                | (go_at_call 7; refine (HAL.out _).mono ?_; rintro e v1 ⟨rfl, hv1⟩; have HV1 := Lib.hid hv1; clear hv1)
                | ((with_reducible refine load_cfgw ?_ (.tmp 5) rfl G rfl CY HZY.out (HRY.out _ HV1.out) ?_); exact rfl)
                | (go_at_call 6; refine (HKY.out _ HV1.out).mono ?_; rintro e v2 ⟨rfl, hv2⟩; have HV2 := Lib.hid hv2; clear hv2))
              go_ret
              exact ⟨rfl, HBY.out.trans ((HV1.out.trans (HV2.out.mono HV1.out.size)).mono HBY.out.size)⟩

end Go.Proofs.YthdagjlgfffpbaaGreat.LawLim
