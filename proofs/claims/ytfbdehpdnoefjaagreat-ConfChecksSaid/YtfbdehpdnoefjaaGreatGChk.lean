/-
  Layer 5 (conf): the reference's Check and Within. By the verifier.
-/
import Derived.Test.YtfbdehpdnoefjaaGreatGFew
import Derived.BigQuiet
set_option linter.unusedVariables false
namespace Go.Proofs.YtfbdehpdnoefjaaGreat
open Go.RowKit

/-- The first of the first n numbers that has a property. -/
def firstTo (p : Nat → Bool) : Nat → Option Nat
  | 0 => none
  | k + 1 => match firstTo p k with
    | some i => some i
    | none => if p k then some k else none

theorem firstTo_none {p : Nat → Bool} : ∀ {n : Nat}, (∀ j, j < n → p j = false) → firstTo p n = none
  | 0, _ => rfl
  | n + 1, h => by
    unfold firstTo
    rw [firstTo_none (fun j hj => h j (by omega)), h n (by omega)]
    rfl
theorem firstTo_some {p : Nat → Bool} {k : Nat} (hk : p k = true) (hb : ∀ j, j < k → p j = false) : ∀ {n : Nat}, k < n → firstTo p n = some k
  | 0, h => absurd h (by omega)
  | n + 1, h => by
    unfold firstTo
    rcases Nat.lt_or_ge k n with h1 | h1
    · rw [firstTo_some hk hb h1]
    · obtain rfl : k = n := by omega
      rw [firstTo_none hb, hk]
      rfl

def cntN (c : ConfR) (s : Nat) : Int :=
  if s = 1 then (c.ps.length : Int) else if s = 2 then (c.ws.length : Int) else if s = 3 then (c.rs.length : Int) else if s = 4 then (c.ts.length : Int) else if s = 5 then (c.cs.length : Int) else if s = 6 then wrap64 (c.links : Int) else 0

def overB (c : ConfR) (j : Nat) : Bool := decide (1 ≤ j) && decide (limV (j : Int) < cntN c j)
def badP (c : ConfR) (i : Nat) : Bool := match c.ps[i]? with
  | some p => !nameB (bytesOf p.name)
  | none => false
def badT (c : ConfR) (i : Nat) : Bool := match c.ts[i]? with
  | some p => !nameB (bytesOf p.name)
  | none => false
def badR (c : ConfR) (i : Nat) : Bool := match c.rs[i]? with
  | some p => decide (7 < p.rights)
  | none => false

/-- What Check answers. -/
def checkV (c : ConfR) : Int × Int × Int :=
  match firstTo (overB c) 7 with
  | some j => (7, (j : Int), limV (j : Int))
  | none => match firstTo (badP c) c.ps.length with
    | some i => (6, 1, (i : Int))
    | none => match firstTo (badT c) c.ts.length with
      | some i => (6, 4, (i : Int))
      | none => match firstTo (badR c) c.rs.length with
        | some i => (15, 3, (i : Int))
        | none => (0, 0, 0)

theorem badP_at {c : ConfR} {k : Nat} (h : k < c.ps.length) : badP c k = !nameB (bytesOf c.ps[k].name) := by
  unfold badP
  rw [List.getElem?_eq_getElem h]
theorem badT_at {c : ConfR} {k : Nat} (h : k < c.ts.length) : badT c k = !nameB (bytesOf c.ts[k].name) := by
  unfold badT
  rw [List.getElem?_eq_getElem h]
theorem badR_at {c : ConfR} {k : Nat} (h : k < c.rs.length) : badR c k = decide (7 < c.rs[k].rights) := by
  unfold badR
  rw [List.getElem?_eq_getElem h]

theorem CntIn.at {W : World} {B : Nat} {c : ConfR} (h : CntIn W B c) {k : Nat} (hk : k ≤ 6) : W.cell? ⟨B, k, none⟩ = some (.int .i64 (cntN c k)) := by
  have hc : k = 0 ∨ k = 1 ∨ k = 2 ∨ k = 3 ∨ k = 4 ∨ k = 5 ∨ k = 6 := by omega
  rcases hc with rfl | rfl | rfl | rfl | rfl | rfl | rfl
  · have e : cntN c 0 = 0 := by simp [cntN]
    rw [e]; exact h.n0
  · have e : cntN c 1 = (c.ps.length : Int) := by simp [cntN]
    rw [e]; exact h.n1
  · have e : cntN c 2 = (c.ws.length : Int) := by simp [cntN]
    rw [e]; exact h.n2
  · have e : cntN c 3 = (c.rs.length : Int) := by simp [cntN]
    rw [e]; exact h.n3
  · have e : cntN c 4 = (c.ts.length : Int) := by simp [cntN]
    rw [e]; exact h.n4
  · have e : cntN c 5 = (c.cs.length : Int) := by simp [cntN]
    rw [e]; exact h.n5
  · have e : cntN c 6 = wrap64 (c.links : Int) := by simp [cntN]
    rw [e]; exact h.n6

theorem CntIn.drewN {W : World} {B : Nat} {c : ConfR} (h : CntIn W B c) (m : Nat) : CntIn (W.drewN m) B c := ⟨h.n0, h.n1, h.n2, h.n3, h.n4, h.n5, h.n6⟩

theorem over0 (c : ConfR) : overB c 0 = false := rfl
theorem over_at (c : ConfR) {k : Nat} (h : 1 ≤ k) : overB c k = decide (limV (k : Int) < cntN c k) := by
  unfold overB
  rw [decide_eq_true h, Bool.true_and]

theorem quiet_left5 {P : Program} {f : FuncId} {args : Array Value} {w : World} {n : Nat} {v : Value}
    (h : Calls P f args (w.drewN n) fun e w' => e = .returned v ∧ w.drewN n = w') : Calls P f args (w.drewN n) fun e w'' => e = .returned v ∧ ∃ m, w'' = w.drewN m :=
  h.mono fun _ _ ⟨he, hm⟩ => ⟨he, n, hm.symm⟩

/-- Three numbers are handed back. -/
def ThreeIs (r : Int × Int × Int) (e : Ending) : Prop := e = .returned (.tuple #[.int .i64 r.1, .int .i64 r.2.1, .int .i64 r.2.2])

/-- Check behind the limits: from a world that differs from the boxed one by draws and new blocks. -/
structure ChkW (w W : World) (c : ConfR) (q : CfgQ) : Prop where
  box : BoxIn W w.heap.size c q
  cfg : CfgIn W c q
  below : Below w.heap.size w W
theorem ChkW.drewN {w W : World} {c : ConfR} {q : CfgQ} (h : ChkW w W c q) (m : Nat) : ChkW w (W.drewN m) c q :=
  ⟨h.box.below (below_drewN (Below.refl _ _) m), h.cfg.below (Nat.le_refl _) (below_drewN (Below.refl _ _) m), below_drewN h.below m⟩

set_option maxHeartbeats 8000000 in
theorem check_ok (c : ConfR) (q : CfgQ) (w : World) (hc : CfgIn w c q) :
    Calls Tryz.prog 11 #[cfgV c q] w fun e w' => ThreeIs (checkV c) e ∧ Below w.heap.size w w' := by
  have hB1 := boxC_in w c q
  have hA := boxC_below w c q
  have hc1 := hc.below (Nat.le_refl _) hA
  have HCO := Lib.hid (counts_ok c q (boxC w c q) hc1)
  obtain ⟨hz0, hz1⟩ := zero_of_info zero7
  obtain ⟨Z, hZ⟩ : ∃ Z : Array Value, Z = #[.int .i64 0, .int .i64 0, .int .i64 0, .int .i64 0, .int .i64 0, .int .i64 0, .int .i64 0] := ⟨_, rfl⟩
  rw [← hZ] at hz0
  have hst := fun W => cnt_store W c Z (by rw [hZ]; rfl)
  have hcv : cntV c = .agg (cntA c) := rfl
  rw [hcv] at HCO
  have hsize : (cntA c).size = 7 := rfl
  have HCI := Lib.hid (fun W => cnt_in W c)
  obtain ⟨NV, hNV⟩ : ∃ NV, NV = cntA c := ⟨_, rfl⟩
  rw [← hNV] at HCO hst hsize HCI
  have HC := Lib.hid hc1
  have HBX := Lib.hid hB1
  have HA := Lib.hid hA
  obtain ⟨-, b0, b1, b2, b3, b4, b5⟩ := hB1
  have HM := Lib.hid (And.intro hc.ps.max (And.intro hc.ts.max hc.rs.max))
  unfold cfgV
  unfold cfgV at HCO
  obtain ⟨W1, hW1⟩ : ∃ W1, W1 = boxC w c q := ⟨_, rfl⟩
  have hbox : w.alloc (.cells #[.int .u64 (c.frame : Int), .slice q.A1 c.ps.length q.c1, .slice q.A2 c.ws.length q.c2, .slice q.A3 c.rs.length q.c3, .slice q.A4 c.ts.length q.c4, .slice q.A5 c.cs.length q.c5] 29) = W1 := by rw [hW1]; rfl
  rw [← hW1] at HCO HC HBX HA b0 b1 b2 b3 b4 b5
  clear hc hA hc1 hZ hz1 hcv hNV hW1
  go_enter Tryz.func11, Tryz.ntmps11
  go_wp2_with fail
  refine HCO.out.mono ?_
  rintro e w1 ⟨rfl, hb1⟩
  have hb2 : Below W1.heap.size W1 (w1.alloc (.cells NV 38)) := hb1.alloc hb1.size _
  have HK : Hid (ChkW w (w1.alloc (.cells NV 38)) c q) := Lib.hid ⟨HBX.out.below hb2, HC.out.below (Nat.le_refl _) hb2, HA.out.trans (hb2.mono HA.out.size)⟩
  have HCN := Lib.hid (HCI.out w1)
  clear hb1 hb2 HBX HC HA HCO HCI b0 b1 b2 b3 b4 b5
  obtain ⟨W2, hW2⟩ : ∃ W2, W2 = w1.alloc (.cells NV 38) := ⟨_, rfl⟩
  go_wp2_with fail
  rw [← hW2] at HK HCN ⊢
  clear hW2
  go_loopw [6] (fun i wr => ∃ k : Nat, 1 ≤ k ∧ k ≤ 7 ∧ i = .int .i64 (k : Int) ∧ Hid (∀ j, j < k → overB c j = false) ∧ Hid (ChkW w wr c q ∧ CntIn wr w1.heap.size c)) (fun i _ => 7 - (intOf i).toNat)
  case atStart => exact ⟨1, by omega, by omega, rfl, Lib.hid (fun j h => (show j = 0 by omega) ▸ over0 c), Lib.hid ⟨HK.out, HCN.out⟩⟩
  case round =>
    obtain ⟨k, hk1, hk, rfl, hall, hw⟩ := hrel
    clear HK HCN
    by_cases hlt : k < 7
    · have hki : (k : Int) ≤ 6 := by omega
      have hk7 : (k : Int) < 7 := by omega
      have hn := hw.out.2.at (k := k) (by omega)
      have HL := Lib.hid (fun w => limit_ok (k : Int) w)
      have HOV := Lib.hid (over_at c hk1)
      have HSOME : Hid (overB c k = true → checkV c = (7, (k : Int), limV (k : Int))) := Lib.hid (fun h => by unfold checkV; rw [firstTo_some h hall.out hlt])
      have HST : Hid (overB c k = false → ∀ j, j < k + 1 → overB c j = false) := Lib.hid (fun h j hj => by
        rcases Nat.lt_or_ge j k with h1 | h1
        · exact hall.out j h1
        · obtain rfl : j = k := by omega
          exact h)
      generalize cntN c k = n at *
      generalize limV (k : Int) = lim at *
      have HB := Lib.hid hw.out.1.below
      clear hall
      by_cases hov : lim < n
      · have HR := Lib.hid (HSOME.out (by rw [HOV.out]; exact decide_eq_true hov))
        clear HSOME HST HOV
        go_wp2_with fail
        go_quiet ((go_at_call 15; exact quiet_left5 (HL.out _)))
        go_wp2_with fail
        refine (HL.out _).mono ?_
        rintro e w3 ⟨rfl, rfl⟩
        go_wp2_with fail
        go_ret3
        rw [HR.out]
        exact ⟨rfl, below_drewN HB.out _⟩
      · have HR := Lib.hid (HST.out (by rw [HOV.out]; exact decide_eq_false hov))
        clear HSOME HST HOV
        go_wp2_with fail
        go_quiet ((go_at_call 15; exact quiet_left5 (HL.out _)))
        go_wp2_with fail
        go_roundw
        case rel => exact ⟨k + 1, by omega, by omega, by go_num, HR, Lib.hid ⟨hw.out.1.drewN _, hw.out.2.drewN _⟩⟩
        case measure => simp [intOf]; omega
    · have hki : ¬ (k : Int) ≤ 6 := by omega
      have hk6 : k = 7 := by omega
      subst hk6
      have HN1 := Lib.hid (firstTo_none hall.out)
      have HK3 := Lib.hid hw.out.1
      obtain ⟨-, b0, b1, b2, b3, b4, b5⟩ := HK3.out.box
      obtain ⟨W3, hW3⟩ : ∃ W3, W3 = wr := ⟨_, rfl⟩
      rw [← hW3] at HK3 b0 b1 b2 b3 b4 b5 ⊢
      clear hall hw hW3 hk hk1 hlt
      go_wp2_with fail
      go_loopw [7] (fun i wr' => ∃ k : Nat, k ≤ c.ps.length ∧ i = .int .i64 (k : Int) ∧ Hid (∀ j, j < k → badP c j = false) ∧ wr' = W3) (fun i _ => c.ps.length - (intOf i).toNat)
      case atStart => exact ⟨0, by omega, rfl, Lib.hid (fun j h => absurd h (by omega)), rfl⟩
      case round =>
        obtain ⟨k7, hk7, rfl, hall, rfl⟩ := hrel
        have hm7 := HM.out.1
        by_cases hlt7 : k7 < c.ps.length
        · have hki7 : (k7 : Int) < (c.ps.length : Int) := by omega
          obtain ⟨b, o, hAd, hb, hcell⟩ := HK3.out.cfg.ps.at 4 partV_len (by omega) (i := k7) hlt7
          have hc2 : wr.cell? ⟨b, o + k7 * 4 + 1, none⟩ = some (.string c.ps[k7].name) := hcell 1 _ rfl
          have HBD := Lib.hid (badP_at hlt7)
          have HSOME : Hid (badP c k7 = true → checkV c = (6, 1, (k7 : Int))) := Lib.hid (fun h => by unfold checkV; rw [HN1.out, firstTo_some h hall.out hlt7])
          have HST : Hid (badP c k7 = false → ∀ j, j < k7 + 1 → badP c j = false) := Lib.hid (fun h j hj => by
            rcases Nat.lt_or_ge j k7 with h1 | h1
            · exact hall.out j h1
            · obtain rfl : j = k7 := by omega
              exact h)
          have HV := Lib.hid (refvalid_ok c.ps[k7].name _ (Str.of _) (by have h1 := (HK3.out.cfg.okp _ (List.getElem_mem hlt7)); have h2 := (Str.of c.ps[k7].name).size; unfold PartR.ok at h1; unfold maxLen; omega))
          obtain ⟨s, hs⟩ : ∃ s, s = c.ps[k7].name := ⟨_, rfl⟩
          rw [← hs] at hc2 HBD HV
          rw [hAd] at b1
          clear hcell hAd hs hall
          cases hv : nameB (bytesOf s) with
          | false =>
            rw [hv] at HV HBD
            have HR := Lib.hid (HSOME.out (by rw [HBD.out]; rfl))
            clear hv HSOME HST HBD
            go_wp2_with fail
            refine (HV.out _).mono ?_
            rintro e w3 ⟨rfl, rfl⟩
            go_wp2_with fail
            go_ret3
            rw [HR.out]
            exact ⟨rfl, HK3.out.below⟩
          | true =>
            rw [hv] at HV HBD
            have HR := Lib.hid (HST.out (by rw [HBD.out]; rfl))
            clear hv HSOME HST HBD
            go_wp2_with fail
            refine (HV.out _).mono ?_
            rintro e w3 ⟨rfl, rfl⟩
            go_wp2_with fail
            go_roundw
            case rel => exact ⟨k7 + 1, by omega, by go_num, HR, by trivial⟩
            case measure => simp [intOf]; omega
        · have hki7 : ¬ (k7 : Int) < (c.ps.length : Int) := by omega
          have hkk : k7 = c.ps.length := by omega
          rw [hkk] at hall
          have HX7 := Lib.hid (firstTo_none hall.out)
          clear hall hkk
          go_wp2_with fail
          go_loopw [8] (fun i wr' => ∃ k : Nat, k ≤ c.ts.length ∧ i = .int .i64 (k : Int) ∧ Hid (∀ j, j < k → badT c j = false) ∧ wr' = wr) (fun i _ => c.ts.length - (intOf i).toNat)
          case atStart => exact ⟨0, by omega, rfl, Lib.hid (fun j h => absurd h (by omega)), rfl⟩
          case round =>
            obtain ⟨k8, hk8, rfl, hall, rfl⟩ := hrel
            have hm8 := HM.out.2.1
            by_cases hlt8 : k8 < c.ts.length
            · have hki8 : (k8 : Int) < (c.ts.length : Int) := by omega
              obtain ⟨b, o, hAd, hb, hcell⟩ := HK3.out.cfg.ts.at 6 portV_len (by omega) (i := k8) hlt8
              have hc2 : wr.cell? ⟨b, o + k8 * 6 + 2, none⟩ = some (.string c.ts[k8].name) := hcell 2 _ rfl
              have HBD := Lib.hid (badT_at hlt8)
              have HSOME : Hid (badT c k8 = true → checkV c = (6, 4, (k8 : Int))) := Lib.hid (fun h => by unfold checkV; rw [HN1.out, HX7.out, firstTo_some h hall.out hlt8])
              have HST : Hid (badT c k8 = false → ∀ j, j < k8 + 1 → badT c j = false) := Lib.hid (fun h j hj => by
                rcases Nat.lt_or_ge j k8 with h1 | h1
                · exact hall.out j h1
                · obtain rfl : j = k8 := by omega
                  exact h)
              have HV := Lib.hid (refvalid_ok c.ts[k8].name _ (Str.of _) (by have h1 := (HK3.out.cfg.okt _ (List.getElem_mem hlt8)); have h2 := (Str.of c.ts[k8].name).size; unfold PortR.ok at h1; unfold maxLen; omega))
              obtain ⟨s, hs⟩ : ∃ s, s = c.ts[k8].name := ⟨_, rfl⟩
              rw [← hs] at hc2 HBD HV
              rw [hAd] at b4
              clear hcell hAd hs hall
              cases hv : nameB (bytesOf s) with
              | false =>
                rw [hv] at HV HBD
                have HR := Lib.hid (HSOME.out (by rw [HBD.out]; rfl))
                clear hv HSOME HST HBD
                go_wp2_with fail
                refine (HV.out _).mono ?_
                rintro e w3 ⟨rfl, rfl⟩
                go_wp2_with fail
                go_ret3
                rw [HR.out]
                exact ⟨rfl, HK3.out.below⟩
              | true =>
                rw [hv] at HV HBD
                have HR := Lib.hid (HST.out (by rw [HBD.out]; rfl))
                clear hv HSOME HST HBD
                go_wp2_with fail
                refine (HV.out _).mono ?_
                rintro e w3 ⟨rfl, rfl⟩
                go_wp2_with fail
                go_roundw
                case rel => exact ⟨k8 + 1, by omega, by go_num, HR, by trivial⟩
                case measure => simp [intOf]; omega
            · have hki8 : ¬ (k8 : Int) < (c.ts.length : Int) := by omega
              have hkk : k8 = c.ts.length := by omega
              rw [hkk] at hall
              have HX8 := Lib.hid (firstTo_none hall.out)
              clear hall hkk
              go_wp2_with fail
              go_loopw [9] (fun i wr' => ∃ k : Nat, k ≤ c.rs.length ∧ i = .int .i64 (k : Int) ∧ Hid (∀ j, j < k → badR c j = false) ∧ wr' = wr) (fun i _ => c.rs.length - (intOf i).toNat)
              case atStart => exact ⟨0, by omega, rfl, Lib.hid (fun j h => absurd h (by omega)), rfl⟩
              case round =>
                obtain ⟨k9, hk9, rfl, hall, rfl⟩ := hrel
                have hm9 := HM.out.2.2
                by_cases hlt9 : k9 < c.rs.length
                · have hki9 : (k9 : Int) < (c.rs.length : Int) := by omega
                  obtain ⟨b, o, hAd, hb, hcell⟩ := HK3.out.cfg.rs.at 5 regV_len (by omega) (i := k9) hlt9
                  have hc2 : wr.cell? ⟨b, o + k9 * 5 + 3, none⟩ = some (.int .u8 (c.rs[k9].rights : Int)) := hcell 3 _ rfl
                  have HBD := Lib.hid (badR_at hlt9)
                  have HSOME : Hid (badR c k9 = true → checkV c = (15, 3, (k9 : Int))) := Lib.hid (fun h => by unfold checkV; rw [HN1.out, HX7.out, HX8.out, firstTo_some h hall.out hlt9])
                  have HST : Hid (badR c k9 = false → ∀ j, j < k9 + 1 → badR c j = false) := Lib.hid (fun h j hj => by
                    rcases Nat.lt_or_ge j k9 with h1 | h1
                    · exact hall.out j h1
                    · obtain rfl : j = k9 := by omega
                      exact h)
                  obtain ⟨x, hx⟩ : ∃ x, x = c.rs[k9].rights := ⟨_, rfl⟩
                  rw [← hx] at hc2 HBD
                  rw [hAd] at b3
                  clear hcell hAd hx hall
                  by_cases h7 : 7 < x
                  · have h7i : (7 : Int) < (x : Int) := by omega
                    have HR := Lib.hid (HSOME.out (by rw [HBD.out]; exact decide_eq_true h7))
                    clear h7 HSOME HST HBD
                    go_wp2_with fail
                    go_ret3
                    rw [HR.out]
                    exact ⟨rfl, HK3.out.below⟩
                  · have h7i : ¬ (7 : Int) < (x : Int) := by omega
                    have HR := Lib.hid (HST.out (by rw [HBD.out]; exact decide_eq_false h7))
                    clear h7 HSOME HST HBD
                    go_wp2_with fail
                    go_roundw
                    case rel => exact ⟨k9 + 1, by omega, by go_num, HR, by trivial⟩
                    case measure => simp [intOf]; omega
                · have hki9 : ¬ (k9 : Int) < (c.rs.length : Int) := by omega
                  have hkk : k9 = c.rs.length := by omega
                  rw [hkk] at hall
                  have HX9 := Lib.hid (firstTo_none hall.out)
                  clear hall hkk
                  go_wp2_with fail
                  go_ret3
                  have hr : checkV c = (0, 0, 0) := by unfold checkV; rw [HN1.out, HX7.out, HX8.out, HX9.out]
                  rw [hr]
                  exact ⟨rfl, HK3.out.below⟩

end Go.Proofs.YtfbdehpdnoefjaaGreat
