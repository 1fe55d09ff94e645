/-
  Layer 5 (conf): the reference's Few. By the verifier.
-/
import Derived.Test.YthdagjlgfffpbaaGreatGCnt
set_option linter.unusedVariables false
namespace Go.Proofs.YthdagjlgfffpbaaGreat
open Go.RowKit

/-- All that Few adds up. -/
def ConfR.total (c : ConfR) : Int := (c.ps.length : Int) + (c.ws.length : Int) + (c.rs.length : Int) + (c.ts.length : Int) + (c.cs.length : Int) + wrap64 (c.links : Int)
def fewV (c : ConfR) : Bool := (c.ps.all fun p => decide (p.name.size ≤ 100)) && ((c.ts.all fun p => decide (p.name.size ≤ 100)) && decide (wrap64 c.total ≤ 120))

theorem few_p {c : ConfR} {k : Nat} (hk : k < c.ps.length) (h : 100 < c.ps[k].name.size) : fewV c = false := by
  unfold fewV
  cases ha : c.ps.all (fun p => decide (p.name.size ≤ 100)) with
  | false => rfl
  | true =>
    have := List.all_eq_true.1 ha c.ps[k] (List.getElem_mem hk)
    simp at this
    omega
theorem few_t {c : ConfR} {k : Nat} (hk : k < c.ts.length) (h : 100 < c.ts[k].name.size) : fewV c = false := by
  unfold fewV
  cases ha : c.ts.all (fun p => decide (p.name.size ≤ 100)) with
  | false => simp
  | true =>
    have := List.all_eq_true.1 ha c.ts[k] (List.getElem_mem hk)
    simp at this
    omega
theorem few_end {c : ConfR} (hp : ∀ k (hk : k < c.ps.length), c.ps[k].name.size ≤ 100) (ht : ∀ k (hk : k < c.ts.length), c.ts[k].name.size ≤ 100) : fewV c = decide (wrap64 c.total ≤ 120) := by
  unfold fewV
  have h1 : c.ps.all (fun p => decide (p.name.size ≤ 100)) = true := List.all_eq_true.2 fun x hx => by
    obtain ⟨k, hk, rfl⟩ := List.mem_iff_getElem.1 hx
    simpa using hp k hk
  have h2 : c.ts.all (fun p => decide (p.name.size ≤ 100)) = true := List.all_eq_true.2 fun x hx => by
    obtain ⟨k, hk, rfl⟩ := List.mem_iff_getElem.1 hx
    simpa using ht k hk
  rw [h1, h2, Bool.true_and, Bool.true_and]

/-- The seven numbers as cells. -/
def cntA (c : ConfR) : Array Value := #[.int .i64 0, .int .i64 (c.ps.length : Int), .int .i64 (c.ws.length : Int), .int .i64 (c.rs.length : Int), .int .i64 (c.ts.length : Int), .int .i64 (c.cs.length : Int), .int .i64 (wrap64 (c.links : Int))]
theorem cntA_one (c : ConfR) : (cntA c).all (·.oneCell') = true := by
  unfold cntA
  simp only [List.all_toArray, List.all_cons, List.all_nil]
  rfl
theorem zero7 : (Tryz.prog.info? 68).map (fun i => (i.zero, i.size)) = some (some (.agg #[.int .i64 0, .int .i64 0, .int .i64 0, .int .i64 0, .int .i64 0, .int .i64 0, .int .i64 0]), 7) := by kernel_rfl

/-- The cells of the seven numbers. -/
structure CntIn (W : World) (B : Nat) (c : ConfR) : Prop where
  n0 : W.cell? ⟨B, 0, none⟩ = some (.int .i64 0)
  n1 : W.cell? ⟨B, 1, none⟩ = some (.int .i64 (c.ps.length : Int))
  n2 : W.cell? ⟨B, 2, none⟩ = some (.int .i64 (c.ws.length : Int))
  n3 : W.cell? ⟨B, 3, none⟩ = some (.int .i64 (c.rs.length : Int))
  n4 : W.cell? ⟨B, 4, none⟩ = some (.int .i64 (c.ts.length : Int))
  n5 : W.cell? ⟨B, 5, none⟩ = some (.int .i64 (c.cs.length : Int))
  n6 : W.cell? ⟨B, 6, none⟩ = some (.int .i64 (wrap64 (c.links : Int)))
theorem cnt_in (W : World) (c : ConfR) : CntIn (W.alloc (.cells (cntA c) 68)) W.heap.size c := by
  refine ⟨?_, ?_, ?_, ?_, ?_, ?_, ?_⟩
  all_goals
    rw [cell_of_row _ _ _ _ _ _ (heap_alloc_new W _)]
    rfl

theorem cnt_store (W : World) (c : ConfR) (Z : Array Value) (hZ : Z.size = 7) : (storeCells ⟨W.heap.size, 0, none⟩ (cntA c).toList 0).run Tryz.prog (W.alloc (.cells Z 68)) = .ok () (W.alloc (.cells (cntA c) 68)) := by
  rw [run_store_whole (W.alloc (.cells Z 68)) W.heap.size 68 _ (cntA c) (heap_alloc_new W _) hZ (cntA_one c), World.setRow_alloc_new]

set_option maxHeartbeats 4000000 in
theorem few_ok (c : ConfR) (q : CfgQ) (w : World) (hc : CfgIn w c q) :
    Calls Tryz.prog 8 #[cfgV c q] w fun e w' => e = .returned (.bool (fewV c)) ∧ Below w.heap.size w w' := by
  have hB1 := boxC_in w c q
  have hA := boxC_below w c q
  have hc1 := hc.below (Nat.le_refl _) hA
  have HCO := Lib.hid (counts_ok c q (boxC w c q) hc1)
  obtain ⟨hz0, hz1⟩ := zero_of_info zero7
  obtain ⟨Z, hZ⟩ : ∃ Z : Array Value, Z = #[.int .i64 0, .int .i64 0, .int .i64 0, .int .i64 0, .int .i64 0, .int .i64 0, .int .i64 0] := ⟨_, rfl⟩
  rw [← hZ] at hz0
  have hst := fun W => cnt_store W c Z (by rw [hZ]; rfl)
  have hcv : cntV c = .agg (cntA c) := rfl
  rw [hcv] at HCO
  have hsize : (cntA c).size = 7 := rfl
  have HCI := Lib.hid (fun W => cnt_in W c)
  obtain ⟨NV, hNV⟩ : ∃ NV, NV = cntA c := ⟨_, rfl⟩
  rw [← hNV] at HCO hst hsize HCI
  have HC := Lib.hid hc1
  have HBX := Lib.hid hB1
  have HA := Lib.hid hA
  obtain ⟨-, b0, b1, b2, b3, b4, b5⟩ := hB1
  have HM := Lib.hid (And.intro hc.ps.max (And.intro hc.ws.max (And.intro hc.rs.max (And.intro hc.ts.max (And.intro hc.cs.fit hc.cs.max)))))
  have HL5 := Lib.hid hc.len5
  unfold cfgV
  unfold cfgV at HCO
  obtain ⟨W1, hW1⟩ : ∃ W1, W1 = boxC w c q := ⟨_, rfl⟩
  have hbox : w.alloc (.cells #[.int .u64 (c.frame : Int), .slice q.A1 c.ps.length q.c1, .slice q.A2 c.ws.length q.c2, .slice q.A3 c.rs.length q.c3, .slice q.A4 c.ts.length q.c4, .slice q.A5 c.cs.length q.c5] 30) = W1 := by rw [hW1]; rfl
  rw [← hW1] at HCO HC HBX HA b0 b1 b2 b3 b4 b5
  clear hc hA hc1 hZ hz1 hcv hNV hW1
  go_enter Tryz.func8, Tryz.ntmps8
  go_wp2_with fail
  refine HCO.out.mono ?_
  rintro e w1 ⟨rfl, hb1⟩
  have hb2 : Below W1.heap.size W1 (w1.alloc (.cells NV 68)) := hb1.alloc hb1.size _
  obtain ⟨hlt0, b0, b1, b2, b3, b4, b5⟩ := HBX.out.below hb2
  obtain ⟨n0, n1, n2, n3, n4, n5, n6⟩ := HCI.out w1
  have HC2 := Lib.hid (HC.out.below (Nat.le_refl _) hb2)
  have HA2 := Lib.hid (HA.out.trans (hb2.mono HA.out.size))
  clear hb1 hb2 HBX HC HA HCO HCI hlt0 b0
  obtain ⟨W2, hW2⟩ : ∃ W2, W2 = w1.alloc (.cells NV 68) := ⟨_, rfl⟩
  go_wp2_with fail
  rw [← hW2] at b1 b2 b3 b4 b5 n0 n1 n2 n3 n4 n5 n6 HC2 HA2 ⊢
  clear hW2
  go_loopw [4] (fun i wr => ∃ k : Nat, k ≤ c.ps.length ∧ i = .int .i64 (k : Int) ∧ Hid (∀ j (hj : j < c.ps.length), j < k → c.ps[j].name.size ≤ 100) ∧ wr = W2) (fun i _ => c.ps.length - (intOf i).toNat)
  case atStart => exact ⟨0, by omega, rfl, Lib.hid (fun j _ h => absurd h (by omega)), rfl⟩
  case round =>
    obtain ⟨k, hk, rfl, hall, rfl⟩ := hrel
    have hm1 := HM.out.1
    by_cases hlt : k < c.ps.length
    · have hki : (k : Int) < (c.ps.length : Int) := by omega
      obtain ⟨b, o, hA1, hb, hcell⟩ := HC2.out.ps.at 4 partV_len (by omega) (i := k) hlt
      have hc2 : wr.cell? ⟨b, o + k * 4 + 1, none⟩ = some (.string c.ps[k].name) := hcell 1 _ rfl
      have HNO : Hid (100 < c.ps[k].name.size → fewV c = false) := Lib.hid (few_p hlt)
      have HST : Hid (c.ps[k].name.size ≤ 100 → ∀ j (hj : j < c.ps.length), j < k + 1 → c.ps[j].name.size ≤ 100) := Lib.hid (fun h j hj hjk => by
        rcases Nat.lt_or_ge j k with h1 | h1
        · exact hall.out j hj h1
        · obtain rfl : j = k := by omega
          exact h)
      obtain ⟨s, hs⟩ : ∃ s, s = c.ps[k].name := ⟨_, rfl⟩
      rw [← hs] at hc2 HNO HST
      rw [hA1] at b1
      clear hcell hA1 hs hall
      by_cases h100 : 100 < s.size
      · have hz : (100 : Int) < (s.size : Int) := by omega
        have HR := Lib.hid (HNO.out h100)
        clear h100 HNO HST
        go_wp2_with fail
        go_ret
        rw [HR.out]
        exact ⟨rfl, HA2.out⟩
      · have hz : ¬ (100 : Int) < (s.size : Int) := by omega
        have HR := Lib.hid (HST.out (by omega))
        clear h100 HNO HST
        go_wp2_with fail
        go_roundw
        case rel => exact ⟨k + 1, by omega, by go_num, HR, by trivial⟩
        case measure => simp [intOf]; omega
    · have hki : ¬ (k : Int) < (c.ps.length : Int) := by omega
      have HP : Hid (∀ j (hj : j < c.ps.length), c.ps[j].name.size ≤ 100) := Lib.hid (fun j hj => hall.out j hj (by omega))
      clear hall
      go_wp2_with fail
      go_loopw [5] (fun i wr' => ∃ k : Nat, k ≤ c.ts.length ∧ i = .int .i64 (k : Int) ∧ Hid (∀ j (hj : j < c.ts.length), j < k → c.ts[j].name.size ≤ 100) ∧ wr' = wr) (fun i _ => c.ts.length - (intOf i).toNat)
      case atStart => exact ⟨0, by omega, rfl, Lib.hid (fun j _ h => absurd h (by omega)), rfl⟩
      case round =>
        obtain ⟨k2, hk2, rfl, hall, rfl⟩ := hrel
        have hm4 := HM.out.2.2.2.1
        by_cases hlt2 : k2 < c.ts.length
        · have hki2 : (k2 : Int) < (c.ts.length : Int) := by omega
          obtain ⟨b, o, hA4, hb, hcell⟩ := HC2.out.ts.at 6 portV_len (by omega) (i := k2) hlt2
          have hc2 : wr.cell? ⟨b, o + k2 * 6 + 2, none⟩ = some (.string c.ts[k2].name) := hcell 2 _ rfl
          have HNO : Hid (100 < c.ts[k2].name.size → fewV c = false) := Lib.hid (few_t hlt2)
          have HST : Hid (c.ts[k2].name.size ≤ 100 → ∀ j (hj : j < c.ts.length), j < k2 + 1 → c.ts[j].name.size ≤ 100) := Lib.hid (fun h j hj hjk => by
            rcases Nat.lt_or_ge j k2 with h1 | h1
            · exact hall.out j hj h1
            · obtain rfl : j = k2 := by omega
              exact h)
          obtain ⟨s, hs⟩ : ∃ s, s = c.ts[k2].name := ⟨_, rfl⟩
          rw [← hs] at hc2 HNO HST
          rw [hA4] at b4
          clear hcell hA4 hs hall
          by_cases h100 : 100 < s.size
          · have hz : (100 : Int) < (s.size : Int) := by omega
            have HR := Lib.hid (HNO.out h100)
            clear h100 HNO HST
            go_wp2_with fail
            go_ret
            rw [HR.out]
            exact ⟨rfl, HA2.out⟩
          · have hz : ¬ (100 : Int) < (s.size : Int) := by omega
            have HR := Lib.hid (HST.out (by omega))
            clear h100 HNO HST
            go_wp2_with fail
            go_roundw
            case rel => exact ⟨k2 + 1, by omega, by go_num, HR, by trivial⟩
            case measure => simp [intOf]; omega
        · have hki2 : ¬ (k2 : Int) < (c.ts.length : Int) := by omega
          have HE := Lib.hid (few_end HP.out (fun j hj => hall.out j hj (by omega)))
          unfold ConfR.total at HE
          have hm2 := HM.out.2.1
          have hm3 := HM.out.2.2.1
          have hm5 : c.cs.length ≤ 9223372036854775807 := by have := HM.out.2.2.2.2.2; have := HL5.out; omega
          generalize wrap64 (c.links : Int) = nl at *
          clear hall hlt2 hlt
          go_wp2_with fail
          go_ret
          rw [HE.out]
          exact ⟨by simp [wrap_add], HA2.out⟩

end Go.Proofs.YthdagjlgfffpbaaGreat
