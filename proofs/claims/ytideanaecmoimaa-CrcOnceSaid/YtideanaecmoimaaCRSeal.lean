/-
  The reference of layer 2: Seal and Sealed; slices.Equal. By the verifier.
-/
import Derived.Test.YtideanaecmoimaaCApp
import Derived.Test.YtideanaecmoimaaCRef
import Derived.Test.YtideanaecmoimaaCSealed
set_option linter.unusedVariables false
namespace Go.Proofs.Ytideanaecmoimaa
open Go.RowKit

/-- New bytes that may have room behind them. -/
def NewO (w : World) (l : List Nat) (e : Ending) (w' : World) : Prop := ∃ v, e = .returned v ∧ OwnB w' w.heap.size v l ∧ Below w.heap.size w w'

theorem le_cells (n : Nat) (z : Int) (hz : z = (n : Int)) : #[Value.int .u8 (z % 256), .int .u8 (z / 256 % 256), .int .u8 (z / 65536 % 256), .int .u8 (z / 16777216 % 256)] = ((le n).map V8).toArray := by
  subst hz
  unfold le V8
  simp only [List.map_cons, List.map_nil, Int.natCast_emod, Int.natCast_ediv]
  rfl

theorem own_lit (w : World) : OwnB (w.alloc (.cells #[] 5)) w.heap.size (.slice (some ⟨w.heap.size, 0, none⟩) 0 0) [] :=
  World.ownsRow_lit w #[] 0 (Nat.le_refl _) (by unfold maxLen; omega) rfl

set_option maxHeartbeats 1000000 in
theorem rseal_ok (A : Option Addr) (l : List Nat) (c : Nat) (w : World) (hl : Bys w A l) (hn : l.length ≤ 100000) :
    Calls Try.prog 17 #[.slice A l.length c] w fun e w' => NewO w (l ++ le (crc l)) e w' := by
  have HL := Lib.hid hl
  have HO := Lib.hid (own_lit w)
  have h0 : Below w.heap.size w (w.alloc (.cells #[] 5)) := (Below.refl _ _).alloc (Nat.le_refl _) _
  have HB := Lib.hid (hl.below (Nat.le_refl _) h0)
  have hsz : w.heap.size ≤ (w.alloc (.cells #[] 5)).heap.size := by simp
  obtain ⟨z, hz⟩ : ∃ z : Int, z = (crc l : Int) := ⟨_, rfl⟩
  have HC := Lib.hid (rsum_ok A l c w hl)
  rw [← hz] at HC
  have HZ := Lib.hid hz
  clear hl hz
  go_enter Try.func17, Try.ntmps17
  go_wp2_with fail
  refine HC.out.mono ?_
  rintro e w1 ⟨rfl, rfl⟩
  have HN : Hid (∀ (v1 : Value) (W : World), OwnB W w.heap.size v1 ([] ++ l) → Below w.heap.size w W →
      OwnB (W.alloc (.cells #[.int .u8 (z % 256), .int .u8 (z / 256 % 256), .int .u8 (z / 65536 % 256), .int .u8 (z / 16777216 % 256)] 5)) w.heap.size v1 l ∧ Bys (W.alloc (.cells #[.int .u8 (z % 256), .int .u8 (z / 256 % 256), .int .u8 (z / 65536 % 256), .int .u8 (z / 16777216 % 256)] 5)) (some ⟨W.heap.size, 0, none⟩) (le (crc l)) ∧ w.heap.size ≤ (W.alloc (.cells #[.int .u8 (z % 256), .int .u8 (z / 256 % 256), .int .u8 (z / 65536 % 256), .int .u8 (z / 16777216 % 256)] 5)).heap.size ∧ Below w.heap.size w (W.alloc (.cells #[.int .u8 (z % 256), .int .u8 (z / 256 % 256), .int .u8 (z / 65536 % 256), .int .u8 (z / 16777216 % 256)] 5))) := by
    refine Lib.hid fun v1 W ho hb => ?_
    rw [List.nil_append] at ho
    have h1a : Below W.heap.size W (W.alloc (.cells #[.int .u8 (z % 256), .int .u8 (z / 256 % 256), .int .u8 (z / 65536 % 256), .int .u8 (z / 16777216 % 256)] 5)) := (Below.refl _ _).alloc (Nat.le_refl _) _
    refine ⟨ho.below h1a, ?_, Nat.le_trans hb.size h1a.size, hb.trans (h1a.mono hb.size)⟩
    rw [le_cells _ z HZ.out]
    exact BRow.bys (heap_alloc_new W _) (le_bs _) (by rw [le_len]; unfold maxLen; omega)
  go_wp2_with (first
    | (with_reducible refine wpList_append8 rfl (.tmp 6) (.tmp 7) rfl w.heap.size (.slice (some ⟨w.heap.size, 0, none⟩) 0 0) [] rfl HO.out A l l.length c rfl rfl HB.out (by simp; omega) hsz ?_; intro v1 w1 ho1 hg1; have hb1 := grown_below h0 HO.out hg1 hsz; have HQ := Lib.hid (HN.out v1 w1 ho1 hb1); clear ho1 hg1)
    | (with_reducible refine wpList_append8 rfl (.tmp 8) (.tmp 20) rfl w.heap.size v1 l rfl HQ.out.1 (some ⟨w1.heap.size, 0, none⟩) (le (crc l)) 4 4 (le_len _) rfl HQ.out.2.1 (by omega) HQ.out.2.2.1 ?_; intro v2 w2 ho2 hg2; have hb3 := grown_below HQ.out.2.2.2 HQ.out.1 hg2 HQ.out.2.2.1; have HO3 := Lib.hid ho2; clear ho2 hg2))
  go_ret
  exact ⟨v2, rfl, HO3.out, hb3⟩

theorem equal_ok (A B : Option Addr) (l m : List Nat) (c d : Nat) (w : World) (hl : Bys w A l) (hm : Bys w B m) :
    Calls Try.prog 16 #[.slice A l.length c, .slice B m.length d] w fun e w' => e = .returned (.bool (decide (l = m))) ∧ Below w.heap.size w w' := by
  have h1 := hl.2.2
  have h2 := hm.2.2
  unfold maxLen at h1 h2
  have HL := Lib.hid hl
  have HM := Lib.hid hm
  clear hl hm
  by_cases hlen : l.length = m.length
  · have hb : (l.length != m.length) = false := by simpa using hlen
    have hbi : ((l.length : Int) != (m.length : Int)) = false := by simp; omega
    have HLEN := Lib.hid hlen
    have hmi : (m.length : Int) = (l.length : Int) := by omega
    clear hlen
    go_enter Try.func16, Try.ntmps16
    go_wp2_with fail
    go_loopw [13] (fun i wr => ∃ k : Nat, k ≤ l.length ∧ i = .int .i64 (k : Int) ∧ Hid (l.take k = m.take k) ∧ Below w.heap.size w wr) (fun i _ => l.length - (intOf i).toNat)
    case atStart => exact ⟨0, by omega, rfl, Lib.hid rfl, Below.refl _ _⟩
    case round =>
      obtain ⟨k, hk, rfl, htk, hbw⟩ := hrel
      by_cases hlt : k < l.length
      · have hlm : k < m.length := by have := HLEN.out; omega
        obtain ⟨b1, o1, rfl, hb1, hc1⟩ := (HL.out.below (Nat.le_refl _) hbw).1 k hlt
        obtain ⟨b2, o2, rfl, hb2, hc2⟩ := (HM.out.below (Nat.le_refl _) hbw).1 k hlm
        replace hc1 : wr.cell? ⟨b1, o1 + k, none⟩ = some (V8 (l.getD k 0)) := hc1
        replace hc2 : wr.cell? ⟨b2, o2 + k, none⟩ = some (V8 (m.getD k 0)) := hc2
        have t1 : l.take (k + 1) = l.take k ++ [l.getD k 0] := by rw [List.take_succ_eq_append_getElem hlt]; simp [List.getD, hlt]
        have t2 : m.take (k + 1) = m.take k ++ [m.getD k 0] := by rw [List.take_succ_eq_append_getElem hlm]; simp [List.getD, hlm]
        have hkl : (k : Int) < l.length := by omega
        have hkm : (k : Int) < m.length := by omega
        have HT : Hid (l.getD k 0 = m.getD k 0 → l.take (k + 1) = m.take (k + 1)) := Lib.hid fun h => by rw [t1, t2, h, htk.out]
        have HF : Hid (l.getD k 0 ≠ m.getD k 0 → decide (l = m) = false) := Lib.hid fun h => by
          rw [decide_eq_false_iff_not]
          rintro rfl
          exact h rfl
        clear t1 t2 hmi
        unfold V8 at hc1 hc2
        generalize l.getD k 0 = x at *
        generalize m.getD k 0 = y at *
        by_cases hxy : x = y
        · have hq : ((x : Int) != (y : Int)) = false := by simp; omega
          have HX := Lib.hid hxy
          clear hxy
          go_wp2_with fail
          go_quiet (fail)
          go_wp2_with fail
          go_roundw
          case rel => exact ⟨k + 1, by omega, by go_num, Lib.hid (HT.out HX.out), below_drewN hbw _⟩
          case measure => simp [intOf]; omega
        · have hq : ((x : Int) != (y : Int)) = true := by rw [bne_iff_ne]; omega
          have HR := Lib.hid (HF.out hxy)
          clear hxy
          go_wp2_with fail
          go_quiet (fail)
          go_wp2_with fail
          go_ret
          exact ⟨congrArg (fun r => Ending.returned (.bool r)) HR.out.symm, below_drewN hbw _⟩
      · have hkl : ¬ (k : Int) < l.length := by omega
        have hr : decide (l = m) = true := by
          have h := htk.out
          have := HLEN.out
          rw [List.take_of_length_le (by omega), List.take_of_length_le (by omega)] at h
          exact decide_eq_true h
        have HR := Lib.hid hr
        clear hr hmi
        go_wp2_with fail
        go_ret
        exact ⟨congrArg (fun r => Ending.returned (.bool r)) HR.out.symm, hbw⟩
  · have hb : ((l.length : Int) != (m.length : Int)) = true := by rw [bne_iff_ne]; omega
    have hr : decide (l = m) = false := by
      rw [decide_eq_false_iff_not]
      rintro rfl
      exact hlen rfl
    rw [hr]
    clear hr hlen
    go_enter Try.func16, Try.ntmps16
    go_wp2_with fail
    go_ret
    exact ⟨rfl, Below.refl _ _⟩

end Go.Proofs.Ytideanaecmoimaa
