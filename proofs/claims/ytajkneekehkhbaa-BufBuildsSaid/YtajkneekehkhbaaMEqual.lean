/-
  slices.Equal at bytes. By the verifier.
-/
import Derived.Test.YtajkneekehkhbaaMBytes
set_option linter.unusedVariables false
namespace Go.Proofs.Ytajkneekehkhbaa
open Go.RowKit

theorem equal_ok (A B : Option Addr) (l m : List Nat) (c d : Nat) (w : World) (hl : Bys w A l) (hm : Bys w B m) :
    Calls Try.prog 18 #[.slice A l.length c, .slice B m.length d] w fun e w' => e = .returned (.bool (decide (l = m))) ∧ Below w.heap.size w w' := by
  have h1 := hl.2.2
  have h2 := hm.2.2
  unfold maxLen at h1 h2
  have HL := Lib.hid hl
  have HM := Lib.hid hm
  clear hl hm
  by_cases hlen : l.length = m.length
  · have hb : (l.length != m.length) = false := by simpa using hlen
    have hbi : ((l.length : Int) != (m.length : Int)) = false := by simp; omega
    have HLEN := Lib.hid hlen
    have hmi : (m.length : Int) = (l.length : Int) := by omega
    clear hlen
    go_enter Try.func18, Try.ntmps18
    go_wp2_with fail
    go_loopw [13] (fun i wr => ∃ k : Nat, k ≤ l.length ∧ i = .int .i64 (k : Int) ∧ Hid (l.take k = m.take k) ∧ Below w.heap.size w wr) (fun i _ => l.length - (intOf i).toNat)
    case atStart => exact ⟨0, by omega, rfl, Lib.hid rfl, Below.refl _ _⟩
    case round =>
      obtain ⟨k, hk, rfl, htk, hbw⟩ := hrel
      by_cases hlt : k < l.length
      · have hlm : k < m.length := by have := HLEN.out; omega
        obtain ⟨b1, o1, rfl, hb1, hc1⟩ := (HL.out.below (Nat.le_refl _) hbw).1 k hlt
        obtain ⟨b2, o2, rfl, hb2, hc2⟩ := (HM.out.below (Nat.le_refl _) hbw).1 k hlm
        replace hc1 : wr.cell? ⟨b1, o1 + k, none⟩ = some (V8 (l.getD k 0)) := hc1
        replace hc2 : wr.cell? ⟨b2, o2 + k, none⟩ = some (V8 (m.getD k 0)) := hc2
        have t1 : l.take (k + 1) = l.take k ++ [l.getD k 0] := by rw [List.take_succ_eq_append_getElem hlt]; simp [List.getD, hlt]
        have t2 : m.take (k + 1) = m.take k ++ [m.getD k 0] := by rw [List.take_succ_eq_append_getElem hlm]; simp [List.getD, hlm]
        have hkl : (k : Int) < l.length := by omega
        have hkm : (k : Int) < m.length := by omega
        have HT : Hid (l.getD k 0 = m.getD k 0 → l.take (k + 1) = m.take (k + 1)) := Lib.hid fun h => by rw [t1, t2, h, htk.out]
        have HF : Hid (l.getD k 0 ≠ m.getD k 0 → decide (l = m) = false) := Lib.hid fun h => by
          rw [decide_eq_false_iff_not]
          rintro rfl
          exact h rfl
        clear t1 t2 hmi
        unfold V8 at hc1 hc2
        generalize l.getD k 0 = x at *
        generalize m.getD k 0 = y at *
        by_cases hxy : x = y
        · have hq : ((x : Int) != (y : Int)) = false := by simp; omega
          have HX := Lib.hid hxy
          clear hxy
          go_wp2_with fail
          go_quiet (fail)
          go_wp2_with fail
          go_roundw
          case rel => exact ⟨k + 1, by omega, by go_num, Lib.hid (HT.out HX.out), below_drewN hbw _⟩
          case measure => simp [intOf]; omega
        · have hq : ((x : Int) != (y : Int)) = true := by rw [bne_iff_ne]; omega
          have HR := Lib.hid (HF.out hxy)
          clear hxy
          go_wp2_with fail
          go_quiet (fail)
          go_wp2_with fail
          go_ret
          exact ⟨congrArg (fun r => Ending.returned (.bool r)) HR.out.symm, below_drewN hbw _⟩
      · have hkl : ¬ (k : Int) < l.length := by omega
        have hr : decide (l = m) = true := by
          have h := htk.out
          have := HLEN.out
          rw [List.take_of_length_le (by omega), List.take_of_length_le (by omega)] at h
          exact decide_eq_true h
        have HR := Lib.hid hr
        clear hr hmi
        go_wp2_with fail
        go_ret
        exact ⟨congrArg (fun r => Ending.returned (.bool r)) HR.out.symm, hbw⟩
  · have hb : ((l.length : Int) != (m.length : Int)) = true := by rw [bne_iff_ne]; omega
    have hr : decide (l = m) = false := by
      rw [decide_eq_false_iff_not]
      rintro rfl
      exact hlen rfl
    rw [hr]
    clear hr hlen
    go_enter Try.func18, Try.ntmps18
    go_wp2_with fail
    go_ret
    exact ⟨rfl, Below.refl _ _⟩

end Go.Proofs.Ytajkneekehkhbaa
