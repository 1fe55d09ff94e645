/-
  Layer 1 (num), the greatest common divisor of the program, and the fold. By the verifier.
-/
import Derived.Test.YtgbpjgnpojkejaaDoorNumA
import Derived.Deep.LoopGhost
set_option linter.unusedVariables false
namespace Go.Proofs.YtgbpjgnpojkejaaDoor
open Go.RowKit

theorem gcd_step (x y g : Nat) (h : Nat.gcd x y = g) : Nat.gcd y (x % y) = g := by
  rw [← h, Nat.gcd_comm x y, Nat.gcd_rec y x, Nat.gcd_comm]

/-- number.divisor: Euclid's algorithm. -/
theorem divisor_ok (a b : Nat) (w : World) (ha : (a : Int) < 18446744073709551616) (hb : (b : Int) < 18446744073709551616) :
    Calls Tryd.prog 41 #[.int .u64 a, .int .u64 b] w fun e w' => e = .returned (.int .u64 (Nat.gcd a b : Nat)) ∧ Below w.heap.size w w' := by
  have HG : Hid (∃ g, Nat.gcd a b = g) := Lib.hid ⟨_, rfl⟩
  obtain ⟨g, hg⟩ := HG.out
  rw [hg]
  have Hg := Lib.hid hg
  clear hg HG
  go_enter Tryd.func41, Tryd.ntmps41
  go_wp2
  go_loopw [0, 1] (fun s t wr => ∃ x y : Nat, s = .int .u64 x ∧ t = .int .u64 y ∧ Hid (Nat.gcd x y = g) ∧ (x : Int) < 18446744073709551616 ∧ (y : Int) < 18446744073709551616 ∧ Below w.heap.size w wr) (fun _ t _ => (intOf t).toNat)
  case atStart => exact ⟨a, b, rfl, rfl, Hg, ha, hb, Below.refl _ _⟩
  case round =>
    obtain ⟨x, y, rfl, rfl, hxy, hx, hy, hbw⟩ := hrel
    by_cases h0 : y = 0
    · subst h0
      have hz : ((((0 : Nat) : Int)) != 0) = false := by simp
      go_wp2
      go_ret
      exact ⟨by have := hxy.out; rw [Nat.gcd_zero_right] at this; rw [this]; rfl, hbw⟩
    · have hne : (((y : Int)) != 0) = true := by rw [bne_iff_ne]; omega
      have hne2 : (((y : Int)) == 0) = false := by rw [beq_eq_false_iff_ne]; omega
      have hpos : 0 < (y : Int) := by omega
      go_wp2
      go_quiet (fail)
      go_roundw
      case rel => exact ⟨_, _, _, _, _, _, _, _, ⟨y, x % y, rfl, by rw [Int.natCast_emod], Lib.hid (gcd_step x y g hxy.out), hy, by have := Nat.mod_lt x (y := y) (by omega); omega, below_drewN hbw _⟩, rfl⟩
      case measure => simp [intOf]; have := Nat.mod_lt x (y := y) (by omega); omega

/-- number.multiple -/
def multipleO (a b : Int) : Option Int := if b = 0 then none else timesO (a / (Nat.gcd a.toNat b.toNat : Nat)) b

theorem multiple_ok (a b : Int) (w : World) (ha : U a) (hb : U b) (hpos : 0 < a) :
    Calls Tryd.prog 31 #[.int .u64 a, .int .u64 b] w fun e w' => StepRes (multipleO a b) e ∧ Below w.heap.size w w' := by
  by_cases h : b = 0
  · have hp : multipleO a b = none := if_pos h
    rw [hp]
    have hz : (b == 0) = true := by rw [beq_iff_eq]; exact h
    clear hp h
    go_enter Tryd.func31, Tryd.ntmps31
    go_wp2
    go_ret2
    exact ⟨⟨_, rfl, ⟨by omega, by omega⟩, fun c hc => by cases hc⟩, Below.refl _ _⟩
  · have hp : multipleO a b = timesO (a / (Nat.gcd a.toNat b.toNat : Nat)) b := if_neg h
    rw [hp]
    obtain ⟨a0, a1⟩ := ha
    obtain ⟨b0, b1⟩ := hb
    obtain ⟨x, rfl⟩ := Int.eq_ofNat_of_zero_le a0
    obtain ⟨y, rfl⟩ := Int.eq_ofNat_of_zero_le b0
    have hz : ((y : Int) == 0) = false := by rw [beq_eq_false_iff_ne]; exact h
    clear hp
    rw [Int.toNat_natCast, Int.toNat_natCast]
    have hdiv := divisor_ok x y
    have hg0 : 0 < Nat.gcd x y := Nat.gcd_pos_of_pos_left _ (by omega)
    generalize Nat.gcd x y = g at hdiv hg0 ⊢
    have Hdiv := Lib.hid hdiv
    clear hdiv
    have hq : U ((x : Int) / (g : Int)) := ⟨Int.ediv_nonneg (by omega) (by omega), by have := Int.ediv_le_self (a := (x : Int)) (g : Int) (by omega); omega⟩
    have Ht := fun w => times_ok ((x : Int) / (g : Int)) (y : Int) w hq ⟨b0, b1⟩
    have hgi : 0 < (g : Int) := by omega
    have hgn : ((g : Int) == 0) = false := by rw [beq_eq_false_iff_ne]; omega
    generalize timesO ((x : Int) / (g : Int)) (y : Int) = r at Ht ⊢
    have HT := Lib.hid Ht
    clear Ht
    have hw : IntKind.u64.wrap ((x : Int) / (g : Int)) = (x : Int) / (g : Int) := IntWalk.u64_in _ (by unfold U at hq; omega)
    go_enter Tryd.func31, Tryd.ntmps31
    go_wp2_with fail
    refine (Hdiv.out _ a1 b1).mono ?_
    rintro e w1 ⟨rfl, hb1⟩
    go_wp2_with fail
    refine (HT.out _).mono ?_
    rintro e w2 ⟨⟨v, rfl, hv, hc⟩, rfl⟩
    have HC := Lib.hid hc
    clear hc
    go_wp2_with fail
    go_ret2
    exact ⟨⟨v, rfl, hv, HC.out⟩, hb1⟩

end Go.Proofs.YtgbpjgnpojkejaaDoor
