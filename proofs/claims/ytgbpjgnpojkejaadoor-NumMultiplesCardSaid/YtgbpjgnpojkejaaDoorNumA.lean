/-
  Layer 1 (num), the small functions: a contract for each. By the verifier.
-/
import Derived.Test.YtgbpjgnpojkejaaDoorBase
import Derived.Test.YtgbpjgnpojkejaaDoorShelf
set_option linter.unusedVariables false
namespace Go.Proofs.YtgbpjgnpojkejaaDoor
open Go.RowKit

/-- math/bits.Add64 without a carry, as the model has it. -/
theorem add64_fits (x y : Int) (hx : U x) (hy : U y) (h : x + y < 18446744073709551616) (w : World) :
    (callFunc 38 #[.int .u64 x, .int .u64 y, .int .u64 0]).run Tryd.prog w = .ok (.value (.tuple #[.int .u64 (x + y), .int .u64 0])) w := by
  have hx := hx.lo; have hy := hy.lo
  rw [run_callFunc_extern Tryd.func38 (by kernel_rfl) (by kernel_rfl) (by kernel_rfl) (e := add64Entry) (by kernel_rfl), run_add64 x y 0 (by omega) (by omega) (by omega) (by omega)]
  have e1 : (x + y + 0) % 18446744073709551616 = x + y := by omega
  have e2 : (x + y + 0) / 18446744073709551616 = 0 := by omega
  rw [e1, e2]
  rfl

theorem add64_over (x y : Int) (hx : U x) (hy : U y) (h : 18446744073709551616 ≤ x + y) (w : World) :
    (callFunc 38 #[.int .u64 x, .int .u64 y, .int .u64 0]).run Tryd.prog w = .ok (.value (.tuple #[.int .u64 (x + y - 18446744073709551616), .int .u64 1])) w := by
  have hx := hx; have hy := hy; unfold U at hx hy
  rw [run_callFunc_extern Tryd.func38 (by kernel_rfl) (by kernel_rfl) (by kernel_rfl) (e := add64Entry) (by kernel_rfl), run_add64 x y 0 (by omega) (by omega) (by omega) (by omega)]
  have e1 : (x + y + 0) % 18446744073709551616 = x + y - 18446744073709551616 := by omega
  have e2 : (x + y + 0) / 18446744073709551616 = 1 := by omega
  rw [e1, e2]
  rfl

/-- number.plus -/
def plusO (a b : Int) : Option Int := if a + b < 18446744073709551616 then some (a + b) else none

/-- What a step of the folds returns: its number counts where there is a result. -/
def StepRes (o : Option Int) (e : Ending) : Prop := ∃ x, e = .returned (.tuple #[.int .u64 x, .bool o.isSome]) ∧ U x ∧ ∀ c, o = some c → x = c

theorem plus_ok (a b : Int) (w : World) (ha : U a) (hb : U b) :
    Calls Tryd.prog 27 #[.int .u64 a, .int .u64 b] w fun e w' => StepRes (plusO a b) e ∧ w = w' := by
  have a0 := ha.lo; have b0 := hb.lo; have a1 := ha.hi; have b1 := hb.hi
  by_cases h : a + b < 18446744073709551616
  · have hp : plusO a b = some (a + b) := if_pos h
    rw [hp]
    go_enter Tryd.func27, Tryd.ntmps27
    go_wp2_with (simp only [add64_fits a b ha hb h])
    go_ret2
    exact ⟨⟨_, rfl, ⟨by omega, by omega⟩, fun c hc => by injection hc⟩, rfl⟩
  · have hp : plusO a b = none := if_neg h
    rw [hp]
    go_enter Tryd.func27, Tryd.ntmps27
    go_wp2_with (simp only [add64_over a b ha hb (by omega)])
    go_ret2
    exact ⟨⟨_, rfl, ⟨by omega, by omega⟩, fun c hc => by cases hc⟩, rfl⟩

/-- math/bits.Mul64, in two cases. -/
theorem mul64_fits (a b : Int) (ha : U a) (hb : U b) (h : a * b < 18446744073709551616) (w : World) :
    Calls Tryd.prog 40 #[.int .u64 a, .int .u64 b] w fun e w' => e = .returned (.tuple #[.int .u64 0, .int .u64 (a * b)]) ∧ w = w' := by
  obtain ⟨a0, a1⟩ := ha; obtain ⟨b0, b1⟩ := hb
  obtain ⟨x, rfl⟩ := Int.eq_ofNat_of_zero_le a0
  obtain ⟨y, rfl⟩ := Int.eq_ofNat_of_zero_le b0
  rw [← Int.natCast_mul] at h ⊢
  refine (Tryd.bits_Mul64 x y (by omega) (by omega) w).mono ?_
  rintro e w' ⟨rfl, rfl⟩
  rw [Nat.div_eq_of_lt (by omega), Nat.mod_eq_of_lt (by omega)]
  exact ⟨rfl, rfl⟩

def MulOver (e : Ending) : Prop := ∃ h l : Int, e = .returned (.tuple #[.int .u64 h, .int .u64 l]) ∧ 0 < h ∧ U l

theorem mul64_over (a b : Int) (ha : U a) (hb : U b) (h : 18446744073709551616 ≤ a * b) (w : World) :
    Calls Tryd.prog 40 #[.int .u64 a, .int .u64 b] w fun e w' => MulOver e ∧ w = w' := by
  obtain ⟨a0, a1⟩ := ha; obtain ⟨b0, b1⟩ := hb
  obtain ⟨x, rfl⟩ := Int.eq_ofNat_of_zero_le a0
  obtain ⟨y, rfl⟩ := Int.eq_ofNat_of_zero_le b0
  rw [← Int.natCast_mul] at h
  refine (Tryd.bits_Mul64 x y (by omega) (by omega) w).mono ?_
  rintro e w' ⟨rfl, rfl⟩
  refine ⟨⟨_, _, rfl, ?_, ⟨by omega, by omega⟩⟩, rfl⟩
  have : 0 < x * y / 18446744073709551616 := Nat.div_pos (by omega) (by omega)
  omega

/-- number.times -/
def timesO (a b : Int) : Option Int := if a * b < 18446744073709551616 then some (a * b) else none

theorem times_ok (a b : Int) (w : World) (ha : U a) (hb : U b) :
    Calls Tryd.prog 30 #[.int .u64 a, .int .u64 b] w fun e w' => StepRes (timesO a b) e ∧ w = w' := by
  have a0 := ha.lo; have b0 := hb.lo
  have m0 := Int.mul_nonneg a0 b0
  by_cases h : a * b < 18446744073709551616
  · have hp : timesO a b = some (a * b) := if_pos h
    rw [hp]
    go_enter Tryd.func30, Tryd.ntmps30
    go_wp2_with ((with_reducible refine (mul64_fits a b ha hb h _).mono ?_); rintro e w' ⟨rfl, rfl⟩)
    go_ret2
    exact ⟨⟨_, rfl, ⟨m0, h⟩, fun c hc => by injection hc⟩, rfl⟩
  · have hp : timesO a b = none := if_neg h
    rw [hp]
    go_enter Tryd.func30, Tryd.ntmps30
    go_wp2_with ((with_reducible refine (mul64_over a b ha hb (by omega) _).mono ?_); rintro e w' ⟨⟨hi, lo, rfl, hpos, hl⟩, rfl⟩; have hz : (hi == 0) = false := by simp; omega)
    go_ret2
    exact ⟨⟨_, rfl, hl, fun c hc => by cases hc⟩, rfl⟩

end Go.Proofs.YtgbpjgnpojkejaaDoor
