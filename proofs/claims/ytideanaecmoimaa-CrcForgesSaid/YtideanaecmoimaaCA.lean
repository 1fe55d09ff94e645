/-
  Layer 2 (crc): the small functions on numbers. By the verifier.
-/
import Derived.Test.YtideanaecmoimaaCBase
import Derived.Test.YtideanaecmoimaaCMath
set_option linter.unusedVariables false
namespace Go.Proofs.Ytideanaecmoimaa
open Go.RowKit

theorem cast_mod2 (n : Nat) : ((n : Int) % 2 = 1) ↔ n % 2 = 1 := by omega

theorem st_int (n : Nat) (h : n < 4294967296) : ((st n : Nat) : Int) = if n % 2 = 1 then bits .xor .u32 ((n : Int) / 2) 3988292384 else (n : Int) / 2 := by
  unfold st
  split
  · rw [show ((n : Int) / 2) = ((n / 2 : Nat) : Int) by omega, show (3988292384 : Int) = ((3988292384 : Nat) : Int) from rfl, u32_xor_nat _ _ (by omega) (by omega)]
  · omega

theorem and_one (n : Nat) (h : n < 4294967296) : bits .and .u32 (n : Int) 1 = ((n % 2 : Nat) : Int) := by
  rw [show (1 : Int) = ((1 : Nat) : Int) from rfl, u32_and_nat _ _ h (by omega), Nat.and_one_is_mod]

theorem shift_ok (n : Nat) (w : World) (h : n < 4294967296) :
    Calls Try.prog 21 #[.int .u32 n] w fun e w' => e = .returned (.int .u32 (st n : Nat)) ∧ w = w' := by
  rw [st_int n h]
  have ha := and_one n h
  obtain ⟨z, hz⟩ : ∃ z : Int, z = (n : Int) := ⟨_, rfl⟩
  have z0 : 0 ≤ z := by omega
  have z1 : z < 4294967296 := by omega
  rw [← hz] at ha ⊢
  by_cases hm : n % 2 = 1
  · rw [if_pos hm]
    rw [hm] at ha
    have hb : (bits .and .u32 z 1 == 0) = false := by rw [ha]; rfl
    clear ha hm hz h
    go_enter Try.func21, Try.ntmps21
    go_wp2
    go_ret
    exact ⟨rfl, rfl⟩
  · rw [if_neg hm]
    rw [show n % 2 = 0 by omega] at ha
    have hb : (bits .and .u32 z 1 == 0) = true := by rw [ha]; rfl
    clear ha hm hz h
    go_enter Try.func21, Try.ntmps21
    go_wp2
    go_ret
    exact ⟨rfl, rfl⟩

theorem step_ok (n : Nat) (w : World) (h : n < 4294967296) :
    Calls Try.prog 26 #[.int .u32 n] w fun e w' => e = .returned (.int .u32 (st n : Nat)) ∧ w = w' := by
  rw [st_int n h]
  obtain ⟨z, hz⟩ : ∃ z : Int, z = (n : Int) := ⟨_, rfl⟩
  have z0 : 0 ≤ z := by omega
  have z1 : z < 4294967296 := by omega
  have hmz : n % 2 = 1 ↔ z % 2 = 1 := by omega
  rw [← hz]
  by_cases hm : n % 2 = 1
  · rw [if_pos hm]
    have hb : (z % 2 == 1) = true := by rw [beq_iff_eq]; exact hmz.1 hm
    clear hm hz h hmz
    go_enter Try.func26, Try.ntmps26
    go_wp2
    go_ret
    exact ⟨rfl, rfl⟩
  · rw [if_neg hm]
    have hb : (z % 2 == 1) = false := by rw [beq_eq_false_iff_ne]; exact fun h => hm (hmz.2 h)
    clear hm hz h hmz
    go_enter Try.func26, Try.ntmps26
    go_wp2
    go_ret
    exact ⟨rfl, rfl⟩

end Go.Proofs.Ytideanaecmoimaa
