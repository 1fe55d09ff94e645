/-
  Layer 3 (buf): parts of bytes, and the widths of numbers. By the verifier.
-/
import Derived.Test.YtajkneekehkhbaaMEqual
import Derived.Lib.Hide
import Derived.Outline
set_option linter.unusedVariables false
namespace Go.Proofs.Ytajkneekehkhbaa
open Go.RowKit

/-- A part exists. -/
def Ex (L : Nat) (x y : Int) : Prop := 0 ≤ x ∧ 0 ≤ y ∧ x + y ≤ (L : Int)

instance (L : Nat) (x y : Int) : Decidable (Ex L x y) := by unfold Ex; infer_instance

/-- A number of 64 bits with a sign. -/
def I64 (x : Int) : Prop := -9223372036854775808 ≤ x ∧ x ≤ 9223372036854775807

theorem part_no (A : Option Addr) (L c : Nat) (x y : Int) (hx : I64 x) (hy : I64 y) (hL : L ≤ maxLen) (h : ¬ Ex L x y) (w : World) :
    Calls Try.prog 36 #[.slice A L c, .int .i64 x, .int .i64 y] w fun e w' => e = .returned (.tuple #[.slice none 0 0, .bool false]) ∧ w = w' := by
  unfold Ex at h
  unfold I64 at hx hy
  unfold maxLen at hL
  obtain ⟨l, hl⟩ : ∃ l : Int, l = (L : Int) := ⟨_, rfl⟩
  by_cases h1 : x < 0
  · have q1 : decide (x < 0) = true := by simpa using h1
    go_enter Try.func36, Try.ntmps36
    go_wp2_with fail
    go_ret2
    exact ⟨rfl, rfl⟩
  · by_cases h2 : y < 0
    · go_enter Try.func36, Try.ntmps36
      go_wp2_with fail
      go_ret2
      exact ⟨rfl, rfl⟩
    · by_cases h3 : (L : Int) < x
      · go_enter Try.func36, Try.ntmps36
        go_wp2_with fail
        go_ret2
        exact ⟨rfl, rfl⟩
      · have h4 : (L : Int) - x < y := by omega
        clear h
        go_enter Try.func36, Try.ntmps36
        go_wp2_with fail
        go_ret2
        exact ⟨rfl, rfl⟩

theorem size_view : (sizeOf (Try.prog.elem 24)).run Try.prog = fun w => .ok 1 w := by
  funext w
  obtain ⟨i, h2, h3, h4, h5⟩ := info_parts info8
  have e : Try.prog.elem 24 = 5 := by kernel_rfl
  simp [e, sizeOf, typeInfo, h2, h4]

theorem run_part (A : Option Addr) (L c x n : Nat) (hc : x + n ≤ c) (W : World) : (Instr.slice 24 (.slice A L c) (some (.int .i64 (x : Int))) (some (.int .i64 ((x : Int) + (n : Int)))) none).run Try.prog W =
    .ok (.slice (if c = x then A else A.map (·.add x)) n (c - x)) W := by
  rw [run_slice_lh W 24 A L c Try.underlying24 .i64 .i64 x (x + n) (by omega) (by omega) (by omega), size_view]
  have e : ((x : Int) + (n : Int)).toNat = x + n := by omega
  simp [Result.andThen, sliced, e]


theorem part_yes (A : Option Addr) (L c x n : Nat) (hc : L ≤ c) (hL : L ≤ maxLen) (h : x + n ≤ L) (w : World) :
    Calls Try.prog 36 #[.slice A L c, .int .i64 (x : Int), .int .i64 (n : Int)] w fun e w' => e = .returned (.tuple #[.slice (if c = x then A else A.map (·.add x)) n (c - x), .bool true]) ∧ w = w' := by
  unfold maxLen at hL
  have HS := Lib.hid (run_part A L c x n (by omega))
  obtain ⟨R, hR⟩ : ∃ R, R = Value.slice (if c = x then A else A.map (·.add x)) n (c - x) := ⟨_, rfl⟩
  rw [← hR] at HS ⊢
  clear hR
  obtain ⟨xi, hxi⟩ : ∃ xi : Int, xi = (x : Int) := ⟨_, rfl⟩
  obtain ⟨ni, hni⟩ : ∃ ni : Int, ni = (n : Int) := ⟨_, rfl⟩
  have h5 : 0 ≤ xi + ni := by omega
  have h6 : xi + ni ≤ 9223372036854775807 := by omega
  have h7 : (L : Int) ≤ 9223372036854775807 := by omega
  have h8 : 0 ≤ xi := by omega
  have h9 : xi ≤ (L : Int) := by omega
  have h10 : ni ≤ (L : Int) - xi := by omega
  have h11 : 0 ≤ ni := by omega
  rw [← hxi, ← hni] at HS ⊢
  clear hxi hni
  have hs := HS.out
  go_enter Try.func36, Try.ntmps36
  go_wp2_with fail
  go_ret2
  exact ⟨rfl, rfl⟩


theorem len64_8 (w : World) : Calls Try.prog 51 #[.int .u64 255] w fun e w' => e = .returned (.int .i64 8) ∧ w = w' := by
  have h8 : Lib.len8 255 = 8 := by decide +kernel
  go_enter Try.func51, Try.ntmps51
  go_wp2_with fail
  go_ret
  exact ⟨rfl, rfl⟩

theorem width_8 (w : World) : Calls Try.prog 47 #[] w fun e w' => e = .returned (.int .i64 1) ∧ w = w' := by
  go_enter Try.func47, Try.ntmps47
  go_wp2_with fail
  refine (len64_8 _).mono ?_
  rintro e w' ⟨rfl, rfl⟩
  go_wp2_with fail
  go_ret
  exact ⟨rfl, rfl⟩

theorem len64_16 (w : World) : Calls Try.prog 51 #[.int .u64 65535] w fun e w' => e = .returned (.int .i64 16) ∧ w = w' := by
  have h8 : Lib.len8 255 = 8 := by decide +kernel
  go_enter Try.func51, Try.ntmps51
  go_wp2_with fail
  go_ret
  exact ⟨rfl, rfl⟩

theorem width_16 (w : World) : Calls Try.prog 48 #[] w fun e w' => e = .returned (.int .i64 2) ∧ w = w' := by
  go_enter Try.func48, Try.ntmps48
  go_wp2_with fail
  refine (len64_16 _).mono ?_
  rintro e w' ⟨rfl, rfl⟩
  go_wp2_with fail
  go_ret
  exact ⟨rfl, rfl⟩

theorem len64_32 (w : World) : Calls Try.prog 51 #[.int .u64 4294967295] w fun e w' => e = .returned (.int .i64 32) ∧ w = w' := by
  have h8 : Lib.len8 255 = 8 := by decide +kernel
  go_enter Try.func51, Try.ntmps51
  go_wp2_with fail
  go_ret
  exact ⟨rfl, rfl⟩

theorem width_32 (w : World) : Calls Try.prog 46 #[] w fun e w' => e = .returned (.int .i64 4) ∧ w = w' := by
  go_enter Try.func46, Try.ntmps46
  go_wp2_with fail
  refine (len64_32 _).mono ?_
  rintro e w' ⟨rfl, rfl⟩
  go_wp2_with fail
  go_ret
  exact ⟨rfl, rfl⟩

theorem len64_64 (w : World) : Calls Try.prog 51 #[.int .u64 18446744073709551615] w fun e w' => e = .returned (.int .i64 64) ∧ w = w' := by
  have h8 : Lib.len8 255 = 8 := by decide +kernel
  go_enter Try.func51, Try.ntmps51
  go_wp2_with fail
  go_ret
  exact ⟨rfl, rfl⟩

theorem width_64 (w : World) : Calls Try.prog 49 #[] w fun e w' => e = .returned (.int .i64 8) ∧ w = w' := by
  go_enter Try.func49, Try.ntmps49
  go_wp2_with fail
  refine (len64_64 _).mono ?_
  rintro e w' ⟨rfl, rfl⟩
  go_wp2_with fail
  go_ret
  exact ⟨rfl, rfl⟩

end Go.Proofs.Ytajkneekehkhbaa
