/-
  Layer 6 (lex): letters, digits and spacing, of the reference and of the program. By the verifier.
-/
import Derived.Test.YtmgohahjocdeeaaDoorTMath
import Derived.Test.YtmgohahjocdeeaaDoorNStr
set_option linter.unusedVariables false
namespace Go.Proofs.YtmgohahjocdeeaaDoor
open Go.RowKit

theorem rletter_ok (x : Nat) (w : World) : Calls Tryd.prog 25 #[.int .u8 (x : Int)] w fun e w' => e = .returned (.bool (letterB x)) ∧ w = w' := by
  by_cases h1 : 97 ≤ x
  · by_cases h2 : x ≤ 122
    · have hr : letterB x = true := by simp [letterB, h1, h2]
      rw [hr]
      have h1 : (97 : Int) ≤ (x : Int) := by omega
      have h2 : (x : Int) ≤ 122 := by omega
      clear hr
      go_enter Tryd.func25, Tryd.ntmps25
      go_wp2_with fail
      go_ret
      exact ⟨rfl, rfl⟩
    · have hr : letterB x = false := by simp [letterB, h1, h2]
      rw [hr]
      have h1 : (97 : Int) ≤ (x : Int) := by omega
      have h2 : ¬ (x : Int) ≤ 122 := by omega
      clear hr
      go_enter Tryd.func25, Tryd.ntmps25
      go_wp2_with fail
      go_ret
      exact ⟨rfl, rfl⟩
  · have hr : letterB x = false := by simp [letterB, h1]
    rw [hr]
    have h1 : ¬ (97 : Int) ≤ (x : Int) := by omega
    clear hr
    go_enter Tryd.func25, Tryd.ntmps25
    go_wp2_with fail
    go_ret
    exact ⟨rfl, rfl⟩

theorem pletter_ok (x : Nat) (w : World) : Calls Tryd.prog 58 #[.int .u8 (x : Int)] w fun e w' => e = .returned (.bool (letterB x)) ∧ w = w' := by
  by_cases h1 : 97 ≤ x
  · by_cases h2 : x ≤ 122
    · have hr : letterB x = true := by simp [letterB, h1, h2]
      rw [hr]
      have h1 : (97 : Int) ≤ (x : Int) := by omega
      have h2 : (x : Int) ≤ 122 := by omega
      clear hr
      go_enter Tryd.func58, Tryd.ntmps58
      go_wp2_with fail
      go_ret
      exact ⟨rfl, rfl⟩
    · have hr : letterB x = false := by simp [letterB, h1, h2]
      rw [hr]
      have h1 : (97 : Int) ≤ (x : Int) := by omega
      have h2 : ¬ (x : Int) ≤ 122 := by omega
      clear hr
      go_enter Tryd.func58, Tryd.ntmps58
      go_wp2_with fail
      go_ret
      exact ⟨rfl, rfl⟩
  · have hr : letterB x = false := by simp [letterB, h1]
    rw [hr]
    have h1 : ¬ (97 : Int) ≤ (x : Int) := by omega
    clear hr
    go_enter Tryd.func58, Tryd.ntmps58
    go_wp2_with fail
    go_ret
    exact ⟨rfl, rfl⟩

theorem rdigit_ok (x : Nat) (w : World) : Calls Tryd.prog 27 #[.int .u8 (x : Int)] w fun e w' => e = .returned (.bool (digitB x)) ∧ w = w' := by
  by_cases h1 : 48 ≤ x
  · by_cases h2 : x ≤ 57
    · have hr : digitB x = true := by simp [digitB, h1, h2]
      rw [hr]
      have h1 : (48 : Int) ≤ (x : Int) := by omega
      have h2 : (x : Int) ≤ 57 := by omega
      clear hr
      go_enter Tryd.func27, Tryd.ntmps27
      go_wp2_with fail
      go_ret
      exact ⟨rfl, rfl⟩
    · have hr : digitB x = false := by simp [digitB, h1, h2]
      rw [hr]
      have h1 : (48 : Int) ≤ (x : Int) := by omega
      have h2 : ¬ (x : Int) ≤ 57 := by omega
      clear hr
      go_enter Tryd.func27, Tryd.ntmps27
      go_wp2_with fail
      go_ret
      exact ⟨rfl, rfl⟩
  · have hr : digitB x = false := by simp [digitB, h1]
    rw [hr]
    have h1 : ¬ (48 : Int) ≤ (x : Int) := by omega
    clear hr
    go_enter Tryd.func27, Tryd.ntmps27
    go_wp2_with fail
    go_ret
    exact ⟨rfl, rfl⟩

theorem pdigit_ok (x : Nat) (w : World) : Calls Tryd.prog 60 #[.int .u8 (x : Int)] w fun e w' => e = .returned (.bool (digitB x)) ∧ w = w' := by
  by_cases h1 : 48 ≤ x
  · by_cases h2 : x ≤ 57
    · have hr : digitB x = true := by simp [digitB, h1, h2]
      rw [hr]
      have h1 : (48 : Int) ≤ (x : Int) := by omega
      have h2 : (x : Int) ≤ 57 := by omega
      clear hr
      go_enter Tryd.func60, Tryd.ntmps60
      go_wp2_with fail
      go_ret
      exact ⟨rfl, rfl⟩
    · have hr : digitB x = false := by simp [digitB, h1, h2]
      rw [hr]
      have h1 : (48 : Int) ≤ (x : Int) := by omega
      have h2 : ¬ (x : Int) ≤ 57 := by omega
      clear hr
      go_enter Tryd.func60, Tryd.ntmps60
      go_wp2_with fail
      go_ret
      exact ⟨rfl, rfl⟩
  · have hr : digitB x = false := by simp [digitB, h1]
    rw [hr]
    have h1 : ¬ (48 : Int) ≤ (x : Int) := by omega
    clear hr
    go_enter Tryd.func60, Tryd.ntmps60
    go_wp2_with fail
    go_ret
    exact ⟨rfl, rfl⟩

theorem palnum_ok (x : Nat) (w : World) : Calls Tryd.prog 74 #[.int .u8 (x : Int)] w fun e w' => e = .returned (.bool (alnumB x)) ∧ w = w' := by
  have HD := Lib.hid (pdigit_ok x)
  have HL := Lib.hid (pletter_ok x)
  unfold alnumB
  generalize digitB x = d at *
  generalize letterB x = t at *
  cases d <;> cases t
  all_goals
    go_enter Tryd.func74, Tryd.ntmps74
    go_wp2_with (first | (go_at_call 60; refine (HD.out _).mono ?_; rintro e w1 ⟨rfl, rfl⟩) | (go_at_call 58; refine (HL.out _).mono ?_; rintro e w1 ⟨rfl, rfl⟩))
    go_ret
    exact ⟨rfl, rfl⟩

theorem pblank_ok (x : Nat) (w : World) : Calls Tryd.prog 56 #[.int .u8 (x : Int)] w fun e w' => e = .returned (.bool (blankB x)) ∧ w = w' := by
  by_cases h32 : x = 32
  · subst h32
    go_enter Tryd.func56, Tryd.ntmps56
    go_wp2_with fail
    go_ret
    exact ⟨rfl, rfl⟩
  · have e32 : ((x : Int) == 32) = false := by rw [beq_eq_false_iff_ne]; omega
    by_cases h9 : x = 9
    · subst h9
      go_enter Tryd.func56, Tryd.ntmps56
      go_wp2_with fail
      go_ret
      exact ⟨rfl, rfl⟩
    · have e9 : ((x : Int) == 9) = false := by rw [beq_eq_false_iff_ne]; omega
      by_cases h13 : x = 13
      · subst h13
        go_enter Tryd.func56, Tryd.ntmps56
        go_wp2_with fail
        go_ret
        exact ⟨rfl, rfl⟩
      · have e13 : ((x : Int) == 13) = false := by rw [beq_eq_false_iff_ne]; omega
        by_cases h10 : x = 10
        · subst h10
          go_enter Tryd.func56, Tryd.ntmps56
          go_wp2_with fail
          go_ret
          exact ⟨rfl, rfl⟩
        · have e10 : ((x : Int) == 10) = false := by rw [beq_eq_false_iff_ne]; omega
          have hr : blankB x = false := by simp [blankB, h32, h9, h13, h10]
          rw [hr]
          clear hr h32 h9 h13 h10
          go_enter Tryd.func56, Tryd.ntmps56
          go_wp2_with fail
          go_ret
          exact ⟨rfl, rfl⟩

end Go.Proofs.YtmgohahjocdeeaaDoor
