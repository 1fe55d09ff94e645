/-
  Layer 1 (num): Add, Mul, Lcm, Divides, Align. By the verifier.
-/
import Derived.Test.YtgbpjgnpojkejaaDoorNumC
set_option linter.unusedVariables false
namespace Go.Proofs.YtgbpjgnpojkejaaDoor
open Go.RowKit

theorem plus_step : Step 27 plusO (fun _ => True) where
  enters := enters_of Tryd.func27 (by kernel_rfl) rfl
  step := fun a b w ha _ hb => (plus_ok a b w ha hb).mono fun _ _ ⟨h, hw⟩ => ⟨h, by subst hw; exact Below.refl _ _⟩
  keeps := fun _ _ _ _ _ _ _ => trivial

theorem times_step : Step 30 timesO (fun _ => True) where
  enters := enters_of Tryd.func30 (by kernel_rfl) rfl
  step := fun a b w ha _ hb => (times_ok a b w ha hb).mono fun _ _ ⟨h, hw⟩ => ⟨h, by subst hw; exact Below.refl _ _⟩
  keeps := fun _ _ _ _ _ _ _ => trivial

theorem multiple_pos (a b c : Int) (ha : U a) (hp : 0 < a) (hb : U b) (h : multipleO a b = some c) : 0 < c := by
  unfold multipleO at h
  split at h
  · cases h
  · rename_i hb0
    unfold timesO at h
    split at h
    · injection h with h
      subst h
      obtain ⟨x, rfl⟩ := Int.eq_ofNat_of_zero_le ha.lo
      obtain ⟨y, rfl⟩ := Int.eq_ofNat_of_zero_le hb.lo
      rw [Int.toNat_natCast, Int.toNat_natCast]
      have hg : 0 < Nat.gcd x y := Nat.gcd_pos_of_pos_left _ (by omega)
      have hd : Nat.gcd x y ≤ x := Nat.le_of_dvd (by omega) (Nat.gcd_dvd_left _ _)
      have hq : 0 < x / Nat.gcd x y := Nat.div_pos hd hg
      have hq' : (0 : Int) < (x : Int) / (Nat.gcd x y : Nat) := by rw [← Int.natCast_ediv]; omega
      exact Int.mul_pos hq' (by omega)
    · cases h

theorem multiple_step : Step 31 multipleO (fun a => 0 < a) where
  enters := enters_of Tryd.func31 (by kernel_rfl) rfl
  step := fun a b w ha hp hb => multiple_ok a b w ha hb hp
  keeps := fun a b c ha hp hb h => multiple_pos a b c ha hp hb h

/-- num.Add -/
theorem add_ok (A : Option Addr) (zs : List Int) (c : Nat) (w : World) (hn : Nums w A zs) :
    Calls Tryd.prog 10 #[.slice A zs.length c] w fun e w' => FoldRes (foldO plusO 0 zs) e ∧ Below w.heap.size w w' := by
  have hf := fold_ok _ _ _ plus_step 0 ⟨by omega, by omega⟩ trivial A zs c w hn
  generalize foldO plusO 0 zs = r at hf ⊢
  have HF := Lib.hid hf
  clear hf hn
  go_enter Tryd.func10, Tryd.ntmps10
  rcases r with _ | r
  · go_wp2_with ((with_reducible refine HF.out.mono ?_); rintro e w1 ⟨rfl, hb1⟩; unfold opt)
    go_ret2
    exact ⟨rfl, hb1⟩
  · go_wp2_with ((with_reducible refine HF.out.mono ?_); rintro e w1 ⟨rfl, hb1⟩; unfold opt)
    go_ret2
    exact ⟨rfl, hb1⟩

/-- num.Lcm -/
theorem lcm_ok (A : Option Addr) (zs : List Int) (c : Nat) (w : World) (hn : Nums w A zs) :
    Calls Tryd.prog 14 #[.slice A zs.length c] w fun e w' => FoldRes (foldO multipleO 1 zs) e ∧ Below w.heap.size w w' := by
  have hf := fold_ok _ _ _ multiple_step 1 ⟨by omega, by omega⟩ (by omega) A zs c w hn
  generalize foldO multipleO 1 zs = r at hf ⊢
  have HF := Lib.hid hf
  clear hf hn
  go_enter Tryd.func14, Tryd.ntmps14
  rcases r with _ | r
  · go_wp2_with ((with_reducible refine HF.out.mono ?_); rintro e w1 ⟨rfl, hb1⟩; unfold opt)
    go_ret2
    exact ⟨rfl, hb1⟩
  · go_wp2_with ((with_reducible refine HF.out.mono ?_); rintro e w1 ⟨rfl, hb1⟩; unfold opt)
    go_ret2
    exact ⟨rfl, hb1⟩

/-- num.Divides -/
def dividesB (a b : Int) : Bool := decide (0 < a) && (b % a == 0)

theorem divides_ok (a b : Int) (w : World) (ha : U a) (hb : U b) :
    Calls Tryd.prog 16 #[.int .u64 a, .int .u64 b] w fun e w' => e = .returned (.bool (dividesB a b)) ∧ w = w' := by
  have a0 := ha.lo; have b0 := hb.lo
  unfold dividesB
  by_cases h : 0 < a
  · have hne : (a == 0) = false := by rw [beq_eq_false_iff_ne]; omega
    go_enter Tryd.func16, Tryd.ntmps16
    go_wp2
    go_ret
    exact ⟨by simp [h], rfl⟩
  · have hd : decide (0 < a) = false := by simp; omega
    go_enter Tryd.func16, Tryd.ntmps16
    go_wp2
    go_ret
    exact ⟨by simp, rfl⟩

end Go.Proofs.YtgbpjgnpojkejaaDoor
