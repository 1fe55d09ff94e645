/-
  The reference of layer 1: Top, Add, Mul, gcd, Divides. By the verifier.
-/
import Derived.Test.YtgbpjgnpojkejaaDoorNumE
set_option linter.unusedVariables false
namespace Go.Proofs.YtgbpjgnpojkejaaDoor
open Go.RowKit

theorem rtop_ok (w : World) : Calls Tryd.prog 28 #[] w fun e w' => e = .returned (.int .u64 18446744073709551615) ∧ w = w' := by
  go_enter Tryd.func28, Tryd.ntmps28
  go_wp2
  go_ret
  exact ⟨rfl, rfl⟩

theorem rtop_quiet (w : World) (n : Nat) : Calls Tryd.prog 28 #[] (w.drewN n) fun e w'' => e = .returned (.int .u64 18446744073709551615) ∧ ∃ m, w'' = w.drewN m :=
  (rtop_ok _).mono fun _ _ ⟨he, hw⟩ => ⟨he, n, hw.symm⟩

theorem radd_ok (A : Option Addr) (zs : List Int) (c : Nat) (w : World) (hn : Nums w A zs) :
    Calls Tryd.prog 11 #[.slice A zs.length c] w fun e w' => FoldRes (foldO plusO 0 zs) e ∧ Below w.heap.size w w' := by
  have HN := Lib.hid hn
  have hlen := hn.2.2
  unfold maxLen at hlen
  clear hn
  go_enter Tryd.func11, Tryd.ntmps11
  go_wp2
  go_loopw [4, 5] (fun s i wr => ∃ (k : Nat) (a : Int), k ≤ zs.length ∧ i = .int .i64 k ∧ s = .int .u64 a ∧ U a ∧ Hid (foldO plusO 0 (zs.take k) = some a) ∧ Below w.heap.size w wr) (fun _ i _ => zs.length - (intOf i).toNat)
  case atStart => exact ⟨0, 0, by omega, rfl, rfl, ⟨by omega, by omega⟩, Lib.hid rfl, Below.refl _ _⟩
  case round =>
    obtain ⟨k, a, hk, rfl, rfl, hu, hf, hbw⟩ := hrel
    by_cases hlt : k < zs.length
    · obtain ⟨b, o, rfl, hb, hc⟩ := (HN.out.below (Nat.le_refl _) hbw).1 k hlt
      replace hc : wr.cell? ⟨b, o + k, none⟩ = some (.int .u64 (zs.getD k 0)) := hc
      have hz := HN.out.u k hlt
      have hcl : (k : Int) < zs.length := by omega
      have Hst := foldO_snoc plusO 0 a zs k hlt hf.out
      generalize zs.getD k 0 = z at *
      have HST := Lib.hid Hst
      clear Hst
      have a0 := hu.lo; have a1 := hu.hi; have z0 := hz.lo; have z1 := hz.hi
      by_cases hov : a + z < 18446744073709551616
      · have hd : decide (18446744073709551615 - a < z) = false := by simp; omega
        go_wp2_with fail
        go_quiet ((go_at_call 28; exact rtop_quiet _ _))
        go_wp2_with fail
        go_roundw
        case rel => exact ⟨k + 1, a + z, by omega, by go_num, rfl, ⟨by omega, hov⟩, Lib.hid (by rw [HST.out]; exact if_pos hov), below_drewN hbw _⟩
        case measure => simp [intOf]; omega
      · have hd : decide (18446744073709551615 - a < z) = true := by simp; omega
        go_wp2_with fail
        go_quiet ((go_at_call 28; exact rtop_quiet _ _))
        go_wp2_with fail
        go_ret2
        exact ⟨congrArg (fun o => Ending.returned (opt o)) (foldO_none _ _ _ _ (by rw [HST.out]; exact if_neg (by omega))).symm, below_drewN hbw _⟩
    · have hkk : k = zs.length := by omega
      have hcl : ¬ ((k : Int) < zs.length) := by omega
      have hf' := hf.out
      rw [hkk, List.take_length] at hf'
      have HF := Lib.hid hf'
      clear hf' hkk
      go_wp2
      go_ret2
      exact ⟨congrArg (fun o => Ending.returned (opt o)) HF.out.symm, hbw⟩

set_option maxRecDepth 100000 in
/-- the reference's gcd, at numbers of which the first is greater than 0 (it is called at no others) -/
theorem rgcd_ok (a b : Nat) (w : World) (ha : (a : Int) < 18446744073709551616) (hb : (b : Int) < 18446744073709551616) :
    Calls Tryd.prog 32 #[.int .u64 a, .int .u64 b] w fun e w' => e = .returned (.int .u64 (Nat.gcd a b : Nat)) ∧ w = w' := by
  have HG : Hid (∃ g, Nat.gcd a b = g) := Lib.hid ⟨_, rfl⟩
  obtain ⟨g, hg⟩ := HG.out
  rw [hg]
  have Hg := Lib.hid hg
  clear hg HG
  go_enter Tryd.func32, Tryd.ntmps32
  go_wp2
  go_loop [0, 1] (fun s t => ∃ x y : Int, s = .int .u64 x ∧ t = .int .u64 y ∧ Hid (Nat.gcd x.toNat y.toNat = g) ∧ U x ∧ U y) (fun _ t => (intOf t).toNat)
  case atStart => exact ⟨a, b, rfl, rfl, Lib.hid (by rw [Int.toNat_natCast, Int.toNat_natCast]; exact Hg.out), ⟨by omega, ha⟩, ⟨by omega, hb⟩⟩
  case round =>
    obtain ⟨x, y, rfl, rfl, hxy, hx, hy⟩ := hrel
    have x0 := hx.lo; have y0 := hy.lo; have y1 := hy.hi
    by_cases h0 : y = 0
    · subst h0
      go_wp2
      go_ret
      exact ⟨by have := hxy.out; rw [show (0 : Int).toNat = 0 from rfl, Nat.gcd_zero_right] at this; rw [← this, Int.toNat_of_nonneg x0]; rfl, rfl⟩
    · have hpos : 0 < y := by omega
      have hne : (y == 0) = false := by rw [beq_eq_false_iff_ne]; omega
      have m0 : 0 ≤ x % y := Int.emod_nonneg _ h0
      have m1 : x % y < y := Int.emod_lt_of_pos _ hpos
      have HE : Hid (Nat.gcd y.toNat (x % y).toNat = g) := Lib.hid (by
        have := gcd_step x.toNat y.toNat g hxy.out
        rwa [Int.toNat_emod x0 y0])
      go_wp2
      go_round
      case rel => first | exact ⟨y, x % y, rfl, rfl, HE, hy, ⟨m0, by omega⟩⟩ | ((repeat apply Exists.intro); exact ⟨⟨y, x % y, rfl, rfl, HE, hy, ⟨m0, by omega⟩⟩, rfl⟩)
      case measure => simp [intOf]; omega

theorem rdivides_ok (a b : Int) (w : World) (ha : U a) (hb : U b) :
    Calls Tryd.prog 17 #[.int .u64 a, .int .u64 b] w fun e w' => e = .returned (.bool (dividesB a b)) ∧ w = w' := by
  have a0 := ha.lo; have b0 := hb.lo
  unfold dividesB
  by_cases h : 0 < a
  · have hne : (a == 0) = false := by rw [beq_eq_false_iff_ne]; omega
    go_enter Tryd.func17, Tryd.ntmps17
    go_wp2
    go_ret
    exact ⟨by simp [h], rfl⟩
  · have hd : decide (0 < a) = false := by simp; omega
    go_enter Tryd.func17, Tryd.ntmps17
    go_wp2
    go_ret
    exact ⟨by simp, rfl⟩

end Go.Proofs.YtgbpjgnpojkejaaDoor
