/-
  Layer 2 (crc): bytesOf, product, skip, Join. By the verifier.
-/
import Derived.Test.YtideanaecmoimaaCReg
import Derived.Deep.LoopGhost
set_option linter.unusedVariables false
namespace Go.Proofs.Ytideanaecmoimaa
open Go.RowKit

/-- The four bytes of a number as an array. -/
def leArr (s : Nat) : Array Value := #[V8 (s % 256), V8 (s / 256 % 256), V8 (s / 65536 % 256), V8 (s / 16777216 % 256)]

theorem bytesOf_ok (n : Nat) (w : World) :
    Calls Try.prog 28 #[.int .u32 (n : Int)] w fun e w' => e = .returned (.agg (leArr n)) ∧ Below w.heap.size w w' := by
  obtain ⟨z, hz⟩ : ∃ z : Int, z = (n : Int) := ⟨_, rfl⟩
  have HZ := Lib.hid hz
  rw [← hz]
  have z0 : 0 ≤ z := by omega
  clear hz
  go_enter Try.func28, Try.ntmps28
  go_wp2_with fail
  have e : leArr n = #[.int .u8 (z % 256), .int .u8 (z / 256 % 256), .int .u8 (z / 65536 % 256), .int .u8 (z / 16777216 % 256)] := by
    rw [HZ.out]
    unfold leArr V8
    simp only [Int.natCast_emod, Int.natCast_ediv]
    rfl
  rw [e]
  refine bodyPost_ret (v := .agg _) ?_ rfl ⟨rfl, (Below.refl _ _).alloc (Nat.le_refl _) _⟩
  simp [results, Try.results28, go_sem]

theorem and_top (a : Nat) (h : a < 4294967296) : a &&& 2147483648 = if 2147483648 ≤ a then 2147483648 else 0 := by
  have h1 : (a &&& 2147483648) >>> 31 = a >>> 31 &&& 2147483648 >>> 31 := Nat.shiftRight_and_distrib
  have h2 : (a &&& 2147483648) % 2 ^ 31 = (a % 2 ^ 31) &&& (2147483648 % 2 ^ 31) := Nat.and_mod_two_pow
  rw [show (2147483648 : Nat) % 2 ^ 31 = 0 from rfl, Nat.and_zero] at h2
  rw [show (2147483648 : Nat) >>> 31 = 1 from rfl, Nat.and_one_is_mod] at h1
  simp only [Nat.shiftRight_eq_div_pow] at h1
  split <;> omega

theorem and_top_int (a : Nat) (h : a < 4294967296) : bits .and .u32 (a : Int) 2147483648 = if 2147483648 ≤ a then 2147483648 else 0 := by
  rw [show (2147483648 : Int) = ((2147483648 : Nat) : Int) from rfl, u32_and_nat _ _ h (by omega), and_top a h]
  split <;> rfl

theorem pow_step (x n : Nat) (hn : 1 ≤ n) (hn2 : n ≤ 32) (h : x % 2 ^ (32 - n) = 0) : 2 * x % 4294967296 % 2 ^ (32 - (n - 1)) = 0 := by
  have e : 2 ^ (32 - (n - 1)) = 2 ^ (32 - n) * 2 := by rw [← Nat.pow_succ]; congr 1; omega
  have e2 : (4294967296 : Nat) = 2 ^ (32 - (n - 1)) * 2 ^ (n - 1) := by rw [← Nat.pow_add, show 32 - (n - 1) + (n - 1) = 32 by omega]
  rw [e2, Nat.mod_mul_right_mod, e]
  obtain ⟨q, hq⟩ := Nat.dvd_of_mod_eq_zero h
  rw [hq]
  generalize 2 ^ (32 - n) = p
  rw [show 2 * (p * q) = p * 2 * q by rw [Nat.mul_comm p 2, Nat.mul_assoc]]
  exact Nat.mul_mod_right _ _

theorem pr_step (n x y r g : Nat) (hn : 1 ≤ n) (h : r ^^^ pr n x y = g) : (r ^^^ (if 2147483648 ≤ x then y else 0)) ^^^ pr (n - 1) (2 * x % 4294967296) (st y) = g := by
  obtain ⟨m, rfl⟩ := Nat.exists_eq_add_of_le' hn
  rw [Nat.add_sub_cancel]
  rw [← h, Nat.xor_assoc]
  rfl

set_option maxHeartbeats 1000000 in
theorem product_ok (a b : Nat) (ha : a < 4294967296) (hb : b < 4294967296) (w : World) :
    Calls Try.prog 31 #[.int .u32 (a : Int), .int .u32 (b : Int)] w fun e w' => e = .returned (.int .u32 (prod a b : Nat)) ∧ w = w' := by
  have HG : Hid (∃ g, prod a b = g) := Lib.hid ⟨_, rfl⟩
  obtain ⟨g, hg⟩ := HG.out
  rw [hg]
  have Hg := Lib.hid hg
  clear hg HG
  go_enter Try.func31, Try.ntmps31
  go_wp2_with fail
  go_loopg [0, 1, 5] 32 (fun n x y r wr => ∃ A B R : Nat, x = V32 A ∧ y = V32 B ∧ r = V32 R ∧ w = wr ∧ Hid (n ≤ 32 ∧ A < 4294967296 ∧ B < 4294967296 ∧ R < 4294967296 ∧ A % 2 ^ (32 - n) = 0 ∧ R ^^^ pr n A B = g)) 
  case atStart => exact ⟨a, b, 0, rfl, rfl, rfl, rfl, Lib.hid ⟨by omega, ha, hb, by omega, by simp; omega, by rw [Nat.zero_xor]; exact Hg.out⟩⟩
  case round =>
    obtain ⟨x, y, r, rfl, rfl, rfl, rfl, hh⟩ := hrel
    by_cases h0 : x = 0
    · have hz : ((x : Int) != 0) = false := by rw [h0]; rfl
      have hr : r = g := by have := hh.out.2.2.2.2.2; rw [h0, pr_zero, Nat.xor_zero] at this; exact this
      rw [hr]
      unfold V32
      clear hr h0
      go_wp2_with fail
      go_ret
      exact ⟨rfl, rfl⟩
    · have hz : ((x : Int) != 0) = true := by rw [bne_iff_ne]; omega
      have hx := hh.out.2.1
      have hy := hh.out.2.2.1
      have hrl := hh.out.2.2.2.1
      have hn : 1 ≤ gk := by
        have h5 := hh.out.2.2.2.2.1
        have h1 := hh.out.1
        by_cases hg0 : gk = 0
        · rw [hg0, Nat.sub_zero, Nat.mod_eq_of_lt (by omega)] at h5; omega
        · omega
      have hat := and_top_int x hx
      have hst := pr_step gk x y r g hn hh.out.2.2.2.2.2
      have hpow := pow_step x gk hn hh.out.1 hh.out.2.2.2.2.1
      have HS := Lib.hid (shift_ok y · hy)
      by_cases hbig : 2147483648 ≤ x
      · rw [if_pos hbig] at hat hst
        have hb : (bits .and .u32 (x : Int) 2147483648 != 0) = true := by rw [hat]; rfl
        have hxr := xor32 r y hrl hy
        have hrl2 := xor_lt32 hrl hy
        unfold V32
        clear h0 hat hbig
        go_wp2_with fail
        refine (HS.out _).mono ?_
        rintro e w1 ⟨rfl, rfl⟩
        go_wp2_with fail
        go_roundg (gk - 1)
        case measure => omega
        case rel => exact ⟨2 * x % 4294967296, st y, r ^^^ y, by unfold V32; rw [Int.natCast_emod, Int.natCast_mul, Int.mul_comm]; rfl, rfl, rfl, rfl, Lib.hid ⟨by have := hh.out.1; omega, Nat.mod_lt _ (by omega), st_lt hy, hrl2, hpow, hst⟩⟩
      · rw [if_neg hbig] at hat hst
        have hb : (bits .and .u32 (x : Int) 2147483648 != 0) = false := by rw [hat]; rfl
        rw [Nat.xor_zero] at hst
        unfold V32
        clear h0 hat hbig
        go_wp2_with fail
        refine (HS.out _).mono ?_
        rintro e w1 ⟨rfl, rfl⟩
        go_wp2_with fail
        go_roundg (gk - 1)
        case measure => omega
        case rel => exact ⟨2 * x % 4294967296, st y, r, by unfold V32; rw [Int.natCast_emod, Int.natCast_mul, Int.mul_comm]; rfl, rfl, rfl, rfl, Lib.hid ⟨by have := hh.out.1; omega, Nat.mod_lt _ (by omega), st_lt hy, hrl, hpow, hst⟩⟩

/-- The loop of skip: the number of zero bytes is halved. -/
theorem skip_step (m n a : Nat) (ha : a < 4294967296) : stk (m * n) a = stk (2 * m * (n / 2)) (if n % 2 = 1 then stk m a else a) := by
  have hd : n = 2 * (n / 2) + n % 2 := by omega
  by_cases h : n % 2 = 1
  · rw [if_pos h, ← stk_add]
    congr 1
    generalize n / 2 = q at *
    rw [hd, h, Nat.mul_add, Nat.mul_one, ← Nat.mul_assoc, Nat.mul_comm m 2]
  · rw [if_neg h]
    congr 1
    have h0 : n % 2 = 0 := by omega
    generalize n / 2 = q at *
    rw [hd, h0, Nat.add_zero, ← Nat.mul_assoc, Nat.mul_comm m 2]

set_option maxHeartbeats 1000000 in
theorem skip_ok (a n : Nat) (ha : a < 4294967296) (hn : n ≤ 9223372036854775807) (w : World) :
    Calls Try.prog 27 #[.int .u32 (a : Int), .int .i64 (n : Int)] w fun e w' => e = .returned (.int .u32 (stk (8 * n) a : Nat)) ∧ w = w' := by
  have HG : Hid (∃ g, stk (8 * n) a = g) := Lib.hid ⟨_, rfl⟩
  obtain ⟨g, hg⟩ := HG.out
  rw [hg]
  have Hg := Lib.hid hg
  clear hg HG
  go_enter Try.func27, Try.ntmps27
  go_wp2_with fail
  go_loop [0, 1, 5] (fun x i f => ∃ (X N : Nat) (F : Nat), x = V32 X ∧ i = .int .i64 (N : Int) ∧ f = V32 F ∧ N ≤ 9223372036854775807 ∧ Hid (X < 4294967296 ∧ F < 4294967296 ∧ ∃ m, F = stk m 2147483648 ∧ stk (m * N) X = g)) (fun _ i _ => (intOf i).toNat)
  case atStart => exact ⟨a, n, 8388608, rfl, rfl, rfl, hn, Lib.hid ⟨ha, by omega, 8, rfl, Hg.out⟩⟩
  case round =>
    obtain ⟨X, N, F, rfl, rfl, rfl, hN, hh⟩ := hrel
    by_cases h0 : N = 0
    · have hd : ¬ (0 : Int) < (N : Int) := by omega
      have hr : X = g := by
        obtain ⟨-, -, m, -, hm⟩ := hh.out
        rw [h0, Nat.mul_zero] at hm
        exact hm
      rw [hr]
      unfold V32
      clear hr h0
      go_wp2_with fail
      go_ret
      exact ⟨rfl, rfl⟩
    · have hd : (0 : Int) < (N : Int) := by omega
      obtain ⟨m, hF, hm⟩ := hh.out.2.2
      have hX := hh.out.1
      have hFl := hh.out.2.1
      have hPF := Lib.hid (product_ok F F hFl hFl)
      have hPX := Lib.hid (product_ok X F hX hFl)
      have hFF : prod F F = stk (2 * m) 2147483648 := by
        rw [show prod F F = prod F (stk m 2147483648) by rw [← hF], prod_one F m hFl, hF, ← stk_add]
        congr 1
        omega
      have hXF : prod X F = stk m X := by rw [hF, prod_one X m hX]
      have hFFl : prod F F < 4294967296 := by rw [hFF]; exact stk_lt _ (by omega)
      have hXFl : prod X F < 4294967296 := by rw [hXF]; exact stk_lt _ hX
      have hst := skip_step m N X hX
      rw [hm] at hst
      have HQ : Hid (((N / 2 : Nat) : Int) = (N : Int) / 2) := Lib.hid (by omega)
      have HFF := Lib.hid hFF
      have HXF := Lib.hid hXF
      have HFF2 := Lib.hid hFFl
      have HXF2 := Lib.hid hXFl
      have HX := Lib.hid hX
      obtain ⟨i, hi⟩ : ∃ i : Int, i = (N : Int) := ⟨_, rfl⟩
      have HI := Lib.hid hi
      have i0 : 0 < i := by omega
      have i1 : i ≤ 9223372036854775807 := by omega
      rw [← hi] at hd ⊢
      generalize prod F F = G at *
      generalize prod X F = Y at *
      unfold V32
      by_cases hodd : N % 2 = 1
      · have hb : (i % 2 == 1) = true := by rw [beq_iff_eq]; omega
        rw [if_pos hodd] at hst
        have HST := Lib.hid hst
        clear hFF hXF hFFl hXFl hst hi hm hF h0 hX hodd
        go_wp2_with fail
        refine (hPX.out _).mono ?_
        rintro e w1 ⟨rfl, rfl⟩
        go_wp2_with fail
        refine (hPF.out _).mono ?_
        rintro e w1 ⟨rfl, rfl⟩
        go_wp2_with fail
        go_round
        case rel => exact ⟨Y, N / 2, G, rfl, by rw [HQ.out, HI.out], rfl, by omega, Lib.hid ⟨HXF2.out, HFF2.out, 2 * m, HFF.out, by rw [HXF.out]; exact HST.out.symm⟩⟩
        case measure => simp [intOf]; omega
      · have hb : (i % 2 == 1) = false := by rw [beq_eq_false_iff_ne]; omega
        rw [if_neg hodd] at hst
        have HST := Lib.hid hst
        clear hFF hXF hFFl hXFl hst hi hm hF h0 hX hodd
        go_wp2_with fail
        refine (hPF.out _).mono ?_
        rintro e w1 ⟨rfl, rfl⟩
        go_wp2_with fail
        go_round
        case rel => exact ⟨X, N / 2, G, rfl, by rw [HQ.out, HI.out], rfl, by omega, Lib.hid ⟨HX.out, HFF2.out, 2 * m, HFF.out, HST.out.symm⟩⟩
        case measure => simp [intOf]; omega

theorem join_ok (a b n : Nat) (ha : a < 4294967296) (hb : b < 4294967296) (hn : n ≤ 9223372036854775807) (w : World) :
    Calls Try.prog 14 #[.int .u32 (a : Int), .int .u32 (b : Int), .int .i64 (n : Int)] w fun e w' => e = .returned (.int .u32 ((stk (8 * n) a ^^^ b : Nat) : Int)) ∧ w = w' := by
  have HS := Lib.hid (skip_ok a n ha hn)
  have hx := xor32 (stk (8 * n) a) b (stk_lt _ ha) hb
  generalize stk (8 * n) a = s at *
  have hd : ¬ (n : Int) < 0 := by omega
  go_enter Try.func14, Try.ntmps14
  go_wp2_with fail
  refine (HS.out _).mono ?_
  rintro e w1 ⟨rfl, rfl⟩
  go_wp2_with fail
  go_ret
  exact ⟨rfl, rfl⟩

theorem join_neg (a b n : Int) (hn : n < 0) (w : World) :
    Calls Try.prog 14 #[.int .u32 a, .int .u32 b, .int .i64 n] w fun e w' => e = .returned (.int .u32 0) ∧ w = w' := by
  go_enter Try.func14, Try.ntmps14
  go_wp2_with fail
  go_ret
  exact ⟨rfl, rfl⟩

end Go.Proofs.Ytideanaecmoimaa
