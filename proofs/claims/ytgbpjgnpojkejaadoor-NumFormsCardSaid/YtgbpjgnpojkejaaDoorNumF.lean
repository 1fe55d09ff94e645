/-
  Layer 1 (num): Align and the reference's Align. By the verifier.
-/
import Derived.Test.YtgbpjgnpojkejaaDoorRefNumC
set_option linter.unusedVariables false
namespace Go.Proofs.YtgbpjgnpojkejaaDoor
open Go.RowKit

theorem add2_ok (A : Option Addr) (x y : Int) (w : World) (hx : U x) (hn : Nums w A [x, y]) :
    Calls Tryd.prog 10 #[.slice A 2 2] w fun e w' => FoldRes (plusO x y) e ∧ Below w.heap.size w w' := by
  have e : foldO plusO 0 [x, y] = plusO x y := by
    have h1 : plusO 0 x = some x := by unfold plusO; rw [Int.zero_add, if_pos hx.hi]
    simp only [foldO, h1]
    cases plusO x y <;> rfl
  rw [← e]
  exact add_ok A [x, y] 2 w hn

theorem mul2_ok (A : Option Addr) (x y : Int) (w : World) (hn : Nums w A [x, y]) :
    Calls Tryd.prog 12 #[.slice A 2 2] w fun e w' => FoldRes (mulO [x, y]) e ∧ Below w.heap.size w w' := mul_ok A [x, y] 2 w hn

theorem mulO_pair (x y : Int) (hx : U x) (hy : U y) : mulO [x, y] = timesO x y := by
  have x0 := hx.lo; have y0 := hy.lo
  by_cases h : 0 < x ∧ 0 < y
  · exact mulO_two x y hx h.1 h.2
  · have hz : x * y = 0 := by
      rcases Int.lt_or_le 0 x with hp | hp
      · have : y = 0 := by omega
        subst this; simp
      · have : x = 0 := by omega
        subst this; simp
    have hm : (0 : Int) ∈ [x, y] := by simp; omega
    unfold mulO timesO
    rw [if_pos hm, hz, if_pos (by omega)]

/-- num.Align -/
def alignO (x b : Int) : Option Int := if b = 0 then none else if x % b = 0 then some x else plusO x (b - x % b)

theorem align_ok (x b : Int) (w : World) (hx : U x) (hb : U b) :
    Calls Tryd.prog 18 #[.int .u64 x, .int .u64 b] w fun e w' => FoldRes (alignO x b) e ∧ Below w.heap.size w w' := by
  have x0 := hx.lo; have b0 := hb.lo; have b1 := hb.hi
  by_cases h : b = 0
  · have hr : alignO x b = none := if_pos h
    rw [hr]
    subst h
    clear hr
    go_enter Tryd.func18, Tryd.ntmps18
    go_wp2
    go_ret2
    exact ⟨rfl, Below.refl _ _⟩
  · have hr : alignO x b = if x % b = 0 then some x else plusO x (b - x % b) := if_neg h
    rw [hr]
    have hbz : (b == 0) = false := by rw [beq_eq_false_iff_ne]; exact h
    have m0 : 0 ≤ x % b := Int.emod_nonneg _ h
    have m1 : x % b < b := Int.emod_lt_of_pos _ (by omega)
    clear hr
    by_cases hm : x % b = 0
    · rw [if_pos hm]
      have hmz : (x % b == 0) = true := by rw [beq_iff_eq]; exact hm
      clear hm m0 m1
      go_enter Tryd.func18, Tryd.ntmps18
      go_wp2
      go_ret2
      exact ⟨rfl, Below.refl _ _⟩
    · rw [if_neg hm]
      have hmz : (x % b == 0) = false := by rw [beq_eq_false_iff_ne]; exact hm
      have hd : U (b - x % b) := ⟨by omega, by omega⟩
      have HA : Hid (∀ (W : World) A, Nums W A [x, b - x % b] → Calls Tryd.prog 10 #[.slice A 2 2] W fun e w' => FoldRes (plusO x (b - x % b)) e ∧ Below W.heap.size W w') := Lib.hid (fun W A hn => add2_ok A _ _ W hx hn)
      generalize plusO x (b - x % b) = r at *
      clear hm
      rcases r with _ | r
      · go_enter Tryd.func18, Tryd.ntmps18
        go_wp2_with ((with_reducible refine (HA.out _ _ (by exact nums_two _ _ _ _ hx hd)).mono ?_); rintro e w1 ⟨rfl, hb1⟩; unfold opt)
        go_ret2
        exact ⟨rfl, ((Below.refl _ _).alloc (Nat.le_refl _) _).trans (hb1.mono (by simp))⟩
      · go_enter Tryd.func18, Tryd.ntmps18
        go_wp2_with ((with_reducible refine (HA.out _ _ (by exact nums_two _ _ _ _ hx hd)).mono ?_); rintro e w1 ⟨rfl, hb1⟩; unfold opt)
        go_ret2
        exact ⟨rfl, ((Below.refl _ _).alloc (Nat.le_refl _) _).trans (hb1.mono (by simp))⟩

/-- The reference's Align: the number of parts, rounded up. -/
def parts (x b : Int) : Int := if 0 < x % b then x / b + 1 else x / b
def ralignO (x b : Int) : Option Int := if b = 0 then none else mulO [parts x b, b]

theorem quo_le (x b : Int) (hx : U x) (hb : 2 ≤ b) : x / b ≤ 9223372036854775807 := by
  have h1 : x / b * b ≤ x := Int.ediv_mul_le x (by omega)
  have h0 : 0 ≤ x / b := Int.ediv_nonneg hx.lo (by omega)
  have h2 : x / b * 2 ≤ x / b * b := Int.mul_le_mul_of_nonneg_left hb h0
  have := hx.hi
  omega

theorem ralign_ok (x b : Int) (w : World) (hx : U x) (hb : U b) :
    Calls Tryd.prog 19 #[.int .u64 x, .int .u64 b] w fun e w' => FoldRes (ralignO x b) e ∧ Below w.heap.size w w' := by
  have x0 := hx.lo; have b0 := hb.lo; have b1 := hb.hi; have x1 := hx.hi
  by_cases h : b = 0
  · have hr : ralignO x b = none := if_pos h
    rw [hr]
    subst h
    clear hr
    go_enter Tryd.func19, Tryd.ntmps19
    go_wp2
    go_ret2
    exact ⟨rfl, Below.refl _ _⟩
  · have hr : ralignO x b = mulO [parts x b, b] := if_neg h
    rw [hr]
    have hbz : (b == 0) = false := by rw [beq_eq_false_iff_ne]; exact h
    have q0 : 0 ≤ x / b := Int.ediv_nonneg x0 b0
    have q1 : x / b ≤ x := Int.ediv_le_self _ x0
    have hw : IntKind.u64.wrap (x / b) = x / b := IntWalk.u64_in _ (by omega)
    have hw2 : IntKind.u64.wrap (x.tdiv b) = x / b := IntWalk.u64_quo _ _ ⟨x0, by omega, by omega⟩
    have hq := quo_le x b hx
    clear hr
    by_cases hm : 0 < x % b
    · have hp : parts x b = x / b + 1 := if_pos hm
      rw [hp]
      have hb2 : 2 ≤ b := by
        have : b ≠ 1 := by rintro rfl; rw [Int.emod_one] at hm; omega
        omega
      have hq2 := hq hb2
      have hu : U (x / b + 1) := ⟨by omega, by omega⟩
      have htop : (x / b == 18446744073709551615) = false := by rw [beq_eq_false_iff_ne]; omega
      have HA : Hid (∀ (W : World) A, Nums W A [x / b + 1, b] → Calls Tryd.prog 13 #[.slice A 2 2] W fun e w' => FoldRes (mulO [x / b + 1, b]) e ∧ Below W.heap.size W w') := Lib.hid (fun W A hn => rmul2_ok A _ _ W hn)
      generalize mulO [x / b + 1, b] = r at *
      clear hp hq
      rcases r with _ | r
      · go_enter Tryd.func19, Tryd.ntmps19
        go_wp2_with fail
        refine (rtop_ok _).mono ?_
        rintro e w1 ⟨rfl, rfl⟩
        go_wp2_with ((with_reducible refine (HA.out _ _ (by exact nums_two _ _ _ _ hu hb)).mono ?_); rintro e w1 ⟨rfl, hb1⟩; unfold opt)
        go_ret2
        exact ⟨rfl, ((Below.refl _ _).alloc (Nat.le_refl _) _).trans (hb1.mono (by simp))⟩
      · go_enter Tryd.func19, Tryd.ntmps19
        go_wp2_with fail
        refine (rtop_ok _).mono ?_
        rintro e w1 ⟨rfl, rfl⟩
        go_wp2_with ((with_reducible refine (HA.out _ _ (by exact nums_two _ _ _ _ hu hb)).mono ?_); rintro e w1 ⟨rfl, hb1⟩; unfold opt)
        go_ret2
        exact ⟨rfl, ((Below.refl _ _).alloc (Nat.le_refl _) _).trans (hb1.mono (by simp))⟩
    · have hp : parts x b = x / b := if_neg hm
      rw [hp]
      have hu : U (x / b) := ⟨by omega, by omega⟩
      have HA : Hid (∀ (W : World) A, Nums W A [x / b, b] → Calls Tryd.prog 13 #[.slice A 2 2] W fun e w' => FoldRes (mulO [x / b, b]) e ∧ Below W.heap.size W w') := Lib.hid (fun W A hn => rmul2_ok A _ _ W hn)
      generalize mulO [x / b, b] = r at *
      clear hp hq
      rcases r with _ | r
      · go_enter Tryd.func19, Tryd.ntmps19
        go_wp2_with ((with_reducible refine (HA.out _ _ (by exact nums_two _ _ _ _ hu hb)).mono ?_); rintro e w1 ⟨rfl, hb1⟩; unfold opt)
        go_ret2
        exact ⟨rfl, ((Below.refl _ _).alloc (Nat.le_refl _) _).trans (hb1.mono (by simp))⟩
      · go_enter Tryd.func19, Tryd.ntmps19
        go_wp2_with ((with_reducible refine (HA.out _ _ (by exact nums_two _ _ _ _ hu hb)).mono ?_); rintro e w1 ⟨rfl, hb1⟩; unfold opt)
        go_ret2
        exact ⟨rfl, ((Below.refl _ _).alloc (Nat.le_refl _) _).trans (hb1.mono (by simp))⟩

end Go.Proofs.YtgbpjgnpojkejaaDoor
