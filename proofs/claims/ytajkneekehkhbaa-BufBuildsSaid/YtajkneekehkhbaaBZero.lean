/-
  Layer 3 (buf): Zeros and Align, of the program and of the reference. By the verifier.
-/
import Derived.Test.YtajkneekehkhbaaBNil
set_option linter.unusedVariables false
namespace Go.Proofs.Ytajkneekehkhbaa
open Go.RowKit

/-- May so many zero bytes be appended? -/
def zOK (L : Nat) (n : Int) : Prop := 0 ≤ n ∧ n ≤ 16777216 - (L : Int)

/-- A method of a builder that answers whether it has appended. -/
def BoolRes (w : World) (B : Nat) (g : Option Nat) (l' : List Nat) (b : Bool) (e : Ending) (w' : World) : Prop := e = .returned (.bool b) ∧ ∃ g', Moved w w' B g g' l'

theorem zeros_no (B : Nat) (g : Option Nat) (l : List Nat) (n : Int) (w : World) (hb : Bld w B g l) (hlen : l.length ≤ 1000000) (hn : I64 n) (h : ¬ zOK l.length n) :
    Calls Try.prog 29 #[.pointer (some ⟨B, 0, none⟩), .int .i64 n] w fun e w' => e = .returned (.bool false) ∧ w = w' := by
  obtain ⟨A, c, -, -, hcell, -⟩ := hb.cell (by unfold maxLen; omega)
  unfold zOK at h
  unfold I64 at hn
  clear hb
  generalize l.length = L at *
  by_cases h1 : n < 0
  · go_enter Try.func29, Try.ntmps29
    go_wp2_with fail
    go_ret
    exact ⟨rfl, rfl⟩
  · have h2 : 16777216 - (L : Int) < n := by omega
    go_enter Try.func29, Try.ntmps29
    go_wp2_with fail
    go_ret
    exact ⟨rfl, rfl⟩

set_option maxHeartbeats 1000000 in
theorem zeros_yes (B : Nat) (g : Option Nat) (l : List Nat) (n : Nat) (w : World) (hb : Bld w B g l) (hlen : l.length ≤ 900000) (hn : n ≤ 1000) :
    Calls Try.prog 29 #[.pointer (some ⟨B, 0, none⟩), .int .i64 (n : Int)] w fun e w' => BoolRes w B g (l ++ List.replicate n 0) true e w' := by
  obtain ⟨A, c, -, -, hcell, -⟩ := hb.cell (by unfold maxLen; omega)
  have HB := Lib.hid hb
  have HL := Lib.hid (And.intro hlen hn)
  obtain ⟨L, hL⟩ : ∃ L : Nat, L = l.length := ⟨_, rfl⟩
  rw [← hL] at hcell
  have hLn : (n : Int) ≤ 16777216 - (L : Int) := by omega
  have hL1 : (L : Int) ≤ 900000 := by omega
  have hn1 : (n : Int) ≤ 1000 := by omega
  have HA : Hid (∀ w', BRow w' w.heap.size (List.replicate n 0) → Below w.heap.size w w' → Calls Try.prog 28 #[.pointer (some ⟨B, 0, none⟩), .slice (some ⟨w.heap.size, 0, none⟩) n n] w' fun e w2 => AddRes w B g (l ++ List.replicate n 0) e w2) := by
    refine Lib.hid fun w' hr hw => ?_
    have hy := hr.bys (zeros_bs n) (by rw [List.length_replicate]; unfold maxLen; omega)
    have := add_ok B g l (some ⟨w.heap.size, 0, none⟩) (List.replicate n 0) n w' (hb.below hw) hy (by rw [List.length_replicate]; omega)
    rw [List.length_replicate] at this
    exact this.mono fun e w2 h => AddRes.pre hw h
  clear hb hlen hn hL
  go_enter Try.func29, Try.ntmps29
  go_wp2_with ((with_reducible refine wpList_make8 _ rfl _ _ rfl _ _ n rfl rfl rfl rfl (by omega) ?_); intro w1 hr1 hb1 hz1; have HR1 := Lib.hid (And.intro hr1 hb1); clear hr1 hz1 hb1)
  refine (HA.out w1 HR1.out.1 HR1.out.2).mono ?_
  rintro e w2 ⟨rfl, hm⟩
  have HM := Lib.hid hm
  clear hm
  go_wp2_with fail
  go_ret
  exact ⟨rfl, HM.out⟩

/-- How many zero bytes an alignment asks. -/
def padN (L : Nat) (n : Nat) : Nat := if L % n = 0 then 0 else n - L % n

theorem align_small (B : Nat) (g : Option Nat) (l : List Nat) (n : Int) (w : World) (hn : n < 1) :
    Calls Try.prog 30 #[.pointer (some ⟨B, 0, none⟩), .int .i64 n] w fun e w' => e = .returned (.bool false) ∧ w = w' := by
  go_enter Try.func30, Try.ntmps30
  go_wp2_with fail
  go_ret
  exact ⟨rfl, rfl⟩

set_option maxHeartbeats 1000000 in
theorem align_ok (B : Nat) (g : Option Nat) (l : List Nat) (n : Nat) (w : World) (hb : Bld w B g l) (hlen : l.length ≤ 900000) (h1 : 1 ≤ n) (hn : I64 (n : Int)) (l' : List Nat) (b : Bool)
    (HZ : Calls Try.prog 29 #[.pointer (some ⟨B, 0, none⟩), .int .i64 ((padN l.length n : Nat) : Int)] w fun e w' => BoolRes w B g l' b e w') :
    Calls Try.prog 30 #[.pointer (some ⟨B, 0, none⟩), .int .i64 (n : Int)] w fun e w' => BoolRes w B g l' b e w' := by
  obtain ⟨A, c, -, -, hcell, -⟩ := hb.cell (by unfold maxLen; omega)
  unfold I64 at hn
  have HL := Lib.hid hlen
  obtain ⟨r, hr⟩ : ∃ r : Int, r = ((l.length % n : Nat) : Int) := ⟨_, rfl⟩
  obtain ⟨N, hN⟩ : ∃ N : Int, N = (n : Int) := ⟨_, rfl⟩
  have hmod : (l.length : Int) % N = r := by rw [hr, hN, Int.natCast_emod]
  have hlt := Nat.mod_lt l.length (show 0 < n by omega)
  clear hb
  generalize l.length = L at *
  have hN1 : 1 ≤ N := by omega
  have hN2 : N ≤ 9223372036854775807 := by omega
  have hL1 : (L : Int) ≤ 900000 := by omega
  have hr0 : 0 ≤ r := by omega
  have hr1 : r < N := by omega
  have hN0 : ¬ N = 0 := by omega
  have hNn : ¬ N < 1 := by omega
  unfold padN at HZ
  by_cases h0 : L % n = 0
  · rw [if_pos h0] at HZ
    have HZ0 : Hid (Calls Try.prog 29 #[.pointer (some ⟨B, 0, none⟩), .int .i64 0] w fun e w' => BoolRes w B g l' b e w') := Lib.hid HZ
    have hr2 : r = 0 := by rw [hr, h0]; rfl
    subst hr2
    rw [← hN]
    clear hlen h1 hn HZ hr hlt h0 hN
    go_enter Try.func30, Try.ntmps30
    go_wp2_with fail
    refine HZ0.out.mono ?_
    rintro e w2 ⟨rfl, hm⟩
    have HM := Lib.hid hm
    clear hm
    go_wp2_with fail
    go_ret
    exact ⟨rfl, HM.out⟩
  · rw [if_neg h0] at HZ
    have e1 : ((n - L % n : Nat) : Int) = N - r := by omega
    rw [e1] at HZ
    have HZ0 := Lib.hid HZ
    have hr2 : (r == 0) = false := by simp; omega
    rw [← hN]
    clear hlen h1 hn HZ hr hlt h0 hN e1
    go_enter Try.func30, Try.ntmps30
    go_wp2_with fail
    refine HZ0.out.mono ?_
    rintro e w2 ⟨rfl, hm⟩
    have HM := Lib.hid hm
    clear hm
    go_wp2_with fail
    go_ret
    exact ⟨rfl, HM.out⟩

end Go.Proofs.Ytajkneekehkhbaa
