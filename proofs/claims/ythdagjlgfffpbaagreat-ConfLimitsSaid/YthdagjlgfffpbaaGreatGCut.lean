/-
  Layer 5 (conf): parts of slices of numbers. By the verifier.
-/
import Derived.Test.YthdagjlgfffpbaaGreatGLess
import Derived.Test.YthdagjlgfffpbaaGreatGIns
set_option linter.unusedVariables false
namespace Go.Proofs.YthdagjlgfffpbaaGreat
open Go.RowKit

def hiV (A : Option Addr) (m c : Nat) : Value := .slice A m c
def loV (A : Option Addr) (n c m : Nat) : Value := .slice (if c = m then A else A.map fun a => ⟨a.block, a.off + m, none⟩) (n - m) (c - m)

theorem take_cells {w : World} {A : Option Addr} {cs : List Value} (h : Cells w A cs) (m : Nat) : Cells w A (cs.take m) := by
  intro i hi
  rw [List.length_take] at hi
  obtain ⟨b, o, hA, hb, hc⟩ := h i (by omega)
  refine ⟨b, o, hA, hb, ?_⟩
  rw [hc]
  simp [List.getD, show i < m by omega]
theorem drop_cells {w : World} {A : Option Addr} {cs : List Value} (h : Cells w A cs) {c : Nat} (hc : cs.length ≤ c) (m : Nat) : Cells w (if c = m then A else A.map fun a => ⟨a.block, a.off + m, none⟩) (cs.drop m) := by
  intro i hi
  rw [List.length_drop] at hi
  obtain ⟨b, o, hA, hb, hcc⟩ := h (m + i) (by omega)
  rw [if_neg (by omega), hA]
  refine ⟨b, o + m, rfl, hb, ?_⟩
  rw [show o + m + i = o + (m + i) by omega, hcc]
  simp [List.getD]

theorem arg_hi {w : World} {A : Option Addr} {cs : List Value} {c : Nat} (h : Cells w A cs) (hA : A = none → c = 0) {m : Nat} (hm : m ≤ cs.length) : Arg w (hiV A m c) 1 m (cs.take m) :=
  ⟨A, c, rfl, take_cells h m, hA, by rw [List.length_take]; omega⟩
theorem arg_lo {w : World} {A : Option Addr} {cs : List Value} {c : Nat} (h : Cells w A cs) (hA : A = none → c = 0) (hc : cs.length ≤ c) {m : Nat} (hm : m ≤ cs.length) : Arg w (loV A cs.length c m) 1 (cs.length - m) (cs.drop m) := by
  refine ⟨_, c - m, rfl, drop_cells h hc m, fun h0 => ?_, by rw [List.length_drop]; omega⟩
  by_cases hcm : c = m
  · omega
  · rw [if_neg hcm] at h0
    cases A with
    | none => have := hA rfl; omega
    | some a => cases h0

theorem run_hi16 (A : Option Addr) (n c m : Nat) (hA : A = none → c = 0) (hs : ∀ a, A = some a → ∃ b o, a = ⟨b, o, none⟩) (hm : m ≤ n) (hn : n ≤ c) (W : World) : (Instr.slice 31 (.slice A n c) none (some (.int .i64 (m : Int))) none).run Tryz.prog W = .ok (hiV A m c) W := by
  have h0 : (0 : Int) ≤ (m : Int) := by omega
  have h1 : (m : Int) ≤ (n : Int) := by omega
  have h2 : (m : Int) ≤ (c : Int) := by omega
  have hu := Tryz.underlying31
  unfold hiV
  cases A with
  | none =>
    have := hA rfl
    obtain rfl : c = 0 := this
    obtain rfl : n = 0 := by omega
    obtain rfl : m = 0 := by omega
    go_simp
  | some a =>
    obtain ⟨b, o, rfl⟩ := hs a rfl
    go_simp
theorem run_lo16 (A : Option Addr) (n c m : Nat) (hA : A = none → c = 0) (hs : ∀ a, A = some a → ∃ b o, a = ⟨b, o, none⟩) (hm : m ≤ n) (hn : n ≤ c) (W : World) : (Instr.slice 31 (.slice A n c) (some (.int .i64 (m : Int))) none none).run Tryz.prog W = .ok (loV A n c m) W := by
  have h0 : (0 : Int) ≤ (m : Int) := by omega
  have h1 : (m : Int) ≤ (n : Int) := by omega
  have h2 : (m : Int) ≤ (c : Int) := by omega
  have hu := Tryz.underlying31
  unfold loV
  cases A with
  | none =>
    have := hA rfl
    obtain rfl : c = 0 := this
    obtain rfl : n = 0 := by omega
    obtain rfl : m = 0 := by omega
    go_simp
  | some a =>
    obtain ⟨b, o, rfl⟩ := hs a rfl
    go_simp

end Go.Proofs.YthdagjlgfffpbaaGreat
