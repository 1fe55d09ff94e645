/-
  What all texts of this seat share: numbers of 64 bits, results with a bool, slices that read as lists. By the verifier.
-/
import Derived.Test.YtmgohahjocdeeaaDoorChecked
import Derived.Test.YtmgohahjocdeeaaDoorMMem
import Derived.WalkKit
import Derived.ProofKit
import Derived.OpenShut
import Derived.Lib.Hide
import Derived.Deep.QuietTactic
import Derived.BigQuiet
import Derived.Laws.Externs
set_option linter.unusedVariables false
namespace Go.Proofs.YtmgohahjocdeeaaDoor
open Go.RowKit

/-- A number of 64 bits. -/
def U (x : Int) : Prop := 0 ≤ x ∧ x < 18446744073709551616

theorem U.lo {x : Int} (h : U x) : 0 ≤ x := h.1
theorem U.hi {x : Int} (h : U x) : x < 18446744073709551616 := h.2

/-- A result (number, bool). -/
def opt : Option Int → Value
  | some n => .tuple #[.int .u64 n, .bool true]
  | none => .tuple #[.int .u64 0, .bool false]

/-- The ending of a call that returns (number, bool). -/
def FoldRes (o : Option Int) (e : Ending) : Prop := e = .returned (opt o)



/-- The numbers of 64 bits that a slice holds. -/
def Nums (w : World) (A : Option Addr) (zs : List Int) : Prop :=
  Seg w A zs.length (fun i => .int .u64 (zs.getD i 0)) ∧ (∀ z ∈ zs, U z) ∧ zs.length ≤ maxLen

theorem Nums.below {w w' : World} {A : Option Addr} {zs : List Int} (h : Nums w A zs) {B : Nat} (hB : w.heap.size ≤ B) (hb : Below B w w') : Nums w' A zs :=
  ⟨h.1.below hB hb, h.2⟩

theorem Nums.u {w : World} {A : Option Addr} {zs : List Int} (h : Nums w A zs) (k : Nat) (hk : k < zs.length) : U (zs.getD k 0) := by
  have : zs.getD k 0 = zs[k] := by simp [List.getD, hk]
  rw [this]
  exact h.2.1 _ (List.getElem_mem hk)



end Go.Proofs.YtmgohahjocdeeaaDoor
