/-
  Layer 2 (crc): a register's block, as it is built. By the verifier.
-/
import Derived.Test.YtideanaecmoimaaCT
set_option linter.unusedVariables false
namespace Go.Proofs.Ytideanaecmoimaa
open Go.RowKit

/-- A register's cells: the table, then the value. -/
def regF (v : Nat) (i : Nat) : Value := if i < 256 then V32 (E i) else V32 v

set_option maxRecDepth 100000 in
theorem built_reg (v : Nat) : Try.prog.built 54 [(0, .agg tabArr), (1, V32 v)] = some (rowOf 257 (regF v)) := by kernel_rfl

set_option maxRecDepth 100000 in
theorem built_open : Try.prog.built 54 [(0, .agg tabArr), (1, .int .u32 4294967295)] = some (rowOf 257 (regF 4294967295)) := by kernel_rfl

end Go.Proofs.Ytideanaecmoimaa
