/-
  From the rows' condition on the package-level variables to what the walks ask of them; a world that meets it. By the verifier.
-/
import Derived.Test.YtgbpjgnpojkejaaDoorRows
import Derived.Test.YtgbpjgnpojkejaaDoorEnv
import Derived.ProofKit
import Derived.LaidMore
import Derived.Stop.LaidErr
import Derived.Stop.Joined
import Derived.Lib.LaidTab
import Derived.Lib.TrailingZeros
set_option linter.unusedVariables false
namespace Go.Proofs.YtgbpjgnpojkejaaDoor
open Go.RowKit Go.ChangeShapes Go.WideShapes

theorem own : ownKnob Tryd.prog.godebug = none := by kernel_rfl

/-- What the rows of layer 1 list. -/
abbrev laid1 : List (String × DataW Unit) := Rows.numAddsRow.laid

theorem door_met (os : Os) (args : Array Value) : laidMetH Tryd.prog laid1 ((World.doorLaid Tryd.prog 62 os).forCall (fun _ _ => 0) ⟨#[], args, []⟩).memory :=
  laidMetH_of_parts3 (fuel := 8) (laidMet_of_run' 8 (by kernel_rfl) (by kernel_rfl)) (by kernel_rfl) (by kernel_rfl)

theorem gRng : Tryd.prog.globalNamed "strconv.ErrRange" = some 2 := by kernel_rfl
theorem gSyn : Tryd.prog.globalNamed "strconv.ErrSyntax" = some 1 := by kernel_rfl
theorem gPow : Tryd.prog.globalNamed "internal/strconv.uint64pow10" = some 0 := by kernel_rfl
theorem gTz : Tryd.prog.globalNamed "math/bits.deBruijn64tab" = some 4 := by kernel_rfl
theorem tRng : (Tryd.prog.globals[2]?).map (·.type) = some 55 := by kernel_rfl
theorem tSyn : (Tryd.prog.globals[1]?).map (·.type) = some 55 := by kernel_rfl
theorem tPow : (Tryd.prog.globals[0]?).map (·.type) = some 70 := by kernel_rfl
theorem tTz : (Tryd.prog.globals[4]?).map (·.type) = some 87 := by kernel_rfl
theorem star : "*" ++ "errors.errorString" = "*errors.errorString" := by decide
theorem rowErr (u : TypeId) (h : Tryd.prog.typeName? 3 u = some "*errors.errorString") : u = 89 :=
  typeName_ptr_named (nm := "errors.errorString") (by rw [star]; kernel_rfl) (by kernel_rfl) (by decide) u (by rw [star]; exact h)

theorem env_of_laid {W : World} (h : laidMetH Tryd.prog laid1 W) : Env W := by
  rw [MakeChecks.laidMetH_plain _ _ _ (by kernel_rfl)] at h
  have h1 := h.tail
  have h2 := h1.tail
  have h3 := h2.tail
  have h4 := h3.tail
  have hTz : Lib.TabIs Tryd.prog W "math/bits.deBruijn64tab" .u8 (Lib.deBruijn64tab.map (fun n : Nat => (n : Int))) :=
    Lib.tabIs_of_head gTz tTz Tryd.underlying87 Tryd.underlying5 (by kernel_rfl) (by kernel_rfl) h1
  have hPow : Lib.TabIs Tryd.prog W "internal/strconv.uint64pow10" .u64 Lib.pow10Tab :=
    Lib.tabIs_of_head gPow tPow Tryd.underlying70 Tryd.underlying24 (by kernel_rfl) (by kernel_rfl) h2
  obtain ⟨a0, s0, hv0, _⟩ := laid_sentinel h3 gRng tRng Tryd.underlying55 rowErr Tryd.underlying89 Tryd.underlying91 rfl rfl Tryd.underlying9 (by kernel_rfl) (by kernel_rfl)
  obtain ⟨a1, s1, hv1, _⟩ := laid_sentinel h4 gSyn tSyn Tryd.underlying55 rowErr Tryd.underlying89 Tryd.underlying91 rfl rfl Tryd.underlying9 (by kernel_rfl) (by kernel_rfl)
  refine ⟨⟨89, .pointer (some a1), ?_⟩, ⟨89, .pointer (some a0), ?_⟩, hPow, ?_⟩
  · simpa using World.var?_cell gSyn hv1 0
  · simpa using World.var?_cell gRng hv0 0
  · exact hTz.cell gTz 15 (by decide)

end Go.Proofs.YtgbpjgnpojkejaaDoor
