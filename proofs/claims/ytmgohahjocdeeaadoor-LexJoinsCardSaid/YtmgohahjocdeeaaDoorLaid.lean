/-
  From the rows' condition on the package-level variables to what the walks ask of them; a world that meets it. By the verifier.
-/
import Derived.Test.YtmgohahjocdeeaaDoorRows
import Derived.Test.YtmgohahjocdeeaaDoorEnv
import Derived.ProofKit
import Derived.LaidMore
import Derived.Stop.LaidErr
import Derived.Stop.Joined
import Derived.Lib.LaidTab
import Derived.Lib.TrailingZeros
set_option linter.unusedVariables false
namespace Go.Proofs.YtmgohahjocdeeaaDoor
open Go.RowKit Go.ChangeShapes Go.WideShapes

theorem own : ownKnob Tryd.prog.godebug = none := by kernel_rfl

/-- What the rows of layer 1 list. -/
abbrev laid1 : List (String × DataW Unit) := Rows.lexTokensRow.laid

theorem door_met (os : Os) (args : Array Value) : laidMetH Tryd.prog laid1 ((World.doorLaid Tryd.prog 62 os).forCall (fun _ _ => 0) ⟨#[], args, []⟩).memory :=
  laidMetH_of_parts3 (fuel := 8) (laidMet_of_run' 8 (by kernel_rfl) (by kernel_rfl)) (by kernel_rfl) (by kernel_rfl)

theorem gRng : Tryd.prog.globalNamed "strconv.ErrRange" = some 2 := by kernel_rfl
theorem gSyn : Tryd.prog.globalNamed "strconv.ErrSyntax" = some 1 := by kernel_rfl
theorem gPow : Tryd.prog.globalNamed "internal/strconv.uint64pow10" = some 3 := by kernel_rfl
theorem gTz : Tryd.prog.globalNamed "math/bits.deBruijn64tab" = some 5 := by kernel_rfl
theorem tRng : (Tryd.prog.globals[2]?).map (·.type) = some 82 := by kernel_rfl
theorem tSyn : (Tryd.prog.globals[1]?).map (·.type) = some 82 := by kernel_rfl
theorem tPow : (Tryd.prog.globals[3]?).map (·.type) = some 137 := by kernel_rfl
theorem tTz : (Tryd.prog.globals[5]?).map (·.type) = some 147 := by kernel_rfl
theorem star : "*" ++ "errors.errorString" = "*errors.errorString" := by decide
theorem rowErr (u : TypeId) (h : Tryd.prog.typeName? 3 u = some "*errors.errorString") : u = 141 :=
  typeName_ptr_named (nm := "errors.errorString") (by rw [star]; kernel_rfl) (by kernel_rfl) (by decide) u (by rw [star]; exact h)

theorem env_of_laid {W : World} (h : laidMetH Tryd.prog laid1 W) : Env W := by
  rw [MakeChecks.laidMetH_plain _ _ _ (by kernel_rfl)] at h
  have h1 := h.tail
  have h2 := h1.tail
  have h3 := h2.tail
  have h4 := h3.tail
  have hTz : Lib.TabIs Tryd.prog W "math/bits.deBruijn64tab" .u8 (Lib.deBruijn64tab.map (fun n : Nat => (n : Int))) :=
    Lib.tabIs_of_head gTz tTz Tryd.underlying147 Tryd.underlying5 (by kernel_rfl) (by kernel_rfl) h1
  have hPow : Lib.TabIs Tryd.prog W "internal/strconv.uint64pow10" .u64 Lib.pow10Tab :=
    Lib.tabIs_of_head gPow tPow Tryd.underlying137 Tryd.underlying37 (by kernel_rfl) (by kernel_rfl) h2
  obtain ⟨a0, s0, hv0, _⟩ := laid_sentinel h3 gRng tRng Tryd.underlying82 rowErr Tryd.underlying141 Tryd.underlying143 rfl rfl Tryd.underlying9 (by kernel_rfl) (by kernel_rfl)
  obtain ⟨a1, s1, hv1, _⟩ := laid_sentinel h4 gSyn tSyn Tryd.underlying82 rowErr Tryd.underlying141 Tryd.underlying143 rfl rfl Tryd.underlying9 (by kernel_rfl) (by kernel_rfl)
  refine ⟨⟨141, .pointer (some a1), ?_⟩, ⟨141, .pointer (some a0), ?_⟩, hPow, ?_⟩
  · simpa using World.var?_cell gSyn hv1 0
  · simpa using World.var?_cell gRng hv0 0
  · exact hTz.cell gTz 15 (by decide)

end Go.Proofs.YtmgohahjocdeeaaDoor
