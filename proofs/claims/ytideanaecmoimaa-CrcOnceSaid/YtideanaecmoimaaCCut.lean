/-
  A cut of bytes. By the verifier.
-/
import Derived.Test.YtideanaecmoimaaCForge
set_option linter.unusedVariables false
namespace Go.Proofs.Ytideanaecmoimaa
open Go.RowKit

theorem run_cut (b o n c m : Nat) (hm : m ≤ n) (W : World) : (Instr.slice 24 (.slice (some ⟨b, o, none⟩) n c) (some (.int .i64 (m : Int))) none none).run Try.prog W =
    .ok (.slice (if c = m then some ⟨b, o, none⟩ else some ⟨b, o + m, none⟩) (n - m) (c - m)) W := by
  have h0 : (0 : Int) ≤ (m : Int) := by omega
  have h1 : (m : Int) ≤ (n : Int) := by omega
  have hu := Try.underlying24
  go_simp
end Go.Proofs.Ytideanaecmoimaa
