/-
  Layer 4: the reference's Valid. By the verifier.
-/
import Derived.Test.YthdagjlgfffpbaaGreatNStr
import Derived.Test.YthdagjlgfffpbaaGreatNMath
set_option linter.unusedVariables false
namespace Go.Proofs.YthdagjlgfffpbaaGreat
open Go.RowKit

theorem nameB_long {l : List Nat} (h : 30 < l.length) : nameB l = false := by
  cases hn : nameB l with
  | false => rfl
  | true => have := ((nameB_iff l).1 hn).2.1; omega
theorem nameB_bad {l : List Nat} {k : Nat} (hk : k < l.length) (h : nameByte (l.getD k 0) = false) : nameB l = false := by
  cases hn : nameB l with
  | false => rfl
  | true => have := ((nameB_iff l).1 hn).2.2 k hk; rw [h] at this; cases this


end Go.Proofs.YthdagjlgfffpbaaGreat
