/-
  No cell of these rows narrows 'for every input' (looked for: loops, veiled, ifaces, maps, wideKeys, modest, calm, conditions, laid).
  DERIVED. THE GIVEN ROWS OF THIS SEAT. 6 by the template 'for every input the law returns true; each argument reads behind the call as it read before'; 0 by the template 'total and deterministic' (their statements: YtpabccmnhaelnaaTotals.lean).
  GIVEN WITH THE SEED: the statements are not yours to turn. If you find one false, say at which input.
  Laid BY PROGRAM, IN A SANDBOX (cutbox-rows.mjs): the forced cells as the released guide's own fill.sh prints them over the translation 2691624f8d783466… (all of the seat's roots in one cut). By AI agents, Wed Nov 11 2026. No macro, syntax, notation, axiom, sorry.
-/
import Derived.Test.YtpabccmnhaelnaaChecked
import GoSem.Claim
import GoSem.ClaimJoined
import GoSem.ClaimMapViews
import Derived.JoinedTies
import Derived.KernelRfl
namespace Go.Proofs.Ytpabccmnhaelnaa
/- THE CELL 'sum', in the pinned program and in every row, IS THE sha256 OF THE DUMP (.gsa) THAT YtpabccmnhaelnaaProg.lean LOADS. Nothing in Lean hashes anything: it is a label: what it is worth is what the hold of that sum in a sandbox is worth. -/
noncomputable def Try.pinned : Pinned := { name := "ytpabccmnhaelnaa", sum := "2691624f8d7834665add79120e460bf566d337b8fb66c3b479e243d394bf7eef", checked := Try.checked }
namespace Rows
def none {H : Type} : Left H := { results := [], args := [] }

/-- 'fenestralaw04.NameQuotes': WHATEVER THE INPUT: true; the input reads as it did. -/
def nameQuotesSpec : ChangeSpec := { name := "nameQuotes", fn := fun _ => fun
  | [d] => { results := [.lit (.bool true)], args := [d] }
  | _ => none }
def nameQuotesRow : OpenClaim := { program := "ytpabccmnhaelnaa", sum := "2691624f8d7834665add79120e460bf566d337b8fb66c3b479e243d394bf7eef", func := "fenestra/fenestralaw04.NameQuotes", spec := "nameQuotes", unfollowed := true, recurses := true, apart := false }
def NameQuotesSaid : Prop := nameQuotesRow.holds Try.pinned (OpenSpec.ofChange nameQuotesSpec)

/-- ITS FALSE NEIGHBOUR: 'it returns false'. Refute it at one input. -/
def nameQuotesWrong : ChangeSpec := { name := "nameQuotes", fn := fun _ => fun
  | [d] => { results := [.lit (.bool false)], args := [d] }
  | _ => none }
def NameQuotesWrongFalsely : Prop := nameQuotesRow.holds Try.pinned (OpenSpec.ofChange nameQuotesWrong)

/-- 'fenestralaw04.NameScans': WHATEVER THE INPUT: true; the input reads as it did. -/
def nameScansSpec : ChangeSpec := { name := "nameScans", fn := fun _ => fun
  | [d1, d2] => { results := [.lit (.bool true)], args := [d1, d2] }
  | _ => none }
def nameScansRow : OpenClaim := { program := "ytpabccmnhaelnaa", sum := "2691624f8d7834665add79120e460bf566d337b8fb66c3b479e243d394bf7eef", func := "fenestra/fenestralaw04.NameScans", spec := "nameScans", unfollowed := true, recurses := true, apart := false }
def NameScansSaid : Prop := nameScansRow.holds Try.pinned (OpenSpec.ofChange nameScansSpec)

/-- ITS FALSE NEIGHBOUR: 'it returns false'. Refute it at one input. -/
def nameScansWrong : ChangeSpec := { name := "nameScans", fn := fun _ => fun
  | [d1, d2] => { results := [.lit (.bool false)], args := [d1, d2] }
  | _ => none }
def NameScansWrongFalsely : Prop := nameScansRow.holds Try.pinned (OpenSpec.ofChange nameScansWrong)

/-- 'fenestralaw04.NameInverse': WHATEVER THE INPUT: true; the input reads as it did. -/
def nameInverseSpec : ChangeSpec := { name := "nameInverse", fn := fun _ => fun
  | [d1, d2, d3] => { results := [.lit (.bool true)], args := [d1, d2, d3] }
  | _ => none }
def nameInverseRow : OpenClaim := { program := "ytpabccmnhaelnaa", sum := "2691624f8d7834665add79120e460bf566d337b8fb66c3b479e243d394bf7eef", func := "fenestra/fenestralaw04.NameInverse", spec := "nameInverse", unfollowed := true, recurses := true, apart := false }
def NameInverseSaid : Prop := nameInverseRow.holds Try.pinned (OpenSpec.ofChange nameInverseSpec)

/-- ITS FALSE NEIGHBOUR: 'it returns false'. Refute it at one input. -/
def nameInverseWrong : ChangeSpec := { name := "nameInverse", fn := fun _ => fun
  | [d1, d2, d3] => { results := [.lit (.bool false)], args := [d1, d2, d3] }
  | _ => none }
def NameInverseWrongFalsely : Prop := nameInverseRow.holds Try.pinned (OpenSpec.ofChange nameInverseWrong)

/-- 'fenestralaw04.NamePads': WHATEVER THE INPUT: true; the input reads as it did. -/
def namePadsSpec : ChangeSpec := { name := "namePads", fn := fun _ => fun
  | [d] => { results := [.lit (.bool true)], args := [d] }
  | _ => none }
def namePadsRow : OpenClaim := { program := "ytpabccmnhaelnaa", sum := "2691624f8d7834665add79120e460bf566d337b8fb66c3b479e243d394bf7eef", func := "fenestra/fenestralaw04.NamePads", spec := "namePads", unfollowed := true, recurses := true, apart := false }
def NamePadsSaid : Prop := namePadsRow.holds Try.pinned (OpenSpec.ofChange namePadsSpec)

/-- ITS FALSE NEIGHBOUR: 'it returns false'. Refute it at one input. -/
def namePadsWrong : ChangeSpec := { name := "namePads", fn := fun _ => fun
  | [d] => { results := [.lit (.bool false)], args := [d] }
  | _ => none }
def NamePadsWrongFalsely : Prop := namePadsRow.holds Try.pinned (OpenSpec.ofChange namePadsWrong)

/-- 'fenestralaw04.NameUnpads': WHATEVER THE INPUT: true; the input reads as it did. -/
def nameUnpadsSpec : ChangeSpec := { name := "nameUnpads", fn := fun _ => fun
  | [d1, d2] => { results := [.lit (.bool true)], args := [d1, d2] }
  | _ => none }
def nameUnpadsRow : OpenClaim := { program := "ytpabccmnhaelnaa", sum := "2691624f8d7834665add79120e460bf566d337b8fb66c3b479e243d394bf7eef", func := "fenestra/fenestralaw04.NameUnpads", spec := "nameUnpads", unfollowed := true, recurses := true, apart := false }
def NameUnpadsSaid : Prop := nameUnpadsRow.holds Try.pinned (OpenSpec.ofChange nameUnpadsSpec)

/-- ITS FALSE NEIGHBOUR: 'it returns false'. Refute it at one input. -/
def nameUnpadsWrong : ChangeSpec := { name := "nameUnpads", fn := fun _ => fun
  | [d1, d2] => { results := [.lit (.bool false)], args := [d1, d2] }
  | _ => none }
def NameUnpadsWrongFalsely : Prop := nameUnpadsRow.holds Try.pinned (OpenSpec.ofChange nameUnpadsWrong)

/-- 'fenestralaw04.NameSorts': WHATEVER THE INPUT: true; the input reads as it did. -/
def nameSortsSpec : ChangeSpec := { name := "nameSorts", fn := fun _ => fun
  | [d] => { results := [.lit (.bool true)], args := [d] }
  | _ => none }
def nameSortsRow : OpenClaim := { program := "ytpabccmnhaelnaa", sum := "2691624f8d7834665add79120e460bf566d337b8fb66c3b479e243d394bf7eef", func := "fenestra/fenestralaw04.NameSorts", spec := "nameSorts", unfollowed := true, recurses := true, apart := false }
def NameSortsSaid : Prop := nameSortsRow.holds Try.pinned (OpenSpec.ofChange nameSortsSpec)

/-- ITS FALSE NEIGHBOUR: 'it returns false'. Refute it at one input. -/
def nameSortsWrong : ChangeSpec := { name := "nameSorts", fn := fun _ => fun
  | [d] => { results := [.lit (.bool false)], args := [d] }
  | _ => none }
def NameSortsWrongFalsely : Prop := nameSortsRow.holds Try.pinned (OpenSpec.ofChange nameSortsWrong)

/- THE SECOND FORM. 'bulk': how many values and letters a reading holds, each counted each time it is reached (what is shared counts as often as it is met; a slice's spare places count too). A statement '..UptoSaid' is the law's where the arguments, and the package variables that the reading takes, are together of bulk at most 1048576: NARROWER than '..Said'. Prove '..Said' where nothing that the law and all that it calls make is longer than what came in: it says more and counts as full. Else prove '..UptoSaid'. A law counts once. -/
mutual
def uptoBulk {H : Type} : DataW H → Nat
  | .lit (.string bytes) => bytes.length + 1
  | .lit _ => 1
  | .nil => 1
  | .ptr d => uptoBulk d + 1
  | .slice elems spare => uptoBulkAll elems + uptoBulkAll spare + 1
  | .agg parts => uptoBulkAll parts + 1
  | .iface _ d => uptoBulk d + 1
  | .map entries => uptoBulkEntries entries + 1
  | .held _ => 1
def uptoBulkAll {H : Type} : List (DataW H) → Nat
  | [] => 0
  | d :: r => uptoBulk d + uptoBulkAll r
def uptoBulkEntries {H : Type} : List (Lit × DataW H) → Nat
  | [] => 0
  | x :: r => uptoBulkEntry x + uptoBulkEntries r
def uptoBulkEntry {H : Type} : Lit × DataW H → Nat
  | (.string bytes, d) => bytes.length + uptoBulk d + 1
  | (_, d) => uptoBulk d + 1
 end
def uptoSmall : (H : Type) → List (DataW H) → Bool := fun _ ds => decide (uptoBulkAll ds ≤ 1048576)
def OpenSpec.upto (s : _root_.Go.ChangeSpec) : _root_.Go.OpenSpec := { _root_.Go.OpenSpec.ofChange s with cond := some uptoSmall }

/-- 'fenestralaw04.NameQuotes', WHERE WHAT IT READS IS OF BULK AT MOST 1048576: true; the input reads as it did. -/
def nameQuotesUptoRow : OpenClaim := { program := "ytpabccmnhaelnaa", sum := "2691624f8d7834665add79120e460bf566d337b8fb66c3b479e243d394bf7eef", func := "fenestra/fenestralaw04.NameQuotes", spec := "nameQuotes", unfollowed := true, recurses := true, apart := false, narrowed := true }
def NameQuotesUptoSaid : Prop := nameQuotesUptoRow.holds Try.pinned (OpenSpec.upto nameQuotesSpec)

/-- 'fenestralaw04.NameScans', WHERE WHAT IT READS IS OF BULK AT MOST 1048576: true; the input reads as it did. -/
def nameScansUptoRow : OpenClaim := { program := "ytpabccmnhaelnaa", sum := "2691624f8d7834665add79120e460bf566d337b8fb66c3b479e243d394bf7eef", func := "fenestra/fenestralaw04.NameScans", spec := "nameScans", unfollowed := true, recurses := true, apart := false, narrowed := true }
def NameScansUptoSaid : Prop := nameScansUptoRow.holds Try.pinned (OpenSpec.upto nameScansSpec)

/-- 'fenestralaw04.NameInverse', WHERE WHAT IT READS IS OF BULK AT MOST 1048576: true; the input reads as it did. -/
def nameInverseUptoRow : OpenClaim := { program := "ytpabccmnhaelnaa", sum := "2691624f8d7834665add79120e460bf566d337b8fb66c3b479e243d394bf7eef", func := "fenestra/fenestralaw04.NameInverse", spec := "nameInverse", unfollowed := true, recurses := true, apart := false, narrowed := true }
def NameInverseUptoSaid : Prop := nameInverseUptoRow.holds Try.pinned (OpenSpec.upto nameInverseSpec)

/-- 'fenestralaw04.NamePads', WHERE WHAT IT READS IS OF BULK AT MOST 1048576: true; the input reads as it did. -/
def namePadsUptoRow : OpenClaim := { program := "ytpabccmnhaelnaa", sum := "2691624f8d7834665add79120e460bf566d337b8fb66c3b479e243d394bf7eef", func := "fenestra/fenestralaw04.NamePads", spec := "namePads", unfollowed := true, recurses := true, apart := false, narrowed := true }
def NamePadsUptoSaid : Prop := namePadsUptoRow.holds Try.pinned (OpenSpec.upto namePadsSpec)

/-- 'fenestralaw04.NameUnpads', WHERE WHAT IT READS IS OF BULK AT MOST 1048576: true; the input reads as it did. -/
def nameUnpadsUptoRow : OpenClaim := { program := "ytpabccmnhaelnaa", sum := "2691624f8d7834665add79120e460bf566d337b8fb66c3b479e243d394bf7eef", func := "fenestra/fenestralaw04.NameUnpads", spec := "nameUnpads", unfollowed := true, recurses := true, apart := false, narrowed := true }
def NameUnpadsUptoSaid : Prop := nameUnpadsUptoRow.holds Try.pinned (OpenSpec.upto nameUnpadsSpec)

/-- 'fenestralaw04.NameSorts', WHERE WHAT IT READS IS OF BULK AT MOST 1048576: true; the input reads as it did. -/
def nameSortsUptoRow : OpenClaim := { program := "ytpabccmnhaelnaa", sum := "2691624f8d7834665add79120e460bf566d337b8fb66c3b479e243d394bf7eef", func := "fenestra/fenestralaw04.NameSorts", spec := "nameSorts", unfollowed := true, recurses := true, apart := false, narrowed := true }
def NameSortsUptoSaid : Prop := nameSortsUptoRow.holds Try.pinned (OpenSpec.upto nameSortsSpec)

end Rows
end Go.Proofs.Ytpabccmnhaelnaa
