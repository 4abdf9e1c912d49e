/-
  No cell of these rows narrows 'for every input' (looked for: loops, veiled, ifaces, maps, wideKeys, modest, calm, conditions, laid).
  DERIVED. THE GIVEN ROWS OF THIS SEAT. 6 by the template 'for every input the law returns true; each argument reads behind the call as it read before'; 0 by the template 'total and deterministic' (their statements: YtcojhfppipdfoaaTotals.lean).
  GIVEN WITH THE SEED: the statements are not yours to turn. If you find one false, say at which input.
  Laid BY PROGRAM, IN A SANDBOX (cutbox-rows.mjs): the forced cells as the released guide's own fill.sh prints them over the translation 6fcf0189ebe349e2… (all of the seat's roots in one cut). By AI agents, Wed Nov 11 2026. No macro, syntax, notation, axiom, sorry.
-/
import Derived.Test.YtcojhfppipdfoaaChecked
import GoSem.Claim
import GoSem.ClaimJoined
import GoSem.ClaimMapViews
import Derived.JoinedTies
import Derived.KernelRfl
namespace Go.Proofs.Ytcojhfppipdfoaa
/- THE CELL 'sum', in the pinned program and in every row, IS THE sha256 OF THE DUMP (.gsa) THAT YtcojhfppipdfoaaProg.lean LOADS. Nothing in Lean hashes anything: it is a label: what it is worth is what the hold of that sum in a sandbox is worth. -/
noncomputable def Try.pinned : Pinned := { name := "ytcojhfppipdfoaa", sum := "6fcf0189ebe349e2b90644bdd3a3cac80ec7eb67916e2d77d85399ce66f77961", checked := Try.checked }
namespace Rows
def none {H : Type} : Left H := { results := [], args := [] }

/-- 'tamislaw06.VerifyChecks': WHATEVER THE INPUT: true; the input reads as it did. -/
def verifyChecksSpec : ChangeSpec := { name := "verifyChecks", fn := fun _ => fun
  | [d] => { results := [.lit (.bool true)], args := [d] }
  | _ => none }
def verifyChecksRow : OpenClaim := { program := "ytcojhfppipdfoaa", sum := "6fcf0189ebe349e2b90644bdd3a3cac80ec7eb67916e2d77d85399ce66f77961", func := "tamis/tamislaw06.VerifyChecks", spec := "verifyChecks", apart := false }
def VerifyChecksSaid : Prop := verifyChecksRow.holds Try.pinned (OpenSpec.ofChange verifyChecksSpec)

/-- ITS FALSE NEIGHBOUR: 'it returns false'. Refute it at one input. -/
def verifyChecksWrong : ChangeSpec := { name := "verifyChecks", fn := fun _ => fun
  | [d] => { results := [.lit (.bool false)], args := [d] }
  | _ => none }
def VerifyChecksWrongFalsely : Prop := verifyChecksRow.holds Try.pinned (OpenSpec.ofChange verifyChecksWrong)

/-- 'tamislaw06.VerifyWritten': WHATEVER THE INPUT: true; the input reads as it did. -/
def verifyWrittenSpec : ChangeSpec := { name := "verifyWritten", fn := fun _ => fun
  | [d] => { results := [.lit (.bool true)], args := [d] }
  | _ => none }
def verifyWrittenRow : OpenClaim := { program := "ytcojhfppipdfoaa", sum := "6fcf0189ebe349e2b90644bdd3a3cac80ec7eb67916e2d77d85399ce66f77961", func := "tamis/tamislaw06.VerifyWritten", spec := "verifyWritten", apart := false }
def VerifyWrittenSaid : Prop := verifyWrittenRow.holds Try.pinned (OpenSpec.ofChange verifyWrittenSpec)

/-- ITS FALSE NEIGHBOUR: 'it returns false'. Refute it at one input. -/
def verifyWrittenWrong : ChangeSpec := { name := "verifyWritten", fn := fun _ => fun
  | [d] => { results := [.lit (.bool false)], args := [d] }
  | _ => none }
def VerifyWrittenWrongFalsely : Prop := verifyWrittenRow.holds Try.pinned (OpenSpec.ofChange verifyWrittenWrong)

/-- 'tamislaw06.VerifyWays': WHATEVER THE INPUT: true; the input reads as it did. -/
def verifyWaysSpec : ChangeSpec := { name := "verifyWays", fn := fun _ => fun
  | [d1, d2] => { results := [.lit (.bool true)], args := [d1, d2] }
  | _ => none }
def verifyWaysRow : OpenClaim := { program := "ytcojhfppipdfoaa", sum := "6fcf0189ebe349e2b90644bdd3a3cac80ec7eb67916e2d77d85399ce66f77961", func := "tamis/tamislaw06.VerifyWays", spec := "verifyWays", apart := false }
def VerifyWaysSaid : Prop := verifyWaysRow.holds Try.pinned (OpenSpec.ofChange verifyWaysSpec)

/-- ITS FALSE NEIGHBOUR: 'it returns false'. Refute it at one input. -/
def verifyWaysWrong : ChangeSpec := { name := "verifyWays", fn := fun _ => fun
  | [d1, d2] => { results := [.lit (.bool false)], args := [d1, d2] }
  | _ => none }
def VerifyWaysWrongFalsely : Prop := verifyWaysRow.holds Try.pinned (OpenSpec.ofChange verifyWaysWrong)

/-- 'tamislaw06.VerifyMore': WHATEVER THE INPUT: true; the input reads as it did. -/
def verifyMoreSpec : ChangeSpec := { name := "verifyMore", fn := fun _ => fun
  | [d1, d2] => { results := [.lit (.bool true)], args := [d1, d2] }
  | _ => none }
def verifyMoreRow : OpenClaim := { program := "ytcojhfppipdfoaa", sum := "6fcf0189ebe349e2b90644bdd3a3cac80ec7eb67916e2d77d85399ce66f77961", func := "tamis/tamislaw06.VerifyMore", spec := "verifyMore", apart := false }
def VerifyMoreSaid : Prop := verifyMoreRow.holds Try.pinned (OpenSpec.ofChange verifyMoreSpec)

/-- ITS FALSE NEIGHBOUR: 'it returns false'. Refute it at one input. -/
def verifyMoreWrong : ChangeSpec := { name := "verifyMore", fn := fun _ => fun
  | [d1, d2] => { results := [.lit (.bool false)], args := [d1, d2] }
  | _ => none }
def VerifyMoreWrongFalsely : Prop := verifyMoreRow.holds Try.pinned (OpenSpec.ofChange verifyMoreWrong)

/-- 'tamislaw06.VerifyOne': WHATEVER THE INPUT: true; the input reads as it did. -/
def verifyOneSpec : ChangeSpec := { name := "verifyOne", fn := fun _ => fun
  | [d] => { results := [.lit (.bool true)], args := [d] }
  | _ => none }
def verifyOneRow : OpenClaim := { program := "ytcojhfppipdfoaa", sum := "6fcf0189ebe349e2b90644bdd3a3cac80ec7eb67916e2d77d85399ce66f77961", func := "tamis/tamislaw06.VerifyOne", spec := "verifyOne", apart := false }
def VerifyOneSaid : Prop := verifyOneRow.holds Try.pinned (OpenSpec.ofChange verifyOneSpec)

/-- ITS FALSE NEIGHBOUR: 'it returns false'. Refute it at one input. -/
def verifyOneWrong : ChangeSpec := { name := "verifyOne", fn := fun _ => fun
  | [d] => { results := [.lit (.bool false)], args := [d] }
  | _ => none }
def VerifyOneWrongFalsely : Prop := verifyOneRow.holds Try.pinned (OpenSpec.ofChange verifyOneWrong)

/-- 'tamislaw06.VerifyLong': WHATEVER THE INPUT: true; the input reads as it did. -/
def verifyLongSpec : ChangeSpec := { name := "verifyLong", fn := fun _ => fun
  | [d1, d2] => { results := [.lit (.bool true)], args := [d1, d2] }
  | _ => none }
def verifyLongRow : OpenClaim := { program := "ytcojhfppipdfoaa", sum := "6fcf0189ebe349e2b90644bdd3a3cac80ec7eb67916e2d77d85399ce66f77961", func := "tamis/tamislaw06.VerifyLong", spec := "verifyLong", apart := false }
def VerifyLongSaid : Prop := verifyLongRow.holds Try.pinned (OpenSpec.ofChange verifyLongSpec)

/-- ITS FALSE NEIGHBOUR: 'it returns false'. Refute it at one input. -/
def verifyLongWrong : ChangeSpec := { name := "verifyLong", fn := fun _ => fun
  | [d1, d2] => { results := [.lit (.bool false)], args := [d1, d2] }
  | _ => none }
def VerifyLongWrongFalsely : Prop := verifyLongRow.holds Try.pinned (OpenSpec.ofChange verifyLongWrong)

/- THE SECOND FORM. 'bulk': how many values and letters a reading holds, each counted each time it is reached (what is shared counts as often as it is met; a slice's spare places count too). A statement '..UptoSaid' is the law's where the arguments, and the package variables that the reading takes, are together of bulk at most 1048576: NARROWER than '..Said'. Prove '..Said' where nothing that the law and all that it calls make is longer than what came in: it says more and counts as full. Else prove '..UptoSaid'. A law counts once. -/
mutual
def uptoBulk {H : Type} : DataW H → Nat
  | .lit (.string bytes) => bytes.length + 1
  | .lit _ => 1
  | .nil => 1
  | .ptr d => uptoBulk d + 1
  | .slice elems spare => uptoBulkAll elems + uptoBulkAll spare + 1
  | .agg parts => uptoBulkAll parts + 1
  | .iface _ d => uptoBulk d + 1
  | .map entries => uptoBulkEntries entries + 1
  | .held _ => 1
def uptoBulkAll {H : Type} : List (DataW H) → Nat
  | [] => 0
  | d :: r => uptoBulk d + uptoBulkAll r
def uptoBulkEntries {H : Type} : List (Lit × DataW H) → Nat
  | [] => 0
  | x :: r => uptoBulkEntry x + uptoBulkEntries r
def uptoBulkEntry {H : Type} : Lit × DataW H → Nat
  | (.string bytes, d) => bytes.length + uptoBulk d + 1
  | (_, d) => uptoBulk d + 1
 end
def uptoSmall : (H : Type) → List (DataW H) → Bool := fun _ ds => decide (uptoBulkAll ds ≤ 1048576)
def OpenSpec.upto (s : _root_.Go.ChangeSpec) : _root_.Go.OpenSpec := { _root_.Go.OpenSpec.ofChange s with cond := some uptoSmall }

/-- 'tamislaw06.VerifyChecks', WHERE WHAT IT READS IS OF BULK AT MOST 1048576: true; the input reads as it did. -/
def verifyChecksUptoRow : OpenClaim := { program := "ytcojhfppipdfoaa", sum := "6fcf0189ebe349e2b90644bdd3a3cac80ec7eb67916e2d77d85399ce66f77961", func := "tamis/tamislaw06.VerifyChecks", spec := "verifyChecks", apart := false, narrowed := true }
def VerifyChecksUptoSaid : Prop := verifyChecksUptoRow.holds Try.pinned (OpenSpec.upto verifyChecksSpec)

/-- 'tamislaw06.VerifyWritten', WHERE WHAT IT READS IS OF BULK AT MOST 1048576: true; the input reads as it did. -/
def verifyWrittenUptoRow : OpenClaim := { program := "ytcojhfppipdfoaa", sum := "6fcf0189ebe349e2b90644bdd3a3cac80ec7eb67916e2d77d85399ce66f77961", func := "tamis/tamislaw06.VerifyWritten", spec := "verifyWritten", apart := false, narrowed := true }
def VerifyWrittenUptoSaid : Prop := verifyWrittenUptoRow.holds Try.pinned (OpenSpec.upto verifyWrittenSpec)

/-- 'tamislaw06.VerifyWays', WHERE WHAT IT READS IS OF BULK AT MOST 1048576: true; the input reads as it did. -/
def verifyWaysUptoRow : OpenClaim := { program := "ytcojhfppipdfoaa", sum := "6fcf0189ebe349e2b90644bdd3a3cac80ec7eb67916e2d77d85399ce66f77961", func := "tamis/tamislaw06.VerifyWays", spec := "verifyWays", apart := false, narrowed := true }
def VerifyWaysUptoSaid : Prop := verifyWaysUptoRow.holds Try.pinned (OpenSpec.upto verifyWaysSpec)

/-- 'tamislaw06.VerifyMore', WHERE WHAT IT READS IS OF BULK AT MOST 1048576: true; the input reads as it did. -/
def verifyMoreUptoRow : OpenClaim := { program := "ytcojhfppipdfoaa", sum := "6fcf0189ebe349e2b90644bdd3a3cac80ec7eb67916e2d77d85399ce66f77961", func := "tamis/tamislaw06.VerifyMore", spec := "verifyMore", apart := false, narrowed := true }
def VerifyMoreUptoSaid : Prop := verifyMoreUptoRow.holds Try.pinned (OpenSpec.upto verifyMoreSpec)

/-- 'tamislaw06.VerifyOne', WHERE WHAT IT READS IS OF BULK AT MOST 1048576: true; the input reads as it did. -/
def verifyOneUptoRow : OpenClaim := { program := "ytcojhfppipdfoaa", sum := "6fcf0189ebe349e2b90644bdd3a3cac80ec7eb67916e2d77d85399ce66f77961", func := "tamis/tamislaw06.VerifyOne", spec := "verifyOne", apart := false, narrowed := true }
def VerifyOneUptoSaid : Prop := verifyOneUptoRow.holds Try.pinned (OpenSpec.upto verifyOneSpec)

/-- 'tamislaw06.VerifyLong', WHERE WHAT IT READS IS OF BULK AT MOST 1048576: true; the input reads as it did. -/
def verifyLongUptoRow : OpenClaim := { program := "ytcojhfppipdfoaa", sum := "6fcf0189ebe349e2b90644bdd3a3cac80ec7eb67916e2d77d85399ce66f77961", func := "tamis/tamislaw06.VerifyLong", spec := "verifyLong", apart := false, narrowed := true }
def VerifyLongUptoSaid : Prop := verifyLongUptoRow.holds Try.pinned (OpenSpec.upto verifyLongSpec)

end Rows
end Go.Proofs.Ytcojhfppipdfoaa
