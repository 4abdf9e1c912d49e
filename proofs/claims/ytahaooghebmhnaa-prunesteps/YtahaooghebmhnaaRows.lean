/-
  No cell of these rows narrows 'for every input' (looked for: loops, veiled, ifaces, maps, wideKeys, modest, calm, conditions, laid).
  DERIVED. THE GIVEN ROWS OF THIS SEAT. 5 by the template 'for every input the law returns true; each argument reads behind the call as it read before'; 0 by the template 'total and deterministic' (their statements: YtahaooghebmhnaaTotals.lean).
  GIVEN WITH THE SEED: the statements are not yours to turn. If you find one false, say at which input.
  Laid BY PROGRAM, IN A SANDBOX (cutbox-rows.mjs): the forced cells as the released guide's own fill.sh prints them over the translation 6a3505f44ef2fc26… (all of the seat's roots in one cut). By AI agents, Wed Nov 11 2026. No macro, syntax, notation, axiom, sorry.
-/
import Derived.Test.YtahaooghebmhnaaChecked
import GoSem.Claim
import GoSem.ClaimJoined
import GoSem.ClaimMapViews
import Derived.JoinedTies
import Derived.KernelRfl
namespace Go.Proofs.Ytahaooghebmhnaa
/- THE CELL 'sum', in the pinned program and in every row, IS THE sha256 OF THE DUMP (.gsa) THAT YtahaooghebmhnaaProg.lean LOADS. Nothing in Lean hashes anything: it is a label: what it is worth is what the hold of that sum in a sandbox is worth. -/
noncomputable def Try.pinned : Pinned := { name := "ytahaooghebmhnaa", sum := "6a3505f44ef2fc26f1d3c3462ad72aa2cb3f0122107d0e2aa6aa20479d9a42bb", checked := Try.checked }
namespace Rows
def none {H : Type} : Left H := { results := [], args := [] }

/-- 'tamislaw09.PruneTells': WHATEVER THE INPUT: true; the input reads as it did. -/
def pruneTellsSpec : ChangeSpec := { name := "pruneTells", fn := fun _ => fun
  | [d1, d2] => { results := [.lit (.bool true)], args := [d1, d2] }
  | _ => none }
def pruneTellsRow : OpenClaim := { program := "ytahaooghebmhnaa", sum := "6a3505f44ef2fc26f1d3c3462ad72aa2cb3f0122107d0e2aa6aa20479d9a42bb", func := "tamis/tamislaw09.PruneTells", spec := "pruneTells", unfollowed := true, recurses := true, apart := false }
def PruneTellsSaid : Prop := pruneTellsRow.holds Try.pinned (OpenSpec.ofChange pruneTellsSpec)

/-- ITS FALSE NEIGHBOUR: 'it returns false'. Refute it at one input. -/
def pruneTellsWrong : ChangeSpec := { name := "pruneTells", fn := fun _ => fun
  | [d1, d2] => { results := [.lit (.bool false)], args := [d1, d2] }
  | _ => none }
def PruneTellsWrongFalsely : Prop := pruneTellsRow.holds Try.pinned (OpenSpec.ofChange pruneTellsWrong)

/-- 'tamislaw09.PruneSame': WHATEVER THE INPUT: true; the input reads as it did. -/
def pruneSameSpec : ChangeSpec := { name := "pruneSame", fn := fun _ => fun
  | [d1, d2] => { results := [.lit (.bool true)], args := [d1, d2] }
  | _ => none }
def pruneSameRow : OpenClaim := { program := "ytahaooghebmhnaa", sum := "6a3505f44ef2fc26f1d3c3462ad72aa2cb3f0122107d0e2aa6aa20479d9a42bb", func := "tamis/tamislaw09.PruneSame", spec := "pruneSame", unfollowed := true, recurses := true, apart := false }
def PruneSameSaid : Prop := pruneSameRow.holds Try.pinned (OpenSpec.ofChange pruneSameSpec)

/-- ITS FALSE NEIGHBOUR: 'it returns false'. Refute it at one input. -/
def pruneSameWrong : ChangeSpec := { name := "pruneSame", fn := fun _ => fun
  | [d1, d2] => { results := [.lit (.bool false)], args := [d1, d2] }
  | _ => none }
def PruneSameWrongFalsely : Prop := pruneSameRow.holds Try.pinned (OpenSpec.ofChange pruneSameWrong)

/-- 'tamislaw09.PruneSteps': WHATEVER THE INPUT: true; the input reads as it did. -/
def pruneStepsSpec : ChangeSpec := { name := "pruneSteps", fn := fun _ => fun
  | [d1, d2] => { results := [.lit (.bool true)], args := [d1, d2] }
  | _ => none }
def pruneStepsRow : OpenClaim := { program := "ytahaooghebmhnaa", sum := "6a3505f44ef2fc26f1d3c3462ad72aa2cb3f0122107d0e2aa6aa20479d9a42bb", func := "tamis/tamislaw09.PruneSteps", spec := "pruneSteps", unfollowed := true, recurses := true, apart := false }
def PruneStepsSaid : Prop := pruneStepsRow.holds Try.pinned (OpenSpec.ofChange pruneStepsSpec)

/-- ITS FALSE NEIGHBOUR: 'it returns false'. Refute it at one input. -/
def pruneStepsWrong : ChangeSpec := { name := "pruneSteps", fn := fun _ => fun
  | [d1, d2] => { results := [.lit (.bool false)], args := [d1, d2] }
  | _ => none }
def PruneStepsWrongFalsely : Prop := pruneStepsRow.holds Try.pinned (OpenSpec.ofChange pruneStepsWrong)

/-- 'tamislaw09.PruneDead': WHATEVER THE INPUT: true; the input reads as it did. -/
def pruneDeadSpec : ChangeSpec := { name := "pruneDead", fn := fun _ => fun
  | [d1, d2] => { results := [.lit (.bool true)], args := [d1, d2] }
  | _ => none }
def pruneDeadRow : OpenClaim := { program := "ytahaooghebmhnaa", sum := "6a3505f44ef2fc26f1d3c3462ad72aa2cb3f0122107d0e2aa6aa20479d9a42bb", func := "tamis/tamislaw09.PruneDead", spec := "pruneDead", unfollowed := true, recurses := true, apart := false }
def PruneDeadSaid : Prop := pruneDeadRow.holds Try.pinned (OpenSpec.ofChange pruneDeadSpec)

/-- ITS FALSE NEIGHBOUR: 'it returns false'. Refute it at one input. -/
def pruneDeadWrong : ChangeSpec := { name := "pruneDead", fn := fun _ => fun
  | [d1, d2] => { results := [.lit (.bool false)], args := [d1, d2] }
  | _ => none }
def PruneDeadWrongFalsely : Prop := pruneDeadRow.holds Try.pinned (OpenSpec.ofChange pruneDeadWrong)

/-- 'tamislaw09.PruneStraight': WHATEVER THE INPUT: true; the input reads as it did. -/
def pruneStraightSpec : ChangeSpec := { name := "pruneStraight", fn := fun _ => fun
  | [d] => { results := [.lit (.bool true)], args := [d] }
  | _ => none }
def pruneStraightRow : OpenClaim := { program := "ytahaooghebmhnaa", sum := "6a3505f44ef2fc26f1d3c3462ad72aa2cb3f0122107d0e2aa6aa20479d9a42bb", func := "tamis/tamislaw09.PruneStraight", spec := "pruneStraight", unfollowed := true, recurses := true, apart := false }
def PruneStraightSaid : Prop := pruneStraightRow.holds Try.pinned (OpenSpec.ofChange pruneStraightSpec)

/-- ITS FALSE NEIGHBOUR: 'it returns false'. Refute it at one input. -/
def pruneStraightWrong : ChangeSpec := { name := "pruneStraight", fn := fun _ => fun
  | [d] => { results := [.lit (.bool false)], args := [d] }
  | _ => none }
def PruneStraightWrongFalsely : Prop := pruneStraightRow.holds Try.pinned (OpenSpec.ofChange pruneStraightWrong)

/- THE SECOND FORM. 'bulk': how many values and letters a reading holds, each counted each time it is reached (what is shared counts as often as it is met; a slice's spare places count too). A statement '..UptoSaid' is the law's where the arguments, and the package variables that the reading takes, are together of bulk at most 1048576: NARROWER than '..Said'. Prove '..Said' where nothing that the law and all that it calls make is longer than what came in: it says more and counts as full. Else prove '..UptoSaid'. A law counts once. -/
mutual
def uptoBulk {H : Type} : DataW H → Nat
  | .lit (.string bytes) => bytes.length + 1
  | .lit _ => 1
  | .nil => 1
  | .ptr d => uptoBulk d + 1
  | .slice elems spare => uptoBulkAll elems + uptoBulkAll spare + 1
  | .agg parts => uptoBulkAll parts + 1
  | .iface _ d => uptoBulk d + 1
  | .map entries => uptoBulkEntries entries + 1
  | .held _ => 1
def uptoBulkAll {H : Type} : List (DataW H) → Nat
  | [] => 0
  | d :: r => uptoBulk d + uptoBulkAll r
def uptoBulkEntries {H : Type} : List (Lit × DataW H) → Nat
  | [] => 0
  | x :: r => uptoBulkEntry x + uptoBulkEntries r
def uptoBulkEntry {H : Type} : Lit × DataW H → Nat
  | (.string bytes, d) => bytes.length + uptoBulk d + 1
  | (_, d) => uptoBulk d + 1
 end
def uptoSmall : (H : Type) → List (DataW H) → Bool := fun _ ds => decide (uptoBulkAll ds ≤ 1048576)
def OpenSpec.upto (s : _root_.Go.ChangeSpec) : _root_.Go.OpenSpec := { _root_.Go.OpenSpec.ofChange s with cond := some uptoSmall }

/-- 'tamislaw09.PruneTells', WHERE WHAT IT READS IS OF BULK AT MOST 1048576: true; the input reads as it did. -/
def pruneTellsUptoRow : OpenClaim := { program := "ytahaooghebmhnaa", sum := "6a3505f44ef2fc26f1d3c3462ad72aa2cb3f0122107d0e2aa6aa20479d9a42bb", func := "tamis/tamislaw09.PruneTells", spec := "pruneTells", unfollowed := true, recurses := true, apart := false, narrowed := true }
def PruneTellsUptoSaid : Prop := pruneTellsUptoRow.holds Try.pinned (OpenSpec.upto pruneTellsSpec)

/-- 'tamislaw09.PruneSame', WHERE WHAT IT READS IS OF BULK AT MOST 1048576: true; the input reads as it did. -/
def pruneSameUptoRow : OpenClaim := { program := "ytahaooghebmhnaa", sum := "6a3505f44ef2fc26f1d3c3462ad72aa2cb3f0122107d0e2aa6aa20479d9a42bb", func := "tamis/tamislaw09.PruneSame", spec := "pruneSame", unfollowed := true, recurses := true, apart := false, narrowed := true }
def PruneSameUptoSaid : Prop := pruneSameUptoRow.holds Try.pinned (OpenSpec.upto pruneSameSpec)

/-- 'tamislaw09.PruneSteps', WHERE WHAT IT READS IS OF BULK AT MOST 1048576: true; the input reads as it did. -/
def pruneStepsUptoRow : OpenClaim := { program := "ytahaooghebmhnaa", sum := "6a3505f44ef2fc26f1d3c3462ad72aa2cb3f0122107d0e2aa6aa20479d9a42bb", func := "tamis/tamislaw09.PruneSteps", spec := "pruneSteps", unfollowed := true, recurses := true, apart := false, narrowed := true }
def PruneStepsUptoSaid : Prop := pruneStepsUptoRow.holds Try.pinned (OpenSpec.upto pruneStepsSpec)

/-- 'tamislaw09.PruneDead', WHERE WHAT IT READS IS OF BULK AT MOST 1048576: true; the input reads as it did. -/
def pruneDeadUptoRow : OpenClaim := { program := "ytahaooghebmhnaa", sum := "6a3505f44ef2fc26f1d3c3462ad72aa2cb3f0122107d0e2aa6aa20479d9a42bb", func := "tamis/tamislaw09.PruneDead", spec := "pruneDead", unfollowed := true, recurses := true, apart := false, narrowed := true }
def PruneDeadUptoSaid : Prop := pruneDeadUptoRow.holds Try.pinned (OpenSpec.upto pruneDeadSpec)

/-- 'tamislaw09.PruneStraight', WHERE WHAT IT READS IS OF BULK AT MOST 1048576: true; the input reads as it did. -/
def pruneStraightUptoRow : OpenClaim := { program := "ytahaooghebmhnaa", sum := "6a3505f44ef2fc26f1d3c3462ad72aa2cb3f0122107d0e2aa6aa20479d9a42bb", func := "tamis/tamislaw09.PruneStraight", spec := "pruneStraight", unfollowed := true, recurses := true, apart := false, narrowed := true }
def PruneStraightUptoSaid : Prop := pruneStraightUptoRow.holds Try.pinned (OpenSpec.upto pruneStraightSpec)

end Rows
end Go.Proofs.Ytahaooghebmhnaa
