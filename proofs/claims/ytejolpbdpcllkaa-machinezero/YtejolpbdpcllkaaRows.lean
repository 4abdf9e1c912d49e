/-
  No cell of these rows narrows 'for every input' (looked for: loops, veiled, ifaces, maps, wideKeys, modest, calm, conditions, laid).
  DERIVED. THE GIVEN ROWS OF THIS SEAT. 6 by the template 'for every input the law returns true; each argument reads behind the call as it read before'; 0 by the template 'total and deterministic' (their statements: YtejolpbdpcllkaaTotals.lean).
  GIVEN WITH THE SEED: the statements are not yours to turn. If you find one false, say at which input.
  Laid BY PROGRAM, IN A SANDBOX (cutbox-rows.mjs): the forced cells as the released guide's own fill.sh prints them over the translation 495c8c88dc5150ae… (all of the seat's roots in one cut). By AI agents, Wed Nov 11 2026. No macro, syntax, notation, axiom, sorry.
-/
import Derived.Test.YtejolpbdpcllkaaChecked
import GoSem.Claim
import GoSem.ClaimJoined
import GoSem.ClaimMapViews
import Derived.JoinedTies
import Derived.KernelRfl
namespace Go.Proofs.Ytejolpbdpcllkaa
/- THE CELL 'sum', in the pinned program and in every row, IS THE sha256 OF THE DUMP (.gsa) THAT YtejolpbdpcllkaaProg.lean LOADS. Nothing in Lean hashes anything: it is a label: what it is worth is what the hold of that sum in a sandbox is worth. -/
noncomputable def Try.pinned : Pinned := { name := "ytejolpbdpcllkaa", sum := "495c8c88dc5150ae9a84721ff7a0b70cd3f87999c419d6dc6856fedff2279048", checked := Try.checked }
namespace Rows
def none {H : Type} : Left H := { results := [], args := [] }

/-- 'tamislaw07.MachineSteps': WHATEVER THE INPUT: true; the input reads as it did. -/
def machineStepsSpec : ChangeSpec := { name := "machineSteps", fn := fun _ => fun
  | [d1, d2, d3] => { results := [.lit (.bool true)], args := [d1, d2, d3] }
  | _ => none }
def machineStepsRow : OpenClaim := { program := "ytejolpbdpcllkaa", sum := "495c8c88dc5150ae9a84721ff7a0b70cd3f87999c419d6dc6856fedff2279048", func := "tamis/tamislaw07.MachineSteps", spec := "machineSteps", apart := false }
def MachineStepsSaid : Prop := machineStepsRow.holds Try.pinned (OpenSpec.ofChange machineStepsSpec)

/-- ITS FALSE NEIGHBOUR: 'it returns false'. Refute it at one input. -/
def machineStepsWrong : ChangeSpec := { name := "machineSteps", fn := fun _ => fun
  | [d1, d2, d3] => { results := [.lit (.bool false)], args := [d1, d2, d3] }
  | _ => none }
def MachineStepsWrongFalsely : Prop := machineStepsRow.holds Try.pinned (OpenSpec.ofChange machineStepsWrong)

/-- 'tamislaw07.MachineRuns': WHATEVER THE INPUT: true; the input reads as it did. -/
def machineRunsSpec : ChangeSpec := { name := "machineRuns", fn := fun _ => fun
  | [d1, d2] => { results := [.lit (.bool true)], args := [d1, d2] }
  | _ => none }
def machineRunsRow : OpenClaim := { program := "ytejolpbdpcllkaa", sum := "495c8c88dc5150ae9a84721ff7a0b70cd3f87999c419d6dc6856fedff2279048", func := "tamis/tamislaw07.MachineRuns", spec := "machineRuns", apart := false }
def MachineRunsSaid : Prop := machineRunsRow.holds Try.pinned (OpenSpec.ofChange machineRunsSpec)

/-- ITS FALSE NEIGHBOUR: 'it returns false'. Refute it at one input. -/
def machineRunsWrong : ChangeSpec := { name := "machineRuns", fn := fun _ => fun
  | [d1, d2] => { results := [.lit (.bool false)], args := [d1, d2] }
  | _ => none }
def MachineRunsWrongFalsely : Prop := machineRunsRow.holds Try.pinned (OpenSpec.ofChange machineRunsWrong)

/-- 'tamislaw07.MachineWords': WHATEVER THE INPUT: true; the input reads as it did. -/
def machineWordsSpec : ChangeSpec := { name := "machineWords", fn := fun _ => fun
  | [d1, d2, d3] => { results := [.lit (.bool true)], args := [d1, d2, d3] }
  | _ => none }
def machineWordsRow : OpenClaim := { program := "ytejolpbdpcllkaa", sum := "495c8c88dc5150ae9a84721ff7a0b70cd3f87999c419d6dc6856fedff2279048", func := "tamis/tamislaw07.MachineWords", spec := "machineWords", apart := false }
def MachineWordsSaid : Prop := machineWordsRow.holds Try.pinned (OpenSpec.ofChange machineWordsSpec)

/-- ITS FALSE NEIGHBOUR: 'it returns false'. Refute it at one input. -/
def machineWordsWrong : ChangeSpec := { name := "machineWords", fn := fun _ => fun
  | [d1, d2, d3] => { results := [.lit (.bool false)], args := [d1, d2, d3] }
  | _ => none }
def MachineWordsWrongFalsely : Prop := machineWordsRow.holds Try.pinned (OpenSpec.ofChange machineWordsWrong)

/-- 'tamislaw07.MachineFirst': WHATEVER THE INPUT: true; the input reads as it did. -/
def machineFirstSpec : ChangeSpec := { name := "machineFirst", fn := fun _ => fun
  | [d1, d2] => { results := [.lit (.bool true)], args := [d1, d2] }
  | _ => none }
def machineFirstRow : OpenClaim := { program := "ytejolpbdpcllkaa", sum := "495c8c88dc5150ae9a84721ff7a0b70cd3f87999c419d6dc6856fedff2279048", func := "tamis/tamislaw07.MachineFirst", spec := "machineFirst", apart := false }
def MachineFirstSaid : Prop := machineFirstRow.holds Try.pinned (OpenSpec.ofChange machineFirstSpec)

/-- ITS FALSE NEIGHBOUR: 'it returns false'. Refute it at one input. -/
def machineFirstWrong : ChangeSpec := { name := "machineFirst", fn := fun _ => fun
  | [d1, d2] => { results := [.lit (.bool false)], args := [d1, d2] }
  | _ => none }
def MachineFirstWrongFalsely : Prop := machineFirstRow.holds Try.pinned (OpenSpec.ofChange machineFirstWrong)

/-- 'tamislaw07.MachineZero': WHATEVER THE INPUT: true; the input reads as it did. -/
def machineZeroSpec : ChangeSpec := { name := "machineZero", fn := fun _ => fun
  | [d1, d2, d3] => { results := [.lit (.bool true)], args := [d1, d2, d3] }
  | _ => none }
def machineZeroRow : OpenClaim := { program := "ytejolpbdpcllkaa", sum := "495c8c88dc5150ae9a84721ff7a0b70cd3f87999c419d6dc6856fedff2279048", func := "tamis/tamislaw07.MachineZero", spec := "machineZero", apart := false }
def MachineZeroSaid : Prop := machineZeroRow.holds Try.pinned (OpenSpec.ofChange machineZeroSpec)

/-- ITS FALSE NEIGHBOUR: 'it returns false'. Refute it at one input. -/
def machineZeroWrong : ChangeSpec := { name := "machineZero", fn := fun _ => fun
  | [d1, d2, d3] => { results := [.lit (.bool false)], args := [d1, d2, d3] }
  | _ => none }
def MachineZeroWrongFalsely : Prop := machineZeroRow.holds Try.pinned (OpenSpec.ofChange machineZeroWrong)

/-- 'tamislaw07.MachineKept': WHATEVER THE INPUT: true; the input reads as it did. -/
def machineKeptSpec : ChangeSpec := { name := "machineKept", fn := fun _ => fun
  | [d1, d2] => { results := [.lit (.bool true)], args := [d1, d2] }
  | _ => none }
def machineKeptRow : OpenClaim := { program := "ytejolpbdpcllkaa", sum := "495c8c88dc5150ae9a84721ff7a0b70cd3f87999c419d6dc6856fedff2279048", func := "tamis/tamislaw07.MachineKept", spec := "machineKept", apart := false }
def MachineKeptSaid : Prop := machineKeptRow.holds Try.pinned (OpenSpec.ofChange machineKeptSpec)

/-- ITS FALSE NEIGHBOUR: 'it returns false'. Refute it at one input. -/
def machineKeptWrong : ChangeSpec := { name := "machineKept", fn := fun _ => fun
  | [d1, d2] => { results := [.lit (.bool false)], args := [d1, d2] }
  | _ => none }
def MachineKeptWrongFalsely : Prop := machineKeptRow.holds Try.pinned (OpenSpec.ofChange machineKeptWrong)

/- THE SECOND FORM. 'bulk': how many values and letters a reading holds, each counted each time it is reached (what is shared counts as often as it is met; a slice's spare places count too). A statement '..UptoSaid' is the law's where the arguments, and the package variables that the reading takes, are together of bulk at most 1048576: NARROWER than '..Said'. Prove '..Said' where nothing that the law and all that it calls make is longer than what came in: it says more and counts as full. Else prove '..UptoSaid'. A law counts once. -/
mutual
def uptoBulk {H : Type} : DataW H → Nat
  | .lit (.string bytes) => bytes.length + 1
  | .lit _ => 1
  | .nil => 1
  | .ptr d => uptoBulk d + 1
  | .slice elems spare => uptoBulkAll elems + uptoBulkAll spare + 1
  | .agg parts => uptoBulkAll parts + 1
  | .iface _ d => uptoBulk d + 1
  | .map entries => uptoBulkEntries entries + 1
  | .held _ => 1
def uptoBulkAll {H : Type} : List (DataW H) → Nat
  | [] => 0
  | d :: r => uptoBulk d + uptoBulkAll r
def uptoBulkEntries {H : Type} : List (Lit × DataW H) → Nat
  | [] => 0
  | x :: r => uptoBulkEntry x + uptoBulkEntries r
def uptoBulkEntry {H : Type} : Lit × DataW H → Nat
  | (.string bytes, d) => bytes.length + uptoBulk d + 1
  | (_, d) => uptoBulk d + 1
 end
def uptoSmall : (H : Type) → List (DataW H) → Bool := fun _ ds => decide (uptoBulkAll ds ≤ 1048576)
def OpenSpec.upto (s : _root_.Go.ChangeSpec) : _root_.Go.OpenSpec := { _root_.Go.OpenSpec.ofChange s with cond := some uptoSmall }

/-- 'tamislaw07.MachineSteps', WHERE WHAT IT READS IS OF BULK AT MOST 1048576: true; the input reads as it did. -/
def machineStepsUptoRow : OpenClaim := { program := "ytejolpbdpcllkaa", sum := "495c8c88dc5150ae9a84721ff7a0b70cd3f87999c419d6dc6856fedff2279048", func := "tamis/tamislaw07.MachineSteps", spec := "machineSteps", apart := false, narrowed := true }
def MachineStepsUptoSaid : Prop := machineStepsUptoRow.holds Try.pinned (OpenSpec.upto machineStepsSpec)

/-- 'tamislaw07.MachineRuns', WHERE WHAT IT READS IS OF BULK AT MOST 1048576: true; the input reads as it did. -/
def machineRunsUptoRow : OpenClaim := { program := "ytejolpbdpcllkaa", sum := "495c8c88dc5150ae9a84721ff7a0b70cd3f87999c419d6dc6856fedff2279048", func := "tamis/tamislaw07.MachineRuns", spec := "machineRuns", apart := false, narrowed := true }
def MachineRunsUptoSaid : Prop := machineRunsUptoRow.holds Try.pinned (OpenSpec.upto machineRunsSpec)

/-- 'tamislaw07.MachineWords', WHERE WHAT IT READS IS OF BULK AT MOST 1048576: true; the input reads as it did. -/
def machineWordsUptoRow : OpenClaim := { program := "ytejolpbdpcllkaa", sum := "495c8c88dc5150ae9a84721ff7a0b70cd3f87999c419d6dc6856fedff2279048", func := "tamis/tamislaw07.MachineWords", spec := "machineWords", apart := false, narrowed := true }
def MachineWordsUptoSaid : Prop := machineWordsUptoRow.holds Try.pinned (OpenSpec.upto machineWordsSpec)

/-- 'tamislaw07.MachineFirst', WHERE WHAT IT READS IS OF BULK AT MOST 1048576: true; the input reads as it did. -/
def machineFirstUptoRow : OpenClaim := { program := "ytejolpbdpcllkaa", sum := "495c8c88dc5150ae9a84721ff7a0b70cd3f87999c419d6dc6856fedff2279048", func := "tamis/tamislaw07.MachineFirst", spec := "machineFirst", apart := false, narrowed := true }
def MachineFirstUptoSaid : Prop := machineFirstUptoRow.holds Try.pinned (OpenSpec.upto machineFirstSpec)

/-- 'tamislaw07.MachineZero', WHERE WHAT IT READS IS OF BULK AT MOST 1048576: true; the input reads as it did. -/
def machineZeroUptoRow : OpenClaim := { program := "ytejolpbdpcllkaa", sum := "495c8c88dc5150ae9a84721ff7a0b70cd3f87999c419d6dc6856fedff2279048", func := "tamis/tamislaw07.MachineZero", spec := "machineZero", apart := false, narrowed := true }
def MachineZeroUptoSaid : Prop := machineZeroUptoRow.holds Try.pinned (OpenSpec.upto machineZeroSpec)

/-- 'tamislaw07.MachineKept', WHERE WHAT IT READS IS OF BULK AT MOST 1048576: true; the input reads as it did. -/
def machineKeptUptoRow : OpenClaim := { program := "ytejolpbdpcllkaa", sum := "495c8c88dc5150ae9a84721ff7a0b70cd3f87999c419d6dc6856fedff2279048", func := "tamis/tamislaw07.MachineKept", spec := "machineKept", apart := false, narrowed := true }
def MachineKeptUptoSaid : Prop := machineKeptUptoRow.holds Try.pinned (OpenSpec.upto machineKeptSpec)

end Rows
end Go.Proofs.Ytejolpbdpcllkaa
