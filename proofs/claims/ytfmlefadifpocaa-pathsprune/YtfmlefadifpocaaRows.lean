/-
  No cell of these rows narrows 'for every input' (looked for: loops, veiled, ifaces, maps, wideKeys, modest, calm, conditions, laid).
  DERIVED. THE GIVEN ROWS OF THIS SEAT. 4 by the template 'for every input the law returns true; each argument reads behind the call as it read before'; 0 by the template 'total and deterministic' (their statements: YtfmlefadifpocaaTotals.lean).
  GIVEN WITH THE SEED: the statements are not yours to turn. If you find one false, say at which input.
  Laid BY PROGRAM, IN A SANDBOX (cutbox-rows.mjs): the forced cells as the released guide's own fill.sh prints them over the translation ef87e3632d1f98c8… (all of the seat's roots in one cut). By AI agents, Wed Nov 11 2026. No macro, syntax, notation, axiom, sorry.
-/
import Derived.Test.YtfmlefadifpocaaChecked
import GoSem.Claim
import GoSem.ClaimJoined
import GoSem.ClaimMapViews
import Derived.JoinedTies
import Derived.KernelRfl
namespace Go.Proofs.Ytfmlefadifpocaa
/- THE CELL 'sum', in the pinned program and in every row, IS THE sha256 OF THE DUMP (.gsa) THAT YtfmlefadifpocaaProg.lean LOADS. Nothing in Lean hashes anything: it is a label: what it is worth is what the hold of that sum in a sandbox is worth. -/
noncomputable def Try.pinned : Pinned := { name := "ytfmlefadifpocaa", sum := "ef87e3632d1f98c8695d843ec837c74902fb0aa0f1ceef224b07859992bf8626", checked := Try.checked }
namespace Rows
def none {H : Type} : Left H := { results := [], args := [] }

/-- 'tamislaw10.PathsTells': WHATEVER THE INPUT: true; the input reads as it did. -/
def pathsTellsSpec : ChangeSpec := { name := "pathsTells", fn := fun _ => fun
  | [d] => { results := [.lit (.bool true)], args := [d] }
  | _ => none }
def pathsTellsRow : OpenClaim := { program := "ytfmlefadifpocaa", sum := "ef87e3632d1f98c8695d843ec837c74902fb0aa0f1ceef224b07859992bf8626", func := "tamis/tamislaw10.PathsTells", spec := "pathsTells", apart := false }
def PathsTellsSaid : Prop := pathsTellsRow.holds Try.pinned (OpenSpec.ofChange pathsTellsSpec)

/-- ITS FALSE NEIGHBOUR: 'it returns false'. Refute it at one input. -/
def pathsTellsWrong : ChangeSpec := { name := "pathsTells", fn := fun _ => fun
  | [d] => { results := [.lit (.bool false)], args := [d] }
  | _ => none }
def PathsTellsWrongFalsely : Prop := pathsTellsRow.holds Try.pinned (OpenSpec.ofChange pathsTellsWrong)

/-- 'tamislaw10.PathsPrune': WHATEVER THE INPUT: true; the input reads as it did. -/
def pathsPruneSpec : ChangeSpec := { name := "pathsPrune", fn := fun _ => fun
  | [d] => { results := [.lit (.bool true)], args := [d] }
  | _ => none }
def pathsPruneRow : OpenClaim := { program := "ytfmlefadifpocaa", sum := "ef87e3632d1f98c8695d843ec837c74902fb0aa0f1ceef224b07859992bf8626", func := "tamis/tamislaw10.PathsPrune", spec := "pathsPrune", unfollowed := true, recurses := true, apart := false }
def PathsPruneSaid : Prop := pathsPruneRow.holds Try.pinned (OpenSpec.ofChange pathsPruneSpec)

/-- ITS FALSE NEIGHBOUR: 'it returns false'. Refute it at one input. -/
def pathsPruneWrong : ChangeSpec := { name := "pathsPrune", fn := fun _ => fun
  | [d] => { results := [.lit (.bool false)], args := [d] }
  | _ => none }
def PathsPruneWrongFalsely : Prop := pathsPruneRow.holds Try.pinned (OpenSpec.ofChange pathsPruneWrong)

/-- 'tamislaw10.PathsRow': WHATEVER THE INPUT: true; the input reads as it did. -/
def pathsRowSpec : ChangeSpec := { name := "pathsRow", fn := fun _ => fun
  | [d] => { results := [.lit (.bool true)], args := [d] }
  | _ => none }
def pathsRowRow : OpenClaim := { program := "ytfmlefadifpocaa", sum := "ef87e3632d1f98c8695d843ec837c74902fb0aa0f1ceef224b07859992bf8626", func := "tamis/tamislaw10.PathsRow", spec := "pathsRow", apart := false }
def PathsRowSaid : Prop := pathsRowRow.holds Try.pinned (OpenSpec.ofChange pathsRowSpec)

/-- ITS FALSE NEIGHBOUR: 'it returns false'. Refute it at one input. -/
def pathsRowWrong : ChangeSpec := { name := "pathsRow", fn := fun _ => fun
  | [d] => { results := [.lit (.bool false)], args := [d] }
  | _ => none }
def PathsRowWrongFalsely : Prop := pathsRowRow.holds Try.pinned (OpenSpec.ofChange pathsRowWrong)

/-- 'tamislaw10.PathsEach': WHATEVER THE INPUT: true; the input reads as it did. -/
def pathsEachSpec : ChangeSpec := { name := "pathsEach", fn := fun _ => fun
  | [d] => { results := [.lit (.bool true)], args := [d] }
  | _ => none }
def pathsEachRow : OpenClaim := { program := "ytfmlefadifpocaa", sum := "ef87e3632d1f98c8695d843ec837c74902fb0aa0f1ceef224b07859992bf8626", func := "tamis/tamislaw10.PathsEach", spec := "pathsEach", recurses := true, apart := false }
def PathsEachSaid : Prop := pathsEachRow.holds Try.pinned (OpenSpec.ofChange pathsEachSpec)

/-- ITS FALSE NEIGHBOUR: 'it returns false'. Refute it at one input. -/
def pathsEachWrong : ChangeSpec := { name := "pathsEach", fn := fun _ => fun
  | [d] => { results := [.lit (.bool false)], args := [d] }
  | _ => none }
def PathsEachWrongFalsely : Prop := pathsEachRow.holds Try.pinned (OpenSpec.ofChange pathsEachWrong)

/- THE SECOND FORM. 'bulk': how many values and letters a reading holds, each counted each time it is reached (what is shared counts as often as it is met; a slice's spare places count too). A statement '..UptoSaid' is the law's where the arguments, and the package variables that the reading takes, are together of bulk at most 1048576: NARROWER than '..Said'. Prove '..Said' where nothing that the law and all that it calls make is longer than what came in: it says more and counts as full. Else prove '..UptoSaid'. A law counts once. -/
mutual
def uptoBulk {H : Type} : DataW H → Nat
  | .lit (.string bytes) => bytes.length + 1
  | .lit _ => 1
  | .nil => 1
  | .ptr d => uptoBulk d + 1
  | .slice elems spare => uptoBulkAll elems + uptoBulkAll spare + 1
  | .agg parts => uptoBulkAll parts + 1
  | .iface _ d => uptoBulk d + 1
  | .map entries => uptoBulkEntries entries + 1
  | .held _ => 1
def uptoBulkAll {H : Type} : List (DataW H) → Nat
  | [] => 0
  | d :: r => uptoBulk d + uptoBulkAll r
def uptoBulkEntries {H : Type} : List (Lit × DataW H) → Nat
  | [] => 0
  | x :: r => uptoBulkEntry x + uptoBulkEntries r
def uptoBulkEntry {H : Type} : Lit × DataW H → Nat
  | (.string bytes, d) => bytes.length + uptoBulk d + 1
  | (_, d) => uptoBulk d + 1
 end
def uptoSmall : (H : Type) → List (DataW H) → Bool := fun _ ds => decide (uptoBulkAll ds ≤ 1048576)
def OpenSpec.upto (s : _root_.Go.ChangeSpec) : _root_.Go.OpenSpec := { _root_.Go.OpenSpec.ofChange s with cond := some uptoSmall }

/-- 'tamislaw10.PathsTells', WHERE WHAT IT READS IS OF BULK AT MOST 1048576: true; the input reads as it did. -/
def pathsTellsUptoRow : OpenClaim := { program := "ytfmlefadifpocaa", sum := "ef87e3632d1f98c8695d843ec837c74902fb0aa0f1ceef224b07859992bf8626", func := "tamis/tamislaw10.PathsTells", spec := "pathsTells", apart := false, narrowed := true }
def PathsTellsUptoSaid : Prop := pathsTellsUptoRow.holds Try.pinned (OpenSpec.upto pathsTellsSpec)

/-- 'tamislaw10.PathsPrune', WHERE WHAT IT READS IS OF BULK AT MOST 1048576: true; the input reads as it did. -/
def pathsPruneUptoRow : OpenClaim := { program := "ytfmlefadifpocaa", sum := "ef87e3632d1f98c8695d843ec837c74902fb0aa0f1ceef224b07859992bf8626", func := "tamis/tamislaw10.PathsPrune", spec := "pathsPrune", unfollowed := true, recurses := true, apart := false, narrowed := true }
def PathsPruneUptoSaid : Prop := pathsPruneUptoRow.holds Try.pinned (OpenSpec.upto pathsPruneSpec)

/-- 'tamislaw10.PathsRow', WHERE WHAT IT READS IS OF BULK AT MOST 1048576: true; the input reads as it did. -/
def pathsRowUptoRow : OpenClaim := { program := "ytfmlefadifpocaa", sum := "ef87e3632d1f98c8695d843ec837c74902fb0aa0f1ceef224b07859992bf8626", func := "tamis/tamislaw10.PathsRow", spec := "pathsRow", apart := false, narrowed := true }
def PathsRowUptoSaid : Prop := pathsRowUptoRow.holds Try.pinned (OpenSpec.upto pathsRowSpec)

/-- 'tamislaw10.PathsEach', WHERE WHAT IT READS IS OF BULK AT MOST 1048576: true; the input reads as it did. -/
def pathsEachUptoRow : OpenClaim := { program := "ytfmlefadifpocaa", sum := "ef87e3632d1f98c8695d843ec837c74902fb0aa0f1ceef224b07859992bf8626", func := "tamis/tamislaw10.PathsEach", spec := "pathsEach", recurses := true, apart := false, narrowed := true }
def PathsEachUptoSaid : Prop := pathsEachUptoRow.holds Try.pinned (OpenSpec.upto pathsEachSpec)

end Rows
end Go.Proofs.Ytfmlefadifpocaa
