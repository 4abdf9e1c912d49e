/-
  No cell of these rows narrows 'for every input' (looked for: loops, veiled, ifaces, maps, wideKeys, modest, calm, conditions, laid).
  DERIVED. THE GIVEN ROWS OF THIS SEAT. 6 by the template 'for every input the law returns true; each argument reads behind the call as it read before'; 0 by the template 'total and deterministic' (their statements: YtapbeffjnpgglaaTotals.lean).
  GIVEN WITH THE SEED: the statements are not yours to turn. If you find one false, say at which input.
  Laid BY PROGRAM, IN A SANDBOX (cutbox-rows.mjs): the forced cells as the released guide's own fill.sh prints them over the translation f94fd4db0f163ae0… (all of the seat's roots in one cut). By AI agents, Wed Nov 11 2026. No macro, syntax, notation, axiom, sorry.
-/
import Derived.Test.YtapbeffjnpgglaaChecked
import GoSem.Claim
import GoSem.ClaimJoined
import GoSem.ClaimMapViews
import Derived.JoinedTies
import Derived.KernelRfl
namespace Go.Proofs.Ytapbeffjnpgglaa
/- THE CELL 'sum', in the pinned program and in every row, IS THE sha256 OF THE DUMP (.gsa) THAT YtapbeffjnpgglaaProg.lean LOADS. Nothing in Lean hashes anything: it is a label: what it is worth is what the hold of that sum in a sandbox is worth. -/
noncomputable def Try.pinned : Pinned := { name := "ytapbeffjnpgglaa", sum := "f94fd4db0f163ae0b11cb9e47ceec4de575ec07c7916f3e0499d64fb23cbccd7", checked := Try.checked }
namespace Rows
def none {H : Type} : Left H := { results := [], args := [] }

/-- 'tamislaw12.SimpMake': WHATEVER THE INPUT: true; the input reads as it did. -/
def simpMakeSpec : ChangeSpec := { name := "simpMake", fn := fun _ => fun
  | [d1, d2, d3] => { results := [.lit (.bool true)], args := [d1, d2, d3] }
  | _ => none }
def simpMakeRow : OpenClaim := { program := "ytapbeffjnpgglaa", sum := "f94fd4db0f163ae0b11cb9e47ceec4de575ec07c7916f3e0499d64fb23cbccd7", func := "tamis/tamislaw12.SimpMake", spec := "simpMake", unfollowed := true, recurses := true, plainKeys := false, apart := false }
def SimpMakeSaid : Prop := simpMakeRow.holds Try.pinned (OpenSpec.ofChange simpMakeSpec)

/-- ITS FALSE NEIGHBOUR: 'it returns false'. Refute it at one input. -/
def simpMakeWrong : ChangeSpec := { name := "simpMake", fn := fun _ => fun
  | [d1, d2, d3] => { results := [.lit (.bool false)], args := [d1, d2, d3] }
  | _ => none }
def SimpMakeWrongFalsely : Prop := simpMakeRow.holds Try.pinned (OpenSpec.ofChange simpMakeWrong)

/-- 'tamislaw12.SimpValue': WHATEVER THE INPUT: true; the input reads as it did. -/
def simpValueSpec : ChangeSpec := { name := "simpValue", fn := fun _ => fun
  | [d1, d2, d3] => { results := [.lit (.bool true)], args := [d1, d2, d3] }
  | _ => none }
def simpValueRow : OpenClaim := { program := "ytapbeffjnpgglaa", sum := "f94fd4db0f163ae0b11cb9e47ceec4de575ec07c7916f3e0499d64fb23cbccd7", func := "tamis/tamislaw12.SimpValue", spec := "simpValue", unfollowed := true, recurses := true, plainKeys := false, apart := false }
def SimpValueSaid : Prop := simpValueRow.holds Try.pinned (OpenSpec.ofChange simpValueSpec)

/-- ITS FALSE NEIGHBOUR: 'it returns false'. Refute it at one input. -/
def simpValueWrong : ChangeSpec := { name := "simpValue", fn := fun _ => fun
  | [d1, d2, d3] => { results := [.lit (.bool false)], args := [d1, d2, d3] }
  | _ => none }
def SimpValueWrongFalsely : Prop := simpValueRow.holds Try.pinned (OpenSpec.ofChange simpValueWrong)

/-- 'tamislaw12.SimpAll': WHATEVER THE INPUT: true; the input reads as it did. -/
def simpAllSpec : ChangeSpec := { name := "simpAll", fn := fun _ => fun
  | [d1, d2] => { results := [.lit (.bool true)], args := [d1, d2] }
  | _ => none }
def simpAllRow : OpenClaim := { program := "ytapbeffjnpgglaa", sum := "f94fd4db0f163ae0b11cb9e47ceec4de575ec07c7916f3e0499d64fb23cbccd7", func := "tamis/tamislaw12.SimpAll", spec := "simpAll", unfollowed := true, recurses := true, plainKeys := false, apart := false }
def SimpAllSaid : Prop := simpAllRow.holds Try.pinned (OpenSpec.ofChange simpAllSpec)

/-- ITS FALSE NEIGHBOUR: 'it returns false'. Refute it at one input. -/
def simpAllWrong : ChangeSpec := { name := "simpAll", fn := fun _ => fun
  | [d1, d2] => { results := [.lit (.bool false)], args := [d1, d2] }
  | _ => none }
def SimpAllWrongFalsely : Prop := simpAllRow.holds Try.pinned (OpenSpec.ofChange simpAllWrong)

/-- 'tamislaw12.SimpTwice': WHATEVER THE INPUT: true; the input reads as it did. -/
def simpTwiceSpec : ChangeSpec := { name := "simpTwice", fn := fun _ => fun
  | [d] => { results := [.lit (.bool true)], args := [d] }
  | _ => none }
def simpTwiceRow : OpenClaim := { program := "ytapbeffjnpgglaa", sum := "f94fd4db0f163ae0b11cb9e47ceec4de575ec07c7916f3e0499d64fb23cbccd7", func := "tamis/tamislaw12.SimpTwice", spec := "simpTwice", unfollowed := true, recurses := true, plainKeys := false, apart := false }
def SimpTwiceSaid : Prop := simpTwiceRow.holds Try.pinned (OpenSpec.ofChange simpTwiceSpec)

/-- ITS FALSE NEIGHBOUR: 'it returns false'. Refute it at one input. -/
def simpTwiceWrong : ChangeSpec := { name := "simpTwice", fn := fun _ => fun
  | [d] => { results := [.lit (.bool false)], args := [d] }
  | _ => none }
def SimpTwiceWrongFalsely : Prop := simpTwiceRow.holds Try.pinned (OpenSpec.ofChange simpTwiceWrong)

/-- 'tamislaw12.SimpNumbers': WHATEVER THE INPUT: true; the input reads as it did. -/
def simpNumbersSpec : ChangeSpec := { name := "simpNumbers", fn := fun _ => fun
  | [d] => { results := [.lit (.bool true)], args := [d] }
  | _ => none }
def simpNumbersRow : OpenClaim := { program := "ytapbeffjnpgglaa", sum := "f94fd4db0f163ae0b11cb9e47ceec4de575ec07c7916f3e0499d64fb23cbccd7", func := "tamis/tamislaw12.SimpNumbers", spec := "simpNumbers", unfollowed := true, recurses := true, plainKeys := false, apart := false }
def SimpNumbersSaid : Prop := simpNumbersRow.holds Try.pinned (OpenSpec.ofChange simpNumbersSpec)

/-- ITS FALSE NEIGHBOUR: 'it returns false'. Refute it at one input. -/
def simpNumbersWrong : ChangeSpec := { name := "simpNumbers", fn := fun _ => fun
  | [d] => { results := [.lit (.bool false)], args := [d] }
  | _ => none }
def SimpNumbersWrongFalsely : Prop := simpNumbersRow.holds Try.pinned (OpenSpec.ofChange simpNumbersWrong)

/-- 'tamislaw12.SimpSize': WHATEVER THE INPUT: true; the input reads as it did. -/
def simpSizeSpec : ChangeSpec := { name := "simpSize", fn := fun _ => fun
  | [d] => { results := [.lit (.bool true)], args := [d] }
  | _ => none }
def simpSizeRow : OpenClaim := { program := "ytapbeffjnpgglaa", sum := "f94fd4db0f163ae0b11cb9e47ceec4de575ec07c7916f3e0499d64fb23cbccd7", func := "tamis/tamislaw12.SimpSize", spec := "simpSize", unfollowed := true, recurses := true, plainKeys := false, apart := false }
def SimpSizeSaid : Prop := simpSizeRow.holds Try.pinned (OpenSpec.ofChange simpSizeSpec)

/-- ITS FALSE NEIGHBOUR: 'it returns false'. Refute it at one input. -/
def simpSizeWrong : ChangeSpec := { name := "simpSize", fn := fun _ => fun
  | [d] => { results := [.lit (.bool false)], args := [d] }
  | _ => none }
def SimpSizeWrongFalsely : Prop := simpSizeRow.holds Try.pinned (OpenSpec.ofChange simpSizeWrong)

/- THE SECOND FORM. 'bulk': how many values and letters a reading holds, each counted each time it is reached (what is shared counts as often as it is met; a slice's spare places count too). A statement '..UptoSaid' is the law's where the arguments, and the package variables that the reading takes, are together of bulk at most 1048576: NARROWER than '..Said'. Prove '..Said' where nothing that the law and all that it calls make is longer than what came in: it says more and counts as full. Else prove '..UptoSaid'. A law counts once. -/
mutual
def uptoBulk {H : Type} : DataW H → Nat
  | .lit (.string bytes) => bytes.length + 1
  | .lit _ => 1
  | .nil => 1
  | .ptr d => uptoBulk d + 1
  | .slice elems spare => uptoBulkAll elems + uptoBulkAll spare + 1
  | .agg parts => uptoBulkAll parts + 1
  | .iface _ d => uptoBulk d + 1
  | .map entries => uptoBulkEntries entries + 1
  | .held _ => 1
def uptoBulkAll {H : Type} : List (DataW H) → Nat
  | [] => 0
  | d :: r => uptoBulk d + uptoBulkAll r
def uptoBulkEntries {H : Type} : List (Lit × DataW H) → Nat
  | [] => 0
  | x :: r => uptoBulkEntry x + uptoBulkEntries r
def uptoBulkEntry {H : Type} : Lit × DataW H → Nat
  | (.string bytes, d) => bytes.length + uptoBulk d + 1
  | (_, d) => uptoBulk d + 1
 end
def uptoSmall : (H : Type) → List (DataW H) → Bool := fun _ ds => decide (uptoBulkAll ds ≤ 1048576)
def OpenSpec.upto (s : _root_.Go.ChangeSpec) : _root_.Go.OpenSpec := { _root_.Go.OpenSpec.ofChange s with cond := some uptoSmall }

/-- 'tamislaw12.SimpMake', WHERE WHAT IT READS IS OF BULK AT MOST 1048576: true; the input reads as it did. -/
def simpMakeUptoRow : OpenClaim := { program := "ytapbeffjnpgglaa", sum := "f94fd4db0f163ae0b11cb9e47ceec4de575ec07c7916f3e0499d64fb23cbccd7", func := "tamis/tamislaw12.SimpMake", spec := "simpMake", unfollowed := true, recurses := true, plainKeys := false, apart := false, narrowed := true }
def SimpMakeUptoSaid : Prop := simpMakeUptoRow.holds Try.pinned (OpenSpec.upto simpMakeSpec)

/-- 'tamislaw12.SimpValue', WHERE WHAT IT READS IS OF BULK AT MOST 1048576: true; the input reads as it did. -/
def simpValueUptoRow : OpenClaim := { program := "ytapbeffjnpgglaa", sum := "f94fd4db0f163ae0b11cb9e47ceec4de575ec07c7916f3e0499d64fb23cbccd7", func := "tamis/tamislaw12.SimpValue", spec := "simpValue", unfollowed := true, recurses := true, plainKeys := false, apart := false, narrowed := true }
def SimpValueUptoSaid : Prop := simpValueUptoRow.holds Try.pinned (OpenSpec.upto simpValueSpec)

/-- 'tamislaw12.SimpAll', WHERE WHAT IT READS IS OF BULK AT MOST 1048576: true; the input reads as it did. -/
def simpAllUptoRow : OpenClaim := { program := "ytapbeffjnpgglaa", sum := "f94fd4db0f163ae0b11cb9e47ceec4de575ec07c7916f3e0499d64fb23cbccd7", func := "tamis/tamislaw12.SimpAll", spec := "simpAll", unfollowed := true, recurses := true, plainKeys := false, apart := false, narrowed := true }
def SimpAllUptoSaid : Prop := simpAllUptoRow.holds Try.pinned (OpenSpec.upto simpAllSpec)

/-- 'tamislaw12.SimpTwice', WHERE WHAT IT READS IS OF BULK AT MOST 1048576: true; the input reads as it did. -/
def simpTwiceUptoRow : OpenClaim := { program := "ytapbeffjnpgglaa", sum := "f94fd4db0f163ae0b11cb9e47ceec4de575ec07c7916f3e0499d64fb23cbccd7", func := "tamis/tamislaw12.SimpTwice", spec := "simpTwice", unfollowed := true, recurses := true, plainKeys := false, apart := false, narrowed := true }
def SimpTwiceUptoSaid : Prop := simpTwiceUptoRow.holds Try.pinned (OpenSpec.upto simpTwiceSpec)

/-- 'tamislaw12.SimpNumbers', WHERE WHAT IT READS IS OF BULK AT MOST 1048576: true; the input reads as it did. -/
def simpNumbersUptoRow : OpenClaim := { program := "ytapbeffjnpgglaa", sum := "f94fd4db0f163ae0b11cb9e47ceec4de575ec07c7916f3e0499d64fb23cbccd7", func := "tamis/tamislaw12.SimpNumbers", spec := "simpNumbers", unfollowed := true, recurses := true, plainKeys := false, apart := false, narrowed := true }
def SimpNumbersUptoSaid : Prop := simpNumbersUptoRow.holds Try.pinned (OpenSpec.upto simpNumbersSpec)

/-- 'tamislaw12.SimpSize', WHERE WHAT IT READS IS OF BULK AT MOST 1048576: true; the input reads as it did. -/
def simpSizeUptoRow : OpenClaim := { program := "ytapbeffjnpgglaa", sum := "f94fd4db0f163ae0b11cb9e47ceec4de575ec07c7916f3e0499d64fb23cbccd7", func := "tamis/tamislaw12.SimpSize", spec := "simpSize", unfollowed := true, recurses := true, plainKeys := false, apart := false, narrowed := true }
def SimpSizeUptoSaid : Prop := simpSizeUptoRow.holds Try.pinned (OpenSpec.upto simpSizeSpec)

end Rows
end Go.Proofs.Ytapbeffjnpgglaa
