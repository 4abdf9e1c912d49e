/-
  NARROWER THAN 'FOR EVERY INPUT', by the rows' own cells (each row's printed sentence says how): RecordTells: laid · RecordFields: laid · RecordReads: laid · RecordWords: laid · RecordBytes: laid · RecordUndo: laid.
  DERIVED. THE GIVEN ROWS OF THIS SEAT. 6 by the template 'for every input the law returns true; each argument reads behind the call as it read before'; 0 by the template 'total and deterministic' (their statements: YtgdgigldodbpeaaDoorTotals.lean).
  GIVEN WITH THE SEED: the statements are not yours to turn. If you find one false, say at which input.
  Laid BY PROGRAM, IN A SANDBOX (cutbox-rows.mjs): the forced cells as the released guide's own fill.sh prints them over the translation e98c97556f6d1a9e… (all of the seat's roots in one cut). By AI agents, Wed Nov 11 2026. No macro, syntax, notation, axiom, sorry.
-/
import Derived.Test.YtgdgigldodbpeaaDoorChecked
import GoSem.Claim
import GoSem.ClaimJoined
import GoSem.ClaimMapViews
import Derived.JoinedTies
import Derived.KernelRfl
namespace Go.Proofs.YtgdgigldodbpeaaDoor
/- THE CELL 'sum', in the pinned program and in every row, IS THE sha256 OF THE DUMP (.gsa) THAT YtgdgigldodbpeaaDoorProg.lean LOADS. Nothing in Lean hashes anything: it is a label: what it is worth is what the hold of that sum in a sandbox is worth. -/
noncomputable def Tryd.pinned : Pinned := { name := "ytgdgigldodbpeaadoor", sum := "e98c97556f6d1a9e4cef8ab454867fb6c51ad41cf5ccb06783052a79ac6d4bd4", checked := Tryd.checked }
namespace Rows
def none {H : Type} : Left H := { results := [], args := [] }

/- WHAT THE LISTED PACKAGE-LEVEL VARIABLES READ AS WHEN THE CALL BEGINS. Each datum BY PROGRAM (the guide's laid-datum.mjs) off the statement by which the dump's own 'gosem.cut.vars' lays the variable. In a bare row this is a premise. The card (YtgdgigldodbpeaaDoorCards.lean) ties it to the program's text. -/
def laid_tamis_record_names {H : Type} : DataW H := .agg [.lit (.string [110, 114]), .lit (.string [97, 114, 99, 104]), .lit (.string [105, 112]), .lit (.string [97, 114, 103, 48]), .lit (.string [97, 114, 103, 49]), .lit (.string [97, 114, 103, 50]), .lit (.string [97, 114, 103, 51]), .lit (.string [97, 114, 103, 52]), .lit (.string [97, 114, 103, 53])]

/-- 'tamislaw03.RecordTells': WHATEVER THE INPUT: true; the input reads as it did. -/
def recordTellsSpec : ChangeSpec := { name := "recordTells", fn := fun _ => fun
  | [d1, d2, d3, d4] => { results := [.lit (.bool true)], args := [d1, d2, d3, d4] }
  | _ => none }
def recordTellsRow : OpenClaim := { program := "ytgdgigldodbpeaadoor", sum := "e98c97556f6d1a9e4cef8ab454867fb6c51ad41cf5ccb06783052a79ac6d4bd4", func := "tamis/tamislaw03.RecordTells", spec := "recordTells", named := ["tamis/record.names"], apart := false, laid := [("tamis/record.names", laid_tamis_record_names)] }
def RecordTellsSaid : Prop := recordTellsRow.holds Tryd.pinned (OpenSpec.ofChange recordTellsSpec)

/-- ITS FALSE NEIGHBOUR: 'it returns false'. Refute it at one input. -/
def recordTellsWrong : ChangeSpec := { name := "recordTells", fn := fun _ => fun
  | [d1, d2, d3, d4] => { results := [.lit (.bool false)], args := [d1, d2, d3, d4] }
  | _ => none }
def RecordTellsWrongFalsely : Prop := recordTellsRow.holds Tryd.pinned (OpenSpec.ofChange recordTellsWrong)

/-- 'tamislaw03.RecordFields': WHATEVER THE INPUT: true; the input reads as it did. -/
def recordFieldsSpec : ChangeSpec := { name := "recordFields", fn := fun _ => fun
  | [d1, d2, d3] => { results := [.lit (.bool true)], args := [d1, d2, d3] }
  | _ => none }
def recordFieldsRow : OpenClaim := { program := "ytgdgigldodbpeaadoor", sum := "e98c97556f6d1a9e4cef8ab454867fb6c51ad41cf5ccb06783052a79ac6d4bd4", func := "tamis/tamislaw03.RecordFields", spec := "recordFields", named := ["tamis/record.names"], apart := false, laid := [("tamis/record.names", laid_tamis_record_names)] }
def RecordFieldsSaid : Prop := recordFieldsRow.holds Tryd.pinned (OpenSpec.ofChange recordFieldsSpec)

/-- ITS FALSE NEIGHBOUR: 'it returns false'. Refute it at one input. -/
def recordFieldsWrong : ChangeSpec := { name := "recordFields", fn := fun _ => fun
  | [d1, d2, d3] => { results := [.lit (.bool false)], args := [d1, d2, d3] }
  | _ => none }
def RecordFieldsWrongFalsely : Prop := recordFieldsRow.holds Tryd.pinned (OpenSpec.ofChange recordFieldsWrong)

/-- 'tamislaw03.RecordReads': WHATEVER THE INPUT: true; the input reads as it did. -/
def recordReadsSpec : ChangeSpec := { name := "recordReads", fn := fun _ => fun
  | [d1, d2] => { results := [.lit (.bool true)], args := [d1, d2] }
  | _ => none }
def recordReadsRow : OpenClaim := { program := "ytgdgigldodbpeaadoor", sum := "e98c97556f6d1a9e4cef8ab454867fb6c51ad41cf5ccb06783052a79ac6d4bd4", func := "tamis/tamislaw03.RecordReads", spec := "recordReads", named := ["tamis/record.names"], apart := false, laid := [("tamis/record.names", laid_tamis_record_names)] }
def RecordReadsSaid : Prop := recordReadsRow.holds Tryd.pinned (OpenSpec.ofChange recordReadsSpec)

/-- ITS FALSE NEIGHBOUR: 'it returns false'. Refute it at one input. -/
def recordReadsWrong : ChangeSpec := { name := "recordReads", fn := fun _ => fun
  | [d1, d2] => { results := [.lit (.bool false)], args := [d1, d2] }
  | _ => none }
def RecordReadsWrongFalsely : Prop := recordReadsRow.holds Tryd.pinned (OpenSpec.ofChange recordReadsWrong)

/-- 'tamislaw03.RecordWords': WHATEVER THE INPUT: true; the input reads as it did. -/
def recordWordsSpec : ChangeSpec := { name := "recordWords", fn := fun _ => fun
  | [d1, d2] => { results := [.lit (.bool true)], args := [d1, d2] }
  | _ => none }
def recordWordsRow : OpenClaim := { program := "ytgdgigldodbpeaadoor", sum := "e98c97556f6d1a9e4cef8ab454867fb6c51ad41cf5ccb06783052a79ac6d4bd4", func := "tamis/tamislaw03.RecordWords", spec := "recordWords", named := ["tamis/record.names"], apart := false, laid := [("tamis/record.names", laid_tamis_record_names)] }
def RecordWordsSaid : Prop := recordWordsRow.holds Tryd.pinned (OpenSpec.ofChange recordWordsSpec)

/-- ITS FALSE NEIGHBOUR: 'it returns false'. Refute it at one input. -/
def recordWordsWrong : ChangeSpec := { name := "recordWords", fn := fun _ => fun
  | [d1, d2] => { results := [.lit (.bool false)], args := [d1, d2] }
  | _ => none }
def RecordWordsWrongFalsely : Prop := recordWordsRow.holds Tryd.pinned (OpenSpec.ofChange recordWordsWrong)

/-- 'tamislaw03.RecordBytes': WHATEVER THE INPUT: true; the input reads as it did. -/
def recordBytesSpec : ChangeSpec := { name := "recordBytes", fn := fun _ => fun
  | [d1, d2] => { results := [.lit (.bool true)], args := [d1, d2] }
  | _ => none }
def recordBytesRow : OpenClaim := { program := "ytgdgigldodbpeaadoor", sum := "e98c97556f6d1a9e4cef8ab454867fb6c51ad41cf5ccb06783052a79ac6d4bd4", func := "tamis/tamislaw03.RecordBytes", spec := "recordBytes", named := ["tamis/record.names"], apart := false, laid := [("tamis/record.names", laid_tamis_record_names)] }
def RecordBytesSaid : Prop := recordBytesRow.holds Tryd.pinned (OpenSpec.ofChange recordBytesSpec)

/-- ITS FALSE NEIGHBOUR: 'it returns false'. Refute it at one input. -/
def recordBytesWrong : ChangeSpec := { name := "recordBytes", fn := fun _ => fun
  | [d1, d2] => { results := [.lit (.bool false)], args := [d1, d2] }
  | _ => none }
def RecordBytesWrongFalsely : Prop := recordBytesRow.holds Tryd.pinned (OpenSpec.ofChange recordBytesWrong)

/-- 'tamislaw03.RecordUndo': WHATEVER THE INPUT: true; the input reads as it did. -/
def recordUndoSpec : ChangeSpec := { name := "recordUndo", fn := fun _ => fun
  | [d] => { results := [.lit (.bool true)], args := [d] }
  | _ => none }
def recordUndoRow : OpenClaim := { program := "ytgdgigldodbpeaadoor", sum := "e98c97556f6d1a9e4cef8ab454867fb6c51ad41cf5ccb06783052a79ac6d4bd4", func := "tamis/tamislaw03.RecordUndo", spec := "recordUndo", named := ["tamis/record.names"], apart := false, laid := [("tamis/record.names", laid_tamis_record_names)] }
def RecordUndoSaid : Prop := recordUndoRow.holds Tryd.pinned (OpenSpec.ofChange recordUndoSpec)

/-- ITS FALSE NEIGHBOUR: 'it returns false'. Refute it at one input. -/
def recordUndoWrong : ChangeSpec := { name := "recordUndo", fn := fun _ => fun
  | [d] => { results := [.lit (.bool false)], args := [d] }
  | _ => none }
def RecordUndoWrongFalsely : Prop := recordUndoRow.holds Tryd.pinned (OpenSpec.ofChange recordUndoWrong)

/- THE SECOND FORM. 'bulk': how many values and letters a reading holds, each counted each time it is reached (what is shared counts as often as it is met; a slice's spare places count too). A statement '..UptoSaid' is the law's where the arguments, and the package variables that the reading takes, are together of bulk at most 1048576: NARROWER than '..Said'. Prove '..Said' where nothing that the law and all that it calls make is longer than what came in: it says more and counts as full. Else prove '..UptoSaid'. A law counts once. -/
mutual
def uptoBulk {H : Type} : DataW H → Nat
  | .lit (.string bytes) => bytes.length + 1
  | .lit _ => 1
  | .nil => 1
  | .ptr d => uptoBulk d + 1
  | .slice elems spare => uptoBulkAll elems + uptoBulkAll spare + 1
  | .agg parts => uptoBulkAll parts + 1
  | .iface _ d => uptoBulk d + 1
  | .map entries => uptoBulkEntries entries + 1
  | .held _ => 1
def uptoBulkAll {H : Type} : List (DataW H) → Nat
  | [] => 0
  | d :: r => uptoBulk d + uptoBulkAll r
def uptoBulkEntries {H : Type} : List (Lit × DataW H) → Nat
  | [] => 0
  | x :: r => uptoBulkEntry x + uptoBulkEntries r
def uptoBulkEntry {H : Type} : Lit × DataW H → Nat
  | (.string bytes, d) => bytes.length + uptoBulk d + 1
  | (_, d) => uptoBulk d + 1
 end
def uptoSmall : (H : Type) → List (DataW H) → Bool := fun _ ds => decide (uptoBulkAll ds ≤ 1048576)
def OpenSpec.upto (s : _root_.Go.ChangeSpec) : _root_.Go.OpenSpec := { _root_.Go.OpenSpec.ofChange s with cond := some uptoSmall }

/-- 'tamislaw03.RecordTells', WHERE WHAT IT READS IS OF BULK AT MOST 1048576: true; the input reads as it did. -/
def recordTellsUptoRow : OpenClaim := { program := "ytgdgigldodbpeaadoor", sum := "e98c97556f6d1a9e4cef8ab454867fb6c51ad41cf5ccb06783052a79ac6d4bd4", func := "tamis/tamislaw03.RecordTells", spec := "recordTells", named := ["tamis/record.names"], apart := false, laid := [("tamis/record.names", laid_tamis_record_names)], narrowed := true }
def RecordTellsUptoSaid : Prop := recordTellsUptoRow.holds Tryd.pinned (OpenSpec.upto recordTellsSpec)

/-- 'tamislaw03.RecordFields', WHERE WHAT IT READS IS OF BULK AT MOST 1048576: true; the input reads as it did. -/
def recordFieldsUptoRow : OpenClaim := { program := "ytgdgigldodbpeaadoor", sum := "e98c97556f6d1a9e4cef8ab454867fb6c51ad41cf5ccb06783052a79ac6d4bd4", func := "tamis/tamislaw03.RecordFields", spec := "recordFields", named := ["tamis/record.names"], apart := false, laid := [("tamis/record.names", laid_tamis_record_names)], narrowed := true }
def RecordFieldsUptoSaid : Prop := recordFieldsUptoRow.holds Tryd.pinned (OpenSpec.upto recordFieldsSpec)

/-- 'tamislaw03.RecordReads', WHERE WHAT IT READS IS OF BULK AT MOST 1048576: true; the input reads as it did. -/
def recordReadsUptoRow : OpenClaim := { program := "ytgdgigldodbpeaadoor", sum := "e98c97556f6d1a9e4cef8ab454867fb6c51ad41cf5ccb06783052a79ac6d4bd4", func := "tamis/tamislaw03.RecordReads", spec := "recordReads", named := ["tamis/record.names"], apart := false, laid := [("tamis/record.names", laid_tamis_record_names)], narrowed := true }
def RecordReadsUptoSaid : Prop := recordReadsUptoRow.holds Tryd.pinned (OpenSpec.upto recordReadsSpec)

/-- 'tamislaw03.RecordWords', WHERE WHAT IT READS IS OF BULK AT MOST 1048576: true; the input reads as it did. -/
def recordWordsUptoRow : OpenClaim := { program := "ytgdgigldodbpeaadoor", sum := "e98c97556f6d1a9e4cef8ab454867fb6c51ad41cf5ccb06783052a79ac6d4bd4", func := "tamis/tamislaw03.RecordWords", spec := "recordWords", named := ["tamis/record.names"], apart := false, laid := [("tamis/record.names", laid_tamis_record_names)], narrowed := true }
def RecordWordsUptoSaid : Prop := recordWordsUptoRow.holds Tryd.pinned (OpenSpec.upto recordWordsSpec)

/-- 'tamislaw03.RecordBytes', WHERE WHAT IT READS IS OF BULK AT MOST 1048576: true; the input reads as it did. -/
def recordBytesUptoRow : OpenClaim := { program := "ytgdgigldodbpeaadoor", sum := "e98c97556f6d1a9e4cef8ab454867fb6c51ad41cf5ccb06783052a79ac6d4bd4", func := "tamis/tamislaw03.RecordBytes", spec := "recordBytes", named := ["tamis/record.names"], apart := false, laid := [("tamis/record.names", laid_tamis_record_names)], narrowed := true }
def RecordBytesUptoSaid : Prop := recordBytesUptoRow.holds Tryd.pinned (OpenSpec.upto recordBytesSpec)

/-- 'tamislaw03.RecordUndo', WHERE WHAT IT READS IS OF BULK AT MOST 1048576: true; the input reads as it did. -/
def recordUndoUptoRow : OpenClaim := { program := "ytgdgigldodbpeaadoor", sum := "e98c97556f6d1a9e4cef8ab454867fb6c51ad41cf5ccb06783052a79ac6d4bd4", func := "tamis/tamislaw03.RecordUndo", spec := "recordUndo", named := ["tamis/record.names"], apart := false, laid := [("tamis/record.names", laid_tamis_record_names)], narrowed := true }
def RecordUndoUptoSaid : Prop := recordUndoUptoRow.holds Tryd.pinned (OpenSpec.upto recordUndoSpec)

end Rows
end Go.Proofs.YtgdgigldodbpeaaDoor
