/-
  No cell of these rows narrows 'for every input' (looked for: loops, veiled, ifaces, maps, wideKeys, modest, calm, conditions, laid).
  DERIVED. THE GIVEN ROWS OF THIS SEAT. 6 by the template 'for every input the law returns true; each argument reads behind the call as it read before'; 0 by the template 'total and deterministic' (their statements: YtkeigicobcjleaaTotals.lean).
  GIVEN WITH THE SEED: the statements are not yours to turn. If you find one false, say at which input.
  Laid BY PROGRAM, IN A SANDBOX (cutbox-rows.mjs): the forced cells as the released guide's own fill.sh prints them over the translation deba16ed6de16982… (all of the seat's roots in one cut). By AI agents, Wed Nov 11 2026. No macro, syntax, notation, axiom, sorry.
-/
import Derived.Test.YtkeigicobcjleaaChecked
import GoSem.Claim
import GoSem.ClaimJoined
import GoSem.ClaimMapViews
import Derived.JoinedTies
import Derived.KernelRfl
namespace Go.Proofs.Ytkeigicobcjleaa
/- THE CELL 'sum', in the pinned program and in every row, IS THE sha256 OF THE DUMP (.gsa) THAT YtkeigicobcjleaaProg.lean LOADS. Nothing in Lean hashes anything: it is a label: what it is worth is what the hold of that sum in a sandbox is worth. -/
noncomputable def Try.pinned : Pinned := { name := "ytkeigicobcjleaa", sum := "deba16ed6de169829e2ee14ad48a66fa06cb023dc27918b548b748b2de6f3fa6", checked := Try.checked }
namespace Rows
def none {H : Type} : Left H := { results := [], args := [] }

/-- 'tamislaw13.AtomHolds': WHATEVER THE INPUT: true; the input reads as it did. -/
def atomHoldsSpec : ChangeSpec := { name := "atomHolds", fn := fun _ => fun
  | [d1, d2, d3] => { results := [.lit (.bool true)], args := [d1, d2, d3] }
  | _ => none }
def atomHoldsRow : OpenClaim := { program := "ytkeigicobcjleaa", sum := "deba16ed6de169829e2ee14ad48a66fa06cb023dc27918b548b748b2de6f3fa6", func := "tamis/tamislaw13.AtomHolds", spec := "atomHolds", unfollowed := true, recurses := true, plainKeys := false, apart := false }
def AtomHoldsSaid : Prop := atomHoldsRow.holds Try.pinned (OpenSpec.ofChange atomHoldsSpec)

/-- ITS FALSE NEIGHBOUR: 'it returns false'. Refute it at one input. -/
def atomHoldsWrong : ChangeSpec := { name := "atomHolds", fn := fun _ => fun
  | [d1, d2, d3] => { results := [.lit (.bool false)], args := [d1, d2, d3] }
  | _ => none }
def AtomHoldsWrongFalsely : Prop := atomHoldsRow.holds Try.pinned (OpenSpec.ofChange atomHoldsWrong)

/-- 'tamislaw13.AtomMake': WHATEVER THE INPUT: true; the input reads as it did. -/
def atomMakeSpec : ChangeSpec := { name := "atomMake", fn := fun _ => fun
  | [d1, d2] => { results := [.lit (.bool true)], args := [d1, d2] }
  | _ => none }
def atomMakeRow : OpenClaim := { program := "ytkeigicobcjleaa", sum := "deba16ed6de169829e2ee14ad48a66fa06cb023dc27918b548b748b2de6f3fa6", func := "tamis/tamislaw13.AtomMake", spec := "atomMake", unfollowed := true, recurses := true, plainKeys := false, apart := false }
def AtomMakeSaid : Prop := atomMakeRow.holds Try.pinned (OpenSpec.ofChange atomMakeSpec)

/-- ITS FALSE NEIGHBOUR: 'it returns false'. Refute it at one input. -/
def atomMakeWrong : ChangeSpec := { name := "atomMake", fn := fun _ => fun
  | [d1, d2] => { results := [.lit (.bool false)], args := [d1, d2] }
  | _ => none }
def AtomMakeWrongFalsely : Prop := atomMakeRow.holds Try.pinned (OpenSpec.ofChange atomMakeWrong)

/-- 'tamislaw13.AtomValue': WHATEVER THE INPUT: true; the input reads as it did. -/
def atomValueSpec : ChangeSpec := { name := "atomValue", fn := fun _ => fun
  | [d1, d2, d3] => { results := [.lit (.bool true)], args := [d1, d2, d3] }
  | _ => none }
def atomValueRow : OpenClaim := { program := "ytkeigicobcjleaa", sum := "deba16ed6de169829e2ee14ad48a66fa06cb023dc27918b548b748b2de6f3fa6", func := "tamis/tamislaw13.AtomValue", spec := "atomValue", unfollowed := true, recurses := true, plainKeys := false, apart := false }
def AtomValueSaid : Prop := atomValueRow.holds Try.pinned (OpenSpec.ofChange atomValueSpec)

/-- ITS FALSE NEIGHBOUR: 'it returns false'. Refute it at one input. -/
def atomValueWrong : ChangeSpec := { name := "atomValue", fn := fun _ => fun
  | [d1, d2, d3] => { results := [.lit (.bool false)], args := [d1, d2, d3] }
  | _ => none }
def AtomValueWrongFalsely : Prop := atomValueRow.holds Try.pinned (OpenSpec.ofChange atomValueWrong)

/-- 'tamislaw13.AtomTurned': WHATEVER THE INPUT: true; the input reads as it did. -/
def atomTurnedSpec : ChangeSpec := { name := "atomTurned", fn := fun _ => fun
  | [d1, d2] => { results := [.lit (.bool true)], args := [d1, d2] }
  | _ => none }
def atomTurnedRow : OpenClaim := { program := "ytkeigicobcjleaa", sum := "deba16ed6de169829e2ee14ad48a66fa06cb023dc27918b548b748b2de6f3fa6", func := "tamis/tamislaw13.AtomTurned", spec := "atomTurned", unfollowed := true, recurses := true, plainKeys := false, apart := false }
def AtomTurnedSaid : Prop := atomTurnedRow.holds Try.pinned (OpenSpec.ofChange atomTurnedSpec)

/-- ITS FALSE NEIGHBOUR: 'it returns false'. Refute it at one input. -/
def atomTurnedWrong : ChangeSpec := { name := "atomTurned", fn := fun _ => fun
  | [d1, d2] => { results := [.lit (.bool false)], args := [d1, d2] }
  | _ => none }
def AtomTurnedWrongFalsely : Prop := atomTurnedRow.holds Try.pinned (OpenSpec.ofChange atomTurnedWrong)

/-- 'tamislaw13.AtomAgain': WHATEVER THE INPUT: true; the input reads as it did. -/
def atomAgainSpec : ChangeSpec := { name := "atomAgain", fn := fun _ => fun
  | [d1, d2] => { results := [.lit (.bool true)], args := [d1, d2] }
  | _ => none }
def atomAgainRow : OpenClaim := { program := "ytkeigicobcjleaa", sum := "deba16ed6de169829e2ee14ad48a66fa06cb023dc27918b548b748b2de6f3fa6", func := "tamis/tamislaw13.AtomAgain", spec := "atomAgain", unfollowed := true, recurses := true, plainKeys := false, apart := false }
def AtomAgainSaid : Prop := atomAgainRow.holds Try.pinned (OpenSpec.ofChange atomAgainSpec)

/-- ITS FALSE NEIGHBOUR: 'it returns false'. Refute it at one input. -/
def atomAgainWrong : ChangeSpec := { name := "atomAgain", fn := fun _ => fun
  | [d1, d2] => { results := [.lit (.bool false)], args := [d1, d2] }
  | _ => none }
def AtomAgainWrongFalsely : Prop := atomAgainRow.holds Try.pinned (OpenSpec.ofChange atomAgainWrong)

/-- 'tamislaw13.AtomSides': WHATEVER THE INPUT: true; the input reads as it did. -/
def atomSidesSpec : ChangeSpec := { name := "atomSides", fn := fun _ => fun
  | [d1, d2, d3] => { results := [.lit (.bool true)], args := [d1, d2, d3] }
  | _ => none }
def atomSidesRow : OpenClaim := { program := "ytkeigicobcjleaa", sum := "deba16ed6de169829e2ee14ad48a66fa06cb023dc27918b548b748b2de6f3fa6", func := "tamis/tamislaw13.AtomSides", spec := "atomSides", unfollowed := true, recurses := true, plainKeys := false, apart := false }
def AtomSidesSaid : Prop := atomSidesRow.holds Try.pinned (OpenSpec.ofChange atomSidesSpec)

/-- ITS FALSE NEIGHBOUR: 'it returns false'. Refute it at one input. -/
def atomSidesWrong : ChangeSpec := { name := "atomSides", fn := fun _ => fun
  | [d1, d2, d3] => { results := [.lit (.bool false)], args := [d1, d2, d3] }
  | _ => none }
def AtomSidesWrongFalsely : Prop := atomSidesRow.holds Try.pinned (OpenSpec.ofChange atomSidesWrong)

/- THE SECOND FORM. 'bulk': how many values and letters a reading holds, each counted each time it is reached (what is shared counts as often as it is met; a slice's spare places count too). A statement '..UptoSaid' is the law's where the arguments, and the package variables that the reading takes, are together of bulk at most 1048576: NARROWER than '..Said'. Prove '..Said' where nothing that the law and all that it calls make is longer than what came in: it says more and counts as full. Else prove '..UptoSaid'. A law counts once. -/
mutual
def uptoBulk {H : Type} : DataW H → Nat
  | .lit (.string bytes) => bytes.length + 1
  | .lit _ => 1
  | .nil => 1
  | .ptr d => uptoBulk d + 1
  | .slice elems spare => uptoBulkAll elems + uptoBulkAll spare + 1
  | .agg parts => uptoBulkAll parts + 1
  | .iface _ d => uptoBulk d + 1
  | .map entries => uptoBulkEntries entries + 1
  | .held _ => 1
def uptoBulkAll {H : Type} : List (DataW H) → Nat
  | [] => 0
  | d :: r => uptoBulk d + uptoBulkAll r
def uptoBulkEntries {H : Type} : List (Lit × DataW H) → Nat
  | [] => 0
  | x :: r => uptoBulkEntry x + uptoBulkEntries r
def uptoBulkEntry {H : Type} : Lit × DataW H → Nat
  | (.string bytes, d) => bytes.length + uptoBulk d + 1
  | (_, d) => uptoBulk d + 1
 end
def uptoSmall : (H : Type) → List (DataW H) → Bool := fun _ ds => decide (uptoBulkAll ds ≤ 1048576)
def OpenSpec.upto (s : _root_.Go.ChangeSpec) : _root_.Go.OpenSpec := { _root_.Go.OpenSpec.ofChange s with cond := some uptoSmall }

/-- 'tamislaw13.AtomHolds', WHERE WHAT IT READS IS OF BULK AT MOST 1048576: true; the input reads as it did. -/
def atomHoldsUptoRow : OpenClaim := { program := "ytkeigicobcjleaa", sum := "deba16ed6de169829e2ee14ad48a66fa06cb023dc27918b548b748b2de6f3fa6", func := "tamis/tamislaw13.AtomHolds", spec := "atomHolds", unfollowed := true, recurses := true, plainKeys := false, apart := false, narrowed := true }
def AtomHoldsUptoSaid : Prop := atomHoldsUptoRow.holds Try.pinned (OpenSpec.upto atomHoldsSpec)

/-- 'tamislaw13.AtomMake', WHERE WHAT IT READS IS OF BULK AT MOST 1048576: true; the input reads as it did. -/
def atomMakeUptoRow : OpenClaim := { program := "ytkeigicobcjleaa", sum := "deba16ed6de169829e2ee14ad48a66fa06cb023dc27918b548b748b2de6f3fa6", func := "tamis/tamislaw13.AtomMake", spec := "atomMake", unfollowed := true, recurses := true, plainKeys := false, apart := false, narrowed := true }
def AtomMakeUptoSaid : Prop := atomMakeUptoRow.holds Try.pinned (OpenSpec.upto atomMakeSpec)

/-- 'tamislaw13.AtomValue', WHERE WHAT IT READS IS OF BULK AT MOST 1048576: true; the input reads as it did. -/
def atomValueUptoRow : OpenClaim := { program := "ytkeigicobcjleaa", sum := "deba16ed6de169829e2ee14ad48a66fa06cb023dc27918b548b748b2de6f3fa6", func := "tamis/tamislaw13.AtomValue", spec := "atomValue", unfollowed := true, recurses := true, plainKeys := false, apart := false, narrowed := true }
def AtomValueUptoSaid : Prop := atomValueUptoRow.holds Try.pinned (OpenSpec.upto atomValueSpec)

/-- 'tamislaw13.AtomTurned', WHERE WHAT IT READS IS OF BULK AT MOST 1048576: true; the input reads as it did. -/
def atomTurnedUptoRow : OpenClaim := { program := "ytkeigicobcjleaa", sum := "deba16ed6de169829e2ee14ad48a66fa06cb023dc27918b548b748b2de6f3fa6", func := "tamis/tamislaw13.AtomTurned", spec := "atomTurned", unfollowed := true, recurses := true, plainKeys := false, apart := false, narrowed := true }
def AtomTurnedUptoSaid : Prop := atomTurnedUptoRow.holds Try.pinned (OpenSpec.upto atomTurnedSpec)

/-- 'tamislaw13.AtomAgain', WHERE WHAT IT READS IS OF BULK AT MOST 1048576: true; the input reads as it did. -/
def atomAgainUptoRow : OpenClaim := { program := "ytkeigicobcjleaa", sum := "deba16ed6de169829e2ee14ad48a66fa06cb023dc27918b548b748b2de6f3fa6", func := "tamis/tamislaw13.AtomAgain", spec := "atomAgain", unfollowed := true, recurses := true, plainKeys := false, apart := false, narrowed := true }
def AtomAgainUptoSaid : Prop := atomAgainUptoRow.holds Try.pinned (OpenSpec.upto atomAgainSpec)

/-- 'tamislaw13.AtomSides', WHERE WHAT IT READS IS OF BULK AT MOST 1048576: true; the input reads as it did. -/
def atomSidesUptoRow : OpenClaim := { program := "ytkeigicobcjleaa", sum := "deba16ed6de169829e2ee14ad48a66fa06cb023dc27918b548b748b2de6f3fa6", func := "tamis/tamislaw13.AtomSides", spec := "atomSides", unfollowed := true, recurses := true, plainKeys := false, apart := false, narrowed := true }
def AtomSidesUptoSaid : Prop := atomSidesUptoRow.holds Try.pinned (OpenSpec.upto atomSidesSpec)

end Rows
end Go.Proofs.Ytkeigicobcjleaa
