/-
  DERIVED. GIVEN WITH THE SEED: THE CARDS: each row of YtgdgigldodbpeaaDoorRows.lean that lists a variable, with what it lists TIED to the program's text (the seventh form; the later family's looks); each row that meets fmt, with fmt's text TOLD by the authors' own Lean function (tested against real Go, not proved from fmt's source: count such statements apart). THE CARD IS WHAT COUNTS. Prove the row's statement (the work); the ties are given (YtgdgigldodbpeaaDoorTie.lean); close each card by the builder's one call (the guide's Derived/Test/ToyasCard.lean, 'card_holds'). Laid BY PROGRAM, IN A SANDBOX (cutbox-door.mjs). By AI agents, Wed Nov 11 2026. No macro, syntax, notation, axiom, sorry.
-/
import Derived.Test.YtgdgigldodbpeaaDoorRows
import GoSem.ClaimSeven
namespace Go.Proofs.YtgdgigldodbpeaaDoor
namespace Rows

/-- THE TIED CARD OF 'tamislaw03.RecordTells'. -/
def recordTellsCard : Claim7 := { stood := { row := recordTellsRow, standIns := [], harness := (true, "09afddfe84cc98cca8d139d8bdbb4c0819ebacbcdf3cf43e811ae0c1d9354eb8"), looks := false }, kinds := [], alts := [], laidByText := true, laidKinds := [.data], laidTests := true, laidLooks := .later }
def RecordTellsCardSaid : Prop := Claim7.holds Tryd.pinned (.plain (OpenSpec.ofChange recordTellsSpec)) recordTellsCard

/-- THE TIED CARD OF 'tamislaw03.RecordFields'. -/
def recordFieldsCard : Claim7 := { stood := { row := recordFieldsRow, standIns := [], harness := (true, "09afddfe84cc98cca8d139d8bdbb4c0819ebacbcdf3cf43e811ae0c1d9354eb8"), looks := false }, kinds := [], alts := [], laidByText := true, laidKinds := [.data], laidTests := true, laidLooks := .later }
def RecordFieldsCardSaid : Prop := Claim7.holds Tryd.pinned (.plain (OpenSpec.ofChange recordFieldsSpec)) recordFieldsCard

/-- THE TIED CARD OF 'tamislaw03.RecordReads'. -/
def recordReadsCard : Claim7 := { stood := { row := recordReadsRow, standIns := [], harness := (true, "09afddfe84cc98cca8d139d8bdbb4c0819ebacbcdf3cf43e811ae0c1d9354eb8"), looks := false }, kinds := [], alts := [], laidByText := true, laidKinds := [.data], laidTests := true, laidLooks := .later }
def RecordReadsCardSaid : Prop := Claim7.holds Tryd.pinned (.plain (OpenSpec.ofChange recordReadsSpec)) recordReadsCard

/-- THE TIED CARD OF 'tamislaw03.RecordWords'. -/
def recordWordsCard : Claim7 := { stood := { row := recordWordsRow, standIns := [], harness := (true, "09afddfe84cc98cca8d139d8bdbb4c0819ebacbcdf3cf43e811ae0c1d9354eb8"), looks := false }, kinds := [], alts := [], laidByText := true, laidKinds := [.data], laidTests := true, laidLooks := .later }
def RecordWordsCardSaid : Prop := Claim7.holds Tryd.pinned (.plain (OpenSpec.ofChange recordWordsSpec)) recordWordsCard

/-- THE TIED CARD OF 'tamislaw03.RecordBytes'. -/
def recordBytesCard : Claim7 := { stood := { row := recordBytesRow, standIns := [], harness := (true, "09afddfe84cc98cca8d139d8bdbb4c0819ebacbcdf3cf43e811ae0c1d9354eb8"), looks := false }, kinds := [], alts := [], laidByText := true, laidKinds := [.data], laidTests := true, laidLooks := .later }
def RecordBytesCardSaid : Prop := Claim7.holds Tryd.pinned (.plain (OpenSpec.ofChange recordBytesSpec)) recordBytesCard

/-- THE TIED CARD OF 'tamislaw03.RecordUndo'. -/
def recordUndoCard : Claim7 := { stood := { row := recordUndoRow, standIns := [], harness := (true, "09afddfe84cc98cca8d139d8bdbb4c0819ebacbcdf3cf43e811ae0c1d9354eb8"), looks := false }, kinds := [], alts := [], laidByText := true, laidKinds := [.data], laidTests := true, laidLooks := .later }
def RecordUndoCardSaid : Prop := Claim7.holds Tryd.pinned (.plain (OpenSpec.ofChange recordUndoSpec)) recordUndoCard

/-- THE SECOND FORM's CARD OF 'tamislaw03.RecordTells'. -/
def recordTellsUptoCard : Claim7 := { stood := { row := recordTellsUptoRow, standIns := [], harness := (true, "09afddfe84cc98cca8d139d8bdbb4c0819ebacbcdf3cf43e811ae0c1d9354eb8"), looks := false }, kinds := [], alts := [], laidByText := true, laidKinds := [.data], laidTests := true, laidLooks := .later }
def RecordTellsUptoCardSaid : Prop := Claim7.holds Tryd.pinned (.plain (OpenSpec.upto recordTellsSpec)) recordTellsUptoCard

/-- THE SECOND FORM's CARD OF 'tamislaw03.RecordFields'. -/
def recordFieldsUptoCard : Claim7 := { stood := { row := recordFieldsUptoRow, standIns := [], harness := (true, "09afddfe84cc98cca8d139d8bdbb4c0819ebacbcdf3cf43e811ae0c1d9354eb8"), looks := false }, kinds := [], alts := [], laidByText := true, laidKinds := [.data], laidTests := true, laidLooks := .later }
def RecordFieldsUptoCardSaid : Prop := Claim7.holds Tryd.pinned (.plain (OpenSpec.upto recordFieldsSpec)) recordFieldsUptoCard

/-- THE SECOND FORM's CARD OF 'tamislaw03.RecordReads'. -/
def recordReadsUptoCard : Claim7 := { stood := { row := recordReadsUptoRow, standIns := [], harness := (true, "09afddfe84cc98cca8d139d8bdbb4c0819ebacbcdf3cf43e811ae0c1d9354eb8"), looks := false }, kinds := [], alts := [], laidByText := true, laidKinds := [.data], laidTests := true, laidLooks := .later }
def RecordReadsUptoCardSaid : Prop := Claim7.holds Tryd.pinned (.plain (OpenSpec.upto recordReadsSpec)) recordReadsUptoCard

/-- THE SECOND FORM's CARD OF 'tamislaw03.RecordWords'. -/
def recordWordsUptoCard : Claim7 := { stood := { row := recordWordsUptoRow, standIns := [], harness := (true, "09afddfe84cc98cca8d139d8bdbb4c0819ebacbcdf3cf43e811ae0c1d9354eb8"), looks := false }, kinds := [], alts := [], laidByText := true, laidKinds := [.data], laidTests := true, laidLooks := .later }
def RecordWordsUptoCardSaid : Prop := Claim7.holds Tryd.pinned (.plain (OpenSpec.upto recordWordsSpec)) recordWordsUptoCard

/-- THE SECOND FORM's CARD OF 'tamislaw03.RecordBytes'. -/
def recordBytesUptoCard : Claim7 := { stood := { row := recordBytesUptoRow, standIns := [], harness := (true, "09afddfe84cc98cca8d139d8bdbb4c0819ebacbcdf3cf43e811ae0c1d9354eb8"), looks := false }, kinds := [], alts := [], laidByText := true, laidKinds := [.data], laidTests := true, laidLooks := .later }
def RecordBytesUptoCardSaid : Prop := Claim7.holds Tryd.pinned (.plain (OpenSpec.upto recordBytesSpec)) recordBytesUptoCard

/-- THE SECOND FORM's CARD OF 'tamislaw03.RecordUndo'. -/
def recordUndoUptoCard : Claim7 := { stood := { row := recordUndoUptoRow, standIns := [], harness := (true, "09afddfe84cc98cca8d139d8bdbb4c0819ebacbcdf3cf43e811ae0c1d9354eb8"), looks := false }, kinds := [], alts := [], laidByText := true, laidKinds := [.data], laidTests := true, laidLooks := .later }
def RecordUndoUptoCardSaid : Prop := Claim7.holds Tryd.pinned (.plain (OpenSpec.upto recordUndoSpec)) recordUndoUptoCard
end Rows
end Go.Proofs.YtgdgigldodbpeaaDoor
