/-
  DERIVED. GIVEN WITH THE SEED: THE CARDS: each row of YtmnggldejflooaaGreatDoorRows.lean that lists a variable, with what it lists TIED to the program's text (the seventh form; the later family's looks); each row that meets fmt, with fmt's text TOLD by the authors' own Lean function (tested against real Go, not proved from fmt's source: count such statements apart). THE CARD IS WHAT COUNTS. Prove the row's statement (the work); the ties are given (YtmnggldejflooaaGreatDoorTie.lean); close each card by the builder's one call (the guide's Derived/Test/ToyasCard.lean, 'card_holds'). Laid BY PROGRAM, IN A SANDBOX (cutbox-door.mjs). By AI agents, Wed Nov 11 2026. No macro, syntax, notation, axiom, sorry.
-/
import Derived.Test.YtmnggldejflooaaGreatDoorRows
import GoSem.ClaimSeven
namespace Go.Proofs.YtmnggldejflooaaGreatDoor
namespace Rows

/-- THE TIED CARD OF 'blazonlaw09.StmtGoes'. -/
def stmtGoesCard : Claim7 := { stood := { row := stmtGoesRow, standIns := [], harness := (true, "f6c86e64f63db0dd8f9d789c71655be2e59e4da124136730f4d5f1857b218f61"), looks := true }, kinds := [], alts := [], laidByText := true, laidKinds := [.data, .data, .data, .sentinel, .sentinel, .data], laidTests := true, laidLooks := .later }
def StmtGoesCardSaid : Prop := Claim7.holds Tryz.pinned (.plain (OpenSpec.ofChange stmtGoesSpec)) stmtGoesCard

/-- THE TIED CARD OF 'blazonlaw10.FileMarks'. -/
def fileMarksCard : Claim7 := { stood := { row := fileMarksRow, standIns := [], harness := (true, "f6c86e64f63db0dd8f9d789c71655be2e59e4da124136730f4d5f1857b218f61"), looks := true }, kinds := [], alts := [], laidByText := true, laidKinds := [.data, .data, .data, .sentinel, .sentinel, .data], laidTests := true, laidLooks := .later }
def FileMarksCardSaid : Prop := Claim7.holds Tryz.pinned (.plain (OpenSpec.ofChange fileMarksSpec)) fileMarksCard

/-- THE TIED CARD OF 'blazonlaw10.FileJoins'. -/
def fileJoinsCard : Claim7 := { stood := { row := fileJoinsRow, standIns := [], harness := (true, "f6c86e64f63db0dd8f9d789c71655be2e59e4da124136730f4d5f1857b218f61"), looks := true }, kinds := [], alts := [], laidByText := true, laidKinds := [.data, .data, .data, .sentinel, .sentinel, .data], laidTests := true, laidLooks := .later }
def FileJoinsCardSaid : Prop := Claim7.holds Tryz.pinned (.plain (OpenSpec.ofChange fileJoinsSpec)) fileJoinsCard

/-- THE TIED CARD OF 'blazonlaw10.FileLater'. -/
def fileLaterCard : Claim7 := { stood := { row := fileLaterRow, standIns := [], harness := (true, "f6c86e64f63db0dd8f9d789c71655be2e59e4da124136730f4d5f1857b218f61"), looks := true }, kinds := [], alts := [], laidByText := true, laidKinds := [.data, .data, .data, .sentinel, .sentinel, .data], laidTests := true, laidLooks := .later }
def FileLaterCardSaid : Prop := Claim7.holds Tryz.pinned (.plain (OpenSpec.ofChange fileLaterSpec)) fileLaterCard

/-- THE TIED CARD OF 'blazonlaw11.ShowFiles'. -/
def showFilesCard : Claim7 := { stood := { row := showFilesRow, standIns := [], harness := (true, "f6c86e64f63db0dd8f9d789c71655be2e59e4da124136730f4d5f1857b218f61"), looks := true }, kinds := [], alts := [], laidByText := true, laidKinds := [.data, .data, .data, .sentinel, .sentinel, .data, .data], laidTests := true, laidLooks := .later }
def ShowFilesCardSaid : Prop := Claim7.holds Tryz.pinned (.plain (OpenSpec.ofChange showFilesSpec)) showFilesCard

/-- THE TIED CARD OF 'blazonlaw11.ShowBack'. -/
def showBackCard : Claim7 := { stood := { row := showBackRow, standIns := [], harness := (true, "f6c86e64f63db0dd8f9d789c71655be2e59e4da124136730f4d5f1857b218f61"), looks := true }, kinds := [], alts := [], laidByText := true, laidKinds := [.data, .data, .data, .sentinel, .sentinel, .data, .data], laidTests := true, laidLooks := .later }
def ShowBackCardSaid : Prop := Claim7.holds Tryz.pinned (.plain (OpenSpec.ofChange showBackSpec)) showBackCard

/-- THE SECOND FORM's CARD OF 'blazonlaw09.StmtGoes'. -/
def stmtGoesUptoCard : Claim7 := { stood := { row := stmtGoesUptoRow, standIns := [], harness := (true, "f6c86e64f63db0dd8f9d789c71655be2e59e4da124136730f4d5f1857b218f61"), looks := true }, kinds := [], alts := [], laidByText := true, laidKinds := [.data, .data, .data, .sentinel, .sentinel, .data], laidTests := true, laidLooks := .later }
def StmtGoesUptoCardSaid : Prop := Claim7.holds Tryz.pinned (.plain (OpenSpec.upto stmtGoesSpec)) stmtGoesUptoCard

/-- THE SECOND FORM's CARD OF 'blazonlaw10.FileMarks'. -/
def fileMarksUptoCard : Claim7 := { stood := { row := fileMarksUptoRow, standIns := [], harness := (true, "f6c86e64f63db0dd8f9d789c71655be2e59e4da124136730f4d5f1857b218f61"), looks := true }, kinds := [], alts := [], laidByText := true, laidKinds := [.data, .data, .data, .sentinel, .sentinel, .data], laidTests := true, laidLooks := .later }
def FileMarksUptoCardSaid : Prop := Claim7.holds Tryz.pinned (.plain (OpenSpec.upto fileMarksSpec)) fileMarksUptoCard

/-- THE SECOND FORM's CARD OF 'blazonlaw10.FileJoins'. -/
def fileJoinsUptoCard : Claim7 := { stood := { row := fileJoinsUptoRow, standIns := [], harness := (true, "f6c86e64f63db0dd8f9d789c71655be2e59e4da124136730f4d5f1857b218f61"), looks := true }, kinds := [], alts := [], laidByText := true, laidKinds := [.data, .data, .data, .sentinel, .sentinel, .data], laidTests := true, laidLooks := .later }
def FileJoinsUptoCardSaid : Prop := Claim7.holds Tryz.pinned (.plain (OpenSpec.upto fileJoinsSpec)) fileJoinsUptoCard

/-- THE SECOND FORM's CARD OF 'blazonlaw10.FileLater'. -/
def fileLaterUptoCard : Claim7 := { stood := { row := fileLaterUptoRow, standIns := [], harness := (true, "f6c86e64f63db0dd8f9d789c71655be2e59e4da124136730f4d5f1857b218f61"), looks := true }, kinds := [], alts := [], laidByText := true, laidKinds := [.data, .data, .data, .sentinel, .sentinel, .data], laidTests := true, laidLooks := .later }
def FileLaterUptoCardSaid : Prop := Claim7.holds Tryz.pinned (.plain (OpenSpec.upto fileLaterSpec)) fileLaterUptoCard

/-- THE SECOND FORM's CARD OF 'blazonlaw11.ShowFiles'. -/
def showFilesUptoCard : Claim7 := { stood := { row := showFilesUptoRow, standIns := [], harness := (true, "f6c86e64f63db0dd8f9d789c71655be2e59e4da124136730f4d5f1857b218f61"), looks := true }, kinds := [], alts := [], laidByText := true, laidKinds := [.data, .data, .data, .sentinel, .sentinel, .data, .data], laidTests := true, laidLooks := .later }
def ShowFilesUptoCardSaid : Prop := Claim7.holds Tryz.pinned (.plain (OpenSpec.upto showFilesSpec)) showFilesUptoCard

/-- THE SECOND FORM's CARD OF 'blazonlaw11.ShowBack'. -/
def showBackUptoCard : Claim7 := { stood := { row := showBackUptoRow, standIns := [], harness := (true, "f6c86e64f63db0dd8f9d789c71655be2e59e4da124136730f4d5f1857b218f61"), looks := true }, kinds := [], alts := [], laidByText := true, laidKinds := [.data, .data, .data, .sentinel, .sentinel, .data, .data], laidTests := true, laidLooks := .later }
def ShowBackUptoCardSaid : Prop := Claim7.holds Tryz.pinned (.plain (OpenSpec.upto showBackSpec)) showBackUptoCard
end Rows
end Go.Proofs.YtmnggldejflooaaGreatDoor
