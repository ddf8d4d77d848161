/-
  DERIVED. GIVEN WITH THE SEED: THE CARDS: each row of YtpllkjfdaenalaaGreatDoorRows.lean that lists a variable, with what it lists TIED to the program's text (the seventh form; the later family's looks); each row that meets fmt, with fmt's text TOLD by the authors' own Lean function (tested against real Go, not proved from fmt's source: count such statements apart). THE CARD IS WHAT COUNTS. Prove the row's statement (the work); the ties are given (YtpllkjfdaenalaaGreatDoorTie.lean); close each card by the builder's one call (the guide's Derived/Test/ToyasCard.lean, 'card_holds'). Laid BY PROGRAM, IN A SANDBOX (cutbox-door.mjs). By AI agents, Wed Nov 11 2026. No macro, syntax, notation, axiom, sorry.
-/
import Derived.Test.YtpllkjfdaenalaaGreatDoorRows
import GoSem.ClaimSeven
namespace Go.Proofs.YtpllkjfdaenalaaGreatDoor
namespace Rows

/-- THE TIED CARD OF 'blazonlaw09.StmtParses'. -/
def stmtParsesCard : Claim7 := { stood := { row := stmtParsesRow, standIns := [], harness := (true, "af891d9d66e892ad68e957e5dba39c957d7467fea8ce9dd9c0bd187af63bd66d"), looks := true }, kinds := [], alts := [], laidByText := true, laidKinds := [.data, .data, .data, .sentinel, .sentinel, .data], laidTests := true, laidLooks := .later }
def StmtParsesCardSaid : Prop := Claim7.holds Tryz.pinned (.plain (OpenSpec.ofChange stmtParsesSpec)) stmtParsesCard

/-- THE TIED CARD OF 'blazonlaw09.StmtGoes'. -/
def stmtGoesCard : Claim7 := { stood := { row := stmtGoesRow, standIns := [], harness := (true, "af891d9d66e892ad68e957e5dba39c957d7467fea8ce9dd9c0bd187af63bd66d"), looks := true }, kinds := [], alts := [], laidByText := true, laidKinds := [.data, .data, .data, .sentinel, .sentinel, .data], laidTests := true, laidLooks := .later }
def StmtGoesCardSaid : Prop := Claim7.holds Tryz.pinned (.plain (OpenSpec.ofChange stmtGoesSpec)) stmtGoesCard

/-- THE TIED CARD OF 'blazonlaw10.FileMarks'. -/
def fileMarksCard : Claim7 := { stood := { row := fileMarksRow, standIns := [], harness := (true, "af891d9d66e892ad68e957e5dba39c957d7467fea8ce9dd9c0bd187af63bd66d"), looks := true }, kinds := [], alts := [], laidByText := true, laidKinds := [.data, .data, .data, .sentinel, .sentinel, .data], laidTests := true, laidLooks := .later }
def FileMarksCardSaid : Prop := Claim7.holds Tryz.pinned (.plain (OpenSpec.ofChange fileMarksSpec)) fileMarksCard

/-- THE TIED CARD OF 'blazonlaw10.FileJoins'. -/
def fileJoinsCard : Claim7 := { stood := { row := fileJoinsRow, standIns := [], harness := (true, "af891d9d66e892ad68e957e5dba39c957d7467fea8ce9dd9c0bd187af63bd66d"), looks := true }, kinds := [], alts := [], laidByText := true, laidKinds := [.data, .data, .data, .sentinel, .sentinel, .data], laidTests := true, laidLooks := .later }
def FileJoinsCardSaid : Prop := Claim7.holds Tryz.pinned (.plain (OpenSpec.ofChange fileJoinsSpec)) fileJoinsCard

/-- THE TIED CARD OF 'blazonlaw10.FileLater'. -/
def fileLaterCard : Claim7 := { stood := { row := fileLaterRow, standIns := [], harness := (true, "af891d9d66e892ad68e957e5dba39c957d7467fea8ce9dd9c0bd187af63bd66d"), looks := true }, kinds := [], alts := [], laidByText := true, laidKinds := [.data, .data, .data, .sentinel, .sentinel, .data], laidTests := true, laidLooks := .later }
def FileLaterCardSaid : Prop := Claim7.holds Tryz.pinned (.plain (OpenSpec.ofChange fileLaterSpec)) fileLaterCard

/-- THE SECOND FORM's CARD OF 'blazonlaw09.StmtParses'. -/
def stmtParsesUptoCard : Claim7 := { stood := { row := stmtParsesUptoRow, standIns := [], harness := (true, "af891d9d66e892ad68e957e5dba39c957d7467fea8ce9dd9c0bd187af63bd66d"), looks := true }, kinds := [], alts := [], laidByText := true, laidKinds := [.data, .data, .data, .sentinel, .sentinel, .data], laidTests := true, laidLooks := .later }
def StmtParsesUptoCardSaid : Prop := Claim7.holds Tryz.pinned (.plain (OpenSpec.upto stmtParsesSpec)) stmtParsesUptoCard

/-- THE SECOND FORM's CARD OF 'blazonlaw09.StmtGoes'. -/
def stmtGoesUptoCard : Claim7 := { stood := { row := stmtGoesUptoRow, standIns := [], harness := (true, "af891d9d66e892ad68e957e5dba39c957d7467fea8ce9dd9c0bd187af63bd66d"), looks := true }, kinds := [], alts := [], laidByText := true, laidKinds := [.data, .data, .data, .sentinel, .sentinel, .data], laidTests := true, laidLooks := .later }
def StmtGoesUptoCardSaid : Prop := Claim7.holds Tryz.pinned (.plain (OpenSpec.upto stmtGoesSpec)) stmtGoesUptoCard

/-- THE SECOND FORM's CARD OF 'blazonlaw10.FileMarks'. -/
def fileMarksUptoCard : Claim7 := { stood := { row := fileMarksUptoRow, standIns := [], harness := (true, "af891d9d66e892ad68e957e5dba39c957d7467fea8ce9dd9c0bd187af63bd66d"), looks := true }, kinds := [], alts := [], laidByText := true, laidKinds := [.data, .data, .data, .sentinel, .sentinel, .data], laidTests := true, laidLooks := .later }
def FileMarksUptoCardSaid : Prop := Claim7.holds Tryz.pinned (.plain (OpenSpec.upto fileMarksSpec)) fileMarksUptoCard

/-- THE SECOND FORM's CARD OF 'blazonlaw10.FileJoins'. -/
def fileJoinsUptoCard : Claim7 := { stood := { row := fileJoinsUptoRow, standIns := [], harness := (true, "af891d9d66e892ad68e957e5dba39c957d7467fea8ce9dd9c0bd187af63bd66d"), looks := true }, kinds := [], alts := [], laidByText := true, laidKinds := [.data, .data, .data, .sentinel, .sentinel, .data], laidTests := true, laidLooks := .later }
def FileJoinsUptoCardSaid : Prop := Claim7.holds Tryz.pinned (.plain (OpenSpec.upto fileJoinsSpec)) fileJoinsUptoCard

/-- THE SECOND FORM's CARD OF 'blazonlaw10.FileLater'. -/
def fileLaterUptoCard : Claim7 := { stood := { row := fileLaterUptoRow, standIns := [], harness := (true, "af891d9d66e892ad68e957e5dba39c957d7467fea8ce9dd9c0bd187af63bd66d"), looks := true }, kinds := [], alts := [], laidByText := true, laidKinds := [.data, .data, .data, .sentinel, .sentinel, .data], laidTests := true, laidLooks := .later }
def FileLaterUptoCardSaid : Prop := Claim7.holds Tryz.pinned (.plain (OpenSpec.upto fileLaterSpec)) fileLaterUptoCard
end Rows
end Go.Proofs.YtpllkjfdaenalaaGreatDoor
