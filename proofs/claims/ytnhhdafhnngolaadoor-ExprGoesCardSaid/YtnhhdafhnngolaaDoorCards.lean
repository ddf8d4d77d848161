/-
  DERIVED. GIVEN WITH THE SEED: THE CARDS: each row of YtnhhdafhnngolaaDoorRows.lean that lists a variable, with what it lists TIED to the program's text (the seventh form; the later family's looks); each row that meets fmt, with fmt's text TOLD by the authors' own Lean function (tested against real Go, not proved from fmt's source: count such statements apart). THE CARD IS WHAT COUNTS. Prove the row's statement (the work); the ties are given (YtnhhdafhnngolaaDoorTie.lean); close each card by the builder's one call (the guide's Derived/Test/ToyasCard.lean, 'card_holds'). Laid BY PROGRAM, IN A SANDBOX (cutbox-door.mjs). By AI agents, Wed Nov 11 2026. No macro, syntax, notation, axiom, sorry.
-/
import Derived.Test.YtnhhdafhnngolaaDoorRows
import GoSem.ClaimSeven
namespace Go.Proofs.YtnhhdafhnngolaaDoor
namespace Rows

/-- THE TIED CARD OF 'blazonlaw08.ExprParses'. -/
def exprParsesCard : Claim7 := { stood := { row := exprParsesRow, standIns := [], harness := (true, "6e6e7093cabb6c2a3da2a11b38f1d267777dc82829157d54fc75e96a57c010fa"), looks := true }, kinds := [], alts := [], laidByText := true, laidKinds := [.data, .data, .data, .sentinel, .sentinel, .data], laidTests := true, laidLooks := .later }
def ExprParsesCardSaid : Prop := Claim7.holds Tryd.pinned (.plain (OpenSpec.ofChange exprParsesSpec)) exprParsesCard

/-- THE TIED CARD OF 'blazonlaw08.ExprGoes'. -/
def exprGoesCard : Claim7 := { stood := { row := exprGoesRow, standIns := [], harness := (true, "6e6e7093cabb6c2a3da2a11b38f1d267777dc82829157d54fc75e96a57c010fa"), looks := true }, kinds := [], alts := [], laidByText := true, laidKinds := [.data, .data, .data, .sentinel, .sentinel, .data], laidTests := true, laidLooks := .later }
def ExprGoesCardSaid : Prop := Claim7.holds Tryd.pinned (.plain (OpenSpec.ofChange exprGoesSpec)) exprGoesCard

/-- THE TIED CARD OF 'blazonlaw08.ExprInside'. -/
def exprInsideCard : Claim7 := { stood := { row := exprInsideRow, standIns := [], harness := (true, "6e6e7093cabb6c2a3da2a11b38f1d267777dc82829157d54fc75e96a57c010fa"), looks := true }, kinds := [], alts := [], laidByText := true, laidKinds := [.data, .data, .data, .sentinel, .sentinel, .data], laidTests := true, laidLooks := .later }
def ExprInsideCardSaid : Prop := Claim7.holds Tryd.pinned (.plain (OpenSpec.ofChange exprInsideSpec)) exprInsideCard

/-- THE TIED CARD OF 'blazonlaw08.ExprBrackets'. -/
def exprBracketsCard : Claim7 := { stood := { row := exprBracketsRow, standIns := [], harness := (true, "6e6e7093cabb6c2a3da2a11b38f1d267777dc82829157d54fc75e96a57c010fa"), looks := true }, kinds := [], alts := [], laidByText := true, laidKinds := [.data, .data, .data, .sentinel, .sentinel, .data], laidTests := true, laidLooks := .later }
def ExprBracketsCardSaid : Prop := Claim7.holds Tryd.pinned (.plain (OpenSpec.ofChange exprBracketsSpec)) exprBracketsCard

/-- THE TIED CARD OF 'blazonlaw08.ExprLater'. -/
def exprLaterCard : Claim7 := { stood := { row := exprLaterRow, standIns := [], harness := (true, "6e6e7093cabb6c2a3da2a11b38f1d267777dc82829157d54fc75e96a57c010fa"), looks := true }, kinds := [], alts := [], laidByText := true, laidKinds := [.data, .data, .data, .sentinel, .sentinel, .data], laidTests := true, laidLooks := .later }
def ExprLaterCardSaid : Prop := Claim7.holds Tryd.pinned (.plain (OpenSpec.ofChange exprLaterSpec)) exprLaterCard

/-- THE TIED CARD OF 'blazonlaw09.StmtDeep'. -/
def stmtDeepCard : Claim7 := { stood := { row := stmtDeepRow, standIns := [], harness := (true, "6e6e7093cabb6c2a3da2a11b38f1d267777dc82829157d54fc75e96a57c010fa"), looks := true }, kinds := [], alts := [], laidByText := true, laidKinds := [.data, .data, .data, .sentinel, .sentinel, .data], laidTests := true, laidLooks := .later }
def StmtDeepCardSaid : Prop := Claim7.holds Tryd.pinned (.plain (OpenSpec.ofChange stmtDeepSpec)) stmtDeepCard

/-- THE TIED CARD OF 'blazonlaw09.StmtNil'. -/
def stmtNilCard : Claim7 := { stood := { row := stmtNilRow, standIns := [], harness := (true, "6e6e7093cabb6c2a3da2a11b38f1d267777dc82829157d54fc75e96a57c010fa"), looks := true }, kinds := [], alts := [], laidByText := true, laidKinds := [.data, .data, .data, .sentinel, .sentinel, .data], laidTests := true, laidLooks := .later }
def StmtNilCardSaid : Prop := Claim7.holds Tryd.pinned (.plain (OpenSpec.ofChange stmtNilSpec)) stmtNilCard

/-- THE SECOND FORM's CARD OF 'blazonlaw08.ExprParses'. -/
def exprParsesUptoCard : Claim7 := { stood := { row := exprParsesUptoRow, standIns := [], harness := (true, "6e6e7093cabb6c2a3da2a11b38f1d267777dc82829157d54fc75e96a57c010fa"), looks := true }, kinds := [], alts := [], laidByText := true, laidKinds := [.data, .data, .data, .sentinel, .sentinel, .data], laidTests := true, laidLooks := .later }
def ExprParsesUptoCardSaid : Prop := Claim7.holds Tryd.pinned (.plain (OpenSpec.upto exprParsesSpec)) exprParsesUptoCard

/-- THE SECOND FORM's CARD OF 'blazonlaw08.ExprGoes'. -/
def exprGoesUptoCard : Claim7 := { stood := { row := exprGoesUptoRow, standIns := [], harness := (true, "6e6e7093cabb6c2a3da2a11b38f1d267777dc82829157d54fc75e96a57c010fa"), looks := true }, kinds := [], alts := [], laidByText := true, laidKinds := [.data, .data, .data, .sentinel, .sentinel, .data], laidTests := true, laidLooks := .later }
def ExprGoesUptoCardSaid : Prop := Claim7.holds Tryd.pinned (.plain (OpenSpec.upto exprGoesSpec)) exprGoesUptoCard

/-- THE SECOND FORM's CARD OF 'blazonlaw08.ExprInside'. -/
def exprInsideUptoCard : Claim7 := { stood := { row := exprInsideUptoRow, standIns := [], harness := (true, "6e6e7093cabb6c2a3da2a11b38f1d267777dc82829157d54fc75e96a57c010fa"), looks := true }, kinds := [], alts := [], laidByText := true, laidKinds := [.data, .data, .data, .sentinel, .sentinel, .data], laidTests := true, laidLooks := .later }
def ExprInsideUptoCardSaid : Prop := Claim7.holds Tryd.pinned (.plain (OpenSpec.upto exprInsideSpec)) exprInsideUptoCard

/-- THE SECOND FORM's CARD OF 'blazonlaw08.ExprBrackets'. -/
def exprBracketsUptoCard : Claim7 := { stood := { row := exprBracketsUptoRow, standIns := [], harness := (true, "6e6e7093cabb6c2a3da2a11b38f1d267777dc82829157d54fc75e96a57c010fa"), looks := true }, kinds := [], alts := [], laidByText := true, laidKinds := [.data, .data, .data, .sentinel, .sentinel, .data], laidTests := true, laidLooks := .later }
def ExprBracketsUptoCardSaid : Prop := Claim7.holds Tryd.pinned (.plain (OpenSpec.upto exprBracketsSpec)) exprBracketsUptoCard

/-- THE SECOND FORM's CARD OF 'blazonlaw08.ExprLater'. -/
def exprLaterUptoCard : Claim7 := { stood := { row := exprLaterUptoRow, standIns := [], harness := (true, "6e6e7093cabb6c2a3da2a11b38f1d267777dc82829157d54fc75e96a57c010fa"), looks := true }, kinds := [], alts := [], laidByText := true, laidKinds := [.data, .data, .data, .sentinel, .sentinel, .data], laidTests := true, laidLooks := .later }
def ExprLaterUptoCardSaid : Prop := Claim7.holds Tryd.pinned (.plain (OpenSpec.upto exprLaterSpec)) exprLaterUptoCard

/-- THE SECOND FORM's CARD OF 'blazonlaw09.StmtDeep'. -/
def stmtDeepUptoCard : Claim7 := { stood := { row := stmtDeepUptoRow, standIns := [], harness := (true, "6e6e7093cabb6c2a3da2a11b38f1d267777dc82829157d54fc75e96a57c010fa"), looks := true }, kinds := [], alts := [], laidByText := true, laidKinds := [.data, .data, .data, .sentinel, .sentinel, .data], laidTests := true, laidLooks := .later }
def StmtDeepUptoCardSaid : Prop := Claim7.holds Tryd.pinned (.plain (OpenSpec.upto stmtDeepSpec)) stmtDeepUptoCard

/-- THE SECOND FORM's CARD OF 'blazonlaw09.StmtNil'. -/
def stmtNilUptoCard : Claim7 := { stood := { row := stmtNilUptoRow, standIns := [], harness := (true, "6e6e7093cabb6c2a3da2a11b38f1d267777dc82829157d54fc75e96a57c010fa"), looks := true }, kinds := [], alts := [], laidByText := true, laidKinds := [.data, .data, .data, .sentinel, .sentinel, .data], laidTests := true, laidLooks := .later }
def StmtNilUptoCardSaid : Prop := Claim7.holds Tryd.pinned (.plain (OpenSpec.upto stmtNilSpec)) stmtNilUptoCard
end Rows
end Go.Proofs.YtnhhdafhnngolaaDoor
