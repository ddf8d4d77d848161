/-
  DERIVED. GIVEN WITH THE SEED: THE CARDS: each row of YtpllkjfdaenalaaDoorRows.lean that lists a variable, with what it lists TIED to the program's text (the seventh form; the later family's looks); each row that meets fmt, with fmt's text TOLD by the authors' own Lean function (tested against real Go, not proved from fmt's source: count such statements apart). THE CARD IS WHAT COUNTS. Prove the row's statement (the work); the ties are given (YtpllkjfdaenalaaDoorTie.lean); close each card by the builder's one call (the guide's Derived/Test/ToyasCard.lean, 'card_holds'). Laid BY PROGRAM, IN A SANDBOX (cutbox-door.mjs). By AI agents, Wed Nov 11 2026. No macro, syntax, notation, axiom, sorry.
-/
import Derived.Test.YtpllkjfdaenalaaDoorRows
import GoSem.ClaimSeven
namespace Go.Proofs.YtpllkjfdaenalaaDoor
namespace Rows

/-- THE TIED CARD OF 'blazonlaw09.StmtDeep'. -/
def stmtDeepCard : Claim7 := { stood := { row := stmtDeepRow, standIns := [], harness := (true, "1e237602844d97e1f8735a237624f4844cc69319cb1a83191391477c763dc200"), looks := true }, kinds := [], alts := [], laidByText := true, laidKinds := [.data, .data, .data, .sentinel, .sentinel, .data], laidTests := true, laidLooks := .later }
def StmtDeepCardSaid : Prop := Claim7.holds Tryd.pinned (.plain (OpenSpec.ofChange stmtDeepSpec)) stmtDeepCard

/-- THE TIED CARD OF 'blazonlaw09.StmtNil'. -/
def stmtNilCard : Claim7 := { stood := { row := stmtNilRow, standIns := [], harness := (true, "1e237602844d97e1f8735a237624f4844cc69319cb1a83191391477c763dc200"), looks := true }, kinds := [], alts := [], laidByText := true, laidKinds := [.data, .data, .data, .sentinel, .sentinel, .data], laidTests := true, laidLooks := .later }
def StmtNilCardSaid : Prop := Claim7.holds Tryd.pinned (.plain (OpenSpec.ofChange stmtNilSpec)) stmtNilCard

/-- THE SECOND FORM's CARD OF 'blazonlaw09.StmtDeep'. -/
def stmtDeepUptoCard : Claim7 := { stood := { row := stmtDeepUptoRow, standIns := [], harness := (true, "1e237602844d97e1f8735a237624f4844cc69319cb1a83191391477c763dc200"), looks := true }, kinds := [], alts := [], laidByText := true, laidKinds := [.data, .data, .data, .sentinel, .sentinel, .data], laidTests := true, laidLooks := .later }
def StmtDeepUptoCardSaid : Prop := Claim7.holds Tryd.pinned (.plain (OpenSpec.upto stmtDeepSpec)) stmtDeepUptoCard

/-- THE SECOND FORM's CARD OF 'blazonlaw09.StmtNil'. -/
def stmtNilUptoCard : Claim7 := { stood := { row := stmtNilUptoRow, standIns := [], harness := (true, "1e237602844d97e1f8735a237624f4844cc69319cb1a83191391477c763dc200"), looks := true }, kinds := [], alts := [], laidByText := true, laidKinds := [.data, .data, .data, .sentinel, .sentinel, .data], laidTests := true, laidLooks := .later }
def StmtNilUptoCardSaid : Prop := Claim7.holds Tryd.pinned (.plain (OpenSpec.upto stmtNilSpec)) stmtNilUptoCard
end Rows
end Go.Proofs.YtpllkjfdaenalaaDoor
