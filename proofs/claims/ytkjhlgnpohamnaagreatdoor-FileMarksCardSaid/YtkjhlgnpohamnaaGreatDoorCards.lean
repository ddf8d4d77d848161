/-
  DERIVED. GIVEN WITH THE SEED: THE CARDS: each row of YtkjhlgnpohamnaaGreatDoorRows.lean that lists a variable, with what it lists TIED to the program's text (the seventh form; the later family's looks); each row that meets fmt, with fmt's text TOLD by the authors' own Lean function (tested against real Go, not proved from fmt's source: count such statements apart). THE CARD IS WHAT COUNTS. Prove the row's statement (the work); the ties are given (YtkjhlgnpohamnaaGreatDoorTie.lean); close each card by the builder's one call (the guide's Derived/Test/ToyasCard.lean, 'card_holds'). Laid BY PROGRAM, IN A SANDBOX (cutbox-door.mjs). By AI agents, Wed Nov 11 2026. No macro, syntax, notation, axiom, sorry.
-/
import Derived.Test.YtkjhlgnpohamnaaGreatDoorRows
import GoSem.ClaimSeven
namespace Go.Proofs.YtkjhlgnpohamnaaGreatDoor
namespace Rows

/-- THE TIED CARD OF 'blazonlaw10.FileMarks'. -/
def fileMarksCard : Claim7 := { stood := { row := fileMarksRow, standIns := [], harness := (true, "5180fe1d4fd40f2fb542c715bb0782d055040786f516cbca6fc98d5739d3f17e"), looks := true }, kinds := [], alts := [], laidByText := true, laidKinds := [.data, .data, .data, .sentinel, .sentinel, .data], laidTests := true, laidLooks := .later }
def FileMarksCardSaid : Prop := Claim7.holds Tryz.pinned (.plain (OpenSpec.ofChange fileMarksSpec)) fileMarksCard

/-- THE TIED CARD OF 'blazonlaw10.FileLater'. -/
def fileLaterCard : Claim7 := { stood := { row := fileLaterRow, standIns := [], harness := (true, "5180fe1d4fd40f2fb542c715bb0782d055040786f516cbca6fc98d5739d3f17e"), looks := true }, kinds := [], alts := [], laidByText := true, laidKinds := [.data, .data, .data, .sentinel, .sentinel, .data], laidTests := true, laidLooks := .later }
def FileLaterCardSaid : Prop := Claim7.holds Tryz.pinned (.plain (OpenSpec.ofChange fileLaterSpec)) fileLaterCard

/-- THE TIED CARD OF 'blazonlaw12.EraseCores'. -/
def eraseCoresCard : Claim7 := { stood := { row := eraseCoresRow, standIns := [], harness := (true, "5180fe1d4fd40f2fb542c715bb0782d055040786f516cbca6fc98d5739d3f17e"), looks := true }, kinds := [], alts := [], laidByText := true, laidKinds := [.data, .data, .data, .sentinel, .sentinel, .sentinel, .data], laidTests := true, laidLooks := .later }
def EraseCoresCardSaid : Prop := Claim7.holds Tryz.pinned (.plain (OpenSpec.ofChange eraseCoresSpec)) eraseCoresCard

/-- THE TIED CARD OF 'blazonlaw12.EraseRelabels'. -/
def eraseRelabelsCard : Claim7 := { stood := { row := eraseRelabelsRow, standIns := [], harness := (true, "5180fe1d4fd40f2fb542c715bb0782d055040786f516cbca6fc98d5739d3f17e"), looks := true }, kinds := [], alts := [], laidByText := true, laidKinds := [.data, .data, .data, .sentinel, .sentinel, .sentinel, .data], laidTests := true, laidLooks := .later }
def EraseRelabelsCardSaid : Prop := Claim7.holds Tryz.pinned (.plain (OpenSpec.ofChange eraseRelabelsSpec)) eraseRelabelsCard

/-- THE TIED CARD OF 'blazonlaw12.EraseStrips'. -/
def eraseStripsCard : Claim7 := { stood := { row := eraseStripsRow, standIns := [], harness := (true, "5180fe1d4fd40f2fb542c715bb0782d055040786f516cbca6fc98d5739d3f17e"), looks := true }, kinds := [], alts := [], laidByText := true, laidKinds := [.data, .data, .data, .sentinel, .sentinel, .sentinel, .data], laidTests := true, laidLooks := .later }
def EraseStripsCardSaid : Prop := Claim7.holds Tryz.pinned (.plain (OpenSpec.ofChange eraseStripsSpec)) eraseStripsCard

/-- THE TIED CARD OF 'blazonlaw12.EraseKeeps'. -/
def eraseKeepsCard : Claim7 := { stood := { row := eraseKeepsRow, standIns := [], harness := (true, "5180fe1d4fd40f2fb542c715bb0782d055040786f516cbca6fc98d5739d3f17e"), looks := true }, kinds := [], alts := [], laidByText := true, laidKinds := [.data, .data, .data, .sentinel, .sentinel, .sentinel, .data], laidTests := true, laidLooks := .later }
def EraseKeepsCardSaid : Prop := Claim7.holds Tryz.pinned (.plain (OpenSpec.ofChange eraseKeepsSpec)) eraseKeepsCard

/-- THE TIED CARD OF 'blazonlaw12.EraseTwo'. -/
def eraseTwoCard : Claim7 := { stood := { row := eraseTwoRow, standIns := [], harness := (true, "5180fe1d4fd40f2fb542c715bb0782d055040786f516cbca6fc98d5739d3f17e"), looks := true }, kinds := [], alts := [], laidByText := true, laidKinds := [.data, .data, .data, .sentinel, .sentinel, .sentinel, .data], laidTests := true, laidLooks := .later }
def EraseTwoCardSaid : Prop := Claim7.holds Tryz.pinned (.plain (OpenSpec.ofChange eraseTwoSpec)) eraseTwoCard

/-- THE SECOND FORM's CARD OF 'blazonlaw10.FileMarks'. -/
def fileMarksUptoCard : Claim7 := { stood := { row := fileMarksUptoRow, standIns := [], harness := (true, "5180fe1d4fd40f2fb542c715bb0782d055040786f516cbca6fc98d5739d3f17e"), looks := true }, kinds := [], alts := [], laidByText := true, laidKinds := [.data, .data, .data, .sentinel, .sentinel, .data], laidTests := true, laidLooks := .later }
def FileMarksUptoCardSaid : Prop := Claim7.holds Tryz.pinned (.plain (OpenSpec.upto fileMarksSpec)) fileMarksUptoCard

/-- THE SECOND FORM's CARD OF 'blazonlaw10.FileLater'. -/
def fileLaterUptoCard : Claim7 := { stood := { row := fileLaterUptoRow, standIns := [], harness := (true, "5180fe1d4fd40f2fb542c715bb0782d055040786f516cbca6fc98d5739d3f17e"), looks := true }, kinds := [], alts := [], laidByText := true, laidKinds := [.data, .data, .data, .sentinel, .sentinel, .data], laidTests := true, laidLooks := .later }
def FileLaterUptoCardSaid : Prop := Claim7.holds Tryz.pinned (.plain (OpenSpec.upto fileLaterSpec)) fileLaterUptoCard

/-- THE SECOND FORM's CARD OF 'blazonlaw12.EraseCores'. -/
def eraseCoresUptoCard : Claim7 := { stood := { row := eraseCoresUptoRow, standIns := [], harness := (true, "5180fe1d4fd40f2fb542c715bb0782d055040786f516cbca6fc98d5739d3f17e"), looks := true }, kinds := [], alts := [], laidByText := true, laidKinds := [.data, .data, .data, .sentinel, .sentinel, .sentinel, .data], laidTests := true, laidLooks := .later }
def EraseCoresUptoCardSaid : Prop := Claim7.holds Tryz.pinned (.plain (OpenSpec.upto eraseCoresSpec)) eraseCoresUptoCard

/-- THE SECOND FORM's CARD OF 'blazonlaw12.EraseRelabels'. -/
def eraseRelabelsUptoCard : Claim7 := { stood := { row := eraseRelabelsUptoRow, standIns := [], harness := (true, "5180fe1d4fd40f2fb542c715bb0782d055040786f516cbca6fc98d5739d3f17e"), looks := true }, kinds := [], alts := [], laidByText := true, laidKinds := [.data, .data, .data, .sentinel, .sentinel, .sentinel, .data], laidTests := true, laidLooks := .later }
def EraseRelabelsUptoCardSaid : Prop := Claim7.holds Tryz.pinned (.plain (OpenSpec.upto eraseRelabelsSpec)) eraseRelabelsUptoCard

/-- THE SECOND FORM's CARD OF 'blazonlaw12.EraseStrips'. -/
def eraseStripsUptoCard : Claim7 := { stood := { row := eraseStripsUptoRow, standIns := [], harness := (true, "5180fe1d4fd40f2fb542c715bb0782d055040786f516cbca6fc98d5739d3f17e"), looks := true }, kinds := [], alts := [], laidByText := true, laidKinds := [.data, .data, .data, .sentinel, .sentinel, .sentinel, .data], laidTests := true, laidLooks := .later }
def EraseStripsUptoCardSaid : Prop := Claim7.holds Tryz.pinned (.plain (OpenSpec.upto eraseStripsSpec)) eraseStripsUptoCard

/-- THE SECOND FORM's CARD OF 'blazonlaw12.EraseKeeps'. -/
def eraseKeepsUptoCard : Claim7 := { stood := { row := eraseKeepsUptoRow, standIns := [], harness := (true, "5180fe1d4fd40f2fb542c715bb0782d055040786f516cbca6fc98d5739d3f17e"), looks := true }, kinds := [], alts := [], laidByText := true, laidKinds := [.data, .data, .data, .sentinel, .sentinel, .sentinel, .data], laidTests := true, laidLooks := .later }
def EraseKeepsUptoCardSaid : Prop := Claim7.holds Tryz.pinned (.plain (OpenSpec.upto eraseKeepsSpec)) eraseKeepsUptoCard

/-- THE SECOND FORM's CARD OF 'blazonlaw12.EraseTwo'. -/
def eraseTwoUptoCard : Claim7 := { stood := { row := eraseTwoUptoRow, standIns := [], harness := (true, "5180fe1d4fd40f2fb542c715bb0782d055040786f516cbca6fc98d5739d3f17e"), looks := true }, kinds := [], alts := [], laidByText := true, laidKinds := [.data, .data, .data, .sentinel, .sentinel, .sentinel, .data], laidTests := true, laidLooks := .later }
def EraseTwoUptoCardSaid : Prop := Claim7.holds Tryz.pinned (.plain (OpenSpec.upto eraseTwoSpec)) eraseTwoUptoCard
end Rows
end Go.Proofs.YtkjhlgnpohamnaaGreatDoor
