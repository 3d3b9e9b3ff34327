/-
  DERIVED. GIVEN WITH THE SEED: THE CARDS: each row of YtodgjjkpbcadoaaDoorRows.lean that lists a variable, with what it lists TIED to the program's text (the seventh form; the later family's looks); each row that meets fmt, with fmt's text TOLD by the authors' own Lean function (tested against real Go, not proved from fmt's source: count such statements apart). THE CARD IS WHAT COUNTS. Prove the row's statement (the work); the ties are given (YtodgjjkpbcadoaaDoorTie.lean); close each card by the builder's one call (the guide's Derived/Test/ToyasCard.lean, 'card_holds'). Laid BY PROGRAM, IN A SANDBOX (cutbox-door.mjs). By AI agents, Wed Nov 11 2026. No macro, syntax, notation, axiom, sorry.
-/
import Derived.Test.YtodgjjkpbcadoaaDoorRows
import GoSem.ClaimSeven
namespace Go.Proofs.YtodgjjkpbcadoaaDoor
namespace Rows

/-- THE TIED CARD OF 'damasklaw08.PrintBack'. -/
def printBackCard : Claim7 := { stood := { row := printBackRow, standIns := [], harness := (true, "e44154a8d487f87bf6fe2a66d44f3452a60c0c0bbcf8c61b4e262c406866dee4"), looks := false }, kinds := [], alts := [], laidByText := true, laidKinds := [.data, .data, .data, .data, .data], laidTests := true, laidLooks := .later }
def PrintBackCardSaid : Prop := Claim7.holds Tryd.pinned (.plain (OpenSpec.ofChange printBackSpec)) printBackCard

/-- THE TIED CARD OF 'damasklaw08.PrintTight'. -/
def printTightCard : Claim7 := { stood := { row := printTightRow, standIns := [], harness := (true, "e44154a8d487f87bf6fe2a66d44f3452a60c0c0bbcf8c61b4e262c406866dee4"), looks := false }, kinds := [], alts := [], laidByText := true, laidKinds := [.data, .data, .data, .data, .data], laidTests := true, laidLooks := .later }
def PrintTightCardSaid : Prop := Claim7.holds Tryd.pinned (.plain (OpenSpec.ofChange printTightSpec)) printTightCard

/-- THE TIED CARD OF 'damasklaw08.PrintNeeded'. -/
def printNeededCard : Claim7 := { stood := { row := printNeededRow, standIns := [], harness := (true, "e44154a8d487f87bf6fe2a66d44f3452a60c0c0bbcf8c61b4e262c406866dee4"), looks := false }, kinds := [], alts := [], laidByText := true, laidKinds := [.data, .data, .data, .data, .data], laidTests := true, laidLooks := .later }
def PrintNeededCardSaid : Prop := Claim7.holds Tryd.pinned (.plain (OpenSpec.ofChange printNeededSpec)) printNeededCard

/-- THE SECOND FORM's CARD OF 'damasklaw08.PrintBack'. -/
def printBackUptoCard : Claim7 := { stood := { row := printBackUptoRow, standIns := [], harness := (true, "e44154a8d487f87bf6fe2a66d44f3452a60c0c0bbcf8c61b4e262c406866dee4"), looks := false }, kinds := [], alts := [], laidByText := true, laidKinds := [.data, .data, .data, .data, .data], laidTests := true, laidLooks := .later }
def PrintBackUptoCardSaid : Prop := Claim7.holds Tryd.pinned (.plain (OpenSpec.upto printBackSpec)) printBackUptoCard

/-- THE SECOND FORM's CARD OF 'damasklaw08.PrintTight'. -/
def printTightUptoCard : Claim7 := { stood := { row := printTightUptoRow, standIns := [], harness := (true, "e44154a8d487f87bf6fe2a66d44f3452a60c0c0bbcf8c61b4e262c406866dee4"), looks := false }, kinds := [], alts := [], laidByText := true, laidKinds := [.data, .data, .data, .data, .data], laidTests := true, laidLooks := .later }
def PrintTightUptoCardSaid : Prop := Claim7.holds Tryd.pinned (.plain (OpenSpec.upto printTightSpec)) printTightUptoCard

/-- THE SECOND FORM's CARD OF 'damasklaw08.PrintNeeded'. -/
def printNeededUptoCard : Claim7 := { stood := { row := printNeededUptoRow, standIns := [], harness := (true, "e44154a8d487f87bf6fe2a66d44f3452a60c0c0bbcf8c61b4e262c406866dee4"), looks := false }, kinds := [], alts := [], laidByText := true, laidKinds := [.data, .data, .data, .data, .data], laidTests := true, laidLooks := .later }
def PrintNeededUptoCardSaid : Prop := Claim7.holds Tryd.pinned (.plain (OpenSpec.upto printNeededSpec)) printNeededUptoCard
end Rows
end Go.Proofs.YtodgjjkpbcadoaaDoor
