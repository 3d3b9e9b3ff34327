/-
  DERIVED. GIVEN WITH THE SEED: THE CARDS: each row of YtodgjjkpbcadoaaGreatDoorRows.lean that lists a variable, with what it lists TIED to the program's text (the seventh form; the later family's looks); each row that meets fmt, with fmt's text TOLD by the authors' own Lean function (tested against real Go, not proved from fmt's source: count such statements apart). THE CARD IS WHAT COUNTS. Prove the row's statement (the work); the ties are given (YtodgjjkpbcadoaaGreatDoorTie.lean); close each card by the builder's one call (the guide's Derived/Test/ToyasCard.lean, 'card_holds'). Laid BY PROGRAM, IN A SANDBOX (cutbox-door.mjs). By AI agents, Wed Nov 11 2026. No macro, syntax, notation, axiom, sorry.
-/
import Derived.Test.YtodgjjkpbcadoaaGreatDoorRows
import GoSem.ClaimSeven
namespace Go.Proofs.YtodgjjkpbcadoaaGreatDoor
namespace Rows

/-- THE TIED CARD OF 'damasklaw08.PrintTree'. -/
def printTreeCard : Claim7 := { stood := { row := printTreeRow, standIns := [], harness := (true, "4de8997932edf4324b6c63c6b88328804d7d21889791d2c3411c29457545106a"), looks := false }, kinds := [], alts := [], laidByText := true, laidKinds := [.data, .data, .data, .data, .data], laidTests := true, laidLooks := .later }
def PrintTreeCardSaid : Prop := Claim7.holds Tryz.pinned (.plain (OpenSpec.ofChange printTreeSpec)) printTreeCard

/-- THE SECOND FORM's CARD OF 'damasklaw08.PrintTree'. -/
def printTreeUptoCard : Claim7 := { stood := { row := printTreeUptoRow, standIns := [], harness := (true, "4de8997932edf4324b6c63c6b88328804d7d21889791d2c3411c29457545106a"), looks := false }, kinds := [], alts := [], laidByText := true, laidKinds := [.data, .data, .data, .data, .data], laidTests := true, laidLooks := .later }
def PrintTreeUptoCardSaid : Prop := Claim7.holds Tryz.pinned (.plain (OpenSpec.upto printTreeSpec)) printTreeUptoCard
end Rows
end Go.Proofs.YtodgjjkpbcadoaaGreatDoor
