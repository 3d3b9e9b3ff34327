/-
  DERIVED. GIVEN WITH THE SEED: THE CARDS: each row of YticnbcfmbhjbgaaGreatDoorRows.lean that lists a variable, with what it lists TIED to the program's text (the seventh form; the later family's looks); each row that meets fmt, with fmt's text TOLD by the authors' own Lean function (tested against real Go, not proved from fmt's source: count such statements apart). THE CARD IS WHAT COUNTS. Prove the row's statement (the work); the ties are given (YticnbcfmbhjbgaaGreatDoorTie.lean); close each card by the builder's one call (the guide's Derived/Test/ToyasCard.lean, 'card_holds'). Laid BY PROGRAM, IN A SANDBOX (cutbox-door.mjs). By AI agents, Wed Nov 11 2026. No macro, syntax, notation, axiom, sorry.
-/
import Derived.Test.YticnbcfmbhjbgaaGreatDoorRows
import GoSem.ClaimSeven
namespace Go.Proofs.YticnbcfmbhjbgaaGreatDoor
namespace Rows

/-- THE TIED CARD OF 'damasklaw22.CompileTexts'. -/
def compileTextsCard : Claim7 := { stood := { row := compileTextsRow, standIns := [], harness := (true, "4b4d50b13205981607742cec7c46c8f47c816c5e04720f4b4ee68fd3de935e13"), looks := false }, kinds := [], alts := [], laidByText := true, laidKinds := [.data, .data, .data, .data, .data], laidTests := true, laidLooks := .later }
def CompileTextsCardSaid : Prop := Claim7.holds Tryz.pinned (.plain (OpenSpec.ofChange compileTextsSpec)) compileTextsCard

/-- THE TIED CARD OF 'damasklaw22.CompileLoads'. -/
def compileLoadsCard : Claim7 := { stood := { row := compileLoadsRow, standIns := [], harness := (true, "4b4d50b13205981607742cec7c46c8f47c816c5e04720f4b4ee68fd3de935e13"), looks := false }, kinds := [], alts := [], laidByText := true, laidKinds := [.data, .data, .data, .data, .data], laidTests := true, laidLooks := .later }
def CompileLoadsCardSaid : Prop := Claim7.holds Tryz.pinned (.plain (OpenSpec.ofChange compileLoadsSpec)) compileLoadsCard

/-- THE TIED CARD OF 'damasklaw22.CompileNames'. -/
def compileNamesCard : Claim7 := { stood := { row := compileNamesRow, standIns := [], harness := (true, "4b4d50b13205981607742cec7c46c8f47c816c5e04720f4b4ee68fd3de935e13"), looks := false }, kinds := [], alts := [], laidByText := true, laidKinds := [.data, .data, .data, .data, .data], laidTests := true, laidLooks := .later }
def CompileNamesCardSaid : Prop := Claim7.holds Tryz.pinned (.plain (OpenSpec.ofChange compileNamesSpec)) compileNamesCard

/-- THE TIED CARD OF 'damasklaw22.CompileMeans'. -/
def compileMeansCard : Claim7 := { stood := { row := compileMeansRow, standIns := [], harness := (true, "4b4d50b13205981607742cec7c46c8f47c816c5e04720f4b4ee68fd3de935e13"), looks := false }, kinds := [], alts := [], laidByText := true, laidKinds := [.data, .data, .data, .data, .data], laidTests := true, laidLooks := .later }
def CompileMeansCardSaid : Prop := Claim7.holds Tryz.pinned (.plain (OpenSpec.ofChange compileMeansSpec)) compileMeansCard

/-- THE TIED CARD OF 'damasklaw22.CompileBack'. -/
def compileBackCard : Claim7 := { stood := { row := compileBackRow, standIns := [], harness := (true, "4b4d50b13205981607742cec7c46c8f47c816c5e04720f4b4ee68fd3de935e13"), looks := false }, kinds := [], alts := [], laidByText := true, laidKinds := [.data, .data, .data, .data, .data], laidTests := true, laidLooks := .later }
def CompileBackCardSaid : Prop := Claim7.holds Tryz.pinned (.plain (OpenSpec.ofChange compileBackSpec)) compileBackCard

/-- THE TIED CARD OF 'damasklaw22.CompileKinds'. -/
def compileKindsCard : Claim7 := { stood := { row := compileKindsRow, standIns := [], harness := (true, "4b4d50b13205981607742cec7c46c8f47c816c5e04720f4b4ee68fd3de935e13"), looks := false }, kinds := [], alts := [], laidByText := true, laidKinds := [.data, .data, .data, .data, .data], laidTests := true, laidLooks := .later }
def CompileKindsCardSaid : Prop := Claim7.holds Tryz.pinned (.plain (OpenSpec.ofChange compileKindsSpec)) compileKindsCard

/-- THE SECOND FORM's CARD OF 'damasklaw22.CompileTexts'. -/
def compileTextsUptoCard : Claim7 := { stood := { row := compileTextsUptoRow, standIns := [], harness := (true, "4b4d50b13205981607742cec7c46c8f47c816c5e04720f4b4ee68fd3de935e13"), looks := false }, kinds := [], alts := [], laidByText := true, laidKinds := [.data, .data, .data, .data, .data], laidTests := true, laidLooks := .later }
def CompileTextsUptoCardSaid : Prop := Claim7.holds Tryz.pinned (.plain (OpenSpec.upto compileTextsSpec)) compileTextsUptoCard

/-- THE SECOND FORM's CARD OF 'damasklaw22.CompileLoads'. -/
def compileLoadsUptoCard : Claim7 := { stood := { row := compileLoadsUptoRow, standIns := [], harness := (true, "4b4d50b13205981607742cec7c46c8f47c816c5e04720f4b4ee68fd3de935e13"), looks := false }, kinds := [], alts := [], laidByText := true, laidKinds := [.data, .data, .data, .data, .data], laidTests := true, laidLooks := .later }
def CompileLoadsUptoCardSaid : Prop := Claim7.holds Tryz.pinned (.plain (OpenSpec.upto compileLoadsSpec)) compileLoadsUptoCard

/-- THE SECOND FORM's CARD OF 'damasklaw22.CompileNames'. -/
def compileNamesUptoCard : Claim7 := { stood := { row := compileNamesUptoRow, standIns := [], harness := (true, "4b4d50b13205981607742cec7c46c8f47c816c5e04720f4b4ee68fd3de935e13"), looks := false }, kinds := [], alts := [], laidByText := true, laidKinds := [.data, .data, .data, .data, .data], laidTests := true, laidLooks := .later }
def CompileNamesUptoCardSaid : Prop := Claim7.holds Tryz.pinned (.plain (OpenSpec.upto compileNamesSpec)) compileNamesUptoCard

/-- THE SECOND FORM's CARD OF 'damasklaw22.CompileMeans'. -/
def compileMeansUptoCard : Claim7 := { stood := { row := compileMeansUptoRow, standIns := [], harness := (true, "4b4d50b13205981607742cec7c46c8f47c816c5e04720f4b4ee68fd3de935e13"), looks := false }, kinds := [], alts := [], laidByText := true, laidKinds := [.data, .data, .data, .data, .data], laidTests := true, laidLooks := .later }
def CompileMeansUptoCardSaid : Prop := Claim7.holds Tryz.pinned (.plain (OpenSpec.upto compileMeansSpec)) compileMeansUptoCard

/-- THE SECOND FORM's CARD OF 'damasklaw22.CompileBack'. -/
def compileBackUptoCard : Claim7 := { stood := { row := compileBackUptoRow, standIns := [], harness := (true, "4b4d50b13205981607742cec7c46c8f47c816c5e04720f4b4ee68fd3de935e13"), looks := false }, kinds := [], alts := [], laidByText := true, laidKinds := [.data, .data, .data, .data, .data], laidTests := true, laidLooks := .later }
def CompileBackUptoCardSaid : Prop := Claim7.holds Tryz.pinned (.plain (OpenSpec.upto compileBackSpec)) compileBackUptoCard

/-- THE SECOND FORM's CARD OF 'damasklaw22.CompileKinds'. -/
def compileKindsUptoCard : Claim7 := { stood := { row := compileKindsUptoRow, standIns := [], harness := (true, "4b4d50b13205981607742cec7c46c8f47c816c5e04720f4b4ee68fd3de935e13"), looks := false }, kinds := [], alts := [], laidByText := true, laidKinds := [.data, .data, .data, .data, .data], laidTests := true, laidLooks := .later }
def CompileKindsUptoCardSaid : Prop := Claim7.holds Tryz.pinned (.plain (OpenSpec.upto compileKindsSpec)) compileKindsUptoCard
end Rows
end Go.Proofs.YticnbcfmbhjbgaaGreatDoor
