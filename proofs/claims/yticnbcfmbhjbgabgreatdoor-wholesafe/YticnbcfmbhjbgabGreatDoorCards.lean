/-
  DERIVED. GIVEN WITH THE SEED: THE CARDS: each row of YticnbcfmbhjbgabGreatDoorRows.lean that lists a variable, with what it lists TIED to the program's text (the seventh form; the later family's looks); each row that meets fmt, with fmt's text TOLD by the authors' own Lean function (tested against real Go, not proved from fmt's source: count such statements apart). THE CARD IS WHAT COUNTS. Prove the row's statement (the work); the ties are given (YticnbcfmbhjbgabGreatDoorTie.lean); close each card by the builder's one call (the guide's Derived/Test/ToyasCard.lean, 'card_holds'). Laid BY PROGRAM, IN A SANDBOX (cutbox-door.mjs). By AI agents, Wed Nov 11 2026. No macro, syntax, notation, axiom, sorry.
-/
import Derived.Test.YticnbcfmbhjbgabGreatDoorRows
import GoSem.ClaimSeven
namespace Go.Proofs.YticnbcfmbhjbgabGreatDoor
namespace Rows

/-- THE TIED CARD OF 'damasklaw22.CompileNil'. -/
def compileNilCard : Claim7 := { stood := { row := compileNilRow, standIns := [], harness := (true, "6caba0d8c991c641dc6c5abd36e0ef1dcf68a06afdad00f64d30bbd83d61df35"), looks := false }, kinds := [], alts := [], laidByText := true, laidKinds := [.data, .data, .data, .data, .data], laidTests := true, laidLooks := .later }
def CompileNilCardSaid : Prop := Claim7.holds Tryz.pinned (.plain (OpenSpec.ofChange compileNilSpec)) compileNilCard

/-- THE TIED CARD OF 'damasktop.WholeCompiles'. -/
def wholeCompilesCard : Claim7 := { stood := { row := wholeCompilesRow, standIns := [], harness := (true, "6caba0d8c991c641dc6c5abd36e0ef1dcf68a06afdad00f64d30bbd83d61df35"), looks := false }, kinds := [], alts := [], laidByText := true, laidKinds := [.data, .data, .data, .data, .data], laidTests := true, laidLooks := .later }
def WholeCompilesCardSaid : Prop := Claim7.holds Tryz.pinned (.plain (OpenSpec.ofChange wholeCompilesSpec)) wholeCompilesCard

/-- THE TIED CARD OF 'damasktop.WholeMeans'. -/
def wholeMeansCard : Claim7 := { stood := { row := wholeMeansRow, standIns := [], harness := (true, "6caba0d8c991c641dc6c5abd36e0ef1dcf68a06afdad00f64d30bbd83d61df35"), looks := false }, kinds := [], alts := [], laidByText := true, laidKinds := [.data, .data, .data, .data, .data], laidTests := true, laidLooks := .later }
def WholeMeansCardSaid : Prop := Claim7.holds Tryz.pinned (.plain (OpenSpec.ofChange wholeMeansSpec)) wholeMeansCard

/-- THE TIED CARD OF 'damasktop.WholeSafe'. -/
def wholeSafeCard : Claim7 := { stood := { row := wholeSafeRow, standIns := [], harness := (true, "6caba0d8c991c641dc6c5abd36e0ef1dcf68a06afdad00f64d30bbd83d61df35"), looks := false }, kinds := [], alts := [], laidByText := true, laidKinds := [.data, .data, .data, .data, .data], laidTests := true, laidLooks := .later }
def WholeSafeCardSaid : Prop := Claim7.holds Tryz.pinned (.plain (OpenSpec.ofChange wholeSafeSpec)) wholeSafeCard

/-- THE TIED CARD OF 'damasktop.WholePrints'. -/
def wholePrintsCard : Claim7 := { stood := { row := wholePrintsRow, standIns := [], harness := (true, "6caba0d8c991c641dc6c5abd36e0ef1dcf68a06afdad00f64d30bbd83d61df35"), looks := false }, kinds := [], alts := [], laidByText := true, laidKinds := [.data, .data, .data, .data, .data], laidTests := true, laidLooks := .later }
def WholePrintsCardSaid : Prop := Claim7.holds Tryz.pinned (.plain (OpenSpec.ofChange wholePrintsSpec)) wholePrintsCard

/-- THE TIED CARD OF 'damasktop.WholePasses'. -/
def wholePassesCard : Claim7 := { stood := { row := wholePassesRow, standIns := [], harness := (true, "6caba0d8c991c641dc6c5abd36e0ef1dcf68a06afdad00f64d30bbd83d61df35"), looks := false }, kinds := [], alts := [], laidByText := true, laidKinds := [.data, .data, .data, .data, .data], laidTests := true, laidLooks := .later }
def WholePassesCardSaid : Prop := Claim7.holds Tryz.pinned (.plain (OpenSpec.ofChange wholePassesSpec)) wholePassesCard

/-- THE SECOND FORM's CARD OF 'damasklaw22.CompileNil'. -/
def compileNilUptoCard : Claim7 := { stood := { row := compileNilUptoRow, standIns := [], harness := (true, "6caba0d8c991c641dc6c5abd36e0ef1dcf68a06afdad00f64d30bbd83d61df35"), looks := false }, kinds := [], alts := [], laidByText := true, laidKinds := [.data, .data, .data, .data, .data], laidTests := true, laidLooks := .later }
def CompileNilUptoCardSaid : Prop := Claim7.holds Tryz.pinned (.plain (OpenSpec.upto compileNilSpec)) compileNilUptoCard

/-- THE SECOND FORM's CARD OF 'damasktop.WholeCompiles'. -/
def wholeCompilesUptoCard : Claim7 := { stood := { row := wholeCompilesUptoRow, standIns := [], harness := (true, "6caba0d8c991c641dc6c5abd36e0ef1dcf68a06afdad00f64d30bbd83d61df35"), looks := false }, kinds := [], alts := [], laidByText := true, laidKinds := [.data, .data, .data, .data, .data], laidTests := true, laidLooks := .later }
def WholeCompilesUptoCardSaid : Prop := Claim7.holds Tryz.pinned (.plain (OpenSpec.upto wholeCompilesSpec)) wholeCompilesUptoCard

/-- THE SECOND FORM's CARD OF 'damasktop.WholeMeans'. -/
def wholeMeansUptoCard : Claim7 := { stood := { row := wholeMeansUptoRow, standIns := [], harness := (true, "6caba0d8c991c641dc6c5abd36e0ef1dcf68a06afdad00f64d30bbd83d61df35"), looks := false }, kinds := [], alts := [], laidByText := true, laidKinds := [.data, .data, .data, .data, .data], laidTests := true, laidLooks := .later }
def WholeMeansUptoCardSaid : Prop := Claim7.holds Tryz.pinned (.plain (OpenSpec.upto wholeMeansSpec)) wholeMeansUptoCard

/-- THE SECOND FORM's CARD OF 'damasktop.WholeSafe'. -/
def wholeSafeUptoCard : Claim7 := { stood := { row := wholeSafeUptoRow, standIns := [], harness := (true, "6caba0d8c991c641dc6c5abd36e0ef1dcf68a06afdad00f64d30bbd83d61df35"), looks := false }, kinds := [], alts := [], laidByText := true, laidKinds := [.data, .data, .data, .data, .data], laidTests := true, laidLooks := .later }
def WholeSafeUptoCardSaid : Prop := Claim7.holds Tryz.pinned (.plain (OpenSpec.upto wholeSafeSpec)) wholeSafeUptoCard

/-- THE SECOND FORM's CARD OF 'damasktop.WholePrints'. -/
def wholePrintsUptoCard : Claim7 := { stood := { row := wholePrintsUptoRow, standIns := [], harness := (true, "6caba0d8c991c641dc6c5abd36e0ef1dcf68a06afdad00f64d30bbd83d61df35"), looks := false }, kinds := [], alts := [], laidByText := true, laidKinds := [.data, .data, .data, .data, .data], laidTests := true, laidLooks := .later }
def WholePrintsUptoCardSaid : Prop := Claim7.holds Tryz.pinned (.plain (OpenSpec.upto wholePrintsSpec)) wholePrintsUptoCard

/-- THE SECOND FORM's CARD OF 'damasktop.WholePasses'. -/
def wholePassesUptoCard : Claim7 := { stood := { row := wholePassesUptoRow, standIns := [], harness := (true, "6caba0d8c991c641dc6c5abd36e0ef1dcf68a06afdad00f64d30bbd83d61df35"), looks := false }, kinds := [], alts := [], laidByText := true, laidKinds := [.data, .data, .data, .data, .data], laidTests := true, laidLooks := .later }
def WholePassesUptoCardSaid : Prop := Claim7.holds Tryz.pinned (.plain (OpenSpec.upto wholePassesSpec)) wholePassesUptoCard
end Rows
end Go.Proofs.YticnbcfmbhjbgabGreatDoor
