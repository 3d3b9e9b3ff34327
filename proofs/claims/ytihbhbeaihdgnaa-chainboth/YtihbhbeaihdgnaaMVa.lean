/-
  Windows, plainly.
-/
import Derived.Test.YtihbhbeaihdgnaaMKnF
namespace Go.Proofs.Ytihbhbeaihdgnaa
open Go.RowKit Go.IntWalk Knd
set_option linter.unusedVariables false

/-- A window's numbers. -/
structure Wd where
  x : Int
  y : Int
  c : Int
  ps : List Int
abbrev wdA (v : Wd) (a : Option Addr) (n cap : Nat) : Array Value := #[.int .i64 v.x, .int .i64 v.y, .int .i64 v.c, .slice a n cap]
abbrev Fits (f d : Int) (v : Wd) : Prop := Knd.Fit f d v.x v.y v.c v.ps
/-- An input. -/
def inpV (f d : Int) (v : Wd) (k : Int) : Int := if k = 0 then v.x else if k = 1 then v.y else if k = 2 then v.c else if k = 3 then lowZ f d else if k = 4 then highZ f d else borderZ f d

theorem fitE_cases (f d : Int) (v : Wd) : (Fits f d v ∧ fitE f d v.x v.y v.c v.ps = 0) ∨ (¬ Fits f d v ∧ fitE f d v.x v.y v.c v.ps = 1) := by
  unfold fitE
  by_cases h : Fits f d v
  · exact .inl ⟨h, if_pos h⟩
  · exact .inr ⟨h, if_neg h⟩

end Go.Proofs.Ytihbhbeaihdgnaa
