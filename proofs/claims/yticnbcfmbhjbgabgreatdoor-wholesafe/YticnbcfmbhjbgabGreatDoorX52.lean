/-
  WholeSafe: of every text, kind and window the law returns true: nothing wraps, nothing is divided by zero, no place ahead is looked at, and the steps of a program are no more than it was declared to cost; and the arguments read as before. The package's tables as the program's text lays them (tied).
-/
import Derived.Test.YticnbcfmbhjbgabGreatDoorXH
import Derived.Test.YticnbcfmbhjbgabGreatDoorRows
import Derived.Test.YticnbcfmbhjbgabGreatDoorCards
import Derived.Test.YticnbcfmbhjbgabGreatDoorTie
import Derived.SevenTiedAt
import Derived.LaidMore
import Derived.Test.YticnbcfmbhjbgabGreatDoorX05
import Derived.Test.YticnbcfmbhjbgabGreatDoorX50
import Derived.Test.YticnbcfmbhjbgabGreatDoorX51
import Derived.Test.YticnbcfmbhjbgabGreatDoorX48
set_option maxRecDepth 100000
set_option maxHeartbeats 32000000
set_option linter.unusedVariables false
namespace Go.Proofs.YticnbcfmbhjbgabGreatDoor
open Go.ChangeShapes Go.WideShapes Go.ChangeAt Go.RowKit
theorem wholeSafe_holds:Rows.WholeSafeCardSaid :=
 Claim7.holds_tied_plain_at .later [] [.data,.data,.data,.data,.data] true Rows.wholeSafeCard.stood.harness false
  aAw (fun _ h=>by cases h) (by kernel_rfl) (fun _ h=>by cases h) wholeSafe_row_tie rfl ⟨rfl,rfl⟩ card_main rfl
  (fun f fn hf hfn=>by
   obtain rfl:f=6:=Option.some.inj ((show Tryz.prog.funcNamed Rows.wholeSafeRow.func=some 6 by kernel_rfl).symm.trans hf) |>.symm
   obtain rfl:fn=Tryz.f6:=(Option.some.inj (Tryz.func6.symm.trans hfn)).symm
   exact⟨card_looks,fun j t ht=>by
    rw[Tryz.params6] at ht
    have hm:t ∈ [9,35,24]:=by simpa using Array.mem_of_getElem? ht
    have hall:([9,35,24].all fun u=>!Tryz.prog.wantsStandIn u)=true:=by kernel_rfl
    exact(show Tryz.prog.wantsStandIn t=false by simpa using lAe.1 hall t hm)⟩)
  card_goes
#print axioms wholeSafe_holds
end Go.Proofs.YticnbcfmbhjbgabGreatDoor
