/-
  CompileNames: of every text and kind the law returns true: every text is refused by one of five names, or is a program, just as the grammar and the check tell; and the arguments read as before. The package's tables as the program's text lays them (tied).
-/
import Derived.Test.YticnbcfmbhjbgaaGreatDoorXH
import Derived.Test.YticnbcfmbhjbgaaGreatDoorRows
import Derived.Test.YticnbcfmbhjbgaaGreatDoorCards
import Derived.Test.YticnbcfmbhjbgaaGreatDoorTie
import Derived.SevenTiedAt
import Derived.LaidMore
import Derived.Test.YticnbcfmbhjbgaaGreatDoorX00
import Derived.Test.YticnbcfmbhjbgaaGreatDoorX50
import Derived.Test.YticnbcfmbhjbgaaGreatDoorX51
import Derived.Test.YticnbcfmbhjbgaaGreatDoorX48
set_option maxRecDepth 100000
set_option maxHeartbeats 32000000
set_option linter.unusedVariables false
namespace Go.Proofs.YticnbcfmbhjbgaaGreatDoor
open Go.ChangeShapes Go.WideShapes Go.ChangeAt Go.RowKit
theorem compileNames_holds:Rows.CompileNamesCardSaid :=
 Claim7.holds_tied_plain_at .later [] [.data,.data,.data,.data,.data] true Rows.compileNamesCard.stood.harness false
  tY (fun _ h=>by cases h) (by kernel_rfl) (fun _ h=>by cases h) compileNames_row_tie rfl ⟨rfl,rfl⟩ card_main rfl
  (fun f fn hf hfn=>by
   obtain rfl:f=5:=Option.some.inj ((show Tryz.prog.funcNamed Rows.compileNamesRow.func=some 5 by kernel_rfl).symm.trans hf) |>.symm
   obtain rfl:fn=Tryz.f5:=(Option.some.inj (Tryz.func5.symm.trans hfn)).symm
   exact⟨card_looks,fun j t ht=>by
    rw[Tryz.params5] at ht
    have hm:t ∈ [9,23]:=by simpa using Array.mem_of_getElem? ht
    have hall:([9,23].all fun u=>!Tryz.prog.wantsStandIn u)=true:=by kernel_rfl
    exact(show Tryz.prog.wantsStandIn t=false by simpa using lAe.1 hall t hm)⟩)
  card_goes
#print axioms compileNames_holds
end Go.Proofs.YticnbcfmbhjbgaaGreatDoor
