/-
  CompileMeans: of every text, kind and window the law returns true: machine, chain and tree of a program come to the same, in no more steps than were declared; and the arguments read as before. The package's tables as the program's text lays them (tied).
-/
import Derived.Test.YticnbcfmbhjbgaaGreatDoorX50
import Derived.Test.YticnbcfmbhjbgaaGreatDoorX51
set_option maxRecDepth 100000
set_option maxHeartbeats 32000000
set_option linter.unusedVariables false
namespace Go.Proofs.YticnbcfmbhjbgaaGreatDoor
open Go.ChangeShapes Go.WideShapes Go.ChangeAt Go.RowKit
theorem compileMeans_holds:Rows.CompileMeansCardSaid :=
 Claim7.holds_tied_plain_at .later [] [.data,.data,.data,.data,.data] true Rows.compileMeansCard.stood.harness false
  uY (fun _ h=>by cases h) (by kernel_rfl) (fun _ h=>by cases h) compileMeans_row_tie rfl ⟨rfl,rfl⟩ card_main rfl
  (fun f fn hf hfn=>by
   obtain rfl:f=6:=Option.some.inj ((show Tryz.prog.funcNamed Rows.compileMeansRow.func=some 6 by kernel_rfl).symm.trans hf) |>.symm
   obtain rfl:fn=Tryz.f6:=(Option.some.inj (Tryz.func6.symm.trans hfn)).symm
   exact⟨card_looks,fun j t ht=>by
    rw[Tryz.params6] at ht
    have hm:t ∈ [9,23,26]:=by simpa using Array.mem_of_getElem? ht
    have hall:([9,23,26].all fun u=>!Tryz.prog.wantsStandIn u)=true:=by kernel_rfl
    exact(show Tryz.prog.wantsStandIn t=false by simpa using lAe.1 hall t hm)⟩)
  card_goes
#print axioms compileMeans_holds
end Go.Proofs.YticnbcfmbhjbgaaGreatDoor
