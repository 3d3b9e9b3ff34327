import Derived.Test.YticnbcfmbhjbgaaGreatDoorX04
set_option maxRecDepth 100000
set_option maxHeartbeats 32000000
set_option linter.unusedVariables false
namespace Go.Proofs.YticnbcfmbhjbgaaGreatDoor
open Go.RowKit Go.IntWalk Knd
structure Wd where
 x:Int
 y:Int
 c:Int
 ps:List Int
abbrev dQ (v:Wd)(a:Option Addr)(n cap:Nat):Array Value:=#[.i v.x,.i v.y,.i v.c,.slice a n cap]
abbrev Fits (f d:Int)(v:Wd):Prop:=Knd.Fit f d v.x v.y v.c v.ps
def inpV (f d:Int)(v:Wd)(k:Int):Int:=if k=0 then v.x else if k=1 then v.y else if k=2 then v.c else if k=3 then fG f d else if k=4 then cK f d else bL f d
theorem dX (f d:Int)(v:Wd):(Fits f d v/\aEu f d v.x v.y v.c v.ps=0)\/(¬Fits f d v/\aEu f d v.x v.y v.c v.ps=1):=by
 unfold aEu
 by_cases h:Fits f d v
 ·exact .inl ⟨h,if_pos h⟩
 ·exact .inr ⟨h,if_neg h⟩
end Go.Proofs.YticnbcfmbhjbgaaGreatDoor
