import Derived.Test.YticnbcfmbhjbgabGreatDoorXH
import Derived.Test.YticnbcfmbhjbgabGreatDoorX04
set_option maxRecDepth 100000
set_option maxHeartbeats 32000000
set_option linter.unusedVariables false
namespace Go.Proofs.YticnbcfmbhjbgabGreatDoor
open Go.RowKit Go.IntWalk Knd
structure Wd where
 x:Int
 y:Int
 c:Int
 ps:List Int
abbrev eZ (v:Wd)(a:Option Addr)(n cap:Nat):Array Value:=#[.i v.x,.i v.y,.i v.c,.slice a n cap]
abbrev Fits (f d:Int)(v:Wd):Prop:=Knd.Fit f d v.x v.y v.c v.ps
def inpV (f d:Int)(v:Wd)(k:Int):Int:=if k=0 then v.x else if k=1 then v.y else if k=2 then v.c else if k=3 then gD f d else if k=4 then dD f d else bU f d
theorem fG (f d:Int)(v:Wd):(Fits f d v/\aGv f d v.x v.y v.c v.ps=0)\/(¬Fits f d v/\aGv f d v.x v.y v.c v.ps=1):=by
 unfold aGv
 by_cases h:Fits f d v
 ·exact .inl ⟨h,if_pos h⟩
 ·exact .inr ⟨h,if_neg h⟩
end Go.Proofs.YticnbcfmbhjbgabGreatDoor
