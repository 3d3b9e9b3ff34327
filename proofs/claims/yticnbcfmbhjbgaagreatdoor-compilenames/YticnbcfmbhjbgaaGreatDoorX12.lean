import Derived.Test.YticnbcfmbhjbgaaGreatDoorXH
import Derived.Test.YticnbcfmbhjbgaaGreatDoorX05
set_option maxRecDepth 100000
set_option maxHeartbeats 32000000
set_option linter.unusedVariables false
namespace Go.Proofs.YticnbcfmbhjbgaaGreatDoor
open Go.RowKit Go.IntWalk Knd
structure Wd where
 x:Int
 y:Int
 c:Int
 ps:List Int
abbrev pE (v:Wd)(a:Option Addr)(n cap:Nat):Array Value:=#[.i v.x,.i v.y,.i v.c,.slice a n cap]
abbrev Fits (f d:Int)(v:Wd):Prop:=Knd.Fit f d v.x v.y v.c v.ps
def inpV (f d:Int)(v:Wd)(k:Int):Int:=if k=0 then v.x else if k=1 then v.y else if k=2 then v.c else if k=3 then gZ f d else if k=4 then dS f d else bU f d
end Go.Proofs.YticnbcfmbhjbgaaGreatDoor
