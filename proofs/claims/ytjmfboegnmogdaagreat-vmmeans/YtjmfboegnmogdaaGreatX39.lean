import Derived.Test.YtjmfboegnmogdaaGreatXH
import Derived.Test.YtjmfboegnmogdaaGreatX38
import Derived.Test.YtjmfboegnmogdaaGreatX32
set_option maxRecDepth 100000
set_option maxHeartbeats 32000000
set_option linter.unusedVariables false
namespace Go.Proofs.Rdc
open Go.RowKit Go.IntWalk Knd
open Cde (In i0 bC dN jS dV iU nJ dU iG)
open Vfy (dK nY bB rO aM w32 gU yX kE vK myE)
open YtjmfboegnmogdaaGreat (Wd gM Fits inpV)
open Fld (Rv gv rg bZ dA zQ tH bG fO lX)
def Wh (a b:Int):Prop:=a<=b/\-2147483648<=a/\a<=2147483647/\-2147483648<=b/\b<=2147483647
theorem aCl {f dd:Int}{M:List In}{S:dK}{n:In}{s:Int × Int}(h:gU f dd M=(0,S))(hn:kE f dd S n=(s,0)):gU f dd (M++[n])=(0,S++[s]):=by
 rw[Vfy.iO,h,yX,if_pos rfl,hn,if_pos rfl]
theorem aN1 {f dd:Int}:∀(B A:List In) (SA S:dK),gU f dd A=(0,SA)->gU f dd (A++B)=(0,S)->∃ Z,S=SA++Z
 | [],A,SA,S,hA,h=>by
  rw[List.append_nil,hA] at h
  cases h
  exact⟨[],by simp⟩
 | n::B,A,SA,S,hA,h=>by
  have e:A++n::B=(A++[n])++B:=by simp
  rw[e] at h
  by_cases hn:(kE f dd SA n).2=0
  ·have h1:=aCl (n:=n) (s:=(kE f dd SA n).1) hA (Prod.ext rfl hn)
   obtain⟨Z,hZ⟩:=aN1 B (A++[n]) _ S h1 h
   exact⟨[(kE f dd SA n).1]++Z,by rw[hZ];simp⟩
  ·rw[Vfy.aH3,Vfy.iO,hA,yX,if_pos rfl,if_neg hn,Vfy.uJ _ _ _ _ hn] at h
   exact absurd (congrArg Prod.fst h) hn
end Go.Proofs.Rdc
