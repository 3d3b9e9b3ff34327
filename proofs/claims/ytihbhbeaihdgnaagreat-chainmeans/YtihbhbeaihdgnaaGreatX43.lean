import Derived.Test.YtihbhbeaihdgnaaGreatXH
import Derived.Test.YtihbhbeaihdgnaaGreatX40
import Derived.Test.YtihbhbeaihdgnaaGreatX41
set_option maxRecDepth 100000
set_option maxHeartbeats 32000000
set_option linter.unusedVariables false
namespace Go.Proofs.Pss
open Go.RowKit Go.IntWalk Knd
open YtihbhbeaihdgnaaGreat (Wd fD Fits inpV)
open Cde (In i0 dN bB dX jW eH jE iR)
open Vfy (aZ aL)
abbrev Cd:=List In × Int
def ps1 (f d:Int)(c:Cd)(p:Int):Cd :=
 if p=1 then(Fld.fdL f d c.1 c.2,Fld.fdO f d c.1 c.2) else if p=2 then(Shr.sdL f d c.1 c.2,Shr.sdO f d c.1 c.2)
 else if p=3 then(Rdc.rxL f d c.1 c.2,Rdc.rxO f d c.1 c.2) else(Prn.qU c.1 c.2,Prn.prO c.1 c.2)
def psF (f d:Int)(P:List Int)(c:Cd):Cd:=P.foldl (ps1 f d) c
theorem aM7 (f d:Int)(P:List Int)(p:Int)(c:Cd):psF f d (P++[p]) c=ps1 f d (psF f d P c) p:=by simp[psF]
structure Kp (f d:Int)(a b:Cd):Prop where
 tk:aZ f d b.1 b.2=0
 co:eH b.1<=eH a.1
 vl:∀ v,Fits f d v->∃ V U,iR f d v a.1 a.2=(0,V)/\iR f d v b.1 b.2=(0,U)/\V.length=a.1.length/\U.length=b.1.length/\U.getD b.2.toNat 0=V.getD a.2.toNat 0
theorem Kp.refl {f d:Int}{a:Cd}(h:aZ f d a.1 a.2=0):Kp f d a a :=
 ⟨h,Int.le_refl _,fun v hF=>by
  obtain⟨V,hV,hl,-⟩:=Rdc.aD1 h hF
  exact⟨V,V,hV,hV,hl,hl,rfl⟩⟩
theorem Kp.trans {f d:Int}{a b c:Cd}(h:Kp f d a b)(g:Kp f d b c):Kp f d a c :=
 ⟨g.tk,Int.le_trans g.co h.co,fun v hF=>by
  obtain⟨V,U,v1,v2,v3,v4,v5⟩:=h.vl v hF
  obtain⟨U',X,w1,w2,w3,w4,w5⟩:=g.vl v hF
  have e:U'=U:=by rw[v2] at w1;exact(congrArg Prod.snd w1).symm
  subst e
  exact⟨V,X,v1,w2,v3,w4,w5.trans v5⟩⟩
theorem aJk {f d:Int}{c:Cd}(h:aZ f d c.1 c.2=0)(p:Int):Kp f d c (ps1 f d c p):=by
 unfold ps1
 by_cases h1:p=1
 ·rw[if_pos h1]
  obtain⟨a,b,e,g⟩:=Fld.aDc h
  refine⟨a,e,fun v hF=>?_⟩
  obtain⟨V,v1,v2,v3,-,-,v6⟩:=g v hF
  exact⟨V,V,v1,v2,v3,v3.trans b.symm,v6⟩
 rw[if_neg h1]
 by_cases h2:p=2
 ·rw[if_pos h2]
  obtain⟨a,b,e,g⟩:=Shr.aEo h
  refine⟨a,Int.le_of_eq e,fun v hF=>?_⟩
  obtain⟨V,v1,v2,v3,-,-,v6⟩:=g v hF
  exact⟨V,V,v1,v2,v3,v3.trans b.symm,v6⟩
 rw[if_neg h2]
 by_cases h3:p=3
 ·rw[if_pos h3]
  obtain⟨a,b,e,g⟩:=Rdc.aNm h
  refine⟨a,e,fun v hF=>?_⟩
  obtain⟨V,U,v1,v2,v3,v4,-,-,v6⟩:=g v hF
  exact⟨V,U,v1,v2,v3,v4,v6⟩
 rw[if_neg h3]
 refine⟨Prn.aM4 h,Prn.aEc _ _,fun v hF=>?_⟩
 obtain⟨V,U,v1,v2,v3,v4,-,-,v6⟩:=Prn.aM3 h hF
 exact⟨V,U,v1,v2,v3,v4,v6⟩
theorem pV {f d:Int}:∀(P:List Int) (c:Cd),aZ f d c.1 c.2=0->Kp f d c (psF f d P c)
 | [],c,h=>.refl h
 | p::P,c,h=>by
  have h1:=aJk h p
  exact h1.trans (pV P (ps1 f d c p) h1.tk)
end Go.Proofs.Pss
