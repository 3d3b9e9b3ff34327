import Derived.Test.YtijbmdmeiancgaaGreatXH
import Derived.Test.YtijbmdmeiancgaaGreatX22
import Derived.Test.YtijbmdmeiancgaaGreatX25
set_option maxRecDepth 100000
set_option maxHeartbeats 32000000
set_option linter.unusedVariables false
namespace Go.Proofs.Fld
open Go.RowKit Go.IntWalk Knd
open YtijbmdmeiancgaaGreat (Wd tF Fits inpV)
open Cde (In i0 dP dG bJ eO jG kZ jS oP nI qY fB)
open Vfy (bL aT)
variable {k:Nat} {d f:Int} {m:In} {M:List In}
theorem jF {n:In}(h:bJ n k=true):aA4 n k:=by
 simp only[bJ,oP,Bool.and_eq_true,iE,decide_eq_true_eq] at h
 exact⟨h.1.2.1.1.1,h.1.2.1.2.1,h.1.2.2.1⟩
theorem aJ3:∀ L:List (Bool × Int),(∀ o,lT o L=o)\/∃ z,∀ o,lT o L=z
 | []=>.inl fun _=>rfl
 | p::L=>by
  by_cases hp:p.1=true
  ·exact .inr ⟨p.2,fun o=>by rw[lT,if_pos hp]⟩
  ·rcases aJ3 L with h|⟨z,h⟩
   ·exact .inl fun o=>by rw[lT,if_neg hp];exact h o
   ·exact .inr ⟨z,fun o=>by rw[lT,if_neg hp];exact h o⟩
theorem aP1 {L:List In}{out:Int}(h:bL f d L out=0)(hk:k < L.length) :
  (lT (-1) (iU (gX f d (L.take k)).1 (bS (L.getD k i0) (gX f d (L.take k)).2))=-1/\lT k (iU (gX f d (L.take k)).1 (bS (L.getD k i0) (gX f d (L.take k)).2))=k) \/
  (0<=lT (-1) (iU (gX f d (L.take k)).1 (bS (L.getD k i0) (gX f d (L.take k)).2))/\lT k (iU (gX f d (L.take k)).1 (bS (L.getD k i0) (gX f d (L.take k)).2))=lT (-1) (iU (gX f d (L.take k)).1 (bS (L.getD k i0) (gX f d (L.take k)).2))):=by
 rcases aJ3 (iU (gX f d (L.take k)).1 (bS (L.getD k i0) (gX f d (L.take k)).2)) with h1|⟨z,h1⟩
 ·exact .inl ⟨h1 _,h1 _⟩
 ·refine .inr ⟨?_,by rw[h1,h1]⟩
  rw[h1]
  obtain⟨m,ha2,⟨S,hS,-,-⟩,-,-,-⟩:=aT h
  obtain⟨hm,-,-,-,-,hok⟩:=Cde.bD m
  obtain⟨V,hV⟩:=nS h (kP hm) k (by omega)
  obtain⟨V2,hV2⟩:=nS h (kP hm) (k+1) (by omega)
  have ho:=Cde.bW hok hk
  have hl:=(qD f d L k (by omega)).1
  have e:=hV2.val
  rw[Cde.aM i0 hk,Cde.fE,hV.val,qY,if_pos rfl] at e
  by_cases hz:(fB f d (wd0 f d) V (L.getD k i0)).2=0
  ·have hx:fB f d (wd0 f d) V (bS (L.getD k i0) (gX f d (L.take k)).2)=((fB f d (wd0 f d) V (L.getD k i0)).1,0):=by
    rw[aBj hV.st ho];exact Prod.ext rfl hz
   rcases aIc hV.rv (by rw[hl];exact vT hV.st ho) hx (z+1) with e1|⟨e1,-⟩
   ·rw[h1] at e1;omega
   ·rw[h1] at e1;exact e1.1
  ·rw[if_neg hz] at e
   exact absurd (congrArg Prod.fst e) hz
theorem aPl (ho:bJ m k=true)(h:¬0 < ar m.op):m.op=1\/m.op=2\/m.op=3:=by
 have h1:0<=ar m.op:=Cde.vI ho
 have h2:Spn.ar m.op=0:=by have e:ar m.op=Spn.ar m.op:=rfl;omega
 unfold Spn.ar at h2
 split at h2
 ·assumption
 ·repeat' split at h2
  all_goals omega
theorem aSh (ho:bJ m k=true)(h2:m.op=2)(h3:3<=m.k):(m.k=3/\pQ f d M m=(dJ f d,true))\/(m.k=4/\pQ f d M m=(bK f d,true))\/(m.k=5/\pQ f d M m=(aV f d,true)):=by
 have hc:=Cde.nV ho
 rw[kZ,if_neg (by rw[h2];decide),if_pos h2,Bool.and_eq_true,Spn.aP] at hc
 rcases(show m.k=3\/m.k=4\/m.k=5 by omega) with e|e|e
 ·exact .inl ⟨e,by simp[pQ,bnZ,h2,e]⟩
 ·exact .inr (.inl ⟨e,by simp[pQ,bnZ,h2,e]⟩)
 ·exact .inr (.inr ⟨e,by simp[pQ,bnZ,h2,e]⟩)
theorem aPx (ho:bJ m k=true)(h:¬0 < ar m.op)(h2:¬(m.op=2/\3<=m.k)):(∃ x,pQ f d M m=(x,false))/\iU M m=[]:=by
 have h3:=aPl ho h
 have e1:(bnZ f d m).2=false:=by
  unfold bnZ
  by_cases e:m.op=2
  ·rw[if_pos e]
   have:¬3<=m.k:=fun h=>h2 ⟨e,h⟩
   rw[if_neg (by omega),if_neg (by omega),if_neg (by omega)]
  ·rw[if_neg e]
 have e2:(xQ M m).2=false:=aE5 (by omega)
 have e3:(qV M m).2=false:=by rcases h3 with e|e|e <;> simp[qV,e]
 refine⟨⟨(qV M m).1,?_⟩,by rcases h3 with e|e|e <;> simp[iU,e]⟩
 unfold pQ
 rw[e1,if_neg (by decide),e2,if_neg (by decide)]
 exact Prod.ext rfl e3
theorem aNy (h:0 < ar m.op):(bnZ f d m).2=false:=by
 have:m.op≠2:=fun e=>by rw[e] at h;exact absurd h (by decide)
 unfold bnZ
 rw[if_neg this]
theorem aP6 {x:Int}(h:0 < ar m.op)(hr:xQ M m=(x,true)):pQ f d M m=(x,true):=by
 unfold pQ
 rw[aNy h,if_neg (by decide),hr,if_pos rfl]
theorem aRr (h:0 < ar m.op)(hr:alN M m=false):pQ f d M m=qV M m:=by
 have e:(xQ M m).2=false:=by rw[xQ,if_neg (by rw[hr];decide)]
 unfold pQ
 rw[aNy h,if_neg (by decide),e,if_neg (by decide)]
end Go.Proofs.Fld
