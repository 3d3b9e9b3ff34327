import Derived.Laws.EntriesVeiled
import Derived.Test.YticnbcfmbhjbgaaGreatDoorX35
import Derived.Test.YticnbcfmbhjbgaaGreatDoorX36
set_option maxRecDepth 100000
set_option maxHeartbeats 32000000
set_option linter.unusedVariables false
namespace Go.Proofs.Pss
section
open Go.RowKit Go.IntWalk Knd
open YticnbcfmbhjbgaaGreatDoor (Wd dQ Fits inpV)
open Cde (In i0 eF bE eH kM eU jK fZ)
open Vfy (aW aI)
abbrev Cd:=List In × Int
def ps1 (f d:Int)(c:Cd)(p:Int):Cd :=
 if p=1 then(Fld.fdL f d c.1 c.2,Fld.fdO f d c.1 c.2) else if p=2 then(Shr.sdL f d c.1 c.2,Shr.sdO f d c.1 c.2)
 else if p=3 then(Rdc.rxL f d c.1 c.2,Rdc.rxO f d c.1 c.2) else(Prn.sQ c.1 c.2,Prn.prO c.1 c.2)
def psF (f d:Int)(P:List Int)(c:Cd):Cd:=P.foldl (ps1 f d) c
theorem aP1 (f d:Int)(P:List Int)(p:Int)(c:Cd):psF f d (P++[p]) c=ps1 f d (psF f d P c) p:=by simp[psF]
structure Kp (f d:Int)(a b:Cd):Prop where
 tk:aW f d b.1 b.2=0
 co:eU b.1<=eU a.1
 vl:∀ v,Fits f d v->∃ V U,fZ f d v a.1 a.2=(0,V)/\fZ f d v b.1 b.2=(0,U)/\V.length=a.1.length/\U.length=b.1.length/\U.getD b.2.toNat 0=V.getD a.2.toNat 0
theorem Kp.refl {f d:Int}{a:Cd}(h:aW f d a.1 a.2=0):Kp f d a a :=
 ⟨h,iLr _,fun v hF=>by
  obtain⟨V,hV,hl,-⟩:=Rdc.aFh h hF
  exact⟨V,V,hV,hV,hl,hl,rfl⟩⟩
theorem Kp.trans {f d:Int}{a b c:Cd}(h:Kp f d a b)(g:Kp f d b c):Kp f d a c :=
 ⟨g.tk,Int.le_trans g.co h.co,fun v hF=>by
  obtain⟨V,U,v1,v2,v3,v4,v5⟩:=h.vl v hF
  obtain⟨U',X,w1,w2,w3,w4,w5⟩:=g.vl v hF
  have e:U'=U:=by rw[v2] at w1;exact(congrArg Prod.snd w1).symm
  subst e
  exact⟨V,X,v1,w2,v3,w4,w5.trans v5⟩⟩
theorem aLl {f d:Int}{c:Cd}(h:aW f d c.1 c.2=0)(p:Int):Kp f d c (ps1 f d c p):=by
 unfold ps1
 by_cases h1:p=1
 ·rw[if_pos h1]
  obtain⟨a,b,e,g⟩:=Fld.aNs h
  refine⟨a,e,fun v hF=>?_⟩
  obtain⟨V,v1,v2,v3,-,-,v6⟩:=g v hF
  exact⟨V,V,v1,v2,v3,v3.trans b.symm,v6⟩
 rw[if_neg h1]
 by_cases h2:p=2
 ·rw[if_pos h2]
  obtain⟨a,b,e,g⟩:=Shr.aQj h
  refine⟨a,Int.le_of_eq e,fun v hF=>?_⟩
  obtain⟨V,v1,v2,v3,-,-,v6⟩:=g v hF
  exact⟨V,V,v1,v2,v3,v3.trans b.symm,v6⟩
 rw[if_neg h2]
 by_cases h3:p=3
 ·rw[if_pos h3]
  obtain⟨a,b,e,g⟩:=Rdc.aQf h
  refine⟨a,e,fun v hF=>?_⟩
  obtain⟨V,U,v1,v2,v3,v4,-,-,v6⟩:=g v hF
  exact⟨V,U,v1,v2,v3,v4,v6⟩
 rw[if_neg h3]
 refine⟨Prn.aFs h,Prn.aFr _ _,fun v hF=>?_⟩
 obtain⟨V,U,v1,v2,v3,v4,-,-,v6⟩:=Prn.aPw h hF
 exact⟨V,U,v1,v2,v3,v4,v6⟩
theorem rE {f d:Int}:∀(P:List Int) (c:Cd),aW f d c.1 c.2=0->Kp f d c (psF f d P c)
 | [],c,h=>.refl h
 | p::P,c,h=>by
  have h1:=aLl h p
  exact h1.trans (rE P (ps1 f d c p) h1.tk)
theorem aWy {n:In}{i:Nat}(h:bE n i=true):1<=jK n.op:=by
 have ha:0<=Fld.ar n.op:=by
  simp only[bE,bAt,dEt] at h
  exact h.1.1
 have h4:n.op≠4:=fun e=>by rw[e] at ha;revert ha;decide
 unfold jK
 rw[if_neg h4]
 split
 ·omega
 ·split <;> omega
theorem aNc {L:List In}(h:eH L L.length=true):∀ k,k<=L.length->(k:Int)<=eU (L.take k)
 | 0,_=>by simp[eU]
 | k+1,hk=>by
  have ih:=aNc h k (by omega)
  have:=aWy (Cde.dE h (show k < L.length by omega))
  rw[Cde.aG i0 (by omega),Cde.gG]
  omega
theorem aGy {f d:Int}{L:List In}{out:Int}(h:kM f d L out=true):(L.length:Int)<=eU L:=by
 obtain⟨-,-,-,-,-,ho⟩:=Cde.aQ h
 have:=aNc ho L.length (nLr _)
 rwa[lTg] at this
end
section
open Go.RowKit Go.IntWalk Knd
variable {P:List Int}
def okP (P:List Int):Bool:=decide (P.length<=16)&&P.all fun p=>decide (1<=p)&&decide (p<=4)
theorem aJj (h:okP P=true):P.length<=16/\∀ p ∈ P,1<=p/\p<=4:=by
 simp only[okP,bAt,dEt,lAe] at h
 exact h
theorem aYe (h1:P.length<=16)(h2:∀ p ∈ P,1<=p/\p<=4):okP P=true:=by
 simp only[okP,bAt,dEt,lAe]
 exact⟨h1,h2⟩
theorem aPj (h:16 < P.length):okP P=false:=by
 rw[okP,decide_eq_false (by omega:¬P.length<=16)];rfl
theorem aT9 {p:Int}(hp:p ∈ P)(h:¬(1<=p/\p<=4)):okP P=false:=by
 cases e:okP P
 ·rfl
 ·exact absurd ((aJj e).2 p hp) h
def fnP (p:Int):Nat:=if p=1 then 277 else if p=2 then 278 else if p=3 then 279 else 280
end
section
open Go.RowKit Go.IntWalk Knd
open Cde (In i0 ia kd cd Ins dL aP aJ)
open YticnbcfmbhjbgaaGreatDoor (aB)
abbrev fnV (p:Int):Value:=.func (.func (fnP p)) #[] #[]
abbrev p2 (p:Int):List Value:=[.i p,fnV p]
def ps2 (P:List Int):List Value:=P.flatMap p2
theorem aUm (P:List Int):(ps2 P).length=P.length*2:=by
 induction P with
 | nil=>rfl
 | cons p P ih=>simp[ps2,List.flatMap_cons] at ih ⊢;omega
theorem aP0 (P:List Int)(p:Int):ps2 (P++[p])=ps2 P++p2 p:=by simp[ps2]
abbrev knA:Array Value:=#[.i 1,.func (.func 277) #[] #[],.i 2,.func (.func 278) #[] #[],.i 3,.func (.func 279) #[] #[],.i 4,.func (.func 280) #[] #[]]
theorem aWe {V:World}{g:Nat}(h:aB V g 221 knA){q:Nat}(hq:q < 4):V.cell? ⟨g,q*2,none⟩=some (.i ((q:Int)+1))/\V.cell? ⟨g,q*2+1,none⟩=some (fnV ((q:Int)+1)):=by
 match q,hq with
 | 0,_=>exact⟨h.cell 0 rfl,h.cell 1 rfl⟩
 | 1,_=>exact⟨h.cell 2 rfl,h.cell 3 rfl⟩
 | 2,_=>exact⟨h.cell 4 rfl,h.cell 5 rfl⟩
 | 3,_=>exact⟨h.cell 6 rfl,h.cell 7 rfl⟩
theorem aMj (W:World):Calls Tryz.prog 204 #[] W fun e W'=>e=.returned (.slice (some ⟨W.heap.size,0,none⟩) 4 4)/\W'=W.alloc (.cells knA 221):=by
 go_enter Tryz.func204,Tryz.ntmps204
 go_wp2_with fail
 go_ret
 exact⟨rfl,rfl⟩
theorem aMk (x p:Int)(v:Value){nb:Nat}{V:World}(h:aB V nb 3 #[.i p]) :
  Calls Tryz.prog 206 #[.agg #[.i x,v],.pointer (some ⟨nb,0,none⟩)] V fun e V'=>e=.returned (.bool (x==p))/\Below V.heap.size V V':=by
 have hb:=aD V (.cells #[.i x,v] 221)
 have h0:=(h.below hb).cell 0 rfl
 have HB:=aA hb
 clear hb
 go_enter Tryz.func206,Tryz.ntmps206
 go_wp2_with fail
 go_ret
 exact⟨rfl,HB.o⟩
def ixP (p:Int):Int:=if 1<=p/\p<=4 then p-1 else -1
theorem aIh (p:Int){g nb:Nat}{V:World}(hk:aB V g 221 knA)(hn:aB V nb 3 #[.i p]) :
  Calls Tryz.prog 205 #[.slice (some ⟨g,0,none⟩) 4 4,.func (.func 206) #[] #[.pointer (some ⟨nb,0,none⟩)]] V fun e V'=>e=.returned (.i (ixP p))/\Below V.heap.size V V':=by
 have HK:=aA hk
 have HN:=aA hn
 have HB0:=aA (Below.refl V.heap.size V)
 clear hk hn
 go_enter Tryz.func205,Tryz.ntmps205
 go_wp2_with fail
 go_loopw [8] (fun iv wr=>∃ k:Nat,k<=4/\iv=.i k/\(∀ j:Nat,j < k->p≠(j:Int)+1)/\Hid (Below V.heap.size V wr)) (fun iv _=>4-(intOf iv).toNat)
 case atStart=>exact⟨0,by omega,rfl,fun j hj=>by omega,HB0⟩
 case round =>
  obtain⟨k,hk,rfl,hno,HB⟩:=hrel
  rename World=>V1
  clear HB0
  by_cases hlt:k < 4
  ·obtain⟨c0,c1⟩:=aWe (HK.o.below HB.o) hlt
   have j1:(k:Int) < 4:=by omega
   have j0:(0:Int)<=k:=by omega
   have HP:=aA (aMk ((k:Int)+1) p (fnV ((k:Int)+1)) (HN.o.below HB.o))
   go_wp2_with fail
   refine HP.o.mono ?_
   rintro e V2 ⟨rfl,hb⟩
   have HB2:=aA (bel HB.o hb)
   clear hb c0 c1 HP HB
   by_cases he:(k:Int)+1=p
   ·have hr:((k:Int)+1==p)=true:=by simpa using he
    go_wp2_with fail
    go_ret
    exact⟨by rw[ixP,if_pos ⟨by omega,by omega⟩];simp;omega,HB2.o⟩
   ·have hr:((k:Int)+1==p)=false:=by simpa using he
    go_wp2_with fail
    go_roundw
    case rel=>exact⟨k+1,by omega,by go_num,fun j hj=>by
     by_cases hjk:j < k
     ·exact hno j hjk
     ·obtain rfl:j=k:=by omega
      exact fun e=>he e.symm,HB2⟩
    case measure=>simp[intOf];omega
  ·obtain rfl:k=4:=by omega
   go_wp2_with fail
   go_ret
   exact⟨by rw[ixP,if_neg (fun h=>hno (p-1).toNat (by omega) (by omega))];rfl,HB.o⟩
end
section
open Go.RowKit Go.IntWalk Knd
open Cde (In i0 ia kd cd Ins dL aP aJ)
open YticnbcfmbhjbgaaGreatDoor (aB)
variable {V W:World} {v:Value} {P:List Int} {n:Nat}
theorem bAu:(Tryz.prog.info? 221).map (fun i=>(i.zero,i.size,i.bytes))=some (some (.agg #[.i 0,.nilFunc]),2,16):=by kernel_rfl
theorem aX8 {b:Nat}{p:Int}(h:aB W b 221 #[.i p,fnV p]):∀ j u,(p2 p)[j]?=some u->W.cell? ((⟨b,0,none⟩:Addr).add j)=some u:=by
 intro j u hu
 rw[Addr.add_lit,nZa]
 exact h.cell j (by rw[<-hu];simp[p2])
theorem aUn {base:Nat}(hn:P.length=n){ops:Array Oper}{rest:List Oper}{o:Oper}{a:Act}{Q:Exit->Act->World->Prop}
  (hgd:o.guard=none) (s x:Operand) (ho:o.op=.call { callee:=.builtin .append,args:=#[s,x],argTypes:=#[217,217] })
  (hs:a.eval s=v) (hen:V.ownsRow base 221 2 v P.length (ps2 P)) (hbase:base<=V.heap.size) (b:Nat) (p:Int) (hx:a.eval x=.slice (some ⟨b,0,none⟩) 1 1) (hc:aB V b 221 #[.i p,fnV p]) (h3:P.length<=16)
  (h:∀ g cap w',w'.ownsRow base 221 2 (.slice (some ⟨g,0,none⟩) (n+1) cap) (P++[p]).length (ps2 (P++[p]))->V.grownBy w' v.ownBlock->(v.ownBlock=some g\/g=V.heap.size)->wpList Tryz.prog ops Q rest (a.put o.dst (.slice (some ⟨g,0,none⟩) (n+1) cap)) w') :
  wpList Tryz.prog ops Q (o::rest) a V:=by
 subst hn
 obtain⟨i0',hi0,hz0,hz1,hz2⟩:=Spn.info_parts bAu
 refine wpList_append_lies V hgd s x 217 ho base 221 i0' _ 2 16 Tryz.underlying217 hi0 hz0 hz1 hz2 rfl (by omega) v P.length (ps2 P) hs hen ⟨b,0,none⟩ 1 1 (p2 p) hx rfl (aX8 hc) (by simp[Value.oneCell',p2]) (by omega) (by unfold maxLen;omega) (by omega) hbase V.heap.size rfl ?_
 intro g cap w' hown hgrow hat hlt
 refine h g cap w' ?_ hgrow hat
 rw[aP0,lLa]
 exact hown
structure Rw (W V:World)(v:Value)(P:List Int):Prop where
 k:aB V W.heap.size 221 knA
 r:V.ownsRow W.heap.size 221 2 v P.length (ps2 P)
 ne:v.ownBlock≠some W.heap.size
 lo:Below W.heap.size W V
theorem Rw.below {W V V':World}{v:Value}{P:List Int}(h:Rw W V v P)(hb:Below V.heap.size V V'):Rw W V' v P:=⟨h.k.below hb,Cde.bI h.r hb,h.ne,bel h.lo hb⟩
theorem Rw.grow {V':World}{v':Value}{g c:Nat}{P':List Int}(h:Rw W V v P)(hv:v'=.slice (some ⟨g,0,none⟩) n c)(hg:V.grownBy V' v.ownBlock)(ho:V'.ownsRow W.heap.size 221 2 v' P'.length (ps2 P'))(hat:v.ownBlock=some g\/g=V.heap.size):Rw W V' v' P' :=
 ⟨h.k.kept hg fun he=>h.ne he.symm,ho,by
  subst hv
  intro e
  simp[Value.ownBlock] at e
  rcases hat with h1|h1
  ·exact h.ne (e ▸ h1)
  ·have:=h.k.lt;omega,h.lo.grown hg h.lo.size fun k hk=>(Cde.aR h.r k hk).1⟩
def InP (W:World)(P:List Int)(n:Nat)(e:Ending)(W':World):Prop :=
 Below W.heap.size W W'/\((okP P=true/\∃ a c,e=.returned (.tuple #[.slice a n c,.bool true])/\W'.ownsRow W.heap.size 221 2 (.slice a n c) n (ps2 P))\/(okP P=false/\e=.returned (.tuple #[.slice none 0 0,.bool false])))
theorem aIi {a:Option Addr}{cap:Nat}(hP:Ints W a n cap P) :
  Calls Tryz.prog 135 #[.slice a n cap] W (InP W P n):=by
 have hmf:∀(fn:Fn) (first cap:Array Value) (w:World),(Instr.makeFunc fn first cap).run Tryz.prog w=.ok (.func fn first cap) w:=fun _ _ _ _=>rfl
 have HPI:=aA hP
 have HPn:=aA hP.len
 have hm:=hP.max
 clear hP
 by_cases h16:16 < n
 ·have j:decide ((16:Int) < (n:Int))=true:=by simp;omega
  have j':(16:Int) < (n:Int):=by omega
  go_enter Tryz.func135,Tryz.ntmps135
  go_wp2_with fail
  go_ret2
  exact⟨Below.refl _ _,.inr ⟨aPj (by rw[HPn.o];exact h16),rfl⟩⟩
 ·have j:¬(16:Int) < (n:Int):=by omega
  have HR0:Hid (Rw W (W.alloc (.cells knA 221)) (.slice none 0 0) []):=aA ⟨aB.new _ _ _,⟨rfl,.inl ⟨rfl,rfl⟩⟩,by simp[Value.ownBlock],aD W _⟩
  have HL:=aA (aMj W)
  go_enter Tryz.func135,Tryz.ntmps135
  go_wp2_with fail
  refine HL.o.mono ?_
  rintro e V ⟨rfl,rfl⟩
  go_wp2_with fail
  go_loopw [5,15] (fun rv iv wr=>∃(k:Nat) (ra:Option Addr) (rc:Nat),k<=n/\iv=.i k/\rv=.slice ra k rc/\(∀ p ∈ P.take k,1<=p/\p<=4)/\Hid (Rw W wr (.slice ra k rc) (P.take k))) (fun _ iv _=>n-(intOf iv).toNat)
  case atStart=>exact⟨0,none,0,nZl _,rfl,rfl,by simp,HR0⟩
  case round =>
   obtain⟨k,ra,rc,hk,rfl,rfl,hall,HR⟩:=hrel
   rename World=>V1
   clear HR0 HL
   by_cases hlt:k < n
   ·obtain⟨b,off,e',-,hat⟩:=(HPI.o.later HR.o.lo).at (by omega)
    subst e'
    have c0:=hat k hlt
    have htk:P.take (k+1)=P.take k++[P.getD k 0]:=Cde.aG 0 (by rw[HPn.o];exact hlt)
    have hmem:P.getD k 0 ∈ P:=by
     rw[gdE,gEg (by rw[HPn.o];exact hlt)]
     exact List.getElem_mem _
    have htl:(P.take k).length=k:=by rw[lLt,HPn.o];omega
    generalize P.getD k 0=p at *
    have j1:(k:Int) < n:=by omega
    have j0:(0:Int)<=k:=by omega
    have hb1:=aD V1 (.cells #[.i p] 3)
    have HR1:=aA (HR.o.below hb1)
    have HN1:=aA (aB.new V1 3 #[.i p])
    have HX:=aA (aIh p HR1.o.k HN1.o)
    have HTl:=aA htl
    clear hat hb1 HR htl
    go_wp2_with fail
    refine HX.o.mono ?_
    rintro e V2 ⟨rfl,hb⟩
    have HR2:=aA (HR1.o.below hb)
    clear hb HX HR1 HN1 c0
    by_cases hp:1<=p/\p<=4
    ·rw[show ixP p=p-1 from if_pos hp]
     obtain⟨q,hq⟩:∃ q:Nat,p=(q:Int)+1:=⟨(p-1).toNat,by omega⟩
     subst hq
     rw[show (q:Int)+1-1=q by omega]
     obtain⟨d0,d1⟩:=aWe HR2.o.k (q:=q) (by omega)
     have l0:¬(q:Int) < 0:=by omega
     have l1:(q:Int) < 4:=by omega
     have l2:(0:Int)<=q:=by omega
     have hb2:=aD V2 (.cells #[.i ((q:Int)+1),fnV ((q:Int)+1)] 221)
     have HR3:=aA (HR2.o.below hb2)
     have HN3:=aA (aB.new V2 221 #[.i ((q:Int)+1),fnV ((q:Int)+1)])
     clear hb2
     go_wp2_with (at_builtin;refine aUn HTl.o rfl _ _ rfl rfl HR3.o.r HR3.o.lo.size _ ((q:Int)+1) rfl HN3.o (by rw[HTl.o];omega) ?_;intro g2 cap' w2 hown hgr hat)
     have HR4:=aA (HR3.o.grow rfl hgr hown hat)
     rw[<-htk] at HR4
     clear hown hgr hat HR3 HR2 HN3 d0 d1
     go_roundw
     case rel=>exact⟨k+1,_,_,by omega,by go_num,rfl,by
      rw[htk]
      intro x hx
      rcases List.mem_append.1 hx with h1|h1
      ·exact hall x h1
      ·rw[List.mem_singleton] at h1;rw[h1];exact hp,HR4⟩
     case measure=>simp[intOf];omega
    ·rw[show ixP p=-1 from if_neg hp]
     go_wp2_with fail
     go_ret2
     exact⟨HR2.o.lo,.inr ⟨aT9 hmem hp,rfl⟩⟩
   ·obtain rfl:k=n:=by omega
    have ht:P.take k=P:=lTl (by rw[HPn.o];omega)
    rw[ht] at HR hall
    have hr:=HR.o.r
    rw[HPn.o] at hr
    have HRr:=aA hr
    clear hr
    go_wp2_with fail
    go_ret2
    exact⟨HR.o.lo,.inl ⟨aYe (by rw[HPn.o];omega) hall,_,_,rfl,HRr.o⟩⟩
end
open Go.RowKit Go.IntWalk Knd
open Cde (eU)
open Vfy (aW)
theorem aYu {f d:Int}{c:Cd}(h:aW f d c.1 c.2=0)(p:Int):aW f d (ps1 f d c p).1 (ps1 f d c p).2=0:=by
 unfold ps1
 split
 ·dsimp only
  unfold Fld.fdL Fld.fdO
  by_cases hn:aW f d (Fld.oZ f d c.1).1 (Fld.foO f d c.1 c.2)=0
  ·rw[if_pos hn,if_pos hn];exact hn
  ·rw[if_neg hn,if_neg hn];exact h
 split
 ·dsimp only
  unfold Shr.sdL Shr.sdO
  by_cases hn:aW f d (Shr.nV c.1).1 (Shr.shO c.1 c.2)=0
  ·rw[if_pos hn,if_pos hn];exact hn
  ·rw[if_neg hn,if_neg hn];exact h
 split
 ·dsimp only
  unfold Rdc.rxL Rdc.rxO
  by_cases hn:aW f d (Rdc.rdN f d c.1 c.2) (Rdc.rdO f d c.1 c.2)=0
  ·rw[if_pos hn,if_pos hn];exact hn
  ·rw[if_neg hn,if_neg hn];exact h
 ·exact Prn.aFs h
theorem aDi {f d:Int}:∀(P:List Int) (c:Cd),aW f d c.1 c.2=0->aW f d (psF f d P c).1 (psF f d P c).2=0
 | [],c,h=>h
 | p::P,c,h=>aDi P (ps1 f d c p) (aYu h p)
end Go.Proofs.Pss
