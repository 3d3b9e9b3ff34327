import Derived.Test.YticnbcfmbhjbgabGreatDoorXH
import Derived.Test.YticnbcfmbhjbgabGreatDoorX30
import Derived.Test.YticnbcfmbhjbgabGreatDoorX20
import Derived.Test.YticnbcfmbhjbgabGreatDoorX27
import Derived.Test.YticnbcfmbhjbgabGreatDoorX23
set_option maxRecDepth 100000
set_option maxHeartbeats 32000000
set_option linter.unusedVariables false
namespace Go.Proofs.YticnbcfmbhjbgabGreatDoor
open Go.RowKit Lx Pz
variable {d f:Int} {BS:List Int}
structure Lg (f d:Int)(S:eT)(R:List Int)(I:List Cde.In)(T:eT):Prop where
 run:Vfy.iI f d I=(0,T)
 len:T.length=I.length
 val:∀ j,j < R.length->S.getD j (0,0)=T.getD (R.getD j 0).toNat (0,0)
 ah:I.any (Vfy.pI f d)=false
theorem bAh {R:List Int}{S T:eT}{n:Nd}(hl:R.length=S.length)(hn:Wn BS S.length n)(h4:n.op≠4)
  (hv:∀ j,j < R.length->S.getD j (0,0)=T.getD (R.getD j 0).toNat (0,0)):Vfy.kM f d T (wM f d R n)=wT f d BS S n:=by
 have hv2:∀ p ∈ eY n,T.getD (lrg R p).toNat (0,0)=S.getD p.toNat (0,0):=fun p hp=>(hv _ (by rw[hl];exact(hn.prt p hp).2)).symm
 unfold Vfy.kM wT
 rw[vB,if_neg h4]
 by_cases h1:n.op=1
 ·rw[if_pos h1,if_pos h1]
  have e:mU n.op=0:=by rw[h1];rfl
  have ek:(wM f d R n).k=n.k:=by
   unfold wM loK
   rw[e,if_neg (by decide),if_neg (by decide),if_neg (by decide),if_neg (by omega)]
  rw[ek]
 rw[if_neg h1,if_neg h1]
 by_cases h2:n.op=2
 ·rw[if_pos h2,if_pos h2]
  have e:mU n.op=0:=by rw[h2];rfl
  have ek:(wM f d R n).k=n.k:=by
   unfold wM loK
   rw[e,if_neg (by decide),if_neg (by decide),if_neg (by decide),if_neg (by omega)]
  rw[ek]
 rw[if_neg h2,if_neg h2]
 by_cases h3:n.op=3
 ·rw[if_pos h3,if_pos h3]
 rw[if_neg h3,if_neg h3]
 have hk:(wM f d R n).k=0/\(wM f d R n).s=0/\Vfy.wY T (wM f d R n)=(eY n).map fun p=>S.getD p.toNat (0,0):=by
  unfold Vfy.wY Cde.dY Cde.bZ Cde.abc
  rw[vB,aB4]
  unfold wM
  rcases wW hn h4 with⟨e,h⟩|⟨h5,e,hq⟩|⟨h5,e,hq⟩|⟨h5,e,hq⟩
  ·omega
  ·rw[hq] at hv2 ⊢
   rw[e,if_pos rfl]
   refine⟨rfl,rfl,?_⟩
   show [T.getD (lrg R n.a).toNat (0,0)]=[S.getD n.a.toNat (0,0)]
   rw[hv2 n.a (by simp)]
  ·rw[hq] at hv2 ⊢
   rw[e,if_neg (by decide),if_pos rfl]
   refine⟨rfl,rfl,?_⟩
   show [T.getD (lrg R n.a).toNat (0,0),T.getD (lrg R n.b).toNat (0,0)]=[S.getD n.a.toNat (0,0),S.getD n.b.toNat (0,0)]
   rw[hv2 n.a (by simp),hv2 n.b (by simp)]
  ·rw[hq] at hv2 ⊢
   rw[e,if_neg (by decide),if_neg (by decide),if_pos rfl]
   refine⟨rfl,rfl,?_⟩
   show [T.getD (lrg R n.a).toNat (0,0),T.getD (lrg R n.b).toNat (0,0),T.getD (lrg R n.c).toNat (0,0)]=[S.getD n.a.toNat (0,0),S.getD n.b.toNat (0,0),S.getD n.c.toNat (0,0)]
   rw[hv2 n.a (by simp),hv2 n.b (by simp),hv2 n.c (by simp)]
 rw[hk.1,hk.2.1,hk.2.2]
theorem bAg {R:List Int}{n:Nd}(ha:n.op=3->∃ q,Knd.sK f d (oH n)=some q):Vfy.pI f d (wM f d R n)=false:=by
 unfold Vfy.pI
 rw[vB]
 by_cases h3:n.op=3
 ·obtain⟨q,hq⟩:=ha h3
  have:=aO1 hq
  have e:mU n.op=0:=by rw[h3];rfl
  have ek:(wM f d R n).k=(q:Int):=by
   unfold wM loK
   rw[e,if_neg (by decide),if_neg (by decide),if_neg (by decide),if_pos h3,hq]
   rfl
  rw[ek]
  simp
  omega
 ·rw[show (n.op==3)=false by simpa using h3];rfl
theorem Lg.all {f d:Int}{BS:List Int}:∀(B A:List Nd) (s:List Int × List Cde.In) (S T U:eT),S.length=A.length->Lw A s.1 s.2->Lg f d S s.1 s.2 T->Wl BS A.length B->(∀ n ∈ B,n.op=3->∃ q,Knd.sK f d (oH n)=some q)->pK f d BS B S=(U,0)->∃ T',Lg f d U (B.foldl (loS f d BS) s).1 (B.foldl (loS f d BS) s).2 T'
 | [],A,s,S,T,U,hS,hw,hg,_,_,h=>by cases h;exact⟨T,hg⟩
 | n::B,A,s,S,T,U,hS,hw,hg,hl,ha,h=>by
  simp only[pK] at h
  split at h
  ·rename_i h1
   have hn:=hl.1
   rw[<-hS] at hn
   have hRl:=hw.len
   have hlw:=hw.step (f:=f) (d:=d) (BS:=BS) hl.1 (ha n (by simp))
   have hlg:∃ T',Lg f d (S++[(wT f d BS S n).1]) (loS f d BS s n).1 (loS f d BS s n).2 T':=by
    unfold loS
    by_cases h4:n.op=4
    ·rw[if_pos h4]
     refine⟨T,hg.run,hg.len,fun j hj=>?_,hg.ah⟩
     simp only[lLa,lLc,lLn] at hj
     by_cases e:j < s.1.length
     ·rw[dK (by omega),dK e];exact hg.val j e
     ·obtain rfl:j=s.1.length:=by omega
      rw[dZ,show s.1.length=S.length by omega,dZ]
      unfold wT
      rw[if_pos h4]
      exact hg.val _ (by have:=(hn.use h4).2.2.2;omega)
    ·rw[if_neg h4]
     have e1:=bAh (f:=f) (d:=d) (BS:=BS) (R:=s.1) (T:=T) (by omega) hn h4 hg.val
     refine⟨T++[(wT f d BS S n).1],?_,by simp[hg.len],fun j hj=>?_,?_⟩
     ·rw[Vfy.jC,hg.run]
      unfold Vfy.sgS
      simp only[if_true]
      rw[e1,if_pos h1]
     ·simp only[lLa,lLc,lLn] at hj
      by_cases e:j < s.1.length
      ·have hr:=hw.reg j (by omega)
       rw[dK (by omega),dK e,dK (by rw[hg.len];exact hr.2)]
       exact hg.val j e
      ·obtain rfl:j=s.1.length:=by omega
       rw[dZ,show s.1.length=S.length by omega,dZ,iTn,<-hg.len,dZ]
     ·show (s.2++[wM f d s.1 n]).any (Vfy.pI f d)=false
      rw[List.any_append,hg.ah,List.any_cons,bAg (ha n (by simp))]
      rfl
   obtain⟨T',hg'⟩:=hlg
   exact Lg.all B (A++[n]) (loS f d BS s n) _ T' U (by simp[hS]) hlw hg' (by simpa using hl.2) (fun m hm=>ha m (by simp[hm])) h
  ·rename_i h1;exact absurd (congrArg Prod.snd h) h1
theorem aW5 {NM:List aN}{NS:List Nd}{root:Int}(h:kN f d NM BS NS root=0):∃ T,Lg f d (pK f d BS NS []).1 (mD f d BS NS).1 (mD f d BS NS).2 T:=by
 obtain⟨a1,a2,a3,a4,-⟩:=qP.1 h
 obtain⟨es,ex,hD⟩:=jS.1 a2
 exact Lg.all NS [] ([],[]) [] [] _ rfl aG9 ⟨rfl,rfl,fun j hj=>by simp at hj,rfl⟩ hD.wl (fun n hn h3=>aGo h hn h3) (Prod.ext rfl a4)
theorem mZ {NM:List aN}{NS:List Nd}{root:Int}(h:kN f d NM BS NS root=0){I:List Cde.In}{o:Int}(hI:I=(mD f d BS NS).2)(ho:o=(mD f d BS NS).1.getD root.toNat 0) :
  Vfy.aW f d I o=0/\Vfy.oQ f d I o=rO NS/\0<=o/\o.toNat < Vfy.pG f d I o/\(Vfy.nR f d I o).getD o.toNat (0,0)=(pK f d BS NS []).1.getD (NS.length-1) (0,0)/\1<=NS.length/\NS.length<=1024:=by
 obtain⟨a1,a2,a3,a4,a5,a6⟩:=qP.1 h
 obtain⟨T,hT⟩:=aW5 h
 have hw:=aC2 h
 have hm:=aXa h
 obtain⟨r0,r1,r2⟩:=oK a2
 obtain⟨es,ex,hD⟩:=jS.1 a2
 have hr:=hD.root
 rw[<-hI] at hT hw hm
 rw[<-ho] at hm
 have hco:=hw.co
 have h0:Vfy.aW f d I o=0:=Vfy.aD4.2 ⟨Vfy.xG.2 ⟨hm,hT.ah⟩,by rw[hT.run],by omega⟩
 obtain⟨-,-,⟨S',h1,h2,h3⟩,-,h5,h6⟩:=Vfy.aI h0
 rw[hT.run] at h1
 cases h1
 obtain⟨-,-,-,q1,q2,-⟩:=Cde.aP hm
 have e1:root.toNat=NS.length-1:=by omega
 refine⟨h0,by rw[h6,hco],q1,by rw[h5];omega,?_,by omega,r2⟩
 rw[h3,<-e1,hT.val root.toNat (by rw[hw.len];exact r1),<-ho]
end Go.Proofs.YticnbcfmbhjbgabGreatDoor
namespace Go.Proofs.Cpl
open Go.RowKit Go.IntWalk Knd
open YticnbcfmbhjbgabGreatDoor (Wd eZ aB)
open Cde (In i0 ia kd cd Ins dE aC fQ aP)
open Fld (bF)
open YticnbcfmbhjbgabGreatDoor (cK lJ nH)
open Vfy (aW aI)
open Vmm (vL zK)
open Chn (hrV yT)
variable {V:World} {g:Nat} {d f o z:Int} {L:List In}
theorem pU {s:ByteArray}(h:Pg V g f d L o s z):Calls Tryz.prog 13 #[.pointer (some ⟨g,0,none⟩)] V fun e W'=>e=.returned (.i z)/\W'=V:=by
 obtain⟨m,q,a,n,c,hx,-⟩:=h.x
 obtain⟨e0,e1,e2,e3,e4,e5,e6,e7⟩:=tV hx
 clear h hx
 go_enter Tryz.func13,Tryz.ntmps13
 go_wp2_with fail
 go_ret
 exact⟨rfl,rfl⟩
def CoP (V:World)(f d:Int)(L:List In)(o:Int)(e:Ending)(W':World):Prop :=
 ∃ a' c',e=.returned (.agg (cd f d a' L.length c' o))/\W'.ownsRow V.heap.size 76 6 (.slice a' L.length c') L.length (dE L)/\Below V.heap.size V W'
theorem aM5 {s:ByteArray}(h:Pg V g f d L o s z)(h0:aW f d L o=0):Calls Tryz.prog 15 #[.pointer (some ⟨g,0,none⟩)] V (CoP V f d L o):=by
 obtain⟨m,q,a,n,c,hx,hL,-⟩:=h.x
 obtain⟨mc,-⟩:=aI h0
 obtain⟨-,m1,m2,-,-,-⟩:=aP mc
 have hn:=hL.len
 subst hn
 obtain⟨V0,hV0⟩:∃ V0,V.alloc (.cells cK 39)=V0:=⟨_,rfl⟩
 have hb1:=aD V (.cells cK 39)
 rw[hV0] at hb1
 have hs0:V0.heap.size=V.heap.size+1:=by rw[<-hV0,wSa]
 obtain⟨e0,e1,e2,e3,e4,e5,e6,e7⟩:=tV (hx.below hb1)
 have hb2:=aD V0 (.cells (cd f d a L.length c o) 39)
 have HCl:=aA (Fld.fF ((hL.later hb1).later hb2) (by omega) (by omega))
 have HC1:=aA (aB.new V0 39 (cd f d a L.length c o))
 have HR1:=aA ((aB.new V 39 cK).alloc (.cells (cd f d a L.length c o) 39))
 rw[hV0] at HR1
 have HB1:=aA (bel hb1 hb2)
 rw[hs0] at HC1
 clear h hx hb1 hb2 hL mc h0
 go_enter Tryz.func15,Tryz.ntmps15
 go_wp2_with fail
 refine HCl.o.mono ?_
 rintro e V2 ⟨a2,k2,rfl,hO,hb⟩
 have HC2:=HC1.o.below hb
 have hne:Value.ownBlock (.slice a2 L.length k2)≠some (V.heap.size+1):=fun hk=>by
  have:=(hO.lt _ hk).1
  have:=HC1.o.lt
  omega
 have HO2:=aA (Cde.bP (ownsRow_setCell_other hO (a:=⟨V.heap.size+1,2,none⟩) hne (.slice a2 L.length k2)) HB1.o.size)
 have HC3:=aA (HC2.set 2 (.slice a2 L.length k2))
 have HB3:=aA ((bel HB1.o hb).setCell (p:=⟨V.heap.size+1,2,none⟩) (Nat.le_succ _) (.slice a2 L.length k2))
 have hr3:=(HR1.o.below hb).other (p:=⟨V.heap.size+1,2,none⟩) (by simp) (.slice a2 L.length k2)
 obtain⟨c0,c1,c2,c3⟩:=aC hr3
 obtain⟨f0,f1,f2,f3⟩:=bF hr3
 have hz3:=hr3.lt
 obtain⟨hp,hpb⟩:=lJ hr3 (w:=V) HB3.o (nLr _) (.i f) (.i d) (.slice a2 L.length k2) (.i o)
 have HO4:=aA (nH HO2.o hr3 (by decide) (.i f) (.i d) (.slice a2 L.length k2) (.i o))
 have z2:=HC2.frozen 2
 have hz2:=HC2.lt
 obtain⟨p0,p1,p2,p3⟩:=aC HC2
 obtain⟨d0,d1,d2,d3⟩:=aC HC3.o
 clear hr3 HR1 hb hO hne HC2 HCl HC1 e0 e1 e2 e3 e4 e5 e6 e7 hV0
 go_wp2_with fail
 obtain⟨q0,q1,q2,q3⟩:=aC hp
 exact bPr (v:=.agg (cd f d a2 L.length k2 o)) (by simp[results,Tryz.results15,go_sem,q0,q1,q2,q3]) rfl ⟨_,_,rfl,HO4.o,hpb⟩
theorem jP {s:ByteArray}(v:Wd){pa:Option Addr}{pl pc:Nat}(h:Pg V g f d L o s z)(hP:Knd.Ints V pa pl pc v.ps)(h0:aW f d L o=0) :
  Calls Tryz.prog 9 #[.pointer (some ⟨g,0,none⟩),.agg (eZ v pa pl pc)] V fun e W'=>e=.returned (vL (fQ f d v L o) o)/\Below V.heap.size V W':=by
 obtain⟨m,q,a,n,c,hx,-,⟨l,a2,n2,c2,hM⟩,-⟩:=h.x
 have hb1:=aD V (.cells (eZ v pa pl pc) 24)
 obtain⟨x,k,er,hr⟩:∃ x k er,vL (fQ f d v L o) o=.tuple #[.i x,.i k,.i er]:=⟨_,_,_,rfl⟩
 have HR:=aA fun(V':World) (hb:Below V.heap.size V V')=>zK v (hM.later hb) (hP.later hb) h0
 rw[hr] at HR ⊢
 have HX:=aA (hx.below hb1)
 have HW:=aA (aB.new V 24 (eZ v pa pl pc))
 have HB0:=aA hb1
 clear h hx hM hb1 hP h0 hr
 go_enter Tryz.func9,Tryz.ntmps9
 go_wp2_with fail
 obtain⟨W1,hW1⟩:∃ W1,V.alloc (.cells (eZ v pa pl pc) 24)=W1:=⟨_,rfl⟩
 rw[hW1] at HX HW HB0 ⊢
 clear hW1
 obtain⟨e0,e1,e2,e3,e4,e5,e6,e7⟩:=tV HX.o
 obtain⟨y0,y1,y2,y3⟩:=aC HW.o
 have r0:=cell_regrown e0
 have r1:=cell_regrown e1
 have r2:=cell_regrown y0
 have r3:=cell_regrown y1
 have r4:=cell_regrown y2
 have r5:=cell_regrown y3
 have HRi:=aA fun(V':World) (hb:Below W1.heap.size W1 V')=>HR.o V' (bel HB0.o hb)
 clear HR
 refine wp_region_quiet_below Cde.kC (by kernel_rfl) ?_
 repeat (go_big_quiet_step (fail))
 go_big_quiet_step ((go_at_call 46;exact Calls.regrown_of (HRi.o _ (below_regrown _ _ _))))
 repeat (go_big_quiet_step (fail))
 refine wpQuiet_nil ?_
 intro V1 hw'
 obtain⟨⟨dq,osq⟩,hw''⟩:=hw'
 have hb:=below_regrown W1 dq osq
 simp only at hw''
 rw[<-hw''] at hb
 have HB1:=aA (bel HB0.o hb)
 clear hw'' hb r0 r1 r2 r3 r4 r5 HRi HB0 HX HW e0 e1 e2 e3 e4 e5 e6 e7 y0 y1 y2 y3
 go_wp2_with fail
 exact bPr (v:=.tuple #[.i x,.i k,.i er]) (by simp[results,Tryz.results9,go_sem]) rfl ⟨rfl,HB1.o⟩
theorem aLg {s:ByteArray}(v:Wd){pa:Option Addr}{pl pc:Nat}(h:Pg V g f d L o s z)(hP:Knd.Ints V pa pl pc v.ps)(h0:aW f d L o=0) :
  Calls Tryz.prog 10 #[.pointer (some ⟨g,0,none⟩),.agg (eZ v pa pl pc)] V fun e W'=>e=.returned (hrV (fQ f d v L o) o)/\Below V.heap.size V W':=by
 obtain⟨m,q,a,n,c,hx,-,-,l,b,k,hM⟩:=h.x
 have hb1:=aD V (.cells (eZ v pa pl pc) 24)
 obtain⟨x,er,hr⟩:∃ x er,hrV (fQ f d v L o) o=.tuple #[.i x,.i er]:=⟨_,_,rfl⟩
 have HR:=aA fun(V':World) (hb:Below V.heap.size V V')=>yT v (hM.later hb) (hP.later hb) h0
 rw[hr] at HR ⊢
 have HX:=aA (hx.below hb1)
 have HW:=aA (aB.new V 24 (eZ v pa pl pc))
 have HB0:=aA hb1
 clear h hx hM hb1 hP h0 hr
 go_enter Tryz.func10,Tryz.ntmps10
 go_wp2_with fail
 obtain⟨W1,hW1⟩:∃ W1,V.alloc (.cells (eZ v pa pl pc) 24)=W1:=⟨_,rfl⟩
 rw[hW1] at HX HW HB0 ⊢
 clear hW1
 obtain⟨e0,e1,e2,e3,e4,e5,e6,e7⟩:=tV HX.o
 obtain⟨y0,y1,y2,y3⟩:=aC HW.o
 have r0:=cell_regrown e0
 have r1:=cell_regrown e1
 have r2:=cell_regrown y0
 have r3:=cell_regrown y1
 have r4:=cell_regrown y2
 have r5:=cell_regrown y3
 have HRi:=aA fun(V':World) (hb:Below W1.heap.size W1 V')=>HR.o V' (bel HB0.o hb)
 clear HR
 refine wp_region_quiet_below Cde.kC (by kernel_rfl) ?_
 repeat (go_big_quiet_step (fail))
 go_big_quiet_step ((go_at_call 47;exact Calls.regrown_of (HRi.o _ (below_regrown _ _ _))))
 repeat (go_big_quiet_step (fail))
 refine wpQuiet_nil ?_
 intro V1 hw'
 obtain⟨⟨dq,osq⟩,hw''⟩:=hw'
 have hb:=below_regrown W1 dq osq
 simp only at hw''
 rw[<-hw''] at hb
 have HB1:=aA (bel HB0.o hb)
 clear hw'' hb r0 r1 r2 r3 r4 r5 HRi HB0 HX HW e0 e1 e2 e3 e4 e5 e6 e7 y0 y1 y2 y3
 go_wp2_with fail
 go_ret2
 exact⟨rfl,HB1.o⟩
end Go.Proofs.Cpl
