import Derived.Test.YtijbmdmeiancgaaGreatXH
import Derived.Test.YtijbmdmeiancgaaGreatX40
import Derived.Test.YtijbmdmeiancgaaGreatX25
import Derived.Test.YtijbmdmeiancgaaGreatX33
import Derived.Test.YtijbmdmeiancgaaGreatX23
import Derived.Test.YtijbmdmeiancgaaGreatX08
import Derived.Test.YtijbmdmeiancgaaGreatX37
import Derived.Test.YtijbmdmeiancgaaGreatX36
import Derived.Test.YtijbmdmeiancgaaGreatX21
import Derived.Test.YtijbmdmeiancgaaGreatX15
import Derived.Test.YtijbmdmeiancgaaGreatX16
set_option maxRecDepth 100000
set_option maxHeartbeats 32000000
set_option linter.unusedVariables false
namespace Go.Proofs.Prn
open Go.RowKit Go.IntWalk Knd
open Cde (In i0 ia kd cd Ins kM aJ aG bB aL bJ eO aD bG i6 oP nI)
open Fld (ar bO dK bS aC8 aJf aIu aHx iE)
open Fld (dI jF aA4)

end Go.Proofs.Prn
namespace Go.Proofs.Prn
open Go.RowKit Go.IntWalk Knd
open Cde (In i0 ia kd cd Ins kM aJ aG bB aL aD bG i6 zA dS bI aDn)
open Rdc (gY own_ne aU eQ bM s4 bC dB iK fT)
open Fld (bS)
open Vfy (bL kN kK)
open Fld (dI jF aA4)
theorem aCm {P:Program}{ops:Array Oper}{Q:Exit->Act->World->Prop}{id:Nat}{a:Act}{w:World}(hm:P.follows .mixedOrders=true)
 (hord:∀(i:Nat) (o:Oper),ops[i]?=some o->∀ e ∈ o.after,e.on < i) (I:Act->(Nat->Bool)->Act->World->Prop)
 (h0:I a (fun _=>false) a { w with drawn:=w.drawn+1 })
 (hs:∀ d A w i o,I a d A w->d i=false->ops[i]?=some o->(∀ e ∈ o.after,Region.binds .any e=true->d e.on=true)->∀ Q':Exit->Act->World->Prop,(∀ A w,I a (fun j=>j==i || d j) A w->Q' .normal A w)->wpList P ops Q' [o] A w)
 (he:∀ d A w,I a d A w->(∀ i,i < ops.size->d i=true)->Q .normal A w):(Code.region id ops true).wp P Q a w:=Cde.nC hm hord (I a) h0 hs he
structure Gq (V2:World)(cb gb gt:Nat)(f d u:Int)(am:Option Addr)(k cm:Nat)(b off n cap lb lo rn lc r:Nat)(M:List In)(T:List Int)(m nm:In)(q:Nat->Bool)(y0 y1 y2 y3 y4 y5 y6 y7 y8 y9 y10 y11 y12 y13 y14:Value)(w:World):Prop where
 b2:Below V2.heap.size V2 w
 tt:aI w gt 3 (zA T)
 ob:q 15=false->aI w gb 26 (cd f d am k cm u)
 oc:q 15=true->aI w gb 26 #[.int .i64 f,.int .i64 d,y13,.int .i64 u]
 rw:q 13=false->w.ownsRow V2.heap.size 57 6 (.slice am k cm) M.length (bG M)
 f0:q 0=true->y0=.pointer (some ⟨gb,2,none⟩)
 f1:q 1=true->y1=.slice am k cm
 f2:q 2=true->y2=.pointer (some ⟨cb,2,none⟩)
 f3:q 3=true->y3=.slice (some ⟨b,off,none⟩) n cap
 f4:q 4=true->y4=.slice (some ⟨lb,lo,none⟩) rn lc
 f5:q 5=true->y5=.int .i64 (k:Int)
 f6:q 6=true->y6=.pointer (some ⟨lb,lo+k,none⟩)
 f7:q 7=true->y7=.int .i64 (r:Int)
 f8:q 8=true->y8=.pointer (some ⟨b,off+r*6,none⟩)
 f9:q 9=true->y9=.agg (ia m)
 f10:q 10=true->y10=.slice (some ⟨gt,0,none⟩) n n
 f11:q 11=true->y11=.agg (ia nm)
 f12:q 12=true->q 13=false->∃ g,y12=.slice (some ⟨g,0,none⟩) 1 1/\aI w g 57 (ia nm)
 f13:q 13=true->∃ g c,y13=.slice (some ⟨g,0,none⟩) (M.length+1) c/\w.ownsRow V2.heap.size 57 6 (.slice (some ⟨g,0,none⟩) (M.length+1) c) (M++[nm]).length (bG (M++[nm]))
 f14:q 14=true->y14=.pointer (some ⟨gb,2,none⟩)
 ph:q 15=true->q 1=true/\q 13=true
theorem aC9 (f d out:Int){a:Option Addr}{n cap:Nat}{L:List In}{W:World}(hL:Ins W a n cap L) :
  Calls Tryz.prog 29 #[.agg (cd f d a n cap out)] W (lM W f d L out):=by
 have b1:=aH W (.cells (cd f d a n cap out) 26)
 have b2:=bel b1 (aH _ (.cells bM 26))
 have HF0:Hid (Fg W ((W.alloc (.cells (cd f d a n cap out) 26)).alloc (.cells bM 26)) (cd f d a n cap out) bM) :=
  aC ⟨(aI.new W 26 (cd f d a n cap out)).alloc (.cells bM 26),aL W (.cells (cd f d a n cap out) 26) 26 bM,b2⟩
 have HV:=aC (Vfy.iD f d out (hL.later b2))
 have HLI:=aC hL
 have HLn:=aC hL.len
 clear b1 b2
 go_enter Tryz.func29,Tryz.ntmps29
 go_wp2_with fail
 refine HV.o.mono ?_
 rintro e V1 ⟨ga,gc,rfl,hS,hb,-,-⟩
 obtain⟨vm,hm⟩:∃ m,kN f d L out=m:=⟨_,rfl⟩
 obtain⟨co,hco⟩:∃ co,kK f d L out=co:=⟨_,rfl⟩
 obtain⟨er,her⟩:∃ er,bL f d L out=er:=⟨_,rfl⟩
 rw[hm,hco,her]
 have HEr:=aC her
 have hb2:=aH V1 (.cells #[.slice ga vm gc,.int .i64 co,.int .i64 0] 47)
 have HF1:=aC ((HF0.o.below hb).below hb2)
 clear hm hco her hb hb2 hS HV
 by_cases h0:er=0
 ·have hr:(er != 0)=false:=by simpa using h0
  have h0':=HEr.o.trans h0
  obtain⟨mc,-⟩:=Vfy.aT h0'
  have HP:=aC (vC mc)
  have hlz:liZ f d L out=xB L out:=if_pos mc
  obtain⟨-,m1,m2,o0,o1,hok⟩:=Cde.bD mc
  rw[HLn.o] at m1 m2 o1 hok
  have HOk:=aC hok
  obtain⟨o,rfl⟩:∃ o:Nat,out=o:=⟨out.toNat,by omega⟩
  have hon:o < n:=by omega
  obtain⟨b,off,rfl,-,-⟩:=hL.at (by omega)
  clear mc hok hL
  go_upto_region 4 with fail
  obtain⟨V1b,hV1b⟩:∃ V2,V1.alloc (.cells #[.slice ga vm gc,.int .i64 co,.int .i64 0] 47)=V2:=⟨_,rfl⟩
  rw[hV1b] at HF1 ⊢
  clear hV1b HF0
  obtain⟨x0,x1,x2,x3⟩:=aG HF1.o.c
  have hLv:=aHb f d (o:Int) (HLI.o.later HF1.o.lo)
  rw[hlz] at hLv
  obtain⟨rn,hrn⟩:∃ rl,(xB L (o:Int)).length=rl:=⟨_,rfl⟩
  rw[hrn] at hLv
  have HLv:=aC hLv
  have hrl:(dH L (o:Int)).length=rn:=by rw[<-tN];exact hrn
  have HRn:=aC hrn
  have HRl:=aC hrl
  have hr1:rn<=n:=by have:=tZ L (o:Int);rw[HLn.o] at this;omega
  have hr0:1<=rn:=by have:=HP.o.last.2.1;omega
  have hmk:=Cde.aDg n (by omega)
  clear hLv hrn hrl hlz
  go_wp2_with fail
  refine HLv.o.mono ?_
  rintro e V2 ⟨la,lc,rfl,hO,hb⟩
  have hI:=Cde.aFe (w:=V1b) (a:=la) (c:=lc) (D:=xB L (o:Int)) (by rw[HRn.o];exact hO)
  rw[HRn.o] at hI
  obtain⟨lb,lo,rfl,hlb,hlc⟩:=hI.at (by omega)
  have HF2:=aC (HF1.o.below hb)
  have HLc:=aC hlc
  have HLb:=aC hlb
  clear hO hb hI hlc hlb HLv HF1 x0 x1 x2 x3
  obtain⟨x0,x1,x2,x3⟩:=aG HF2.o.c
  have HRr:Hid (∀ V,Below V2.heap.size V2 V->∀ k,k < rn->V.cell? ⟨lb,lo+k,none⟩=some (.int .i64 (((dH L (o:Int)).getD k 0:Nat):Int))):=aC fun V hb k hk=>by
   rw[hb.cell (p:=⟨lb,lo+k,none⟩) HLb.o,HLc.o k hk,aI6 (by rw[HRl.o];exact hk)]
  have HRb:Hid (∀ k,k < rn->(dH L (o:Int)).getD k 0 < n):=aC fun k hk=>by
   have:=(HP.o.mem (j:=k) (by rw[HRl.o];exact hk)).1
   rw[HLn.o] at this;exact this
  have HG0:=aC (aI.new V2 3 (zA (List.replicate n 0)))
  have HB0:=aC (aH V2 (.cells (zA (List.replicate n 0)) 3))
  go_wp2_with fail
  clear hmk x0 x1 x2 x3
  obtain⟨gt,hgt⟩:∃ gt,V2.heap.size=gt:=⟨_,rfl⟩
  have HGt:=aC hgt
  rw[hgt] at HG0 ⊢
  clear hgt
  go_loopw [8] (fun iv wr=>∃ k:Nat,k<=rn/\iv=.int .i64 k/\Hid (aI wr gt 3 (zA (toK (dH L (o:Int)) n k)))/\Hid (Below V2.heap.size V2 wr)) (fun iv _=>rn-(intOf iv).toNat)
  case atStart=>exact⟨0,Nat.zero_le _,rfl,HG0,HB0⟩
  case round =>
   obtain⟨k,hk,rfl,HG,HB⟩:=hrel
   rename World=>V
   clear HG0 HB0
   by_cases hlt:k < rn
   ·have c0:=HRr.o V HB.o k hlt
    have hr:=HRb.o k hlt
    have htl:=lG (dH L (o:Int)) n k
    have hts:=qC (dH L (o:Int)) n k
    generalize (dH L (o:Int)).getD k 0=r at *
    have d0:=HG.o.cell r (dS _ r (by rw[htl];exact hr))
    have y0:=HG.o.frozen r
    generalize (toK (dH L (o:Int)) n k).getD r 0=x0 at d0
    have HG1:=aC (Cde.aKu (k:=r) HG.o (k:Int))
    rw[<-hts] at HG1
    have HB1:=aC (HB.o.setCell (p:=⟨gt,r,none⟩) (by have:=HGt.o;simp;omega) (.int .i64 (k:Int)))
    have i0:(0:Int)<=k:=by omega
    have i1:(k:Int) < rn:=by omega
    have i2:(0:Int)<=r:=by omega
    have i3:(r:Int) < n:=by omega
    clear htl hts
    go_wp2_with fail
    go_roundw
    case rel=>exact⟨k+1,by omega,by go_num,HG1,HB1⟩
    case measure=>(simp[intOf];try omega)
   ·obtain rfl:k=rn:=by omega
    have htf:=aBh HP.o
    rw[HRl.o,HLn.o] at htf
    rw[htf] at HG
    have t0:=HG.o.cell o (dS _ o (by rw[qH,HLn.o];exact hon))
    have hpo:yH L (o:Int)=(sU L (o:Int)).getD o 0:=rfl
    obtain⟨z,hz⟩:∃ z,(sU L (o:Int)).getD o 0=z:=⟨_,rfl⟩
    rw[hz] at t0 hpo
    have HPo:=aC hpo
    have HTl:=aC (show (sU L (o:Int)).length=n by rw[qH,HLn.o])
    have HF3:=aC (HF2.o.below HB.o)
    obtain⟨x0,x1,x2,x3⟩:=aG HF3.o.c
    have z0:=HF3.o.c.lt
    have zg:=HG.o.lt
    have j0:(0:Int)<=o:=by omega
    have j1:(o:Int) < n:=by omega
    clear htf hpo hz hlt
    go_wp2_with fail
    go_region
    have hb:=aH V (.cells (cd f d none 0 0 z) 26)
    have hbd:=aD (V.alloc (.cells (cd f d none 0 0 z) 26))
    have HB6:=aC (bel (bel HB.o hb) hbd)
    have HX6:=aC ((aI.new V 26 (cd f d none 0 0 z)).below hbd)
    have HG6:=aC ((HG.o.below hb).below hbd)
    have HNe:Hid (gt≠V.heap.size):=aC (by omega)
    have HGb:=aC HB.o.size
    obtain⟨gb,hgb⟩:∃ gb,V.heap.size=gb:=⟨_,rfl⟩
    obtain⟨V6,hV6⟩:∃ V6,(V.alloc (.cells (cd f d none 0 0 z) 26)).drew=V6:=⟨_,rfl⟩
    rw[hV6] at HB6 HX6 HG6 ⊢
    rw[hgb] at HX6 HNe HGb ⊢
    clear hb hbd hgb hV6 HB HG HF3 x0 x1 x2 x3 z0 zg t0
    go_wp2_with fail
    go_loopw [10] (fun iv wr=>∃(j:Nat) (am:Option Addr) (cm:Nat),j<=k/\iv=.int .i64 j/\Hid (aI wr gb 26 (cd f d am j cm z))/\Hid (wr.ownsRow V2.heap.size 57 6 (.slice am j cm) (prK L (o:Int) j).length (bG (prK L (o:Int) j)))/\Hid (aI wr gt 3 (zA (sU L (o:Int))))/\Hid (Below V2.heap.size V2 wr)) (fun iv _=>k-(intOf iv).toNat)
    case atStart=>exact⟨0,none,0,Nat.zero_le _,rfl,HX6,aC ⟨rfl,.inl ⟨rfl,rfl⟩⟩,HG6,HB6⟩
    case round =>
     obtain⟨j,am,cm,hj,rfl,HX,HO,HG,HB⟩:=hrel
     rename World=>V
     clear HX6 HG6 HB6
     by_cases hlt:j < k
     ·have hjl:j < (dH L (o:Int)).length:=by rw[HRl.o];exact hlt
      have hr:=HRb.o j hlt
      have hpn:=vJ (L:=L) (out:=(o:Int)) hjl
      have hps:=aBt (L:=L) (out:=(o:Int)) hjl
      have hpl:=aE7 (L:=L) (out:=(o:Int)) (k:=j) (by omega)
      have HRg:=aC fun w hb=>HRr.o w hb j hlt
      generalize (dH L (o:Int)).getD j 0=r at *
      have HIc:=aC fun w (hb:Below V2.heap.size V2 w)=>oJ (HLI.o.later (bel HF2.o.lo hb)) r hr
      have hto:=jF (Cde.bW HOk.o hr)
      have hTh:=fun w (h:aI w gt 3 (zA (sU L (o:Int))))=>dI (L.getD r i0) (Cde.aD8 h (by rw[HTl.o];omega)) (by rw[HTl.o];exact⟨fun h=>⟨(hto.1 h).1,by have:=(hto.1 h).2;omega⟩,fun h=>⟨(hto.2.1 h).1,by have:=(hto.2.1 h).2;omega⟩,fun h=>⟨(hto.2.2 h).1,by have:=(hto.2.2 h).2;omega⟩⟩)
      rw[HTl.o,<-hpn] at hTh
      have HTh:=aC hTh
      have HPs:=aC hps
      have HMl:=aC hpl
      have HC:=aC HF2.o.c
      generalize (nQ L (o:Int)).getD j i0=nm at *
      generalize L.getD r i0=m at *
      generalize hMM:prK L (o:Int) j=M at *
      generalize hTT:sU L (o:Int)=T at *
      have i0':(0:Int)<=j:=by omega
      have i1':(j:Int) < k:=by omega
      have i2':(0:Int)<=r:=by omega
      have i3':(r:Int) < n:=by omega
      clear hjl hpn hps hpl hto hTh hMM
      go_wp2_with fail
      refine aCm gY (aDn (by kernel_rfl)) (fun a0 q A w=>∃ y0 y1 y2 y3 y4 y5 y6 y7 y8 y9 y10 y11 y12 y13 y14,A=⟨(((((((((((((((a0.tmps.setIfInBounds 53 y0).setIfInBounds 54 y1).setIfInBounds 55 y2).setIfInBounds 56 y3).setIfInBounds 57 y4).setIfInBounds 58 y5).setIfInBounds 59 y6).setIfInBounds 60 y7).setIfInBounds 61 y8).setIfInBounds 62 y9).setIfInBounds 63 y10).setIfInBounds 64 y11).setIfInBounds 65 y12).setIfInBounds 66 y13).setIfInBounds 67 y14),a0.defers⟩/\Gq V2 W.heap.size gb gt f d z am j cm b off n cap lb lo k lc r M T m nm q y0 y1 y2 y3 y4 y5 y6 y7 y8 y9 y10 y11 y12 y13 y14 w) ?_ ?_ ?_
      ·simp only[List.setIfInBounds_toArray,List.set_cons_succ,List.set_cons_zero]
       refine⟨_,_,_,_,_,_,_,_,_,_,_,_,_,_,_,rfl,HB.o.drew,HG.o.below (aD V),fun _=>HX.o.below (aD V),?_,fun _=>HO.o.drew,?_,?_,?_,?_,?_,?_,?_,?_,?_,?_,?_,?_,?_,?_,?_,?_⟩
       all_goals first|(intro h;cases h;done)|(intro h _;cases h;done)
      ·rintro q A w i op ⟨y0,y1,y2,y3,y4,y5,y6,y7,y8,y9,y10,y11,y12,y13,y14,rfl,C⟩ hdi ho haft Q' hk'
       simp only[List.setIfInBounds_toArray,List.set_cons_succ,List.set_cons_zero] at hk' ⊢
       have HK:=aC hk'
       clear hk'
       have hi:i < 16:=(Array.getElem?_eq_some_iff.1 ho).1
       match i,hi with
       | 0,_ =>
        obtain rfl:=(Option.some.inj ho)
        clear haft ho
        have C:=aC C
        go_wp2
        have C:=C.o
        exact HK.o _ _ ⟨_,y1,y2,y3,y4,y5,y6,y7,y8,y9,y10,y11,y12,y13,y14,rfl,⟨C.b2,C.tt,C.ob,C.oc,C.rw,(fun _=>rfl),C.f1,C.f2,C.f3,C.f4,C.f5,C.f6,C.f7,C.f8,C.f9,C.f10,C.f11,C.f12,C.f13,C.f14,(fun h=>⟨bI (C.ph h).1,bI (C.ph h).2⟩)⟩⟩
       | 1,_ =>
        obtain rfl:=(Option.some.inj ho)
        have g0:q 0=true:=haft ⟨0,.data⟩ (by simp) rfl
        clear haft ho
        have e1:=C.f0 g0
        subst e1
        have h15:q 15=false:=by
         cases h:q 15
         ·rfl
         ·have h2:=(C.ph h).1;rw[hdi] at h2;cases h2
        obtain⟨q0,q1,q2,q3⟩:=aG (C.ob h15)
        have C:=aC C
        go_wp2
        have C:=C.o
        exact HK.o _ _ ⟨_,_,y2,y3,y4,y5,y6,y7,y8,y9,y10,y11,y12,y13,y14,rfl,⟨C.b2,C.tt,C.ob,C.oc,C.rw,C.f0,(fun _=>rfl),C.f2,C.f3,C.f4,C.f5,C.f6,C.f7,C.f8,C.f9,C.f10,C.f11,C.f12,C.f13,C.f14,(fun h=>⟨bI (C.ph h).1,bI (C.ph h).2⟩)⟩⟩
       | 2,_ =>
        obtain rfl:=(Option.some.inj ho)
        clear haft ho
        have C:=aC C
        go_wp2
        have C:=C.o
        exact HK.o _ _ ⟨y0,y1,_,y3,y4,y5,y6,y7,y8,y9,y10,y11,y12,y13,y14,rfl,⟨C.b2,C.tt,C.ob,C.oc,C.rw,C.f0,C.f1,(fun _=>rfl),C.f3,C.f4,C.f5,C.f6,C.f7,C.f8,C.f9,C.f10,C.f11,C.f12,C.f13,C.f14,(fun h=>⟨bI (C.ph h).1,bI (C.ph h).2⟩)⟩⟩
       | 3,_ =>
        obtain rfl:=(Option.some.inj ho)
        have g2:q 2=true:=haft ⟨2,.data⟩ (by simp) rfl
        clear haft ho
        have e1:=C.f2 g2
        subst e1
        obtain⟨q0,q1,q2,q3⟩:=aG (HC.o.below C.b2)
        have C:=aC C
        go_wp2
        have C:=C.o
        exact HK.o _ _ ⟨y0,y1,_,_,y4,y5,y6,y7,y8,y9,y10,y11,y12,y13,y14,rfl,⟨C.b2,C.tt,C.ob,C.oc,C.rw,C.f0,C.f1,C.f2,(fun _=>rfl),C.f4,C.f5,C.f6,C.f7,C.f8,C.f9,C.f10,C.f11,C.f12,C.f13,C.f14,(fun h=>⟨bI (C.ph h).1,bI (C.ph h).2⟩)⟩⟩
       | 4,_ =>
        obtain rfl:=(Option.some.inj ho)
        clear haft ho
        have C:=aC C
        go_wp2
        have C:=C.o
        exact HK.o _ _ ⟨y0,y1,y2,y3,_,y5,y6,y7,y8,y9,y10,y11,y12,y13,y14,rfl,⟨C.b2,C.tt,C.ob,C.oc,C.rw,C.f0,C.f1,C.f2,C.f3,(fun _=>rfl),C.f5,C.f6,C.f7,C.f8,C.f9,C.f10,C.f11,C.f12,C.f13,C.f14,(fun h=>⟨bI (C.ph h).1,bI (C.ph h).2⟩)⟩⟩
       | 5,_ =>
        obtain rfl:=(Option.some.inj ho)
        clear haft ho
        have C:=aC C
        go_wp2
        have C:=C.o
        exact HK.o _ _ ⟨y0,y1,y2,y3,y4,_,y6,y7,y8,y9,y10,y11,y12,y13,y14,rfl,⟨C.b2,C.tt,C.ob,C.oc,C.rw,C.f0,C.f1,C.f2,C.f3,C.f4,(fun _=>rfl),C.f6,C.f7,C.f8,C.f9,C.f10,C.f11,C.f12,C.f13,C.f14,(fun h=>⟨bI (C.ph h).1,bI (C.ph h).2⟩)⟩⟩
       | 6,_ =>
        obtain rfl:=(Option.some.inj ho)
        have g4:q 4=true:=haft ⟨4,.data⟩ (by simp) rfl
        have g5:q 5=true:=haft ⟨5,.data⟩ (by simp) rfl
        clear haft ho
        have e1:=C.f4 g4
        have e2:=C.f5 g5
        subst e1 e2
        have C:=aC C
        go_wp2
        have C:=C.o
        exact HK.o _ _ ⟨y0,y1,y2,y3,_,_,_,y7,y8,y9,y10,y11,y12,y13,y14,rfl,⟨C.b2,C.tt,C.ob,C.oc,C.rw,C.f0,C.f1,C.f2,C.f3,C.f4,C.f5,(fun _=>rfl),C.f7,C.f8,C.f9,C.f10,C.f11,C.f12,C.f13,C.f14,(fun h=>⟨bI (C.ph h).1,bI (C.ph h).2⟩)⟩⟩
       | 7,_ =>
        obtain rfl:=(Option.some.inj ho)
        have g6:q 6=true:=haft ⟨6,.data⟩ (by simp) rfl
        clear haft ho
        have e1:=C.f6 g6
        subst e1
        have c0:=HRg.o w C.b2
        have C:=aC C
        go_wp2
        have C:=C.o
        exact HK.o _ _ ⟨y0,y1,y2,y3,y4,y5,_,_,y8,y9,y10,y11,y12,y13,y14,rfl,⟨C.b2,C.tt,C.ob,C.oc,C.rw,C.f0,C.f1,C.f2,C.f3,C.f4,C.f5,C.f6,(fun _=>rfl),C.f8,C.f9,C.f10,C.f11,C.f12,C.f13,C.f14,(fun h=>⟨bI (C.ph h).1,bI (C.ph h).2⟩)⟩⟩
       | 8,_ =>
        obtain rfl:=(Option.some.inj ho)
        have g3:q 3=true:=haft ⟨3,.data⟩ (by simp) rfl
        have g7:q 7=true:=haft ⟨7,.data⟩ (by simp) rfl
        clear haft ho
        have e1:=C.f3 g3
        have e2:=C.f7 g7
        subst e1 e2
        have C:=aC C
        go_wp2
        have C:=C.o
        exact HK.o _ _ ⟨y0,y1,y2,_,y4,y5,y6,_,_,y9,y10,y11,y12,y13,y14,rfl,⟨C.b2,C.tt,C.ob,C.oc,C.rw,C.f0,C.f1,C.f2,C.f3,C.f4,C.f5,C.f6,C.f7,(fun _=>rfl),C.f9,C.f10,C.f11,C.f12,C.f13,C.f14,(fun h=>⟨bI (C.ph h).1,bI (C.ph h).2⟩)⟩⟩
       | 9,_ =>
        obtain rfl:=(Option.some.inj ho)
        have g8:q 8=true:=haft ⟨8,.data⟩ (by simp) rfl
        clear haft ho
        have e1:=C.f8 g8
        subst e1
        obtain⟨e0,e1,e2,e3,e4,e5⟩:=HIc.o w C.b2
        have C:=aC C
        go_wp2
        have C:=C.o
        exact HK.o _ _ ⟨y0,y1,y2,y3,y4,y5,y6,y7,_,_,y10,y11,y12,y13,y14,rfl,⟨C.b2,C.tt,C.ob,C.oc,C.rw,C.f0,C.f1,C.f2,C.f3,C.f4,C.f5,C.f6,C.f7,C.f8,(fun _=>rfl),C.f10,C.f11,C.f12,C.f13,C.f14,(fun h=>⟨bI (C.ph h).1,bI (C.ph h).2⟩)⟩⟩
       | 10,_ =>
        obtain rfl:=(Option.some.inj ho)
        clear haft ho
        have C:=aC C
        go_wp2
        have C:=C.o
        exact HK.o _ _ ⟨y0,y1,y2,y3,y4,y5,y6,y7,y8,y9,_,y11,y12,y13,y14,rfl,⟨C.b2,C.tt,C.ob,C.oc,C.rw,C.f0,C.f1,C.f2,C.f3,C.f4,C.f5,C.f6,C.f7,C.f8,C.f9,(fun _=>rfl),C.f11,C.f12,C.f13,C.f14,(fun h=>⟨bI (C.ph h).1,bI (C.ph h).2⟩)⟩⟩
       | 11,_ =>
        obtain rfl:=(Option.some.inj ho)
        have g9:q 9=true:=haft ⟨9,.data⟩ (by simp) rfl
        have g10:q 10=true:=haft ⟨10,.data⟩ (by simp) rfl
        clear haft ho
        have e1:=C.f9 g9
        have e2:=C.f10 g10
        subst e1 e2
        have HTw:=aC (HTh.o w C.tt)
        have C:=aC C
        go_wp2_with fail
        refine HTw.o.mono ?_
        rintro e w' ⟨rfl,hb⟩
        have HBw:=aC hb
        clear hb
        go_wp2_with fail
        have C:=C.o
        have hb:=HBw.o
        exact HK.o _ _ ⟨y0,y1,y2,y3,y4,y5,y6,y7,y8,_,_,_,y12,y13,y14,rfl,⟨(bel C.b2 hb),(C.tt.below hb),(fun h=>(C.ob h).below hb),(fun h=>(C.oc h).below hb),(fun h=>Cde.aS (C.rw h) hb),C.f0,C.f1,C.f2,C.f3,C.f4,C.f5,C.f6,C.f7,C.f8,C.f9,C.f10,(fun _=>rfl),(fun h h2=>by obtain⟨g,e,hc⟩:=C.f12 h h2;exact⟨g,e,hc.below hb⟩),(fun h=>by obtain⟨g,c,e,hc⟩:=C.f13 h;exact⟨g,c,e,Cde.aS hc hb⟩),C.f14,(fun h=>⟨bI (C.ph h).1,bI (C.ph h).2⟩)⟩⟩
       | 12,_ =>
        obtain rfl:=(Option.some.inj ho)
        have g11:q 11=true:=haft ⟨11,.data⟩ (by simp) rfl
        clear haft ho
        have e1:=C.f11 g11
        subst e1
        have C:=aC C
        go_wp2
        have C:=C.o
        have hb:=aH w (.cells (ia nm) 57)
        exact HK.o _ _ ⟨y0,y1,y2,y3,y4,y5,y6,y7,y8,y9,y10,_,_,y13,y14,rfl,⟨(bel C.b2 hb),(C.tt.below hb),(fun h=>(C.ob h).below hb),(fun h=>(C.oc h).below hb),(fun h=>Cde.aS (C.rw h) hb),C.f0,C.f1,C.f2,C.f3,C.f4,C.f5,C.f6,C.f7,C.f8,C.f9,C.f10,C.f11,(fun _ _=>⟨_,rfl,aI.new w 57 (ia nm)⟩),(fun h=>by obtain⟨g,c,e,hc⟩:=C.f13 h;exact⟨g,c,e,Cde.aS hc hb⟩),C.f14,(fun h=>⟨bI (C.ph h).1,bI (C.ph h).2⟩)⟩⟩
       | 13,_ =>
        obtain rfl:=(Option.some.inj ho)
        have g1:q 1=true:=haft ⟨1,.data⟩ (by simp) rfl
        have g12:q 12=true:=haft ⟨12,.data⟩ (by simp) rfl
        clear haft ho
        have e1:=C.f1 g1
        obtain⟨g,e2,hc⟩:=C.f12 g12 hdi
        subst e1 e2
        have hO:=C.rw hdi
        refine fT rfl (.tmp 54) (.tmp 65) rfl rfl hO C.b2.size g nm rfl hc (by rw[HMl.o];omega) ?_
        intro gg c w' hown hgr
        have hb:Below V2.heap.size V2 w':=C.b2.grown hgr C.b2.size fun k hk=>(Cde.aQ hO k hk).1
        exact HK.o _ _ ⟨y0,_,y2,y3,y4,y5,y6,y7,y8,y9,y10,y11,_,_,y14,rfl,⟨hb,(aU hO hgr C.tt (by decide)),(fun h=>aU hO hgr (C.ob h) (by decide)),(fun h=>by have h2:=(C.ph h).2;rw[hdi] at h2;cases h2),(fun h=>by cases h),C.f0,C.f1,C.f2,C.f3,C.f4,C.f5,C.f6,C.f7,C.f8,C.f9,C.f10,C.f11,(fun _ h=>by cases h),(fun _=>⟨_,_,rfl,hown⟩),C.f14,(fun h=>⟨bI (C.ph h).1,bI (C.ph h).2⟩)⟩⟩
       | 14,_ =>
        obtain rfl:=(Option.some.inj ho)
        clear haft ho
        have C:=aC C
        go_wp2
        have C:=C.o
        exact HK.o _ _ ⟨y0,y1,y2,y3,y4,y5,y6,y7,y8,y9,y10,y11,y12,y13,_,rfl,⟨C.b2,C.tt,C.ob,C.oc,C.rw,C.f0,C.f1,C.f2,C.f3,C.f4,C.f5,C.f6,C.f7,C.f8,C.f9,C.f10,C.f11,C.f12,C.f13,(fun _=>rfl),(fun h=>⟨bI (C.ph h).1,bI (C.ph h).2⟩)⟩⟩
       | 15,_ =>
        obtain rfl:=(Option.some.inj ho)
        have g14:q 14=true:=haft ⟨14,.data⟩ (by simp) rfl
        have g13:q 13=true:=haft ⟨13,.data⟩ (by simp) rfl
        have g1:q 1=true:=haft ⟨1,.phase⟩ (by simp) rfl
        clear haft ho
        have e1:=C.f14 g14
        obtain⟨g,c,e2,hO⟩:=C.f13 g13
        subst e1 e2
        obtain⟨q0,q1,q2,q3⟩:=aG (C.ob hdi)
        have s2:=(C.ob hdi).frozen 2
        have C:=aC C
        go_wp2
        have C:=C.o
        have h4:=(C.ob hdi).set 2 (.slice (some ⟨g,0,none⟩) (M.length+1) c)
        have hO2:=ownsRow_setCell_other hO (a:=⟨gb,2,none⟩) (own_ne hO (C.ob hdi) (by decide)) (.slice (some ⟨g,0,none⟩) (M.length+1) c)
        have hb:=C.b2.setCell (p:=⟨gb,2,none⟩) (by simpa using HGb.o) (.slice (some ⟨g,0,none⟩) (M.length+1) c)
        exact HK.o _ _ ⟨y0,y1,y2,y3,y4,y5,y6,y7,y8,y9,y10,y11,y12,_,_,rfl,⟨hb,(C.tt.other (p:=⟨gb,2,none⟩) (by simpa using HNe.o) _),(fun h=>by cases h),(fun _=>h4),(fun h=>by have h2:q 13=false:=h;rw[g13] at h2;cases h2),C.f0,C.f1,C.f2,C.f3,C.f4,C.f5,C.f6,C.f7,C.f8,C.f9,C.f10,C.f11,(fun _ h=>by have h2:q 13=false:=h;rw[g13] at h2;cases h2),(fun _=>⟨g,c,rfl,hO2⟩),C.f14,(fun _=>⟨bI g1,bI g13⟩)⟩⟩
      rintro q A V7 ⟨y0,y1,y2,y3,y4,y5,y6,y7,y8,y9,y10,y11,y12,y13,y14,rfl,C⟩ hall
      simp only[List.setIfInBounds_toArray,List.set_cons_succ,List.set_cons_zero]
      have D:∀ i,i < 16->q i=true:=hall
      obtain⟨g,c,e13,hO⟩:=C.f13 (D 13 (by omega))
      have hX:=C.oc (D 15 (by omega))
      subst e13
      rw[<-HPs.o,HMl.o] at hO
      rw[HMl.o] at hX
      have HX7:=aC hX
      have HO7:=aC hO
      have HG7:=aC C.tt
      have HB7:=aC C.b2
      clear hX hO D hall C HX HO HG HB
      go_wp2_with fail
      go_roundw
      case rel=>exact⟨j+1,_,_,by omega,by go_num,HX7,HO7,aC (by first|exact HG7.o|(rw[hTT];exact HG7.o)),HB7⟩
      case measure=>(simp[intOf];try omega)
     ·obtain rfl:j=k:=by omega
      have hpf:=aAe L (o:Int)
      rw[HRl.o] at hpf
      rw[hpf] at HO
      have HPl:=aC (show (nQ L (o:Int)).length=j by rw[gU,HRl.o])
      rw[HPl.o] at HO
      have HF9:=aC (HF2.o.below HB.o)
      have HO9:=aC (Cde.aW HO.o (show W.heap.size<=V2.heap.size from HF2.o.lo.size))
      have hq:=own_ne HO9.o HF9.o.r (by decide)
      obtain⟨x0,x1,x2,x3⟩:=aG HX.o
      obtain⟨p0,p1,p2,p3⟩:=aG HF9.o.r
      obtain⟨r0,r1,r2,r3⟩:=bC HF9.o.r
      obtain⟨V9,hV9⟩:∃ V9,(((V.setCell ⟨W.heap.size+1,0,none⟩ (.int .i64 f)).setCell ⟨W.heap.size+1,1,none⟩ (.int .i64 d)).setCell ⟨W.heap.size+1,2,none⟩ (.slice am j cm)).setCell ⟨W.heap.size+1,3,none⟩ (.int .i64 z)=V9:=⟨_,rfl⟩
      have HO5:=aC (dB HO9.o hq (.int .i64 f) (.int .i64 d) (.slice am j cm) (.int .i64 z))
      have HF5:=aC (mK HF9.o.r HF9.o.lo (.int .i64 f) (.int .i64 d) (.slice am j cm) (.int .i64 z))
      unfold s4 at HO5 HF5
      rw[hV9] at HO5 HF5
      clear hpf hq
      go_wp2_with fail
      obtain⟨q0,q1,q2,q3⟩:=aG HF5.o.1
      exact bodyPost_ret (v:=.tuple #[.agg (cd f d am j cm z),.int .i64 0]) (by simp[results,Tryz.results29,go_sem,q0,q1,q2,q3]) rfl (lM.row h0' rfl HPo.o HPl.o HO5.o HF5.o.2)
 ·have hr:(er != 0)=true:=by simpa using h0
  go_upto_region 3 with fail
  obtain⟨V2,hV2⟩:∃ V2,V1.alloc (.cells #[.slice ga vm gc,.int .i64 co,.int .i64 0] 47)=V2:=⟨_,rfl⟩
  rw[hV2] at HF1 ⊢
  clear hV2
  obtain⟨p0,p1,p2,p3⟩:=aG HF1.o.r
  obtain⟨r0,r1,r2,r3⟩:=bC HF1.o.r
  obtain⟨V3,hV3⟩:∃ V3,(((V2.setCell ⟨W.heap.size+1,0,none⟩ (.int .i64 0)).setCell ⟨W.heap.size+1,1,none⟩ (.int .i64 0)).setCell ⟨W.heap.size+1,2,none⟩ (.slice none 0 0)).setCell ⟨W.heap.size+1,3,none⟩ (.int .i64 0)=V3:=⟨_,rfl⟩
  have HF2:=aC (mK HF1.o.r HF1.o.lo (.int .i64 0) (.int .i64 0) (.slice none 0 0) (.int .i64 0))
  unfold s4 at HF2
  rw[hV3] at HF2
  go_wp2_with fail
  obtain⟨q0,q1,q2,q3⟩:=aG HF2.o.1
  exact bodyPost_ret (v:=.tuple #[.agg bM,.int .i64 er]) (by simp[results,Tryz.results29,go_sem,q0,q1,q2,q3]) rfl (lM.no HEr.o h0 HF2.o.2)
end Go.Proofs.Prn
