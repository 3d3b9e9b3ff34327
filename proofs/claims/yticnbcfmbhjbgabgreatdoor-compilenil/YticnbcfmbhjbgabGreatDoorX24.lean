import Derived.Test.YticnbcfmbhjbgabGreatDoorXH
import Derived.Deep.CutRange
import Derived.Test.YticnbcfmbhjbgabGreatDoorX23
import Derived.Test.YticnbcfmbhjbgabGreatDoorX21
set_option maxRecDepth 100000
set_option maxHeartbeats 32000000
set_option linter.unusedVariables false
namespace Go.Proofs.Fld
open Go.RowKit Go.IntWalk Knd
open Cde (In i0 ia kd cd Ins qW aH aC aP aI bG dY aF cZ i6 zA aG)
open Vfy (bB)
open YticnbcfmbhjbgabGreatDoor (aB)
theorem aRf {f d:Int}{M:List In}{T:List Int}{n:In}{k:Nat}{x:Int}(hM:M.length=k)(h:knZ f d M (bZ n T)=(x,true)):foS f d (M,T) n=(M++[nuI x],T++[(k:Int)]):=by
 simp[foS,nwI,nwT,h,hM]
theorem aVe {f d:Int}{M:List In}{T:List Int}{n:In}{k:Nat}{x:Int}(hM:M.length=k)(h:knZ f d M (bZ n T)=(x,false)):foS f d (M,T) n=(M++[bZ n T],T++[zR k (lI M (bZ n T))]):=by
 simp[foS,nwI,nwT,h,hM]
theorem aD1 (f d out:Int){a:Option Addr}{n cap:Nat}{L:List In}{W:World}(hL:Ins W a n cap L)(h:bB f d L out=0) :
  Calls Tryz.prog 263 #[.agg (cd f d a n cap out)] W fun e W'=>∃ a' c',e=.returned (.agg (cd f d a' n c' (foO f d L out)))/\W'.ownsRow W.heap.size 76 6 (.slice a' n c') n (cZ (nR f d L).1)/\Below W.heap.size W W':=by
 obtain⟨mc,-⟩:=Vfy.aJ h
 obtain⟨-,m1,m2,o0,o1,-⟩:=Cde.aS mc
 rw[hL.len] at m1 m2 o1
 obtain⟨o,rfl⟩:∃ o:Nat,out=o:=⟨out.toNat,by omega⟩
 obtain⟨cs1,hs1,hmk1⟩:=aCi n (by omega)
 obtain⟨cs2,hs2,hmk2⟩:=aCk n (by omega)
 have HLI:=aA hL
 have HLn:=aA hL.len
 have HOk:=aA fun k (hk:k < n)=>aYc h (k:=k) (by rw[hL.len];exact hk)
 have HSu:=aA fun k (hk:k < n)=>aD4 f d (L:=L) (k:=k) (by rw[hL.len];exact hk)
 have HF0:Hid (Fb W ((((W.alloc (.cells (cd f d a n cap (o:Int)) 39)).alloc (.cells bV 39)).alloc (.cells cs1 76)).alloc (.cells cs2 3)) (cd f d a n cap (o:Int)) (.slice (some ⟨W.heap.size+1+1,0,none⟩) 0 n) (.slice (some ⟨W.heap.size+1+1+1,0,none⟩) 0 n) [] []):=by
  have b1:=aD W (.cells (cd f d a n cap (o:Int)) 39)
  have b2:=bel b1 (aD _ (.cells bV 39))
  have b3:=bel b2 (aD _ (.cells cs1 76))
  have b4:=bel b3 (aD _ (.cells cs2 3))
  have h1:=((aB.new W 39 (cd f d a n cap (o:Int))).alloc (.cells bV 39)).alloc (.cells cs1 76)
  have h2:=((aI W (.cells (cd f d a n cap (o:Int)) 39) 39 bV).alloc (.cells cs1 76))
  have h3:=aB.new ((W.alloc (.cells (cd f d a n cap (o:Int)) 39)).alloc (.cells bV 39)) 76 cs1
  have h4:=aB.new (((W.alloc (.cells (cd f d a n cap (o:Int)) 39)).alloc (.cells bV 39)).alloc (.cells cs1 76)) 3 cs2
  rw[wSa,wSa] at h3
  rw[wSa,wSa,wSa] at h4
  exact⟨h1.alloc _,h2.alloc _,jC (h3.alloc _) hs1 (by omega) (by omega),jC h4 hs2 (by omega) (by omega),b4⟩
 clear hL h mc hs1 hs2
 go_enter Tryz.func263,Tryz.ntmps263
 go_wp2_with fail
 clear hmk1 hmk2
 go_loopw [3,4,21] (fun mv tv i wr=>∃(k gm cm gt ct:Nat) (M:List In) (T:List Int),k<=n/\i=.i k/\mv=.slice (some ⟨gm,0,none⟩) k cm/\tv=.slice (some ⟨gt,0,none⟩) k ct/\Hid (nR f d (L.take k)=(M,T))/\Hid (M.length=k)/\Hid (T.length=k)/\Hid (Fb W wr (cd f d a n cap (o:Int)) (.slice (some ⟨gm,0,none⟩) k cm) (.slice (some ⟨gt,0,none⟩) k ct) M T)) (fun _ _ i _=>n-(intOf i).toNat)
 case atStart=>exact⟨0,_,_,_,_,[],[],nZl _,rfl,rfl,rfl,aA rfl,aA rfl,aA rfl,HF0⟩
 case round =>
  obtain⟨k,gm,cm,gt,ct,M,T,hk,rfl,rfl,rfl,HM,HMl,HTl,HF⟩:=hrel
  rename World=>V
  clear HF0
  by_cases hlt:k < n
  ·obtain⟨b,off,rfl,-,hat⟩:=(HLI.o.later HF.o.lo).at (by omega)
   obtain⟨e0,e1,e2,e3,e4,e5⟩:=hat k hlt
   clear hat
   have hi0:(0:Int)<=k:=by omega
   have hi1:(k:Int) < n:=by omega
   have hOk:=HOk.o k hlt
   have hSu:=HSu.o k hlt
   rw[HM.o] at hOk hSu
   have HOk2:=aA hOk
   generalize L.getD k i0=q at *
   have HY:=aA fun x (h:knZ f d M (bZ q T)=(x,true))=>hSu.trans (aRf HMl.o h)
   have HNo:=aA fun x (h:knZ f d M (bZ q T)=(x,false))=>hSu.trans (aVe HMl.o h)
   have HC0:=aA (HF.o.with q)
   have HTh:=aA (fU q (HC0.o.f.ints HTl.o))
   clear hOk hSu
   go_wp2_with fail
   refine HTh.o.mono ?_
   rintro e V1 ⟨rfl,hb⟩
   have HC1:=aA (HC0.o.below hb)
   clear hb HC0 HTh e0 e1 e2 e3 e4 e5
   generalize bZ q T=m at *
   generalize hgb:V.heap.size=gb at *
   have hb0:=HC1.o.hb
   have hb1:W.heap.size < gb:=by omega
   obtain⟨e0,e1,e2,e3,e4,e5⟩:=aH HC1.o.n
   obtain⟨r0,r1,r2,r3,r4,r5⟩:=aC5 HC1.o.n
   obtain⟨c0,c1,c2,c3⟩:=aC HC1.o.f.c
   have HC2:=aA (HC1.o.put m)
   have HKn:=aA (aRe f d m (HC2.o.f.ins HMl.o) HOk2.o)
   obtain⟨⟨x,kb⟩,hX⟩:∃ X,knZ f d M m=X:=⟨_,rfl⟩
   rw[hX] at HKn
   have HX:=aA hX
   clear hX
   go_wp2_with fail
   refine HKn.o.mono ?_
   rintro e V2 ⟨rfl,hb⟩
   have HC3:=aA (HC2.o.below hb)
   clear hb HC2 HKn e0 e1 e2 e3 e4 e5 r0 r1 r2 r3 r4 r5 c0 c1 c2 c3
   obtain⟨e0,e1,e2,e3,e4,e5⟩:=aH HC3.o.n
   obtain⟨r0,r1,r2,r3,r4,r5⟩:=aC5 HC3.o.n
   obtain⟨c0,c1,c2,c3⟩:=aC HC3.o.f.c
   cases kb
   ·have HZ:=aA (HNo.o x HX.o)
    have HSf:=aA (aRk m (k:Int) (HC3.o.f.ins HMl.o) HOk2.o)
    generalize zR (k:Int) (lI M m)=z at *
    clear HY HNo HX
    go_wp2_with fail
    refine HSf.o.mono ?_
    rintro e V3 ⟨rfl,hb⟩
    have HC4:=aA (HC3.o.below hb)
    clear hb HSf e0 e1 e2 e3 e4 e5 r0 r1 r2 r3 r4 r5 c0 c1 c2 c3
    obtain⟨e0,e1,e2,e3,e4,e5⟩:=aH HC4.o.n
    have HN5:=aA (aB.new V3 76 (ia m))
    have HF5:=aA (HC4.o.f.below (aD V3 (.cells (ia m) 76)))
    go_wp2_with (first
     | (at_builtin;refine kG rfl _ _ rfl rfl HF5.o.m HF5.o.lo.size _ m rfl HN5.o (by rw[HMl.o];omega) ?_;intro g cap' w2 hown hgr;have HF6:=aA (HF5.o.growM hgr hown);have HF7:=aA (HF6.o.below (aD w2 (.cells #[.i z] 3)));have HN7:=aA (aB.new w2 3 #[.i z]);clear hown hgr e0 e1 e2 e3 e4 e5)
     | (at_builtin;refine gM rfl _ _ rfl rfl HF7.o.t HF7.o.lo.size _ z rfl HN7.o (by rw[HTl.o];omega) ?_;intro g2 cap2 w3 hown2 hgr2))
    have HF8:=aA (HF7.o.growT hgr2 hown2)
    clear hown2 hgr2
    rw[HMl.o,HTl.o] at HF8 ⊢
    go_wp2_with fail
    go_roundw
    case rel=>exact⟨k+1,_,_,_,_,M++[m],T++[z],by omega,by go_num,rfl,rfl,HZ,aA (by simp[HMl.o]),aA (by simp[HTl.o]),HF8⟩
    case measure=>simp[intOf];omega
   ·have HZ:=aA (HY.o x HX.o)
    clear HY HNo HX
    obtain⟨V4,hV4⟩:∃ V4,(((((V2.setCell ⟨gb,0,none⟩ (.i 1)).setCell ⟨gb,1,none⟩ (.i 0)).setCell ⟨gb,2,none⟩ (.i 0)).setCell ⟨gb,3,none⟩ (.i 0)).setCell ⟨gb,4,none⟩ (.i x)).setCell ⟨gb,5,none⟩ (.i 0)=V4:=⟨_,rfl⟩
    have HC4:Hid (Fc W V4 (cd f d (some ⟨b,off,none⟩) n cap (o:Int)) (.slice (some ⟨gm,0,none⟩) k cm) (.slice (some ⟨gt,0,none⟩) k ct) M T gb (nuI x)):=aA (by rw[<-hV4];exact HC3.o.put (nuI x))
    have HN5:Hid (aB (V4.alloc (.cells #[.i 1,.i 0,.i 0,.i 0,.i x,.i 0] 76)) V4.heap.size 76 (ia (nuI x))):=aA (aB.new V4 76 (ia (nuI x)))
    have HF5:Hid (Fb W (V4.alloc (.cells #[.i 1,.i 0,.i 0,.i 0,.i x,.i 0] 76)) (cd f d (some ⟨b,off,none⟩) n cap (o:Int)) (.slice (some ⟨gm,0,none⟩) k cm) (.slice (some ⟨gt,0,none⟩) k ct) M T):=aA (HC4.o.f.below (aD V4 (.cells (ia (nuI x)) 76)))
    go_upto_region 12 with fail
    clear hV4 HC3 e0 e1 e2 e3 e4 e5 r0 r1 r2 r3 r4 r5 c0 c1 c2 c3
    obtain⟨e0,e1,e2,e3,e4,e5⟩:=aH HC4.o.n
    dsimp only [nuI] at e0 e1 e2 e3 e4 e5
    go_wp2_with (first
     | (at_builtin;refine kG rfl _ _ rfl rfl HF5.o.m HF5.o.lo.size _ (nuI x) rfl HN5.o (by rw[HMl.o];omega) ?_;intro g cap' w2 hown hgr;have HF6:=aA (HF5.o.growM hgr hown);have HF7:=aA (HF6.o.below (aD w2 (.cells #[.i (k:Int)] 3)));have HN7:=aA (aB.new w2 3 #[.i (k:Int)]);clear hown hgr e0 e1 e2 e3 e4 e5)
     | (at_builtin;refine gM rfl _ _ rfl rfl HF7.o.t HF7.o.lo.size _ (k:Int) rfl HN7.o (by rw[HTl.o];omega) ?_;intro g2 cap2 w3 hown2 hgr2))
    have HF8:=aA (HF7.o.growT hgr2 hown2)
    clear hown2 hgr2
    rw[HMl.o,HTl.o] at HF8 ⊢
    go_wp2_with fail
    go_roundw
    case rel=>exact⟨k+1,_,_,_,_,M++[(nuI x)],T++[(k:Int)],by omega,by go_num,rfl,rfl,HZ,aA (by simp[HMl.o]),aA (by simp[HTl.o]),HF8⟩
    case measure=>simp[intOf];omega
  ·obtain rfl:k=n:=by omega
   have hM:=HM.o
   rw[lTl (by rw[HLn.o];exact nLr _)] at hM
   have HM2:=aA hM
   obtain⟨c0,c1,c2,c3⟩:=aC HF.o.c
   have hf0:=HF.o.o.frozen 0
   have hf1:=HF.o.o.frozen 1
   have hf2:=HF.o.o.frozen 2
   have hf3:=HF.o.o.frozen 3
   obtain⟨p0,p1,p2,p3⟩:=aC HF.o.o
   obtain⟨b2,o2,e2',-,hat⟩:=(HF.o.ints HTl.o).at (by omega)
   cases e2'
   have t0:=hat o (by omega)
   rw[nZa] at t0
   have hw0:W.heap.size < V.heap.size:=HF.o.c.lt
   have hw1:W.heap.size+1 < V.heap.size:=HF.o.o.lt
   have i0':(0:Int)<=o:=by omega
   have i1':(o:Int) < k:=by omega
   clear hat hM HM HOk HSu
   obtain⟨z,hz⟩:∃ z,T.getD o 0=z:=⟨_,rfl⟩
   rw[hz] at t0
   have HZ:=aA hz
   clear hz
   go_wp2_with fail
   go_region
   have hq:(Value.slice (some ⟨gm,0,none⟩) k cm).ownBlock≠some (W.heap.size+1):=own_ne HF.o.m HF.o.o (by decide)
   have HO5:=aA (((((HF.o.o.set 0 (.i f)).set 1 (.i d)).set 2 (.slice (some ⟨gm,0,none⟩) k cm)).set 3 (.i z)).below (aF _))
   have HM5:=aA ((ownsRow_setCell_other (ownsRow_setCell_other (ownsRow_setCell_other (ownsRow_setCell_other HF.o.m (a:=⟨W.heap.size+1,0,none⟩) hq (.i f)) (a:=⟨W.heap.size+1,1,none⟩) hq (.i d)) (a:=⟨W.heap.size+1,2,none⟩) hq (.slice (some ⟨gm,0,none⟩) k cm)) (a:=⟨W.heap.size+1,3,none⟩) hq (.i z)).drew)
   have HB5:=aA (((((HF.o.lo.setCell (p:=⟨W.heap.size+1,0,none⟩) (by simp) (.i f)).setCell (p:=⟨W.heap.size+1,1,none⟩) (by simp) (.i d)).setCell (p:=⟨W.heap.size+1,2,none⟩) (by simp) (.slice (some ⟨gm,0,none⟩) k cm)).setCell (p:=⟨W.heap.size+1,3,none⟩) (by simp) (.i z)).drew)
   obtain⟨V5,hV5⟩:∃ V5,((((V.setCell ⟨W.heap.size+1,0,none⟩ (.i f)).setCell ⟨W.heap.size+1,1,none⟩ (.i d)).setCell ⟨W.heap.size+1,2,none⟩ (.slice (some ⟨gm,0,none⟩) k cm)).setCell ⟨W.heap.size+1,3,none⟩ (.i z)).drew=V5:=⟨_,rfl⟩
   rw[hV5] at HO5 HM5 HB5 ⊢
   obtain⟨x0,x1,x2,x3⟩:=aC HO5.o
   rw[HMl.o] at HM5
   clear hV5 c0 c1 c2 c3 p0 p1 p2 p3 hf0 hf1 hf2 hf3 t0 hq
   go_wp2_with fail
   have HR:Hid ((nR f d L).1=M/\foO f d L (o:Int)=z):=aA (by rw[foO,HM2.o];exact⟨rfl,HZ.o⟩)
   exact bPr (v:=.agg (cd f d (some ⟨gm,0,none⟩) k cm z)) (by simp[results,Tryz.results263,go_sem,x0,x1,x2,x3]) rfl ⟨_,_,by rw[HR.o.2],by rw[HR.o.1];exact HM5.o,HB5.o⟩
end Go.Proofs.Fld
namespace Go.Proofs.Fld
open Go.RowKit Go.IntWalk Knd
open Cde (In i0 ia kd cd Ins qW aH aC aP aI bG dY aF cZ i6)
open Vfy (bB qF qE)
open YticnbcfmbhjbgabGreatDoor (aB)
structure Fh (W V:World)(cv wv rv:Array Value):Prop where
 c:aB V W.heap.size 39 cv
 w:aB V (W.heap.size+1) 39 wv
 r:aB V (W.heap.size+1+1) 39 rv
 lo:Below W.heap.size W V
theorem Fh.below {W V V':World}{cv wv rv:Array Value}(h:Fh W V cv wv rv)(hb:Below V.heap.size V V'):Fh W V' cv wv rv:=⟨h.c.below hb,h.w.below hb,h.r.below hb,bel h.lo hb⟩
abbrev s4 (w:World)(b:Nat)(x y z u:Value):World:=(((w.setCell ⟨b,0,none⟩ x).setCell ⟨b,1,none⟩ y).setCell ⟨b,2,none⟩ z).setCell ⟨b,3,none⟩ u
theorem Fh.put {W V:World}{cv wv:Array Value}{p q r s:Value}(h:Fh W V cv wv #[p,q,r,s])(x y z u:Value):Fh W (s4 V (W.heap.size+1+1) x y z u) cv wv #[x,y,z,u]:=by
 refine⟨?_,?_,(((h.r.set 0 x).set 1 y).set 2 z).set 3 u,?_⟩
 ·exact(((h.c.other (p:=⟨W.heap.size+1+1,0,none⟩) (by simp;omega) _).other (p:=⟨W.heap.size+1+1,1,none⟩) (by simp;omega) _).other (p:=⟨W.heap.size+1+1,2,none⟩) (by simp;omega) _).other (p:=⟨W.heap.size+1+1,3,none⟩) (by simp;omega) _
 ·exact(((h.w.other (p:=⟨W.heap.size+1+1,0,none⟩) (by simp) _).other (p:=⟨W.heap.size+1+1,1,none⟩) (by simp) _).other (p:=⟨W.heap.size+1+1,2,none⟩) (by simp) _).other (p:=⟨W.heap.size+1+1,3,none⟩) (by simp) _
 ·exact(((h.lo.setCell (p:=⟨W.heap.size+1+1,0,none⟩) (by simp;omega) _).setCell (p:=⟨W.heap.size+1+1,1,none⟩) (by simp;omega) _).setCell (p:=⟨W.heap.size+1+1,2,none⟩) (by simp;omega) _).setCell (p:=⟨W.heap.size+1+1,3,none⟩) (by simp;omega) _
theorem bD {W:World}{b:Nat}{t:TypeId}{cs:Array Value}(h:aB W b t cs):W.frozen? ⟨b,0,none⟩=false/\W.frozen? ⟨b,1,none⟩=false/\W.frozen? ⟨b,2,none⟩=false/\W.frozen? ⟨b,3,none⟩=false:=⟨h.frozen 0,h.frozen 1,h.frozen 2,h.frozen 3⟩
theorem fO {w:World}{base b size n:Nat}{e:TypeId}{v:Value}{xs:List Value}(h:w.ownsRow base e size v n xs)(hq:v.ownBlock≠some b)(x y z u:Value):(s4 w b x y z u).ownsRow base e size v n xs :=
 ownsRow_setCell_other (ownsRow_setCell_other (ownsRow_setCell_other (ownsRow_setCell_other h (a:=⟨b,0,none⟩) hq _) (a:=⟨b,1,none⟩) hq _) (a:=⟨b,2,none⟩) hq _) (a:=⟨b,3,none⟩) hq _
theorem aJq (f d o1 o2:Int){a1 a2:Option Addr}{n1 n2 c1 c2:Nat}{M L:List In}{W:World}(hM:Ins W a1 n1 c1 M)(hL:Ins W a2 n2 c2 L)(hn0:0 < n2)(hn:n2<=1000) :
  Calls Tryz.prog 262 #[.agg (cd f d a1 n1 c1 o1),.agg (cd f d a2 n2 c2 o2)] W fun e W' =>
   (bB f d M o1=0/\e=.returned (.agg (cd f d a1 n1 c1 o1))/\Below W.heap.size W W') \/
   (bB f d M o1≠0/\∃ a' c',e=.returned (.agg (cd f d a' n2 c' o2))/\W'.ownsRow W.heap.size 76 6 (.slice a' n2 c') n2 (cZ L)/\Below W.heap.size W W'):=by
 have b1:=aD W (.cells (cd f d a1 n1 c1 o1) 39)
 have b2:=bel b1 (aD _ (.cells (cd f d a2 n2 c2 o2) 39))
 have b3:=bel b2 (aD _ (.cells bV 39))
 have h3:=aB.new ((W.alloc (.cells (cd f d a1 n1 c1 o1) 39)).alloc (.cells (cd f d a2 n2 c2 o2) 39)) 39 bV
 rw[wSa,wSa] at h3
 have HF0:Hid (Fh W (((W.alloc (.cells (cd f d a1 n1 c1 o1) 39)).alloc (.cells (cd f d a2 n2 c2 o2) 39)).alloc (.cells bV 39)) (cd f d a1 n1 c1 o1) (cd f d a2 n2 c2 o2) bV) :=
  aA ⟨((aB.new W 39 (cd f d a1 n1 c1 o1)).alloc (.cells (cd f d a2 n2 c2 o2) 39)).alloc (.cells bV 39),(aI W (.cells (cd f d a1 n1 c1 o1) 39) 39 (cd f d a2 n2 c2 o2)).alloc (.cells bV 39),h3,b3⟩
 have HV:=aA (Vfy.dI f d o1 (hM.later b3))
 have HLI:=aA hL
 clear b1 b2 b3 h3 hM hL
 go_enter Tryz.func262,Tryz.ntmps262
 go_wp2_with fail
 refine HV.o.mono ?_
 rintro e V1 ⟨ga,gc,rfl,hS,hb,-,-⟩
 obtain⟨m,hm⟩:∃ m,qF f d M o1=m:=⟨_,rfl⟩
 obtain⟨co,hco⟩:∃ co,qE f d M o1=co:=⟨_,rfl⟩
 obtain⟨er,her⟩:∃ er,bB f d M o1=er:=⟨_,rfl⟩
 rw[hm,hco,her]
 have HEr:=aA her
 have hb2:=aD V1 (.cells #[.slice ga m gc,.i co,.i 0] 56)
 have HF1:=aA ((HF0.o.below hb).below hb2)
 obtain⟨x0,x1,x2,x3⟩:=aC (HF0.o.below hb).c
 obtain⟨w0,w1,w2,w3⟩:=aC (HF0.o.below hb).w
 obtain⟨p0,p1,p2,p3⟩:=aC (HF0.o.below hb).r
 have z0:=(HF0.o.below hb).c.lt
 have z1:=(HF0.o.below hb).w.lt
 have z2:=(HF0.o.below hb).r.lt
 clear hm hco her hb hb2 hS HV HF0
 by_cases h0:er=0
 ·have hr:(er==0)=true:=by simpa using h0
  go_upto_region 3 with fail
  obtain⟨V2,hV2⟩:∃ V2,V1.alloc (.cells #[.slice ga m gc,.i co,.i 0] 56)=V2:=⟨_,rfl⟩
  rw[hV2] at HF1 ⊢
  clear x0 x1 x2 x3 w0 w1 w2 w3 p0 p1 p2 p3 z0 z1 z2 hV2
  obtain⟨x0,x1,x2,x3⟩:=aC HF1.o.c
  obtain⟨p0,p1,p2,p3⟩:=aC HF1.o.r
  obtain⟨r0,r1,r2,r3⟩:=bD HF1.o.r
  obtain⟨V3,hV3⟩:∃ V3,(((V2.setCell ⟨W.heap.size+1+1,0,none⟩ (.i f)).setCell ⟨W.heap.size+1+1,1,none⟩ (.i d)).setCell ⟨W.heap.size+1+1,2,none⟩ (.slice a1 n1 c1)).setCell ⟨W.heap.size+1+1,3,none⟩ (.i o1)=V3:=⟨_,rfl⟩
  have HF2:Hid (Fh W V3 (cd f d a1 n1 c1 o1) (cd f d a2 n2 c2 o2) (cd f d a1 n1 c1 o1)):=aA (by rw[<-hV3];exact HF1.o.put (.i f) (.i d) (.slice a1 n1 c1) (.i o1))
  go_wp2_with fail
  obtain⟨q0,q1,q2,q3⟩:=aC HF2.o.r
  exact bPr (v:=.agg (cd f d a1 n1 c1 o1)) (by simp[results,Tryz.results262,go_sem,q0,q1,q2,q3]) rfl (.inl ⟨HEr.o.trans h0,rfl,HF2.o.lo⟩)
 ·have hr:(er==0)=false:=by simpa using h0
  go_upto_region 4 with fail
  obtain⟨V2,hV2⟩:∃ V2,V1.alloc (.cells #[.slice ga m gc,.i co,.i 0] 56)=V2:=⟨_,rfl⟩
  rw[hV2] at HF1 ⊢
  clear x0 x1 x2 x3 w0 w1 w2 w3 p0 p1 p2 p3 z0 z1 z2 hV2
  obtain⟨x0,x1,x2,x3⟩:=aC HF1.o.w
  have HCl:=aA (eY ((HLI.o.later HF1.o.lo).later (aF V2)) (by omega) hn0)
  have HS:=aA fun V3 (hb:Below V2.drew.heap.size V2.drew V3)=>(HF1.o.below (bel (aF V2) hb))
  go_region_held3 (fun w'=>w'.cell? ⟨W.heap.size+1,0,none⟩=some (.i f)/\w'.cell? ⟨W.heap.size+1,1,none⟩=some (.i d)/\w'.cell? ⟨W.heap.size+1,2,none⟩=some (.slice a2 n2 c2)/\w'.cell? ⟨W.heap.size+1,3,none⟩=some (.i o2))
   (first|exact⟨x0,x1,x2,x3⟩|exact⟨k0,k1,k2,k3⟩|go_keep)
   ((first
    | (go_at_call 48;refine HCl.o.mono ?_;rintro e V3 ⟨a',c',rfl,hO,hb⟩;have HF3:=aA (HS.o V3 hb);obtain⟨k0,k1,k2,k3⟩:=aC HF3.o.w;obtain⟨p0,p1,p2,p3⟩:=aC HF3.o.r;obtain⟨r0,r1,r2,r3⟩:=bD HF3.o.r)))
  all_goals
   have HO3:=aA (Cde.bQ hO (show W.heap.size<=V2.drew.heap.size from HF1.o.lo.size))
   clear k0 k1 k2 k3 p0 p1 p2 p3 r0 r1 r2 r3 hO hb HCl HS x0 x1 x2 x3
   have hq:=own_ne HO3.o HF3.o.r (by decide)
   have HO4:=aA (fO HO3.o hq (.i f) (.i d) (.slice a' n2 c') (.i o2))
   have HF4:=aA (HF3.o.put (.i f) (.i d) (.slice a' n2 c') (.i o2))
   obtain⟨V4,hV4⟩:∃ V4,(((V3.setCell ⟨W.heap.size+1+1,0,none⟩ (.i f)).setCell ⟨W.heap.size+1+1,1,none⟩ (.i d)).setCell ⟨W.heap.size+1+1,2,none⟩ (.slice a' n2 c')).setCell ⟨W.heap.size+1+1,3,none⟩ (.i o2)=V4:=⟨_,rfl⟩
   unfold s4 at HO4 HF4
   rw[hV4] at HO4 HF4 ⊢
   clear hV4 hq HF3 HO3
   go_wp2_with fail
   obtain⟨q0,q1,q2,q3⟩:=aC HF4.o.r
   exact bPr (v:=.agg (cd f d a' n2 c' o2)) (by simp[results,Tryz.results262,go_sem,q0,q1,q2,q3]) rfl (.inr ⟨by rw[HEr.o];exact h0,_,_,rfl,HO4.o,HF4.o.lo⟩)
end Go.Proofs.Fld
namespace Go.Proofs.Fld
open Go.RowKit Go.IntWalk Knd
open Cde (In i0 ia kd cd Ins qW aH aC aP aI bG dY aF cZ i6)
open Vfy (bB qF qE)
open YticnbcfmbhjbgabGreatDoor (aB)
variable {d f out:Int} {L:List In} {n:Nat} {W:World}
def lH (f d:Int)(L:List In)(out:Int):List In:=if bB f d L out=0 then fdL f d L out else[]
def foU (f d:Int)(L:List In)(out:Int):Int:=if bB f d L out=0 then fdO f d L out else 0
def xJ (f d:Int)(L:List In)(out x:Int):Int:=if bB f d L out=0 then x else 0
def qQ (w:World)(f d:Int)(L:List In)(out:Int)(e:Ending)(W':World):Prop :=
 ∃ a c,e=.returned (.tuple #[.agg (cd (xJ f d L out f) (xJ f d L out d) a (lH f d L out).length c (foU f d L out)),.i (bB f d L out)])/\W'.ownsRow w.heap.size 76 6 (.slice a (lH f d L out).length c) (lH f d L out).length (cZ (lH f d L out))/\Below w.heap.size w W'
theorem qQ.no {w W':World}{er:Int}(h:bB f d L out=er)(h0:er≠0)(hb:Below w.heap.size w W'):qQ w f d L out (.returned (.tuple #[.agg bV,.i er])) W':=by
 subst h
 refine⟨none,0,?_,?_,hb⟩
 ·simp[xJ,lH,foU,h0]
 ·rw[lH,if_neg h0];exact⟨rfl,.inl ⟨rfl,rfl⟩⟩
theorem qQ.row {w W':World}{I:List In}{u:Int}{a:Option Addr}{c:Nat}(h:bB f d L out=0)(hI:fdL f d L out=I)(hu:fdO f d L out=u)(hn:I.length=n)(hO:W'.ownsRow w.heap.size 76 6 (.slice a n c) n (cZ I))(hb:Below w.heap.size w W'):qQ w f d L out (.returned (.tuple #[.agg (cd f d a n c u),.i 0])) W':=by
 subst hn hI hu
 refine⟨a,c,?_,?_,hb⟩
 ·simp[xJ,lH,foU,h]
 ·rw[lH,if_pos h];exact hO
structure Fg (W V:World)(cv rv:Array Value):Prop where
 c:aB V W.heap.size 39 cv
 r:aB V (W.heap.size+1) 39 rv
 lo:Below W.heap.size W V
theorem Fg.below {W V V':World}{cv rv:Array Value}(h:Fg W V cv rv)(hb:Below V.heap.size V V'):Fg W V' cv rv:=⟨h.c.below hb,h.r.below hb,bel h.lo hb⟩
theorem Fg.put {V:World}{cv:Array Value}{p q r s:Value}(h:Fg W V cv #[p,q,r,s])(x y z u:Value):Fg W (s4 V (W.heap.size+1) x y z u) cv #[x,y,z,u]:=by
 refine⟨?_,(((h.r.set 0 x).set 1 y).set 2 z).set 3 u,?_⟩
 ·exact(((h.c.other (p:=⟨W.heap.size+1,0,none⟩) (by simp) _).other (p:=⟨W.heap.size+1,1,none⟩) (by simp) _).other (p:=⟨W.heap.size+1,2,none⟩) (by simp) _).other (p:=⟨W.heap.size+1,3,none⟩) (by simp) _
 ·exact(((h.lo.setCell (p:=⟨W.heap.size+1,0,none⟩) (by simp) _).setCell (p:=⟨W.heap.size+1,1,none⟩) (by simp) _).setCell (p:=⟨W.heap.size+1,2,none⟩) (by simp) _).setCell (p:=⟨W.heap.size+1,3,none⟩) (by simp) _
theorem oI {a1 a2:Option Addr}{c1 c2:Nat}(hL:L.length=n)(hO:W.ownsRow 0 76 6 (.slice a1 n c1) n (cZ (nR f d L).1))(hI:Ins W a2 n c2 L)(hn0:0 < n)(hn:n<=1000) :
  Calls Tryz.prog 262 #[.agg (cd f d a1 n c1 (foO f d L out)),.agg (cd f d a2 n c2 out)] W fun e W'=>∃ a' c',e=.returned (.agg (cd f d a' n c' (fdO f d L out)))/\(∀ base,W.ownsRow base 76 6 (.slice a1 n c1) n (cZ (nR f d L).1)->base<=W.heap.size->W'.ownsRow base 76 6 (.slice a' n c') n (cZ (fdL f d L out)))/\Below W.heap.size W W':=by
 obtain⟨a',c',e',hM,-⟩:=Ins.of_owns hO
 cases e'
 refine(aJq f d (foO f d L out) out hM hI hn0 hn).mono ?_
 rintro e W' (⟨h0,rfl,hb⟩|⟨h0,a',c',rfl,ho,hb⟩)
 ·exact⟨_,_,by rw[fdO,if_pos h0],fun base h _=>by rw[fdL,if_pos h0];exact Cde.bH h hb,hb⟩
 ·exact⟨_,_,by rw[fdO,if_neg h0],fun base _ h=>by rw[fdL,if_neg h0];exact Cde.bQ ho h,hb⟩
theorem aJp (f d out:Int){a:Option Addr}{cap:Nat}(hL:Ins W a n cap L) :
  Calls Tryz.prog 220 #[.agg (cd f d a n cap out)] W (qQ W f d L out):=by
 have b1:=aD W (.cells (cd f d a n cap out) 39)
 have b2:=bel b1 (aD _ (.cells bV 39))
 have HF0:Hid (Fg W ((W.alloc (.cells (cd f d a n cap out) 39)).alloc (.cells bV 39)) (cd f d a n cap out) bV) :=
  aA ⟨(aB.new W 39 (cd f d a n cap out)).alloc (.cells bV 39),aI W (.cells (cd f d a n cap out) 39) 39 bV,b2⟩
 have HV:=aA (Vfy.dI f d out (hL.later b2))
 have HLI:=aA hL
 have HLn:=aA hL.len
 clear b1 b2 hL
 go_enter Tryz.func220,Tryz.ntmps220
 go_wp2_with fail
 refine HV.o.mono ?_
 rintro e V1 ⟨ga,gc,rfl,hS,hb,-,-⟩
 obtain⟨m,hm⟩:∃ m,qF f d L out=m:=⟨_,rfl⟩
 obtain⟨co,hco⟩:∃ co,qE f d L out=co:=⟨_,rfl⟩
 obtain⟨er,her⟩:∃ er,bB f d L out=er:=⟨_,rfl⟩
 rw[hm,hco,her]
 have HEr:=aA her
 have hb2:=aD V1 (.cells #[.slice ga m gc,.i co,.i 0] 56)
 have HF1:=aA ((HF0.o.below hb).below hb2)
 obtain⟨x0,x1,x2,x3⟩:=aC (HF0.o.below hb).c
 obtain⟨p0,p1,p2,p3⟩:=aC (HF0.o.below hb).r
 have z0:=(HF0.o.below hb).c.lt
 have z1:=(HF0.o.below hb).r.lt
 clear hm hco her hb hb2 hS HV HF0
 by_cases h0:er=0
 ·have hr:(er != 0)=false:=by simpa using h0
  go_upto_region 4 with fail
  obtain⟨V2,hV2⟩:∃ V2,V1.alloc (.cells #[.slice ga m gc,.i co,.i 0] 56)=V2:=⟨_,rfl⟩
  rw[hV2] at HF1 ⊢
  clear x0 x1 x2 x3 p0 p1 p2 p3 z0 z1 hV2
  obtain⟨x0,x1,x2,x3⟩:=aC HF1.o.c
  have h0':=HEr.o.trans h0
  obtain⟨mc,-⟩:=Vfy.aJ h0'
  obtain⟨-,m1,m2,o0,o1,-⟩:=Cde.aS mc
  rw[HLn.o] at m1 m2 o1
  have HFo:=aA (aD1 f d out ((HLI.o.later HF1.o.lo).later (aF V2)) h0')
  have HHa:=aA fun(V:World) (a1:Option Addr) (c1:Nat) (hO:V.ownsRow 0 76 6 (.slice a1 n c1) n (cZ (nR f d L).1)) (hI:Ins V a n cap L)=>oI (out:=out) HLn.o hO hI (by omega) (by omega)
  have HS:=aA fun V3 (hb:Below V2.drew.heap.size V2.drew V3)=>(HF1.o.below (bel (aF V2) hb))
  clear mc
  go_region_held3 (fun w'=>w'.cell? ⟨W.heap.size,0,none⟩=some (.i f)/\w'.cell? ⟨W.heap.size,1,none⟩=some (.i d)/\w'.cell? ⟨W.heap.size,2,none⟩=some (.slice a n cap)/\w'.cell? ⟨W.heap.size,3,none⟩=some (.i out))
   (first|exact⟨x0,x1,x2,x3⟩|exact⟨l0,l1,l2,l3⟩|exact⟨k0,k1,k2,k3⟩|go_keep)
   ((first
    | (go_at_call 263;refine HFo.o.mono ?_;rintro e V3 ⟨a',c',rfl,hO,hb⟩;have HF3:=aA (HS.o V3 hb);obtain⟨k0,k1,k2,k3⟩:=aC HF3.o.c)
    | (go_at_call 262;refine(HHa.o _ _ _ (Cde.bQ hO (nZl _)) (HLI.o.later HF3.o.lo)).mono ?_;rintro e V4 ⟨a2',c2',rfl,hO4,hb4⟩;have HF4:=aA (HF3.o.below hb4);obtain⟨l0,l1,l2,l3⟩:=aC HF4.o.c;obtain⟨p0,p1,p2,p3⟩:=aC HF4.o.r;obtain⟨r0,r1,r2,r3⟩:=bD HF4.o.r)))
  all_goals
   have HO4:=aA (hO4 W.heap.size (Cde.bQ hO (show W.heap.size<=V2.drew.heap.size from HF1.o.lo.size)) HF3.o.lo.size)
   clear k0 k1 k2 k3 l0 l1 l2 l3 p0 p1 p2 p3 r0 r1 r2 r3 hO hb hO4 hb4 HFo HHa HS x0 x1 x2 x3 HF3 h0 hr
   have hq:=own_ne HO4.o HF4.o.r (by decide)
   have hlen:=(aD0 h0').2.1
   rw[HLn.o] at hlen
   generalize hu:fdO f d L out=u at *
   generalize hI:fdL f d L out=I at *
   have HO5:=aA (fO HO4.o hq (.i f) (.i d) (.slice a2' n c2') (.i u))
   have HF5:=aA (HF4.o.put (.i f) (.i d) (.slice a2' n c2') (.i u))
   obtain⟨V5,hV5⟩:∃ V5,(((V4.setCell ⟨W.heap.size+1,0,none⟩ (.i f)).setCell ⟨W.heap.size+1,1,none⟩ (.i d)).setCell ⟨W.heap.size+1,2,none⟩ (.slice a2' n c2')).setCell ⟨W.heap.size+1,3,none⟩ (.i u)=V5:=⟨_,rfl⟩
   unfold s4 at HO5 HF5
   rw[hV5] at HO5 HF5 ⊢
   clear hV5 hq HF4 HO4
   go_wp2_with fail
   obtain⟨q0,q1,q2,q3⟩:=aC HF5.o.r
   exact bPr (v:=.tuple #[.agg (cd f d a2' n c2' u),.i 0]) (by simp[results,Tryz.results220,go_sem,q0,q1,q2,q3]) rfl (qQ.row h0' hI hu hlen HO5.o HF5.o.lo)
 ·have hr:(er != 0)=true:=by simpa using h0
  go_upto_region 3 with fail
  obtain⟨V2,hV2⟩:∃ V2,V1.alloc (.cells #[.slice ga m gc,.i co,.i 0] 56)=V2:=⟨_,rfl⟩
  rw[hV2] at HF1 ⊢
  clear x0 x1 x2 x3 p0 p1 p2 p3 z0 z1 hV2
  obtain⟨p0,p1,p2,p3⟩:=aC HF1.o.r
  obtain⟨r0,r1,r2,r3⟩:=bD HF1.o.r
  obtain⟨V3,hV3⟩:∃ V3,(((V2.setCell ⟨W.heap.size+1,0,none⟩ (.i 0)).setCell ⟨W.heap.size+1,1,none⟩ (.i 0)).setCell ⟨W.heap.size+1,2,none⟩ (.slice none 0 0)).setCell ⟨W.heap.size+1,3,none⟩ (.i 0)=V3:=⟨_,rfl⟩
  have HF2:Hid (Fg W V3 (cd f d a n cap out) bV):=aA (by rw[<-hV3];exact HF1.o.put (.i 0) (.i 0) (.slice none 0 0) (.i 0))
  go_wp2_with fail
  obtain⟨q0,q1,q2,q3⟩:=aC HF2.o.r
  exact bPr (v:=.tuple #[.agg bV,.i er]) (by simp[results,Tryz.results220,go_sem,q0,q1,q2,q3]) rfl (qQ.no HEr.o h0 HF2.o.lo)
end Go.Proofs.Fld
