import Derived.Test.YtihbhbeaihdgnaaGreatXH
import Derived.Test.YtihbhbeaihdgnaaGreatX41
set_option maxRecDepth 100000
set_option maxHeartbeats 32000000
set_option linter.unusedVariables false
namespace Go.Proofs.Shr
open Go.RowKit Go.IntWalk Knd
open Cde (In i0 ia kd cd Ins tO aJ aD aQ aK bB dX aF bU i6 zA aH)
open Fld (bW fP)
open Vfy (aZ)
structure Fm (W V:World)(cv:Array Value)(mv tv:Value)(M:List In)(T:List Int)(b m:Nat)(N:List In):Prop where
 f:Fb W V cv mv tv M T
 o:Own V b m N
 hb:W.heap.size<=b
theorem Fm.below {W V V':World}{cv:Array Value}{mv tv:Value}{M N:List In}{T:List Int}{b m:Nat}(h:Fm W V cv mv tv M T b m N)(hb:Below V.heap.size V V'):Fm W V' cv mv tv M T b m N:=⟨h.f.below hb,h.o.below hb,h.hb⟩
theorem Fm.growM {W V w':World}{cv:Array Value}{mv tv mv':Value}{M M' N:List In}{T:List Int}{b m:Nat}(h:Fm W V cv mv tv M T b m N)(hg:V.grownBy w' mv.ownBlock)(hO:w'.ownsRow W.heap.size 41 6 mv' M'.length (bU M')):Fm W w' cv mv' tv M' T b m N :=
 ⟨h.f.growM hg hO,h.o.kept hg (h.o.ne_row h.f.m),h.hb⟩
theorem Fm.growT {W V w':World}{cv:Array Value}{mv tv tv':Value}{M N:List In}{T T':List Int}{b m:Nat}(h:Fm W V cv mv tv M T b m N)(hg:V.grownBy w' tv.ownBlock)(hO:w'.ownsRow W.heap.size 3 1 tv' T'.length (eG T')):Fm W w' cv mv tv' M T' b m N :=
 ⟨h.f.growT hg hO,h.o.kept hg (h.o.ne_row h.f.t),h.hb⟩
theorem Fm.mono {W V:World}{cv:Array Value}{mv tv:Value}{M N:List In}{T:List Int}{b m m':Nat}(h:Fm W V cv mv tv M T b m N)(hm:m<=m'):Fm W V cv mv tv M T b m' N:=⟨h.f,h.o.mono hm,h.hb⟩
theorem aEl {V w':World}{base size n b:Nat}{e:TypeId}{v:Value}{xs:List Value}(h:V.ownsRow base e size v n xs)(hg:V.grownBy w' (some b))(hne:v.ownBlock≠some b):w'.ownsRow base e size v n xs:=h.kept hg (.inr hne)
structure Fn (W V:World)(cv:Array Value)(mv tv:Value)(M:List In)(T:List Int)(g:Nat)(n:In)(b m:Nat)(N:List In):Prop where
 c:Fc W V cv mv tv M T g n
 o:Own V b m N
 hb:W.heap.size<=b
theorem Fn.m {W V:World}{cv:Array Value}{mv tv:Value}{M N:List In}{T:List Int}{g b m:Nat}{n:In}(h:Fn W V cv mv tv M T g n b m N):Fm W V cv mv tv M T b m N:=⟨h.c.f,h.o,h.hb⟩
theorem Fn.below {W V V':World}{cv:Array Value}{mv tv:Value}{M N:List In}{T:List Int}{g b m:Nat}{n:In}(h:Fn W V cv mv tv M T g n b m N)(hb:Below V.heap.size V V'):Fn W V' cv mv tv M T g n b m N:=⟨h.c.below hb,h.o.below hb,h.hb⟩
theorem Fn.put {W V:World}{cv:Array Value}{mv tv:Value}{M N:List In}{T:List Int}{g b m:Nat}{n:In}(h:Fn W V cv mv tv M T g n b m N)(k:In):Fn W (s6 V g k) cv mv tv M T g k b m N :=
 have hg:=h.o.ne_has h.c.n
 ⟨h.c.put k,(((((h.o.set (a:=⟨g,0,none⟩) hg _).set (a:=⟨g,1,none⟩) hg _).set (a:=⟨g,2,none⟩) hg _).set (a:=⟨g,3,none⟩) hg _).set (a:=⟨g,4,none⟩) hg _).set (a:=⟨g,5,none⟩) hg _,h.hb⟩
theorem Fm.with {W V:World}{cv:Array Value}{mv tv:Value}{M N:List In}{T:List Int}{b m:Nat}(h:Fm W V cv mv tv M T b m N)(n:In):Fn W (V.alloc (.cells (ia n) 41)) cv mv tv M T V.heap.size n b m N :=
 ⟨h.f.with n,h.o.below (aC _ _),h.hb⟩
theorem Fn.tab {W V w':World}{cv:Array Value}{mv tv:Value}{M N N':List In}{T:List Int}{g b m m':Nat}{n:In}(h:Fn W V cv mv tv M T g n b m N)(hg:V.grownBy w' (some b))(hO:Own w' b m' N'):Fn W w' cv mv tv M T g n b m' N':=by
 have h1:=h.o.ne_has h.c.f.c
 have h2:=h.o.ne_has h.c.f.o
 have h3:=h.o.ne_has h.c.n
 refine⟨⟨⟨h.c.f.c.kept hg (fun e=>by cases e;exact h1 rfl),h.c.f.o.kept hg (fun e=>by cases e;exact h2 rfl),aEl h.c.f.m hg (h.o.ne_row h.c.f.m),aEl h.c.f.t hg (h.o.ne_row h.c.f.t),h.c.f.lo.grown hg h.c.f.lo.size fun k hk=>by cases hk;exact h.hb⟩,h.c.n.kept hg (fun e=>by cases e;exact h3 rfl),h.c.hb,h.c.hm⟩,hO,h.hb⟩
theorem aVt {M:List In}{T:List Int}{n m:In}(h:shM n T=m):shS (M,T) n=(M++[m],T++[((M.idxOf m:Nat):Int)]):=by
 simp[shS,h]
theorem aDk (f d out:Int){a:Option Addr}{n cap:Nat}{L:List In}{W:World}(hL:Ins W a n cap L)(h:aZ f d L out=0) :
  Calls Tryz.prog 158 #[.agg (cd f d a n cap out)] W fun e W'=>∃ a' c',e=.returned (.agg (cd f d a' n c' (shO L out)))/\W'.ownsRow W.heap.size 41 6 (.slice a' n c') n (bU (nO L).1)/\Below W.heap.size W W':=by
 obtain⟨mc,-⟩:=Vfy.aL h
 obtain⟨-,m1,m2,o0,o1,-⟩:=Cde.aT mc
 rw[hL.len] at m1 m2 o1
 obtain⟨o,rfl⟩:∃ o:Nat,out=o:=⟨out.toNat,by omega⟩
 obtain⟨cs1,hs1,hmk1⟩:=aBw n (by omega)
 obtain⟨cs2,hs2,hmk2⟩:=aBy n (by omega)
 have hmk3:=aUu (n:Int)
 have HLI:=aA hL
 have HLn:=aA hL.len
 have HOk:=aA fun k (hk:k < n)=>aXf (aXt h (k:=k) (by rw[hL.len];exact hk)) (by omega)
 have HSu:=aA fun k (hk:k < n)=>yE (L:=L) (k:=k) (by rw[hL.len];exact hk)
 have HF0:Hid (Fm W (((((W.alloc (.cells (cd f d a n cap (o:Int)) 26)).alloc (.cells bZ 26)).alloc (.cells cs1 41)).alloc (.cells cs2 3)).alloc (.map #[] 0)) (cd f d a n cap (o:Int)) (.slice (some ⟨W.heap.size+1+1,0,none⟩) 0 n) (.slice (some ⟨W.heap.size+1+1+1,0,none⟩) 0 n) [] [] (W.heap.size+1+1+1+1) 0 []):=by
  have b1:=aC W (.cells (cd f d a n cap (o:Int)) 26)
  have b2:=bel b1 (aC _ (.cells bZ 26))
  have b3:=bel b2 (aC _ (.cells cs1 41))
  have b4:=bel b3 (aC _ (.cells cs2 3))
  have h1:=((aB.new W 26 (cd f d a n cap (o:Int))).alloc (.cells bZ 26)).alloc (.cells cs1 41)
  have h2:=((aK W (.cells (cd f d a n cap (o:Int)) 26) 26 bZ).alloc (.cells cs1 41))
  have h3:=aB.new ((W.alloc (.cells (cd f d a n cap (o:Int)) 26)).alloc (.cells bZ 26)) 41 cs1
  have h4:=aB.new (((W.alloc (.cells (cd f d a n cap (o:Int)) 26)).alloc (.cells bZ 26)).alloc (.cells cs1 41)) 3 cs2
  have h5:=Own.made ((((W.alloc (.cells (cd f d a n cap (o:Int)) 26)).alloc (.cells bZ 26)).alloc (.cells cs1 41)).alloc (.cells cs2 3))
  rw[World.size_alloc,World.size_alloc] at h3
  rw[World.size_alloc,World.size_alloc,World.size_alloc] at h4
  rw[World.size_alloc,World.size_alloc,World.size_alloc,World.size_alloc] at h5
  exact⟨Fb.below ⟨h1.alloc _,h2.alloc _,iZ (h3.alloc _) hs1 (by omega) (by omega),iZ h4 hs2 (by omega) (by omega),b4⟩ (aC _ _),h5,by omega⟩
 clear hL h mc hs1 hs2
 go_enter Tryz.func158,Tryz.ntmps158
 go_wp2_with fail
 clear hmk1 hmk2 hmk3
 generalize hgm:W.heap.size+1+1+1+1=mb at *
 clear hgm
 go_loopw [3,4,25] (fun mv tv i wr=>∃(k gm cm gt ct:Nat) (M:List In) (T:List Int),k<=n/\i=.int .i64 k/\mv=.slice (some ⟨gm,0,none⟩) k cm/\tv=.slice (some ⟨gt,0,none⟩) k ct/\Hid (nO (L.take k)=(M,T))/\Hid (M.length=k)/\Hid (T.length=k)/\Hid (Fm W wr (cd f d a n cap (o:Int)) (.slice (some ⟨gm,0,none⟩) k cm) (.slice (some ⟨gt,0,none⟩) k ct) M T mb k M)) (fun _ _ i _=>n-(intOf i).toNat)
 case atStart=>exact⟨0,_,_,_,_,[],[],Nat.zero_le _,rfl,rfl,rfl,aA rfl,aA rfl,aA rfl,HF0⟩
 case round =>
  obtain⟨k,gm,cm,gt,ct,M,T,hk,rfl,rfl,rfl,HM,HMl,HTl,HF⟩:=hrel
  rename World=>V
  clear HF0
  by_cases hlt:k < n
  ·obtain⟨b,off,rfl,-,hat⟩:=(HLI.o.later HF.o.f.lo).at (by omega)
   obtain⟨e0,e1,e2,e3,e4,e5⟩:=hat k hlt
   clear hat
   have hi0:(0:Int)<=k:=by omega
   have hi1:(k:Int) < n:=by omega
   have hOk:=HOk.o k hlt
   have hSu:=HSu.o k hlt
   rw[HM.o] at hOk hSu
   generalize L.getD k i0=q at *
   have HC0:=aA (HF.o.with q)
   have HTh:=aA (fP q (HC0.o.c.f.ints HTl.o))
   have HOr:=aA fun V=>aFi (bW q T) V
   rw[show orI (bW q T)=shM q T from rfl] at HOr
   dsimp only at hOk
   obtain⟨m,hm⟩:∃ m,shM q T=m:=⟨_,rfl⟩
   rw[aVt hm] at hSu
   rw[hm] at HOr hOk
   have HZ:=aA hSu
   have HW:=aA hOk
   clear hOk hSu hm
   go_wp2_with fail
   refine HTh.o.mono ?_
   rintro e V1 ⟨rfl,hb⟩
   have HC1:=aA (HC0.o.below hb)
   clear hb HC0 HTh e0 e1 e2 e3 e4 e5
   generalize bW q T=m0 at *
   generalize hgb:V.heap.size=gb at *
   go_wp2_with fail
   refine(HOr.o _).mono ?_
   rintro e V2 ⟨rfl,hb⟩
   have HC2:=aA (HC1.o.below hb)
   clear hb HC1 HOr
   have hb0:=HC2.o.c.hb
   have hb1:W.heap.size < gb:=by omega
   obtain⟨e0,e1,e2,e3,e4,e5⟩:=aJ HC2.o.c.n
   obtain⟨r0,r1,r2,r3,r4,r5⟩:=aCm HC2.o.c.n
   obtain⟨V3,hV3⟩:∃ V3,(((((V2.setCell ⟨gb,0,none⟩ (.int .i64 m.op)).setCell ⟨gb,1,none⟩ (.int .i64 m.a)).setCell ⟨gb,2,none⟩ (.int .i64 m.b)).setCell ⟨gb,3,none⟩ (.int .i64 m.c)).setCell ⟨gb,4,none⟩ (.int .i64 m.k)).setCell ⟨gb,5,none⟩ (.int .i64 m.s)=V3:=⟨_,rfl⟩
   have HC3:Hid (Fn W V3 (cd f d (some ⟨b,off,none⟩) n cap (o:Int)) (.slice (some ⟨gm,0,none⟩) k cm) (.slice (some ⟨gt,0,none⟩) k ct) M T gb m mb k M):=aA (by rw[<-hV3];exact HC2.o.put m)
   go_upto_region 8 with fail
   clear hV3 HC2 e0 e1 e2 e3 e4 e5 r0 r1 r2 r3 r4 r5
   obtain⟨e0,e1,e2,e3,e4,e5⟩:=aJ HC3.o.c.n
   by_cases hin:m ∈ M
   ·have hd:decide (m ∈ M)=true:=by simpa using hin
    have HN:=aA (HC3.o.o.old hin)
    obtain⟨z,hz⟩:∃ z,M.idxOf m=z:=⟨_,rfl⟩
    rw[hz] at HZ
    have hd2:(if m ∈ M then((M.idxOf m:Nat):Int) else 0)=(z:Int):=by rw[if_pos hin,hz]
    clear hz
    have HN5:=aA (aB.new V3 41 (ia m))
    have HF5:Hid (Fm W (V3.alloc (.cells (ia m) 41)) (cd f d (some ⟨b,off,none⟩) n cap (o:Int)) (.slice (some ⟨gm,0,none⟩) k cm) (.slice (some ⟨gt,0,none⟩) k ct) M T mb k (M++[m])):=aA (Fm.below ⟨HC3.o.c.f,HN.o,HC3.o.hb⟩ (aC V3 (.cells (ia m) 41)))
    go_wp2_with (first
     | (at_lookup;refine aH9 rfl _ _ rfl rfl rfl HC3.o.o HW.o ?_;rw[hd,hd2])
     | (at_builtin;refine jH rfl _ _ rfl rfl HF5.o.f.m HF5.o.f.lo.size _ m rfl HN5.o (by rw[HMl.o];omega) ?_;intro g cap' w2 hown hgr;have HF6:=aA (HF5.o.growM hgr hown);have HF7:=aA (HF6.o.below (aC w2 (.cells #[.int .i64 (z:Int)] 3)));have HN7:=aA (aB.new w2 3 #[.int .i64 (z:Int)]);clear hown hgr e0 e1 e2 e3 e4 e5)
     | (at_builtin;refine gH rfl _ _ rfl rfl HF7.o.f.t HF7.o.f.lo.size _ (z:Int) rfl HN7.o (by rw[HTl.o];omega) ?_;intro g2 cap2 w3 hown2 hgr2))
    have HF8:=aA ((HF7.o.growT hgr2 hown2).mono (Nat.le_succ k))
    clear hown2 hgr2
    rw[HMl.o,HTl.o] at HF8 ⊢
    go_wp2_with fail
    go_roundw
    case rel=>exact⟨k+1,_,_,_,_,M++[m],T++[(z:Int)],by omega,by go_num,rfl,rfl,HZ,aA (by simp[HMl.o]),aA (by simp[HTl.o]),HF8⟩
    case measure=>simp[intOf];omega
   ·have hd:decide (m ∈ M)=false:=by simpa using hin
    have hd2:(if m ∈ M then((M.idxOf m:Nat):Int) else 0)=0:=if_neg hin
    have hz:M.idxOf m=k:=by rw[List.idxOf_eq_length hin,HMl.o]
    rw[hz] at HZ
    go_wp2_with (first
     | (at_lookup;refine aH9 rfl _ _ rfl rfl rfl HC3.o.o HW.o ?_;rw[hd,hd2])
     | (at_mapUpdate;refine aV8 rfl _ _ _ rfl rfl rfl k rfl HMl.o HC3.o.o HW.o hin (by omega) (by omega) ?_;intro V4 hO4 hg4;have HC4:=aA (HC3.o.tab hg4 hO4);clear hO4 hg4 e0 e1 e2 e3 e4 e5;obtain⟨e0,e1,e2,e3,e4,e5⟩:=aJ HC4.o.c.n;have HN5:=aA (aB.new V4 41 (ia m));have HF5:=aA (HC4.o.m.below (aC V4 (.cells (ia m) 41))))
     | (at_builtin;refine jH rfl _ _ rfl rfl HF5.o.f.m HF5.o.f.lo.size _ m rfl HN5.o (by rw[HMl.o];omega) ?_;intro g cap' w2 hown hgr;have HF6:=aA (HF5.o.growM hgr hown);have HF7:=aA (HF6.o.below (aC w2 (.cells #[.int .i64 (k:Int)] 3)));have HN7:=aA (aB.new w2 3 #[.int .i64 (k:Int)]);clear hown hgr e0 e1 e2 e3 e4 e5)
     | (at_builtin;refine gH rfl _ _ rfl rfl HF7.o.f.t HF7.o.f.lo.size _ (k:Int) rfl HN7.o (by rw[HTl.o];omega) ?_;intro g2 cap2 w3 hown2 hgr2))
    have HF8:=aA (HF7.o.growT hgr2 hown2)
    clear hown2 hgr2
    rw[HMl.o,HTl.o] at HF8 ⊢
    go_wp2_with fail
    go_roundw
    case rel=>exact⟨k+1,_,_,_,_,M++[m],T++[(k:Int)],by omega,by go_num,rfl,rfl,HZ,aA (by simp[HMl.o]),aA (by simp[HTl.o]),HF8⟩
    case measure=>simp[intOf];omega
  ·obtain rfl:k=n:=by omega
   have hM:=HM.o
   rw[List.take_of_length_le (by rw[HLn.o];exact Nat.le_refl _)] at hM
   have HM2:=aA hM
   obtain⟨c0,c1,c2,c3⟩:=aD HF.o.f.c
   have hf0:=HF.o.f.o.frozen 0
   have hf1:=HF.o.f.o.frozen 1
   have hf2:=HF.o.f.o.frozen 2
   have hf3:=HF.o.f.o.frozen 3
   obtain⟨p0,p1,p2,p3⟩:=aD HF.o.f.o
   obtain⟨b2,o2,e2',-,hat⟩:=(HF.o.f.ints HTl.o).at (by omega)
   cases e2'
   have t0:=hat o (by omega)
   rw[Nat.zero_add] at t0
   have hw0:W.heap.size < V.heap.size:=HF.o.f.c.lt
   have hw1:W.heap.size+1 < V.heap.size:=HF.o.f.o.lt
   have i0':(0:Int)<=o:=by omega
   have i1':(o:Int) < k:=by omega
   clear hat hM HM HOk HSu
   obtain⟨z,hz⟩:∃ z,T.getD o 0=z:=⟨_,rfl⟩
   rw[hz] at t0
   have HZ:=aA hz
   clear hz
   go_wp2_with fail
   go_region
   have hq:(Value.slice (some ⟨gm,0,none⟩) k cm).ownBlock≠some (W.heap.size+1):=own_ne HF.o.f.m HF.o.f.o (by decide)
   have HO5:=aA (((((HF.o.f.o.set 0 (.int .i64 f)).set 1 (.int .i64 d)).set 2 (.slice (some ⟨gm,0,none⟩) k cm)).set 3 (.int .i64 z)).below (aF _))
   have HM5:=aA ((ownsRow_setCell_other (ownsRow_setCell_other (ownsRow_setCell_other (ownsRow_setCell_other HF.o.f.m (a:=⟨W.heap.size+1,0,none⟩) hq (.int .i64 f)) (a:=⟨W.heap.size+1,1,none⟩) hq (.int .i64 d)) (a:=⟨W.heap.size+1,2,none⟩) hq (.slice (some ⟨gm,0,none⟩) k cm)) (a:=⟨W.heap.size+1,3,none⟩) hq (.int .i64 z)).drew)
   have HB5:=aA (((((HF.o.f.lo.setCell (p:=⟨W.heap.size+1,0,none⟩) (by simp) (.int .i64 f)).setCell (p:=⟨W.heap.size+1,1,none⟩) (by simp) (.int .i64 d)).setCell (p:=⟨W.heap.size+1,2,none⟩) (by simp) (.slice (some ⟨gm,0,none⟩) k cm)).setCell (p:=⟨W.heap.size+1,3,none⟩) (by simp) (.int .i64 z)).drew)
   obtain⟨V5,hV5⟩:∃ V5,((((V.setCell ⟨W.heap.size+1,0,none⟩ (.int .i64 f)).setCell ⟨W.heap.size+1,1,none⟩ (.int .i64 d)).setCell ⟨W.heap.size+1,2,none⟩ (.slice (some ⟨gm,0,none⟩) k cm)).setCell ⟨W.heap.size+1,3,none⟩ (.int .i64 z)).drew=V5:=⟨_,rfl⟩
   rw[hV5] at HO5 HM5 HB5 ⊢
   obtain⟨x0,x1,x2,x3⟩:=aD HO5.o
   rw[HMl.o] at HM5
   clear hV5 c0 c1 c2 c3 p0 p1 p2 p3 hf0 hf1 hf2 hf3 t0 hq
   go_wp2_with fail
   have HR:Hid ((nO L).1=M/\shO L (o:Int)=z):=aA (by rw[shO,HM2.o];exact⟨rfl,HZ.o⟩)
   exact bodyPost_ret (v:=.agg (cd f d (some ⟨gm,0,none⟩) k cm z)) (by simp[results,Tryz.results158,go_sem,x0,x1,x2,x3]) rfl ⟨_,_,by rw[HR.o.2],by rw[HR.o.1];exact HM5.o,HB5.o⟩
end Go.Proofs.Shr
namespace Go.Proofs.Shr
open Go.RowKit Go.IntWalk Knd
open Cde (In i0 ia kd cd Ins tO aJ aD aQ aK bB dX aF bU i6)
open Vfy (aZ rC rA)
variable {d f out:Int} {L:List In} {n:Nat} {W:World}
def lT (f d:Int)(L:List In)(out:Int):List In:=if aZ f d L out=0 then sdL f d L out else[]
def foU (f d:Int)(L:List In)(out:Int):Int:=if aZ f d L out=0 then sdO f d L out else 0
def wV (f d:Int)(L:List In)(out x:Int):Int:=if aZ f d L out=0 then x else 0
def qJ (w:World)(f d:Int)(L:List In)(out:Int)(e:Ending)(W':World):Prop :=
 ∃ a c,e=.returned (.tuple #[.agg (cd (wV f d L out f) (wV f d L out d) a (lT f d L out).length c (foU f d L out)),.int .i64 (aZ f d L out)])/\W'.ownsRow w.heap.size 41 6 (.slice a (lT f d L out).length c) (lT f d L out).length (bU (lT f d L out))/\Below w.heap.size w W'
theorem qJ.no {w W':World}{er:Int}(h:aZ f d L out=er)(h0:er≠0)(hb:Below w.heap.size w W'):qJ w f d L out (.returned (.tuple #[.agg bZ,.int .i64 er])) W':=by
 subst h
 refine⟨none,0,?_,?_,hb⟩
 ·simp[wV,lT,foU,h0]
 ·rw[lT,if_neg h0];exact⟨rfl,.inl ⟨rfl,rfl⟩⟩
theorem qJ.row {w W':World}{I:List In}{u:Int}{a:Option Addr}{c:Nat}(h:aZ f d L out=0)(hI:sdL f d L out=I)(hu:sdO f d L out=u)(hn:I.length=n)(hO:W'.ownsRow w.heap.size 41 6 (.slice a n c) n (bU I))(hb:Below w.heap.size w W'):qJ w f d L out (.returned (.tuple #[.agg (cd f d a n c u),.int .i64 0])) W':=by
 subst hn hI hu
 refine⟨a,c,?_,?_,hb⟩
 ·simp[wV,lT,foU,h]
 ·rw[lT,if_pos h];exact hO
structure Fg (W V:World)(cv rv:Array Value):Prop where
 c:aB V W.heap.size 26 cv
 r:aB V (W.heap.size+1) 26 rv
 lo:Below W.heap.size W V
theorem Fg.below {W V V':World}{cv rv:Array Value}(h:Fg W V cv rv)(hb:Below V.heap.size V V'):Fg W V' cv rv:=⟨h.c.below hb,h.r.below hb,bel h.lo hb⟩
theorem Fg.put {V:World}{cv:Array Value}{p q r s:Value}(h:Fg W V cv #[p,q,r,s])(x y z u:Value):Fg W (s4 V (W.heap.size+1) x y z u) cv #[x,y,z,u]:=by
 refine⟨?_,(((h.r.set 0 x).set 1 y).set 2 z).set 3 u,?_⟩
 ·exact(((h.c.other (p:=⟨W.heap.size+1,0,none⟩) (by simp) _).other (p:=⟨W.heap.size+1,1,none⟩) (by simp) _).other (p:=⟨W.heap.size+1,2,none⟩) (by simp) _).other (p:=⟨W.heap.size+1,3,none⟩) (by simp) _
 ·exact(((h.lo.setCell (p:=⟨W.heap.size+1,0,none⟩) (by simp) _).setCell (p:=⟨W.heap.size+1,1,none⟩) (by simp) _).setCell (p:=⟨W.heap.size+1,2,none⟩) (by simp) _).setCell (p:=⟨W.heap.size+1,3,none⟩) (by simp) _
theorem oI {a1 a2:Option Addr}{c1 c2:Nat}(hL:L.length=n)(hO:W.ownsRow 0 41 6 (.slice a1 n c1) n (bU (nO L).1))(hI:Ins W a2 n c2 L)(hn0:0 < n)(hn:n<=1000) :
  Calls Tryz.prog 157 #[.agg (cd f d a1 n c1 (shO L out)),.agg (cd f d a2 n c2 out)] W fun e W'=>∃ a' c',e=.returned (.agg (cd f d a' n c' (sdO f d L out)))/\(∀ base,W.ownsRow base 41 6 (.slice a1 n c1) n (bU (nO L).1)->base<=W.heap.size->W'.ownsRow base 41 6 (.slice a' n c') n (bU (sdL f d L out)))/\Below W.heap.size W W':=by
 obtain⟨a',c',e',hM,-⟩:=Ins.of_owns hO
 cases e'
 refine(aIx f d (shO L out) out hM hI hn0 hn).mono ?_
 rintro e W' (⟨h0,rfl,hb⟩|⟨h0,a',c',rfl,ho,hb⟩)
 ·exact⟨_,_,by rw[sdO,if_pos h0],fun base h _=>by rw[sdL,if_pos h0];exact Cde.bD h hb,hb⟩
 ·exact⟨_,_,by rw[sdO,if_neg h0],fun base _ h=>by rw[sdL,if_neg h0];exact Cde.cO ho h,hb⟩
theorem aFj (f d out:Int){a:Option Addr}{cap:Nat}(hL:Ins W a n cap L) :
  Calls Tryz.prog 121 #[.agg (cd f d a n cap out)] W (qJ W f d L out):=by
 have b1:=aC W (.cells (cd f d a n cap out) 26)
 have b2:=bel b1 (aC _ (.cells bZ 26))
 have HF0:Hid (Fg W ((W.alloc (.cells (cd f d a n cap out) 26)).alloc (.cells bZ 26)) (cd f d a n cap out) bZ) :=
  aA ⟨(aB.new W 26 (cd f d a n cap out)).alloc (.cells bZ 26),aK W (.cells (cd f d a n cap out) 26) 26 bZ,b2⟩
 have HV:=aA (Vfy.dV f d out (hL.later b2))
 have HLI:=aA hL
 have HLn:=aA hL.len
 clear b1 b2 hL
 go_enter Tryz.func121,Tryz.ntmps121
 go_wp2_with fail
 refine HV.o.mono ?_
 rintro e V1 ⟨ga,gc,rfl,hS,hb,-,-⟩
 obtain⟨m,hm⟩:∃ m,rC f d L out=m:=⟨_,rfl⟩
 obtain⟨co,hco⟩:∃ co,rA f d L out=co:=⟨_,rfl⟩
 obtain⟨er,her⟩:∃ er,aZ f d L out=er:=⟨_,rfl⟩
 rw[hm,hco,her]
 have HEr:=aA her
 have hb2:=aC V1 (.cells #[.slice ga m gc,.int .i64 co,.int .i64 0] 35)
 have HF1:=aA ((HF0.o.below hb).below hb2)
 obtain⟨x0,x1,x2,x3⟩:=aD (HF0.o.below hb).c
 obtain⟨p0,p1,p2,p3⟩:=aD (HF0.o.below hb).r
 have z0:=(HF0.o.below hb).c.lt
 have z1:=(HF0.o.below hb).r.lt
 clear hm hco her hb hb2 hS HV HF0
 by_cases h0:er=0
 ·have hr:(er != 0)=false:=by simpa using h0
  go_upto_region 4 with fail
  obtain⟨V2,hV2⟩:∃ V2,V1.alloc (.cells #[.slice ga m gc,.int .i64 co,.int .i64 0] 35)=V2:=⟨_,rfl⟩
  rw[hV2] at HF1 ⊢
  clear x0 x1 x2 x3 p0 p1 p2 p3 z0 z1 hV2
  obtain⟨x0,x1,x2,x3⟩:=aD HF1.o.c
  have h0':=HEr.o.trans h0
  obtain⟨mc,-⟩:=Vfy.aL h0'
  obtain⟨-,m1,m2,o0,o1,-⟩:=Cde.aT mc
  rw[HLn.o] at m1 m2 o1
  have HFo:=aA (aDk f d out ((HLI.o.later HF1.o.lo).later (aF V2)) h0')
  have HHa:=aA fun(V:World) (a1:Option Addr) (c1:Nat) (hO:V.ownsRow 0 41 6 (.slice a1 n c1) n (bU (nO L).1)) (hI:Ins V a n cap L)=>oI (f:=f) (d:=d) (out:=out) HLn.o hO hI (by omega) (by omega)
  have HS:=aA fun V3 (hb:Below V2.drew.heap.size V2.drew V3)=>(HF1.o.below (bel (aF V2) hb))
  clear mc
  go_region_held3 (fun w'=>w'.cell? ⟨W.heap.size,0,none⟩=some (.int .i64 f)/\w'.cell? ⟨W.heap.size,1,none⟩=some (.int .i64 d)/\w'.cell? ⟨W.heap.size,2,none⟩=some (.slice a n cap)/\w'.cell? ⟨W.heap.size,3,none⟩=some (.int .i64 out))
   (first|exact⟨x0,x1,x2,x3⟩|exact⟨l0,l1,l2,l3⟩|exact⟨k0,k1,k2,k3⟩|go_keep)
   ((first
    | (go_at_call 158;refine HFo.o.mono ?_;rintro e V3 ⟨a',c',rfl,hO,hb⟩;have HF3:=aA (HS.o V3 hb);obtain⟨k0,k1,k2,k3⟩:=aD HF3.o.c)
    | (go_at_call 157;refine(HHa.o _ _ _ (Cde.cO hO (Nat.zero_le _)) (HLI.o.later HF3.o.lo)).mono ?_;rintro e V4 ⟨a2',c2',rfl,hO4,hb4⟩;have HF4:=aA (HF3.o.below hb4);obtain⟨l0,l1,l2,l3⟩:=aD HF4.o.c;obtain⟨p0,p1,p2,p3⟩:=aD HF4.o.r;obtain⟨r0,r1,r2,r3⟩:=bQ HF4.o.r)))
  all_goals
   have HO4:=aA (hO4 W.heap.size (Cde.cO hO (show W.heap.size<=V2.drew.heap.size from HF1.o.lo.size)) HF3.o.lo.size)
   clear k0 k1 k2 k3 l0 l1 l2 l3 p0 p1 p2 p3 r0 r1 r2 r3 hO hb hO4 hb4 HFo HHa HS x0 x1 x2 x3 HF3 h0 hr
   have hq:=own_ne HO4.o HF4.o.r (by decide)
   have hlen:=(aEo h0').2.1
   rw[HLn.o] at hlen
   generalize hu:sdO f d L out=u at *
   generalize hI:sdL f d L out=I at *
   have HO5:=aA (iL HO4.o hq (.int .i64 f) (.int .i64 d) (.slice a2' n c2') (.int .i64 u))
   have HF5:=aA (HF4.o.put (.int .i64 f) (.int .i64 d) (.slice a2' n c2') (.int .i64 u))
   obtain⟨V5,hV5⟩:∃ V5,(((V4.setCell ⟨W.heap.size+1,0,none⟩ (.int .i64 f)).setCell ⟨W.heap.size+1,1,none⟩ (.int .i64 d)).setCell ⟨W.heap.size+1,2,none⟩ (.slice a2' n c2')).setCell ⟨W.heap.size+1,3,none⟩ (.int .i64 u)=V5:=⟨_,rfl⟩
   unfold s4 at HO5 HF5
   rw[hV5] at HO5 HF5 ⊢
   clear hV5 hq HF4 HO4
   go_wp2_with fail
   obtain⟨q0,q1,q2,q3⟩:=aD HF5.o.r
   exact bodyPost_ret (v:=.tuple #[.agg (cd f d a2' n c2' u),.int .i64 0]) (by simp[results,Tryz.results121,go_sem,q0,q1,q2,q3]) rfl (qJ.row h0' hI hu hlen HO5.o HF5.o.lo)
 ·have hr:(er != 0)=true:=by simpa using h0
  go_upto_region 3 with fail
  obtain⟨V2,hV2⟩:∃ V2,V1.alloc (.cells #[.slice ga m gc,.int .i64 co,.int .i64 0] 35)=V2:=⟨_,rfl⟩
  rw[hV2] at HF1 ⊢
  clear x0 x1 x2 x3 p0 p1 p2 p3 z0 z1 hV2
  obtain⟨p0,p1,p2,p3⟩:=aD HF1.o.r
  obtain⟨r0,r1,r2,r3⟩:=bQ HF1.o.r
  obtain⟨V3,hV3⟩:∃ V3,(((V2.setCell ⟨W.heap.size+1,0,none⟩ (.int .i64 0)).setCell ⟨W.heap.size+1,1,none⟩ (.int .i64 0)).setCell ⟨W.heap.size+1,2,none⟩ (.slice none 0 0)).setCell ⟨W.heap.size+1,3,none⟩ (.int .i64 0)=V3:=⟨_,rfl⟩
  have HF2:Hid (Fg W V3 (cd f d a n cap out) bZ):=aA (by rw[<-hV3];exact HF1.o.put (.int .i64 0) (.int .i64 0) (.slice none 0 0) (.int .i64 0))
  go_wp2_with fail
  obtain⟨q0,q1,q2,q3⟩:=aD HF2.o.r
  exact bodyPost_ret (v:=.tuple #[.agg bZ,.int .i64 er]) (by simp[results,Tryz.results121,go_sem,q0,q1,q2,q3]) rfl (qJ.no HEr.o h0 HF2.o.lo)
end Go.Proofs.Shr
