import Derived.Test.YtihbhbeaihdgnaaGreatXH
import Derived.Test.YtihbhbeaihdgnaaGreatX45
import Derived.Test.YtihbhbeaihdgnaaGreatX34
import Derived.Test.YtihbhbeaihdgnaaGreatX31
set_option maxRecDepth 100000
set_option maxHeartbeats 32000000
set_option linter.unusedVariables false
namespace Go.Proofs.Rdc
open Go.RowKit Go.IntWalk Knd
open Cde (In i0 ia kd cd Ins tO aJ aD aQ aK bB dX aF bU i6 zA aH)
open Vfy (aZ rC rA dM w32)
open Fld (dL rg gv ar iQ)
variable {V W:World} {b sc sn:Nat} {mv tv wv:Value} {M:List In} {T:List Int} {sa:Option Addr} {hi lo:Int}
theorem Wt.at {W V:World}{b gt ct j:Nat}{wv sv mv:Value}{M:List In}{T:List Int}(h:Wt W V b wv sv mv (.slice (some ⟨gt,0,none⟩) T.length ct) M T)(hj:j < T.length):V.cell? ⟨gt,j,none⟩=some (.int .i64 (T.getD j 0)):=by
 obtain⟨a,c,e,hI⟩:=h.ints
 cases e
 obtain⟨b',off,e',-,hat⟩:=hI.at (by omega)
 cases e'
 have c0:=hat j hj
 rw[Nat.zero_add] at c0
 exact c0
theorem nR.mono {V0 V':World}{sv:Value}{o:Option (List In)}{e:Ending}(h:nR W V b wv sv tv M T o e V')(hb:b<=V0.heap.size)(hB:Below V0.heap.size V0 V):nR W V0 b wv sv tv M T o e V':=by
 rcases h with⟨Q,h1,h2,h3,h4⟩|⟨h1,h2,h3⟩
 ·exact .inl ⟨Q,h1,h2,h3,(iH hb hB).trans h4⟩
 ·exact .inr ⟨h1,h2,bel hB h3⟩
theorem aAw (r d:Int){S:dM}(h:Wt W V b wv (.slice sa sn sc) mv tv M T)(hS:Spn.Spans W sa sn sc S)(hT:T.length<=sn)(hM:M.length<=1000000)(hr:dL r T.length)(hs:S.getD r.toNat (0,0)=(lo,hi))(hw:Wh lo hi) :
  Calls Tryz.prog 220 #[.pointer (some ⟨b,0,none⟩),.int .i64 r,.int .i64 d] V (nR W V b wv (.slice sa sn sc) tv M T (dvL lo hi (gv T r) d M.length)):=by
 have HP:=aA (qY d V)
 have HMu:=aA (aJ0 r d h hS hT hM hr hs hw)
 have HSh:=aA fun(n:Nat) (hn:n<=30)=>aCy r n hn h hS hT hM hr hs hw
 by_cases hn:0 < vE d
 ·obtain⟨n,n1,n2,n3⟩:∃ n:Nat,n<=30/\vE d=n/\d=2 ^ n:=by
   rcases mR d with e|e
   ·omega
   ·exact e
  rw[aPf hn n2 n3]
  have HS2:=aA (HSh.o n n1)
  rw[n2] at HP hn
  have q:decide ((0:Int) < n)=true:=by simpa using hn
  have q2:decide (0 < n)=true:=by simp;omega
  generalize shL lo hi (gv T r) n M.length=O at *
  clear h hS hT hM hr hs hw HMu HSh n1 n2 n3
  go_enter Tryz.func220,Tryz.ntmps220
  go_wp2_with fail
  refine HP.o.mono ?_
  rintro e w' ⟨rfl,rfl⟩
  go_wp2_with fail
  refine HS2.o.mono ?_
  rintro e V2 hQ
  have HQ:=aA hQ
  rcases hQ with⟨Q,-,rfl,-,-⟩|⟨-,rfl,-⟩
  ·obtain⟨z,hz⟩:∃ z:Int,((M.length+Q.length:Nat):Int)-1=z:=⟨_,rfl⟩
   rw[hz] at HQ ⊢
   clear hz
   go_wp2_with fail
   exact bodyPost_ret (v:=.tuple #[.int .i64 z,.bool true]) (by simp[results,Tryz.results220,go_sem]) rfl (HQ.o)
  ·go_wp2_with fail
   exact bodyPost_ret (v:=.tuple #[.int .i64 0,.bool false]) (by simp[results,Tryz.results220,go_sem]) rfl (HQ.o)
 ·rw[aPe hn]
  have q:decide (0 < vE d)=false:=by simpa using hn
  generalize muL lo hi (gv T r) d M.length=O at *
  generalize vE d=p at *
  clear h hS hT hM hr hs hw HSh hn
  go_enter Tryz.func220,Tryz.ntmps220
  go_wp2_with fail
  refine HP.o.mono ?_
  rintro e w' ⟨rfl,rfl⟩
  go_wp2_with fail
  refine HMu.o.mono ?_
  rintro e V2 hQ
  have HQ:=aA hQ
  rcases hQ with⟨Q,-,rfl,-,-⟩|⟨-,rfl,-⟩
  ·obtain⟨z,hz⟩:∃ z:Int,((M.length+Q.length:Nat):Int)-1=z:=⟨_,rfl⟩
   rw[hz] at HQ ⊢
   clear hz
   go_wp2_with fail
   exact bodyPost_ret (v:=.tuple #[.int .i64 z,.bool true]) (by simp[results,Tryz.results220,go_sem]) rfl (HQ.o)
  ·go_wp2_with fail
   exact bodyPost_ret (v:=.tuple #[.int .i64 0,.bool false]) (by simp[results,Tryz.results220,go_sem]) rfl (HQ.o)
theorem aBg {x d m:Int}{Q:List In}(h:dvL lo hi x d m=some Q):Q.length<=4:=by
 unfold dvL at h
 repeat' split at h
 all_goals first|(cases h;simp;done)|cases h
theorem aJ1 (r d:Int)(hd:w32 d){S:dM}(h:Wt W V b wv (.slice sa sn sc) mv tv M T)(hS:Spn.Spans W sa sn sc S)(hT:T.length<=sn)(hM:M.length<=1000000)(hr:dL r T.length)(hs:S.getD r.toNat (0,0)=(lo,hi))(hw:Wh lo hi) :
  Calls Tryz.prog 221 #[.pointer (some ⟨b,0,none⟩),.int .i64 r,.int .i64 d] V (nR W V b wv (.slice sa sn sc) tv M T (if 0 < vE d/\0<=lo then some [⟨31,gv T r,0,0,d-1,0⟩] else(dvL lo hi (gv T r) d M.length).map fun Q=>Q++[yK (M.length+Q.length-1) d,⟨9,gv T r,M.length+Q.length,0,0,0⟩])):=by
 have HF0:=aA h
 have HP:=aA fun(w:World)=>qY d w
 have HQu:=aA (aAw r d h hS hT hM hr hs hw)
 have HM:=aA hM
 obtain⟨w1,w2,w3,w4,w5⟩:=hw
 obtain⟨d1,d2⟩:=hd
 obtain⟨j,gt,ct,rfl,hj,htl,rfl,ct0⟩:=h.reg hr
 have HJ:=aA hj
 have hxe:gv T (j:Int)=T.getD j 0:=rfl
 rw[hxe] at ct0 HQu ⊢
 obtain⟨x,hx⟩:∃ x,T.getD j 0=x:=⟨_,rfl⟩
 rw[hx] at ct0 HQu ⊢
 have HX:=aA hx
 have hg1:=h.w.cell 1 rfl
 have hg3:=h.w.cell 3 rfl
 obtain⟨gs,off,rfl,hgs,hsc⟩:=(hS.later h.lo).at (by omega)
 obtain⟨c0,c1⟩:=hsc j (by omega)
 rw[Int.toNat_natCast] at hs
 rw[hs] at c0 c1
 dsimp only at c0 c1
 have hsn:=hS.le
 have hsn2:=hS.max
 unfold maxLen at hsn2
 have i0':(0:Int)<=j:=by omega
 have i1':(j:Int) < sn:=by omega
 obtain⟨tl,htl'⟩:∃ tl,T.length=tl:=⟨_,rfl⟩
 rw[htl'] at hg3 htl
 have HTl:=aA htl'
 have i2':(j:Int) < tl:=by omega
 obtain⟨D,hD⟩:∃ D,dvL lo hi x d M.length=D:=⟨_,rfl⟩
 have HDl:Hid (∀ Q,D=some Q->Q.length<=4):=aA fun Q hq=>aBg (hD.trans hq)
 rw[hD] at HQu ⊢
 clear hx hxe h hS hT hM hr hs hsc hj hD htl'
 obtain⟨p,hp⟩:∃ p,vE d=p:=⟨_,rfl⟩
 rw[hp] at HP ⊢
 clear hp
 by_cases h1:0 < p/\0<=lo
 ·rw[if_pos h1]
  have q1:decide (0 < p)=true:=by simpa using h1.1
  have q2:decide (0<=lo)=true:=by simpa using h1.2
  obtain⟨m,hm⟩:∃ m:Int,(M.length:Int)=m:=⟨_,rfl⟩
  have HU:=aA (kX ⟨31,x,0,0,d-1,0⟩ HF0.o hm (by have:=HM.o;omega))
  have HMl:=aA hm
  have HMn:Hid (((M.length+1:Nat):Int)-1=m):=aA (by omega)
  clear h1 hm HQu
  go_enter Tryz.func221,Tryz.ntmps221
  go_wp2_with fail
  refine(HP.o _).mono ?_
  rintro e w' ⟨rfl,rfl⟩
  go_wp2_with fail
  refine HU.o.mono ?_
  rintro e V2 ⟨rfl,hw,hb,-⟩
  go_wp2_with fail
  exact bodyPost_ret (v:=.tuple #[.int .i64 m,.bool true]) (by simp[results,Tryz.results221,go_sem]) rfl (nR.many _ rfl HMn.o hw hb)
 ·rw[if_neg h1]
  have hno:decide (0 < p)=false\/(decide (0 < p)=true/\decide (0<=lo)=false):=by
   by_cases h2:0 < p
   ·exact .inr ⟨by simpa using h2,by simp;omega⟩
   ·exact .inl (by simpa using h2)
  clear h1
  have HTm:=aA fun(q:Int) (V2:World) (M2:List In) (mv2:Value) (h2:Wt W V2 b wv (.slice (some ⟨gs,off,none⟩) sn sc) mv2 (.slice (some ⟨gt,0,none⟩) T.length ct) M2 T) (hl:M2.length<=2000000)=>qZ q d h2 hl
  rcases hno with hno|⟨hno,hno2⟩
  all_goals
   go_enter Tryz.func221,Tryz.ntmps221
   go_wp2_with fail
   refine(HP.o _).mono ?_
   rintro e w' ⟨rfl,rfl⟩
   go_wp2_with fail
   refine HQu.o.mono ?_
   clear HP HQu hg1 hg3 c0 c1 ct0
   rintro e V2 (⟨Q,h1,rfl,⟨mv2,h3⟩,h4⟩|⟨h1,rfl,h3⟩)
   ·obtain⟨z,hz⟩:∃ z:Int,((M.length+Q.length:Nat):Int)-1=z:=⟨_,rfl⟩
    rw[hz]
    have HO:=aA h1
    have HZ:=aA hz
    obtain⟨z1,hz1⟩:∃ z1:Int,((M++Q).length:Int)=z1:=⟨_,rfl⟩
    have HQl:Hid (Q.length<=4):=aA (HDl.o Q h1)
    have HT2:=aA (HTm.o z V2 (M++Q) mv2 h3 (by have:=HM.o;have:=HQl.o;simp;omega))
    rw[hz1] at HT2
    have HZ1:=aA hz1
    have HF2:=aA h3
    have HL2:=aA h4
    have hg0:=h3.w.cell 3 rfl
    rw[HTl.o] at hg0
    clear h1 h3 h4 hz hz1 HTm
    go_wp2_with fail
    refine HT2.o.mono ?_
    rintro e V3 ⟨rfl,⟨mv3,h3⟩,h4⟩
    obtain⟨z2,hz2⟩:∃ z2:Int,((M++Q++[yK z d]).length:Int)=z2:=⟨_,rfl⟩
    have HU:=aA (kX ⟨9,x,z1,0,0,0⟩ h3 hz2 (by have:=HM.o;have:=HQl.o;simp;omega))
    have ct1:=h3.at HJ.o
    rw[HX.o] at ct1
    have hg4:=h3.w.cell 3 rfl
    rw[HTl.o] at hg4
    have HL3:=aA (HL2.o.trans h4)
    have HZ2:=aA hz2
    clear h3 h4 hz2 HT2 hg0
    go_wp2_with fail
    refine HU.o.mono ?_
    rintro e V4 ⟨rfl,⟨mv4,h3⟩,h4,-⟩
    have HF4:=aA h3
    have HL4:=aA (HL3.o.trans h4)
    clear h3 h4 HU ct1 hg4
    go_wp2_with fail
    refine bodyPost_ret (v:=.tuple #[.int .i64 z2,.bool true]) (by simp[results,Tryz.results221,go_sem]) rfl (nR.many (Q++[yK z d,⟨9,x,z1,0,0,0⟩]) ?_ ?_ ⟨mv4,by simpa using HF4.o⟩ HL4.o)
    ·rw[HO.o]
     have e1:=HZ.o
     have e2:=HZ1.o
     have e3:(M.length:Int)+Q.length-1=z:=by omega
     have e4:(M.length:Int)+Q.length=z1:=by rw[List.length_append] at e2;omega
     show some (Q++[yK ((M.length:Int)+Q.length-1) d,⟨9,x,(M.length:Int)+Q.length,0,0,0⟩])=_
     rw[e3,e4]
    ·have e2:=HZ2.o
     simp at e2 ⊢
     omega
   ·have HO:=aA h1
    have HB:=aA h3
    clear h1 h3
    go_wp2_with fail
    exact bodyPost_ret (v:=.tuple #[.int .i64 0,.bool false]) (by simp[results,Tryz.results221,go_sem]) rfl (nR.no (by rw[HO.o];rfl) HB.o)
theorem aGr (n:In){wa:Option Addr}{wn wc:Nat}{L:List In}{S:dM}(h:Wt W V b (.slice wa wn wc) (.slice sa sn sc) mv tv M T)(hL:Ins W wa wn wc L)(hS:Spn.Spans W sa sn sc S)(hTw:T.length<=wn)(hTs:T.length<=sn)(hM:M.length<=1000000)(hok:bB n T.length=true)
  (hSw:∀ r,dL r T.length->Wh (S.getD r.toNat (0,0)).1 (S.getD r.toNat (0,0)).2) (hLw:∀ r,dL r T.length->(rg L r).op=1->w32 (rg L r).k) :
  Calls Tryz.prog 186 #[.pointer (some ⟨b,0,none⟩),.agg (ia n)] V (nR W V b (.slice wa wn wc) (.slice sa sn sc) tv M T (yT L S T n M.length)):=by
 have HF0:=aA (h.below (aC V (.cells (ia n) 41)))
 have HC0:=aA (aB.new V 41 (ia n))
 have HB0:=aA (aC V (.cells (ia n) 41))
 have HLe:=aA h.le
 have two:ar n.op=2->dL n.a T.length/\dL n.b T.length:=fun e=>⟨Fld.mM hok (by rw[iQ e];simp),Fld.mM hok (by rw[iQ e];simp)⟩
 by_cases h10:n.op=10
 ·obtain⟨ha,hb⟩:=two (by rw[h10];decide)
  clear two
  unfold yT
  rw[if_pos h10]
  have HU:=aA (aCw n HF0.o hL hTw hM ha hb)
  have t10:(n.op==10)=true:=by simpa using h10
  obtain⟨b0,b1,b2,b3,b4,b5⟩:=aJ HC0.o
  obtain⟨O,hO⟩:∃ O,(if (rg L n.b).op=1 then some [yK (gv T n.a) (rg L n.b).k] else if (rg L n.a).op=1 then some [yK (gv T n.b) (rg L n.a).k] else none)=O:=⟨_,rfl⟩
  rw[hO] at HU ⊢
  clear hO
  clear h hL hS hTw hTs hM hok hSw hLw ha hb h10
  go_enter Tryz.func186,Tryz.ntmps186
  go_wp2_with fail
  refine HU.o.mono ?_
  clear HU b0 b1 b2 b3 b4 b5
  rintro e V2 hQ0
  have hQ:=hQ0.mono HLe.o HB0.o
  clear hQ0
  have HQ:=aA hQ
  rcases hQ with⟨Q,-,rfl,-,-⟩|⟨-,rfl,-⟩
  ·obtain⟨z,hz⟩:∃ z:Int,((M.length+Q.length:Nat):Int)-1=z:=⟨_,rfl⟩
   rw[hz] at HQ ⊢
   clear hz
   go_wp2_with fail
   exact bodyPost_ret (v:=.tuple #[.int .i64 z,.bool true]) (by simp[results,Tryz.results186,go_sem]) rfl (HQ.o)
  ·go_wp2_with fail
   exact bodyPost_ret (v:=.tuple #[.int .i64 0,.bool false]) (by simp[results,Tryz.results186,go_sem]) rfl (HQ.o)
 by_cases h15:n.op=15
 ·obtain⟨ha,hb⟩:=two (by rw[h15];decide)
  clear two
  unfold yT
  rw[if_neg h10,if_pos h15]
  have HU:=aA (aJz n HF0.o hL hTw hM ha hb)
  have t10:(n.op==10)=false:=by simpa using h10
  have t15:(n.op==15)=true:=by simpa using h15
  obtain⟨b0,b1,b2,b3,b4,b5⟩:=aJ HC0.o
  obtain⟨O,hO⟩:∃ O,(if (rg L n.b).op=1/\0<=(rg L n.b).k then some [(⟨31,gv T n.a,0,0,(rg L n.b).k,0⟩:In)] else if (rg L n.a).op=1/\0<=(rg L n.a).k then some [⟨31,gv T n.b,0,0,(rg L n.a).k,0⟩] else none)=O:=⟨_,rfl⟩
  rw[hO] at HU ⊢
  clear hO
  clear h hL hS hTw hTs hM hok hSw hLw ha hb h10 h15
  go_enter Tryz.func186,Tryz.ntmps186
  go_wp2_with fail
  refine HU.o.mono ?_
  clear HU b0 b1 b2 b3 b4 b5
  rintro e V2 hQ0
  have hQ:=hQ0.mono HLe.o HB0.o
  clear hQ0
  have HQ:=aA hQ
  rcases hQ with⟨Q,-,rfl,-,-⟩|⟨-,rfl,-⟩
  ·obtain⟨z,hz⟩:∃ z:Int,((M.length+Q.length:Nat):Int)-1=z:=⟨_,rfl⟩
   rw[hz] at HQ ⊢
   clear hz
   go_wp2_with fail
   exact bodyPost_ret (v:=.tuple #[.int .i64 z,.bool true]) (by simp[results,Tryz.results186,go_sem]) rfl (HQ.o)
  ·go_wp2_with fail
   exact bodyPost_ret (v:=.tuple #[.int .i64 0,.bool false]) (by simp[results,Tryz.results186,go_sem]) rfl (HQ.o)
 by_cases h13:n.op=13
 ·obtain⟨ha,hb⟩:=two (by rw[h13];decide)
  clear two
  unfold yT
  rw[if_neg h10,if_neg h15,if_pos h13]
  have HU:=aA (yM n 29 HF0.o hL hTw hM ha hb)
  have t10:(n.op==10)=false:=by simpa using h10
  have t15:(n.op==15)=false:=by simpa using h15
  have t13:(n.op==13)=true:=by simpa using h13
  obtain⟨b0,b1,b2,b3,b4,b5⟩:=aJ HC0.o
  obtain⟨O,hO⟩:∃ O,(if (rg L n.b).op=1 then some [(⟨29,gv T n.a,0,0,(rg L n.b).k,0⟩:In)] else none)=O:=⟨_,rfl⟩
  rw[hO] at HU ⊢
  clear hO
  clear h hL hS hTw hTs hM hok hSw hLw ha hb h10 h15 h13
  go_enter Tryz.func186,Tryz.ntmps186
  go_wp2_with fail
  refine HU.o.mono ?_
  clear HU b0 b1 b2 b3 b4 b5
  rintro e V2 hQ0
  have hQ:=hQ0.mono HLe.o HB0.o
  clear hQ0
  have HQ:=aA hQ
  rcases hQ with⟨Q,-,rfl,-,-⟩|⟨-,rfl,-⟩
  ·obtain⟨z,hz⟩:∃ z:Int,((M.length+Q.length:Nat):Int)-1=z:=⟨_,rfl⟩
   rw[hz] at HQ ⊢
   clear hz
   go_wp2_with fail
   exact bodyPost_ret (v:=.tuple #[.int .i64 z,.bool true]) (by simp[results,Tryz.results186,go_sem]) rfl (HQ.o)
  ·go_wp2_with fail
   exact bodyPost_ret (v:=.tuple #[.int .i64 0,.bool false]) (by simp[results,Tryz.results186,go_sem]) rfl (HQ.o)
 by_cases h14:n.op=14
 ·obtain⟨ha,hb⟩:=two (by rw[h14];decide)
  clear two
  unfold yT
  rw[if_neg h10,if_neg h15,if_neg h13,if_pos h14]
  have HU:=aA (yM n 30 HF0.o hL hTw hM ha hb)
  have t10:(n.op==10)=false:=by simpa using h10
  have t15:(n.op==15)=false:=by simpa using h15
  have t13:(n.op==13)=false:=by simpa using h13
  have t14:(n.op==14)=true:=by simpa using h14
  obtain⟨b0,b1,b2,b3,b4,b5⟩:=aJ HC0.o
  obtain⟨O,hO⟩:∃ O,(if (rg L n.b).op=1 then some [(⟨30,gv T n.a,0,0,(rg L n.b).k,0⟩:In)] else none)=O:=⟨_,rfl⟩
  rw[hO] at HU ⊢
  clear hO
  clear h hL hS hTw hTs hM hok hSw hLw ha hb h10 h15 h13 h14
  go_enter Tryz.func186,Tryz.ntmps186
  go_wp2_with fail
  refine HU.o.mono ?_
  clear HU b0 b1 b2 b3 b4 b5
  rintro e V2 hQ0
  have hQ:=hQ0.mono HLe.o HB0.o
  clear hQ0
  have HQ:=aA hQ
  rcases hQ with⟨Q,-,rfl,-,-⟩|⟨-,rfl,-⟩
  ·obtain⟨z,hz⟩:∃ z:Int,((M.length+Q.length:Nat):Int)-1=z:=⟨_,rfl⟩
   rw[hz] at HQ ⊢
   clear hz
   go_wp2_with fail
   exact bodyPost_ret (v:=.tuple #[.int .i64 z,.bool true]) (by simp[results,Tryz.results186,go_sem]) rfl (HQ.o)
  ·go_wp2_with fail
   exact bodyPost_ret (v:=.tuple #[.int .i64 0,.bool false]) (by simp[results,Tryz.results186,go_sem]) rfl (HQ.o)
 by_cases h11:n.op=11
 ·obtain⟨ha,hb⟩:=two (by rw[h11];decide)
  clear two
  unfold yT
  rw[if_neg h10,if_neg h15,if_neg h13,if_neg h14,if_pos h11]
  have HNu:=aA (fK n.b HF0.o hL ⟨hb.1,by have:=hb.2;omega⟩)
  have HU:=aA fun(V1:World) (h1:Wt W V1 b (.slice wa wn wc) (.slice sa sn sc) mv tv M T) (hw:w32 (rg L n.b).k)=>aAw n.a (rg L n.b).k h1 hS hTs hM ha (lo:=(S.getD n.a.toNat (0,0)).1) (hi:=(S.getD n.a.toNat (0,0)).2) rfl (hSw n.a ha)
  have HW:=aA fun h1=>hLw n.b hb h1
  have t10:(n.op==10)=false:=by simpa using h10
  have t15:(n.op==15)=false:=by simpa using h15
  have t13:(n.op==13)=false:=by simpa using h13
  have t14:(n.op==14)=false:=by simpa using h14
  have t11:(n.op==11)=true:=by simpa using h11
  obtain⟨p,hp⟩:∃ p,rg L n.b=p:=⟨_,rfl⟩
  rw[hp] at HNu HU HW ⊢
  obtain⟨b0,b1,b2,b3,b4,b5⟩:=aJ HC0.o
  clear h hL hS hTw hTs hM hok hSw hLw ha hb hp h10 h15 h13 h14 h11
  by_cases h1:p.op=1
  ·rw[if_pos h1]
   obtain⟨O,hO⟩:∃ O,(dvL (S.getD n.a.toNat (0,0)).1 (S.getD n.a.toNat (0,0)).2 (gv T n.a) p.k M.length)=O:=⟨_,rfl⟩
   rw[hO] at HU ⊢
   clear hO
   have HW2:=aA (HW.o h1)
   have q1:(p.op==1)=true:=by simpa using h1
   rw[q1] at HNu
   clear h1 q1
   go_enter Tryz.func186,Tryz.ntmps186
   go_wp2_with fail
   refine HNu.o.mono ?_
   rintro e V1 ⟨rfl,hb⟩
   have HF1:=aA (HF0.o.below hb)
   have HB1:=aA (bel HB0.o hb)
   have HU1:=aA (HU.o V1 HF1.o HW2.o)
   have hc1:=HC0.o.below hb
   clear b0 b1 b2 b3 b4 b5 hb HNu HU
   obtain⟨b0,b1,b2,b3,b4,b5⟩:=aJ hc1
   clear hc1
   go_wp2_with fail
   refine HU1.o.mono ?_
   clear HU1 b0 b1 b2 b3 b4 b5
   rintro e V2 hQ0
   have hQ:=hQ0.mono HLe.o HB1.o
   clear hQ0
   have HQ:=aA hQ
   rcases hQ with⟨Q,-,rfl,-,-⟩|⟨-,rfl,-⟩
   ·obtain⟨z,hz⟩:∃ z:Int,((M.length+Q.length:Nat):Int)-1=z:=⟨_,rfl⟩
    rw[hz] at HQ ⊢
    clear hz
    go_wp2_with fail
    exact bodyPost_ret (v:=.tuple #[.int .i64 z,.bool true]) (by simp[results,Tryz.results186,go_sem]) rfl (HQ.o)
   ·go_wp2_with fail
    exact bodyPost_ret (v:=.tuple #[.int .i64 0,.bool false]) (by simp[results,Tryz.results186,go_sem]) rfl (HQ.o)
  ·rw[if_neg h1]
   have q1:(p.op==1)=false:=by simpa using h1
   rw[q1] at HNu
   clear h1 q1
   go_enter Tryz.func186,Tryz.ntmps186
   go_wp2_with fail
   refine HNu.o.mono ?_
   rintro e V1 ⟨rfl,hb⟩
   have HB1:=aA (bel HB0.o hb)
   clear hb HNu HU
   go_wp2_with fail
   exact bodyPost_ret (v:=.tuple #[.int .i64 0,.bool false]) (by simp[results,Tryz.results186,go_sem]) rfl (nR.no rfl HB1.o)
 by_cases h12:n.op=12
 ·obtain⟨ha,hb⟩:=two (by rw[h12];decide)
  clear two
  unfold yT
  rw[if_neg h10,if_neg h15,if_neg h13,if_neg h14,if_neg h11,if_pos h12]
  have HNu:=aA (fK n.b HF0.o hL ⟨hb.1,by have:=hb.2;omega⟩)
  have HU:=aA fun(V1:World) (h1:Wt W V1 b (.slice wa wn wc) (.slice sa sn sc) mv tv M T) (hw:w32 (rg L n.b).k)=>aJ1 n.a (rg L n.b).k hw h1 hS hTs hM ha (lo:=(S.getD n.a.toNat (0,0)).1) (hi:=(S.getD n.a.toNat (0,0)).2) rfl (hSw n.a ha)
  have HW:=aA fun h1=>hLw n.b hb h1
  have t10:(n.op==10)=false:=by simpa using h10
  have t15:(n.op==15)=false:=by simpa using h15
  have t13:(n.op==13)=false:=by simpa using h13
  have t14:(n.op==14)=false:=by simpa using h14
  have t11:(n.op==11)=false:=by simpa using h11
  have t12:(n.op==12)=true:=by simpa using h12
  obtain⟨p,hp⟩:∃ p,rg L n.b=p:=⟨_,rfl⟩
  rw[hp] at HNu HU HW ⊢
  obtain⟨b0,b1,b2,b3,b4,b5⟩:=aJ HC0.o
  clear h hL hS hTw hTs hM hok hSw hLw ha hb hp h10 h15 h13 h14 h11 h12
  by_cases h1:p.op=1
  ·rw[if_pos h1]
   obtain⟨O,hO⟩:∃ O,(if 0 < vE p.k/\0<=(S.getD n.a.toNat (0,0)).1 then some [(⟨31,gv T n.a,0,0,p.k-1,0⟩:In)] else(dvL (S.getD n.a.toNat (0,0)).1 (S.getD n.a.toNat (0,0)).2 (gv T n.a) p.k M.length).map fun Q=>Q++[yK (M.length+Q.length-1) p.k,⟨9,gv T n.a,M.length+Q.length,0,0,0⟩])=O:=⟨_,rfl⟩
   rw[hO] at HU ⊢
   clear hO
   have HW2:=aA (HW.o h1)
   have q1:(p.op==1)=true:=by simpa using h1
   rw[q1] at HNu
   clear h1 q1
   go_enter Tryz.func186,Tryz.ntmps186
   go_wp2_with fail
   refine HNu.o.mono ?_
   rintro e V1 ⟨rfl,hb⟩
   have HF1:=aA (HF0.o.below hb)
   have HB1:=aA (bel HB0.o hb)
   have HU1:=aA (HU.o V1 HF1.o HW2.o)
   have hc1:=HC0.o.below hb
   clear b0 b1 b2 b3 b4 b5 hb HNu HU
   obtain⟨b0,b1,b2,b3,b4,b5⟩:=aJ hc1
   clear hc1
   go_wp2_with fail
   refine HU1.o.mono ?_
   clear HU1 b0 b1 b2 b3 b4 b5
   rintro e V2 hQ0
   have hQ:=hQ0.mono HLe.o HB1.o
   clear hQ0
   have HQ:=aA hQ
   rcases hQ with⟨Q,-,rfl,-,-⟩|⟨-,rfl,-⟩
   ·obtain⟨z,hz⟩:∃ z:Int,((M.length+Q.length:Nat):Int)-1=z:=⟨_,rfl⟩
    rw[hz] at HQ ⊢
    clear hz
    go_wp2_with fail
    exact bodyPost_ret (v:=.tuple #[.int .i64 z,.bool true]) (by simp[results,Tryz.results186,go_sem]) rfl (HQ.o)
   ·go_wp2_with fail
    exact bodyPost_ret (v:=.tuple #[.int .i64 0,.bool false]) (by simp[results,Tryz.results186,go_sem]) rfl (HQ.o)
  ·rw[if_neg h1]
   have q1:(p.op==1)=false:=by simpa using h1
   rw[q1] at HNu
   clear h1 q1
   go_enter Tryz.func186,Tryz.ntmps186
   go_wp2_with fail
   refine HNu.o.mono ?_
   rintro e V1 ⟨rfl,hb⟩
   have HB1:=aA (bel HB0.o hb)
   clear hb HNu HU
   go_wp2_with fail
   exact bodyPost_ret (v:=.tuple #[.int .i64 0,.bool false]) (by simp[results,Tryz.results186,go_sem]) rfl (nR.no rfl HB1.o)
 have hq:yT L S T n M.length=none:=by unfold yT;rw[if_neg h10,if_neg h15,if_neg h13,if_neg h14,if_neg h11,if_neg h12]
 rw[hq]
 obtain⟨b0,b1,b2,b3,b4,b5⟩:=aJ HC0.o
 have t10:(n.op==10)=false:=by simpa using h10
 have t15:(n.op==15)=false:=by simpa using h15
 have t13:(n.op==13)=false:=by simpa using h13
 have t14:(n.op==14)=false:=by simpa using h14
 have t11:(n.op==11)=false:=by simpa using h11
 have t12:(n.op==12)=false:=by simpa using h12
 clear h hL hS hTw hTs hM hok hSw hLw two hq h10 h15 h13 h14 h11 h12
 go_enter Tryz.func186,Tryz.ntmps186
 go_wp2_with fail
 exact bodyPost_ret (v:=.tuple #[.int .i64 0,.bool false]) (by simp[results,Tryz.results186,go_sem]) rfl (nR.no rfl HB0.o)
end Go.Proofs.Rdc
namespace Go.Proofs.Rdc
open Go.RowKit Go.IntWalk Knd
open Cde (In i0 ia kd cd Ins tO aJ aD aQ aK bB dX aF bU i6 zA aH)
open Vfy (aZ rC rA rH dM w32)
open Fld (dL rg gv ar iQ bW)
variable {L:List In}
theorem aRc (L:List In)(S:dM)(T:List Int)(n:In)(m:Int):(rdW L S T n m).length<=6:=by
 unfold rdW
 cases hq:yT L S T n m with
 | none=>simp
 | some W =>
  show W.length<=6
  unfold yT at hq
  repeat' split at hq
  all_goals first
   | (cases hq;simp;done)
   | (have:=aBg hq;omega)
   | (obtain⟨Q,hQ,rfl⟩:=Option.map_eq_some_iff.1 hq;have:=aBg hQ;simp;omega)
   | cases hq
theorem aNc (L:List In)(S:dM):∀ k,k<=L.length->(uE L S (L.take k)).1.length<=6*k
 | 0,_=>by simp[uE]
 | k+1,hk=>by
  have ih:=aNc L S k (by omega)
  have:=aRc L S (uE L S (L.take k)).2 (L.getD k i0) (uE L S (L.take k)).1.length
  rw[oU S (by omega),rdS]
  show ((uE L S (L.take k)).1++_).length<=_
  rw[List.length_append]
  omega
theorem lG {V V':World}{b q:Nat}{t:TypeId}{cs:Array Value}(h:aB V q t cs)(hq:q < b)(hb:Below b V V'):aB V' q t cs:=(hb.block q hq).trans h
theorem aRa {S:dM}{M Q:List In}{T:List Int}{q:In}{z:Int}(h:yT L S T q M.length=some Q)(hz:((M.length+Q.length:Nat):Int)-1=z):rdS L S (M,T) q=(M++Q,T++[z]):=by
 subst hz
 have e:rdW L S T q M.length=Q:=by rw[rdW,h];rfl
 unfold rdS
 rw[e]
theorem aVi {S:dM}{M:List In}{T:List Int}{q:In}{z:Int}(h:yT L S T q M.length=none)(hz:(M.length:Int)=z):rdS L S (M,T) q=(M++[bW q T],T++[z]):=by
 subst hz
 have e:rdW L S T q M.length=[bW q T]:=by rw[rdW,h];rfl
 unfold rdS
 rw[e]
 simp
theorem rd_facts {f d:Int}{out:Int}(h:aZ f d L out=0):1<=L.length/\L.length<=200/\0<=out/\out < L.length/\(rH f d L out).length=L.length/\dX L L.length=true/\(∀ r:Int,dL r L.length->Wh ((rH f d L out).getD r.toNat (0,0)).1 ((rH f d L out).getD r.toNat (0,0)).2)/\(∀ r,dL r L.length->(rg L r).op=1->w32 (rg L r).k):=by
 obtain⟨m,-,⟨S,hS,hSl,hs⟩,-⟩:=Vfy.aL h
 obtain⟨hm,m1,m2,o0,o1,hok⟩:=Cde.aT m
 refine⟨m1,m2,o0,o1,by rw[hs];exact hSl,hok,fun r hr=>?_,fun r hr ho=>?_⟩
 ·rw[hs]
  have hl:r.toNat < S.length:=by rw[hSl];exact hr.2
  have:=Vfy.aAs hm hok L.length (Nat.le_refl _) S (by rw[List.take_length];exact hS) (S.getD r.toNat (0,0)) (by rw[List.getD_eq_getElem?_getD,List.getElem?_eq_getElem hl];exact List.getElem_mem _)
  exact Spn.aX.1 this
 ·obtain⟨V,-,hVl,hOd⟩:=aD1 h (Fld.yP hm)
  rw[<-hOd.rv.num hr ho]
  exact hOd.w hr
theorem aCx (f d out:Int){a:Option Addr}{n cap:Nat}{sa:Option Addr}{sn sc:Nat}{W:World}(hL:Ins W a n cap L)(h:aZ f d L out=0)(hS:Spn.Spans W sa sn sc (rH f d L out)) :
  Calls Tryz.prog 160 #[.agg (cd f d a n cap out),.slice sa sn sc] W fun e W'=>∃ a' m c',(rdN f d L out).length=m/\e=.returned (.agg (cd f d a' m c' (rdO f d L out)))/\W'.ownsRow W.heap.size 41 6 (.slice a' m c') m (bU (rdN f d L out))/\Below W.heap.size W W':=by
 obtain⟨m1,m2,o0,o1,hsl,hok,hSw,hLw⟩:=rd_facts h
 have hsn:=hS.len
 unfold rdN rdO
 obtain⟨S,hSe⟩:∃ S,rH f d L out=S:=⟨_,rfl⟩
 rw[hSe] at hsl hSw hS hsn ⊢
 rw[hL.len] at m1 m2 o1 hsl hok hSw hLw
 have hsn':n=sn:=by omega
 subst hsn'
 obtain⟨o,rfl⟩:∃ o:Nat,out=o:=⟨out.toNat,by omega⟩
 have HLI:=aA hL
 have HLn:=aA hL.len
 have HSI:=aA hS
 have HOk:=aA hok
 have HSu:=aA fun k (hk:k < n)=>oU S (L:=L) (k:=k) (by rw[hL.len];exact hk)
 have HFew:=aA fun k (hk:k<=n)=>aNc L S k (by rw[hL.len];exact hk)
 have HSw:=aA hSw
 have HLw:=aA hLw
 have HB0:Hid (aB (((W.alloc (.cells (cd f d a n cap (o:Int)) 26)).alloc (.cells bZ 26)).alloc (.cells #[.slice a n cap,.slice sa n sc,.slice none 0 0,.slice none 0 0] 208)) W.heap.size 26 (cd f d a n cap (o:Int))/\aB (((W.alloc (.cells (cd f d a n cap (o:Int)) 26)).alloc (.cells bZ 26)).alloc (.cells #[.slice a n cap,.slice sa n sc,.slice none 0 0,.slice none 0 0] 208)) (W.heap.size+1) 26 bZ /\
   Wt W (((W.alloc (.cells (cd f d a n cap (o:Int)) 26)).alloc (.cells bZ 26)).alloc (.cells #[.slice a n cap,.slice sa n sc,.slice none 0 0,.slice none 0 0] 208)) (W.heap.size+1+1) (.slice a n cap) (.slice sa n sc) (.slice none 0 0) (.slice none 0 0) [] []):=by
  have b1:=aC W (.cells (cd f d a n cap (o:Int)) 26)
  have b2:=bel b1 (aC _ (.cells bZ 26))
  have b3:=bel b2 (aC _ (.cells #[.slice a n cap,.slice sa n sc,.slice none 0 0,.slice none 0 0] 208))
  have h3:=aB.new ((W.alloc (.cells (cd f d a n cap (o:Int)) 26)).alloc (.cells bZ 26)) 208 #[.slice a n cap,.slice sa n sc,.slice none 0 0,.slice none 0 0]
  rw[World.size_alloc,World.size_alloc] at h3
  exact aA ⟨((aB.new W 26 (cd f d a n cap (o:Int))).alloc _).alloc _,(aK W (.cells (cd f d a n cap (o:Int)) 26) 26 bZ).alloc _,h3,⟨rfl,.inl ⟨rfl,rfl⟩⟩,⟨rfl,.inl ⟨rfl,rfl⟩⟩,b3,by omega⟩
 clear hL h hS hok hSw hLw hsn hSe
 go_enter Tryz.func160,Tryz.ntmps160
 go_wp2_with fail
 obtain⟨b,hbe⟩:∃ b,W.heap.size+1+1=b:=⟨_,rfl⟩
 rw[hbe] at HB0 ⊢
 have HBe:=aA hbe
 clear hbe
 go_loopw [17] (fun i wr=>∃(k:Nat) (M:List In) (T:List Int) (mv tv:Value),k<=n/\i=.int .i64 k/\Hid (uE L S (L.take k)=(M,T))/\Hid (T.length=k)/\Hid (aB wr W.heap.size 26 (cd f d a n cap (o:Int))/\aB wr (W.heap.size+1) 26 bZ/\Wt W wr b (.slice a n cap) (.slice sa n sc) mv tv M T)) (fun i _=>n-(intOf i).toNat)
 case atStart=>exact⟨0,[],[],_,_,Nat.zero_le _,rfl,aA rfl,aA rfl,HB0⟩
 case round =>
  obtain⟨k,M,T,mv,tv,hk,rfl,HM,HTl,HF⟩:=hrel
  rename World=>V
  clear HB0
  by_cases hlt:k < n
  ·obtain⟨gl,off,rfl,-,hat⟩:=(HLI.o.later HF.o.2.2.lo).at (by omega)
   obtain⟨e0,e1,e2,e3,e4,e5⟩:=hat k hlt
   clear hat
   have hi0:(0:Int)<=k:=by omega
   have hi1:(k:Int) < n:=by omega
   have hSu:=HSu.o k hlt
   have hfew:=HFew.o k (by omega)
   rw[HM.o] at hSu hfew
   have hfew2:M.length<=6*k:=hfew
   have hOk:=Cde.dD HOk.o hlt
   generalize L.getD k i0=q at *
   have HC1:=aA (aB.new V 41 (ia q))
   have HF1:=aA (show aB (V.alloc (.cells (ia q) 41)) W.heap.size 26 _/\aB (V.alloc (.cells (ia q) 41)) (W.heap.size+1) 26 bZ/\Wt W (V.alloc (.cells (ia q) 41)) b _ _ _ _ _ T from⟨HF.o.1.below (aC V (.cells (ia q) 41)),HF.o.2.1.below (aC V (.cells (ia q) 41)),HF.o.2.2.below (aC V (.cells (ia q) 41))⟩)
   have hch:=aGr q HF1.o.2.2 HLI.o HSI.o (by rw[HTl.o];omega) (by rw[HTl.o];omega) (by omega) (by rw[HTl.o];exact hOk) (fun r hr=>HSw.o r ⟨hr.1,by have:=hr.2;have:=HTl.o;omega⟩) (fun r hr ho=>HLw.o r ⟨hr.1,by have:=hr.2;have:=HTl.o;omega⟩ ho)
   obtain⟨O,hO⟩:∃ O,yT L S T q M.length=O:=⟨_,rfl⟩
   rw[hO] at hch
   have HCh:=aA hch
   have HY:=aA fun Q z (h:O=some Q) hz=>hSu.trans (aRa (z:=z) (hO.trans h) hz)
   have HN:=aA fun z (h:O=none) hz=>hSu.trans (aVi (z:=z) (hO.trans h) hz)
   have HMk:Hid (M.length<=1200):=aA (by omega)
   clear hO hSu hOk hch hfew hfew2
   go_wp2_with fail
   refine HCh.o.mono ?_
   clear HCh e0 e1 e2 e3 e4 e5
   rintro e V2 (⟨Q,h1,rfl,⟨mv2,h3⟩,h4⟩|⟨h1,rfl,h3⟩)
   ·obtain⟨z,hz⟩:∃ z:Int,((M.length+Q.length:Nat):Int)-1=z:=⟨_,rfl⟩
    rw[hz]
    have HZ:=aA (HY.o Q z h1 hz)
    obtain⟨ta,tc,rfl,-⟩:=h3.ints
    have HF2:=aA (show aB V2 W.heap.size 26 _/\aB V2 (W.heap.size+1) 26 bZ/\Wt W V2 b _ _ _ _ _ T from⟨lG HF1.o.1 (by have:=HBe.o;omega) h4,lG HF1.o.2.1 (by have:=HBe.o;omega) h4,h3⟩)
    clear h1 h3 h4 hz HY HN
    have HF2b:=aA (show aB (V2.alloc (.cells #[.int .i64 z] 3)) W.heap.size 26 _/\aB (V2.alloc (.cells #[.int .i64 z] 3)) (W.heap.size+1) 26 bZ/\Wt W (V2.alloc (.cells #[.int .i64 z] 3)) b _ _ _ _ _ T from⟨HF2.o.1.below (aC V2 (.cells #[.int .i64 z] 3)),HF2.o.2.1.below (aC V2 (.cells #[.int .i64 z] 3)),HF2.o.2.2.below (aC V2 (.cells #[.int .i64 z] 3))⟩)
    have HN9:=aA (aB.new V2 3 #[.int .i64 z])
    have tcl:=HF2.o.2.2.w.cell 3 rfl
    have hbl:=HF2.o.2.2.w.lt
    go_wp2_with (at_builtin;refine gH rfl _ _ rfl rfl HF2b.o.2.2.t HF2b.o.2.2.le _ z rfl HN9.o (by rw[HTl.o];omega) ?_;intro g cap' w3 hown hgr;obtain⟨hW4,hB4⟩:=HF2b.o.2.2.growT hgr hown;have hc3:=aP HF2b.o.2.2.t hgr HF2b.o.2.2.w (by decide);have v3:=hc3.cell 3 rfl;have yv:=hc3.frozen 3;have hl3:=hc3.lt)
    have HF9:=aA (show aB _ W.heap.size 26 _/\aB _ (W.heap.size+1) 26 bZ/\Wt W _ b _ _ _ _ _ _ from⟨lG HF2b.o.1 (by have:=HBe.o;omega) hB4,lG HF2b.o.2.1 (by have:=HBe.o;omega) hB4,hW4⟩)
    clear hown hgr hW4 hB4 hc3
    go_wp2_with fail
    go_roundw
    case rel=>exact⟨k+1,M++Q,T++[z],_,_,by omega,by go_num,HZ,aA (by simp[HTl.o]),HF9⟩
    case measure=>simp[intOf];omega
   ·obtain⟨ta,tc,rfl,-⟩:=HF.o.2.2.ints
    have HF2:=aA (show aB V2 W.heap.size 26 _/\aB V2 (W.heap.size+1) 26 bZ/\Wt W V2 b _ _ _ _ _ T from⟨HF1.o.1.below h3,HF1.o.2.1.below h3,HF1.o.2.2.below h3⟩)
    have HC2:=aA (HC1.o.below h3)
    obtain⟨ta',tc',e',hI⟩:=HF2.o.2.2.ints
    cases e'
    have HTh:=aA (Fld.fP q hI)
    obtain⟨z,hz⟩:∃ z:Int,(M.length:Int)=z:=⟨_,rfl⟩
    have HZ:=aA (HN.o z h1 hz)
    have HMl:=aA hz
    obtain⟨e0,e1,e2,e3,e4,e5⟩:=aJ HC2.o
    have tcl0:=HF2.o.2.2.w.cell 3 rfl
    clear h1 h3 hz hI HY HN
    generalize bW q T=u at *
    go_wp2_with fail
    refine HTh.o.mono ?_
    rintro e V3 ⟨rfl,hb⟩
    have HF3:=aA (show aB V3 W.heap.size 26 _/\aB V3 (W.heap.size+1) 26 bZ/\Wt W V3 b _ _ _ _ _ T from⟨HF2.o.1.below hb,HF2.o.2.1.below hb,HF2.o.2.2.below hb⟩)
    have HU:=aA (kX u HF3.o.2.2 HMl.o (by have:=HMk.o;omega))
    clear hb HTh e0 e1 e2 e3 e4 e5 tcl0
    go_wp2_with fail
    refine HU.o.mono ?_
    rintro e V4 ⟨rfl,⟨mv4,h3⟩,h4,-⟩
    have HF4:=aA (show aB V4 W.heap.size 26 _/\aB V4 (W.heap.size+1) 26 bZ/\Wt W V4 b _ _ _ _ _ T from⟨lG HF3.o.1 (by have:=HBe.o;omega) h4,lG HF3.o.2.1 (by have:=HBe.o;omega) h4,h3⟩)
    clear h3 h4 HU
    have HF4b:=aA (show aB (V4.alloc (.cells #[.int .i64 z] 3)) W.heap.size 26 _/\aB (V4.alloc (.cells #[.int .i64 z] 3)) (W.heap.size+1) 26 bZ/\Wt W (V4.alloc (.cells #[.int .i64 z] 3)) b _ _ _ _ _ T from⟨HF4.o.1.below (aC V4 (.cells #[.int .i64 z] 3)),HF4.o.2.1.below (aC V4 (.cells #[.int .i64 z] 3)),HF4.o.2.2.below (aC V4 (.cells #[.int .i64 z] 3))⟩)
    have HN9:=aA (aB.new V4 3 #[.int .i64 z])
    have tcl:=HF4.o.2.2.w.cell 3 rfl
    have hbl:=HF4.o.2.2.w.lt
    go_wp2_with (at_builtin;refine gH rfl _ _ rfl rfl HF4b.o.2.2.t HF4b.o.2.2.le _ z rfl HN9.o (by rw[HTl.o];omega) ?_;intro g cap' w3 hown hgr;obtain⟨hW4,hB4⟩:=HF4b.o.2.2.growT hgr hown;have hc3:=aP HF4b.o.2.2.t hgr HF4b.o.2.2.w (by decide);have v3:=hc3.cell 3 rfl;have yv:=hc3.frozen 3;have hl3:=hc3.lt)
    have HF9:=aA (show aB _ W.heap.size 26 _/\aB _ (W.heap.size+1) 26 bZ/\Wt W _ b _ _ _ _ _ _ from⟨lG HF4b.o.1 (by have:=HBe.o;omega) hB4,lG HF4b.o.2.1 (by have:=HBe.o;omega) hB4,hW4⟩)
    clear hown hgr hW4 hB4 hc3
    go_wp2_with fail
    go_roundw
    case rel=>exact⟨k+1,M++[u],T++[z],_,_,by omega,by go_num,HZ,aA (by simp[HTl.o]),HF9⟩
    case measure=>simp[intOf];omega
  ·obtain rfl:k=n:=by omega
   have hM:=HM.o
   rw[List.take_of_length_le (by rw[HLn.o];exact Nat.le_refl _)] at hM
   obtain⟨ma,mc,rfl,-,-⟩:=Ins.of_owns HF.o.2.2.m
   obtain⟨j,gt,ct,ej,hj,htl,rfl,ct0⟩:=HF.o.2.2.reg (r:=(o:Int)) ⟨by omega,by have:=HTl.o;omega⟩
   obtain rfl:o=j:=by omega
   obtain⟨z,hz⟩:∃ z,gv T (o:Int)=z:=⟨_,rfl⟩
   rw[hz] at ct0
   have HR:Hid ((uE L S L).1=M/\(uE L S L).2.getD ((o:Int)).toNat 0=z):=aA (by rw[hM];exact⟨rfl,hz⟩)
   obtain⟨c0,c1,c2,c3⟩:=aD HF.o.1
   obtain⟨p0,p1,p2,p3⟩:=aD HF.o.2.1
   have hf0:=HF.o.2.1.frozen 0
   have hf1:=HF.o.2.1.frozen 1
   have hf2:=HF.o.2.1.frozen 2
   have hf3:=HF.o.2.1.frozen 3
   have t2:=HF.o.2.2.w.cell 2 rfl
   have t3:=HF.o.2.2.w.cell 3 rfl
   have hw0:W.heap.size < V.heap.size:=HF.o.1.lt
   have hw1:W.heap.size+1 < V.heap.size:=HF.o.2.1.lt
   have hw2:b < V.heap.size:=HF.o.2.2.w.lt
   have i0':(0:Int)<=o:=by omega
   obtain⟨tl,htl'⟩:∃ tl,T.length=tl:=⟨_,rfl⟩
   rw[htl'] at t3 hj htl
   obtain⟨ml,hml⟩:∃ ml,M.length=ml:=⟨_,rfl⟩
   rw[hml] at t2 HF
   have HMl:=aA hml
   have i1':(o:Int) < tl:=by omega
   clear hz hM HM HOk HSu ej htl' hml HFew HSw HLw HSI
   go_wp2_with fail
   go_region
   have hq:(Value.slice ma ml mc).ownBlock≠some (W.heap.size+1):=own_ne HF.o.2.2.m HF.o.2.1 (by decide)
   have HO5:=aA (((((HF.o.2.1.set 0 (.int .i64 f)).set 1 (.int .i64 d)).set 2 (.slice ma ml mc)).set 3 (.int .i64 z)).below (aF _))
   have HM5:=aA ((ownsRow_setCell_other (ownsRow_setCell_other (ownsRow_setCell_other (ownsRow_setCell_other (Cde.cO HF.o.2.2.m HF.o.2.2.hb) (a:=⟨W.heap.size+1,0,none⟩) hq (.int .i64 f)) (a:=⟨W.heap.size+1,1,none⟩) hq (.int .i64 d)) (a:=⟨W.heap.size+1,2,none⟩) hq (.slice ma ml mc)) (a:=⟨W.heap.size+1,3,none⟩) hq (.int .i64 z)).drew)
   have HB5:=aA (((((HF.o.2.2.lo.setCell (p:=⟨W.heap.size+1,0,none⟩) (by simp) (.int .i64 f)).setCell (p:=⟨W.heap.size+1,1,none⟩) (by simp) (.int .i64 d)).setCell (p:=⟨W.heap.size+1,2,none⟩) (by simp) (.slice ma ml mc)).setCell (p:=⟨W.heap.size+1,3,none⟩) (by simp) (.int .i64 z)).drew)
   obtain⟨V5,hV5⟩:∃ V5,((((V.setCell ⟨W.heap.size+1,0,none⟩ (.int .i64 f)).setCell ⟨W.heap.size+1,1,none⟩ (.int .i64 d)).setCell ⟨W.heap.size+1,2,none⟩ (.slice ma ml mc)).setCell ⟨W.heap.size+1,3,none⟩ (.int .i64 z)).drew=V5:=⟨_,rfl⟩
   rw[hV5] at HO5 HM5 HB5 ⊢
   obtain⟨x0,x1,x2,x3⟩:=aD HO5.o
   rw[HMl.o] at HM5
   clear hV5 c0 c1 c2 c3 p0 p1 p2 p3 hf0 hf1 hf2 hf3 t2 t3 ct0 hq
   go_wp2_with fail
   exact bodyPost_ret (v:=.agg (cd f d ma ml mc z)) (by simp[results,Tryz.results160,go_sem,x0,x1,x2,x3]) rfl ⟨ma,ml,mc,by rw[HR.o.1];exact HMl.o,by rw[HR.o.2],by rw[HR.o.1];exact HM5.o,HB5.o⟩
end Go.Proofs.Rdc
