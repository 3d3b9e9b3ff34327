import Derived.Test.YtijbmdmeiancgaaGreatXH
import Derived.Test.YtijbmdmeiancgaaGreatX34
import Derived.Test.YtijbmdmeiancgaaGreatX23
import Derived.Test.YtijbmdmeiancgaaGreatX20
set_option maxRecDepth 100000
set_option maxHeartbeats 32000000
set_option linter.unusedVariables false
namespace Go.Proofs.Rdc
open Go.RowKit Go.IntWalk Knd
open Cde (In i0 ia kd cd Ins kM aJ aG bB aL bJ eO aD bG i6 zA aM)
open Vfy (bL kN kK eH w32)
open Fld (bO rg gv ar fA)
variable {V W:World} {b sc sn:Nat} {mv tv wv:Value} {M:List In} {T:List Int} {sa:Option Addr} {hi lo:Int}
theorem Wt.at {W V:World}{b gt ct j:Nat}{wv sv mv:Value}{M:List In}{T:List Int}(h:Wt W V b wv sv mv (.slice (some ⟨gt,0,none⟩) T.length ct) M T)(hj:j < T.length):V.cell? ⟨gt,j,none⟩=some (.int .i64 (T.getD j 0)):=by
 obtain⟨a,c,e,hI⟩:=h.ints
 cases e
 obtain⟨b',off,e',-,hat⟩:=hI.at (by omega)
 cases e'
 have c0:=hat j hj
 rw[Nat.zero_add] at c0
 exact c0
theorem nE.mono {V0 V':World}{sv:Value}{o:Option (List In)}{e:Ending}(h:nE W V b wv sv tv M T o e V')(hb:b<=V0.heap.size)(hB:Below V0.heap.size V0 V):nE W V0 b wv sv tv M T o e V':=by
 rcases h with⟨Q,h1,h2,h3,h4⟩|⟨h1,h2,h3⟩
 ·exact .inl ⟨Q,h1,h2,h3,(bQ hb hB).trans h4⟩
 ·exact .inr ⟨h1,h2,bel hB h3⟩
theorem yC (r d:Int){S:eH}(h:Wt W V b wv (.slice sa sn sc) mv tv M T)(hS:Spn.Spans W sa sn sc S)(hT:T.length<=sn)(hM:M.length<=1000000)(hr:bO r T.length)(hs:S.getD r.toNat (0,0)=(lo,hi))(hw:Wh lo hi) :
  Calls Tryz.prog 166 #[.pointer (some ⟨b,0,none⟩),.int .i64 r,.int .i64 d] V (nE W V b wv (.slice sa sn sc) tv M T (rH lo hi (gv T r) d M.length)):=by
 have HP:=aC (pF d V)
 have HMu:=aC (aHe r d h hS hT hM hr hs hw)
 have HSh:=aC fun(n:Nat) (hn:n<=30)=>zD r n hn h hS hT hM hr hs hw
 by_cases hn:0 < oW d
 ·obtain⟨n,n1,n2,n3⟩:∃ n:Nat,n<=30/\oW d=n/\d=2 ^ n:=by
   rcases kJ d with e|e
   ·omega
   ·exact e
  rw[aL8 hn n2 n3]
  have HS2:=aC (HSh.o n n1)
  rw[n2] at HP hn
  have q:decide ((0:Int) < n)=true:=by simpa using hn
  have q2:decide (0 < n)=true:=by simp;omega
  generalize shL lo hi (gv T r) n M.length=O at *
  clear h hS hT hM hr hs hw HMu HSh n1 n2 n3
  go_enter Tryz.func166,Tryz.ntmps166
  go_wp2_with fail
  refine HP.o.mono ?_
  rintro e w' ⟨rfl,rfl⟩
  go_wp2_with fail
  refine HS2.o.mono ?_
  rintro e V2 hQ
  have HQ:=aC hQ
  rcases hQ with⟨Q,-,rfl,-,-⟩|⟨-,rfl,-⟩
  ·obtain⟨z,hz⟩:∃ z:Int,((M.length+Q.length:Nat):Int)-1=z:=⟨_,rfl⟩
   rw[hz] at HQ ⊢
   clear hz
   go_wp2_with fail
   exact bodyPost_ret (v:=.tuple #[.int .i64 z,.bool true]) (by simp[results,Tryz.results166,go_sem]) rfl (HQ.o)
  ·go_wp2_with fail
   exact bodyPost_ret (v:=.tuple #[.int .i64 0,.bool false]) (by simp[results,Tryz.results166,go_sem]) rfl (HQ.o)
 ·rw[aNs hn]
  have q:decide (0 < oW d)=false:=by simpa using hn
  generalize muL lo hi (gv T r) d M.length=O at *
  generalize oW d=p at *
  clear h hS hT hM hr hs hw HSh hn
  go_enter Tryz.func166,Tryz.ntmps166
  go_wp2_with fail
  refine HP.o.mono ?_
  rintro e w' ⟨rfl,rfl⟩
  go_wp2_with fail
  refine HMu.o.mono ?_
  rintro e V2 hQ
  have HQ:=aC hQ
  rcases hQ with⟨Q,-,rfl,-,-⟩|⟨-,rfl,-⟩
  ·obtain⟨z,hz⟩:∃ z:Int,((M.length+Q.length:Nat):Int)-1=z:=⟨_,rfl⟩
   rw[hz] at HQ ⊢
   clear hz
   go_wp2_with fail
   exact bodyPost_ret (v:=.tuple #[.int .i64 z,.bool true]) (by simp[results,Tryz.results166,go_sem]) rfl (HQ.o)
  ·go_wp2_with fail
   exact bodyPost_ret (v:=.tuple #[.int .i64 0,.bool false]) (by simp[results,Tryz.results166,go_sem]) rfl (HQ.o)
theorem pW {x d m:Int}{Q:List In}(h:rH lo hi x d m=some Q):Q.length<=4:=by
 unfold rH at h
 repeat' split at h
 all_goals first|(cases h;simp;done)|cases h
theorem aG6 (r d:Int)(hd:w32 d){S:eH}(h:Wt W V b wv (.slice sa sn sc) mv tv M T)(hS:Spn.Spans W sa sn sc S)(hT:T.length<=sn)(hM:M.length<=1000000)(hr:bO r T.length)(hs:S.getD r.toNat (0,0)=(lo,hi))(hw:Wh lo hi) :
  Calls Tryz.prog 167 #[.pointer (some ⟨b,0,none⟩),.int .i64 r,.int .i64 d] V (nE W V b wv (.slice sa sn sc) tv M T (if 0 < oW d/\0<=lo then some [⟨31,gv T r,0,0,d-1,0⟩] else(rH lo hi (gv T r) d M.length).map fun Q=>Q++[nY (M.length+Q.length-1) d,⟨9,gv T r,M.length+Q.length,0,0,0⟩])):=by
 have HF0:=aC h
 have HP:=aC fun(w:World)=>pF d w
 have HQu:=aC (yC r d h hS hT hM hr hs hw)
 have HM:=aC hM
 obtain⟨w1,w2,w3,w4,w5⟩:=hw
 obtain⟨d1,d2⟩:=hd
 obtain⟨j,gt,ct,rfl,hj,htl,rfl,ct0⟩:=h.reg hr
 have HJ:=aC hj
 have hxe:gv T (j:Int)=T.getD j 0:=rfl
 rw[hxe] at ct0 HQu ⊢
 obtain⟨x,hx⟩:∃ x,T.getD j 0=x:=⟨_,rfl⟩
 rw[hx] at ct0 HQu ⊢
 have HX:=aC hx
 have hg1:=h.w.cell 1 rfl
 have hg3:=h.w.cell 3 rfl
 obtain⟨gs,off,rfl,hgs,hsc⟩:=(hS.later h.lo).at (by omega)
 obtain⟨c0,c1⟩:=hsc j (by omega)
 rw[Int.toNat_natCast] at hs
 rw[hs] at c0 c1
 dsimp only at c0 c1
 have hsn:=hS.le
 have hsn2:=hS.max
 unfold maxLen at hsn2
 have i0':(0:Int)<=j:=by omega
 have i1':(j:Int) < sn:=by omega
 obtain⟨tl,htl'⟩:∃ tl,T.length=tl:=⟨_,rfl⟩
 rw[htl'] at hg3 htl
 have HTl:=aC htl'
 have i2':(j:Int) < tl:=by omega
 obtain⟨D,hD⟩:∃ D,rH lo hi x d M.length=D:=⟨_,rfl⟩
 have HDl:Hid (∀ Q,D=some Q->Q.length<=4):=aC fun Q hq=>pW (hD.trans hq)
 rw[hD] at HQu ⊢
 clear hx hxe h hS hT hM hr hs hsc hj hD htl'
 obtain⟨p,hp⟩:∃ p,oW d=p:=⟨_,rfl⟩
 rw[hp] at HP ⊢
 clear hp
 by_cases h1:0 < p/\0<=lo
 ·rw[if_pos h1]
  have q1:decide (0 < p)=true:=by simpa using h1.1
  have q2:decide (0<=lo)=true:=by simpa using h1.2
  obtain⟨m,hm⟩:∃ m:Int,(M.length:Int)=m:=⟨_,rfl⟩
  have HU:=aC (kU ⟨31,x,0,0,d-1,0⟩ HF0.o hm (by have:=HM.o;omega))
  have HMl:=aC hm
  have HMn:Hid (((M.length+1:Nat):Int)-1=m):=aC (by omega)
  clear h1 hm HQu
  go_enter Tryz.func167,Tryz.ntmps167
  go_wp2_with fail
  refine(HP.o _).mono ?_
  rintro e w' ⟨rfl,rfl⟩
  go_wp2_with fail
  refine HU.o.mono ?_
  rintro e V2 ⟨rfl,hw,hb,-⟩
  go_wp2_with fail
  exact bodyPost_ret (v:=.tuple #[.int .i64 m,.bool true]) (by simp[results,Tryz.results167,go_sem]) rfl (nE.many _ rfl HMn.o hw hb)
 ·rw[if_neg h1]
  have hno:decide (0 < p)=false\/(decide (0 < p)=true/\decide (0<=lo)=false):=by
   by_cases h2:0 < p
   ·exact .inr ⟨by simpa using h2,by simp;omega⟩
   ·exact .inl (by simpa using h2)
  clear h1
  have HTm:=aC fun(q:Int) (V2:World) (M2:List In) (mv2:Value) (h2:Wt W V2 b wv (.slice (some ⟨gs,off,none⟩) sn sc) mv2 (.slice (some ⟨gt,0,none⟩) T.length ct) M2 T) (hl:M2.length<=2000000)=>pO q d h2 hl
  rcases hno with hno|⟨hno,hno2⟩
  all_goals
   go_enter Tryz.func167,Tryz.ntmps167
   go_wp2_with fail
   refine(HP.o _).mono ?_
   rintro e w' ⟨rfl,rfl⟩
   go_wp2_with fail
   refine HQu.o.mono ?_
   clear HP HQu hg1 hg3 c0 c1 ct0
   rintro e V2 (⟨Q,h1,rfl,⟨mv2,h3⟩,h4⟩|⟨h1,rfl,h3⟩)
   ·obtain⟨z,hz⟩:∃ z:Int,((M.length+Q.length:Nat):Int)-1=z:=⟨_,rfl⟩
    rw[hz]
    have HO:=aC h1
    have HZ:=aC hz
    obtain⟨z1,hz1⟩:∃ z1:Int,((M++Q).length:Int)=z1:=⟨_,rfl⟩
    have HQl:Hid (Q.length<=4):=aC (HDl.o Q h1)
    have HT2:=aC (HTm.o z V2 (M++Q) mv2 h3 (by have:=HM.o;have:=HQl.o;simp;omega))
    rw[hz1] at HT2
    have HZ1:=aC hz1
    have HF2:=aC h3
    have HL2:=aC h4
    have hg0:=h3.w.cell 3 rfl
    rw[HTl.o] at hg0
    clear h1 h3 h4 hz hz1 HTm
    go_wp2_with fail
    refine HT2.o.mono ?_
    rintro e V3 ⟨rfl,⟨mv3,h3⟩,h4⟩
    obtain⟨z2,hz2⟩:∃ z2:Int,((M++Q++[nY z d]).length:Int)=z2:=⟨_,rfl⟩
    have HU:=aC (kU ⟨9,x,z1,0,0,0⟩ h3 hz2 (by have:=HM.o;have:=HQl.o;simp;omega))
    have ct1:=h3.at HJ.o
    rw[HX.o] at ct1
    have hg4:=h3.w.cell 3 rfl
    rw[HTl.o] at hg4
    have HL3:=aC (HL2.o.trans h4)
    have HZ2:=aC hz2
    clear h3 h4 hz2 HT2 hg0
    go_wp2_with fail
    refine HU.o.mono ?_
    rintro e V4 ⟨rfl,⟨mv4,h3⟩,h4,-⟩
    have HF4:=aC h3
    have HL4:=aC (HL3.o.trans h4)
    clear h3 h4 HU ct1 hg4
    go_wp2_with fail
    refine bodyPost_ret (v:=.tuple #[.int .i64 z2,.bool true]) (by simp[results,Tryz.results167,go_sem]) rfl (nE.many (Q++[nY z d,⟨9,x,z1,0,0,0⟩]) ?_ ?_ ⟨mv4,by simpa using HF4.o⟩ HL4.o)
    ·rw[HO.o]
     have e1:=HZ.o
     have e2:=HZ1.o
     have e3:(M.length:Int)+Q.length-1=z:=by omega
     have e4:(M.length:Int)+Q.length=z1:=by rw[List.length_append] at e2;omega
     show some (Q++[nY ((M.length:Int)+Q.length-1) d,⟨9,x,(M.length:Int)+Q.length,0,0,0⟩])=_
     rw[e3,e4]
    ·have e2:=HZ2.o
     simp at e2 ⊢
     omega
   ·have HO:=aC h1
    have HB:=aC h3
    clear h1 h3
    go_wp2_with fail
    exact bodyPost_ret (v:=.tuple #[.int .i64 0,.bool false]) (by simp[results,Tryz.results167,go_sem]) rfl (nE.no (by rw[HO.o];rfl) HB.o)
theorem aDe (n:In){wa:Option Addr}{wn wc:Nat}{L:List In}{S:eH}(h:Wt W V b (.slice wa wn wc) (.slice sa sn sc) mv tv M T)(hL:Ins W wa wn wc L)(hS:Spn.Spans W sa sn sc S)(hTw:T.length<=wn)(hTs:T.length<=sn)(hM:M.length<=1000000)(hok:bJ n T.length=true)
  (hSw:∀ r,bO r T.length->Wh (S.getD r.toNat (0,0)).1 (S.getD r.toNat (0,0)).2) (hLw:∀ r,bO r T.length->(rg L r).op=1->w32 (rg L r).k) :
  Calls Tryz.prog 136 #[.pointer (some ⟨b,0,none⟩),.agg (ia n)] V (nE W V b (.slice wa wn wc) (.slice sa sn sc) tv M T (kF L S T n M.length)):=by
 have HF0:=aC (h.below (aH V (.cells (ia n) 57)))
 have HC0:=aC (aI.new V 57 (ia n))
 have HB0:=aC (aH V (.cells (ia n) 57))
 have HLe:=aC h.le
 have two:ar n.op=2->bO n.a T.length/\bO n.b T.length:=fun e=>⟨Fld.jR hok (by rw[fA e];simp),Fld.jR hok (by rw[fA e];simp)⟩
 by_cases h10:n.op=10
 ·obtain⟨ha,hb⟩:=two (by rw[h10];decide)
  clear two
  unfold kF
  rw[if_pos h10]
  have HU:=aC (yF n HF0.o hL hTw hM ha hb)
  have t10:(n.op==10)=true:=by simpa using h10
  obtain⟨b0,b1,b2,b3,b4,b5⟩:=aJ HC0.o
  obtain⟨O,hO⟩:∃ O,(if (rg L n.b).op=1 then some [nY (gv T n.a) (rg L n.b).k] else if (rg L n.a).op=1 then some [nY (gv T n.b) (rg L n.a).k] else none)=O:=⟨_,rfl⟩
  rw[hO] at HU ⊢
  clear hO
  clear h hL hS hTw hTs hM hok hSw hLw ha hb h10
  go_enter Tryz.func136,Tryz.ntmps136
  go_wp2_with fail
  refine HU.o.mono ?_
  clear HU b0 b1 b2 b3 b4 b5
  rintro e V2 hQ0
  have hQ:=hQ0.mono HLe.o HB0.o
  clear hQ0
  have HQ:=aC hQ
  rcases hQ with⟨Q,-,rfl,-,-⟩|⟨-,rfl,-⟩
  ·obtain⟨z,hz⟩:∃ z:Int,((M.length+Q.length:Nat):Int)-1=z:=⟨_,rfl⟩
   rw[hz] at HQ ⊢
   clear hz
   go_wp2_with fail
   exact bodyPost_ret (v:=.tuple #[.int .i64 z,.bool true]) (by simp[results,Tryz.results136,go_sem]) rfl (HQ.o)
  ·go_wp2_with fail
   exact bodyPost_ret (v:=.tuple #[.int .i64 0,.bool false]) (by simp[results,Tryz.results136,go_sem]) rfl (HQ.o)
 by_cases h15:n.op=15
 ·obtain⟨ha,hb⟩:=two (by rw[h15];decide)
  clear two
  unfold kF
  rw[if_neg h10,if_pos h15]
  have HU:=aC (aGl n HF0.o hL hTw hM ha hb)
  have t10:(n.op==10)=false:=by simpa using h10
  have t15:(n.op==15)=true:=by simpa using h15
  obtain⟨b0,b1,b2,b3,b4,b5⟩:=aJ HC0.o
  obtain⟨O,hO⟩:∃ O,(if (rg L n.b).op=1/\0<=(rg L n.b).k then some [(⟨31,gv T n.a,0,0,(rg L n.b).k,0⟩:In)] else if (rg L n.a).op=1/\0<=(rg L n.a).k then some [⟨31,gv T n.b,0,0,(rg L n.a).k,0⟩] else none)=O:=⟨_,rfl⟩
  rw[hO] at HU ⊢
  clear hO
  clear h hL hS hTw hTs hM hok hSw hLw ha hb h10 h15
  go_enter Tryz.func136,Tryz.ntmps136
  go_wp2_with fail
  refine HU.o.mono ?_
  clear HU b0 b1 b2 b3 b4 b5
  rintro e V2 hQ0
  have hQ:=hQ0.mono HLe.o HB0.o
  clear hQ0
  have HQ:=aC hQ
  rcases hQ with⟨Q,-,rfl,-,-⟩|⟨-,rfl,-⟩
  ·obtain⟨z,hz⟩:∃ z:Int,((M.length+Q.length:Nat):Int)-1=z:=⟨_,rfl⟩
   rw[hz] at HQ ⊢
   clear hz
   go_wp2_with fail
   exact bodyPost_ret (v:=.tuple #[.int .i64 z,.bool true]) (by simp[results,Tryz.results136,go_sem]) rfl (HQ.o)
  ·go_wp2_with fail
   exact bodyPost_ret (v:=.tuple #[.int .i64 0,.bool false]) (by simp[results,Tryz.results136,go_sem]) rfl (HQ.o)
 by_cases h13:n.op=13
 ·obtain⟨ha,hb⟩:=two (by rw[h13];decide)
  clear two
  unfold kF
  rw[if_neg h10,if_neg h15,if_pos h13]
  have HU:=aC (vB n 29 HF0.o hL hTw hM ha hb)
  have t10:(n.op==10)=false:=by simpa using h10
  have t15:(n.op==15)=false:=by simpa using h15
  have t13:(n.op==13)=true:=by simpa using h13
  obtain⟨b0,b1,b2,b3,b4,b5⟩:=aJ HC0.o
  obtain⟨O,hO⟩:∃ O,(if (rg L n.b).op=1 then some [(⟨29,gv T n.a,0,0,(rg L n.b).k,0⟩:In)] else none)=O:=⟨_,rfl⟩
  rw[hO] at HU ⊢
  clear hO
  clear h hL hS hTw hTs hM hok hSw hLw ha hb h10 h15 h13
  go_enter Tryz.func136,Tryz.ntmps136
  go_wp2_with fail
  refine HU.o.mono ?_
  clear HU b0 b1 b2 b3 b4 b5
  rintro e V2 hQ0
  have hQ:=hQ0.mono HLe.o HB0.o
  clear hQ0
  have HQ:=aC hQ
  rcases hQ with⟨Q,-,rfl,-,-⟩|⟨-,rfl,-⟩
  ·obtain⟨z,hz⟩:∃ z:Int,((M.length+Q.length:Nat):Int)-1=z:=⟨_,rfl⟩
   rw[hz] at HQ ⊢
   clear hz
   go_wp2_with fail
   exact bodyPost_ret (v:=.tuple #[.int .i64 z,.bool true]) (by simp[results,Tryz.results136,go_sem]) rfl (HQ.o)
  ·go_wp2_with fail
   exact bodyPost_ret (v:=.tuple #[.int .i64 0,.bool false]) (by simp[results,Tryz.results136,go_sem]) rfl (HQ.o)
 by_cases h14:n.op=14
 ·obtain⟨ha,hb⟩:=two (by rw[h14];decide)
  clear two
  unfold kF
  rw[if_neg h10,if_neg h15,if_neg h13,if_pos h14]
  have HU:=aC (vB n 30 HF0.o hL hTw hM ha hb)
  have t10:(n.op==10)=false:=by simpa using h10
  have t15:(n.op==15)=false:=by simpa using h15
  have t13:(n.op==13)=false:=by simpa using h13
  have t14:(n.op==14)=true:=by simpa using h14
  obtain⟨b0,b1,b2,b3,b4,b5⟩:=aJ HC0.o
  obtain⟨O,hO⟩:∃ O,(if (rg L n.b).op=1 then some [(⟨30,gv T n.a,0,0,(rg L n.b).k,0⟩:In)] else none)=O:=⟨_,rfl⟩
  rw[hO] at HU ⊢
  clear hO
  clear h hL hS hTw hTs hM hok hSw hLw ha hb h10 h15 h13 h14
  go_enter Tryz.func136,Tryz.ntmps136
  go_wp2_with fail
  refine HU.o.mono ?_
  clear HU b0 b1 b2 b3 b4 b5
  rintro e V2 hQ0
  have hQ:=hQ0.mono HLe.o HB0.o
  clear hQ0
  have HQ:=aC hQ
  rcases hQ with⟨Q,-,rfl,-,-⟩|⟨-,rfl,-⟩
  ·obtain⟨z,hz⟩:∃ z:Int,((M.length+Q.length:Nat):Int)-1=z:=⟨_,rfl⟩
   rw[hz] at HQ ⊢
   clear hz
   go_wp2_with fail
   exact bodyPost_ret (v:=.tuple #[.int .i64 z,.bool true]) (by simp[results,Tryz.results136,go_sem]) rfl (HQ.o)
  ·go_wp2_with fail
   exact bodyPost_ret (v:=.tuple #[.int .i64 0,.bool false]) (by simp[results,Tryz.results136,go_sem]) rfl (HQ.o)
 by_cases h11:n.op=11
 ·obtain⟨ha,hb⟩:=two (by rw[h11];decide)
  clear two
  unfold kF
  rw[if_neg h10,if_neg h15,if_neg h13,if_neg h14,if_pos h11]
  have HNu:=aC (fQ n.b HF0.o hL ⟨hb.1,by have:=hb.2;omega⟩)
  have HU:=aC fun(V1:World) (h1:Wt W V1 b (.slice wa wn wc) (.slice sa sn sc) mv tv M T) (hw:w32 (rg L n.b).k)=>yC n.a (rg L n.b).k h1 hS hTs hM ha (lo:=(S.getD n.a.toNat (0,0)).1) (hi:=(S.getD n.a.toNat (0,0)).2) rfl (hSw n.a ha)
  have HW:=aC fun h1=>hLw n.b hb h1
  have t10:(n.op==10)=false:=by simpa using h10
  have t15:(n.op==15)=false:=by simpa using h15
  have t13:(n.op==13)=false:=by simpa using h13
  have t14:(n.op==14)=false:=by simpa using h14
  have t11:(n.op==11)=true:=by simpa using h11
  obtain⟨p,hp⟩:∃ p,rg L n.b=p:=⟨_,rfl⟩
  rw[hp] at HNu HU HW ⊢
  obtain⟨b0,b1,b2,b3,b4,b5⟩:=aJ HC0.o
  clear h hL hS hTw hTs hM hok hSw hLw ha hb hp h10 h15 h13 h14 h11
  by_cases h1:p.op=1
  ·rw[if_pos h1]
   obtain⟨O,hO⟩:∃ O,(rH (S.getD n.a.toNat (0,0)).1 (S.getD n.a.toNat (0,0)).2 (gv T n.a) p.k M.length)=O:=⟨_,rfl⟩
   rw[hO] at HU ⊢
   clear hO
   have HW2:=aC (HW.o h1)
   have q1:(p.op==1)=true:=by simpa using h1
   rw[q1] at HNu
   clear h1 q1
   go_enter Tryz.func136,Tryz.ntmps136
   go_wp2_with fail
   refine HNu.o.mono ?_
   rintro e V1 ⟨rfl,hb⟩
   have HF1:=aC (HF0.o.below hb)
   have HB1:=aC (bel HB0.o hb)
   have HU1:=aC (HU.o V1 HF1.o HW2.o)
   have hc1:=HC0.o.below hb
   clear b0 b1 b2 b3 b4 b5 hb HNu HU
   obtain⟨b0,b1,b2,b3,b4,b5⟩:=aJ hc1
   clear hc1
   go_wp2_with fail
   refine HU1.o.mono ?_
   clear HU1 b0 b1 b2 b3 b4 b5
   rintro e V2 hQ0
   have hQ:=hQ0.mono HLe.o HB1.o
   clear hQ0
   have HQ:=aC hQ
   rcases hQ with⟨Q,-,rfl,-,-⟩|⟨-,rfl,-⟩
   ·obtain⟨z,hz⟩:∃ z:Int,((M.length+Q.length:Nat):Int)-1=z:=⟨_,rfl⟩
    rw[hz] at HQ ⊢
    clear hz
    go_wp2_with fail
    exact bodyPost_ret (v:=.tuple #[.int .i64 z,.bool true]) (by simp[results,Tryz.results136,go_sem]) rfl (HQ.o)
   ·go_wp2_with fail
    exact bodyPost_ret (v:=.tuple #[.int .i64 0,.bool false]) (by simp[results,Tryz.results136,go_sem]) rfl (HQ.o)
  ·rw[if_neg h1]
   have q1:(p.op==1)=false:=by simpa using h1
   rw[q1] at HNu
   clear h1 q1
   go_enter Tryz.func136,Tryz.ntmps136
   go_wp2_with fail
   refine HNu.o.mono ?_
   rintro e V1 ⟨rfl,hb⟩
   have HB1:=aC (bel HB0.o hb)
   clear hb HNu HU
   go_wp2_with fail
   exact bodyPost_ret (v:=.tuple #[.int .i64 0,.bool false]) (by simp[results,Tryz.results136,go_sem]) rfl (nE.no rfl HB1.o)
 by_cases h12:n.op=12
 ·obtain⟨ha,hb⟩:=two (by rw[h12];decide)
  clear two
  unfold kF
  rw[if_neg h10,if_neg h15,if_neg h13,if_neg h14,if_neg h11,if_pos h12]
  have HNu:=aC (fQ n.b HF0.o hL ⟨hb.1,by have:=hb.2;omega⟩)
  have HU:=aC fun(V1:World) (h1:Wt W V1 b (.slice wa wn wc) (.slice sa sn sc) mv tv M T) (hw:w32 (rg L n.b).k)=>aG6 n.a (rg L n.b).k hw h1 hS hTs hM ha (lo:=(S.getD n.a.toNat (0,0)).1) (hi:=(S.getD n.a.toNat (0,0)).2) rfl (hSw n.a ha)
  have HW:=aC fun h1=>hLw n.b hb h1
  have t10:(n.op==10)=false:=by simpa using h10
  have t15:(n.op==15)=false:=by simpa using h15
  have t13:(n.op==13)=false:=by simpa using h13
  have t14:(n.op==14)=false:=by simpa using h14
  have t11:(n.op==11)=false:=by simpa using h11
  have t12:(n.op==12)=true:=by simpa using h12
  obtain⟨p,hp⟩:∃ p,rg L n.b=p:=⟨_,rfl⟩
  rw[hp] at HNu HU HW ⊢
  obtain⟨b0,b1,b2,b3,b4,b5⟩:=aJ HC0.o
  clear h hL hS hTw hTs hM hok hSw hLw ha hb hp h10 h15 h13 h14 h11 h12
  by_cases h1:p.op=1
  ·rw[if_pos h1]
   obtain⟨O,hO⟩:∃ O,(if 0 < oW p.k/\0<=(S.getD n.a.toNat (0,0)).1 then some [(⟨31,gv T n.a,0,0,p.k-1,0⟩:In)] else(rH (S.getD n.a.toNat (0,0)).1 (S.getD n.a.toNat (0,0)).2 (gv T n.a) p.k M.length).map fun Q=>Q++[nY (M.length+Q.length-1) p.k,⟨9,gv T n.a,M.length+Q.length,0,0,0⟩])=O:=⟨_,rfl⟩
   rw[hO] at HU ⊢
   clear hO
   have HW2:=aC (HW.o h1)
   have q1:(p.op==1)=true:=by simpa using h1
   rw[q1] at HNu
   clear h1 q1
   go_enter Tryz.func136,Tryz.ntmps136
   go_wp2_with fail
   refine HNu.o.mono ?_
   rintro e V1 ⟨rfl,hb⟩
   have HF1:=aC (HF0.o.below hb)
   have HB1:=aC (bel HB0.o hb)
   have HU1:=aC (HU.o V1 HF1.o HW2.o)
   have hc1:=HC0.o.below hb
   clear b0 b1 b2 b3 b4 b5 hb HNu HU
   obtain⟨b0,b1,b2,b3,b4,b5⟩:=aJ hc1
   clear hc1
   go_wp2_with fail
   refine HU1.o.mono ?_
   clear HU1 b0 b1 b2 b3 b4 b5
   rintro e V2 hQ0
   have hQ:=hQ0.mono HLe.o HB1.o
   clear hQ0
   have HQ:=aC hQ
   rcases hQ with⟨Q,-,rfl,-,-⟩|⟨-,rfl,-⟩
   ·obtain⟨z,hz⟩:∃ z:Int,((M.length+Q.length:Nat):Int)-1=z:=⟨_,rfl⟩
    rw[hz] at HQ ⊢
    clear hz
    go_wp2_with fail
    exact bodyPost_ret (v:=.tuple #[.int .i64 z,.bool true]) (by simp[results,Tryz.results136,go_sem]) rfl (HQ.o)
   ·go_wp2_with fail
    exact bodyPost_ret (v:=.tuple #[.int .i64 0,.bool false]) (by simp[results,Tryz.results136,go_sem]) rfl (HQ.o)
  ·rw[if_neg h1]
   have q1:(p.op==1)=false:=by simpa using h1
   rw[q1] at HNu
   clear h1 q1
   go_enter Tryz.func136,Tryz.ntmps136
   go_wp2_with fail
   refine HNu.o.mono ?_
   rintro e V1 ⟨rfl,hb⟩
   have HB1:=aC (bel HB0.o hb)
   clear hb HNu HU
   go_wp2_with fail
   exact bodyPost_ret (v:=.tuple #[.int .i64 0,.bool false]) (by simp[results,Tryz.results136,go_sem]) rfl (nE.no rfl HB1.o)
 have hq:kF L S T n M.length=none:=by unfold kF;rw[if_neg h10,if_neg h15,if_neg h13,if_neg h14,if_neg h11,if_neg h12]
 rw[hq]
 obtain⟨b0,b1,b2,b3,b4,b5⟩:=aJ HC0.o
 have t10:(n.op==10)=false:=by simpa using h10
 have t15:(n.op==15)=false:=by simpa using h15
 have t13:(n.op==13)=false:=by simpa using h13
 have t14:(n.op==14)=false:=by simpa using h14
 have t11:(n.op==11)=false:=by simpa using h11
 have t12:(n.op==12)=false:=by simpa using h12
 clear h hL hS hTw hTs hM hok hSw hLw two hq h10 h15 h13 h14 h11 h12
 go_enter Tryz.func136,Tryz.ntmps136
 go_wp2_with fail
 exact bodyPost_ret (v:=.tuple #[.int .i64 0,.bool false]) (by simp[results,Tryz.results136,go_sem]) rfl (nE.no rfl HB0.o)
end Go.Proofs.Rdc
namespace Go.Proofs.Rdc
open Go.RowKit Go.IntWalk Knd
open Cde (In i0 ia kd cd Ins kM aJ aG bB aL bJ eO aD bG i6 zA aM)
open Vfy (bL kN kK pR eH w32)
open Fld (bO rg gv ar fA bS)
variable {L:List In}
theorem aL5 (L:List In)(S:eH)(T:List Int)(n:In)(m:Int):(rdW L S T n m).length<=6:=by
 unfold rdW
 cases hq:kF L S T n m with
 | none=>simp
 | some W =>
  show W.length<=6
  unfold kF at hq
  repeat' split at hq
  all_goals first
   | (cases hq;simp;done)
   | (have:=pW hq;omega)
   | (obtain⟨Q,hQ,rfl⟩:=Option.map_eq_some_iff.1 hq;have:=pW hQ;simp;omega)
   | cases hq
theorem aB6 (L:List In)(S:eH):∀ k,k<=L.length->(qX L S (L.take k)).1.length<=6*k
 | 0,_=>by simp[qX]
 | k+1,hk=>by
  have ih:=aB6 L S k (by omega)
  have:=aL5 L S (qX L S (L.take k)).2 (L.getD k i0) (qX L S (L.take k)).1.length
  rw[mJ S (by omega),rdS]
  show ((qX L S (L.take k)).1++_).length<=_
  rw[List.length_append]
  omega
theorem jI {V V':World}{b q:Nat}{t:TypeId}{cs:Array Value}(h:aI V q t cs)(hq:q < b)(hb:Below b V V'):aI V' q t cs:=(hb.block q hq).trans h
theorem aEt {S:eH}{M Q:List In}{T:List Int}{q:In}{z:Int}(h:kF L S T q M.length=some Q)(hz:((M.length+Q.length:Nat):Int)-1=z):rdS L S (M,T) q=(M++Q,T++[z]):=by
 subst hz
 have e:rdW L S T q M.length=Q:=by rw[rdW,h];rfl
 unfold rdS
 rw[e]
theorem aJo {S:eH}{M:List In}{T:List Int}{q:In}{z:Int}(h:kF L S T q M.length=none)(hz:(M.length:Int)=z):rdS L S (M,T) q=(M++[bS q T],T++[z]):=by
 subst hz
 have e:rdW L S T q M.length=[bS q T]:=by rw[rdW,h];rfl
 unfold rdS
 rw[e]
 simp
theorem rd_facts {f d:Int}{out:Int}(h:bL f d L out=0):1<=L.length/\L.length<=200/\0<=out/\out < L.length/\(pR f d L out).length=L.length/\eO L L.length=true/\(∀ r:Int,bO r L.length->Wh ((pR f d L out).getD r.toNat (0,0)).1 ((pR f d L out).getD r.toNat (0,0)).2)/\(∀ r,bO r L.length->(rg L r).op=1->w32 (rg L r).k):=by
 obtain⟨m,-,⟨S,hS,hSl,hs⟩,-⟩:=Vfy.aT h
 obtain⟨hm,m1,m2,o0,o1,hok⟩:=Cde.bD m
 refine⟨m1,m2,o0,o1,by rw[hs];exact hSl,hok,fun r hr=>?_,fun r hr ho=>?_⟩
 ·rw[hs]
  have hl:r.toNat < S.length:=by rw[hSl];exact hr.2
  have:=Vfy.wS hm hok L.length (Nat.le_refl _) S (by rw[List.take_length];exact hS) (S.getD r.toNat (0,0)) (by rw[List.getD_eq_getElem?_getD,List.getElem?_eq_getElem hl];exact List.getElem_mem _)
  exact Spn.bH.1 this
 ·obtain⟨V,-,hVl,hOd⟩:=aAk h (Fld.kP hm)
  rw[<-hOd.rv.num hr ho]
  exact hOd.w hr
theorem zK (f d out:Int){a:Option Addr}{n cap:Nat}{sa:Option Addr}{sn sc:Nat}{W:World}(hL:Ins W a n cap L)(h:bL f d L out=0)(hS:Spn.Spans W sa sn sc (pR f d L out)) :
  Calls Tryz.prog 109 #[.agg (cd f d a n cap out),.slice sa sn sc] W fun e W'=>∃ a' m c',(zX f d L out).length=m/\e=.returned (.agg (cd f d a' m c' (rdO f d L out)))/\W'.ownsRow W.heap.size 57 6 (.slice a' m c') m (bG (zX f d L out))/\Below W.heap.size W W':=by
 obtain⟨m1,m2,o0,o1,hsl,hok,hSw,hLw⟩:=rd_facts h
 have hsn:=hS.len
 unfold zX rdO
 obtain⟨S,hSe⟩:∃ S,pR f d L out=S:=⟨_,rfl⟩
 rw[hSe] at hsl hSw hS hsn ⊢
 rw[hL.len] at m1 m2 o1 hsl hok hSw hLw
 have hsn':n=sn:=by omega
 subst hsn'
 obtain⟨o,rfl⟩:∃ o:Nat,out=o:=⟨out.toNat,by omega⟩
 have HLI:=aC hL
 have HLn:=aC hL.len
 have HSI:=aC hS
 have HOk:=aC hok
 have HSu:=aC fun k (hk:k < n)=>mJ S (L:=L) (k:=k) (by rw[hL.len];exact hk)
 have HFew:=aC fun k (hk:k<=n)=>aB6 L S k (by rw[hL.len];exact hk)
 have HSw:=aC hSw
 have HLw:=aC hLw
 have HB0:Hid (aI (((W.alloc (.cells (cd f d a n cap (o:Int)) 26)).alloc (.cells bM 26)).alloc (.cells #[.slice a n cap,.slice sa n sc,.slice none 0 0,.slice none 0 0] 145)) W.heap.size 26 (cd f d a n cap (o:Int))/\aI (((W.alloc (.cells (cd f d a n cap (o:Int)) 26)).alloc (.cells bM 26)).alloc (.cells #[.slice a n cap,.slice sa n sc,.slice none 0 0,.slice none 0 0] 145)) (W.heap.size+1) 26 bM /\
   Wt W (((W.alloc (.cells (cd f d a n cap (o:Int)) 26)).alloc (.cells bM 26)).alloc (.cells #[.slice a n cap,.slice sa n sc,.slice none 0 0,.slice none 0 0] 145)) (W.heap.size+1+1) (.slice a n cap) (.slice sa n sc) (.slice none 0 0) (.slice none 0 0) [] []):=by
  have b1:=aH W (.cells (cd f d a n cap (o:Int)) 26)
  have b2:=bel b1 (aH _ (.cells bM 26))
  have b3:=bel b2 (aH _ (.cells #[.slice a n cap,.slice sa n sc,.slice none 0 0,.slice none 0 0] 145))
  have h3:=aI.new ((W.alloc (.cells (cd f d a n cap (o:Int)) 26)).alloc (.cells bM 26)) 145 #[.slice a n cap,.slice sa n sc,.slice none 0 0,.slice none 0 0]
  rw[World.size_alloc,World.size_alloc] at h3
  exact aC ⟨((aI.new W 26 (cd f d a n cap (o:Int))).alloc _).alloc _,(aL W (.cells (cd f d a n cap (o:Int)) 26) 26 bM).alloc _,h3,⟨rfl,.inl ⟨rfl,rfl⟩⟩,⟨rfl,.inl ⟨rfl,rfl⟩⟩,b3,by omega⟩
 clear hL h hS hok hSw hLw hsn hSe
 go_enter Tryz.func109,Tryz.ntmps109
 go_wp2_with fail
 obtain⟨b,hbe⟩:∃ b,W.heap.size+1+1=b:=⟨_,rfl⟩
 rw[hbe] at HB0 ⊢
 have HBe:=aC hbe
 clear hbe
 go_loopw [17] (fun i wr=>∃(k:Nat) (M:List In) (T:List Int) (mv tv:Value),k<=n/\i=.int .i64 k/\Hid (qX L S (L.take k)=(M,T))/\Hid (T.length=k)/\Hid (aI wr W.heap.size 26 (cd f d a n cap (o:Int))/\aI wr (W.heap.size+1) 26 bM/\Wt W wr b (.slice a n cap) (.slice sa n sc) mv tv M T)) (fun i _=>n-(intOf i).toNat)
 case atStart=>exact⟨0,[],[],_,_,Nat.zero_le _,rfl,aC rfl,aC rfl,HB0⟩
 case round =>
  obtain⟨k,M,T,mv,tv,hk,rfl,HM,HTl,HF⟩:=hrel
  rename World=>V
  clear HB0
  by_cases hlt:k < n
  ·obtain⟨gl,off,rfl,-,hat⟩:=(HLI.o.later HF.o.2.2.lo).at (by omega)
   obtain⟨e0,e1,e2,e3,e4,e5⟩:=hat k hlt
   clear hat
   have hi0:(0:Int)<=k:=by omega
   have hi1:(k:Int) < n:=by omega
   have hSu:=HSu.o k hlt
   have hfew:=HFew.o k (by omega)
   rw[HM.o] at hSu hfew
   have hfew2:M.length<=6*k:=hfew
   have hOk:=Cde.bW HOk.o hlt
   generalize L.getD k i0=q at *
   have HC1:=aC (aI.new V 57 (ia q))
   have HF1:=aC (show aI (V.alloc (.cells (ia q) 57)) W.heap.size 26 _/\aI (V.alloc (.cells (ia q) 57)) (W.heap.size+1) 26 bM/\Wt W (V.alloc (.cells (ia q) 57)) b _ _ _ _ _ T from⟨HF.o.1.below (aH V (.cells (ia q) 57)),HF.o.2.1.below (aH V (.cells (ia q) 57)),HF.o.2.2.below (aH V (.cells (ia q) 57))⟩)
   have hch:=aDe q HF1.o.2.2 HLI.o HSI.o (by rw[HTl.o];omega) (by rw[HTl.o];omega) (by omega) (by rw[HTl.o];exact hOk) (fun r hr=>HSw.o r ⟨hr.1,by have:=hr.2;have:=HTl.o;omega⟩) (fun r hr ho=>HLw.o r ⟨hr.1,by have:=hr.2;have:=HTl.o;omega⟩ ho)
   obtain⟨O,hO⟩:∃ O,kF L S T q M.length=O:=⟨_,rfl⟩
   rw[hO] at hch
   have HCh:=aC hch
   have HY:=aC fun Q z (h:O=some Q) hz=>hSu.trans (aEt (z:=z) (hO.trans h) hz)
   have HN:=aC fun z (h:O=none) hz=>hSu.trans (aJo (z:=z) (hO.trans h) hz)
   have HMk:Hid (M.length<=1200):=aC (by omega)
   clear hO hSu hOk hch hfew hfew2
   go_wp2_with fail
   refine HCh.o.mono ?_
   clear HCh e0 e1 e2 e3 e4 e5
   rintro e V2 (⟨Q,h1,rfl,⟨mv2,h3⟩,h4⟩|⟨h1,rfl,h3⟩)
   ·obtain⟨z,hz⟩:∃ z:Int,((M.length+Q.length:Nat):Int)-1=z:=⟨_,rfl⟩
    rw[hz]
    have HZ:=aC (HY.o Q z h1 hz)
    obtain⟨ta,tc,rfl,-⟩:=h3.ints
    have HF2:=aC (show aI V2 W.heap.size 26 _/\aI V2 (W.heap.size+1) 26 bM/\Wt W V2 b _ _ _ _ _ T from⟨jI HF1.o.1 (by have:=HBe.o;omega) h4,jI HF1.o.2.1 (by have:=HBe.o;omega) h4,h3⟩)
    clear h1 h3 h4 hz HY HN
    have HF2b:=aC (show aI (V2.alloc (.cells #[.int .i64 z] 3)) W.heap.size 26 _/\aI (V2.alloc (.cells #[.int .i64 z] 3)) (W.heap.size+1) 26 bM/\Wt W (V2.alloc (.cells #[.int .i64 z] 3)) b _ _ _ _ _ T from⟨HF2.o.1.below (aH V2 (.cells #[.int .i64 z] 3)),HF2.o.2.1.below (aH V2 (.cells #[.int .i64 z] 3)),HF2.o.2.2.below (aH V2 (.cells #[.int .i64 z] 3))⟩)
    have HN9:=aC (aI.new V2 3 #[.int .i64 z])
    have tcl:=HF2.o.2.2.w.cell 3 rfl
    have hbl:=HF2.o.2.2.w.lt
    go_wp2_with (at_builtin;refine bP rfl _ _ rfl rfl HF2b.o.2.2.t HF2b.o.2.2.le _ z rfl HN9.o (by rw[HTl.o];omega) ?_;intro g cap' w3 hown hgr;obtain⟨hW4,hB4⟩:=HF2b.o.2.2.growT hgr hown;have hc3:=aU HF2b.o.2.2.t hgr HF2b.o.2.2.w (by decide);have v3:=hc3.cell 3 rfl;have yv:=hc3.frozen 3;have hl3:=hc3.lt)
    have HF9:=aC (show aI _ W.heap.size 26 _/\aI _ (W.heap.size+1) 26 bM/\Wt W _ b _ _ _ _ _ _ from⟨jI HF2b.o.1 (by have:=HBe.o;omega) hB4,jI HF2b.o.2.1 (by have:=HBe.o;omega) hB4,hW4⟩)
    clear hown hgr hW4 hB4 hc3
    go_wp2_with fail
    go_roundw
    case rel=>exact⟨k+1,M++Q,T++[z],_,_,by omega,by go_num,HZ,aC (by simp[HTl.o]),HF9⟩
    case measure=>simp[intOf];omega
   ·obtain⟨ta,tc,rfl,-⟩:=HF.o.2.2.ints
    have HF2:=aC (show aI V2 W.heap.size 26 _/\aI V2 (W.heap.size+1) 26 bM/\Wt W V2 b _ _ _ _ _ T from⟨HF1.o.1.below h3,HF1.o.2.1.below h3,HF1.o.2.2.below h3⟩)
    have HC2:=aC (HC1.o.below h3)
    obtain⟨ta',tc',e',hI⟩:=HF2.o.2.2.ints
    cases e'
    have HTh:=aC (Fld.gF q hI)
    obtain⟨z,hz⟩:∃ z:Int,(M.length:Int)=z:=⟨_,rfl⟩
    have HZ:=aC (HN.o z h1 hz)
    have HMl:=aC hz
    obtain⟨e0,e1,e2,e3,e4,e5⟩:=aJ HC2.o
    have tcl0:=HF2.o.2.2.w.cell 3 rfl
    clear h1 h3 hz hI HY HN
    generalize bS q T=u at *
    go_wp2_with fail
    refine HTh.o.mono ?_
    rintro e V3 ⟨rfl,hb⟩
    have HF3:=aC (show aI V3 W.heap.size 26 _/\aI V3 (W.heap.size+1) 26 bM/\Wt W V3 b _ _ _ _ _ T from⟨HF2.o.1.below hb,HF2.o.2.1.below hb,HF2.o.2.2.below hb⟩)
    have HU:=aC (kU u HF3.o.2.2 HMl.o (by have:=HMk.o;omega))
    clear hb HTh e0 e1 e2 e3 e4 e5 tcl0
    go_wp2_with fail
    refine HU.o.mono ?_
    rintro e V4 ⟨rfl,⟨mv4,h3⟩,h4,-⟩
    have HF4:=aC (show aI V4 W.heap.size 26 _/\aI V4 (W.heap.size+1) 26 bM/\Wt W V4 b _ _ _ _ _ T from⟨jI HF3.o.1 (by have:=HBe.o;omega) h4,jI HF3.o.2.1 (by have:=HBe.o;omega) h4,h3⟩)
    clear h3 h4 HU
    have HF4b:=aC (show aI (V4.alloc (.cells #[.int .i64 z] 3)) W.heap.size 26 _/\aI (V4.alloc (.cells #[.int .i64 z] 3)) (W.heap.size+1) 26 bM/\Wt W (V4.alloc (.cells #[.int .i64 z] 3)) b _ _ _ _ _ T from⟨HF4.o.1.below (aH V4 (.cells #[.int .i64 z] 3)),HF4.o.2.1.below (aH V4 (.cells #[.int .i64 z] 3)),HF4.o.2.2.below (aH V4 (.cells #[.int .i64 z] 3))⟩)
    have HN9:=aC (aI.new V4 3 #[.int .i64 z])
    have tcl:=HF4.o.2.2.w.cell 3 rfl
    have hbl:=HF4.o.2.2.w.lt
    go_wp2_with (at_builtin;refine bP rfl _ _ rfl rfl HF4b.o.2.2.t HF4b.o.2.2.le _ z rfl HN9.o (by rw[HTl.o];omega) ?_;intro g cap' w3 hown hgr;obtain⟨hW4,hB4⟩:=HF4b.o.2.2.growT hgr hown;have hc3:=aU HF4b.o.2.2.t hgr HF4b.o.2.2.w (by decide);have v3:=hc3.cell 3 rfl;have yv:=hc3.frozen 3;have hl3:=hc3.lt)
    have HF9:=aC (show aI _ W.heap.size 26 _/\aI _ (W.heap.size+1) 26 bM/\Wt W _ b _ _ _ _ _ _ from⟨jI HF4b.o.1 (by have:=HBe.o;omega) hB4,jI HF4b.o.2.1 (by have:=HBe.o;omega) hB4,hW4⟩)
    clear hown hgr hW4 hB4 hc3
    go_wp2_with fail
    go_roundw
    case rel=>exact⟨k+1,M++[u],T++[z],_,_,by omega,by go_num,HZ,aC (by simp[HTl.o]),HF9⟩
    case measure=>simp[intOf];omega
  ·obtain rfl:k=n:=by omega
   have hM:=HM.o
   rw[List.take_of_length_le (by rw[HLn.o];exact Nat.le_refl _)] at hM
   obtain⟨ma,mc,rfl,-,-⟩:=Ins.of_owns HF.o.2.2.m
   obtain⟨j,gt,ct,ej,hj,htl,rfl,ct0⟩:=HF.o.2.2.reg (r:=(o:Int)) ⟨by omega,by have:=HTl.o;omega⟩
   obtain rfl:o=j:=by omega
   obtain⟨z,hz⟩:∃ z,gv T (o:Int)=z:=⟨_,rfl⟩
   rw[hz] at ct0
   have HR:Hid ((qX L S L).1=M/\(qX L S L).2.getD ((o:Int)).toNat 0=z):=aC (by rw[hM];exact⟨rfl,hz⟩)
   obtain⟨c0,c1,c2,c3⟩:=aG HF.o.1
   obtain⟨p0,p1,p2,p3⟩:=aG HF.o.2.1
   have hf0:=HF.o.2.1.frozen 0
   have hf1:=HF.o.2.1.frozen 1
   have hf2:=HF.o.2.1.frozen 2
   have hf3:=HF.o.2.1.frozen 3
   have t2:=HF.o.2.2.w.cell 2 rfl
   have t3:=HF.o.2.2.w.cell 3 rfl
   have hw0:W.heap.size < V.heap.size:=HF.o.1.lt
   have hw1:W.heap.size+1 < V.heap.size:=HF.o.2.1.lt
   have hw2:b < V.heap.size:=HF.o.2.2.w.lt
   have i0':(0:Int)<=o:=by omega
   obtain⟨tl,htl'⟩:∃ tl,T.length=tl:=⟨_,rfl⟩
   rw[htl'] at t3 hj htl
   obtain⟨ml,hml⟩:∃ ml,M.length=ml:=⟨_,rfl⟩
   rw[hml] at t2 HF
   have HMl:=aC hml
   have i1':(o:Int) < tl:=by omega
   clear hz hM HM HOk HSu ej htl' hml HFew HSw HLw HSI
   go_wp2_with fail
   go_region
   have hq:(Value.slice ma ml mc).ownBlock≠some (W.heap.size+1):=own_ne HF.o.2.2.m HF.o.2.1 (by decide)
   have HO5:=aC (((((HF.o.2.1.set 0 (.int .i64 f)).set 1 (.int .i64 d)).set 2 (.slice ma ml mc)).set 3 (.int .i64 z)).below (aD _))
   have HM5:=aC ((ownsRow_setCell_other (ownsRow_setCell_other (ownsRow_setCell_other (ownsRow_setCell_other (Cde.aW HF.o.2.2.m HF.o.2.2.hb) (a:=⟨W.heap.size+1,0,none⟩) hq (.int .i64 f)) (a:=⟨W.heap.size+1,1,none⟩) hq (.int .i64 d)) (a:=⟨W.heap.size+1,2,none⟩) hq (.slice ma ml mc)) (a:=⟨W.heap.size+1,3,none⟩) hq (.int .i64 z)).drew)
   have HB5:=aC (((((HF.o.2.2.lo.setCell (p:=⟨W.heap.size+1,0,none⟩) (by simp) (.int .i64 f)).setCell (p:=⟨W.heap.size+1,1,none⟩) (by simp) (.int .i64 d)).setCell (p:=⟨W.heap.size+1,2,none⟩) (by simp) (.slice ma ml mc)).setCell (p:=⟨W.heap.size+1,3,none⟩) (by simp) (.int .i64 z)).drew)
   obtain⟨V5,hV5⟩:∃ V5,((((V.setCell ⟨W.heap.size+1,0,none⟩ (.int .i64 f)).setCell ⟨W.heap.size+1,1,none⟩ (.int .i64 d)).setCell ⟨W.heap.size+1,2,none⟩ (.slice ma ml mc)).setCell ⟨W.heap.size+1,3,none⟩ (.int .i64 z)).drew=V5:=⟨_,rfl⟩
   rw[hV5] at HO5 HM5 HB5 ⊢
   obtain⟨x0,x1,x2,x3⟩:=aG HO5.o
   rw[HMl.o] at HM5
   clear hV5 c0 c1 c2 c3 p0 p1 p2 p3 hf0 hf1 hf2 hf3 t2 t3 ct0 hq
   go_wp2_with fail
   exact bodyPost_ret (v:=.agg (cd f d ma ml mc z)) (by simp[results,Tryz.results109,go_sem,x0,x1,x2,x3]) rfl ⟨ma,ml,mc,by rw[HR.o.1];exact HMl.o,by rw[HR.o.2],by rw[HR.o.1];exact HM5.o,HB5.o⟩
end Go.Proofs.Rdc
namespace Go.Proofs.Rdc
open Go.RowKit Go.IntWalk Knd
open Cde (In i0 ia kd cd Ins kM aJ aG bB aL bJ eO aD bG i6)
open Vfy (bL kN kK pR)
variable {d f out:Int} {L:List In} {n:Nat} {W:World}
def jT (f d:Int)(L:List In)(out:Int):List In:=if bL f d L out=0 then qA f d L out else[]
def uK (f d:Int)(L:List In)(out:Int):Int:=if bL f d L out=0 then sS f d L out else 0
def rJ (f d:Int)(L:List In)(out x:Int):Int:=if bL f d L out=0 then x else 0
def lM (w:World)(f d:Int)(L:List In)(out:Int)(e:Ending)(W':World):Prop :=
 ∃ a c,e=.returned (.tuple #[.agg (cd (rJ f d L out f) (rJ f d L out d) a (jT f d L out).length c (uK f d L out)),.int .i64 (bL f d L out)])/\W'.ownsRow w.heap.size 57 6 (.slice a (jT f d L out).length c) (jT f d L out).length (bG (jT f d L out))/\Below w.heap.size w W'
theorem lM.no {w W':World}{er:Int}(h:bL f d L out=er)(h0:er≠0)(hb:Below w.heap.size w W'):lM w f d L out (.returned (.tuple #[.agg bM,.int .i64 er])) W':=by
 subst h
 refine⟨none,0,?_,?_,hb⟩
 ·simp[rJ,jT,uK,h0]
 ·rw[jT,if_neg h0];exact⟨rfl,.inl ⟨rfl,rfl⟩⟩
theorem lM.row {w W':World}{I:List In}{u:Int}{a:Option Addr}{c:Nat}(h:bL f d L out=0)(hI:qA f d L out=I)(hu:sS f d L out=u)(hn:I.length=n)(hO:W'.ownsRow w.heap.size 57 6 (.slice a n c) n (bG I))(hb:Below w.heap.size w W'):lM w f d L out (.returned (.tuple #[.agg (cd f d a n c u),.int .i64 0])) W':=by
 subst hn hI hu
 refine⟨a,c,?_,?_,hb⟩
 ·simp[rJ,jT,uK,h]
 ·rw[jT,if_pos h];exact hO
structure Fg (W V:World)(cv rv:Array Value)(gr:Nat)(pv:Array Value):Prop where
 c:aI V W.heap.size 26 cv
 r:aI V (W.heap.size+1) 26 rv
 p:aI V gr 47 pv
 lo:Below W.heap.size W V
theorem Fg.below {W V V':World}{cv rv pv:Array Value}{gr:Nat}(h:Fg W V cv rv gr pv)(hb:Below V.heap.size V V'):Fg W V' cv rv gr pv:=⟨h.c.below hb,h.r.below hb,h.p.below hb,bel h.lo hb⟩
theorem mK {V:World}{p q r s:Value}(h:aI V (W.heap.size+1) 26 #[p,q,r,s])(hl:Below W.heap.size W V)(x y z u:Value):aI (s4 V (W.heap.size+1) x y z u) (W.heap.size+1) 26 #[x,y,z,u]/\Below W.heap.size W (s4 V (W.heap.size+1) x y z u) :=
 ⟨(((h.set 0 x).set 1 y).set 2 z).set 3 u,(((hl.setCell (p:=⟨W.heap.size+1,0,none⟩) (by simp) _).setCell (p:=⟨W.heap.size+1,1,none⟩) (by simp) _).setCell (p:=⟨W.heap.size+1,2,none⟩) (by simp) _).setCell (p:=⟨W.heap.size+1,3,none⟩) (by simp) _⟩
theorem nW {a1 a2:Option Addr}{m c1 c2:Nat}(hL:L.length=n)(hm:(zX f d L out).length=m)(hO:W.ownsRow 0 57 6 (.slice a1 m c1) m (bG (zX f d L out)))(hI:Ins W a2 n c2 L)(hn0:0 < n)(hn:n<=1000) :
  Calls Tryz.prog 108 #[.agg (cd f d a1 m c1 (rdO f d L out)),.agg (cd f d a2 n c2 out)] W fun e W'=>∃ a' l c',(qA f d L out).length=l/\e=.returned (.agg (cd f d a' l c' (sS f d L out)))/\(∀ base,W.ownsRow base 57 6 (.slice a1 m c1) m (bG (zX f d L out))->base<=W.heap.size->W'.ownsRow base 57 6 (.slice a' l c') l (bG (qA f d L out)))/\Below W.heap.size W W':=by
 obtain⟨a',c',e',hM,-⟩:=Ins.of_owns hO
 cases e'
 refine(aGy f d (rdO f d L out) out hM hI hn0 hn).mono ?_
 rintro e W' (⟨h0,rfl,hb⟩|⟨h0,a',c',rfl,ho,hb⟩)
 ·exact⟨_,m,_,by rw[qA,if_pos h0];exact hm,by rw[sS,if_pos h0],fun base h _=>by rw[qA,if_pos h0];exact Cde.aS h hb,hb⟩
 ·exact⟨_,n,_,by rw[qA,if_neg h0];exact hL,by rw[sS,if_neg h0],fun base _ h=>by rw[qA,if_neg h0];exact Cde.aW ho h,hb⟩
theorem aBa (f d out:Int){a:Option Addr}{cap:Nat}(hL:Ins W a n cap L) :
  Calls Tryz.prog 76 #[.agg (cd f d a n cap out)] W (lM W f d L out):=by
 have b1:=aH W (.cells (cd f d a n cap out) 26)
 have b2:=bel b1 (aH _ (.cells bM 26))
 have HC0:=aC ((aI.new W 26 (cd f d a n cap out)).alloc (.cells bM 26))
 have HR0:=aC (aL W (.cells (cd f d a n cap out) 26) 26 bM)
 have HB0:=aC b2
 have HV:=aC (Vfy.fC f d out (hL.later b2))
 have HLI:=aC hL
 have HLn:=aC hL.len
 clear b1 b2 hL
 go_enter Tryz.func76,Tryz.ntmps76
 go_wp2_with fail
 refine HV.o.mono ?_
 rintro e V1 ⟨ga,gc,rfl,hS,hb,-,-⟩
 obtain⟨m,hm⟩:∃ m,kN f d L out=m:=⟨_,rfl⟩
 obtain⟨co,hco⟩:∃ co,kK f d L out=co:=⟨_,rfl⟩
 obtain⟨er,her⟩:∃ er,bL f d L out=er:=⟨_,rfl⟩
 rw[hm] at hS
 rw[hm,hco,her]
 have HEr:=aC her
 have hb2:=aH V1 (.cells #[.slice ga m gc,.int .i64 co,.int .i64 0] 47)
 have HF1:Hid (Fg W (V1.alloc (.cells #[.slice ga m gc,.int .i64 co,.int .i64 0] 47)) (cd f d a n cap out) bM V1.heap.size #[.slice ga m gc,.int .i64 co,.int .i64 0]):=aC ⟨(HC0.o.below hb).below hb2,(HR0.o.below hb).below hb2,aI.new V1 47 _,bel (bel HB0.o hb) hb2⟩
 have HSp:=aC (hS.later hb2)
 obtain⟨x0,x1,x2,x3⟩:=aG (HC0.o.below hb)
 obtain⟨p0,p1,p2,p3⟩:=aG (HR0.o.below hb)
 have z0:=(HC0.o.below hb).lt
 have z1:=(HR0.o.below hb).lt
 clear hm hco her hb hb2 hS HV HC0 HR0 HB0
 by_cases h0:er=0
 ·have hr:(er != 0)=false:=by simpa using h0
  go_upto_region 4 with fail
  obtain⟨gr,hgr⟩:∃ gr,V1.heap.size=gr:=⟨_,rfl⟩
  obtain⟨V2,hV2⟩:∃ V2,V1.alloc (.cells #[.slice ga m gc,.int .i64 co,.int .i64 0] 47)=V2:=⟨_,rfl⟩
  rw[hV2] at HF1 HSp ⊢
  rw[hgr] at HF1 ⊢
  clear x0 x1 x2 x3 p0 p1 p2 p3 z0 z1 hV2 hgr
  obtain⟨x0,x1,x2,x3⟩:=aG HF1.o.c
  have y0:=HF1.o.p.cell 0 rfl
  have h0':=HEr.o.trans h0
  obtain⟨mc,-⟩:=Vfy.aT h0'
  obtain⟨-,m1,m2,o0,o1,-⟩:=Cde.bD mc
  rw[HLn.o] at m1 m2 o1
  have HFo:=aC (zK f d out ((HLI.o.later HF1.o.lo).later (aD V2)) h0' (HSp.o.later (aD V2)))
  have HHa:=aC fun(V:World) (a1:Option Addr) (l c1:Nat) (hl:(zX f d L out).length=l) (hO:V.ownsRow 0 57 6 (.slice a1 l c1) l (bG (zX f d L out))) (hI:Ins V a n cap L)=>nW (f:=f) (d:=d) (out:=out) HLn.o hl hO hI (by omega) (by omega)
  have HS:=aC fun V3 (hb:Below V2.drew.heap.size V2.drew V3)=>(HF1.o.below (bel (aD V2) hb))
  clear mc
  go_region_held3 (fun w'=>w'.cell? ⟨W.heap.size,0,none⟩=some (.int .i64 f)/\w'.cell? ⟨W.heap.size,1,none⟩=some (.int .i64 d)/\w'.cell? ⟨W.heap.size,2,none⟩=some (.slice a n cap)/\w'.cell? ⟨W.heap.size,3,none⟩=some (.int .i64 out)/\w'.cell? ⟨gr,0,none⟩=some (.slice ga m gc))
   (first|exact⟨x0,x1,x2,x3,y0⟩|exact⟨l0,l1,l2,l3,l4⟩|exact⟨k0,k1,k2,k3,k4⟩|exact⟨u0,u1,u2,u3,u4⟩|go_keep)
   ((first
    | (go_at_call 109;refine HFo.o.mono ?_;rintro e V3 ⟨a',l',c',hl',rfl,hO,hb⟩;have HF3:=aC (HS.o V3 hb);obtain⟨k0,k1,k2,k3⟩:=aG HF3.o.c;have k4:=HF3.o.p.cell 0 rfl)
    | (go_at_call 108;refine(HHa.o _ _ _ _ hl' (Cde.aW hO (Nat.zero_le _)) (HLI.o.later HF3.o.lo)).mono ?_;rintro e V4 ⟨a2',l2',c2',hl2,rfl,hO4,hb4⟩;have HF4:=aC (HF3.o.below hb4);obtain⟨l0,l1,l2,l3⟩:=aG HF4.o.c;have l4:=HF4.o.p.cell 0 rfl;obtain⟨p0,p1,p2,p3⟩:=aG HF4.o.r;obtain⟨r0,r1,r2,r3⟩:=bC HF4.o.r;have hgr:gr≠W.heap.size+1:=pG HF4.o.p HF4.o.r (by decide);have u4:=aI.cell (aI.other (aI.other (aI.other (aI.other HF4.o.p (p:=⟨W.heap.size+1,0,none⟩) hgr (.int .i64 f)) (p:=⟨W.heap.size+1,1,none⟩) hgr (.int .i64 d)) (p:=⟨W.heap.size+1,2,none⟩) hgr (.slice a2' l2' c2')) (p:=⟨W.heap.size+1,3,none⟩) hgr (.int .i64 (sS f d L out))) 0 rfl;obtain⟨u0,u1,u2,u3⟩:=aG (aI.other (aI.other (aI.other (aI.other HF4.o.c (p:=⟨W.heap.size+1,0,none⟩) (show W.heap.size≠W.heap.size+1 by omega) (.int .i64 f)) (p:=⟨W.heap.size+1,1,none⟩) (show W.heap.size≠W.heap.size+1 by omega) (.int .i64 d)) (p:=⟨W.heap.size+1,2,none⟩) (show W.heap.size≠W.heap.size+1 by omega) (.slice a2' l2' c2')) (p:=⟨W.heap.size+1,3,none⟩) (show W.heap.size≠W.heap.size+1 by omega) (.int .i64 (sS f d L out))))))
  all_goals
   have HO4:=aC (hO4 W.heap.size (Cde.aW hO (show W.heap.size<=V2.drew.heap.size from HF1.o.lo.size)) HF3.o.lo.size)
   clear u0 u1 u2 u3 u4 k0 k1 k2 k3 k4 l0 l1 l2 l3 l4 p0 p1 p2 p3 r0 r1 r2 r3 hO hb hO4 hb4 HFo HHa HS x0 x1 x2 x3 y0 HF3 h0 hr
   have hq:=own_ne HO4.o HF4.o.r (by decide)
   generalize hu:sS f d L out=u at *
   generalize hI:qA f d L out=I at *
   have HO5:=aC (dB HO4.o hq (.int .i64 f) (.int .i64 d) (.slice a2' l2' c2') (.int .i64 u))
   have HF5:=aC (mK HF4.o.r HF4.o.lo (.int .i64 f) (.int .i64 d) (.slice a2' l2' c2') (.int .i64 u))
   obtain⟨V5,hV5⟩:∃ V5,(((V4.setCell ⟨W.heap.size+1,0,none⟩ (.int .i64 f)).setCell ⟨W.heap.size+1,1,none⟩ (.int .i64 d)).setCell ⟨W.heap.size+1,2,none⟩ (.slice a2' l2' c2')).setCell ⟨W.heap.size+1,3,none⟩ (.int .i64 u)=V5:=⟨_,rfl⟩
   unfold s4 at HO5 HF5
   rw[hV5] at HO5 HF5 ⊢
   clear hV5 hq HF4 HO4
   go_wp2_with fail
   obtain⟨q0,q1,q2,q3⟩:=aG HF5.o.1
   exact bodyPost_ret (v:=.tuple #[.agg (cd f d a2' l2' c2' u),.int .i64 0]) (by simp[results,Tryz.results76,go_sem,q0,q1,q2,q3]) rfl (lM.row h0' hI hu hl2 HO5.o HF5.o.2)
 ·have hr:(er != 0)=true:=by simpa using h0
  go_upto_region 3 with fail
  obtain⟨V2,hV2⟩:∃ V2,V1.alloc (.cells #[.slice ga m gc,.int .i64 co,.int .i64 0] 47)=V2:=⟨_,rfl⟩
  rw[hV2] at HF1 ⊢
  clear x0 x1 x2 x3 p0 p1 p2 p3 z0 z1 hV2
  obtain⟨p0,p1,p2,p3⟩:=aG HF1.o.r
  obtain⟨r0,r1,r2,r3⟩:=bC HF1.o.r
  obtain⟨V3,hV3⟩:∃ V3,(((V2.setCell ⟨W.heap.size+1,0,none⟩ (.int .i64 0)).setCell ⟨W.heap.size+1,1,none⟩ (.int .i64 0)).setCell ⟨W.heap.size+1,2,none⟩ (.slice none 0 0)).setCell ⟨W.heap.size+1,3,none⟩ (.int .i64 0)=V3:=⟨_,rfl⟩
  have HF2:=aC (mK HF1.o.r HF1.o.lo (.int .i64 0) (.int .i64 0) (.slice none 0 0) (.int .i64 0))
  unfold s4 at HF2
  rw[hV3] at HF2
  go_wp2_with fail
  obtain⟨q0,q1,q2,q3⟩:=aG HF2.o.1
  exact bodyPost_ret (v:=.tuple #[.agg bM,.int .i64 er]) (by simp[results,Tryz.results76,go_sem,q0,q1,q2,q3]) rfl (lM.no HEr.o h0 HF2.o.2)
end Go.Proofs.Rdc
