import Derived.Test.YtihbhbeaihdgnaaGreatXH
import Derived.Deep.RegionWith
import Derived.Test.YtihbhbeaihdgnaaGreatX44
import Derived.Test.YtihbhbeaihdgnaaGreatX39
set_option maxRecDepth 100000
set_option maxHeartbeats 32000000
set_option linter.unusedVariables false
namespace Go.Proofs.Rdc
open Go.RowKit Go.IntWalk Knd
open Cde (In i0 ia kd cd Ins tO aJ aD aQ aK bB dX aF bU i6 zA aH)
open Vfy (aZ rC rA dM)
open Fld (dL rg gv)
variable {V W:World} {b:Nat} {mv tv wv:Value} {M:List In} {T:List Int} {hi lo:Int}
theorem kX (n:In){z:Int}{sv:Value}(h:Wt W V b wv sv mv tv M T)(hz:(M.length:Int)=z)(hM:M.length<=2000000) :
  Calls Tryz.prog 187 #[.pointer (some ⟨b,0,none⟩),.agg (ia n)] V fun e V'=>e=.returned (.int .i64 z)/\(∃ mv',Wt W V' b wv sv mv' tv (M++[n]) T)/\Below b V V'/\Kp V V':=by
 subst hz
 exact aE0 n h hM
theorem nR.many {V':World}{sv:Value}{o:Option (List In)}{z:Int}(Q:List In)(ho:o=some Q)(hz:((M.length+Q.length:Nat):Int)-1=z)(h:∃ mv',Wt W V' b wv sv mv' tv (M++Q) T)(hb:Below b V V'):nR W V b wv sv tv M T o (.returned (.tuple #[.int .i64 z,.bool true])) V':=by
 subst hz
 exact .inl ⟨Q,ho,rfl,h,hb⟩
def shL (lo hi x:Int)(n:Nat)(m:Int):Option (List In) :=
 if 0<=lo then some [⟨30,x,0,0,n,0⟩] else if hi+(2 ^ n-1)<=2147483647 then some [⟨30,x,0,0,31,0⟩,⟨31,m,0,0,2 ^ n-1,0⟩,⟨8,x,m+1,0,0,0⟩,⟨30,m+2,0,0,n,0⟩] else none
def muL (lo hi x d:Int)(m:Int):Option (List In) :=
 if (mgZ (max (-lo) hi) d).2.2=true then
  (if 0<=lo then some [⟨33,x,0,0,(mgZ (max (-lo) hi) d).1,(mgZ (max (-lo) hi) d).2.1⟩] else
   some [⟨33,x,0,0,(mgZ (max (-lo) hi) d).1,(mgZ (max (-lo) hi) d).2.1⟩,⟨30,x,0,0,31,0⟩,⟨9,m,m+1,0,0,0⟩])
 else none
theorem aPf {x d m:Int}{n:Nat}(hn:0 < vE d)(h:vE d=n)(hd:d=2 ^ n):dvL lo hi x d m=shL lo hi x n m:=by
 subst hd
 unfold dvL shL
 rw[if_pos hn,h,show hi+2 ^ n-1=hi+(2 ^ n-1) by omega]
theorem aPe {x d m:Int}(hn:¬0 < vE d):dvL lo hi x d m=muL lo hi x d m:=by
 unfold dvL muL
 rw[if_neg hn]
theorem aCy (r:Int)(n:Nat)(hn:n<=30){sa:Option Addr}{sn sc:Nat}{S:dM}(h:Wt W V b wv (.slice sa sn sc) mv tv M T)(hS:Spn.Spans W sa sn sc S)(hT:T.length<=sn)(hM:M.length<=1000000)(hr:dL r T.length)(hs:S.getD r.toNat (0,0)=(lo,hi))(hw:Wh lo hi) :
  Calls Tryz.prog 237 #[.pointer (some ⟨b,0,none⟩),.int .i64 r,.int .i64 (n:Int)] V (nR W V b wv (.slice sa sn sc) tv M T (shL lo hi (gv T r) n M.length)):=by
 have HF0:=aA h
 have HLe:=aA h.le
 have HM:=aA hM
 obtain⟨m,hm⟩:∃ m:Int,(M.length:Int)=m:=⟨_,rfl⟩
 rw[hm]
 have HMl:=aA hm
 obtain⟨w1,w2,w3,w4,w5⟩:=hw
 obtain⟨j,gt,ct,rfl,hj,htl,rfl,ct0⟩:=h.reg hr
 obtain⟨x,hx⟩:∃ x,gv T (j:Int)=x:=⟨_,rfl⟩
 rw[hx] at ct0 ⊢
 have hg1:=h.w.cell 1 rfl
 have hg3:=h.w.cell 3 rfl
 obtain⟨gs,off,rfl,hgs,hsc⟩:=(hS.later h.lo).at (by omega)
 obtain⟨c0,c1⟩:=hsc j (by omega)
 rw[Int.toNat_natCast] at hs
 rw[hs] at c0 c1
 dsimp only at c0 c1
 have hsn:=hS.le
 have hsn2:=hS.max
 unfold maxLen at hsn2
 have i0':(0:Int)<=j:=by omega
 have i1':(j:Int) < sn:=by omega
 obtain⟨tl,htl'⟩:∃ tl,T.length=tl:=⟨_,rfl⟩
 rw[htl'] at hg3 htl
 have i2':(j:Int) < tl:=by omega
 have hb0:=h.w.lt
 have hgt:gt < V.heap.size:=World.block_lt_of_cell? V _ ct0
 clear hx hm h hS hT hM hr hs hsc hj
 unfold shL
 obtain⟨p1,p2⟩:=aF8 (show n<=62 by omega)
 have p3:(2:Int) ^ n<=1073741824:=by
  have:=vO hn
  have e:(2:Int) ^ 30=1073741824:=by decide
  omega
 obtain⟨P,hP⟩:∃ P:Int,(2:Int) ^ n=P:=⟨_,rfl⟩
 rw[hP] at p1 p2 p3 ⊢
 have hwP:wrap64 P=P:=wrap64_in _ ⟨by omega,by omega⟩
 have hwP2:IntKind.i64.wrap P=P:=by rw[IntKind.wrap_i64];omega
 have hwP3:IntKind.i64.wrap (P-1)=P-1:=by rw[IntKind.wrap_i64];omega
 obtain⟨O,hO⟩:∃ O,(if 0<=lo then some [(⟨30,x,0,0,n,0⟩:In)] else if hi+(P-1)<=2147483647 then some [⟨30,x,0,0,31,0⟩,⟨31,m,0,0,P-1,0⟩,⟨8,x,m+1,0,0,0⟩,⟨30,m+2,0,0,n,0⟩] else none)=O:=⟨_,rfl⟩
 rw[hO]
 have HO':=aA hO
 clear hO
 go_enter Tryz.func237,Tryz.ntmps237
 go_upto_region 1 with fail
 go_region_held3 (fun w'=>w'.cell? ⟨b,1,none⟩=some (.slice (some ⟨gs,off,none⟩) sn sc)/\w'.cell? ⟨b,3,none⟩=some (.slice (some ⟨gt,0,none⟩) tl ct)/\w'.cell? ⟨gs,off+j*2,none⟩=some (.int .i64 lo)/\w'.cell? ⟨gs,off+j*2+1,none⟩=some (.int .i64 hi)/\w'.cell? ⟨gt,j,none⟩=some (.int .i64 x))
  (first|exact⟨hg1,hg3,c0,c1,ct0⟩|go_keep) (fail)
 obtain⟨V1,hV1⟩:∃ V1,(V.alloc (.cells #[.int .i64 lo,.int .i64 hi] 74)).drew=V1:=⟨_,rfl⟩
 rw[hV1]
 have HF1:=aA (HF0.o.below (bel (aC V (.cells #[.int .i64 lo,.int .i64 hi] 74)) (aF _)))
 have HC1:=aA ((aB.new V 74 #[.int .i64 lo,.int .i64 hi]).below (aF _))
 have HB1:=aA (bel (aC V (.cells #[.int .i64 lo,.int .i64 hi] 74)) (aF _))
 rw[hV1] at HF1 HC1 HB1
 have HL1:=aA (iH HLe.o HB1.o)
 obtain⟨gb,hgb⟩:∃ gb,V.heap.size=gb:=⟨_,rfl⟩
 rw[hgb] at HC1 ⊢
 obtain⟨s0,s1⟩:=aQ HC1.o
 clear hg1 hg3 c0 c1 ct0 HF0 hV1 hgb htl' hgs hgt hb0
 by_cases h0:0<=lo
 ·have hO:=HO'.o
  rw[if_pos h0] at hO
  have HO:=aA hO.symm
  have q0:decide (lo < 0)=false:=by simpa using h0
  clear hO HO' h0
  have HU:=aA (kX ⟨30,x,0,0,n,0⟩ HF1.o HMl.o (by have:=HM.o;omega))
  go_wp2_with fail
  refine HU.o.mono ?_
  clear HU
  rintro e V2 ⟨rfl,⟨mv2,hw⟩,hb,hk⟩
  have HF2:=aA hw
  have HL2:=aA (HL1.o.trans hb)
  go_wp2_with fail
  exact bodyPost_ret (v:=.tuple #[.int .i64 m,.bool true]) (by simp[results,Tryz.results237,go_sem]) rfl (nR.many _ HO.o (by have:=HMl.o;have:=HMl.o;simp;simp at *;omega) ⟨_,by simpa using HF2.o⟩ HL2.o)
 ·have hO:=HO'.o
  rw[if_neg h0] at hO
  have q0:decide (lo < 0)=true:=by simpa using h0
  clear h0
  by_cases h1:hi+(P-1)<=2147483647
  ·rw[if_pos h1] at hO
   have HO:=aA hO.symm
   have q1:decide (2147483647 < hi+(P-1))=false:=by simp;omega
   clear hO HO' h1
   obtain⟨z1,hz1⟩:∃ z1:Int,m+1=z1:=⟨_,rfl⟩
   obtain⟨z2,hz2⟩:∃ z2:Int,m+2=z2:=⟨_,rfl⟩
   obtain⟨z3,hz3⟩:∃ z3:Int,m+3=z3:=⟨_,rfl⟩
   rw[hz1,hz2] at HO
   have HZ1:Hid (((M++[(⟨30,x,0,0,31,0⟩:In)]).length:Int)=z1):=aA (by have:=HMl.o;simp;omega)
   have HZ2:Hid (((M++[(⟨30,x,0,0,31,0⟩:In)]++[(⟨31,m,0,0,P-1,0⟩:In)]).length:Int)=z2):=aA (by have:=HMl.o;simp;omega)
   have HZ3:Hid (((M++[(⟨30,x,0,0,31,0⟩:In)]++[(⟨31,m,0,0,P-1,0⟩:In)]++[(⟨8,x,z1,0,0,0⟩:In)]).length:Int)=z3):=aA (by have:=HMl.o;simp;omega)
   have HZm:=aA hz3
   clear hz1 hz2 hz3
   have HU:=aA (kX ⟨30,x,0,0,31,0⟩ HF1.o HMl.o (by have:=HM.o;omega))
   go_wp2_with fail
   refine HU.o.mono ?_
   clear HU
   rintro e V2 ⟨rfl,⟨mv2,hw⟩,hb,hk⟩
   have HF2:=aA hw
   have HL2:=aA (HL1.o.trans hb)
   clear hw hb hk
   have HU:=aA (kX ⟨31,m,0,0,P-1,0⟩ HF2.o HZ1.o (by have:=HM.o;simp;omega))
   go_wp2_with fail
   refine HU.o.mono ?_
   clear HU
   rintro e V3 ⟨rfl,⟨mv3,hw⟩,hb,hk⟩
   have HF3:=aA hw
   have HL3:=aA (HL2.o.trans hb)
   clear hw hb hk
   have HU:=aA (kX ⟨8,x,z1,0,0,0⟩ HF3.o HZ2.o (by have:=HM.o;simp;omega))
   go_wp2_with fail
   refine HU.o.mono ?_
   clear HU
   rintro e V4 ⟨rfl,⟨mv4,hw⟩,hb,hk⟩
   have HF4:=aA hw
   have HL4:=aA (HL3.o.trans hb)
   clear hw hb hk
   have HU:=aA (kX ⟨30,z2,0,0,n,0⟩ HF4.o HZ3.o (by have:=HM.o;simp;omega))
   go_wp2_with fail
   refine HU.o.mono ?_
   clear HU
   rintro e V5 ⟨rfl,⟨mv5,hw⟩,hb,hk⟩
   have HF5:=aA hw
   have HL5:=aA (HL4.o.trans hb)
   clear hw hb hk
   go_wp2_with fail
   exact bodyPost_ret (v:=.tuple #[.int .i64 z3,.bool true]) (by simp[results,Tryz.results237,go_sem]) rfl (nR.many _ HO.o (by have:=HMl.o;have:=HZm.o;simp;simp at *;omega) ⟨_,by simpa using HF5.o⟩ HL5.o)
  ·rw[if_neg h1] at hO
   have HO:=aA hO.symm
   have q1:decide (2147483647 < hi+(P-1))=true:=by simp;omega
   clear hO HO' h1
   go_wp2_with fail
   exact bodyPost_ret (v:=.tuple #[.int .i64 0,.bool false]) (by simp[results,Tryz.results237,go_sem]) rfl (nR.no HO.o HB1.o)
theorem aJ0 (r d:Int){sa:Option Addr}{sn sc:Nat}{S:dM}(h:Wt W V b wv (.slice sa sn sc) mv tv M T)(hS:Spn.Spans W sa sn sc S)(hT:T.length<=sn)(hM:M.length<=1000000)(hr:dL r T.length)(hs:S.getD r.toNat (0,0)=(lo,hi))(hw:Wh lo hi) :
  Calls Tryz.prog 238 #[.pointer (some ⟨b,0,none⟩),.int .i64 r,.int .i64 d] V (nR W V b wv (.slice sa sn sc) tv M T (muL lo hi (gv T r) d M.length)):=by
 have HF0:=aA h
 have HLe:=aA h.le
 have HM:=aA hM
 obtain⟨m,hm⟩:∃ m:Int,(M.length:Int)=m:=⟨_,rfl⟩
 rw[hm]
 have HMl:=aA hm
 obtain⟨w1,w2,w3,w4,w5⟩:=hw
 obtain⟨j,gt,ct,rfl,hj,htl,rfl,ct0⟩:=h.reg hr
 obtain⟨x,hx⟩:∃ x,gv T (j:Int)=x:=⟨_,rfl⟩
 rw[hx] at ct0 ⊢
 have hg1:=h.w.cell 1 rfl
 have hg3:=h.w.cell 3 rfl
 obtain⟨gs,off,rfl,hgs,hsc⟩:=(hS.later h.lo).at (by omega)
 obtain⟨c0,c1⟩:=hsc j (by omega)
 rw[Int.toNat_natCast] at hs
 rw[hs] at c0 c1
 dsimp only at c0 c1
 have hsn:=hS.le
 have hsn2:=hS.max
 unfold maxLen at hsn2
 have i0':(0:Int)<=j:=by omega
 have i1':(j:Int) < sn:=by omega
 obtain⟨tl,htl'⟩:∃ tl,T.length=tl:=⟨_,rfl⟩
 rw[htl'] at hg3 htl
 have i2':(j:Int) < tl:=by omega
 have hb0:=h.w.lt
 have hgt:gt < V.heap.size:=World.block_lt_of_cell? V _ ct0
 clear hx hm h hS hT hM hr hs hsc hj
 have HMg:=aA fun(w:World)=>aGs (max (-lo) hi) d w
 unfold muL
 obtain⟨⟨k,s,ok⟩,hK⟩:∃ Z,mgZ (max (-lo) hi) d=Z:=⟨_,rfl⟩
 rw[hK] at HMg ⊢
 dsimp only [mgV] at HMg ⊢
 clear hK
 obtain⟨O,hO⟩:∃ O,(if ok=true then(if 0<=lo then some [(⟨33,x,0,0,k,s⟩:In)] else some [⟨33,x,0,0,k,s⟩,⟨30,x,0,0,31,0⟩,⟨9,m,m+1,0,0,0⟩]) else none)=O:=⟨_,rfl⟩
 rw[hO]
 have HO':=aA hO
 clear hO
 have hmx:(hi<=-lo/\max (-lo) hi=-lo)\/(-lo < hi/\max (-lo) hi=hi):=by omega
 rcases hmx with⟨hmx,e⟩|⟨hmx,e⟩
 all_goals
  rw[e] at HMg
  clear e
  go_enter Tryz.func238,Tryz.ntmps238
  go_upto_region 1 with fail
  go_region_held3 (fun w'=>w'.cell? ⟨b,1,none⟩=some (.slice (some ⟨gs,off,none⟩) sn sc)/\w'.cell? ⟨b,3,none⟩=some (.slice (some ⟨gt,0,none⟩) tl ct)/\w'.cell? ⟨gs,off+j*2,none⟩=some (.int .i64 lo)/\w'.cell? ⟨gs,off+j*2+1,none⟩=some (.int .i64 hi)/\w'.cell? ⟨gt,j,none⟩=some (.int .i64 x))
   (first|exact⟨hg1,hg3,c0,c1,ct0⟩|go_keep) (fail)
  obtain⟨V1,hV1⟩:∃ V1,(V.alloc (.cells #[.int .i64 lo,.int .i64 hi] 74)).drew=V1:=⟨_,rfl⟩
  rw[hV1]
  have HF1:=aA (HF0.o.below (bel (aC V (.cells #[.int .i64 lo,.int .i64 hi] 74)) (aF _)))
  have HC1:=aA ((aB.new V 74 #[.int .i64 lo,.int .i64 hi]).below (aF _))
  have HB1:=aA (bel (aC V (.cells #[.int .i64 lo,.int .i64 hi] 74)) (aF _))
  rw[hV1] at HF1 HC1 HB1
  have HL1:=aA (iH HLe.o HB1.o)
  obtain⟨gb,hgb⟩:∃ gb,V.heap.size=gb:=⟨_,rfl⟩
  rw[hgb] at HC1 ⊢
  obtain⟨s0,s1⟩:=aQ HC1.o
  clear hg1 hg3 c0 c1 ct0 HF0 hV1 hgb htl' hgs hgt hb0
  go_wp2_with fail
  refine(HMg.o _).mono ?_
  rintro e w' ⟨rfl,rfl⟩
  clear HMg
  cases ok
  ·have HO:=aA (HO'.o.symm.trans (if_neg (by simp)))
   clear HO'
   go_wp2_with fail
   exact bodyPost_ret (v:=.tuple #[.int .i64 0,.bool false]) (by simp[results,Tryz.results238,go_sem]) rfl (nR.no HO.o HB1.o)
  ·have hO:=HO'.o
   rw[if_pos rfl] at hO
   have HU:=aA (kX ⟨33,x,0,0,k,s⟩ HF1.o HMl.o (by have:=HM.o;omega))
   go_wp2_with fail
   refine HU.o.mono ?_
   clear HU
   rintro e V2 ⟨rfl,⟨mv2,hw⟩,hb,hk⟩
   have HF2:=aA hw
   have HL2:=aA (HL1.o.trans hb)
   have HC2:=aA (hk _ _ HC1.o)
   clear hw hb hk s0 s1
   obtain⟨s0,s1⟩:=aQ HC2.o
   by_cases h0:0<=lo
   ·rw[if_pos h0] at hO
    have HO:=aA hO.symm
    have q0:decide (lo < 0)=false:=by simpa using h0
    clear hO HO' h0
    go_wp2_with fail
    exact bodyPost_ret (v:=.tuple #[.int .i64 m,.bool true]) (by simp[results,Tryz.results238,go_sem]) rfl (nR.many _ HO.o (by have:=HMl.o;have:=HMl.o;simp;simp at *;omega) ⟨_,by simpa using HF2.o⟩ HL2.o)
   ·rw[if_neg h0] at hO
    have HO:=aA hO.symm
    have q0:decide (lo < 0)=true:=by simpa using h0
    clear hO HO' h0
    obtain⟨z1,hz1⟩:∃ z1:Int,m+1=z1:=⟨_,rfl⟩
    obtain⟨z2,hz2⟩:∃ z2:Int,m+2=z2:=⟨_,rfl⟩
    rw[hz1] at HO
    have HZ1:Hid (((M++[(⟨33,x,0,0,k,s⟩:In)]).length:Int)=z1):=aA (by have:=HMl.o;simp;omega)
    have HZ2:Hid (((M++[(⟨33,x,0,0,k,s⟩:In)]++[(⟨30,x,0,0,31,0⟩:In)]).length:Int)=z2):=aA (by have:=HMl.o;simp;omega)
    have HZm:=aA hz2
    clear hz1 hz2
    have HU:=aA (kX ⟨30,x,0,0,31,0⟩ HF2.o HZ1.o (by have:=HM.o;simp;omega))
    go_wp2_with fail
    refine HU.o.mono ?_
    clear HU
    rintro e V3 ⟨rfl,⟨mv3,hw⟩,hb,hk⟩
    have HF3:=aA hw
    have HL3:=aA (HL2.o.trans hb)
    clear hw hb hk
    have HU:=aA (kX ⟨9,m,z1,0,0,0⟩ HF3.o HZ2.o (by have:=HM.o;simp;omega))
    go_wp2_with fail
    refine HU.o.mono ?_
    clear HU
    rintro e V4 ⟨rfl,⟨mv4,hw⟩,hb,hk⟩
    have HF4:=aA hw
    have HL4:=aA (HL3.o.trans hb)
    clear hw hb hk
    go_wp2_with fail
    exact bodyPost_ret (v:=.tuple #[.int .i64 z2,.bool true]) (by simp[results,Tryz.results238,go_sem]) rfl (nR.many _ HO.o (by have:=HMl.o;have:=HZm.o;simp;simp at *;omega) ⟨_,by simpa using HF4.o⟩ HL4.o)
end Go.Proofs.Rdc
namespace Go.Proofs.Rdc
open Go.RowKit Go.IntWalk Knd
open Cde (In i0 ia kd cd Ins tO aJ aD aQ aK bB dX aF bU i6 zA aH)
open Vfy (aZ rC rA dM)
open Fld (dL rg gv)
variable {V W:World} {b wc wn:Nat} {wa:Option Addr} {mv sv tv:Value} {L M:List In} {T:List Int}
theorem aCw (n:In)(h:Wt W V b (.slice wa wn wc) sv mv tv M T)(hL:Ins W wa wn wc L)(hT:T.length<=wn)(hM:M.length<=1000000)(ha:dL n.a T.length)(hb:dL n.b T.length) :
  Calls Tryz.prog 216 #[.pointer (some ⟨b,0,none⟩),.agg (ia n)] V (nR W V b (.slice wa wn wc) sv tv M T (if (rg L n.b).op=1 then some [yK (gv T n.a) (rg L n.b).k] else if (rg L n.a).op=1 then some [yK (gv T n.b) (rg L n.a).k] else none)):=by
 have HF0:=aA (h.below (aC V (.cells (ia n) 41)))
 have HC0:=aA (aB.new V 41 (ia n))
 have HB0:=aA (aC V (.cells (ia n) 41))
 have HLe:=aA h.le
 have HM:=aA hM
 have HNB:=aA (fK n.b HF0.o hL ⟨hb.1,by have:=hb.2;omega⟩)
 have HIa:=aA ha
 have HN2:=aA fun(V2:World) (h2:Wt W V2 b (.slice wa wn wc) sv mv tv M T)=>fK n.a h2 hL ⟨ha.1,by have:=ha.2;omega⟩
 have HIb:=aA hb
 clear h hL hT hM ha hb
 obtain⟨p,hp⟩:∃ p,rg L n.b=p:=⟨_,rfl⟩
 obtain⟨q,hq⟩:∃ q,rg L n.a=q:=⟨_,rfl⟩
 rw[hp] at HNB ⊢
 rw[hq] at HN2 ⊢
 clear hp hq
 by_cases h1:p.op=1
 ·have q1:(p.op==1)=true:=by simpa using h1
  rw[if_pos h1]
  rw[q1] at HNB
  clear h1 q1
  go_enter Tryz.func216,Tryz.ntmps216
  go_wp2_with fail
  refine HNB.o.mono ?_
  rintro e V2 ⟨rfl,hb⟩
  have HF2:=aA (HF0.o.below hb)
  have HC2:=aA (HC0.o.below hb)
  have HB2:=aA (bel HB0.o hb)
  clear hb HNB HN2 HF0 HC0 HB0
  obtain⟨j,gt,ct,ej,hj,hs,rfl,ct0⟩:=HF2.o.reg HIa.o
  obtain⟨z,hz⟩:∃ z,gv T n.a=z:=⟨_,rfl⟩
  rw[hz] at ct0
  obtain⟨b0,b1,b2,b3,b4,b5⟩:=aJ HC2.o
  rw[ej] at b1
  have wt:=HF2.o.w.cell 3 rfl
  have HU:=aA fun(w:World) (hb:Below V2.heap.size V2 w)=>qZ z p.k (HF2.o.below hb) (by have:=HM.o;omega)
  obtain⟨tl,htl⟩:∃ tl,T.length=tl:=⟨_,rfl⟩
  rw[htl] at wt hj hs
  obtain⟨m,hm⟩:∃ m,M.length=m:=⟨_,rfl⟩
  rw[hm] at HU
  have HMl:=aA hm
  have i0':(0:Int)<=j:=by omega
  have i1':(j:Int) < tl:=by omega
  have HLe2:=aA (iH HLe.o HB2.o)
  have HD2:=aA (iH HF2.o.le (aF V2))
  have HZ:=aA hz
  clear hz htl hm ej
  go_wp2_with fail
  go_region_with (go_at_call 235;refine(HU.o _ (aF V2)).mono ?_;rintro e V9 ⟨rfl,hw,hb⟩)
  all_goals
   have HW9:=aA hw
   have HB9:=aA ((HLe2.o.trans HD2.o).trans hb)
   clear hw hb
   go_wp2_with fail
   exact bodyPost_ret (v:=.tuple #[.int .i64 (m:Int),.bool true]) (by simp[results,Tryz.results216,go_sem]) rfl (nR.one (by rw[HZ.o]) HMl.o HW9.o HB9.o)
 ·have q1:(p.op==1)=false:=by simpa using h1
  rw[if_neg h1]
  rw[q1] at HNB
  clear h1 q1
  by_cases h2:q.op=1
  ·have q2:(q.op==1)=true:=by simpa using h2
   rw[if_pos h2]
   rw[q2] at HN2
   clear h2 q2
   go_enter Tryz.func216,Tryz.ntmps216
   go_wp2_with fail
   refine HNB.o.mono ?_
   rintro e V1 ⟨rfl,hb⟩
   have HF1:=aA (HF0.o.below hb)
   have HC1:=aA (HC0.o.below hb)
   have HB1:=aA (bel HB0.o hb)
   clear hb HNB HF0 HC0 HB0
   obtain⟨b0,b1,b2,b3,b4,b5⟩:=aJ HC1.o
   go_wp2_with fail
   clear b0 b1 b2 b3 b4 b5
   refine(HN2.o _ HF1.o).mono ?_
   rintro e V2 ⟨rfl,hb⟩
   have HF2:=aA (HF1.o.below hb)
   have HC2:=aA (HC1.o.below hb)
   have HB2:=aA (bel HB1.o hb)
   clear hb HN2 HF1 HC1 HB1
   obtain⟨j,gt,ct,ej,hj,hs,rfl,ct0⟩:=HF2.o.reg HIb.o
   obtain⟨z,hz⟩:∃ z,gv T n.b=z:=⟨_,rfl⟩
   rw[hz] at ct0
   obtain⟨b0,b1,b2,b3,b4,b5⟩:=aJ HC2.o
   rw[ej] at b2
   have wt:=HF2.o.w.cell 3 rfl
   have HU:=aA fun(w:World) (hb:Below V2.heap.size V2 w)=>qZ z q.k (HF2.o.below hb) (by have:=HM.o;omega)
   obtain⟨tl,htl⟩:∃ tl,T.length=tl:=⟨_,rfl⟩
   rw[htl] at wt hj hs
   obtain⟨m,hm⟩:∃ m,M.length=m:=⟨_,rfl⟩
   rw[hm] at HU
   have HMl:=aA hm
   have i0':(0:Int)<=j:=by omega
   have i1':(j:Int) < tl:=by omega
   have HLe2:=aA (iH HLe.o HB2.o)
   have HD2:=aA (iH HF2.o.le (aF V2))
   have HZ:=aA hz
   clear hz htl hm ej
   go_wp2_with fail
   go_region_with (go_at_call 235;refine(HU.o _ (aF V2)).mono ?_;rintro e V9 ⟨rfl,hw,hb⟩)
   all_goals
    have HW9:=aA hw
    have HB9:=aA ((HLe2.o.trans HD2.o).trans hb)
    clear hw hb
    go_wp2_with fail
    exact bodyPost_ret (v:=.tuple #[.int .i64 (m:Int),.bool true]) (by simp[results,Tryz.results216,go_sem]) rfl (nR.one (by rw[HZ.o]) HMl.o HW9.o HB9.o)
  ·have q2:(q.op==1)=false:=by simpa using h2
   rw[if_neg h2]
   rw[q2] at HN2
   clear h2 q2
   go_enter Tryz.func216,Tryz.ntmps216
   go_wp2_with fail
   refine HNB.o.mono ?_
   rintro e V1 ⟨rfl,hb⟩
   have HF1:=aA (HF0.o.below hb)
   have HC1:=aA (HC0.o.below hb)
   have HB1:=aA (bel HB0.o hb)
   clear hb HNB HF0 HC0 HB0
   obtain⟨b0,b1,b2,b3,b4,b5⟩:=aJ HC1.o
   go_wp2_with fail
   clear b0 b1 b2 b3 b4 b5
   refine(HN2.o _ HF1.o).mono ?_
   rintro e V2 ⟨rfl,hb⟩
   have HF2:=aA (HF1.o.below hb)
   have HC2:=aA (HC1.o.below hb)
   have HB2:=aA (bel HB1.o hb)
   clear hb HN2 HF1 HC1 HB1
   go_wp2_with fail
   exact bodyPost_ret (v:=.tuple #[.int .i64 0,.bool false]) (by simp[results,Tryz.results216,go_sem]) rfl (nR.no rfl HB2.o)
theorem aJz (n:In)(h:Wt W V b (.slice wa wn wc) sv mv tv M T)(hL:Ins W wa wn wc L)(hT:T.length<=wn)(hM:M.length<=1000000)(ha:dL n.a T.length)(hb:dL n.b T.length) :
  Calls Tryz.prog 217 #[.pointer (some ⟨b,0,none⟩),.agg (ia n)] V (nR W V b (.slice wa wn wc) sv tv M T (if (rg L n.b).op=1/\0<=(rg L n.b).k then some [⟨31,gv T n.a,0,0,(rg L n.b).k,0⟩] else if (rg L n.a).op=1/\0<=(rg L n.a).k then some [⟨31,gv T n.b,0,0,(rg L n.a).k,0⟩] else none)):=by
 have HF0:=aA (h.below (aC V (.cells (ia n) 41)))
 have HC0:=aA (aB.new V 41 (ia n))
 have HB0:=aA (aC V (.cells (ia n) 41))
 have HLe:=aA h.le
 have HM:=aA hM
 have HNB:=aA (fK n.b HF0.o hL ⟨hb.1,by have:=hb.2;omega⟩)
 have HIa:=aA ha
 have HN2:=aA fun(V2:World) (h2:Wt W V2 b (.slice wa wn wc) sv mv tv M T)=>fK n.a h2 hL ⟨ha.1,by have:=ha.2;omega⟩
 have HIb:=aA hb
 clear h hL hT hM ha hb
 obtain⟨p,hp⟩:∃ p,rg L n.b=p:=⟨_,rfl⟩
 obtain⟨q,hq⟩:∃ q,rg L n.a=q:=⟨_,rfl⟩
 rw[hp] at HNB ⊢
 rw[hq] at HN2 ⊢
 clear hp hq
 by_cases h1:p.op=1/\0<=p.k
 ·have q1:(p.op==1)=true:=by simpa using h1.1
  have q3:decide (0<=p.k)=true:=by simpa using h1.2
  rw[if_pos h1]
  rw[q1] at HNB
  clear h1 q1
  go_enter Tryz.func217,Tryz.ntmps217
  go_wp2_with fail
  refine HNB.o.mono ?_
  rintro e V2 ⟨rfl,hb⟩
  have HF2:=aA (HF0.o.below hb)
  have HC2:=aA (HC0.o.below hb)
  have HB2:=aA (bel HB0.o hb)
  clear hb HNB HN2 HF0 HC0 HB0
  obtain⟨j,gt,ct,ej,hj,hs,rfl,ct0⟩:=HF2.o.reg HIa.o
  obtain⟨z,hz⟩:∃ z,gv T n.a=z:=⟨_,rfl⟩
  rw[hz] at ct0
  obtain⟨b0,b1,b2,b3,b4,b5⟩:=aJ HC2.o
  rw[ej] at b1
  have wt:=HF2.o.w.cell 3 rfl
  have HU:=aA fun(w:World) (hb:Below V2.heap.size V2 w)=>tC ⟨31,z,0,0,p.k,0⟩ (HF2.o.below hb) (by have:=HM.o;omega)
  obtain⟨tl,htl⟩:∃ tl,T.length=tl:=⟨_,rfl⟩
  rw[htl] at wt hj hs
  obtain⟨m,hm⟩:∃ m,M.length=m:=⟨_,rfl⟩
  rw[hm] at HU
  have HMl:=aA hm
  have i0':(0:Int)<=j:=by omega
  have i1':(j:Int) < tl:=by omega
  have HLe2:=aA (iH HLe.o HB2.o)
  have HD2:=aA (iH HF2.o.le (aF V2))
  have HZ:=aA hz
  clear hz htl hm ej
  go_wp2_with fail
  go_region_with (go_at_call 187;refine(HU.o _ (aF V2)).mono ?_;rintro e V9 ⟨rfl,hw,hb⟩)
  all_goals
   have HW9:=aA hw
   have HB9:=aA ((HLe2.o.trans HD2.o).trans hb)
   clear hw hb
   go_wp2_with fail
   exact bodyPost_ret (v:=.tuple #[.int .i64 (m:Int),.bool true]) (by simp[results,Tryz.results217,go_sem]) rfl (nR.one (by rw[HZ.o]) HMl.o HW9.o HB9.o)
 ·rw[if_neg h1]
  obtain⟨pb,hpb⟩:∃ pb,(p.op==1)=pb:=⟨_,rfl⟩
  have hno:pb=false\/(pb=true/\decide (0<=p.k)=false):=by
   cases pb
   ·exact .inl rfl
   ·exact .inr ⟨rfl,by simp at hpb;simp;omega⟩
  rw[hpb] at HNB
  clear h1 hpb
  by_cases h2:q.op=1/\0<=q.k
  ·have q2:(q.op==1)=true:=by simpa using h2.1
   have q3:decide (0<=q.k)=true:=by simpa using h2.2
   rw[if_pos h2]
   rw[q2] at HN2
   clear h2 q2
   rcases hno with rfl|⟨rfl,hno⟩
   all_goals
    go_enter Tryz.func217,Tryz.ntmps217
    go_wp2_with fail
    refine HNB.o.mono ?_
    rintro e V1 ⟨rfl,hb⟩
    have HF1:=aA (HF0.o.below hb)
    have HC1:=aA (HC0.o.below hb)
    have HB1:=aA (bel HB0.o hb)
    clear hb HNB HF0 HC0 HB0
    obtain⟨b0,b1,b2,b3,b4,b5⟩:=aJ HC1.o
    go_wp2_with fail
    clear b0 b1 b2 b3 b4 b5
    refine(HN2.o _ HF1.o).mono ?_
    rintro e V2 ⟨rfl,hb⟩
    have HF2:=aA (HF1.o.below hb)
    have HC2:=aA (HC1.o.below hb)
    have HB2:=aA (bel HB1.o hb)
    clear hb HN2 HF1 HC1 HB1
    obtain⟨j,gt,ct,ej,hj,hs,rfl,ct0⟩:=HF2.o.reg HIb.o
    obtain⟨z,hz⟩:∃ z,gv T n.b=z:=⟨_,rfl⟩
    rw[hz] at ct0
    obtain⟨b0,b1,b2,b3,b4,b5⟩:=aJ HC2.o
    rw[ej] at b2
    have wt:=HF2.o.w.cell 3 rfl
    have HU:=aA fun(w:World) (hb:Below V2.heap.size V2 w)=>tC ⟨31,z,0,0,q.k,0⟩ (HF2.o.below hb) (by have:=HM.o;omega)
    obtain⟨tl,htl⟩:∃ tl,T.length=tl:=⟨_,rfl⟩
    rw[htl] at wt hj hs
    obtain⟨m,hm⟩:∃ m,M.length=m:=⟨_,rfl⟩
    rw[hm] at HU
    have HMl:=aA hm
    have i0':(0:Int)<=j:=by omega
    have i1':(j:Int) < tl:=by omega
    have HLe2:=aA (iH HLe.o HB2.o)
    have HD2:=aA (iH HF2.o.le (aF V2))
    have HZ:=aA hz
    clear hz htl hm ej
    go_wp2_with fail
    go_region_with (go_at_call 187;refine(HU.o _ (aF V2)).mono ?_;rintro e V9 ⟨rfl,hw,hb⟩)
    all_goals
     have HW9:=aA hw
     have HB9:=aA ((HLe2.o.trans HD2.o).trans hb)
     clear hw hb
     go_wp2_with fail
     exact bodyPost_ret (v:=.tuple #[.int .i64 (m:Int),.bool true]) (by simp[results,Tryz.results217,go_sem]) rfl (nR.one (by rw[HZ.o]) HMl.o HW9.o HB9.o)
  ·rw[if_neg h2]
   obtain⟨qb,hqb⟩:∃ qb,(q.op==1)=qb:=⟨_,rfl⟩
   have hnq:qb=false\/(qb=true/\decide (0<=q.k)=false):=by
    cases qb
    ·exact .inl rfl
    ·exact .inr ⟨rfl,by simp at hqb;simp;omega⟩
   rw[hqb] at HN2
   clear h2 hqb
   rcases hno with rfl|⟨rfl,hno⟩
   all_goals
    rcases hnq with rfl|⟨rfl,hnq⟩
    all_goals
     go_enter Tryz.func217,Tryz.ntmps217
     go_wp2_with fail
     refine HNB.o.mono ?_
     rintro e V1 ⟨rfl,hb⟩
     have HF1:=aA (HF0.o.below hb)
     have HC1:=aA (HC0.o.below hb)
     have HB1:=aA (bel HB0.o hb)
     clear hb HNB HF0 HC0 HB0
     obtain⟨b0,b1,b2,b3,b4,b5⟩:=aJ HC1.o
     go_wp2_with fail
     clear b0 b1 b2 b3 b4 b5
     refine(HN2.o _ HF1.o).mono ?_
     rintro e V2 ⟨rfl,hb⟩
     have HF2:=aA (HF1.o.below hb)
     have HC2:=aA (HC1.o.below hb)
     have HB2:=aA (bel HB1.o hb)
     clear hb HN2 HF1 HC1 HB1
     go_wp2_with fail
     exact bodyPost_ret (v:=.tuple #[.int .i64 0,.bool false]) (by simp[results,Tryz.results217,go_sem]) rfl (nR.no rfl HB2.o)
theorem yM (n:In)(op:Int)(h:Wt W V b (.slice wa wn wc) sv mv tv M T)(hL:Ins W wa wn wc L)(hT:T.length<=wn)(hM:M.length<=1000000)(ha:dL n.a T.length)(hb:dL n.b T.length) :
  Calls Tryz.prog 218 #[.pointer (some ⟨b,0,none⟩),.agg (ia n),.int .i64 op] V (nR W V b (.slice wa wn wc) sv tv M T (if (rg L n.b).op=1 then some [⟨op,gv T n.a,0,0,(rg L n.b).k,0⟩] else none)):=by
 have HF0:=aA (h.below (aC V (.cells (ia n) 41)))
 have HC0:=aA (aB.new V 41 (ia n))
 have HB0:=aA (aC V (.cells (ia n) 41))
 have HLe:=aA h.le
 have HM:=aA hM
 have HNB:=aA (fK n.b HF0.o hL ⟨hb.1,by have:=hb.2;omega⟩)
 have HIa:=aA ha
 clear h hL hT hM ha hb
 obtain⟨p,hp⟩:∃ p,rg L n.b=p:=⟨_,rfl⟩
 rw[hp] at HNB ⊢
 clear hp
 by_cases h1:p.op=1
 ·have q1:(p.op==1)=true:=by simpa using h1
  rw[if_pos h1]
  rw[q1] at HNB
  clear h1 q1
  go_enter Tryz.func218,Tryz.ntmps218
  go_wp2_with fail
  refine HNB.o.mono ?_
  rintro e V2 ⟨rfl,hb⟩
  have HF2:=aA (HF0.o.below hb)
  have HC2:=aA (HC0.o.below hb)
  have HB2:=aA (bel HB0.o hb)
  clear hb HNB HF0 HC0 HB0
  obtain⟨j,gt,ct,ej,hj,hs,rfl,ct0⟩:=HF2.o.reg HIa.o
  obtain⟨z,hz⟩:∃ z,gv T n.a=z:=⟨_,rfl⟩
  rw[hz] at ct0
  obtain⟨b0,b1,b2,b3,b4,b5⟩:=aJ HC2.o
  rw[ej] at b1
  have wt:=HF2.o.w.cell 3 rfl
  have HU:=aA fun(w:World) (hb:Below V2.heap.size V2 w)=>tC ⟨op,z,0,0,p.k,0⟩ (HF2.o.below hb) (by have:=HM.o;omega)
  obtain⟨tl,htl⟩:∃ tl,T.length=tl:=⟨_,rfl⟩
  rw[htl] at wt hj hs
  obtain⟨m,hm⟩:∃ m,M.length=m:=⟨_,rfl⟩
  rw[hm] at HU
  have HMl:=aA hm
  have i0':(0:Int)<=j:=by omega
  have i1':(j:Int) < tl:=by omega
  have HLe2:=aA (iH HLe.o HB2.o)
  have HD2:=aA (iH HF2.o.le (aF V2))
  have HZ:=aA hz
  clear hz htl hm ej
  go_wp2_with fail
  go_region_with (go_at_call 187;refine(HU.o _ (aF V2)).mono ?_;rintro e V9 ⟨rfl,hw,hb⟩)
  all_goals
   have HW9:=aA hw
   have HB9:=aA ((HLe2.o.trans HD2.o).trans hb)
   clear hw hb
   go_wp2_with fail
   exact bodyPost_ret (v:=.tuple #[.int .i64 (m:Int),.bool true]) (by simp[results,Tryz.results218,go_sem]) rfl (nR.one (by rw[HZ.o]) HMl.o HW9.o HB9.o)
 ·have q1:(p.op==1)=false:=by simpa using h1
  rw[if_neg h1]
  rw[q1] at HNB
  clear h1 q1
  go_enter Tryz.func218,Tryz.ntmps218
  go_wp2_with fail
  refine HNB.o.mono ?_
  rintro e V2 ⟨rfl,hb⟩
  have HF2:=aA (HF0.o.below hb)
  have HC2:=aA (HC0.o.below hb)
  have HB2:=aA (bel HB0.o hb)
  clear hb HNB HF0 HC0 HB0
  go_wp2_with fail
  exact bodyPost_ret (v:=.tuple #[.int .i64 0,.bool false]) (by simp[results,Tryz.results218,go_sem]) rfl (nR.no rfl HB2.o)
end Go.Proofs.Rdc
