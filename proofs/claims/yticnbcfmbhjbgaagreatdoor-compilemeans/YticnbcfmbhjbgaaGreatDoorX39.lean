import Derived.Test.YticnbcfmbhjbgaaGreatDoorX38
set_option maxRecDepth 100000
set_option maxHeartbeats 32000000
set_option linter.unusedVariables false
namespace Go.Proofs.Rdc
section
open Go.RowKit Go.IntWalk Knd
open Cde (In i0 ia kd cd Ins sI aH aC aP aJ bE eH aF dL i6 zA aG)
open Vfy (aW rM pJ eO)
open Fld (eD rg gv)
open YticnbcfmbhjbgaaGreatDoor (aB)
variable {V W:World} {b wc wn:Nat} {wa:Option Addr} {mv sv tv:Value} {L M:List In} {T:List Int}
theorem aD5 (n:In)(h:Wt W V b (.slice wa wn wc) sv mv tv M T)(hL:Ins W wa wn wc L)(hT:T.length<=wn)(hM:M.length<=1000000)(ha:eD n.a T.length)(hb:eD n.b T.length) :
  Calls Tryz.prog 377 #[.pointer (some ⟨b,0,none⟩),.agg (ia n)] V (oU W V b (.slice wa wn wc) sv tv M T (if (rg L n.b).op=1 then some [tmI (gv T n.a) (rg L n.b).k] else if (rg L n.a).op=1 then some [tmI (gv T n.b) (rg L n.a).k] else none)):=by
 have HF0:=aA (h.below (aD V (.cells (ia n) 132)))
 have HC0:=aA (aB.new V 132 (ia n))
 have HB0:=aA (aD V (.cells (ia n) 132))
 have HLe:=aA h.le
 have HM:=aA hM
 have HNB:=aA (gK n.b HF0.o hL ⟨hb.1,by have:=hb.2;omega⟩)
 have HIa:=aA ha
 have HN2:=aA fun(V2:World) (h2:Wt W V2 b (.slice wa wn wc) sv mv tv M T)=>gK n.a h2 hL ⟨ha.1,by have:=ha.2;omega⟩
 have HIb:=aA hb
 clear h hL hT hM ha hb
 obtain⟨p,hp⟩:∃ p,rg L n.b=p:=⟨_,rfl⟩
 obtain⟨q,hq⟩:∃ q,rg L n.a=q:=⟨_,rfl⟩
 rw[hp] at HNB ⊢
 rw[hq] at HN2 ⊢
 clear hp hq
 by_cases h1:p.op=1
 ·have q1:(p.op==1)=true:=by simpa using h1
  rw[if_pos h1]
  rw[q1] at HNB
  clear h1 q1
  go_enter Tryz.func377,Tryz.ntmps377
  go_wp2_with fail
  refine HNB.o.mono ?_
  rintro e V2 ⟨rfl,hb⟩
  have HF2:=aA (HF0.o.below hb)
  have HC2:=aA (HC0.o.below hb)
  have HB2:=aA (bel HB0.o hb)
  clear hb HNB HN2 HF0 HC0 HB0
  obtain⟨j,gt,ct,ej,hj,hs,rfl,ct0⟩:=HF2.o.reg HIa.o
  obtain⟨z,hz⟩:∃ z,gv T n.a=z:=⟨_,rfl⟩
  rw[hz] at ct0
  obtain⟨b0,b1,b2,b3,b4,b5⟩:=aH HC2.o
  rw[ej] at b1
  have wt:=HF2.o.w.cell 3 rfl
  have HU:=aA fun(w:World) (hb:Below V2.heap.size V2 w)=>sZ z p.k (HF2.o.below hb) (by have:=HM.o;omega)
  obtain⟨tl,htl⟩:∃ tl,T.length=tl:=⟨_,rfl⟩
  rw[htl] at wt hj hs
  obtain⟨m,hm⟩:∃ m,M.length=m:=⟨_,rfl⟩
  rw[hm] at HU
  have HMl:=aA hm
  have i0':(0:Int)<=j:=by omega
  have i1':(j:Int) < tl:=by omega
  have HLe2:=aA (jB HLe.o HB2.o)
  have HD2:=aA (jB HF2.o.le (aF V2))
  have HZ:=aA hz
  clear hz htl hm ej
  go_wp2_with fail
  go_region_with (go_at_call 389;refine(HU.o _ (aF V2)).mono ?_;rintro e V9 ⟨rfl,hw,hb⟩)
  all_goals
   have HW9:=aA hw
   have HB9:=aA ((HLe2.o.trans HD2.o).trans hb)
   clear hw hb
   go_wp2_with fail
   exact bPr (v:=.tuple #[.i (m:Int),.bool true]) (by simp[results,Tryz.results377,go_sem]) rfl (oU.one (by rw[HZ.o]) HMl.o HW9.o HB9.o)
 ·have q1:(p.op==1)=false:=by simpa using h1
  rw[if_neg h1]
  rw[q1] at HNB
  clear h1 q1
  by_cases h2:q.op=1
  ·have q2:(q.op==1)=true:=by simpa using h2
   rw[if_pos h2]
   rw[q2] at HN2
   clear h2 q2
   go_enter Tryz.func377,Tryz.ntmps377
   go_wp2_with fail
   refine HNB.o.mono ?_
   rintro e V1 ⟨rfl,hb⟩
   have HF1:=aA (HF0.o.below hb)
   have HC1:=aA (HC0.o.below hb)
   have HB1:=aA (bel HB0.o hb)
   clear hb HNB HF0 HC0 HB0
   obtain⟨b0,b1,b2,b3,b4,b5⟩:=aH HC1.o
   go_wp2_with fail
   clear b0 b1 b2 b3 b4 b5
   refine(HN2.o _ HF1.o).mono ?_
   rintro e V2 ⟨rfl,hb⟩
   have HF2:=aA (HF1.o.below hb)
   have HC2:=aA (HC1.o.below hb)
   have HB2:=aA (bel HB1.o hb)
   clear hb HN2 HF1 HC1 HB1
   obtain⟨j,gt,ct,ej,hj,hs,rfl,ct0⟩:=HF2.o.reg HIb.o
   obtain⟨z,hz⟩:∃ z,gv T n.b=z:=⟨_,rfl⟩
   rw[hz] at ct0
   obtain⟨b0,b1,b2,b3,b4,b5⟩:=aH HC2.o
   rw[ej] at b2
   have wt:=HF2.o.w.cell 3 rfl
   have HU:=aA fun(w:World) (hb:Below V2.heap.size V2 w)=>sZ z q.k (HF2.o.below hb) (by have:=HM.o;omega)
   obtain⟨tl,htl⟩:∃ tl,T.length=tl:=⟨_,rfl⟩
   rw[htl] at wt hj hs
   obtain⟨m,hm⟩:∃ m,M.length=m:=⟨_,rfl⟩
   rw[hm] at HU
   have HMl:=aA hm
   have i0':(0:Int)<=j:=by omega
   have i1':(j:Int) < tl:=by omega
   have HLe2:=aA (jB HLe.o HB2.o)
   have HD2:=aA (jB HF2.o.le (aF V2))
   have HZ:=aA hz
   clear hz htl hm ej
   go_wp2_with fail
   go_region_with (go_at_call 389;refine(HU.o _ (aF V2)).mono ?_;rintro e V9 ⟨rfl,hw,hb⟩)
   all_goals
    have HW9:=aA hw
    have HB9:=aA ((HLe2.o.trans HD2.o).trans hb)
    clear hw hb
    go_wp2_with fail
    exact bPr (v:=.tuple #[.i (m:Int),.bool true]) (by simp[results,Tryz.results377,go_sem]) rfl (oU.one (by rw[HZ.o]) HMl.o HW9.o HB9.o)
  ·have q2:(q.op==1)=false:=by simpa using h2
   rw[if_neg h2]
   rw[q2] at HN2
   clear h2 q2
   go_enter Tryz.func377,Tryz.ntmps377
   go_wp2_with fail
   refine HNB.o.mono ?_
   rintro e V1 ⟨rfl,hb⟩
   have HF1:=aA (HF0.o.below hb)
   have HC1:=aA (HC0.o.below hb)
   have HB1:=aA (bel HB0.o hb)
   clear hb HNB HF0 HC0 HB0
   obtain⟨b0,b1,b2,b3,b4,b5⟩:=aH HC1.o
   go_wp2_with fail
   clear b0 b1 b2 b3 b4 b5
   refine(HN2.o _ HF1.o).mono ?_
   rintro e V2 ⟨rfl,hb⟩
   have HF2:=aA (HF1.o.below hb)
   have HC2:=aA (HC1.o.below hb)
   have HB2:=aA (bel HB1.o hb)
   clear hb HN2 HF1 HC1 HB1
   go_wp2_with fail
   exact bPr (v:=.tuple #[.i 0,.bool false]) (by simp[results,Tryz.results377,go_sem]) rfl (oU.no rfl HB2.o)
theorem aL2 (n:In)(h:Wt W V b (.slice wa wn wc) sv mv tv M T)(hL:Ins W wa wn wc L)(hT:T.length<=wn)(hM:M.length<=1000000)(ha:eD n.a T.length)(hb:eD n.b T.length) :
  Calls Tryz.prog 378 #[.pointer (some ⟨b,0,none⟩),.agg (ia n)] V (oU W V b (.slice wa wn wc) sv tv M T (if (rg L n.b).op=1/\0<=(rg L n.b).k then some [⟨31,gv T n.a,0,0,(rg L n.b).k,0⟩] else if (rg L n.a).op=1/\0<=(rg L n.a).k then some [⟨31,gv T n.b,0,0,(rg L n.a).k,0⟩] else none)):=by
 have HF0:=aA (h.below (aD V (.cells (ia n) 132)))
 have HC0:=aA (aB.new V 132 (ia n))
 have HB0:=aA (aD V (.cells (ia n) 132))
 have HLe:=aA h.le
 have HM:=aA hM
 have HNB:=aA (gK n.b HF0.o hL ⟨hb.1,by have:=hb.2;omega⟩)
 have HIa:=aA ha
 have HN2:=aA fun(V2:World) (h2:Wt W V2 b (.slice wa wn wc) sv mv tv M T)=>gK n.a h2 hL ⟨ha.1,by have:=ha.2;omega⟩
 have HIb:=aA hb
 clear h hL hT hM ha hb
 obtain⟨p,hp⟩:∃ p,rg L n.b=p:=⟨_,rfl⟩
 obtain⟨q,hq⟩:∃ q,rg L n.a=q:=⟨_,rfl⟩
 rw[hp] at HNB ⊢
 rw[hq] at HN2 ⊢
 clear hp hq
 by_cases h1:p.op=1/\0<=p.k
 ·have q1:(p.op==1)=true:=by simpa using h1.1
  have q3:decide (0<=p.k)=true:=by simpa using h1.2
  rw[if_pos h1]
  rw[q1] at HNB
  clear h1 q1
  go_enter Tryz.func378,Tryz.ntmps378
  go_wp2_with fail
  refine HNB.o.mono ?_
  rintro e V2 ⟨rfl,hb⟩
  have HF2:=aA (HF0.o.below hb)
  have HC2:=aA (HC0.o.below hb)
  have HB2:=aA (bel HB0.o hb)
  clear hb HNB HN2 HF0 HC0 HB0
  obtain⟨j,gt,ct,ej,hj,hs,rfl,ct0⟩:=HF2.o.reg HIa.o
  obtain⟨z,hz⟩:∃ z,gv T n.a=z:=⟨_,rfl⟩
  rw[hz] at ct0
  obtain⟨b0,b1,b2,b3,b4,b5⟩:=aH HC2.o
  rw[ej] at b1
  have wt:=HF2.o.w.cell 3 rfl
  have HU:=aA fun(w:World) (hb:Below V2.heap.size V2 w)=>uU ⟨31,z,0,0,p.k,0⟩ (HF2.o.below hb) (by have:=HM.o;omega)
  obtain⟨tl,htl⟩:∃ tl,T.length=tl:=⟨_,rfl⟩
  rw[htl] at wt hj hs
  obtain⟨m,hm⟩:∃ m,M.length=m:=⟨_,rfl⟩
  rw[hm] at HU
  have HMl:=aA hm
  have i0':(0:Int)<=j:=by omega
  have i1':(j:Int) < tl:=by omega
  have HLe2:=aA (jB HLe.o HB2.o)
  have HD2:=aA (jB HF2.o.le (aF V2))
  have HZ:=aA hz
  clear hz htl hm ej
  go_wp2_with fail
  go_region_with (go_at_call 359;refine(HU.o _ (aF V2)).mono ?_;rintro e V9 ⟨rfl,hw,hb⟩)
  all_goals
   have HW9:=aA hw
   have HB9:=aA ((HLe2.o.trans HD2.o).trans hb)
   clear hw hb
   go_wp2_with fail
   exact bPr (v:=.tuple #[.i (m:Int),.bool true]) (by simp[results,Tryz.results378,go_sem]) rfl (oU.one (by rw[HZ.o]) HMl.o HW9.o HB9.o)
 ·rw[if_neg h1]
  obtain⟨pb,hpb⟩:∃ pb,(p.op==1)=pb:=⟨_,rfl⟩
  have hno:pb=false\/(pb=true/\decide (0<=p.k)=false):=by
   cases pb
   ·exact .inl rfl
   ·exact .inr ⟨rfl,by simp at hpb;simp;omega⟩
  rw[hpb] at HNB
  clear h1 hpb
  by_cases h2:q.op=1/\0<=q.k
  ·have q2:(q.op==1)=true:=by simpa using h2.1
   have q3:decide (0<=q.k)=true:=by simpa using h2.2
   rw[if_pos h2]
   rw[q2] at HN2
   clear h2 q2
   rcases hno with rfl|⟨rfl,hno⟩
   all_goals
    go_enter Tryz.func378,Tryz.ntmps378
    go_wp2_with fail
    refine HNB.o.mono ?_
    rintro e V1 ⟨rfl,hb⟩
    have HF1:=aA (HF0.o.below hb)
    have HC1:=aA (HC0.o.below hb)
    have HB1:=aA (bel HB0.o hb)
    clear hb HNB HF0 HC0 HB0
    obtain⟨b0,b1,b2,b3,b4,b5⟩:=aH HC1.o
    go_wp2_with fail
    clear b0 b1 b2 b3 b4 b5
    refine(HN2.o _ HF1.o).mono ?_
    rintro e V2 ⟨rfl,hb⟩
    have HF2:=aA (HF1.o.below hb)
    have HC2:=aA (HC1.o.below hb)
    have HB2:=aA (bel HB1.o hb)
    clear hb HN2 HF1 HC1 HB1
    obtain⟨j,gt,ct,ej,hj,hs,rfl,ct0⟩:=HF2.o.reg HIb.o
    obtain⟨z,hz⟩:∃ z,gv T n.b=z:=⟨_,rfl⟩
    rw[hz] at ct0
    obtain⟨b0,b1,b2,b3,b4,b5⟩:=aH HC2.o
    rw[ej] at b2
    have wt:=HF2.o.w.cell 3 rfl
    have HU:=aA fun(w:World) (hb:Below V2.heap.size V2 w)=>uU ⟨31,z,0,0,q.k,0⟩ (HF2.o.below hb) (by have:=HM.o;omega)
    obtain⟨tl,htl⟩:∃ tl,T.length=tl:=⟨_,rfl⟩
    rw[htl] at wt hj hs
    obtain⟨m,hm⟩:∃ m,M.length=m:=⟨_,rfl⟩
    rw[hm] at HU
    have HMl:=aA hm
    have i0':(0:Int)<=j:=by omega
    have i1':(j:Int) < tl:=by omega
    have HLe2:=aA (jB HLe.o HB2.o)
    have HD2:=aA (jB HF2.o.le (aF V2))
    have HZ:=aA hz
    clear hz htl hm ej
    go_wp2_with fail
    go_region_with (go_at_call 359;refine(HU.o _ (aF V2)).mono ?_;rintro e V9 ⟨rfl,hw,hb⟩)
    all_goals
     have HW9:=aA hw
     have HB9:=aA ((HLe2.o.trans HD2.o).trans hb)
     clear hw hb
     go_wp2_with fail
     exact bPr (v:=.tuple #[.i (m:Int),.bool true]) (by simp[results,Tryz.results378,go_sem]) rfl (oU.one (by rw[HZ.o]) HMl.o HW9.o HB9.o)
  ·rw[if_neg h2]
   obtain⟨qb,hqb⟩:∃ qb,(q.op==1)=qb:=⟨_,rfl⟩
   have hnq:qb=false\/(qb=true/\decide (0<=q.k)=false):=by
    cases qb
    ·exact .inl rfl
    ·exact .inr ⟨rfl,by simp at hqb;simp;omega⟩
   rw[hqb] at HN2
   clear h2 hqb
   rcases hno with rfl|⟨rfl,hno⟩
   all_goals
    rcases hnq with rfl|⟨rfl,hnq⟩
    all_goals
     go_enter Tryz.func378,Tryz.ntmps378
     go_wp2_with fail
     refine HNB.o.mono ?_
     rintro e V1 ⟨rfl,hb⟩
     have HF1:=aA (HF0.o.below hb)
     have HC1:=aA (HC0.o.below hb)
     have HB1:=aA (bel HB0.o hb)
     clear hb HNB HF0 HC0 HB0
     obtain⟨b0,b1,b2,b3,b4,b5⟩:=aH HC1.o
     go_wp2_with fail
     clear b0 b1 b2 b3 b4 b5
     refine(HN2.o _ HF1.o).mono ?_
     rintro e V2 ⟨rfl,hb⟩
     have HF2:=aA (HF1.o.below hb)
     have HC2:=aA (HC1.o.below hb)
     have HB2:=aA (bel HB1.o hb)
     clear hb HN2 HF1 HC1 HB1
     go_wp2_with fail
     exact bPr (v:=.tuple #[.i 0,.bool false]) (by simp[results,Tryz.results378,go_sem]) rfl (oU.no rfl HB2.o)
theorem aAj (n:In)(op:Int)(h:Wt W V b (.slice wa wn wc) sv mv tv M T)(hL:Ins W wa wn wc L)(hT:T.length<=wn)(hM:M.length<=1000000)(ha:eD n.a T.length)(hb:eD n.b T.length) :
  Calls Tryz.prog 379 #[.pointer (some ⟨b,0,none⟩),.agg (ia n),.i op] V (oU W V b (.slice wa wn wc) sv tv M T (if (rg L n.b).op=1 then some [⟨op,gv T n.a,0,0,(rg L n.b).k,0⟩] else none)):=by
 have HF0:=aA (h.below (aD V (.cells (ia n) 132)))
 have HC0:=aA (aB.new V 132 (ia n))
 have HB0:=aA (aD V (.cells (ia n) 132))
 have HLe:=aA h.le
 have HM:=aA hM
 have HNB:=aA (gK n.b HF0.o hL ⟨hb.1,by have:=hb.2;omega⟩)
 have HIa:=aA ha
 clear h hL hT hM ha hb
 obtain⟨p,hp⟩:∃ p,rg L n.b=p:=⟨_,rfl⟩
 rw[hp] at HNB ⊢
 clear hp
 by_cases h1:p.op=1
 ·have q1:(p.op==1)=true:=by simpa using h1
  rw[if_pos h1]
  rw[q1] at HNB
  clear h1 q1
  go_enter Tryz.func379,Tryz.ntmps379
  go_wp2_with fail
  refine HNB.o.mono ?_
  rintro e V2 ⟨rfl,hb⟩
  have HF2:=aA (HF0.o.below hb)
  have HC2:=aA (HC0.o.below hb)
  have HB2:=aA (bel HB0.o hb)
  clear hb HNB HF0 HC0 HB0
  obtain⟨j,gt,ct,ej,hj,hs,rfl,ct0⟩:=HF2.o.reg HIa.o
  obtain⟨z,hz⟩:∃ z,gv T n.a=z:=⟨_,rfl⟩
  rw[hz] at ct0
  obtain⟨b0,b1,b2,b3,b4,b5⟩:=aH HC2.o
  rw[ej] at b1
  have wt:=HF2.o.w.cell 3 rfl
  have HU:=aA fun(w:World) (hb:Below V2.heap.size V2 w)=>uU ⟨op,z,0,0,p.k,0⟩ (HF2.o.below hb) (by have:=HM.o;omega)
  obtain⟨tl,htl⟩:∃ tl,T.length=tl:=⟨_,rfl⟩
  rw[htl] at wt hj hs
  obtain⟨m,hm⟩:∃ m,M.length=m:=⟨_,rfl⟩
  rw[hm] at HU
  have HMl:=aA hm
  have i0':(0:Int)<=j:=by omega
  have i1':(j:Int) < tl:=by omega
  have HLe2:=aA (jB HLe.o HB2.o)
  have HD2:=aA (jB HF2.o.le (aF V2))
  have HZ:=aA hz
  clear hz htl hm ej
  go_wp2_with fail
  go_region_with (go_at_call 359;refine(HU.o _ (aF V2)).mono ?_;rintro e V9 ⟨rfl,hw,hb⟩)
  all_goals
   have HW9:=aA hw
   have HB9:=aA ((HLe2.o.trans HD2.o).trans hb)
   clear hw hb
   go_wp2_with fail
   exact bPr (v:=.tuple #[.i (m:Int),.bool true]) (by simp[results,Tryz.results379,go_sem]) rfl (oU.one (by rw[HZ.o]) HMl.o HW9.o HB9.o)
 ·have q1:(p.op==1)=false:=by simpa using h1
  rw[if_neg h1]
  rw[q1] at HNB
  clear h1 q1
  go_enter Tryz.func379,Tryz.ntmps379
  go_wp2_with fail
  refine HNB.o.mono ?_
  rintro e V2 ⟨rfl,hb⟩
  have HF2:=aA (HF0.o.below hb)
  have HC2:=aA (HC0.o.below hb)
  have HB2:=aA (bel HB0.o hb)
  clear hb HNB HF0 HC0 HB0
  go_wp2_with fail
  exact bPr (v:=.tuple #[.i 0,.bool false]) (by simp[results,Tryz.results379,go_sem]) rfl (oU.no rfl HB2.o)
end
section
open Go.RowKit Go.IntWalk Knd
open Cde (In i0 ia kd cd Ins sI aH aC aP aJ bE eH aF dL i6 zA aG)
open Vfy (aW rM pJ eO w32)
open Fld (eD rg gv ar jI)
open YticnbcfmbhjbgaaGreatDoor (aB)
variable {V W:World} {b sc sn:Nat} {mv tv wv:Value} {M:List In} {T:List Int} {sa:Option Addr} {hi lo:Int}
theorem Wt.at {W V:World}{b gt ct j:Nat}{wv sv mv:Value}{M:List In}{T:List Int}(h:Wt W V b wv sv mv (.slice (some ⟨gt,0,none⟩) T.length ct) M T)(hj:j < T.length):V.cell? ⟨gt,j,none⟩=some (.i (T.getD j 0)):=by
 obtain⟨a,c,e,hI⟩:=h.ints
 cases e
 obtain⟨b',off,e',-,hat⟩:=hI.at (by omega)
 cases e'
 have c0:=hat j hj
 rw[nZa] at c0
 exact c0
theorem oU.mono {V0 V':World}{sv:Value}{o:Option (List In)}{e:Ending}(h:oU W V b wv sv tv M T o e V')(hb:b<=V0.heap.size)(hB:Below V0.heap.size V0 V):oU W V0 b wv sv tv M T o e V':=by
 rcases h with⟨Q,h1,h2,h3,h4⟩|⟨h1,h2,h3⟩
 ·exact .inl ⟨Q,h1,h2,h3,(jB hb hB).trans h4⟩
 ·exact .inr ⟨h1,h2,bel hB h3⟩
theorem aBz (r d:Int){S:eO}(h:Wt W V b wv (.slice sa sn sc) mv tv M T)(hS:Spn.Spans W sa sn sc S)(hT:T.length<=sn)(hM:M.length<=1000000)(hr:eD r T.length)(hs:S.getD r.toNat (0,0)=(lo,hi))(hw:Wh lo hi) :
  Calls Tryz.prog 381 #[.pointer (some ⟨b,0,none⟩),.i r,.i d] V (oU W V b wv (.slice sa sn sc) tv M T (dvL lo hi (gv T r) d M.length)):=by
 have HP:=aA (sW d V)
 have HMu:=aA (aL3 r d h hS hT hM hr hs hw)
 have HSh:=aA fun(n:Nat) (hn:n<=30)=>aD7 r n hn h hS hT hM hr hs hw
 by_cases hn:0 < wS d
 ·obtain⟨n,n1,n2,n3⟩:∃ n:Nat,n<=30/\wS d=n/\d=2 ^ n:=by
   rcases nQ d with e|e
   ·omega
   ·exact e
  rw[aSp hn n2 n3]
  have HS2:=aA (HSh.o n n1)
  rw[n2] at HP hn
  have q:decide ((0:Int) < n)=true:=by simpa using hn
  have q2:decide (0 < n)=true:=by simp;omega
  generalize shL lo hi (gv T r) n M.length=O at *
  clear h hS hT hM hr hs hw HMu HSh n1 n2 n3
  go_enter Tryz.func381,Tryz.ntmps381
  go_wp2_with fail
  refine HP.o.mono ?_
  rintro e w' ⟨rfl,rfl⟩
  go_wp2_with fail
  refine HS2.o.mono ?_
  rintro e V2 hQ
  have HQ:=aA hQ
  rcases hQ with⟨Q,-,rfl,-,-⟩|⟨-,rfl,-⟩
  ·obtain⟨z,hz⟩:∃ z:Int,((M.length+Q.length:Nat):Int)-1=z:=⟨_,rfl⟩
   rw[hz] at HQ ⊢
   clear hz
   go_wp2_with fail
   exact bPr (v:=.tuple #[.i z,.bool true]) (by simp[results,Tryz.results381,go_sem]) rfl (HQ.o)
  ·go_wp2_with fail
   exact bPr (v:=.tuple #[.i 0,.bool false]) (by simp[results,Tryz.results381,go_sem]) rfl (HQ.o)
 ·rw[aSo hn]
  have q:decide (0 < wS d)=false:=by simpa using hn
  generalize muL lo hi (gv T r) d M.length=O at *
  generalize wS d=p at *
  clear h hS hT hM hr hs hw HSh hn
  go_enter Tryz.func381,Tryz.ntmps381
  go_wp2_with fail
  refine HP.o.mono ?_
  rintro e w' ⟨rfl,rfl⟩
  go_wp2_with fail
  refine HMu.o.mono ?_
  rintro e V2 hQ
  have HQ:=aA hQ
  rcases hQ with⟨Q,-,rfl,-,-⟩|⟨-,rfl,-⟩
  ·obtain⟨z,hz⟩:∃ z:Int,((M.length+Q.length:Nat):Int)-1=z:=⟨_,rfl⟩
   rw[hz] at HQ ⊢
   clear hz
   go_wp2_with fail
   exact bPr (v:=.tuple #[.i z,.bool true]) (by simp[results,Tryz.results381,go_sem]) rfl (HQ.o)
  ·go_wp2_with fail
   exact bPr (v:=.tuple #[.i 0,.bool false]) (by simp[results,Tryz.results381,go_sem]) rfl (HQ.o)
theorem aCm {x d m:Int}{Q:List In}(h:dvL lo hi x d m=some Q):Q.length<=4:=by
 unfold dvL at h
 repeat' split at h
 all_goals first|(cases h;simp;done)|cases h
theorem aL4 (r d:Int)(hd:w32 d){S:eO}(h:Wt W V b wv (.slice sa sn sc) mv tv M T)(hS:Spn.Spans W sa sn sc S)(hT:T.length<=sn)(hM:M.length<=1000000)(hr:eD r T.length)(hs:S.getD r.toNat (0,0)=(lo,hi))(hw:Wh lo hi) :
  Calls Tryz.prog 382 #[.pointer (some ⟨b,0,none⟩),.i r,.i d] V (oU W V b wv (.slice sa sn sc) tv M T (if 0 < wS d/\0<=lo then some [⟨31,gv T r,0,0,d-1,0⟩] else(dvL lo hi (gv T r) d M.length).map fun Q=>Q++[tmI (M.length+Q.length-1) d,⟨9,gv T r,M.length+Q.length,0,0,0⟩])):=by
 have HF0:=aA h
 have HP:=aA fun(w:World)=>sW d w
 have HQu:=aA (aBz r d h hS hT hM hr hs hw)
 have HM:=aA hM
 obtain⟨w1,w2,w3,w4,w5⟩:=hw
 obtain⟨d1,d2⟩:=hd
 obtain⟨j,gt,ct,rfl,hj,htl,rfl,ct0⟩:=h.reg hr
 have HJ:=aA hj
 have hxe:gv T (j:Int)=T.getD j 0:=rfl
 rw[hxe] at ct0 HQu ⊢
 obtain⟨x,hx⟩:∃ x,T.getD j 0=x:=⟨_,rfl⟩
 rw[hx] at ct0 HQu ⊢
 have HX:=aA hx
 have hg1:=h.w.cell 1 rfl
 have hg3:=h.w.cell 3 rfl
 obtain⟨gs,off,rfl,hgs,hsc⟩:=(hS.later h.lo).at (by omega)
 obtain⟨c0,c1⟩:=hsc j (by omega)
 rw[iTn] at hs
 rw[hs] at c0 c1
 dsimp only at c0 c1
 have hsn:=hS.le
 have hsn2:=hS.max
 unfold maxLen at hsn2
 have i0':(0:Int)<=j:=by omega
 have i1':(j:Int) < sn:=by omega
 obtain⟨tl,htl'⟩:∃ tl,T.length=tl:=⟨_,rfl⟩
 rw[htl'] at hg3 htl
 have HTl:=aA htl'
 have i2':(j:Int) < tl:=by omega
 obtain⟨D,hD⟩:∃ D,dvL lo hi x d M.length=D:=⟨_,rfl⟩
 have HDl:Hid (∀ Q,D=some Q->Q.length<=4):=aA fun Q hq=>aCm (hD.trans hq)
 rw[hD] at HQu ⊢
 clear hx hxe h hS hT hM hr hs hsc hj hD htl'
 obtain⟨p,hp⟩:∃ p,wS d=p:=⟨_,rfl⟩
 rw[hp] at HP ⊢
 clear hp
 by_cases h1:0 < p/\0<=lo
 ·rw[if_pos h1]
  have q1:decide (0 < p)=true:=by simpa using h1.1
  have q2:decide (0<=lo)=true:=by simpa using h1.2
  obtain⟨m,hm⟩:∃ m:Int,(M.length:Int)=m:=⟨_,rfl⟩
  have HU:=aA (lU ⟨31,x,0,0,d-1,0⟩ HF0.o hm (by have:=HM.o;omega))
  have HMl:=aA hm
  have HMn:Hid (((M.length+1:Nat):Int)-1=m):=aA (by omega)
  clear h1 hm HQu
  go_enter Tryz.func382,Tryz.ntmps382
  go_wp2_with fail
  refine(HP.o _).mono ?_
  rintro e w' ⟨rfl,rfl⟩
  go_wp2_with fail
  refine HU.o.mono ?_
  rintro e V2 ⟨rfl,hw,hb,-⟩
  go_wp2_with fail
  exact bPr (v:=.tuple #[.i m,.bool true]) (by simp[results,Tryz.results382,go_sem]) rfl (oU.many _ rfl HMn.o hw hb)
 ·rw[if_neg h1]
  have hno:decide (0 < p)=false\/(decide (0 < p)=true/\decide (0<=lo)=false):=by
   by_cases h2:0 < p
   ·exact .inr ⟨by simpa using h2,by simp;omega⟩
   ·exact .inl (by simpa using h2)
  clear h1
  have HTm:=aA fun(q:Int) (V2:World) (M2:List In) (mv2:Value) (h2:Wt W V2 b wv (.slice (some ⟨gs,off,none⟩) sn sc) mv2 (.slice (some ⟨gt,0,none⟩) T.length ct) M2 T) (hl:M2.length<=2000000)=>sZ q d h2 hl
  rcases hno with hno|⟨hno,hno2⟩
  all_goals
   go_enter Tryz.func382,Tryz.ntmps382
   go_wp2_with fail
   refine(HP.o _).mono ?_
   rintro e w' ⟨rfl,rfl⟩
   go_wp2_with fail
   refine HQu.o.mono ?_
   clear HP HQu hg1 hg3 c0 c1 ct0
   rintro e V2 (⟨Q,h1,rfl,⟨mv2,h3⟩,h4⟩|⟨h1,rfl,h3⟩)
   ·obtain⟨z,hz⟩:∃ z:Int,((M.length+Q.length:Nat):Int)-1=z:=⟨_,rfl⟩
    rw[hz]
    have HO:=aA h1
    have HZ:=aA hz
    obtain⟨z1,hz1⟩:∃ z1:Int,((M++Q).length:Int)=z1:=⟨_,rfl⟩
    have HQl:Hid (Q.length<=4):=aA (HDl.o Q h1)
    have HT2:=aA (HTm.o z V2 (M++Q) mv2 h3 (by have:=HM.o;have:=HQl.o;simp;omega))
    rw[hz1] at HT2
    have HZ1:=aA hz1
    have HF2:=aA h3
    have HL2:=aA h4
    have hg0:=h3.w.cell 3 rfl
    rw[HTl.o] at hg0
    clear h1 h3 h4 hz hz1 HTm
    go_wp2_with fail
    refine HT2.o.mono ?_
    rintro e V3 ⟨rfl,⟨mv3,h3⟩,h4⟩
    obtain⟨z2,hz2⟩:∃ z2:Int,((M++Q++[tmI z d]).length:Int)=z2:=⟨_,rfl⟩
    have HU:=aA (lU ⟨9,x,z1,0,0,0⟩ h3 hz2 (by have:=HM.o;have:=HQl.o;simp;omega))
    have ct1:=h3.at HJ.o
    rw[HX.o] at ct1
    have hg4:=h3.w.cell 3 rfl
    rw[HTl.o] at hg4
    have HL3:=aA (HL2.o.trans h4)
    have HZ2:=aA hz2
    clear h3 h4 hz2 HT2 hg0
    go_wp2_with fail
    refine HU.o.mono ?_
    rintro e V4 ⟨rfl,⟨mv4,h3⟩,h4,-⟩
    have HF4:=aA h3
    have HL4:=aA (HL3.o.trans h4)
    clear h3 h4 HU ct1 hg4
    go_wp2_with fail
    refine bPr (v:=.tuple #[.i z2,.bool true]) (by simp[results,Tryz.results382,go_sem]) rfl (oU.many (Q++[tmI z d,⟨9,x,z1,0,0,0⟩]) ?_ ?_ ⟨mv4,by simpa using HF4.o⟩ HL4.o)
    ·rw[HO.o]
     have e1:=HZ.o
     have e2:=HZ1.o
     have e3:(M.length:Int)+Q.length-1=z:=by omega
     have e4:(M.length:Int)+Q.length=z1:=by rw[lLa] at e2;omega
     show some (Q++[tmI ((M.length:Int)+Q.length-1) d,⟨9,x,(M.length:Int)+Q.length,0,0,0⟩])=_
     rw[e3,e4]
    ·have e2:=HZ2.o
     simp at e2 ⊢
     omega
   ·have HO:=aA h1
    have HB:=aA h3
    clear h1 h3
    go_wp2_with fail
    exact bPr (v:=.tuple #[.i 0,.bool false]) (by simp[results,Tryz.results382,go_sem]) rfl (oU.no (by rw[HO.o];rfl) HB.o)
theorem aIa (n:In){wa:Option Addr}{wn wc:Nat}{L:List In}{S:eO}(h:Wt W V b (.slice wa wn wc) (.slice sa sn sc) mv tv M T)(hL:Ins W wa wn wc L)(hS:Spn.Spans W sa sn sc S)(hTw:T.length<=wn)(hTs:T.length<=sn)(hM:M.length<=1000000)(hok:bE n T.length=true)
  (hSw:∀ r,eD r T.length->Wh (S.getD r.toNat (0,0)).1 (S.getD r.toNat (0,0)).2) (hLw:∀ r,eD r T.length->(rg L r).op=1->w32 (rg L r).k) :
  Calls Tryz.prog 358 #[.pointer (some ⟨b,0,none⟩),.agg (ia n)] V (oU W V b (.slice wa wn wc) (.slice sa sn sc) tv M T (qkL L S T n M.length)):=by
 have HF0:=aA (h.below (aD V (.cells (ia n) 132)))
 have HC0:=aA (aB.new V 132 (ia n))
 have HB0:=aA (aD V (.cells (ia n) 132))
 have HLe:=aA h.le
 have two:ar n.op=2->eD n.a T.length/\eD n.b T.length:=fun e=>⟨Fld.nK hok (by rw[jI e];simp),Fld.nK hok (by rw[jI e];simp)⟩
 by_cases h10:n.op=10
 ·obtain⟨ha,hb⟩:=two (by rw[h10];decide)
  clear two
  unfold qkL
  rw[if_pos h10]
  have HU:=aA (aD5 n HF0.o hL hTw hM ha hb)
  have t10:(n.op==10)=true:=by simpa using h10
  obtain⟨b0,b1,b2,b3,b4,b5⟩:=aH HC0.o
  obtain⟨O,hO⟩:∃ O,(if (rg L n.b).op=1 then some [tmI (gv T n.a) (rg L n.b).k] else if (rg L n.a).op=1 then some [tmI (gv T n.b) (rg L n.a).k] else none)=O:=⟨_,rfl⟩
  rw[hO] at HU ⊢
  clear hO
  clear h hL hS hTw hTs hM hok hSw hLw ha hb h10
  go_enter Tryz.func358,Tryz.ntmps358
  go_wp2_with fail
  refine HU.o.mono ?_
  clear HU b0 b1 b2 b3 b4 b5
  rintro e V2 hQ0
  have hQ:=hQ0.mono HLe.o HB0.o
  clear hQ0
  have HQ:=aA hQ
  rcases hQ with⟨Q,-,rfl,-,-⟩|⟨-,rfl,-⟩
  ·obtain⟨z,hz⟩:∃ z:Int,((M.length+Q.length:Nat):Int)-1=z:=⟨_,rfl⟩
   rw[hz] at HQ ⊢
   clear hz
   go_wp2_with fail
   exact bPr (v:=.tuple #[.i z,.bool true]) (by simp[results,Tryz.results358,go_sem]) rfl (HQ.o)
  ·go_wp2_with fail
   exact bPr (v:=.tuple #[.i 0,.bool false]) (by simp[results,Tryz.results358,go_sem]) rfl (HQ.o)
 by_cases h15:n.op=15
 ·obtain⟨ha,hb⟩:=two (by rw[h15];decide)
  clear two
  unfold qkL
  rw[if_neg h10,if_pos h15]
  have HU:=aA (aL2 n HF0.o hL hTw hM ha hb)
  have t10:(n.op==10)=false:=by simpa using h10
  have t15:(n.op==15)=true:=by simpa using h15
  obtain⟨b0,b1,b2,b3,b4,b5⟩:=aH HC0.o
  obtain⟨O,hO⟩:∃ O,(if (rg L n.b).op=1/\0<=(rg L n.b).k then some [(⟨31,gv T n.a,0,0,(rg L n.b).k,0⟩:In)] else if (rg L n.a).op=1/\0<=(rg L n.a).k then some [⟨31,gv T n.b,0,0,(rg L n.a).k,0⟩] else none)=O:=⟨_,rfl⟩
  rw[hO] at HU ⊢
  clear hO
  clear h hL hS hTw hTs hM hok hSw hLw ha hb h10 h15
  go_enter Tryz.func358,Tryz.ntmps358
  go_wp2_with fail
  refine HU.o.mono ?_
  clear HU b0 b1 b2 b3 b4 b5
  rintro e V2 hQ0
  have hQ:=hQ0.mono HLe.o HB0.o
  clear hQ0
  have HQ:=aA hQ
  rcases hQ with⟨Q,-,rfl,-,-⟩|⟨-,rfl,-⟩
  ·obtain⟨z,hz⟩:∃ z:Int,((M.length+Q.length:Nat):Int)-1=z:=⟨_,rfl⟩
   rw[hz] at HQ ⊢
   clear hz
   go_wp2_with fail
   exact bPr (v:=.tuple #[.i z,.bool true]) (by simp[results,Tryz.results358,go_sem]) rfl (HQ.o)
  ·go_wp2_with fail
   exact bPr (v:=.tuple #[.i 0,.bool false]) (by simp[results,Tryz.results358,go_sem]) rfl (HQ.o)
 by_cases h13:n.op=13
 ·obtain⟨ha,hb⟩:=two (by rw[h13];decide)
  clear two
  unfold qkL
  rw[if_neg h10,if_neg h15,if_pos h13]
  have HU:=aA (aAj n 29 HF0.o hL hTw hM ha hb)
  have t10:(n.op==10)=false:=by simpa using h10
  have t15:(n.op==15)=false:=by simpa using h15
  have t13:(n.op==13)=true:=by simpa using h13
  obtain⟨b0,b1,b2,b3,b4,b5⟩:=aH HC0.o
  obtain⟨O,hO⟩:∃ O,(if (rg L n.b).op=1 then some [(⟨29,gv T n.a,0,0,(rg L n.b).k,0⟩:In)] else none)=O:=⟨_,rfl⟩
  rw[hO] at HU ⊢
  clear hO
  clear h hL hS hTw hTs hM hok hSw hLw ha hb h10 h15 h13
  go_enter Tryz.func358,Tryz.ntmps358
  go_wp2_with fail
  refine HU.o.mono ?_
  clear HU b0 b1 b2 b3 b4 b5
  rintro e V2 hQ0
  have hQ:=hQ0.mono HLe.o HB0.o
  clear hQ0
  have HQ:=aA hQ
  rcases hQ with⟨Q,-,rfl,-,-⟩|⟨-,rfl,-⟩
  ·obtain⟨z,hz⟩:∃ z:Int,((M.length+Q.length:Nat):Int)-1=z:=⟨_,rfl⟩
   rw[hz] at HQ ⊢
   clear hz
   go_wp2_with fail
   exact bPr (v:=.tuple #[.i z,.bool true]) (by simp[results,Tryz.results358,go_sem]) rfl (HQ.o)
  ·go_wp2_with fail
   exact bPr (v:=.tuple #[.i 0,.bool false]) (by simp[results,Tryz.results358,go_sem]) rfl (HQ.o)
 by_cases h14:n.op=14
 ·obtain⟨ha,hb⟩:=two (by rw[h14];decide)
  clear two
  unfold qkL
  rw[if_neg h10,if_neg h15,if_neg h13,if_pos h14]
  have HU:=aA (aAj n 30 HF0.o hL hTw hM ha hb)
  have t10:(n.op==10)=false:=by simpa using h10
  have t15:(n.op==15)=false:=by simpa using h15
  have t13:(n.op==13)=false:=by simpa using h13
  have t14:(n.op==14)=true:=by simpa using h14
  obtain⟨b0,b1,b2,b3,b4,b5⟩:=aH HC0.o
  obtain⟨O,hO⟩:∃ O,(if (rg L n.b).op=1 then some [(⟨30,gv T n.a,0,0,(rg L n.b).k,0⟩:In)] else none)=O:=⟨_,rfl⟩
  rw[hO] at HU ⊢
  clear hO
  clear h hL hS hTw hTs hM hok hSw hLw ha hb h10 h15 h13 h14
  go_enter Tryz.func358,Tryz.ntmps358
  go_wp2_with fail
  refine HU.o.mono ?_
  clear HU b0 b1 b2 b3 b4 b5
  rintro e V2 hQ0
  have hQ:=hQ0.mono HLe.o HB0.o
  clear hQ0
  have HQ:=aA hQ
  rcases hQ with⟨Q,-,rfl,-,-⟩|⟨-,rfl,-⟩
  ·obtain⟨z,hz⟩:∃ z:Int,((M.length+Q.length:Nat):Int)-1=z:=⟨_,rfl⟩
   rw[hz] at HQ ⊢
   clear hz
   go_wp2_with fail
   exact bPr (v:=.tuple #[.i z,.bool true]) (by simp[results,Tryz.results358,go_sem]) rfl (HQ.o)
  ·go_wp2_with fail
   exact bPr (v:=.tuple #[.i 0,.bool false]) (by simp[results,Tryz.results358,go_sem]) rfl (HQ.o)
 by_cases h11:n.op=11
 ·obtain⟨ha,hb⟩:=two (by rw[h11];decide)
  clear two
  unfold qkL
  rw[if_neg h10,if_neg h15,if_neg h13,if_neg h14,if_pos h11]
  have HNu:=aA (gK n.b HF0.o hL ⟨hb.1,by have:=hb.2;omega⟩)
  have HU:=aA fun(V1:World) (h1:Wt W V1 b (.slice wa wn wc) (.slice sa sn sc) mv tv M T) (hw:w32 (rg L n.b).k)=>aBz n.a (rg L n.b).k h1 hS hTs hM ha (lo:=(S.getD n.a.toNat (0,0)).1) (hi:=(S.getD n.a.toNat (0,0)).2) rfl (hSw n.a ha)
  have HW:=aA fun h1=>hLw n.b hb h1
  have t10:(n.op==10)=false:=by simpa using h10
  have t15:(n.op==15)=false:=by simpa using h15
  have t13:(n.op==13)=false:=by simpa using h13
  have t14:(n.op==14)=false:=by simpa using h14
  have t11:(n.op==11)=true:=by simpa using h11
  obtain⟨p,hp⟩:∃ p,rg L n.b=p:=⟨_,rfl⟩
  rw[hp] at HNu HU HW ⊢
  obtain⟨b0,b1,b2,b3,b4,b5⟩:=aH HC0.o
  clear h hL hS hTw hTs hM hok hSw hLw ha hb hp h10 h15 h13 h14 h11
  by_cases h1:p.op=1
  ·rw[if_pos h1]
   obtain⟨O,hO⟩:∃ O,(dvL (S.getD n.a.toNat (0,0)).1 (S.getD n.a.toNat (0,0)).2 (gv T n.a) p.k M.length)=O:=⟨_,rfl⟩
   rw[hO] at HU ⊢
   clear hO
   have HW2:=aA (HW.o h1)
   have q1:(p.op==1)=true:=by simpa using h1
   rw[q1] at HNu
   clear h1 q1
   go_enter Tryz.func358,Tryz.ntmps358
   go_wp2_with fail
   refine HNu.o.mono ?_
   rintro e V1 ⟨rfl,hb⟩
   have HF1:=aA (HF0.o.below hb)
   have HB1:=aA (bel HB0.o hb)
   have HU1:=aA (HU.o V1 HF1.o HW2.o)
   have hc1:=HC0.o.below hb
   clear b0 b1 b2 b3 b4 b5 hb HNu HU
   obtain⟨b0,b1,b2,b3,b4,b5⟩:=aH hc1
   clear hc1
   go_wp2_with fail
   refine HU1.o.mono ?_
   clear HU1 b0 b1 b2 b3 b4 b5
   rintro e V2 hQ0
   have hQ:=hQ0.mono HLe.o HB1.o
   clear hQ0
   have HQ:=aA hQ
   rcases hQ with⟨Q,-,rfl,-,-⟩|⟨-,rfl,-⟩
   ·obtain⟨z,hz⟩:∃ z:Int,((M.length+Q.length:Nat):Int)-1=z:=⟨_,rfl⟩
    rw[hz] at HQ ⊢
    clear hz
    go_wp2_with fail
    exact bPr (v:=.tuple #[.i z,.bool true]) (by simp[results,Tryz.results358,go_sem]) rfl (HQ.o)
   ·go_wp2_with fail
    exact bPr (v:=.tuple #[.i 0,.bool false]) (by simp[results,Tryz.results358,go_sem]) rfl (HQ.o)
  ·rw[if_neg h1]
   have q1:(p.op==1)=false:=by simpa using h1
   rw[q1] at HNu
   clear h1 q1
   go_enter Tryz.func358,Tryz.ntmps358
   go_wp2_with fail
   refine HNu.o.mono ?_
   rintro e V1 ⟨rfl,hb⟩
   have HB1:=aA (bel HB0.o hb)
   clear hb HNu HU
   go_wp2_with fail
   exact bPr (v:=.tuple #[.i 0,.bool false]) (by simp[results,Tryz.results358,go_sem]) rfl (oU.no rfl HB1.o)
 by_cases h12:n.op=12
 ·obtain⟨ha,hb⟩:=two (by rw[h12];decide)
  clear two
  unfold qkL
  rw[if_neg h10,if_neg h15,if_neg h13,if_neg h14,if_neg h11,if_pos h12]
  have HNu:=aA (gK n.b HF0.o hL ⟨hb.1,by have:=hb.2;omega⟩)
  have HU:=aA fun(V1:World) (h1:Wt W V1 b (.slice wa wn wc) (.slice sa sn sc) mv tv M T) (hw:w32 (rg L n.b).k)=>aL4 n.a (rg L n.b).k hw h1 hS hTs hM ha (lo:=(S.getD n.a.toNat (0,0)).1) (hi:=(S.getD n.a.toNat (0,0)).2) rfl (hSw n.a ha)
  have HW:=aA fun h1=>hLw n.b hb h1
  have t10:(n.op==10)=false:=by simpa using h10
  have t15:(n.op==15)=false:=by simpa using h15
  have t13:(n.op==13)=false:=by simpa using h13
  have t14:(n.op==14)=false:=by simpa using h14
  have t11:(n.op==11)=false:=by simpa using h11
  have t12:(n.op==12)=true:=by simpa using h12
  obtain⟨p,hp⟩:∃ p,rg L n.b=p:=⟨_,rfl⟩
  rw[hp] at HNu HU HW ⊢
  obtain⟨b0,b1,b2,b3,b4,b5⟩:=aH HC0.o
  clear h hL hS hTw hTs hM hok hSw hLw ha hb hp h10 h15 h13 h14 h11 h12
  by_cases h1:p.op=1
  ·rw[if_pos h1]
   obtain⟨O,hO⟩:∃ O,(if 0 < wS p.k/\0<=(S.getD n.a.toNat (0,0)).1 then some [(⟨31,gv T n.a,0,0,p.k-1,0⟩:In)] else(dvL (S.getD n.a.toNat (0,0)).1 (S.getD n.a.toNat (0,0)).2 (gv T n.a) p.k M.length).map fun Q=>Q++[tmI (M.length+Q.length-1) p.k,⟨9,gv T n.a,M.length+Q.length,0,0,0⟩])=O:=⟨_,rfl⟩
   rw[hO] at HU ⊢
   clear hO
   have HW2:=aA (HW.o h1)
   have q1:(p.op==1)=true:=by simpa using h1
   rw[q1] at HNu
   clear h1 q1
   go_enter Tryz.func358,Tryz.ntmps358
   go_wp2_with fail
   refine HNu.o.mono ?_
   rintro e V1 ⟨rfl,hb⟩
   have HF1:=aA (HF0.o.below hb)
   have HB1:=aA (bel HB0.o hb)
   have HU1:=aA (HU.o V1 HF1.o HW2.o)
   have hc1:=HC0.o.below hb
   clear b0 b1 b2 b3 b4 b5 hb HNu HU
   obtain⟨b0,b1,b2,b3,b4,b5⟩:=aH hc1
   clear hc1
   go_wp2_with fail
   refine HU1.o.mono ?_
   clear HU1 b0 b1 b2 b3 b4 b5
   rintro e V2 hQ0
   have hQ:=hQ0.mono HLe.o HB1.o
   clear hQ0
   have HQ:=aA hQ
   rcases hQ with⟨Q,-,rfl,-,-⟩|⟨-,rfl,-⟩
   ·obtain⟨z,hz⟩:∃ z:Int,((M.length+Q.length:Nat):Int)-1=z:=⟨_,rfl⟩
    rw[hz] at HQ ⊢
    clear hz
    go_wp2_with fail
    exact bPr (v:=.tuple #[.i z,.bool true]) (by simp[results,Tryz.results358,go_sem]) rfl (HQ.o)
   ·go_wp2_with fail
    exact bPr (v:=.tuple #[.i 0,.bool false]) (by simp[results,Tryz.results358,go_sem]) rfl (HQ.o)
  ·rw[if_neg h1]
   have q1:(p.op==1)=false:=by simpa using h1
   rw[q1] at HNu
   clear h1 q1
   go_enter Tryz.func358,Tryz.ntmps358
   go_wp2_with fail
   refine HNu.o.mono ?_
   rintro e V1 ⟨rfl,hb⟩
   have HB1:=aA (bel HB0.o hb)
   clear hb HNu HU
   go_wp2_with fail
   exact bPr (v:=.tuple #[.i 0,.bool false]) (by simp[results,Tryz.results358,go_sem]) rfl (oU.no rfl HB1.o)
 have hq:qkL L S T n M.length=none:=by unfold qkL;rw[if_neg h10,if_neg h15,if_neg h13,if_neg h14,if_neg h11,if_neg h12]
 rw[hq]
 obtain⟨b0,b1,b2,b3,b4,b5⟩:=aH HC0.o
 have t10:(n.op==10)=false:=by simpa using h10
 have t15:(n.op==15)=false:=by simpa using h15
 have t13:(n.op==13)=false:=by simpa using h13
 have t14:(n.op==14)=false:=by simpa using h14
 have t11:(n.op==11)=false:=by simpa using h11
 have t12:(n.op==12)=false:=by simpa using h12
 clear h hL hS hTw hTs hM hok hSw hLw two hq h10 h15 h13 h14 h11 h12
 go_enter Tryz.func358,Tryz.ntmps358
 go_wp2_with fail
 exact bPr (v:=.tuple #[.i 0,.bool false]) (by simp[results,Tryz.results358,go_sem]) rfl (oU.no rfl HB0.o)
end
open Go.RowKit Go.IntWalk Knd
open Cde (In i0 ia kd cd Ins sI aH aC aP aJ bE eH aF dL i6 zA aG)
open Vfy (aW rM pJ sD eO w32)
open Fld (eD rg gv ar jI dH)
open YticnbcfmbhjbgaaGreatDoor (aB)
open Fld (iE aU own_ne)
variable {L:List In}
theorem aUr (L:List In)(S:eO)(T:List Int)(n:In)(m:Int):(rdW L S T n m).length<=6:=by
 unfold rdW
 cases hq:qkL L S T n m with
 | none=>simp
 | some W =>
  show W.length<=6
  unfold qkL at hq
  repeat' split at hq
  all_goals first
   | (cases hq;simp;done)
   | (have:=aCm hq;omega)
   | (obtain⟨Q,hQ,rfl⟩:=Option.map_eq_some_iff.1 hq;have:=aCm hQ;simp;omega)
   | cases hq
theorem aP5 (L:List In)(S:eO):∀ k,k<=L.length->(vM L S (L.take k)).1.length<=6*k
 | 0,_=>by simp[vM]
 | k+1,hk=>by
  have ih:=aP5 L S k (by omega)
  have:=aUr L S (vM L S (L.take k)).2 (L.getD k i0) (vM L S (L.take k)).1.length
  rw[qK S (by omega),rdS]
  show ((vM L S (L.take k)).1++_).length<=_
  rw[lLa]
  omega
theorem mE {V V':World}{b q:Nat}{t:TypeId}{cs:Array Value}(h:aB V q t cs)(hq:q < b)(hb:Below b V V'):aB V' q t cs:=(hb.block q hq).trans h
theorem aUp {S:eO}{M Q:List In}{T:List Int}{q:In}{z:Int}(h:qkL L S T q M.length=some Q)(hz:((M.length+Q.length:Nat):Int)-1=z):rdS L S (M,T) q=(M++Q,T++[z]):=by
 subst hz
 have e:rdW L S T q M.length=Q:=by rw[rdW,h];rfl
 unfold rdS
 rw[e]
theorem aYx {S:eO}{M:List In}{T:List Int}{q:In}{z:Int}(h:qkL L S T q M.length=none)(hz:(M.length:Int)=z):rdS L S (M,T) q=(M++[dH q T],T++[z]):=by
 subst hz
 have e:rdW L S T q M.length=[dH q T]:=by rw[rdW,h];rfl
 unfold rdS
 rw[e]
 simp
theorem rd_facts {f d:Int}{out:Int}(h:aW f d L out=0):1<=L.length/\L.length<=200/\0<=out/\out < L.length/\(sD f d L out).length=L.length/\eH L L.length=true/\(∀ r:Int,eD r L.length->Wh ((sD f d L out).getD r.toNat (0,0)).1 ((sD f d L out).getD r.toNat (0,0)).2)/\(∀ r,eD r L.length->(rg L r).op=1->w32 (rg L r).k):=by
 obtain⟨m,-,⟨S,hS,hSl,hs⟩,-⟩:=Vfy.aI h
 obtain⟨hm,m1,m2,o0,o1,hok⟩:=Cde.aQ m
 refine⟨m1,m2,o0,o1,by rw[hs];exact hSl,hok,fun r hr=>?_,fun r hr ho=>?_⟩
 ·rw[hs]
  have hl:r.toNat < S.length:=by rw[hSl];exact hr.2
  have:=Vfy.aBv hm hok L.length (nLr _) S (by rw[lTg];exact hS) (S.getD r.toNat (0,0)) (by rw[gdE,gEg hl];exact List.getElem_mem _)
  exact Spn.bF.1 this
 ·obtain⟨V,-,hVl,hOd⟩:=aFh h (Fld.aAl hm)
  rw[<-hOd.rv.num hr ho]
  exact hOd.w hr
theorem aD6 (f d out:Int){a:Option Addr}{n cap:Nat}{sa:Option Addr}{sn sc:Nat}{W:World}(hL:Ins W a n cap L)(h:aW f d L out=0)(hS:Spn.Spans W sa sn sc (sD f d L out)) :
  Calls Tryz.prog 330 #[.agg (cd f d a n cap out),.slice sa sn sc] W fun e W'=>∃ a' m c',(rdN f d L out).length=m/\e=.returned (.agg (cd f d a' m c' (rdO f d L out)))/\W'.ownsRow W.heap.size 132 6 (.slice a' m c') m (dL (rdN f d L out))/\Below W.heap.size W W':=by
 obtain⟨m1,m2,o0,o1,hsl,hok,hSw,hLw⟩:=rd_facts h
 have hsn:=hS.len
 unfold rdN rdO
 obtain⟨S,hSe⟩:∃ S,sD f d L out=S:=⟨_,rfl⟩
 rw[hSe] at hsl hSw hS hsn ⊢
 rw[hL.len] at m1 m2 o1 hsl hok hSw hLw
 have hsn':n=sn:=by omega
 subst hsn'
 obtain⟨o,rfl⟩:∃ o:Nat,out=o:=⟨out.toNat,by omega⟩
 have HLI:=aA hL
 have HLn:=aA hL.len
 have HSI:=aA hS
 have HOk:=aA hok
 have HSu:=aA fun k (hk:k < n)=>qK S (L:=L) (k:=k) (by rw[hL.len];exact hk)
 have HFew:=aA fun k (hk:k<=n)=>aP5 L S k (by rw[hL.len];exact hk)
 have HSw:=aA hSw
 have HLw:=aA hLw
 have HB0:Hid (aB (((W.alloc (.cells (cd f d a n cap (o:Int)) 33)).alloc (.cells cO 33)).alloc (.cells #[.slice a n cap,.slice sa n sc,.slice none 0 0,.slice none 0 0] 377)) W.heap.size 33 (cd f d a n cap (o:Int))/\aB (((W.alloc (.cells (cd f d a n cap (o:Int)) 33)).alloc (.cells cO 33)).alloc (.cells #[.slice a n cap,.slice sa n sc,.slice none 0 0,.slice none 0 0] 377)) (W.heap.size+1) 33 cO /\
   Wt W (((W.alloc (.cells (cd f d a n cap (o:Int)) 33)).alloc (.cells cO 33)).alloc (.cells #[.slice a n cap,.slice sa n sc,.slice none 0 0,.slice none 0 0] 377)) (W.heap.size+1+1) (.slice a n cap) (.slice sa n sc) (.slice none 0 0) (.slice none 0 0) [] []):=by
  have b1:=aD W (.cells (cd f d a n cap (o:Int)) 33)
  have b2:=bel b1 (aD _ (.cells cO 33))
  have b3:=bel b2 (aD _ (.cells #[.slice a n cap,.slice sa n sc,.slice none 0 0,.slice none 0 0] 377))
  have h3:=aB.new ((W.alloc (.cells (cd f d a n cap (o:Int)) 33)).alloc (.cells cO 33)) 377 #[.slice a n cap,.slice sa n sc,.slice none 0 0,.slice none 0 0]
  rw[wSa,wSa] at h3
  exact aA ⟨((aB.new W 33 (cd f d a n cap (o:Int))).alloc _).alloc _,(aJ W (.cells (cd f d a n cap (o:Int)) 33) 33 cO).alloc _,h3,⟨rfl,.inl ⟨rfl,rfl⟩⟩,⟨rfl,.inl ⟨rfl,rfl⟩⟩,b3,by omega⟩
 clear hL h hS hok hSw hLw hsn hSe
 go_enter Tryz.func330,Tryz.ntmps330
 go_wp2_with fail
 obtain⟨b,hbe⟩:∃ b,W.heap.size+1+1=b:=⟨_,rfl⟩
 rw[hbe] at HB0 ⊢
 have HBe:=aA hbe
 clear hbe
 go_loopw [17] (fun i wr=>∃(k:Nat) (M:List In) (T:List Int) (mv tv:Value),k<=n/\i=.i k/\Hid (vM L S (L.take k)=(M,T))/\Hid (T.length=k)/\Hid (aB wr W.heap.size 33 (cd f d a n cap (o:Int))/\aB wr (W.heap.size+1) 33 cO/\Wt W wr b (.slice a n cap) (.slice sa n sc) mv tv M T)) (fun i _=>n-(intOf i).toNat)
 case atStart=>exact⟨0,[],[],_,_,nZl _,rfl,aA rfl,aA rfl,HB0⟩
 case round =>
  obtain⟨k,M,T,mv,tv,hk,rfl,HM,HTl,HF⟩:=hrel
  rename World=>V
  clear HB0
  by_cases hlt:k < n
  ·obtain⟨gl,off,rfl,-,hat⟩:=(HLI.o.later HF.o.2.2.lo).at (by omega)
   obtain⟨e0,e1,e2,e3,e4,e5⟩:=hat k hlt
   clear hat
   have hi0:(0:Int)<=k:=by omega
   have hi1:(k:Int) < n:=by omega
   have hSu:=HSu.o k hlt
   have hfew:=HFew.o k (by omega)
   rw[HM.o] at hSu hfew
   have hfew2:M.length<=6*k:=hfew
   have hOk:=Cde.dE HOk.o hlt
   generalize L.getD k i0=q at *
   have HC1:=aA (aB.new V 132 (ia q))
   have HF1:=aA (show aB (V.alloc (.cells (ia q) 132)) W.heap.size 33 _/\aB (V.alloc (.cells (ia q) 132)) (W.heap.size+1) 33 cO/\Wt W (V.alloc (.cells (ia q) 132)) b _ _ _ _ _ T from⟨HF.o.1.below (aD V (.cells (ia q) 132)),HF.o.2.1.below (aD V (.cells (ia q) 132)),HF.o.2.2.below (aD V (.cells (ia q) 132))⟩)
   have hch:=aIa q HF1.o.2.2 HLI.o HSI.o (by rw[HTl.o];omega) (by rw[HTl.o];omega) (by omega) (by rw[HTl.o];exact hOk) (fun r hr=>HSw.o r ⟨hr.1,by have:=hr.2;have:=HTl.o;omega⟩) (fun r hr ho=>HLw.o r ⟨hr.1,by have:=hr.2;have:=HTl.o;omega⟩ ho)
   obtain⟨O,hO⟩:∃ O,qkL L S T q M.length=O:=⟨_,rfl⟩
   rw[hO] at hch
   have HCh:=aA hch
   have HY:=aA fun Q z (h:O=some Q) hz=>hSu.trans (aUp (z:=z) (hO.trans h) hz)
   have HN:=aA fun z (h:O=none) hz=>hSu.trans (aYx (z:=z) (hO.trans h) hz)
   have HMk:Hid (M.length<=1200):=aA (by omega)
   clear hO hSu hOk hch hfew hfew2
   go_wp2_with fail
   refine HCh.o.mono ?_
   clear HCh e0 e1 e2 e3 e4 e5
   rintro e V2 (⟨Q,h1,rfl,⟨mv2,h3⟩,h4⟩|⟨h1,rfl,h3⟩)
   ·obtain⟨z,hz⟩:∃ z:Int,((M.length+Q.length:Nat):Int)-1=z:=⟨_,rfl⟩
    rw[hz]
    have HZ:=aA (HY.o Q z h1 hz)
    obtain⟨ta,tc,rfl,-⟩:=h3.ints
    have HF2:=aA (show aB V2 W.heap.size 33 _/\aB V2 (W.heap.size+1) 33 cO/\Wt W V2 b _ _ _ _ _ T from⟨mE HF1.o.1 (by have:=HBe.o;omega) h4,mE HF1.o.2.1 (by have:=HBe.o;omega) h4,h3⟩)
    clear h1 h3 h4 hz HY HN
    have HF2b:=aA (show aB (V2.alloc (.cells #[.i z] 3)) W.heap.size 33 _/\aB (V2.alloc (.cells #[.i z] 3)) (W.heap.size+1) 33 cO/\Wt W (V2.alloc (.cells #[.i z] 3)) b _ _ _ _ _ T from⟨HF2.o.1.below (aD V2 (.cells #[.i z] 3)),HF2.o.2.1.below (aD V2 (.cells #[.i z] 3)),HF2.o.2.2.below (aD V2 (.cells #[.i z] 3))⟩)
    have HN9:=aA (aB.new V2 3 #[.i z])
    have tcl:=HF2.o.2.2.w.cell 3 rfl
    have hbl:=HF2.o.2.2.w.lt
    go_wp2_with (at_builtin;refine iE rfl _ _ rfl rfl HF2b.o.2.2.t HF2b.o.2.2.le _ z rfl HN9.o (by rw[HTl.o];omega) ?_;intro g cap' w3 hown hgr;obtain⟨hW4,hB4⟩:=HF2b.o.2.2.growT hgr hown;have hc3:=aU HF2b.o.2.2.t hgr HF2b.o.2.2.w (by decide);have v3:=hc3.cell 3 rfl;have yv:=hc3.frozen 3;have hl3:=hc3.lt)
    have HF9:=aA (show aB _ W.heap.size 33 _/\aB _ (W.heap.size+1) 33 cO/\Wt W _ b _ _ _ _ _ _ from⟨mE HF2b.o.1 (by have:=HBe.o;omega) hB4,mE HF2b.o.2.1 (by have:=HBe.o;omega) hB4,hW4⟩)
    clear hown hgr hW4 hB4 hc3
    go_wp2_with fail
    go_roundw
    case rel=>exact⟨k+1,M++Q,T++[z],_,_,by omega,by go_num,HZ,aA (by simp[HTl.o]),HF9⟩
    case measure=>simp[intOf];omega
   ·obtain⟨ta,tc,rfl,-⟩:=HF.o.2.2.ints
    have HF2:=aA (show aB V2 W.heap.size 33 _/\aB V2 (W.heap.size+1) 33 cO/\Wt W V2 b _ _ _ _ _ T from⟨HF1.o.1.below h3,HF1.o.2.1.below h3,HF1.o.2.2.below h3⟩)
    have HC2:=aA (HC1.o.below h3)
    obtain⟨ta',tc',e',hI⟩:=HF2.o.2.2.ints
    cases e'
    have HTh:=aA (Fld.gP q hI)
    obtain⟨z,hz⟩:∃ z:Int,(M.length:Int)=z:=⟨_,rfl⟩
    have HZ:=aA (HN.o z h1 hz)
    have HMl:=aA hz
    obtain⟨e0,e1,e2,e3,e4,e5⟩:=aH HC2.o
    have tcl0:=HF2.o.2.2.w.cell 3 rfl
    clear h1 h3 hz hI HY HN
    generalize dH q T=u at *
    go_wp2_with fail
    refine HTh.o.mono ?_
    rintro e V3 ⟨rfl,hb⟩
    have HF3:=aA (show aB V3 W.heap.size 33 _/\aB V3 (W.heap.size+1) 33 cO/\Wt W V3 b _ _ _ _ _ T from⟨HF2.o.1.below hb,HF2.o.2.1.below hb,HF2.o.2.2.below hb⟩)
    have HU:=aA (lU u HF3.o.2.2 HMl.o (by have:=HMk.o;omega))
    clear hb HTh e0 e1 e2 e3 e4 e5 tcl0
    go_wp2_with fail
    refine HU.o.mono ?_
    rintro e V4 ⟨rfl,⟨mv4,h3⟩,h4,-⟩
    have HF4:=aA (show aB V4 W.heap.size 33 _/\aB V4 (W.heap.size+1) 33 cO/\Wt W V4 b _ _ _ _ _ T from⟨mE HF3.o.1 (by have:=HBe.o;omega) h4,mE HF3.o.2.1 (by have:=HBe.o;omega) h4,h3⟩)
    clear h3 h4 HU
    have HF4b:=aA (show aB (V4.alloc (.cells #[.i z] 3)) W.heap.size 33 _/\aB (V4.alloc (.cells #[.i z] 3)) (W.heap.size+1) 33 cO/\Wt W (V4.alloc (.cells #[.i z] 3)) b _ _ _ _ _ T from⟨HF4.o.1.below (aD V4 (.cells #[.i z] 3)),HF4.o.2.1.below (aD V4 (.cells #[.i z] 3)),HF4.o.2.2.below (aD V4 (.cells #[.i z] 3))⟩)
    have HN9:=aA (aB.new V4 3 #[.i z])
    have tcl:=HF4.o.2.2.w.cell 3 rfl
    have hbl:=HF4.o.2.2.w.lt
    go_wp2_with (at_builtin;refine iE rfl _ _ rfl rfl HF4b.o.2.2.t HF4b.o.2.2.le _ z rfl HN9.o (by rw[HTl.o];omega) ?_;intro g cap' w3 hown hgr;obtain⟨hW4,hB4⟩:=HF4b.o.2.2.growT hgr hown;have hc3:=aU HF4b.o.2.2.t hgr HF4b.o.2.2.w (by decide);have v3:=hc3.cell 3 rfl;have yv:=hc3.frozen 3;have hl3:=hc3.lt)
    have HF9:=aA (show aB _ W.heap.size 33 _/\aB _ (W.heap.size+1) 33 cO/\Wt W _ b _ _ _ _ _ _ from⟨mE HF4b.o.1 (by have:=HBe.o;omega) hB4,mE HF4b.o.2.1 (by have:=HBe.o;omega) hB4,hW4⟩)
    clear hown hgr hW4 hB4 hc3
    go_wp2_with fail
    go_roundw
    case rel=>exact⟨k+1,M++[u],T++[z],_,_,by omega,by go_num,HZ,aA (by simp[HTl.o]),HF9⟩
    case measure=>simp[intOf];omega
  ·obtain rfl:k=n:=by omega
   have hM:=HM.o
   rw[lTl (by rw[HLn.o];exact nLr _)] at hM
   obtain⟨ma,mc,rfl,-,-⟩:=Ins.of_owns HF.o.2.2.m
   obtain⟨j,gt,ct,ej,hj,htl,rfl,ct0⟩:=HF.o.2.2.reg (r:=(o:Int)) ⟨by omega,by have:=HTl.o;omega⟩
   obtain rfl:o=j:=by omega
   obtain⟨z,hz⟩:∃ z,gv T (o:Int)=z:=⟨_,rfl⟩
   rw[hz] at ct0
   have HR:Hid ((vM L S L).1=M/\(vM L S L).2.getD ((o:Int)).toNat 0=z):=aA (by rw[hM];exact⟨rfl,hz⟩)
   obtain⟨c0,c1,c2,c3⟩:=aC HF.o.1
   obtain⟨p0,p1,p2,p3⟩:=aC HF.o.2.1
   have hf0:=HF.o.2.1.frozen 0
   have hf1:=HF.o.2.1.frozen 1
   have hf2:=HF.o.2.1.frozen 2
   have hf3:=HF.o.2.1.frozen 3
   have t2:=HF.o.2.2.w.cell 2 rfl
   have t3:=HF.o.2.2.w.cell 3 rfl
   have hw0:W.heap.size < V.heap.size:=HF.o.1.lt
   have hw1:W.heap.size+1 < V.heap.size:=HF.o.2.1.lt
   have hw2:b < V.heap.size:=HF.o.2.2.w.lt
   have i0':(0:Int)<=o:=by omega
   obtain⟨tl,htl'⟩:∃ tl,T.length=tl:=⟨_,rfl⟩
   rw[htl'] at t3 hj htl
   obtain⟨ml,hml⟩:∃ ml,M.length=ml:=⟨_,rfl⟩
   rw[hml] at t2 HF
   have HMl:=aA hml
   have i1':(o:Int) < tl:=by omega
   clear hz hM HM HOk HSu ej htl' hml HFew HSw HLw HSI
   go_wp2_with fail
   go_region
   have hq:(Value.slice ma ml mc).ownBlock≠some (W.heap.size+1):=own_ne HF.o.2.2.m HF.o.2.1 (by decide)
   have HO5:=aA (((((HF.o.2.1.set 0 (.i f)).set 1 (.i d)).set 2 (.slice ma ml mc)).set 3 (.i z)).below (aF _))
   have HM5:=aA ((ownsRow_setCell_other (ownsRow_setCell_other (ownsRow_setCell_other (ownsRow_setCell_other (Cde.bS HF.o.2.2.m HF.o.2.2.hb) (a:=⟨W.heap.size+1,0,none⟩) hq (.i f)) (a:=⟨W.heap.size+1,1,none⟩) hq (.i d)) (a:=⟨W.heap.size+1,2,none⟩) hq (.slice ma ml mc)) (a:=⟨W.heap.size+1,3,none⟩) hq (.i z)).drew)
   have HB5:=aA (((((HF.o.2.2.lo.setCell (p:=⟨W.heap.size+1,0,none⟩) (by simp) (.i f)).setCell (p:=⟨W.heap.size+1,1,none⟩) (by simp) (.i d)).setCell (p:=⟨W.heap.size+1,2,none⟩) (by simp) (.slice ma ml mc)).setCell (p:=⟨W.heap.size+1,3,none⟩) (by simp) (.i z)).drew)
   obtain⟨V5,hV5⟩:∃ V5,((((V.setCell ⟨W.heap.size+1,0,none⟩ (.i f)).setCell ⟨W.heap.size+1,1,none⟩ (.i d)).setCell ⟨W.heap.size+1,2,none⟩ (.slice ma ml mc)).setCell ⟨W.heap.size+1,3,none⟩ (.i z)).drew=V5:=⟨_,rfl⟩
   rw[hV5] at HO5 HM5 HB5 ⊢
   obtain⟨x0,x1,x2,x3⟩:=aC HO5.o
   rw[HMl.o] at HM5
   clear hV5 c0 c1 c2 c3 p0 p1 p2 p3 hf0 hf1 hf2 hf3 t2 t3 ct0 hq
   go_wp2_with fail
   exact bPr (v:=.agg (cd f d ma ml mc z)) (by simp[results,Tryz.results330,go_sem,x0,x1,x2,x3]) rfl ⟨ma,ml,mc,by rw[HR.o.1];exact HMl.o,by rw[HR.o.2],by rw[HR.o.1];exact HM5.o,HB5.o⟩
end Go.Proofs.Rdc
