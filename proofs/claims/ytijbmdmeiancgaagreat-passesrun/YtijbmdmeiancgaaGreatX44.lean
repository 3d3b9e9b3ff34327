import Derived.Test.YtijbmdmeiancgaaGreatXH
import Derived.Test.YtijbmdmeiancgaaGreatX43
set_option maxRecDepth 100000
set_option maxHeartbeats 32000000
set_option linter.unusedVariables false
namespace Go.Proofs.Rdc
open Go.RowKit Go.IntWalk Knd
open Cde (In i0 ia kd cd Ins kM aJ aG bB aL bJ eO aD bG i6 zA aM)
open Vfy (bL kN kK eH w32)
open Fld (bO rg gv ar fA)
variable {V W:World} {b sc sn wc wn:Nat} {dd f out:Int} {sa wa:Option Addr} {mv tv:Value} {L M:List In} {T:List Int}
theorem aQl (n:In)(hop:n.op=10){S:eH}(h:Mt W V b f dd out (.slice wa wn wc) (.slice sa sn sc) mv tv M T)(hL:Ins W wa wn wc L)(hS:Spn.Spans W sa sn sc S)(hTw:T.length<=wn)(hTs:T.length<=sn)(hM:M.length<=1000000)(ia':bO n.a T.length)(ib':bO n.b T.length)
  (hSw:∀ r,bO r T.length->Wh (S.getD r.toNat (0,0)).1 (S.getD r.toNat (0,0)).2) (hLw:∀ r,bO r T.length->(rg L r).op=1->w32 (rg L r).k) :
  Calls Tryz.prog 61 #[.pointer (some ⟨b,0,none⟩),.agg (ia n)] V (iY W V b f dd out (.slice wa wn wc) (.slice sa sn sc) tv M T (kF L S T n M.length)):=by
 have hb1:=aH V (.cells (ia n) 57)
 have HF0:=aC (h.below hb1)
 have HN0:=aC (aI.new V 57 (ia n))
 have HB0:=aC hb1
 have HLe:=aC h.le
 have HM:=aC hM
 have hs:=hL.short
 obtain⟨na,gt,ct,ea,hja,htl,rfl,cta⟩:=HF0.o.reg ia'
 obtain⟨nb,gt',ct',eb,hjb,-,e',ctb⟩:=HF0.o.reg ib'
 cases e'
 obtain⟨xa,hxa⟩:∃ x,gv T n.a=x:=⟨_,rfl⟩
 obtain⟨xb,hxb⟩:∃ x,gv T n.b=x:=⟨_,rfl⟩
 rw[hxa] at cta
 rw[hxb] at ctb
 obtain⟨gl,off,rfl,hgl,hat⟩:=(hL.later HF0.o.lo).at (by omega)
 obtain⟨a0,a1,a2,a3,a4,a5⟩:=hat na (by omega)
 obtain⟨b0,b1,b2,b3,b4,b5⟩:=hat nb (by omega)
 have hA:rg L n.a=L.getD na i0:=by rw[ea];rfl
 have hB:rg L n.b=L.getD nb i0:=by rw[eb];rfl
 obtain⟨m,hm⟩:∃ m:Int,(M.length:Int)=m:=⟨_,rfl⟩
 have HMl:=aC hm
 obtain⟨O,hO⟩:∃ O,kF L S T n M.length=O:=⟨_,rfl⟩
 rw[hO]
 unfold kF at hO
 rw[if_pos hop] at hO
 have HW:=aC (hLw n.b ib')
 rw[hB] at HW hO
 rw[hA] at hO
 rw[hxa] at hO
 rw[hxb] at hO
 have HSw:=aC (hSw n.a ia')
 rw[ea] at HSw hxa
 have HIa:Hid (bO (na:Int) T.length):=aC (by rw[<-ea];exact ia')
 have HXa:=aC hxa
 have HSI:=aC hS
 have HTs:=aC hTs
 have HJa:=aC hja
 have HJb:=aC hjb
 have hxa':T.getD na 0=xa:=hxa
 have hxb':T.getD nb 0=xb:=by rw[eb] at hxb;exact hxb
 have HXa2:=aC hxa'
 have HXb2:=aC hxb'
 generalize L.getD na i0=A at *
 generalize L.getD nb i0=B at *
 obtain⟨n0,n1,n2,n3,n4,n5⟩:=aJ HN0.o
 rw[ea] at n1
 rw[eb] at n2
 have w2:=HF0.o.w.cell 2 rfl
 have hbl:=HF0.o.w.lt
 have HOq:=aC hO
 have tt0:decide (n.op < 8)=false:=by simp;omega
 have tt1:decide (25 < n.op)=false:=by simp;omega
 have t10:(n.op==10)=true:=by simp;omega
 have ia0:(0:Int)<=na:=by omega
 have ia1:(na:Int) < wn:=by omega
 have ib0:(0:Int)<=nb:=by omega
 have ib1:(nb:Int) < wn:=by omega
 have HEa:=aC ea
 have HEb:=aC eb
 clear h hL hS hTw hTs hM ia' ib' hSw hLw hb1 hat hO hA hB ea eb hxa hxb hxa' hxb' hop
 go_enter Tryz.func61,Tryz.ntmps61
 go_upto_region 3 with fail
 obtain⟨gn,hgn⟩:∃ gn,V.heap.size=gn:=⟨_,rfl⟩
 obtain⟨V1,hV1⟩:∃ V1,V.alloc (.cells (ia n) 57)=V1:=⟨_,rfl⟩
 have HB0':=HB0.o
 have HLe':=HLe.o
 rw[hV1] at HF0 HN0 HB0' cta ctb hgl a0 a1 a2 a3 a4 a5 b0 b1 b2 b3 b4 b5 n0 n1 n2 n3 n4 n5 w2 hbl ⊢
 rw[hgn] at HN0 n0 n1 n2 n3 n4 n5 ⊢
 have HB1:=aC HB0'
 have HLe1:=aC HLe'
 clear HB0 HLe HB0' HLe' hV1 hgn
 have hnl:=HN0.o.lt
 go_region_held3 (fun w'=>(w'.cell? ⟨b,2,none⟩=some (.slice (some ⟨gl,off,none⟩) wn wc)/\w'.cell? ⟨gn,1,none⟩=some (.int .i64 (na:Int))/\w'.cell? ⟨gn,2,none⟩=some (.int .i64 (nb:Int)))/\(w'.cell? ⟨gl,off+na*6,none⟩=some (.int .i64 A.op)/\w'.cell? ⟨gl,off+na*6+1,none⟩=some (.int .i64 A.a)/\w'.cell? ⟨gl,off+na*6+2,none⟩=some (.int .i64 A.b)/\w'.cell? ⟨gl,off+na*6+3,none⟩=some (.int .i64 A.c)/\w'.cell? ⟨gl,off+na*6+4,none⟩=some (.int .i64 A.k)/\w'.cell? ⟨gl,off+na*6+5,none⟩=some (.int .i64 A.s))/\(w'.cell? ⟨gl,off+nb*6,none⟩=some (.int .i64 B.op)/\w'.cell? ⟨gl,off+nb*6+1,none⟩=some (.int .i64 B.a)/\w'.cell? ⟨gl,off+nb*6+2,none⟩=some (.int .i64 B.b)/\w'.cell? ⟨gl,off+nb*6+3,none⟩=some (.int .i64 B.c)/\w'.cell? ⟨gl,off+nb*6+4,none⟩=some (.int .i64 B.k)/\w'.cell? ⟨gl,off+nb*6+5,none⟩=some (.int .i64 B.s)))
  (first|exact⟨⟨w2,n1,n2⟩,⟨a0,a1,a2,a3,a4,a5⟩,⟨b0,b1,b2,b3,b4,b5⟩⟩|go_keep) (fail)
 all_goals clear a0 a1 a2 a3 a4 a5 b0 b1 b2 b3 b4 b5 n0 n1 n2 n3 n4 n5 w2 hbl cta ctb hnl hgl
 ·obtain⟨V2,hV2⟩:∃ V2,((V1.alloc (.cells (ia A) 57)).alloc (.cells (ia B) 57)).drew=V2:=⟨_,rfl⟩
  rw[hV2]
  obtain⟨ga,hx1⟩:∃ g,V1.heap.size=g:=⟨_,rfl⟩
  obtain⟨gb,hy1⟩:∃ g,ga+1=g:=⟨_,rfl⟩
  have HQ2:Hid (Qk W V V2 b gn ga gb f dd out (.slice (some ⟨gl,off,none⟩) wn wc) (.slice sa sn sc) mv (.slice (some ⟨gt,0,none⟩) T.length ct) M T n A B):=aC (by rw[<-hV2,<-hy1,<-hx1];exact⟨((HF0.o.below (aH _ _)).below (aH _ _)).below (aD _),((HN0.o.below (aH _ _)).below (aH _ _)).below (aD _),((aI.new V1 57 (ia A)).alloc _).below (aD _),(iM V1 _ 57 (ia B)).below (aD _),bel (bel (bel HB1.o (aH _ _)) (aH _ _)) (aD _),fun hk=>by have:=(HF0.o.m.lt _ hk).2;omega⟩)
  rw[hx1,hy1]
  clear hx1 hy1 hV2
  have w6:=HQ2.o.m.w.cell 6 rfl
  have cta:=HQ2.o.m.at HJa.o
  have ctb:=HQ2.o.m.at HJb.o
  rw[HXa2.o] at cta
  rw[HXb2.o] at ctb
  obtain⟨n0,n1,n2,n3,n4,n5⟩:=aJ HQ2.o.n
  rw[HEa.o] at n1
  rw[HEb.o] at n2
  obtain⟨tl,htl'⟩:∃ tl,T.length=tl:=⟨_,rfl⟩
  rw[htl'] at w6 htl
  have ia2:(na:Int) < tl:=by have:=HJa.o;omega
  have ib2:(nb:Int) < tl:=by have:=HJb.o;omega
  clear htl' HF0 HN0 HB1
  go_wp2_with fail
  go_quiet (fail)
  have HQ3:=aC (HQ2.o.below (Cde.cO V2 nq))
  generalize V2.drewN nq=V3 at *
  clear HQ2 w6 cta ctb n0 n1 n2 n3 n4 n5
  have HL3:=aC (bQ HLe1.o HQ3.o.lo)
  obtain⟨n0,n1,n2,n3,n4,n5⟩:=aJ HQ3.o.n
  rw[HEa.o] at n1
  rw[HEb.o] at n2
  obtain⟨a0,a1,a2,a3,a4,a5⟩:=aJ HQ3.o.a
  obtain⟨b0,b1,b2,b3,b4,b5⟩:=aJ HQ3.o.b
  have hO:=HOq.o
  clear HOq
  by_cases hB1:B.op=1
  ·rw[if_pos hB1] at hO
   have HO:=aC hO.symm
   have tB:(B.op==1)=true:=by simpa using hB1
   clear hO hB1
   have HU:=aC (mM xa B.k HQ3.o.m HMl.o (by have:=HM.o;omega))
   go_wp2_with fail
   refine HU.o.mono ?_
   rintro e V4 ⟨rfl,hw,hb⟩
   have HB4:=aC (HL3.o.trans hb)
   have HW4:=aC hw
   clear hw hb HU
   go_wp2_with fail
   exact bodyPost_ret (v:=.tuple #[.int .i64 m,.bool true]) (by simp[results,Tryz.results61,go_sem]) rfl (iY.many [nY xa B.k] HO.o (by have:=HMl.o;simp;omega) HW4.o HB4.o)
  ·rw[if_neg hB1] at hO
   have tB:(B.op==1)=false:=by simpa using hB1
   clear hB1
   by_cases hA1:A.op=1
   ·rw[if_pos hA1] at hO
    have HO:=aC hO.symm
    have tA:(A.op==1)=true:=by simpa using hA1
    clear hO hA1
    have HU:=aC (mM xb A.k HQ3.o.m HMl.o (by have:=HM.o;omega))
    go_wp2_with fail
    refine HU.o.mono ?_
    rintro e V4 ⟨rfl,hw,hb⟩
    have HB4:=aC (HL3.o.trans hb)
    have HW4:=aC hw
    clear hw hb HU
    go_wp2_with fail
    exact bodyPost_ret (v:=.tuple #[.int .i64 m,.bool true]) (by simp[results,Tryz.results61,go_sem]) rfl (iY.many [nY xb A.k] HO.o (by have:=HMl.o;simp;omega) HW4.o HB4.o)
   ·rw[if_neg hA1] at hO
    have HO:=aC hO.symm
    have tA:(A.op==1)=false:=by simpa using hA1
    clear hO hA1
    go_wp2_with fail
    exact bodyPost_ret (v:=.tuple #[.int .i64 0,.bool false]) (by simp[results,Tryz.results61,go_sem]) rfl (iY.no HO.o HQ3.o.lo)
 ·obtain⟨V2,hV2⟩:∃ V2,((V1.alloc (.cells (ia B) 57)).alloc (.cells (ia A) 57)).drew=V2:=⟨_,rfl⟩
  rw[hV2]
  obtain⟨gb,hx1⟩:∃ g,V1.heap.size=g:=⟨_,rfl⟩
  obtain⟨ga,hy1⟩:∃ g,gb+1=g:=⟨_,rfl⟩
  have HQ2:Hid (Qk W V V2 b gn ga gb f dd out (.slice (some ⟨gl,off,none⟩) wn wc) (.slice sa sn sc) mv (.slice (some ⟨gt,0,none⟩) T.length ct) M T n A B):=aC (by rw[<-hV2,<-hy1,<-hx1];exact⟨((HF0.o.below (aH _ _)).below (aH _ _)).below (aD _),((HN0.o.below (aH _ _)).below (aH _ _)).below (aD _),(iM V1 _ 57 (ia A)).below (aD _),((aI.new V1 57 (ia B)).alloc _).below (aD _),bel (bel (bel HB1.o (aH _ _)) (aH _ _)) (aD _),fun hk=>by have:=(HF0.o.m.lt _ hk).2;omega⟩)
  rw[hx1,hy1]
  clear hx1 hy1 hV2
  have w6:=HQ2.o.m.w.cell 6 rfl
  have cta:=HQ2.o.m.at HJa.o
  have ctb:=HQ2.o.m.at HJb.o
  rw[HXa2.o] at cta
  rw[HXb2.o] at ctb
  obtain⟨n0,n1,n2,n3,n4,n5⟩:=aJ HQ2.o.n
  rw[HEa.o] at n1
  rw[HEb.o] at n2
  obtain⟨tl,htl'⟩:∃ tl,T.length=tl:=⟨_,rfl⟩
  rw[htl'] at w6 htl
  have ia2:(na:Int) < tl:=by have:=HJa.o;omega
  have ib2:(nb:Int) < tl:=by have:=HJb.o;omega
  clear htl' HF0 HN0 HB1
  go_wp2_with fail
  go_quiet (fail)
  have HQ3:=aC (HQ2.o.below (Cde.cO V2 nq))
  generalize V2.drewN nq=V3 at *
  clear HQ2 w6 cta ctb n0 n1 n2 n3 n4 n5
  have HL3:=aC (bQ HLe1.o HQ3.o.lo)
  obtain⟨n0,n1,n2,n3,n4,n5⟩:=aJ HQ3.o.n
  rw[HEa.o] at n1
  rw[HEb.o] at n2
  obtain⟨a0,a1,a2,a3,a4,a5⟩:=aJ HQ3.o.a
  obtain⟨b0,b1,b2,b3,b4,b5⟩:=aJ HQ3.o.b
  have hO:=HOq.o
  clear HOq
  by_cases hB1:B.op=1
  ·rw[if_pos hB1] at hO
   have HO:=aC hO.symm
   have tB:(B.op==1)=true:=by simpa using hB1
   clear hO hB1
   have HU:=aC (mM xa B.k HQ3.o.m HMl.o (by have:=HM.o;omega))
   go_wp2_with fail
   refine HU.o.mono ?_
   rintro e V4 ⟨rfl,hw,hb⟩
   have HB4:=aC (HL3.o.trans hb)
   have HW4:=aC hw
   clear hw hb HU
   go_wp2_with fail
   exact bodyPost_ret (v:=.tuple #[.int .i64 m,.bool true]) (by simp[results,Tryz.results61,go_sem]) rfl (iY.many [nY xa B.k] HO.o (by have:=HMl.o;simp;omega) HW4.o HB4.o)
  ·rw[if_neg hB1] at hO
   have tB:(B.op==1)=false:=by simpa using hB1
   clear hB1
   by_cases hA1:A.op=1
   ·rw[if_pos hA1] at hO
    have HO:=aC hO.symm
    have tA:(A.op==1)=true:=by simpa using hA1
    clear hO hA1
    have HU:=aC (mM xb A.k HQ3.o.m HMl.o (by have:=HM.o;omega))
    go_wp2_with fail
    refine HU.o.mono ?_
    rintro e V4 ⟨rfl,hw,hb⟩
    have HB4:=aC (HL3.o.trans hb)
    have HW4:=aC hw
    clear hw hb HU
    go_wp2_with fail
    exact bodyPost_ret (v:=.tuple #[.int .i64 m,.bool true]) (by simp[results,Tryz.results61,go_sem]) rfl (iY.many [nY xb A.k] HO.o (by have:=HMl.o;simp;omega) HW4.o HB4.o)
   ·rw[if_neg hA1] at hO
    have HO:=aC hO.symm
    have tA:(A.op==1)=false:=by simpa using hA1
    clear hO hA1
    go_wp2_with fail
    exact bodyPost_ret (v:=.tuple #[.int .i64 0,.bool false]) (by simp[results,Tryz.results61,go_sem]) rfl (iY.no HO.o HQ3.o.lo)
theorem aQp (n:In)(hop:n.op=13){S:eH}(h:Mt W V b f dd out (.slice wa wn wc) (.slice sa sn sc) mv tv M T)(hL:Ins W wa wn wc L)(hS:Spn.Spans W sa sn sc S)(hTw:T.length<=wn)(hTs:T.length<=sn)(hM:M.length<=1000000)(ia':bO n.a T.length)(ib':bO n.b T.length)
  (hSw:∀ r,bO r T.length->Wh (S.getD r.toNat (0,0)).1 (S.getD r.toNat (0,0)).2) (hLw:∀ r,bO r T.length->(rg L r).op=1->w32 (rg L r).k) :
  Calls Tryz.prog 61 #[.pointer (some ⟨b,0,none⟩),.agg (ia n)] V (iY W V b f dd out (.slice wa wn wc) (.slice sa sn sc) tv M T (kF L S T n M.length)):=by
 have hb1:=aH V (.cells (ia n) 57)
 have HF0:=aC (h.below hb1)
 have HN0:=aC (aI.new V 57 (ia n))
 have HB0:=aC hb1
 have HLe:=aC h.le
 have HM:=aC hM
 have hs:=hL.short
 obtain⟨na,gt,ct,ea,hja,htl,rfl,cta⟩:=HF0.o.reg ia'
 obtain⟨nb,gt',ct',eb,hjb,-,e',ctb⟩:=HF0.o.reg ib'
 cases e'
 obtain⟨xa,hxa⟩:∃ x,gv T n.a=x:=⟨_,rfl⟩
 obtain⟨xb,hxb⟩:∃ x,gv T n.b=x:=⟨_,rfl⟩
 rw[hxa] at cta
 rw[hxb] at ctb
 obtain⟨gl,off,rfl,hgl,hat⟩:=(hL.later HF0.o.lo).at (by omega)
 obtain⟨a0,a1,a2,a3,a4,a5⟩:=hat na (by omega)
 obtain⟨b0,b1,b2,b3,b4,b5⟩:=hat nb (by omega)
 have hA:rg L n.a=L.getD na i0:=by rw[ea];rfl
 have hB:rg L n.b=L.getD nb i0:=by rw[eb];rfl
 obtain⟨m,hm⟩:∃ m:Int,(M.length:Int)=m:=⟨_,rfl⟩
 have HMl:=aC hm
 obtain⟨O,hO⟩:∃ O,kF L S T n M.length=O:=⟨_,rfl⟩
 rw[hO]
 unfold kF at hO
 rw[if_neg (by omega),if_neg (by omega),if_pos hop] at hO
 have HW:=aC (hLw n.b ib')
 rw[hB] at HW hO
 rw[hxa] at hO
 have HSw:=aC (hSw n.a ia')
 rw[ea] at HSw hxa
 have HIa:Hid (bO (na:Int) T.length):=aC (by rw[<-ea];exact ia')
 have HXa:=aC hxa
 have HSI:=aC hS
 have HTs:=aC hTs
 have HJa:=aC hja
 have HJb:=aC hjb
 have hxa':T.getD na 0=xa:=hxa
 have hxb':T.getD nb 0=xb:=by rw[eb] at hxb;exact hxb
 have HXa2:=aC hxa'
 have HXb2:=aC hxb'
 generalize L.getD na i0=A at *
 generalize L.getD nb i0=B at *
 obtain⟨n0,n1,n2,n3,n4,n5⟩:=aJ HN0.o
 rw[ea] at n1
 rw[eb] at n2
 have w2:=HF0.o.w.cell 2 rfl
 have hbl:=HF0.o.w.lt
 have HOq:=aC hO
 have tt0:decide (n.op < 8)=false:=by simp;omega
 have tt1:decide (25 < n.op)=false:=by simp;omega
 have t10:(n.op==10)=false:=by simp;omega
 have t15:(n.op==15)=false:=by simp;omega
 have t13:(n.op==13)=true:=by simp;omega
 have ia0:(0:Int)<=na:=by omega
 have ia1:(na:Int) < wn:=by omega
 have ib0:(0:Int)<=nb:=by omega
 have ib1:(nb:Int) < wn:=by omega
 have HEa:=aC ea
 have HEb:=aC eb
 clear h hL hS hTw hTs hM ia' ib' hSw hLw hb1 hat hO hA hB ea eb hxa hxb hxa' hxb' hop
 go_enter Tryz.func61,Tryz.ntmps61
 go_upto_region 3 with fail
 obtain⟨gn,hgn⟩:∃ gn,V.heap.size=gn:=⟨_,rfl⟩
 obtain⟨V1,hV1⟩:∃ V1,V.alloc (.cells (ia n) 57)=V1:=⟨_,rfl⟩
 have HB0':=HB0.o
 have HLe':=HLe.o
 rw[hV1] at HF0 HN0 HB0' cta ctb hgl a0 a1 a2 a3 a4 a5 b0 b1 b2 b3 b4 b5 n0 n1 n2 n3 n4 n5 w2 hbl ⊢
 rw[hgn] at HN0 n0 n1 n2 n3 n4 n5 ⊢
 have HB1:=aC HB0'
 have HLe1:=aC HLe'
 clear HB0 HLe HB0' HLe' hV1 hgn
 have hnl:=HN0.o.lt
 go_region_held3 (fun w'=>(w'.cell? ⟨b,2,none⟩=some (.slice (some ⟨gl,off,none⟩) wn wc)/\w'.cell? ⟨gn,1,none⟩=some (.int .i64 (na:Int))/\w'.cell? ⟨gn,2,none⟩=some (.int .i64 (nb:Int)))/\(w'.cell? ⟨gl,off+na*6,none⟩=some (.int .i64 A.op)/\w'.cell? ⟨gl,off+na*6+1,none⟩=some (.int .i64 A.a)/\w'.cell? ⟨gl,off+na*6+2,none⟩=some (.int .i64 A.b)/\w'.cell? ⟨gl,off+na*6+3,none⟩=some (.int .i64 A.c)/\w'.cell? ⟨gl,off+na*6+4,none⟩=some (.int .i64 A.k)/\w'.cell? ⟨gl,off+na*6+5,none⟩=some (.int .i64 A.s))/\(w'.cell? ⟨gl,off+nb*6,none⟩=some (.int .i64 B.op)/\w'.cell? ⟨gl,off+nb*6+1,none⟩=some (.int .i64 B.a)/\w'.cell? ⟨gl,off+nb*6+2,none⟩=some (.int .i64 B.b)/\w'.cell? ⟨gl,off+nb*6+3,none⟩=some (.int .i64 B.c)/\w'.cell? ⟨gl,off+nb*6+4,none⟩=some (.int .i64 B.k)/\w'.cell? ⟨gl,off+nb*6+5,none⟩=some (.int .i64 B.s)))
  (first|exact⟨⟨w2,n1,n2⟩,⟨a0,a1,a2,a3,a4,a5⟩,⟨b0,b1,b2,b3,b4,b5⟩⟩|go_keep) (fail)
 all_goals clear a0 a1 a2 a3 a4 a5 b0 b1 b2 b3 b4 b5 n0 n1 n2 n3 n4 n5 w2 hbl cta ctb hnl hgl
 ·obtain⟨V2,hV2⟩:∃ V2,((V1.alloc (.cells (ia A) 57)).alloc (.cells (ia B) 57)).drew=V2:=⟨_,rfl⟩
  rw[hV2]
  obtain⟨ga,hx1⟩:∃ g,V1.heap.size=g:=⟨_,rfl⟩
  obtain⟨gb,hy1⟩:∃ g,ga+1=g:=⟨_,rfl⟩
  have HQ2:Hid (Qk W V V2 b gn ga gb f dd out (.slice (some ⟨gl,off,none⟩) wn wc) (.slice sa sn sc) mv (.slice (some ⟨gt,0,none⟩) T.length ct) M T n A B):=aC (by rw[<-hV2,<-hy1,<-hx1];exact⟨((HF0.o.below (aH _ _)).below (aH _ _)).below (aD _),((HN0.o.below (aH _ _)).below (aH _ _)).below (aD _),((aI.new V1 57 (ia A)).alloc _).below (aD _),(iM V1 _ 57 (ia B)).below (aD _),bel (bel (bel HB1.o (aH _ _)) (aH _ _)) (aD _),fun hk=>by have:=(HF0.o.m.lt _ hk).2;omega⟩)
  rw[hx1,hy1]
  clear hx1 hy1 hV2
  have w6:=HQ2.o.m.w.cell 6 rfl
  have cta:=HQ2.o.m.at HJa.o
  have ctb:=HQ2.o.m.at HJb.o
  rw[HXa2.o] at cta
  rw[HXb2.o] at ctb
  obtain⟨n0,n1,n2,n3,n4,n5⟩:=aJ HQ2.o.n
  rw[HEa.o] at n1
  rw[HEb.o] at n2
  obtain⟨tl,htl'⟩:∃ tl,T.length=tl:=⟨_,rfl⟩
  rw[htl'] at w6 htl
  have ia2:(na:Int) < tl:=by have:=HJa.o;omega
  have ib2:(nb:Int) < tl:=by have:=HJb.o;omega
  clear htl' HF0 HN0 HB1
  go_wp2_with fail
  go_quiet (fail)
  have HQ3:=aC (HQ2.o.below (Cde.cO V2 nq))
  generalize V2.drewN nq=V3 at *
  clear HQ2 w6 cta ctb n0 n1 n2 n3 n4 n5
  have HL3:=aC (bQ HLe1.o HQ3.o.lo)
  obtain⟨n0,n1,n2,n3,n4,n5⟩:=aJ HQ3.o.n
  rw[HEa.o] at n1
  rw[HEb.o] at n2
  obtain⟨a0,a1,a2,a3,a4,a5⟩:=aJ HQ3.o.a
  obtain⟨b0,b1,b2,b3,b4,b5⟩:=aJ HQ3.o.b
  have hO:=HOq.o
  clear HOq
  by_cases hB1:B.op=1
  ·rw[if_pos hB1] at hO
   have HO:=aC hO.symm
   have tB:(B.op==1)=true:=by simpa using hB1
   clear hO hB1
   have HU:=aC (iT 29 xa 0 B.k 0 HQ3.o.m HMl.o (by have:=HM.o;omega))
   go_wp2_with fail
   refine HU.o.mono ?_
   rintro e V4 ⟨rfl,hw,hb,-⟩
   have HB4:=aC (HL3.o.trans hb)
   have HW4:=aC hw
   clear hw hb HU
   go_wp2_with fail
   exact bodyPost_ret (v:=.tuple #[.int .i64 m,.bool true]) (by simp[results,Tryz.results61,go_sem]) rfl (iY.many [⟨29,xa,0,0,B.k,0⟩] HO.o (by have:=HMl.o;simp;omega) HW4.o HB4.o)
  ·rw[if_neg hB1] at hO
   have HO:=aC hO.symm
   have tB:(B.op==1)=false:=by simpa using hB1
   clear hO hB1
   go_wp2_with fail
   exact bodyPost_ret (v:=.tuple #[.int .i64 0,.bool false]) (by simp[results,Tryz.results61,go_sem]) rfl (iY.no HO.o HQ3.o.lo)
 ·obtain⟨V2,hV2⟩:∃ V2,((V1.alloc (.cells (ia B) 57)).alloc (.cells (ia A) 57)).drew=V2:=⟨_,rfl⟩
  rw[hV2]
  obtain⟨gb,hx1⟩:∃ g,V1.heap.size=g:=⟨_,rfl⟩
  obtain⟨ga,hy1⟩:∃ g,gb+1=g:=⟨_,rfl⟩
  have HQ2:Hid (Qk W V V2 b gn ga gb f dd out (.slice (some ⟨gl,off,none⟩) wn wc) (.slice sa sn sc) mv (.slice (some ⟨gt,0,none⟩) T.length ct) M T n A B):=aC (by rw[<-hV2,<-hy1,<-hx1];exact⟨((HF0.o.below (aH _ _)).below (aH _ _)).below (aD _),((HN0.o.below (aH _ _)).below (aH _ _)).below (aD _),(iM V1 _ 57 (ia A)).below (aD _),((aI.new V1 57 (ia B)).alloc _).below (aD _),bel (bel (bel HB1.o (aH _ _)) (aH _ _)) (aD _),fun hk=>by have:=(HF0.o.m.lt _ hk).2;omega⟩)
  rw[hx1,hy1]
  clear hx1 hy1 hV2
  have w6:=HQ2.o.m.w.cell 6 rfl
  have cta:=HQ2.o.m.at HJa.o
  have ctb:=HQ2.o.m.at HJb.o
  rw[HXa2.o] at cta
  rw[HXb2.o] at ctb
  obtain⟨n0,n1,n2,n3,n4,n5⟩:=aJ HQ2.o.n
  rw[HEa.o] at n1
  rw[HEb.o] at n2
  obtain⟨tl,htl'⟩:∃ tl,T.length=tl:=⟨_,rfl⟩
  rw[htl'] at w6 htl
  have ia2:(na:Int) < tl:=by have:=HJa.o;omega
  have ib2:(nb:Int) < tl:=by have:=HJb.o;omega
  clear htl' HF0 HN0 HB1
  go_wp2_with fail
  go_quiet (fail)
  have HQ3:=aC (HQ2.o.below (Cde.cO V2 nq))
  generalize V2.drewN nq=V3 at *
  clear HQ2 w6 cta ctb n0 n1 n2 n3 n4 n5
  have HL3:=aC (bQ HLe1.o HQ3.o.lo)
  obtain⟨n0,n1,n2,n3,n4,n5⟩:=aJ HQ3.o.n
  rw[HEa.o] at n1
  rw[HEb.o] at n2
  obtain⟨a0,a1,a2,a3,a4,a5⟩:=aJ HQ3.o.a
  obtain⟨b0,b1,b2,b3,b4,b5⟩:=aJ HQ3.o.b
  have hO:=HOq.o
  clear HOq
  by_cases hB1:B.op=1
  ·rw[if_pos hB1] at hO
   have HO:=aC hO.symm
   have tB:(B.op==1)=true:=by simpa using hB1
   clear hO hB1
   have HU:=aC (iT 29 xa 0 B.k 0 HQ3.o.m HMl.o (by have:=HM.o;omega))
   go_wp2_with fail
   refine HU.o.mono ?_
   rintro e V4 ⟨rfl,hw,hb,-⟩
   have HB4:=aC (HL3.o.trans hb)
   have HW4:=aC hw
   clear hw hb HU
   go_wp2_with fail
   exact bodyPost_ret (v:=.tuple #[.int .i64 m,.bool true]) (by simp[results,Tryz.results61,go_sem]) rfl (iY.many [⟨29,xa,0,0,B.k,0⟩] HO.o (by have:=HMl.o;simp;omega) HW4.o HB4.o)
  ·rw[if_neg hB1] at hO
   have HO:=aC hO.symm
   have tB:(B.op==1)=false:=by simpa using hB1
   clear hO hB1
   go_wp2_with fail
   exact bodyPost_ret (v:=.tuple #[.int .i64 0,.bool false]) (by simp[results,Tryz.results61,go_sem]) rfl (iY.no HO.o HQ3.o.lo)
theorem aQ6 (n:In)(hop:n.op=14){S:eH}(h:Mt W V b f dd out (.slice wa wn wc) (.slice sa sn sc) mv tv M T)(hL:Ins W wa wn wc L)(hS:Spn.Spans W sa sn sc S)(hTw:T.length<=wn)(hTs:T.length<=sn)(hM:M.length<=1000000)(ia':bO n.a T.length)(ib':bO n.b T.length)
  (hSw:∀ r,bO r T.length->Wh (S.getD r.toNat (0,0)).1 (S.getD r.toNat (0,0)).2) (hLw:∀ r,bO r T.length->(rg L r).op=1->w32 (rg L r).k) :
  Calls Tryz.prog 61 #[.pointer (some ⟨b,0,none⟩),.agg (ia n)] V (iY W V b f dd out (.slice wa wn wc) (.slice sa sn sc) tv M T (kF L S T n M.length)):=by
 have hb1:=aH V (.cells (ia n) 57)
 have HF0:=aC (h.below hb1)
 have HN0:=aC (aI.new V 57 (ia n))
 have HB0:=aC hb1
 have HLe:=aC h.le
 have HM:=aC hM
 have hs:=hL.short
 obtain⟨na,gt,ct,ea,hja,htl,rfl,cta⟩:=HF0.o.reg ia'
 obtain⟨nb,gt',ct',eb,hjb,-,e',ctb⟩:=HF0.o.reg ib'
 cases e'
 obtain⟨xa,hxa⟩:∃ x,gv T n.a=x:=⟨_,rfl⟩
 obtain⟨xb,hxb⟩:∃ x,gv T n.b=x:=⟨_,rfl⟩
 rw[hxa] at cta
 rw[hxb] at ctb
 obtain⟨gl,off,rfl,hgl,hat⟩:=(hL.later HF0.o.lo).at (by omega)
 obtain⟨a0,a1,a2,a3,a4,a5⟩:=hat na (by omega)
 obtain⟨b0,b1,b2,b3,b4,b5⟩:=hat nb (by omega)
 have hA:rg L n.a=L.getD na i0:=by rw[ea];rfl
 have hB:rg L n.b=L.getD nb i0:=by rw[eb];rfl
 obtain⟨m,hm⟩:∃ m:Int,(M.length:Int)=m:=⟨_,rfl⟩
 have HMl:=aC hm
 obtain⟨O,hO⟩:∃ O,kF L S T n M.length=O:=⟨_,rfl⟩
 rw[hO]
 unfold kF at hO
 rw[if_neg (by omega),if_neg (by omega),if_neg (by omega),if_pos hop] at hO
 have HW:=aC (hLw n.b ib')
 rw[hB] at HW hO
 rw[hxa] at hO
 have HSw:=aC (hSw n.a ia')
 rw[ea] at HSw hxa
 have HIa:Hid (bO (na:Int) T.length):=aC (by rw[<-ea];exact ia')
 have HXa:=aC hxa
 have HSI:=aC hS
 have HTs:=aC hTs
 have HJa:=aC hja
 have HJb:=aC hjb
 have hxa':T.getD na 0=xa:=hxa
 have hxb':T.getD nb 0=xb:=by rw[eb] at hxb;exact hxb
 have HXa2:=aC hxa'
 have HXb2:=aC hxb'
 generalize L.getD na i0=A at *
 generalize L.getD nb i0=B at *
 obtain⟨n0,n1,n2,n3,n4,n5⟩:=aJ HN0.o
 rw[ea] at n1
 rw[eb] at n2
 have w2:=HF0.o.w.cell 2 rfl
 have hbl:=HF0.o.w.lt
 have HOq:=aC hO
 have tt0:decide (n.op < 8)=false:=by simp;omega
 have tt1:decide (25 < n.op)=false:=by simp;omega
 have t10:(n.op==10)=false:=by simp;omega
 have t15:(n.op==15)=false:=by simp;omega
 have t13:(n.op==13)=false:=by simp;omega
 have t14:(n.op==14)=true:=by simp;omega
 have ia0:(0:Int)<=na:=by omega
 have ia1:(na:Int) < wn:=by omega
 have ib0:(0:Int)<=nb:=by omega
 have ib1:(nb:Int) < wn:=by omega
 have HEa:=aC ea
 have HEb:=aC eb
 clear h hL hS hTw hTs hM ia' ib' hSw hLw hb1 hat hO hA hB ea eb hxa hxb hxa' hxb' hop
 go_enter Tryz.func61,Tryz.ntmps61
 go_upto_region 3 with fail
 obtain⟨gn,hgn⟩:∃ gn,V.heap.size=gn:=⟨_,rfl⟩
 obtain⟨V1,hV1⟩:∃ V1,V.alloc (.cells (ia n) 57)=V1:=⟨_,rfl⟩
 have HB0':=HB0.o
 have HLe':=HLe.o
 rw[hV1] at HF0 HN0 HB0' cta ctb hgl a0 a1 a2 a3 a4 a5 b0 b1 b2 b3 b4 b5 n0 n1 n2 n3 n4 n5 w2 hbl ⊢
 rw[hgn] at HN0 n0 n1 n2 n3 n4 n5 ⊢
 have HB1:=aC HB0'
 have HLe1:=aC HLe'
 clear HB0 HLe HB0' HLe' hV1 hgn
 have hnl:=HN0.o.lt
 go_region_held3 (fun w'=>(w'.cell? ⟨b,2,none⟩=some (.slice (some ⟨gl,off,none⟩) wn wc)/\w'.cell? ⟨gn,1,none⟩=some (.int .i64 (na:Int))/\w'.cell? ⟨gn,2,none⟩=some (.int .i64 (nb:Int)))/\(w'.cell? ⟨gl,off+na*6,none⟩=some (.int .i64 A.op)/\w'.cell? ⟨gl,off+na*6+1,none⟩=some (.int .i64 A.a)/\w'.cell? ⟨gl,off+na*6+2,none⟩=some (.int .i64 A.b)/\w'.cell? ⟨gl,off+na*6+3,none⟩=some (.int .i64 A.c)/\w'.cell? ⟨gl,off+na*6+4,none⟩=some (.int .i64 A.k)/\w'.cell? ⟨gl,off+na*6+5,none⟩=some (.int .i64 A.s))/\(w'.cell? ⟨gl,off+nb*6,none⟩=some (.int .i64 B.op)/\w'.cell? ⟨gl,off+nb*6+1,none⟩=some (.int .i64 B.a)/\w'.cell? ⟨gl,off+nb*6+2,none⟩=some (.int .i64 B.b)/\w'.cell? ⟨gl,off+nb*6+3,none⟩=some (.int .i64 B.c)/\w'.cell? ⟨gl,off+nb*6+4,none⟩=some (.int .i64 B.k)/\w'.cell? ⟨gl,off+nb*6+5,none⟩=some (.int .i64 B.s)))
  (first|exact⟨⟨w2,n1,n2⟩,⟨a0,a1,a2,a3,a4,a5⟩,⟨b0,b1,b2,b3,b4,b5⟩⟩|go_keep) (fail)
 all_goals clear a0 a1 a2 a3 a4 a5 b0 b1 b2 b3 b4 b5 n0 n1 n2 n3 n4 n5 w2 hbl cta ctb hnl hgl
 ·obtain⟨V2,hV2⟩:∃ V2,((V1.alloc (.cells (ia A) 57)).alloc (.cells (ia B) 57)).drew=V2:=⟨_,rfl⟩
  rw[hV2]
  obtain⟨ga,hx1⟩:∃ g,V1.heap.size=g:=⟨_,rfl⟩
  obtain⟨gb,hy1⟩:∃ g,ga+1=g:=⟨_,rfl⟩
  have HQ2:Hid (Qk W V V2 b gn ga gb f dd out (.slice (some ⟨gl,off,none⟩) wn wc) (.slice sa sn sc) mv (.slice (some ⟨gt,0,none⟩) T.length ct) M T n A B):=aC (by rw[<-hV2,<-hy1,<-hx1];exact⟨((HF0.o.below (aH _ _)).below (aH _ _)).below (aD _),((HN0.o.below (aH _ _)).below (aH _ _)).below (aD _),((aI.new V1 57 (ia A)).alloc _).below (aD _),(iM V1 _ 57 (ia B)).below (aD _),bel (bel (bel HB1.o (aH _ _)) (aH _ _)) (aD _),fun hk=>by have:=(HF0.o.m.lt _ hk).2;omega⟩)
  rw[hx1,hy1]
  clear hx1 hy1 hV2
  have w6:=HQ2.o.m.w.cell 6 rfl
  have cta:=HQ2.o.m.at HJa.o
  have ctb:=HQ2.o.m.at HJb.o
  rw[HXa2.o] at cta
  rw[HXb2.o] at ctb
  obtain⟨n0,n1,n2,n3,n4,n5⟩:=aJ HQ2.o.n
  rw[HEa.o] at n1
  rw[HEb.o] at n2
  obtain⟨tl,htl'⟩:∃ tl,T.length=tl:=⟨_,rfl⟩
  rw[htl'] at w6 htl
  have ia2:(na:Int) < tl:=by have:=HJa.o;omega
  have ib2:(nb:Int) < tl:=by have:=HJb.o;omega
  clear htl' HF0 HN0 HB1
  go_wp2_with fail
  go_quiet (fail)
  have HQ3:=aC (HQ2.o.below (Cde.cO V2 nq))
  generalize V2.drewN nq=V3 at *
  clear HQ2 w6 cta ctb n0 n1 n2 n3 n4 n5
  have HL3:=aC (bQ HLe1.o HQ3.o.lo)
  obtain⟨n0,n1,n2,n3,n4,n5⟩:=aJ HQ3.o.n
  rw[HEa.o] at n1
  rw[HEb.o] at n2
  obtain⟨a0,a1,a2,a3,a4,a5⟩:=aJ HQ3.o.a
  obtain⟨b0,b1,b2,b3,b4,b5⟩:=aJ HQ3.o.b
  have hO:=HOq.o
  clear HOq
  by_cases hB1:B.op=1
  ·rw[if_pos hB1] at hO
   have HO:=aC hO.symm
   have tB:(B.op==1)=true:=by simpa using hB1
   clear hO hB1
   have HU:=aC (iT 30 xa 0 B.k 0 HQ3.o.m HMl.o (by have:=HM.o;omega))
   go_wp2_with fail
   refine HU.o.mono ?_
   rintro e V4 ⟨rfl,hw,hb,-⟩
   have HB4:=aC (HL3.o.trans hb)
   have HW4:=aC hw
   clear hw hb HU
   go_wp2_with fail
   exact bodyPost_ret (v:=.tuple #[.int .i64 m,.bool true]) (by simp[results,Tryz.results61,go_sem]) rfl (iY.many [⟨30,xa,0,0,B.k,0⟩] HO.o (by have:=HMl.o;simp;omega) HW4.o HB4.o)
  ·rw[if_neg hB1] at hO
   have HO:=aC hO.symm
   have tB:(B.op==1)=false:=by simpa using hB1
   clear hO hB1
   go_wp2_with fail
   exact bodyPost_ret (v:=.tuple #[.int .i64 0,.bool false]) (by simp[results,Tryz.results61,go_sem]) rfl (iY.no HO.o HQ3.o.lo)
 ·obtain⟨V2,hV2⟩:∃ V2,((V1.alloc (.cells (ia B) 57)).alloc (.cells (ia A) 57)).drew=V2:=⟨_,rfl⟩
  rw[hV2]
  obtain⟨gb,hx1⟩:∃ g,V1.heap.size=g:=⟨_,rfl⟩
  obtain⟨ga,hy1⟩:∃ g,gb+1=g:=⟨_,rfl⟩
  have HQ2:Hid (Qk W V V2 b gn ga gb f dd out (.slice (some ⟨gl,off,none⟩) wn wc) (.slice sa sn sc) mv (.slice (some ⟨gt,0,none⟩) T.length ct) M T n A B):=aC (by rw[<-hV2,<-hy1,<-hx1];exact⟨((HF0.o.below (aH _ _)).below (aH _ _)).below (aD _),((HN0.o.below (aH _ _)).below (aH _ _)).below (aD _),(iM V1 _ 57 (ia A)).below (aD _),((aI.new V1 57 (ia B)).alloc _).below (aD _),bel (bel (bel HB1.o (aH _ _)) (aH _ _)) (aD _),fun hk=>by have:=(HF0.o.m.lt _ hk).2;omega⟩)
  rw[hx1,hy1]
  clear hx1 hy1 hV2
  have w6:=HQ2.o.m.w.cell 6 rfl
  have cta:=HQ2.o.m.at HJa.o
  have ctb:=HQ2.o.m.at HJb.o
  rw[HXa2.o] at cta
  rw[HXb2.o] at ctb
  obtain⟨n0,n1,n2,n3,n4,n5⟩:=aJ HQ2.o.n
  rw[HEa.o] at n1
  rw[HEb.o] at n2
  obtain⟨tl,htl'⟩:∃ tl,T.length=tl:=⟨_,rfl⟩
  rw[htl'] at w6 htl
  have ia2:(na:Int) < tl:=by have:=HJa.o;omega
  have ib2:(nb:Int) < tl:=by have:=HJb.o;omega
  clear htl' HF0 HN0 HB1
  go_wp2_with fail
  go_quiet (fail)
  have HQ3:=aC (HQ2.o.below (Cde.cO V2 nq))
  generalize V2.drewN nq=V3 at *
  clear HQ2 w6 cta ctb n0 n1 n2 n3 n4 n5
  have HL3:=aC (bQ HLe1.o HQ3.o.lo)
  obtain⟨n0,n1,n2,n3,n4,n5⟩:=aJ HQ3.o.n
  rw[HEa.o] at n1
  rw[HEb.o] at n2
  obtain⟨a0,a1,a2,a3,a4,a5⟩:=aJ HQ3.o.a
  obtain⟨b0,b1,b2,b3,b4,b5⟩:=aJ HQ3.o.b
  have hO:=HOq.o
  clear HOq
  by_cases hB1:B.op=1
  ·rw[if_pos hB1] at hO
   have HO:=aC hO.symm
   have tB:(B.op==1)=true:=by simpa using hB1
   clear hO hB1
   have HU:=aC (iT 30 xa 0 B.k 0 HQ3.o.m HMl.o (by have:=HM.o;omega))
   go_wp2_with fail
   refine HU.o.mono ?_
   rintro e V4 ⟨rfl,hw,hb,-⟩
   have HB4:=aC (HL3.o.trans hb)
   have HW4:=aC hw
   clear hw hb HU
   go_wp2_with fail
   exact bodyPost_ret (v:=.tuple #[.int .i64 m,.bool true]) (by simp[results,Tryz.results61,go_sem]) rfl (iY.many [⟨30,xa,0,0,B.k,0⟩] HO.o (by have:=HMl.o;simp;omega) HW4.o HB4.o)
  ·rw[if_neg hB1] at hO
   have HO:=aC hO.symm
   have tB:(B.op==1)=false:=by simpa using hB1
   clear hO hB1
   go_wp2_with fail
   exact bodyPost_ret (v:=.tuple #[.int .i64 0,.bool false]) (by simp[results,Tryz.results61,go_sem]) rfl (iY.no HO.o HQ3.o.lo)
theorem aS5 (n:In)(hop:8<=n.op/\n.op<=25)(h10:n.op≠10)(h15:n.op≠15)(h13:n.op≠13)(h14:n.op≠14)(h11:n.op≠11)(h12:n.op≠12){S:eH}(h:Mt W V b f dd out (.slice wa wn wc) (.slice sa sn sc) mv tv M T)(hL:Ins W wa wn wc L)(hS:Spn.Spans W sa sn sc S)(hTw:T.length<=wn)(hTs:T.length<=sn)(hM:M.length<=1000000)(ia':bO n.a T.length)(ib':bO n.b T.length)
  (hSw:∀ r,bO r T.length->Wh (S.getD r.toNat (0,0)).1 (S.getD r.toNat (0,0)).2) (hLw:∀ r,bO r T.length->(rg L r).op=1->w32 (rg L r).k) :
  Calls Tryz.prog 61 #[.pointer (some ⟨b,0,none⟩),.agg (ia n)] V (iY W V b f dd out (.slice wa wn wc) (.slice sa sn sc) tv M T (kF L S T n M.length)):=by
 have hb1:=aH V (.cells (ia n) 57)
 have HF0:=aC (h.below hb1)
 have HN0:=aC (aI.new V 57 (ia n))
 have HB0:=aC hb1
 have HLe:=aC h.le
 have HM:=aC hM
 have hs:=hL.short
 obtain⟨na,gt,ct,ea,hja,htl,rfl,cta⟩:=HF0.o.reg ia'
 obtain⟨nb,gt',ct',eb,hjb,-,e',ctb⟩:=HF0.o.reg ib'
 cases e'
 obtain⟨xa,hxa⟩:∃ x,gv T n.a=x:=⟨_,rfl⟩
 obtain⟨xb,hxb⟩:∃ x,gv T n.b=x:=⟨_,rfl⟩
 rw[hxa] at cta
 rw[hxb] at ctb
 obtain⟨gl,off,rfl,hgl,hat⟩:=(hL.later HF0.o.lo).at (by omega)
 obtain⟨a0,a1,a2,a3,a4,a5⟩:=hat na (by omega)
 obtain⟨b0,b1,b2,b3,b4,b5⟩:=hat nb (by omega)
 have hA:rg L n.a=L.getD na i0:=by rw[ea];rfl
 have hB:rg L n.b=L.getD nb i0:=by rw[eb];rfl
 obtain⟨m,hm⟩:∃ m:Int,(M.length:Int)=m:=⟨_,rfl⟩
 have HMl:=aC hm
 obtain⟨O,hO⟩:∃ O,kF L S T n M.length=O:=⟨_,rfl⟩
 rw[hO]
 unfold kF at hO
 rw[if_neg (by omega),if_neg (by omega),if_neg (by omega),if_neg (by omega),if_neg (by omega),if_neg (by omega)] at hO
 have HW:=aC (hLw n.b ib')
 rw[hB] at HW
 have HSw:=aC (hSw n.a ia')
 rw[ea] at HSw hxa
 have HIa:Hid (bO (na:Int) T.length):=aC (by rw[<-ea];exact ia')
 have HXa:=aC hxa
 have HSI:=aC hS
 have HTs:=aC hTs
 have HJa:=aC hja
 have HJb:=aC hjb
 have hxa':T.getD na 0=xa:=hxa
 have hxb':T.getD nb 0=xb:=by rw[eb] at hxb;exact hxb
 have HXa2:=aC hxa'
 have HXb2:=aC hxb'
 generalize L.getD na i0=A at *
 generalize L.getD nb i0=B at *
 obtain⟨n0,n1,n2,n3,n4,n5⟩:=aJ HN0.o
 rw[ea] at n1
 rw[eb] at n2
 have w2:=HF0.o.w.cell 2 rfl
 have hbl:=HF0.o.w.lt
 have HOq:=aC hO
 have tt0:decide (n.op < 8)=false:=by simp;omega
 have tt1:decide (25 < n.op)=false:=by simp;omega
 have t10:(n.op==10)=false:=by simp;omega
 have t15:(n.op==15)=false:=by simp;omega
 have t13:(n.op==13)=false:=by simp;omega
 have t14:(n.op==14)=false:=by simp;omega
 have t11:(n.op==11)=false:=by simp;omega
 have t12:(n.op==12)=false:=by simp;omega
 have ia0:(0:Int)<=na:=by omega
 have ia1:(na:Int) < wn:=by omega
 have ib0:(0:Int)<=nb:=by omega
 have ib1:(nb:Int) < wn:=by omega
 have HEa:=aC ea
 have HEb:=aC eb
 clear h hL hS hTw hTs hM ia' ib' hSw hLw hb1 hat hO hA hB ea eb hxa hxb hxa' hxb' hop h10 h15 h13 h14 h11 h12
 go_enter Tryz.func61,Tryz.ntmps61
 go_upto_region 3 with fail
 obtain⟨gn,hgn⟩:∃ gn,V.heap.size=gn:=⟨_,rfl⟩
 obtain⟨V1,hV1⟩:∃ V1,V.alloc (.cells (ia n) 57)=V1:=⟨_,rfl⟩
 have HB0':=HB0.o
 have HLe':=HLe.o
 rw[hV1] at HF0 HN0 HB0' cta ctb hgl a0 a1 a2 a3 a4 a5 b0 b1 b2 b3 b4 b5 n0 n1 n2 n3 n4 n5 w2 hbl ⊢
 rw[hgn] at HN0 n0 n1 n2 n3 n4 n5 ⊢
 have HB1:=aC HB0'
 have HLe1:=aC HLe'
 clear HB0 HLe HB0' HLe' hV1 hgn
 have hnl:=HN0.o.lt
 go_region_held3 (fun w'=>(w'.cell? ⟨b,2,none⟩=some (.slice (some ⟨gl,off,none⟩) wn wc)/\w'.cell? ⟨gn,1,none⟩=some (.int .i64 (na:Int))/\w'.cell? ⟨gn,2,none⟩=some (.int .i64 (nb:Int)))/\(w'.cell? ⟨gl,off+na*6,none⟩=some (.int .i64 A.op)/\w'.cell? ⟨gl,off+na*6+1,none⟩=some (.int .i64 A.a)/\w'.cell? ⟨gl,off+na*6+2,none⟩=some (.int .i64 A.b)/\w'.cell? ⟨gl,off+na*6+3,none⟩=some (.int .i64 A.c)/\w'.cell? ⟨gl,off+na*6+4,none⟩=some (.int .i64 A.k)/\w'.cell? ⟨gl,off+na*6+5,none⟩=some (.int .i64 A.s))/\(w'.cell? ⟨gl,off+nb*6,none⟩=some (.int .i64 B.op)/\w'.cell? ⟨gl,off+nb*6+1,none⟩=some (.int .i64 B.a)/\w'.cell? ⟨gl,off+nb*6+2,none⟩=some (.int .i64 B.b)/\w'.cell? ⟨gl,off+nb*6+3,none⟩=some (.int .i64 B.c)/\w'.cell? ⟨gl,off+nb*6+4,none⟩=some (.int .i64 B.k)/\w'.cell? ⟨gl,off+nb*6+5,none⟩=some (.int .i64 B.s)))
  (first|exact⟨⟨w2,n1,n2⟩,⟨a0,a1,a2,a3,a4,a5⟩,⟨b0,b1,b2,b3,b4,b5⟩⟩|go_keep) (fail)
 all_goals clear a0 a1 a2 a3 a4 a5 b0 b1 b2 b3 b4 b5 n0 n1 n2 n3 n4 n5 w2 hbl cta ctb hnl hgl
 ·obtain⟨V2,hV2⟩:∃ V2,((V1.alloc (.cells (ia A) 57)).alloc (.cells (ia B) 57)).drew=V2:=⟨_,rfl⟩
  rw[hV2]
  obtain⟨ga,hx1⟩:∃ g,V1.heap.size=g:=⟨_,rfl⟩
  obtain⟨gb,hy1⟩:∃ g,ga+1=g:=⟨_,rfl⟩
  have HQ2:Hid (Qk W V V2 b gn ga gb f dd out (.slice (some ⟨gl,off,none⟩) wn wc) (.slice sa sn sc) mv (.slice (some ⟨gt,0,none⟩) T.length ct) M T n A B):=aC (by rw[<-hV2,<-hy1,<-hx1];exact⟨((HF0.o.below (aH _ _)).below (aH _ _)).below (aD _),((HN0.o.below (aH _ _)).below (aH _ _)).below (aD _),((aI.new V1 57 (ia A)).alloc _).below (aD _),(iM V1 _ 57 (ia B)).below (aD _),bel (bel (bel HB1.o (aH _ _)) (aH _ _)) (aD _),fun hk=>by have:=(HF0.o.m.lt _ hk).2;omega⟩)
  rw[hx1,hy1]
  clear hx1 hy1 hV2
  have w6:=HQ2.o.m.w.cell 6 rfl
  have cta:=HQ2.o.m.at HJa.o
  have ctb:=HQ2.o.m.at HJb.o
  rw[HXa2.o] at cta
  rw[HXb2.o] at ctb
  obtain⟨n0,n1,n2,n3,n4,n5⟩:=aJ HQ2.o.n
  rw[HEa.o] at n1
  rw[HEb.o] at n2
  obtain⟨tl,htl'⟩:∃ tl,T.length=tl:=⟨_,rfl⟩
  rw[htl'] at w6 htl
  have ia2:(na:Int) < tl:=by have:=HJa.o;omega
  have ib2:(nb:Int) < tl:=by have:=HJb.o;omega
  clear htl' HF0 HN0 HB1
  go_wp2_with fail
  go_quiet (fail)
  have HQ3:=aC (HQ2.o.below (Cde.cO V2 nq))
  generalize V2.drewN nq=V3 at *
  clear HQ2 w6 cta ctb n0 n1 n2 n3 n4 n5
  have HL3:=aC (bQ HLe1.o HQ3.o.lo)
  obtain⟨n0,n1,n2,n3,n4,n5⟩:=aJ HQ3.o.n
  rw[HEa.o] at n1
  rw[HEb.o] at n2
  obtain⟨a0,a1,a2,a3,a4,a5⟩:=aJ HQ3.o.a
  obtain⟨b0,b1,b2,b3,b4,b5⟩:=aJ HQ3.o.b
  have hO:=HOq.o
  clear HOq
  have HO:=aC hO.symm
  clear hO
  go_wp2_with fail
  exact bodyPost_ret (v:=.tuple #[.int .i64 0,.bool false]) (by simp[results,Tryz.results61,go_sem]) rfl (iY.no HO.o HQ3.o.lo)
 ·obtain⟨V2,hV2⟩:∃ V2,((V1.alloc (.cells (ia B) 57)).alloc (.cells (ia A) 57)).drew=V2:=⟨_,rfl⟩
  rw[hV2]
  obtain⟨gb,hx1⟩:∃ g,V1.heap.size=g:=⟨_,rfl⟩
  obtain⟨ga,hy1⟩:∃ g,gb+1=g:=⟨_,rfl⟩
  have HQ2:Hid (Qk W V V2 b gn ga gb f dd out (.slice (some ⟨gl,off,none⟩) wn wc) (.slice sa sn sc) mv (.slice (some ⟨gt,0,none⟩) T.length ct) M T n A B):=aC (by rw[<-hV2,<-hy1,<-hx1];exact⟨((HF0.o.below (aH _ _)).below (aH _ _)).below (aD _),((HN0.o.below (aH _ _)).below (aH _ _)).below (aD _),(iM V1 _ 57 (ia A)).below (aD _),((aI.new V1 57 (ia B)).alloc _).below (aD _),bel (bel (bel HB1.o (aH _ _)) (aH _ _)) (aD _),fun hk=>by have:=(HF0.o.m.lt _ hk).2;omega⟩)
  rw[hx1,hy1]
  clear hx1 hy1 hV2
  have w6:=HQ2.o.m.w.cell 6 rfl
  have cta:=HQ2.o.m.at HJa.o
  have ctb:=HQ2.o.m.at HJb.o
  rw[HXa2.o] at cta
  rw[HXb2.o] at ctb
  obtain⟨n0,n1,n2,n3,n4,n5⟩:=aJ HQ2.o.n
  rw[HEa.o] at n1
  rw[HEb.o] at n2
  obtain⟨tl,htl'⟩:∃ tl,T.length=tl:=⟨_,rfl⟩
  rw[htl'] at w6 htl
  have ia2:(na:Int) < tl:=by have:=HJa.o;omega
  have ib2:(nb:Int) < tl:=by have:=HJb.o;omega
  clear htl' HF0 HN0 HB1
  go_wp2_with fail
  go_quiet (fail)
  have HQ3:=aC (HQ2.o.below (Cde.cO V2 nq))
  generalize V2.drewN nq=V3 at *
  clear HQ2 w6 cta ctb n0 n1 n2 n3 n4 n5
  have HL3:=aC (bQ HLe1.o HQ3.o.lo)
  obtain⟨n0,n1,n2,n3,n4,n5⟩:=aJ HQ3.o.n
  rw[HEa.o] at n1
  rw[HEb.o] at n2
  obtain⟨a0,a1,a2,a3,a4,a5⟩:=aJ HQ3.o.a
  obtain⟨b0,b1,b2,b3,b4,b5⟩:=aJ HQ3.o.b
  have hO:=HOq.o
  clear HOq
  have HO:=aC hO.symm
  clear hO
  go_wp2_with fail
  exact bodyPost_ret (v:=.tuple #[.int .i64 0,.bool false]) (by simp[results,Tryz.results61,go_sem]) rfl (iY.no HO.o HQ3.o.lo)
end Go.Proofs.Rdc
