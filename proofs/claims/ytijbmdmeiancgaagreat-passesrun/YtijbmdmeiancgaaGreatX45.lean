import Derived.Test.YtijbmdmeiancgaaGreatXH
import Derived.Test.YtijbmdmeiancgaaGreatX43
set_option maxRecDepth 100000
set_option maxHeartbeats 32000000
set_option linter.unusedVariables false
namespace Go.Proofs.Rdc
open Go.RowKit Go.IntWalk Knd
open Cde (In i0 ia kd cd Ins kM aJ aG bB aL bJ eO aD bG i6 zA aM)
open Vfy (bL kN kK eH w32)
open Fld (bO rg gv ar fA)
theorem aRh (n:In)(hop:n.op=15){W V:World}{b:Nat}{f dd out:Int}{wa:Option Addr}{wn wc:Nat}{sa:Option Addr}{sn sc:Nat}{mv tv:Value}{L M:List In}{T:List Int}{S:eH}(h:Mt W V b f dd out (.slice wa wn wc) (.slice sa sn sc) mv tv M T)(hL:Ins W wa wn wc L)(hS:Spn.Spans W sa sn sc S)(hTw:T.length<=wn)(hTs:T.length<=sn)(hM:M.length<=1000000)(ia':bO n.a T.length)(ib':bO n.b T.length)
  (hSw:∀ r,bO r T.length->Wh (S.getD r.toNat (0,0)).1 (S.getD r.toNat (0,0)).2) (hLw:∀ r,bO r T.length->(rg L r).op=1->w32 (rg L r).k) :
  Calls Tryz.prog 61 #[.pointer (some ⟨b,0,none⟩),.agg (ia n)] V (iY W V b f dd out (.slice wa wn wc) (.slice sa sn sc) tv M T (kF L S T n M.length)):=by
 have hb1:=aH V (.cells (ia n) 57)
 have HF0:=aC (h.below hb1)
 have HN0:=aC (aI.new V 57 (ia n))
 have HB0:=aC hb1
 have HLe:=aC h.le
 have HM:=aC hM
 have hs:=hL.short
 obtain⟨na,gt,ct,ea,hja,htl,rfl,cta⟩:=HF0.o.reg ia'
 obtain⟨nb,gt',ct',eb,hjb,-,e',ctb⟩:=HF0.o.reg ib'
 cases e'
 obtain⟨xa,hxa⟩:∃ x,gv T n.a=x:=⟨_,rfl⟩
 obtain⟨xb,hxb⟩:∃ x,gv T n.b=x:=⟨_,rfl⟩
 rw[hxa] at cta
 rw[hxb] at ctb
 obtain⟨gl,off,rfl,hgl,hat⟩:=(hL.later HF0.o.lo).at (by omega)
 obtain⟨a0,a1,a2,a3,a4,a5⟩:=hat na (by omega)
 obtain⟨b0,b1,b2,b3,b4,b5⟩:=hat nb (by omega)
 have hA:rg L n.a=L.getD na i0:=by rw[ea];rfl
 have hB:rg L n.b=L.getD nb i0:=by rw[eb];rfl
 obtain⟨m,hm⟩:∃ m:Int,(M.length:Int)=m:=⟨_,rfl⟩
 have HMl:=aC hm
 obtain⟨O,hO⟩:∃ O,kF L S T n M.length=O:=⟨_,rfl⟩
 rw[hO]
 unfold kF at hO
 rw[if_neg (by omega),if_pos hop] at hO
 have HW:=aC (hLw n.b ib')
 rw[hB] at HW hO
 rw[hA] at hO
 rw[hxa] at hO
 rw[hxb] at hO
 have HSw:=aC (hSw n.a ia')
 rw[ea] at HSw hxa
 have HIa:Hid (bO (na:Int) T.length):=aC (by rw[<-ea];exact ia')
 have HXa:=aC hxa
 have HSI:=aC hS
 have HTs:=aC hTs
 have HJa:=aC hja
 have HJb:=aC hjb
 have hxa':T.getD na 0=xa:=hxa
 have hxb':T.getD nb 0=xb:=by rw[eb] at hxb;exact hxb
 have HXa2:=aC hxa'
 have HXb2:=aC hxb'
 generalize L.getD na i0=A at *
 generalize L.getD nb i0=B at *
 obtain⟨n0,n1,n2,n3,n4,n5⟩:=aJ HN0.o
 rw[ea] at n1
 rw[eb] at n2
 have w2:=HF0.o.w.cell 2 rfl
 have hbl:=HF0.o.w.lt
 have HOq:=aC hO
 have tt0:decide (n.op < 8)=false:=by simp;omega
 have tt1:decide (25 < n.op)=false:=by simp;omega
 have t10:(n.op==10)=false:=by simp;omega
 have t15:(n.op==15)=true:=by simp;omega
 have ia0:(0:Int)<=na:=by omega
 have ia1:(na:Int) < wn:=by omega
 have ib0:(0:Int)<=nb:=by omega
 have ib1:(nb:Int) < wn:=by omega
 have HEa:=aC ea
 have HEb:=aC eb
 clear h hL hS hTw hTs hM ia' ib' hSw hLw hb1 hat hO hA hB ea eb hxa hxb hxa' hxb' hop
 go_enter Tryz.func61,Tryz.ntmps61
 go_upto_region 3 with fail
 obtain⟨gn,hgn⟩:∃ gn,V.heap.size=gn:=⟨_,rfl⟩
 obtain⟨V1,hV1⟩:∃ V1,V.alloc (.cells (ia n) 57)=V1:=⟨_,rfl⟩
 have HB0':=HB0.o
 have HLe':=HLe.o
 rw[hV1] at HF0 HN0 HB0' cta ctb hgl a0 a1 a2 a3 a4 a5 b0 b1 b2 b3 b4 b5 n0 n1 n2 n3 n4 n5 w2 hbl ⊢
 rw[hgn] at HN0 n0 n1 n2 n3 n4 n5 ⊢
 have HB1:=aC HB0'
 have HLe1:=aC HLe'
 clear HB0 HLe HB0' HLe' hV1 hgn
 have hnl:=HN0.o.lt
 go_region_held3 (fun w'=>(w'.cell? ⟨b,2,none⟩=some (.slice (some ⟨gl,off,none⟩) wn wc)/\w'.cell? ⟨gn,1,none⟩=some (.int .i64 (na:Int))/\w'.cell? ⟨gn,2,none⟩=some (.int .i64 (nb:Int)))/\(w'.cell? ⟨gl,off+na*6,none⟩=some (.int .i64 A.op)/\w'.cell? ⟨gl,off+na*6+1,none⟩=some (.int .i64 A.a)/\w'.cell? ⟨gl,off+na*6+2,none⟩=some (.int .i64 A.b)/\w'.cell? ⟨gl,off+na*6+3,none⟩=some (.int .i64 A.c)/\w'.cell? ⟨gl,off+na*6+4,none⟩=some (.int .i64 A.k)/\w'.cell? ⟨gl,off+na*6+5,none⟩=some (.int .i64 A.s))/\(w'.cell? ⟨gl,off+nb*6,none⟩=some (.int .i64 B.op)/\w'.cell? ⟨gl,off+nb*6+1,none⟩=some (.int .i64 B.a)/\w'.cell? ⟨gl,off+nb*6+2,none⟩=some (.int .i64 B.b)/\w'.cell? ⟨gl,off+nb*6+3,none⟩=some (.int .i64 B.c)/\w'.cell? ⟨gl,off+nb*6+4,none⟩=some (.int .i64 B.k)/\w'.cell? ⟨gl,off+nb*6+5,none⟩=some (.int .i64 B.s)))
  (first|exact⟨⟨w2,n1,n2⟩,⟨a0,a1,a2,a3,a4,a5⟩,⟨b0,b1,b2,b3,b4,b5⟩⟩|go_keep) (fail)
 all_goals clear a0 a1 a2 a3 a4 a5 b0 b1 b2 b3 b4 b5 n0 n1 n2 n3 n4 n5 w2 hbl cta ctb hnl hgl
 ·obtain⟨V2,hV2⟩:∃ V2,((V1.alloc (.cells (ia A) 57)).alloc (.cells (ia B) 57)).drew=V2:=⟨_,rfl⟩
  rw[hV2]
  obtain⟨ga,hx1⟩:∃ g,V1.heap.size=g:=⟨_,rfl⟩
  obtain⟨gb,hy1⟩:∃ g,ga+1=g:=⟨_,rfl⟩
  have HQ2:Hid (Qk W V V2 b gn ga gb f dd out (.slice (some ⟨gl,off,none⟩) wn wc) (.slice sa sn sc) mv (.slice (some ⟨gt,0,none⟩) T.length ct) M T n A B):=aC (by rw[<-hV2,<-hy1,<-hx1];exact⟨((HF0.o.below (aH _ _)).below (aH _ _)).below (aD _),((HN0.o.below (aH _ _)).below (aH _ _)).below (aD _),((aI.new V1 57 (ia A)).alloc _).below (aD _),(iM V1 _ 57 (ia B)).below (aD _),bel (bel (bel HB1.o (aH _ _)) (aH _ _)) (aD _),fun hk=>by have:=(HF0.o.m.lt _ hk).2;omega⟩)
  rw[hx1,hy1]
  clear hx1 hy1 hV2
  have w6:=HQ2.o.m.w.cell 6 rfl
  have cta:=HQ2.o.m.at HJa.o
  have ctb:=HQ2.o.m.at HJb.o
  rw[HXa2.o] at cta
  rw[HXb2.o] at ctb
  obtain⟨n0,n1,n2,n3,n4,n5⟩:=aJ HQ2.o.n
  rw[HEa.o] at n1
  rw[HEb.o] at n2
  obtain⟨tl,htl'⟩:∃ tl,T.length=tl:=⟨_,rfl⟩
  rw[htl'] at w6 htl
  have ia2:(na:Int) < tl:=by have:=HJa.o;omega
  have ib2:(nb:Int) < tl:=by have:=HJb.o;omega
  clear htl' HF0 HN0 HB1
  go_wp2_with fail
  go_quiet (fail)
  have HQ3:=aC (HQ2.o.below (Cde.cO V2 nq))
  generalize V2.drewN nq=V3 at *
  clear HQ2 w6 cta ctb n0 n1 n2 n3 n4 n5
  have HL3:=aC (bQ HLe1.o HQ3.o.lo)
  obtain⟨n0,n1,n2,n3,n4,n5⟩:=aJ HQ3.o.n
  rw[HEa.o] at n1
  rw[HEb.o] at n2
  obtain⟨a0,a1,a2,a3,a4,a5⟩:=aJ HQ3.o.a
  obtain⟨b0,b1,b2,b3,b4,b5⟩:=aJ HQ3.o.b
  have hO:=HOq.o
  clear HOq
  by_cases hB1:B.op=1/\0<=B.k
  ·rw[if_pos hB1] at hO
   have HO:=aC hO.symm
   have tB:(B.op==1)=true:=by simpa using hB1.1
   have tB2:decide (0<=B.k)=true:=by simpa using hB1.2
   clear hO hB1
   have HU:=aC (iT 31 xa 0 B.k 0 HQ3.o.m HMl.o (by have:=HM.o;omega))
   go_wp2_with fail
   refine HU.o.mono ?_
   rintro e V4 ⟨rfl,hw,hb,-⟩
   have HB4:=aC (HL3.o.trans hb)
   have HW4:=aC hw
   clear hw hb HU
   go_wp2_with fail
   exact bodyPost_ret (v:=.tuple #[.int .i64 m,.bool true]) (by simp[results,Tryz.results61,go_sem]) rfl (iY.many [⟨31,xa,0,0,B.k,0⟩] HO.o (by have:=HMl.o;simp;omega) HW4.o HB4.o)
  ·rw[if_neg hB1] at hO
   have hBn:(B.op==1)=false\/((B.op==1)=true/\decide (0<=B.k)=false):=by
    by_cases e:B.op=1
    ·exact .inr ⟨by simpa using e,by simp;omega⟩
    ·exact .inl (by simpa using e)
   clear hB1
   by_cases hA1:A.op=1/\0<=A.k
   ·rw[if_pos hA1] at hO
    have HO:=aC hO.symm
    have tA:(A.op==1)=true:=by simpa using hA1.1
    have tA2:decide (0<=A.k)=true:=by simpa using hA1.2
    clear hO hA1
    rcases hBn with tB|⟨tB,tB2⟩
    all_goals
     have HU:=aC (iT 31 xb 0 A.k 0 HQ3.o.m HMl.o (by have:=HM.o;omega))
     go_wp2_with fail
     refine HU.o.mono ?_
     rintro e V4 ⟨rfl,hw,hb,-⟩
     have HB4:=aC (HL3.o.trans hb)
     have HW4:=aC hw
     clear hw hb HU
     go_wp2_with fail
     exact bodyPost_ret (v:=.tuple #[.int .i64 m,.bool true]) (by simp[results,Tryz.results61,go_sem]) rfl (iY.many [⟨31,xb,0,0,A.k,0⟩] HO.o (by have:=HMl.o;simp;omega) HW4.o HB4.o)
   ·rw[if_neg hA1] at hO
    have HO:=aC hO.symm
    have hAn:(A.op==1)=false\/((A.op==1)=true/\decide (0<=A.k)=false):=by
     by_cases e:A.op=1
     ·exact .inr ⟨by simpa using e,by simp;omega⟩
     ·exact .inl (by simpa using e)
    clear hO hA1
    rcases hBn with tB|⟨tB,tB2⟩
    all_goals
     rcases hAn with tA|⟨tA,tA2⟩
     all_goals
      go_wp2_with fail
      exact bodyPost_ret (v:=.tuple #[.int .i64 0,.bool false]) (by simp[results,Tryz.results61,go_sem]) rfl (iY.no HO.o HQ3.o.lo)
 ·obtain⟨V2,hV2⟩:∃ V2,((V1.alloc (.cells (ia B) 57)).alloc (.cells (ia A) 57)).drew=V2:=⟨_,rfl⟩
  rw[hV2]
  obtain⟨gb,hx1⟩:∃ g,V1.heap.size=g:=⟨_,rfl⟩
  obtain⟨ga,hy1⟩:∃ g,gb+1=g:=⟨_,rfl⟩
  have HQ2:Hid (Qk W V V2 b gn ga gb f dd out (.slice (some ⟨gl,off,none⟩) wn wc) (.slice sa sn sc) mv (.slice (some ⟨gt,0,none⟩) T.length ct) M T n A B):=aC (by rw[<-hV2,<-hy1,<-hx1];exact⟨((HF0.o.below (aH _ _)).below (aH _ _)).below (aD _),((HN0.o.below (aH _ _)).below (aH _ _)).below (aD _),(iM V1 _ 57 (ia A)).below (aD _),((aI.new V1 57 (ia B)).alloc _).below (aD _),bel (bel (bel HB1.o (aH _ _)) (aH _ _)) (aD _),fun hk=>by have:=(HF0.o.m.lt _ hk).2;omega⟩)
  rw[hx1,hy1]
  clear hx1 hy1 hV2
  have w6:=HQ2.o.m.w.cell 6 rfl
  have cta:=HQ2.o.m.at HJa.o
  have ctb:=HQ2.o.m.at HJb.o
  rw[HXa2.o] at cta
  rw[HXb2.o] at ctb
  obtain⟨n0,n1,n2,n3,n4,n5⟩:=aJ HQ2.o.n
  rw[HEa.o] at n1
  rw[HEb.o] at n2
  obtain⟨tl,htl'⟩:∃ tl,T.length=tl:=⟨_,rfl⟩
  rw[htl'] at w6 htl
  have ia2:(na:Int) < tl:=by have:=HJa.o;omega
  have ib2:(nb:Int) < tl:=by have:=HJb.o;omega
  clear htl' HF0 HN0 HB1
  go_wp2_with fail
  go_quiet (fail)
  have HQ3:=aC (HQ2.o.below (Cde.cO V2 nq))
  generalize V2.drewN nq=V3 at *
  clear HQ2 w6 cta ctb n0 n1 n2 n3 n4 n5
  have HL3:=aC (bQ HLe1.o HQ3.o.lo)
  obtain⟨n0,n1,n2,n3,n4,n5⟩:=aJ HQ3.o.n
  rw[HEa.o] at n1
  rw[HEb.o] at n2
  obtain⟨a0,a1,a2,a3,a4,a5⟩:=aJ HQ3.o.a
  obtain⟨b0,b1,b2,b3,b4,b5⟩:=aJ HQ3.o.b
  have hO:=HOq.o
  clear HOq
  by_cases hB1:B.op=1/\0<=B.k
  ·rw[if_pos hB1] at hO
   have HO:=aC hO.symm
   have tB:(B.op==1)=true:=by simpa using hB1.1
   have tB2:decide (0<=B.k)=true:=by simpa using hB1.2
   clear hO hB1
   have HU:=aC (iT 31 xa 0 B.k 0 HQ3.o.m HMl.o (by have:=HM.o;omega))
   go_wp2_with fail
   refine HU.o.mono ?_
   rintro e V4 ⟨rfl,hw,hb,-⟩
   have HB4:=aC (HL3.o.trans hb)
   have HW4:=aC hw
   clear hw hb HU
   go_wp2_with fail
   exact bodyPost_ret (v:=.tuple #[.int .i64 m,.bool true]) (by simp[results,Tryz.results61,go_sem]) rfl (iY.many [⟨31,xa,0,0,B.k,0⟩] HO.o (by have:=HMl.o;simp;omega) HW4.o HB4.o)
  ·rw[if_neg hB1] at hO
   have hBn:(B.op==1)=false\/((B.op==1)=true/\decide (0<=B.k)=false):=by
    by_cases e:B.op=1
    ·exact .inr ⟨by simpa using e,by simp;omega⟩
    ·exact .inl (by simpa using e)
   clear hB1
   by_cases hA1:A.op=1/\0<=A.k
   ·rw[if_pos hA1] at hO
    have HO:=aC hO.symm
    have tA:(A.op==1)=true:=by simpa using hA1.1
    have tA2:decide (0<=A.k)=true:=by simpa using hA1.2
    clear hO hA1
    rcases hBn with tB|⟨tB,tB2⟩
    all_goals
     have HU:=aC (iT 31 xb 0 A.k 0 HQ3.o.m HMl.o (by have:=HM.o;omega))
     go_wp2_with fail
     refine HU.o.mono ?_
     rintro e V4 ⟨rfl,hw,hb,-⟩
     have HB4:=aC (HL3.o.trans hb)
     have HW4:=aC hw
     clear hw hb HU
     go_wp2_with fail
     exact bodyPost_ret (v:=.tuple #[.int .i64 m,.bool true]) (by simp[results,Tryz.results61,go_sem]) rfl (iY.many [⟨31,xb,0,0,A.k,0⟩] HO.o (by have:=HMl.o;simp;omega) HW4.o HB4.o)
   ·rw[if_neg hA1] at hO
    have HO:=aC hO.symm
    have hAn:(A.op==1)=false\/((A.op==1)=true/\decide (0<=A.k)=false):=by
     by_cases e:A.op=1
     ·exact .inr ⟨by simpa using e,by simp;omega⟩
     ·exact .inl (by simpa using e)
    clear hO hA1
    rcases hBn with tB|⟨tB,tB2⟩
    all_goals
     rcases hAn with tA|⟨tA,tA2⟩
     all_goals
      go_wp2_with fail
      exact bodyPost_ret (v:=.tuple #[.int .i64 0,.bool false]) (by simp[results,Tryz.results61,go_sem]) rfl (iY.no HO.o HQ3.o.lo)
theorem aRx (n:In)(hop:n.op=11){W V:World}{b:Nat}{f dd out:Int}{wa:Option Addr}{wn wc:Nat}{sa:Option Addr}{sn sc:Nat}{mv tv:Value}{L M:List In}{T:List Int}{S:eH}(h:Mt W V b f dd out (.slice wa wn wc) (.slice sa sn sc) mv tv M T)(hL:Ins W wa wn wc L)(hS:Spn.Spans W sa sn sc S)(hTw:T.length<=wn)(hTs:T.length<=sn)(hM:M.length<=1000000)(ia':bO n.a T.length)(ib':bO n.b T.length)
  (hSw:∀ r,bO r T.length->Wh (S.getD r.toNat (0,0)).1 (S.getD r.toNat (0,0)).2) (hLw:∀ r,bO r T.length->(rg L r).op=1->w32 (rg L r).k) :
  Calls Tryz.prog 61 #[.pointer (some ⟨b,0,none⟩),.agg (ia n)] V (iY W V b f dd out (.slice wa wn wc) (.slice sa sn sc) tv M T (kF L S T n M.length)):=by
 have hb1:=aH V (.cells (ia n) 57)
 have HF0:=aC (h.below hb1)
 have HN0:=aC (aI.new V 57 (ia n))
 have HB0:=aC hb1
 have HLe:=aC h.le
 have HM:=aC hM
 have hs:=hL.short
 obtain⟨na,gt,ct,ea,hja,htl,rfl,cta⟩:=HF0.o.reg ia'
 obtain⟨nb,gt',ct',eb,hjb,-,e',ctb⟩:=HF0.o.reg ib'
 cases e'
 obtain⟨xa,hxa⟩:∃ x,gv T n.a=x:=⟨_,rfl⟩
 obtain⟨xb,hxb⟩:∃ x,gv T n.b=x:=⟨_,rfl⟩
 rw[hxa] at cta
 rw[hxb] at ctb
 obtain⟨gl,off,rfl,hgl,hat⟩:=(hL.later HF0.o.lo).at (by omega)
 obtain⟨a0,a1,a2,a3,a4,a5⟩:=hat na (by omega)
 obtain⟨b0,b1,b2,b3,b4,b5⟩:=hat nb (by omega)
 have hA:rg L n.a=L.getD na i0:=by rw[ea];rfl
 have hB:rg L n.b=L.getD nb i0:=by rw[eb];rfl
 obtain⟨m,hm⟩:∃ m:Int,(M.length:Int)=m:=⟨_,rfl⟩
 have HMl:=aC hm
 obtain⟨O,hO⟩:∃ O,kF L S T n M.length=O:=⟨_,rfl⟩
 rw[hO]
 unfold kF at hO
 rw[if_neg (by omega),if_neg (by omega),if_neg (by omega),if_neg (by omega),if_pos hop] at hO
 have HW:=aC (hLw n.b ib')
 rw[hB] at HW hO
 rw[hxa] at hO
 rw[hm] at hO
 have HSw:=aC (hSw n.a ia')
 rw[ea] at HSw hxa
 rw[ea] at hO
 have HIa:Hid (bO (na:Int) T.length):=aC (by rw[<-ea];exact ia')
 have HXa:=aC hxa
 have HSI:=aC hS
 have HTs:=aC hTs
 have HJa:=aC hja
 have HJb:=aC hjb
 have hxa':T.getD na 0=xa:=hxa
 have hxb':T.getD nb 0=xb:=by rw[eb] at hxb;exact hxb
 have HXa2:=aC hxa'
 have HXb2:=aC hxb'
 generalize L.getD na i0=A at *
 generalize L.getD nb i0=B at *
 obtain⟨n0,n1,n2,n3,n4,n5⟩:=aJ HN0.o
 rw[ea] at n1
 rw[eb] at n2
 have w2:=HF0.o.w.cell 2 rfl
 have hbl:=HF0.o.w.lt
 have HOq:=aC hO
 have tt0:decide (n.op < 8)=false:=by simp;omega
 have tt1:decide (25 < n.op)=false:=by simp;omega
 have t10:(n.op==10)=false:=by simp;omega
 have t15:(n.op==15)=false:=by simp;omega
 have t13:(n.op==13)=false:=by simp;omega
 have t14:(n.op==14)=false:=by simp;omega
 have t11:(n.op==11)=true:=by simp;omega
 have ia0:(0:Int)<=na:=by omega
 have ia1:(na:Int) < wn:=by omega
 have ib0:(0:Int)<=nb:=by omega
 have ib1:(nb:Int) < wn:=by omega
 have HEa:=aC ea
 have HEb:=aC eb
 clear h hL hS hTw hTs hM ia' ib' hSw hLw hb1 hat hO hA hB ea eb hxa hxb hxa' hxb' hop
 go_enter Tryz.func61,Tryz.ntmps61
 go_upto_region 3 with fail
 obtain⟨gn,hgn⟩:∃ gn,V.heap.size=gn:=⟨_,rfl⟩
 obtain⟨V1,hV1⟩:∃ V1,V.alloc (.cells (ia n) 57)=V1:=⟨_,rfl⟩
 have HB0':=HB0.o
 have HLe':=HLe.o
 rw[hV1] at HF0 HN0 HB0' cta ctb hgl a0 a1 a2 a3 a4 a5 b0 b1 b2 b3 b4 b5 n0 n1 n2 n3 n4 n5 w2 hbl ⊢
 rw[hgn] at HN0 n0 n1 n2 n3 n4 n5 ⊢
 have HB1:=aC HB0'
 have HLe1:=aC HLe'
 clear HB0 HLe HB0' HLe' hV1 hgn
 have hnl:=HN0.o.lt
 go_region_held3 (fun w'=>(w'.cell? ⟨b,2,none⟩=some (.slice (some ⟨gl,off,none⟩) wn wc)/\w'.cell? ⟨gn,1,none⟩=some (.int .i64 (na:Int))/\w'.cell? ⟨gn,2,none⟩=some (.int .i64 (nb:Int)))/\(w'.cell? ⟨gl,off+na*6,none⟩=some (.int .i64 A.op)/\w'.cell? ⟨gl,off+na*6+1,none⟩=some (.int .i64 A.a)/\w'.cell? ⟨gl,off+na*6+2,none⟩=some (.int .i64 A.b)/\w'.cell? ⟨gl,off+na*6+3,none⟩=some (.int .i64 A.c)/\w'.cell? ⟨gl,off+na*6+4,none⟩=some (.int .i64 A.k)/\w'.cell? ⟨gl,off+na*6+5,none⟩=some (.int .i64 A.s))/\(w'.cell? ⟨gl,off+nb*6,none⟩=some (.int .i64 B.op)/\w'.cell? ⟨gl,off+nb*6+1,none⟩=some (.int .i64 B.a)/\w'.cell? ⟨gl,off+nb*6+2,none⟩=some (.int .i64 B.b)/\w'.cell? ⟨gl,off+nb*6+3,none⟩=some (.int .i64 B.c)/\w'.cell? ⟨gl,off+nb*6+4,none⟩=some (.int .i64 B.k)/\w'.cell? ⟨gl,off+nb*6+5,none⟩=some (.int .i64 B.s)))
  (first|exact⟨⟨w2,n1,n2⟩,⟨a0,a1,a2,a3,a4,a5⟩,⟨b0,b1,b2,b3,b4,b5⟩⟩|go_keep) (fail)
 all_goals clear a0 a1 a2 a3 a4 a5 b0 b1 b2 b3 b4 b5 n0 n1 n2 n3 n4 n5 w2 hbl cta ctb hnl hgl
 ·obtain⟨V2,hV2⟩:∃ V2,((V1.alloc (.cells (ia A) 57)).alloc (.cells (ia B) 57)).drew=V2:=⟨_,rfl⟩
  rw[hV2]
  obtain⟨ga,hx1⟩:∃ g,V1.heap.size=g:=⟨_,rfl⟩
  obtain⟨gb,hy1⟩:∃ g,ga+1=g:=⟨_,rfl⟩
  have HQ2:Hid (Qk W V V2 b gn ga gb f dd out (.slice (some ⟨gl,off,none⟩) wn wc) (.slice sa sn sc) mv (.slice (some ⟨gt,0,none⟩) T.length ct) M T n A B):=aC (by rw[<-hV2,<-hy1,<-hx1];exact⟨((HF0.o.below (aH _ _)).below (aH _ _)).below (aD _),((HN0.o.below (aH _ _)).below (aH _ _)).below (aD _),((aI.new V1 57 (ia A)).alloc _).below (aD _),(iM V1 _ 57 (ia B)).below (aD _),bel (bel (bel HB1.o (aH _ _)) (aH _ _)) (aD _),fun hk=>by have:=(HF0.o.m.lt _ hk).2;omega⟩)
  rw[hx1,hy1]
  clear hx1 hy1 hV2
  have w6:=HQ2.o.m.w.cell 6 rfl
  have cta:=HQ2.o.m.at HJa.o
  have ctb:=HQ2.o.m.at HJb.o
  rw[HXa2.o] at cta
  rw[HXb2.o] at ctb
  obtain⟨n0,n1,n2,n3,n4,n5⟩:=aJ HQ2.o.n
  rw[HEa.o] at n1
  rw[HEb.o] at n2
  obtain⟨tl,htl'⟩:∃ tl,T.length=tl:=⟨_,rfl⟩
  rw[htl'] at w6 htl
  have ia2:(na:Int) < tl:=by have:=HJa.o;omega
  have ib2:(nb:Int) < tl:=by have:=HJb.o;omega
  clear htl' HF0 HN0 HB1
  go_wp2_with fail
  go_quiet (fail)
  have HQ3:=aC (HQ2.o.below (Cde.cO V2 nq))
  generalize V2.drewN nq=V3 at *
  clear HQ2 w6 cta ctb n0 n1 n2 n3 n4 n5
  have HL3:=aC (bQ HLe1.o HQ3.o.lo)
  obtain⟨n0,n1,n2,n3,n4,n5⟩:=aJ HQ3.o.n
  rw[HEa.o] at n1
  rw[HEb.o] at n2
  obtain⟨a0,a1,a2,a3,a4,a5⟩:=aJ HQ3.o.a
  obtain⟨b0,b1,b2,b3,b4,b5⟩:=aJ HQ3.o.b
  have hO:=HOq.o
  clear HOq
  by_cases hB1:B.op=1
  ·rw[if_pos hB1] at hO
   have tB:(B.op==1)=true:=by simpa using hB1
   by_cases hk:B.k < 2
   ·rw[tJ hk] at hO
    have HO:=aC hO.symm
    have tK:decide (2<=B.k)=false:=by simp;omega
    clear hO hB1 hk
    go_wp2_with fail
    exact bodyPost_ret (v:=.tuple #[.int .i64 0,.bool false]) (by simp[results,Tryz.results61,go_sem]) rfl (iY.no HO.o HQ3.o.lo)
   ·have HDv:=aC (sJ (na:Int) B.k ⟨by omega,(HW.o hB1).2⟩ HQ3.o.m HSI.o HTs.o HM.o HIa.o (lo:=(S.getD ((na:Int)).toNat (0,0)).1) (hi:=(S.getD ((na:Int)).toNat (0,0)).2) rfl HSw.o)
    have tK:decide (2<=B.k)=true:=by simp;omega
    rw[HXa.o,HMl.o,hO] at HDv
    clear hO hB1 hk
    go_wp2_with fail
    refine HDv.o.mono ?_
    rintro e V4 hQ0
    have hQ:=hQ0.mono HLe1.o HQ3.o.lo
    clear hQ0 HDv
    have HQ:=aC hQ
    rcases hQ with⟨Q,-,rfl,-,-⟩|⟨-,rfl,-⟩
    ·obtain⟨z,hz⟩:∃ z:Int,((M.length+Q.length:Nat):Int)-1=z:=⟨_,rfl⟩
     rw[hz] at HQ ⊢
     clear hz
     go_wp2_with fail
     exact bodyPost_ret (v:=.tuple #[.int .i64 z,.bool true]) (by simp[results,Tryz.results61,go_sem]) rfl HQ.o
    ·go_wp2_with fail
     exact bodyPost_ret (v:=.tuple #[.int .i64 0,.bool false]) (by simp[results,Tryz.results61,go_sem]) rfl HQ.o
  ·rw[if_neg hB1] at hO
   have HO:=aC hO.symm
   have tB:(B.op==1)=false:=by simpa using hB1
   clear hO hB1
   go_wp2_with fail
   exact bodyPost_ret (v:=.tuple #[.int .i64 0,.bool false]) (by simp[results,Tryz.results61,go_sem]) rfl (iY.no HO.o HQ3.o.lo)
 ·obtain⟨V2,hV2⟩:∃ V2,((V1.alloc (.cells (ia B) 57)).alloc (.cells (ia A) 57)).drew=V2:=⟨_,rfl⟩
  rw[hV2]
  obtain⟨gb,hx1⟩:∃ g,V1.heap.size=g:=⟨_,rfl⟩
  obtain⟨ga,hy1⟩:∃ g,gb+1=g:=⟨_,rfl⟩
  have HQ2:Hid (Qk W V V2 b gn ga gb f dd out (.slice (some ⟨gl,off,none⟩) wn wc) (.slice sa sn sc) mv (.slice (some ⟨gt,0,none⟩) T.length ct) M T n A B):=aC (by rw[<-hV2,<-hy1,<-hx1];exact⟨((HF0.o.below (aH _ _)).below (aH _ _)).below (aD _),((HN0.o.below (aH _ _)).below (aH _ _)).below (aD _),(iM V1 _ 57 (ia A)).below (aD _),((aI.new V1 57 (ia B)).alloc _).below (aD _),bel (bel (bel HB1.o (aH _ _)) (aH _ _)) (aD _),fun hk=>by have:=(HF0.o.m.lt _ hk).2;omega⟩)
  rw[hx1,hy1]
  clear hx1 hy1 hV2
  have w6:=HQ2.o.m.w.cell 6 rfl
  have cta:=HQ2.o.m.at HJa.o
  have ctb:=HQ2.o.m.at HJb.o
  rw[HXa2.o] at cta
  rw[HXb2.o] at ctb
  obtain⟨n0,n1,n2,n3,n4,n5⟩:=aJ HQ2.o.n
  rw[HEa.o] at n1
  rw[HEb.o] at n2
  obtain⟨tl,htl'⟩:∃ tl,T.length=tl:=⟨_,rfl⟩
  rw[htl'] at w6 htl
  have ia2:(na:Int) < tl:=by have:=HJa.o;omega
  have ib2:(nb:Int) < tl:=by have:=HJb.o;omega
  clear htl' HF0 HN0 HB1
  go_wp2_with fail
  go_quiet (fail)
  have HQ3:=aC (HQ2.o.below (Cde.cO V2 nq))
  generalize V2.drewN nq=V3 at *
  clear HQ2 w6 cta ctb n0 n1 n2 n3 n4 n5
  have HL3:=aC (bQ HLe1.o HQ3.o.lo)
  obtain⟨n0,n1,n2,n3,n4,n5⟩:=aJ HQ3.o.n
  rw[HEa.o] at n1
  rw[HEb.o] at n2
  obtain⟨a0,a1,a2,a3,a4,a5⟩:=aJ HQ3.o.a
  obtain⟨b0,b1,b2,b3,b4,b5⟩:=aJ HQ3.o.b
  have hO:=HOq.o
  clear HOq
  by_cases hB1:B.op=1
  ·rw[if_pos hB1] at hO
   have tB:(B.op==1)=true:=by simpa using hB1
   by_cases hk:B.k < 2
   ·rw[tJ hk] at hO
    have HO:=aC hO.symm
    have tK:decide (2<=B.k)=false:=by simp;omega
    clear hO hB1 hk
    go_wp2_with fail
    exact bodyPost_ret (v:=.tuple #[.int .i64 0,.bool false]) (by simp[results,Tryz.results61,go_sem]) rfl (iY.no HO.o HQ3.o.lo)
   ·have HDv:=aC (sJ (na:Int) B.k ⟨by omega,(HW.o hB1).2⟩ HQ3.o.m HSI.o HTs.o HM.o HIa.o (lo:=(S.getD ((na:Int)).toNat (0,0)).1) (hi:=(S.getD ((na:Int)).toNat (0,0)).2) rfl HSw.o)
    have tK:decide (2<=B.k)=true:=by simp;omega
    rw[HXa.o,HMl.o,hO] at HDv
    clear hO hB1 hk
    go_wp2_with fail
    refine HDv.o.mono ?_
    rintro e V4 hQ0
    have hQ:=hQ0.mono HLe1.o HQ3.o.lo
    clear hQ0 HDv
    have HQ:=aC hQ
    rcases hQ with⟨Q,-,rfl,-,-⟩|⟨-,rfl,-⟩
    ·obtain⟨z,hz⟩:∃ z:Int,((M.length+Q.length:Nat):Int)-1=z:=⟨_,rfl⟩
     rw[hz] at HQ ⊢
     clear hz
     go_wp2_with fail
     exact bodyPost_ret (v:=.tuple #[.int .i64 z,.bool true]) (by simp[results,Tryz.results61,go_sem]) rfl HQ.o
    ·go_wp2_with fail
     exact bodyPost_ret (v:=.tuple #[.int .i64 0,.bool false]) (by simp[results,Tryz.results61,go_sem]) rfl HQ.o
  ·rw[if_neg hB1] at hO
   have HO:=aC hO.symm
   have tB:(B.op==1)=false:=by simpa using hB1
   clear hO hB1
   go_wp2_with fail
   exact bodyPost_ret (v:=.tuple #[.int .i64 0,.bool false]) (by simp[results,Tryz.results61,go_sem]) rfl (iY.no HO.o HQ3.o.lo)
theorem aSq (n:In)(hop:n.op=12){W V:World}{b:Nat}{f dd out:Int}{wa:Option Addr}{wn wc:Nat}{sa:Option Addr}{sn sc:Nat}{mv tv:Value}{L M:List In}{T:List Int}{S:eH}(h:Mt W V b f dd out (.slice wa wn wc) (.slice sa sn sc) mv tv M T)(hL:Ins W wa wn wc L)(hS:Spn.Spans W sa sn sc S)(hTw:T.length<=wn)(hTs:T.length<=sn)(hM:M.length<=1000000)(ia':bO n.a T.length)(ib':bO n.b T.length)
  (hSw:∀ r,bO r T.length->Wh (S.getD r.toNat (0,0)).1 (S.getD r.toNat (0,0)).2) (hLw:∀ r,bO r T.length->(rg L r).op=1->w32 (rg L r).k) :
  Calls Tryz.prog 61 #[.pointer (some ⟨b,0,none⟩),.agg (ia n)] V (iY W V b f dd out (.slice wa wn wc) (.slice sa sn sc) tv M T (kF L S T n M.length)):=by
 have hb1:=aH V (.cells (ia n) 57)
 have HF0:=aC (h.below hb1)
 have HN0:=aC (aI.new V 57 (ia n))
 have HB0:=aC hb1
 have HLe:=aC h.le
 have HM:=aC hM
 have hs:=hL.short
 obtain⟨na,gt,ct,ea,hja,htl,rfl,cta⟩:=HF0.o.reg ia'
 obtain⟨nb,gt',ct',eb,hjb,-,e',ctb⟩:=HF0.o.reg ib'
 cases e'
 obtain⟨xa,hxa⟩:∃ x,gv T n.a=x:=⟨_,rfl⟩
 obtain⟨xb,hxb⟩:∃ x,gv T n.b=x:=⟨_,rfl⟩
 rw[hxa] at cta
 rw[hxb] at ctb
 obtain⟨gl,off,rfl,hgl,hat⟩:=(hL.later HF0.o.lo).at (by omega)
 obtain⟨a0,a1,a2,a3,a4,a5⟩:=hat na (by omega)
 obtain⟨b0,b1,b2,b3,b4,b5⟩:=hat nb (by omega)
 have hA:rg L n.a=L.getD na i0:=by rw[ea];rfl
 have hB:rg L n.b=L.getD nb i0:=by rw[eb];rfl
 obtain⟨m,hm⟩:∃ m:Int,(M.length:Int)=m:=⟨_,rfl⟩
 have HMl:=aC hm
 obtain⟨O,hO⟩:∃ O,kF L S T n M.length=O:=⟨_,rfl⟩
 rw[hO]
 unfold kF at hO
 rw[if_neg (by omega),if_neg (by omega),if_neg (by omega),if_neg (by omega),if_neg (by omega),if_pos hop] at hO
 have HW:=aC (hLw n.b ib')
 rw[hB] at HW hO
 rw[hxa] at hO
 rw[hm] at hO
 have HSw:=aC (hSw n.a ia')
 rw[ea] at HSw hxa
 rw[ea] at hO
 have HIa:Hid (bO (na:Int) T.length):=aC (by rw[<-ea];exact ia')
 have HXa:=aC hxa
 have HSI:=aC hS
 have HTs:=aC hTs
 have HJa:=aC hja
 have HJb:=aC hjb
 have hxa':T.getD na 0=xa:=hxa
 have hxb':T.getD nb 0=xb:=by rw[eb] at hxb;exact hxb
 have HXa2:=aC hxa'
 have HXb2:=aC hxb'
 generalize L.getD na i0=A at *
 generalize L.getD nb i0=B at *
 obtain⟨n0,n1,n2,n3,n4,n5⟩:=aJ HN0.o
 rw[ea] at n1
 rw[eb] at n2
 have w2:=HF0.o.w.cell 2 rfl
 have hbl:=HF0.o.w.lt
 have HOq:=aC hO
 have tt0:decide (n.op < 8)=false:=by simp;omega
 have tt1:decide (25 < n.op)=false:=by simp;omega
 have t10:(n.op==10)=false:=by simp;omega
 have t15:(n.op==15)=false:=by simp;omega
 have t13:(n.op==13)=false:=by simp;omega
 have t14:(n.op==14)=false:=by simp;omega
 have t11:(n.op==11)=false:=by simp;omega
 have t12:(n.op==12)=true:=by simp;omega
 have ia0:(0:Int)<=na:=by omega
 have ia1:(na:Int) < wn:=by omega
 have ib0:(0:Int)<=nb:=by omega
 have ib1:(nb:Int) < wn:=by omega
 have HEa:=aC ea
 have HEb:=aC eb
 clear h hL hS hTw hTs hM ia' ib' hSw hLw hb1 hat hO hA hB ea eb hxa hxb hxa' hxb' hop
 go_enter Tryz.func61,Tryz.ntmps61
 go_upto_region 3 with fail
 obtain⟨gn,hgn⟩:∃ gn,V.heap.size=gn:=⟨_,rfl⟩
 obtain⟨V1,hV1⟩:∃ V1,V.alloc (.cells (ia n) 57)=V1:=⟨_,rfl⟩
 have HB0':=HB0.o
 have HLe':=HLe.o
 rw[hV1] at HF0 HN0 HB0' cta ctb hgl a0 a1 a2 a3 a4 a5 b0 b1 b2 b3 b4 b5 n0 n1 n2 n3 n4 n5 w2 hbl ⊢
 rw[hgn] at HN0 n0 n1 n2 n3 n4 n5 ⊢
 have HB1:=aC HB0'
 have HLe1:=aC HLe'
 clear HB0 HLe HB0' HLe' hV1 hgn
 have hnl:=HN0.o.lt
 go_region_held3 (fun w'=>(w'.cell? ⟨b,2,none⟩=some (.slice (some ⟨gl,off,none⟩) wn wc)/\w'.cell? ⟨gn,1,none⟩=some (.int .i64 (na:Int))/\w'.cell? ⟨gn,2,none⟩=some (.int .i64 (nb:Int)))/\(w'.cell? ⟨gl,off+na*6,none⟩=some (.int .i64 A.op)/\w'.cell? ⟨gl,off+na*6+1,none⟩=some (.int .i64 A.a)/\w'.cell? ⟨gl,off+na*6+2,none⟩=some (.int .i64 A.b)/\w'.cell? ⟨gl,off+na*6+3,none⟩=some (.int .i64 A.c)/\w'.cell? ⟨gl,off+na*6+4,none⟩=some (.int .i64 A.k)/\w'.cell? ⟨gl,off+na*6+5,none⟩=some (.int .i64 A.s))/\(w'.cell? ⟨gl,off+nb*6,none⟩=some (.int .i64 B.op)/\w'.cell? ⟨gl,off+nb*6+1,none⟩=some (.int .i64 B.a)/\w'.cell? ⟨gl,off+nb*6+2,none⟩=some (.int .i64 B.b)/\w'.cell? ⟨gl,off+nb*6+3,none⟩=some (.int .i64 B.c)/\w'.cell? ⟨gl,off+nb*6+4,none⟩=some (.int .i64 B.k)/\w'.cell? ⟨gl,off+nb*6+5,none⟩=some (.int .i64 B.s)))
  (first|exact⟨⟨w2,n1,n2⟩,⟨a0,a1,a2,a3,a4,a5⟩,⟨b0,b1,b2,b3,b4,b5⟩⟩|go_keep) (fail)
 all_goals clear a0 a1 a2 a3 a4 a5 b0 b1 b2 b3 b4 b5 n0 n1 n2 n3 n4 n5 w2 hbl cta ctb hnl hgl
 ·obtain⟨V2,hV2⟩:∃ V2,((V1.alloc (.cells (ia A) 57)).alloc (.cells (ia B) 57)).drew=V2:=⟨_,rfl⟩
  rw[hV2]
  obtain⟨ga,hx1⟩:∃ g,V1.heap.size=g:=⟨_,rfl⟩
  obtain⟨gb,hy1⟩:∃ g,ga+1=g:=⟨_,rfl⟩
  have HQ2:Hid (Qk W V V2 b gn ga gb f dd out (.slice (some ⟨gl,off,none⟩) wn wc) (.slice sa sn sc) mv (.slice (some ⟨gt,0,none⟩) T.length ct) M T n A B):=aC (by rw[<-hV2,<-hy1,<-hx1];exact⟨((HF0.o.below (aH _ _)).below (aH _ _)).below (aD _),((HN0.o.below (aH _ _)).below (aH _ _)).below (aD _),((aI.new V1 57 (ia A)).alloc _).below (aD _),(iM V1 _ 57 (ia B)).below (aD _),bel (bel (bel HB1.o (aH _ _)) (aH _ _)) (aD _),fun hk=>by have:=(HF0.o.m.lt _ hk).2;omega⟩)
  rw[hx1,hy1]
  clear hx1 hy1 hV2
  have w6:=HQ2.o.m.w.cell 6 rfl
  have cta:=HQ2.o.m.at HJa.o
  have ctb:=HQ2.o.m.at HJb.o
  rw[HXa2.o] at cta
  rw[HXb2.o] at ctb
  obtain⟨n0,n1,n2,n3,n4,n5⟩:=aJ HQ2.o.n
  rw[HEa.o] at n1
  rw[HEb.o] at n2
  obtain⟨tl,htl'⟩:∃ tl,T.length=tl:=⟨_,rfl⟩
  rw[htl'] at w6 htl
  have ia2:(na:Int) < tl:=by have:=HJa.o;omega
  have ib2:(nb:Int) < tl:=by have:=HJb.o;omega
  clear htl' HF0 HN0 HB1
  go_wp2_with fail
  go_quiet (fail)
  have HQ3:=aC (HQ2.o.below (Cde.cO V2 nq))
  generalize V2.drewN nq=V3 at *
  clear HQ2 w6 cta ctb n0 n1 n2 n3 n4 n5
  have HL3:=aC (bQ HLe1.o HQ3.o.lo)
  obtain⟨n0,n1,n2,n3,n4,n5⟩:=aJ HQ3.o.n
  rw[HEa.o] at n1
  rw[HEb.o] at n2
  obtain⟨a0,a1,a2,a3,a4,a5⟩:=aJ HQ3.o.a
  obtain⟨b0,b1,b2,b3,b4,b5⟩:=aJ HQ3.o.b
  have hO:=HOq.o
  clear HOq
  by_cases hB1:B.op=1
  ·rw[if_pos hB1] at hO
   have tB:(B.op != 1)=false:=by simpa using hB1
   by_cases hk:B.k < 2
   ·rw[tJ hk,if_neg (by have:=aDt hk;omega)] at hO
    have HO:=aC hO.symm
    have tK:decide (B.k < 2)=true:=by simpa using hk
    clear hO hB1 hk
    go_wp2_with fail
    exact bodyPost_ret (v:=.tuple #[.int .i64 0,.bool false]) (by simp[results,Tryz.results61,go_sem]) rfl (iY.no HO.o HQ3.o.lo)
   ·have hBk:=(HW.o hB1).2
    have HDv:=aC fun(X:World) (hX:Mt W X b f dd out (.slice (some ⟨gl,off,none⟩) wn wc) (.slice sa sn sc) mv (.slice (some ⟨gt,0,none⟩) T.length ct) M T)=>(rG (na:Int) B.k ⟨by omega,hBk⟩ hX HSI.o HTs.o HM.o HIa.o (lo:=(S.getD ((na:Int)).toNat (0,0)).1) (hi:=(S.getD ((na:Int)).toNat (0,0)).2) rfl HSw.o)
    have tK:decide (B.k < 2)=false:=by simp;omega
    rw[HXa.o] at HDv
    obtain⟨lo,hlo⟩:∃ lo,(S.getD ((na:Int)).toNat (0,0)).1=lo:=⟨_,rfl⟩
    obtain⟨hi,hhi⟩:∃ hi,(S.getD ((na:Int)).toNat (0,0)).2=hi:=⟨_,rfl⟩
    have HPw:=aC fun w=>mW B.k w
    obtain⟨p,hp⟩:∃ p,oW B.k=p:=⟨_,rfl⟩
    rw[hp] at HPw
    obtain⟨gs,offs,rfl,hgs,hsc⟩:=(HSI.o.later HQ3.o.m.lo).at (by have:=HTs.o;omega)
    obtain⟨c0,c1⟩:=hsc na (by have:=HTs.o;omega)
    rw[show (S.getD na (0,0)).1=lo from hlo] at c0
    have w4:=HQ3.o.m.w.cell 4 rfl
    have isn:(na:Int) < sn:=by have:=HTs.o;omega
    have hsn:=HSI.o.le
    have hsn2:=HSI.o.max
    unfold maxLen at hsn2
    clear hsc hB1
    obtain⟨D,hD⟩:∃ D,rH lo hi xa B.k m=D:=⟨_,rfl⟩
    have HDl:Hid (∀ Q,D=some Q->Q.length<=4):=aC fun Q hq=>pW (hD.trans hq)
    rw[hlo,hhi,hp,hD] at hO
    rw[hlo,hhi,HMl.o,hD] at HDv
    clear hlo hhi hp hD
    by_cases h1:0 < p/\0<=lo
    ·rw[if_pos h1] at hO
     have HO:=aC hO.symm
     have u1:decide (0 < p)=true:=by simpa using h1.1
     have u2:decide (0<=lo)=true:=by simpa using h1.2
     clear hO h1 HDv
     go_wp2_with fail
     go_quiet ((go_at_call 93;exact Calls.quiet_of_same (HPw.o _)))
     have HQ4:=aC (HQ3.o.below (qE V3 nq))
     generalize V3.drewN nq=V3b at *
     clear HQ3 HL3 n0 n1 n2 n3 n4 n5 a0 a1 a2 a3 a4 a5 b0 b1 b2 b3 b4 b5 c0 c1 w4
     have HQ3:=HQ4
     clear HQ4
     have HL3:=aC (bQ HLe1.o HQ3.o.lo)
     obtain⟨n0,n1,n2,n3,n4,n5⟩:=aJ HQ3.o.n
     rw[HEa.o] at n1
     rw[HEb.o] at n2
     obtain⟨a0,a1,a2,a3,a4,a5⟩:=aJ HQ3.o.a
     obtain⟨b0,b1,b2,b3,b4,b5⟩:=aJ HQ3.o.b
     have HU:=aC (iT 31 xa 0 (B.k-1) 0 HQ3.o.m HMl.o (by have:=HM.o;omega))
     go_wp2_with fail
     refine HU.o.mono ?_
     rintro e V4 ⟨rfl,hw,hb,-⟩
     have HB4:=aC (HL3.o.trans hb)
     have HW4:=aC hw
     clear hw hb HU
     go_wp2_with fail
     exact bodyPost_ret (v:=.tuple #[.int .i64 m,.bool true]) (by simp[results,Tryz.results61,go_sem]) rfl (iY.many [⟨31,xa,0,0,(B.k-1),0⟩] HO.o (by have:=HMl.o;simp;omega) HW4.o HB4.o)
    ·rw[if_neg h1] at hO
     have hno:decide (0 < p)=false\/(decide (0 < p)=true/\decide (0<=lo)=false):=by
      by_cases h2:0 < p
      ·exact .inr ⟨by simpa using h2,by simp;omega⟩
      ·exact .inl (by simpa using h2)
     clear h1
     rcases hno with u1|⟨u1,u2⟩
     all_goals
      go_wp2_with fail
      go_quiet ((go_at_call 93;exact Calls.quiet_of_same (HPw.o _)))
      have HQ4:=aC (HQ3.o.below (qE V3 nq))
      generalize V3.drewN nq=V3b at *
      clear HQ3 HL3 n0 n1 n2 n3 n4 n5 a0 a1 a2 a3 a4 a5 b0 b1 b2 b3 b4 b5 c0 c1 w4
      have HQ3:=HQ4
      clear HQ4
      have HL3:=aC (bQ HLe1.o HQ3.o.lo)
      obtain⟨n0,n1,n2,n3,n4,n5⟩:=aJ HQ3.o.n
      rw[HEa.o] at n1
      rw[HEb.o] at n2
      obtain⟨a0,a1,a2,a3,a4,a5⟩:=aJ HQ3.o.a
      obtain⟨b0,b1,b2,b3,b4,b5⟩:=aJ HQ3.o.b
      have HDv2:=aC (HDv.o _ HQ3.o.m)
      go_wp2_with fail
      refine HDv2.o.mono ?_
      clear HDv HDv2
      rintro e V4 (⟨Q,h1,rfl,⟨mv4,h3,hkn⟩,h4⟩|⟨h1,rfl,h3⟩)
      ·obtain⟨z,hz⟩:∃ z:Int,((M.length+Q.length:Nat):Int)-1=z:=⟨_,rfl⟩
       rw[hz]
       have HZ:=aC hz
       obtain⟨z1,hz1⟩:∃ z1:Int,((M++Q).length:Int)=z1:=⟨_,rfl⟩
       have HZ1:=aC hz1
       have HQl:Hid (Q.length<=4):=aC (HDl.o Q h1)
       have HO:=aC (show O=some (Q++[nY (m+Q.length-1) B.k,⟨9,xa,m+Q.length,0,0,0⟩]) by rw[<-hO,h1];rfl)
       have HT2:=aC (mM z B.k h3 hz1 (by have:=HM.o;have:=HQl.o;simp;omega))
       have HL4:=aC (HL3.o.trans h4)
       obtain⟨g0,g1,g2,g3,g4,g5⟩:=aJ (hkn gb B HQ3.o.b HQ3.o.ne).1
       clear h1 h3 h4 hz hz1 hO hkn n0 n1 n2 n3 n4 n5 a0 a1 a2 a3 a4 a5 b0 b1 b2 b3 b4 b5
       go_wp2_with fail
       refine HT2.o.mono ?_
       rintro e V5 ⟨rfl,⟨mv5,h3⟩,h4⟩
       obtain⟨z2,hz2⟩:∃ z2:Int,((M++Q++[nY z B.k]).length:Int)=z2:=⟨_,rfl⟩
       have HU:=aC (iT 9 xa z1 0 0 h3 hz2 (by have:=HM.o;have:=HQl.o;simp;omega))
       have HL5:=aC (HL4.o.trans h4)
       have HZ2:=aC hz2
       clear h3 h4 hz2 HT2 g0 g1 g2 g3 g4 g5
       go_wp2_with fail
       refine HU.o.mono ?_
       rintro e V6 ⟨rfl,⟨mv6,h3⟩,h4,-⟩
       have HF6:=aC h3
       have HL6:=aC (HL5.o.trans h4)
       clear h3 h4 HU
       go_wp2_with fail
       refine bodyPost_ret (v:=.tuple #[.int .i64 z2,.bool true]) (by simp[results,Tryz.results61,go_sem]) rfl (iY.many (Q++[nY z B.k,⟨9,xa,z1,0,0,0⟩]) ?_ ?_ ⟨mv6,by simpa using HF6.o⟩ HL6.o)
       ·rw[HO.o]
        have e1:=HZ.o
        have e2:=HZ1.o
        have e0:=HMl.o
        have e3:m+Q.length-1=z:=by omega
        have e4:m+Q.length=z1:=by rw[List.length_append] at e2;omega
        rw[e3,e4]
       ·have e2:=HZ2.o
        simp at e2 ⊢
        omega
      ·have HO:=aC (show O=none by rw[<-hO,h1];rfl)
       have HB:=aC (bel HQ3.o.lo h3)
       clear h1 h3 hO
       go_wp2_with fail
       exact bodyPost_ret (v:=.tuple #[.int .i64 0,.bool false]) (by simp[results,Tryz.results61,go_sem]) rfl (iY.no HO.o HB.o)
  ·rw[if_neg hB1] at hO
   have HO:=aC hO.symm
   have tB:(B.op != 1)=true:=by simpa using hB1
   clear hO hB1
   go_wp2_with fail
   exact bodyPost_ret (v:=.tuple #[.int .i64 0,.bool false]) (by simp[results,Tryz.results61,go_sem]) rfl (iY.no HO.o HQ3.o.lo)
 ·obtain⟨V2,hV2⟩:∃ V2,((V1.alloc (.cells (ia B) 57)).alloc (.cells (ia A) 57)).drew=V2:=⟨_,rfl⟩
  rw[hV2]
  obtain⟨gb,hx1⟩:∃ g,V1.heap.size=g:=⟨_,rfl⟩
  obtain⟨ga,hy1⟩:∃ g,gb+1=g:=⟨_,rfl⟩
  have HQ2:Hid (Qk W V V2 b gn ga gb f dd out (.slice (some ⟨gl,off,none⟩) wn wc) (.slice sa sn sc) mv (.slice (some ⟨gt,0,none⟩) T.length ct) M T n A B):=aC (by rw[<-hV2,<-hy1,<-hx1];exact⟨((HF0.o.below (aH _ _)).below (aH _ _)).below (aD _),((HN0.o.below (aH _ _)).below (aH _ _)).below (aD _),(iM V1 _ 57 (ia A)).below (aD _),((aI.new V1 57 (ia B)).alloc _).below (aD _),bel (bel (bel HB1.o (aH _ _)) (aH _ _)) (aD _),fun hk=>by have:=(HF0.o.m.lt _ hk).2;omega⟩)
  rw[hx1,hy1]
  clear hx1 hy1 hV2
  have w6:=HQ2.o.m.w.cell 6 rfl
  have cta:=HQ2.o.m.at HJa.o
  have ctb:=HQ2.o.m.at HJb.o
  rw[HXa2.o] at cta
  rw[HXb2.o] at ctb
  obtain⟨n0,n1,n2,n3,n4,n5⟩:=aJ HQ2.o.n
  rw[HEa.o] at n1
  rw[HEb.o] at n2
  obtain⟨tl,htl'⟩:∃ tl,T.length=tl:=⟨_,rfl⟩
  rw[htl'] at w6 htl
  have ia2:(na:Int) < tl:=by have:=HJa.o;omega
  have ib2:(nb:Int) < tl:=by have:=HJb.o;omega
  clear htl' HF0 HN0 HB1
  go_wp2_with fail
  go_quiet (fail)
  have HQ3:=aC (HQ2.o.below (Cde.cO V2 nq))
  generalize V2.drewN nq=V3 at *
  clear HQ2 w6 cta ctb n0 n1 n2 n3 n4 n5
  have HL3:=aC (bQ HLe1.o HQ3.o.lo)
  obtain⟨n0,n1,n2,n3,n4,n5⟩:=aJ HQ3.o.n
  rw[HEa.o] at n1
  rw[HEb.o] at n2
  obtain⟨a0,a1,a2,a3,a4,a5⟩:=aJ HQ3.o.a
  obtain⟨b0,b1,b2,b3,b4,b5⟩:=aJ HQ3.o.b
  have hO:=HOq.o
  clear HOq
  by_cases hB1:B.op=1
  ·rw[if_pos hB1] at hO
   have tB:(B.op != 1)=false:=by simpa using hB1
   by_cases hk:B.k < 2
   ·rw[tJ hk,if_neg (by have:=aDt hk;omega)] at hO
    have HO:=aC hO.symm
    have tK:decide (B.k < 2)=true:=by simpa using hk
    clear hO hB1 hk
    go_wp2_with fail
    exact bodyPost_ret (v:=.tuple #[.int .i64 0,.bool false]) (by simp[results,Tryz.results61,go_sem]) rfl (iY.no HO.o HQ3.o.lo)
   ·have hBk:=(HW.o hB1).2
    have HDv:=aC fun(X:World) (hX:Mt W X b f dd out (.slice (some ⟨gl,off,none⟩) wn wc) (.slice sa sn sc) mv (.slice (some ⟨gt,0,none⟩) T.length ct) M T)=>(rG (na:Int) B.k ⟨by omega,hBk⟩ hX HSI.o HTs.o HM.o HIa.o (lo:=(S.getD ((na:Int)).toNat (0,0)).1) (hi:=(S.getD ((na:Int)).toNat (0,0)).2) rfl HSw.o)
    have tK:decide (B.k < 2)=false:=by simp;omega
    rw[HXa.o] at HDv
    obtain⟨lo,hlo⟩:∃ lo,(S.getD ((na:Int)).toNat (0,0)).1=lo:=⟨_,rfl⟩
    obtain⟨hi,hhi⟩:∃ hi,(S.getD ((na:Int)).toNat (0,0)).2=hi:=⟨_,rfl⟩
    have HPw:=aC fun w=>mW B.k w
    obtain⟨p,hp⟩:∃ p,oW B.k=p:=⟨_,rfl⟩
    rw[hp] at HPw
    obtain⟨gs,offs,rfl,hgs,hsc⟩:=(HSI.o.later HQ3.o.m.lo).at (by have:=HTs.o;omega)
    obtain⟨c0,c1⟩:=hsc na (by have:=HTs.o;omega)
    rw[show (S.getD na (0,0)).1=lo from hlo] at c0
    have w4:=HQ3.o.m.w.cell 4 rfl
    have isn:(na:Int) < sn:=by have:=HTs.o;omega
    have hsn:=HSI.o.le
    have hsn2:=HSI.o.max
    unfold maxLen at hsn2
    clear hsc hB1
    obtain⟨D,hD⟩:∃ D,rH lo hi xa B.k m=D:=⟨_,rfl⟩
    have HDl:Hid (∀ Q,D=some Q->Q.length<=4):=aC fun Q hq=>pW (hD.trans hq)
    rw[hlo,hhi,hp,hD] at hO
    rw[hlo,hhi,HMl.o,hD] at HDv
    clear hlo hhi hp hD
    by_cases h1:0 < p/\0<=lo
    ·rw[if_pos h1] at hO
     have HO:=aC hO.symm
     have u1:decide (0 < p)=true:=by simpa using h1.1
     have u2:decide (0<=lo)=true:=by simpa using h1.2
     clear hO h1 HDv
     go_wp2_with fail
     go_quiet ((go_at_call 93;exact Calls.quiet_of_same (HPw.o _)))
     have HQ4:=aC (HQ3.o.below (qE V3 nq))
     generalize V3.drewN nq=V3b at *
     clear HQ3 HL3 n0 n1 n2 n3 n4 n5 a0 a1 a2 a3 a4 a5 b0 b1 b2 b3 b4 b5 c0 c1 w4
     have HQ3:=HQ4
     clear HQ4
     have HL3:=aC (bQ HLe1.o HQ3.o.lo)
     obtain⟨n0,n1,n2,n3,n4,n5⟩:=aJ HQ3.o.n
     rw[HEa.o] at n1
     rw[HEb.o] at n2
     obtain⟨a0,a1,a2,a3,a4,a5⟩:=aJ HQ3.o.a
     obtain⟨b0,b1,b2,b3,b4,b5⟩:=aJ HQ3.o.b
     have HU:=aC (iT 31 xa 0 (B.k-1) 0 HQ3.o.m HMl.o (by have:=HM.o;omega))
     go_wp2_with fail
     refine HU.o.mono ?_
     rintro e V4 ⟨rfl,hw,hb,-⟩
     have HB4:=aC (HL3.o.trans hb)
     have HW4:=aC hw
     clear hw hb HU
     go_wp2_with fail
     exact bodyPost_ret (v:=.tuple #[.int .i64 m,.bool true]) (by simp[results,Tryz.results61,go_sem]) rfl (iY.many [⟨31,xa,0,0,(B.k-1),0⟩] HO.o (by have:=HMl.o;simp;omega) HW4.o HB4.o)
    ·rw[if_neg h1] at hO
     have hno:decide (0 < p)=false\/(decide (0 < p)=true/\decide (0<=lo)=false):=by
      by_cases h2:0 < p
      ·exact .inr ⟨by simpa using h2,by simp;omega⟩
      ·exact .inl (by simpa using h2)
     clear h1
     rcases hno with u1|⟨u1,u2⟩
     all_goals
      go_wp2_with fail
      go_quiet ((go_at_call 93;exact Calls.quiet_of_same (HPw.o _)))
      have HQ4:=aC (HQ3.o.below (qE V3 nq))
      generalize V3.drewN nq=V3b at *
      clear HQ3 HL3 n0 n1 n2 n3 n4 n5 a0 a1 a2 a3 a4 a5 b0 b1 b2 b3 b4 b5 c0 c1 w4
      have HQ3:=HQ4
      clear HQ4
      have HL3:=aC (bQ HLe1.o HQ3.o.lo)
      obtain⟨n0,n1,n2,n3,n4,n5⟩:=aJ HQ3.o.n
      rw[HEa.o] at n1
      rw[HEb.o] at n2
      obtain⟨a0,a1,a2,a3,a4,a5⟩:=aJ HQ3.o.a
      obtain⟨b0,b1,b2,b3,b4,b5⟩:=aJ HQ3.o.b
      have HDv2:=aC (HDv.o _ HQ3.o.m)
      go_wp2_with fail
      refine HDv2.o.mono ?_
      clear HDv HDv2
      rintro e V4 (⟨Q,h1,rfl,⟨mv4,h3,hkn⟩,h4⟩|⟨h1,rfl,h3⟩)
      ·obtain⟨z,hz⟩:∃ z:Int,((M.length+Q.length:Nat):Int)-1=z:=⟨_,rfl⟩
       rw[hz]
       have HZ:=aC hz
       obtain⟨z1,hz1⟩:∃ z1:Int,((M++Q).length:Int)=z1:=⟨_,rfl⟩
       have HZ1:=aC hz1
       have HQl:Hid (Q.length<=4):=aC (HDl.o Q h1)
       have HO:=aC (show O=some (Q++[nY (m+Q.length-1) B.k,⟨9,xa,m+Q.length,0,0,0⟩]) by rw[<-hO,h1];rfl)
       have HT2:=aC (mM z B.k h3 hz1 (by have:=HM.o;have:=HQl.o;simp;omega))
       have HL4:=aC (HL3.o.trans h4)
       obtain⟨g0,g1,g2,g3,g4,g5⟩:=aJ (hkn gb B HQ3.o.b HQ3.o.ne).1
       clear h1 h3 h4 hz hz1 hO hkn n0 n1 n2 n3 n4 n5 a0 a1 a2 a3 a4 a5 b0 b1 b2 b3 b4 b5
       go_wp2_with fail
       refine HT2.o.mono ?_
       rintro e V5 ⟨rfl,⟨mv5,h3⟩,h4⟩
       obtain⟨z2,hz2⟩:∃ z2:Int,((M++Q++[nY z B.k]).length:Int)=z2:=⟨_,rfl⟩
       have HU:=aC (iT 9 xa z1 0 0 h3 hz2 (by have:=HM.o;have:=HQl.o;simp;omega))
       have HL5:=aC (HL4.o.trans h4)
       have HZ2:=aC hz2
       clear h3 h4 hz2 HT2 g0 g1 g2 g3 g4 g5
       go_wp2_with fail
       refine HU.o.mono ?_
       rintro e V6 ⟨rfl,⟨mv6,h3⟩,h4,-⟩
       have HF6:=aC h3
       have HL6:=aC (HL5.o.trans h4)
       clear h3 h4 HU
       go_wp2_with fail
       refine bodyPost_ret (v:=.tuple #[.int .i64 z2,.bool true]) (by simp[results,Tryz.results61,go_sem]) rfl (iY.many (Q++[nY z B.k,⟨9,xa,z1,0,0,0⟩]) ?_ ?_ ⟨mv6,by simpa using HF6.o⟩ HL6.o)
       ·rw[HO.o]
        have e1:=HZ.o
        have e2:=HZ1.o
        have e0:=HMl.o
        have e3:m+Q.length-1=z:=by omega
        have e4:m+Q.length=z1:=by rw[List.length_append] at e2;omega
        rw[e3,e4]
       ·have e2:=HZ2.o
        simp at e2 ⊢
        omega
      ·have HO:=aC (show O=none by rw[<-hO,h1];rfl)
       have HB:=aC (bel HQ3.o.lo h3)
       clear h1 h3 hO
       go_wp2_with fail
       exact bodyPost_ret (v:=.tuple #[.int .i64 0,.bool false]) (by simp[results,Tryz.results61,go_sem]) rfl (iY.no HO.o HB.o)
  ·rw[if_neg hB1] at hO
   have HO:=aC hO.symm
   have tB:(B.op != 1)=true:=by simpa using hB1
   clear hO hB1
   go_wp2_with fail
   exact bodyPost_ret (v:=.tuple #[.int .i64 0,.bool false]) (by simp[results,Tryz.results61,go_sem]) rfl (iY.no HO.o HQ3.o.lo)
end Go.Proofs.Rdc
