/-
  LowerCode: of every kind and tree the law returns true, and the arguments read as before.
-/
import Derived.Test.YtngnnijpdjhelaaGreatRows
import Derived.Test.YtngnnijpdjhelaaGreatX52
import Derived.Test.YtngnnijpdjhelaaGreatX48
import Derived.Test.YtngnnijpdjhelaaGreatX50
namespace Go.Proofs.YtngnnijpdjhelaaGreat
open Go.RowKit Go.IntWalk Lx Pz
set_option linter.unusedVariables false
set_option maxRecDepth 100000
set_option maxHeartbeats 16000000
theorem same_self {W:World}{na ba da na2 ba2 da2:Option Addr}{nl nc bl bc dl dc nc2 bc2 dc2:Nat}{root:Int}{NM:List Txt}{BS:List Int}{NS:List Nd}
  (hX:Tx W na nl nc NM) (hB:Iz W ba bl bc BS) (hN:Nz W da dl dc NS) (hX2:Tx W na2 nl nc2 NM) (hB2:Iz W ba2 bl bc2 BS) (hN2:Nz W da2 dl dc2 NS) :
  Calls Tryz.prog 29 #[.agg (tr4 (.slice na nl nc) (.slice ba bl bc) (.slice da dl dc) (.int .i64 root)),.agg (tr4 (.slice na2 nl nc2) (.slice ba2 bl bc2) (.slice da2 dl dc2) (.int .i64 root))] W fun e W'=>e=.returned (.bool true)/\Below W.heap.size W W':=by
 have hnl:nl<=9223372036854775807:=by have:=hX.le;have:=hX.max;unfold maxLen at *;omega
 have hbl:bl<=9223372036854775807:=by have:=hB.le;have:=hB.max;unfold maxLen at *;omega
 have hdl:dl<=9223372036854775807:=by have:=hN.le;have:=hN.max;unfold maxLen at *;omega
 have HX:=hide hX
 have HB:=hide hB
 have HN:=hide hN
 have HX2:=hide hX2
 have HB2:=hide hB2
 have HN2:=hide hN2
 clear hX hB hN hX2 hB2 hN2
 have HW0:=hide (bel (bel1 W (.cells (tr4 (.slice na nl nc) (.slice ba bl bc) (.slice da dl dc) (.int .i64 root)) 28)) (bel1 (W.alloc (.cells (tr4 (.slice na nl nc) (.slice ba bl bc) (.slice da dl dc) (.int .i64 root)) 28)) (.cells (tr4 (.slice na2 nl nc2) (.slice ba2 bl bc2) (.slice da2 dl dc2) (.int .i64 root)) 28)))
 have HC0:=hide ((HasC.new W 28 (tr4 (.slice na nl nc) (.slice ba bl bc) (.slice da dl dc) (.int .i64 root))).alloc (.cells (tr4 (.slice na2 nl nc2) (.slice ba2 bl bc2) (.slice da2 dl dc2) (.int .i64 root)) 28))
 have HC1:=hide (HasC.new (W.alloc (.cells (tr4 (.slice na nl nc) (.slice ba bl bc) (.slice da dl dc) (.int .i64 root)) 28)) 28 (tr4 (.slice na2 nl nc2) (.slice ba2 bl bc2) (.slice da2 dl dc2) (.int .i64 root)))
 rw[World.size_alloc] at HC1
 go_enter Tryz.func29,Tryz.ntmps29
 go_wp2_with fail
 go_loopw [5] (fun i wr=>∃ k:Nat,k<=nl/\i=.int .i64 k/\Hid (Below W.heap.size W wr)/\Hid (HasC wr W.heap.size 28 (tr4 (.slice na nl nc) (.slice ba bl bc) (.slice da dl dc) (.int .i64 root)))/\Hid (HasC wr (W.heap.size+1) 28 (tr4 (.slice na2 nl nc2) (.slice ba2 bl bc2) (.slice da2 dl dc2) (.int .i64 root)))) (fun i _=>nl-(intOf i).toNat)
 case atStart=>exact⟨0,Nat.zero_le _,rfl,hide HW0.out,hide HC0.out,hide HC1.out⟩
 case round =>
  obtain⟨k,hk,rfl,HWb,HD0,HD1⟩:=hrel
  rename World=>V
  obtain⟨c0,c1,c2,c3⟩:=facts4 HD0.out
  obtain⟨d0,d1,d2,d3⟩:=facts4 HD1.out
  by_cases hlt:k < nl
  ·obtain⟨b,off,rfl,e1⟩:∃ b off,na=some ⟨b,off,none⟩/\V.cell? ⟨b,off+k,none⟩=some (.string (sB (NM.getD k []))):=by
    rcases(HX.out.later HWb.out).cell with h0|⟨b,off,ha,hc⟩
    ·omega
    ·exact⟨b,off,ha,hc k hlt⟩
   obtain⟨b2,off2,rfl,e2⟩:∃ b off,na2=some ⟨b,off,none⟩/\V.cell? ⟨b,off+k,none⟩=some (.string (sB (NM.getD k []))):=by
    rcases(HX2.out.later HWb.out).cell with h0|⟨b,off,ha,hc⟩
    ·omega
    ·exact⟨b,off,ha,hc k hlt⟩
   generalize sB (NM.getD k [])=u at *
   have hi0:(0:Int)<=k:=by omega
   have hi1:(k:Int) < nl:=by omega
   go_upto_region 6 with fail
   go_quiet (fail)
   go_wp2_with fail
   go_roundw
   case rel=>exact⟨k+1,by omega,by go_num,hide (bel HWb.out (below_drewN _ _)),hide (HD0.out.below (below_drewN _ _)),hide (HD1.out.below (below_drewN _ _))⟩
   case measure=>simp[intOf];omega
  ·obtain rfl:k=nl:=by omega
   go_wp2_with fail
   go_loopw [6] (fun i wr=>∃ j:Nat,j<=bl/\i=.int .i64 j/\Hid (Below W.heap.size W wr)/\Hid (HasC wr W.heap.size 28 (tr4 (.slice na k nc) (.slice ba bl bc) (.slice da dl dc) (.int .i64 root)))/\Hid (HasC wr (W.heap.size+1) 28 (tr4 (.slice na2 k nc2) (.slice ba2 bl bc2) (.slice da2 dl dc2) (.int .i64 root)))) (fun i _=>bl-(intOf i).toNat)
   case atStart=>exact⟨0,Nat.zero_le _,rfl,hide HWb.out,hide HD0.out,hide HD1.out⟩
   case round =>
    obtain⟨j,hj,rfl,HWb,HD0,HD1⟩:=hrel
    rename World=>V2
    clear c0 c1 c2 c3 d0 d1 d2 d3
    obtain⟨c0,c1,c2,c3⟩:=facts4 HD0.out
    obtain⟨d0,d1,d2,d3⟩:=facts4 HD1.out
    by_cases hlt:j < bl
    ·obtain⟨b,off,rfl,e1⟩:∃ b off,ba=some ⟨b,off,none⟩/\V2.cell? ⟨b,off+j,none⟩=some (.int .i64 (BS.getD j 0)):=by
      rcases(HB.out.later HWb.out).cell with h0|⟨b,off,ha,-,hc⟩
      ·omega
      ·exact⟨b,off,ha,hc j hlt⟩
     obtain⟨b2,off2,rfl,e2⟩:∃ b off,ba2=some ⟨b,off,none⟩/\V2.cell? ⟨b,off+j,none⟩=some (.int .i64 (BS.getD j 0)):=by
      rcases(HB2.out.later HWb.out).cell with h0|⟨b,off,ha,-,hc⟩
      ·omega
      ·exact⟨b,off,ha,hc j hlt⟩
     generalize BS.getD j 0=u at *
     have hi0:(0:Int)<=j:=by omega
     have hi1:(j:Int) < bl:=by omega
     go_upto_region 11 with fail
     go_quiet (fail)
     go_wp2_with fail
     go_roundw
     case rel=>exact⟨j+1,by omega,by go_num,hide (bel HWb.out (below_drewN _ _)),hide (HD0.out.below (below_drewN _ _)),hide (HD1.out.below (below_drewN _ _))⟩
     case measure=>simp[intOf];omega
    ·obtain rfl:j=bl:=by omega
     go_wp2_with fail
     go_loopw [7] (fun i wr=>∃ m:Nat,m<=dl/\i=.int .i64 m/\Hid (Below W.heap.size W wr)/\Hid (HasC wr W.heap.size 28 (tr4 (.slice na k nc) (.slice ba j bc) (.slice da dl dc) (.int .i64 root)))/\Hid (HasC wr (W.heap.size+1) 28 (tr4 (.slice na2 k nc2) (.slice ba2 j bc2) (.slice da2 dl dc2) (.int .i64 root)))) (fun i _=>dl-(intOf i).toNat)
     case atStart=>exact⟨0,Nat.zero_le _,rfl,hide HWb.out,hide HD0.out,hide HD1.out⟩
     case round =>
      obtain⟨m,hm,rfl,HWb,HD0,HD1⟩:=hrel
      rename World=>V3
      clear c0 c1 c2 c3 d0 d1 d2 d3
      obtain⟨c0,c1,c2,c3⟩:=facts4 HD0.out
      obtain⟨d0,d1,d2,d3⟩:=facts4 HD1.out
      by_cases hlt:m < dl
      ·obtain⟨g1,o1,rfl,at1⟩:=(HN.out.later HWb.out).at (by omega)
       obtain⟨g2,o2,rfl,at2⟩:=(HN2.out.later HWb.out).at (by omega)
       obtain⟨e0,e1,e2,e3,e4,e5,e6,e7,e8⟩:=at1 m hlt
       obtain⟨f0,f1,f2,f3,f4,f5,f6,f7,f8⟩:=at2 m hlt
       clear at1 at2
       generalize NS.getD m n0=n at *
       have hi0:(0:Int)<=m:=by omega
       have hi1:(m:Int) < dl:=by omega
       go_upto_region 16 with fail
       go_quiet (fail)
       go_wp2_with fail
       go_roundw
       case rel=>exact⟨m+1,by omega,by go_num,hide (bel HWb.out (below_drewN _ _)),hide (HD0.out.below (below_drewN _ _)),hide (HD1.out.below (below_drewN _ _))⟩
       case measure=>simp[intOf];omega
      ·obtain rfl:m=dl:=by omega
       go_wp2_with fail
       go_ret
       exact⟨rfl,HWb.out⟩
theorem below_cell {W W':World}{p:Addr}{v:Value}(hb:Below W.heap.size W W')(h:W.cell? p=some v):W'.cell? p=some v:=by
 rw[hb.cell (World.block_lt_of_cell? W _ h)]
 exact h
theorem RmR.tx {w:World}{base n:Nat}{v:Value}{NM:List Txt}(h:RmR w base 9 1 v n (tx64 NM++[.string (sB spareT)])):∃ g cap,v=.slice (some ⟨g,0,none⟩) n cap/\Tx w (some ⟨g,0,none⟩) n cap NM/\n+1<=cap/\cap<=9223372036854775807/\w.cell? ⟨g,n,none⟩=some (.string (sB spareT)):=by
 obtain⟨g,cap,rfl,ho⟩:=h
 obtain⟨h1,h2⟩:=own_caps ho
 have hlen:NM.length=n:=by have:=ho.1;simp[tx64] at this;omega
 have hcs:=fun j u hu=>ho.cells (g:=g) rfl j u hu
 refine⟨g,cap,rfl,⟨hlen,by omega,h2,?_⟩,h1,by unfold maxLen at h2;exact h2,?_⟩
 ·by_cases h0:n=0
  ·exact .inl h0
  ·refine .inr ⟨g,0,rfl,fun i hi=>?_⟩
   have:=hcs i (.string (sB (NM.getD i []))) (by
    rw[List.getElem?_append_left (by simp[tx64];omega)]
    simp[tx64,List.getD,hlen,hi])
   rw[Addr.add_lit] at this
   exact this
 ·have:=hcs n (.string (sB spareT)) (by
   rw[List.getElem?_append_right (by simp[tx64];omega)]
   simp[tx64,hlen])
  rw[Addr.add_lit,Nat.zero_add] at this
  exact this
theorem RmR.iz {w:World}{base n:Nat}{v:Value}{BS:List Int}(h:RmR w base 3 1 v n (in64 BS++[.int .i64 7777])):∃ g cap,v=.slice (some ⟨g,0,none⟩) n cap/\Iz w (some ⟨g,0,none⟩) n cap BS/\n+1<=cap/\cap<=9223372036854775807/\w.cell? ⟨g,n,none⟩=some (.int .i64 7777):=by
 obtain⟨g,cap,rfl,ho⟩:=h
 obtain⟨h1,h2⟩:=own_caps ho
 have hlen:BS.length=n:=by have:=ho.1;simp[in64] at this;omega
 have hcs:=fun j u hu=>ho.cells (g:=g) rfl j u hu
 have hc:w.cell? ⟨g,n,none⟩=some (.int .i64 7777):=by
  have:=hcs n (.int .i64 7777) (by
   rw[List.getElem?_append_right (by simp[in64];omega)]
   simp[in64,hlen])
  rw[Addr.add_lit,Nat.zero_add] at this
  exact this
 refine⟨g,cap,rfl,⟨hlen,by omega,h2,?_⟩,h1,by unfold maxLen at h2;exact h2,hc⟩
 ·by_cases h0:n=0
  ·exact .inl h0
  ·refine .inr ⟨g,0,rfl,World.block_lt_of_cell? w _ hc,fun i hi=>?_⟩
   have:=hcs i (.int .i64 (BS.getD i 0)) (by
    rw[List.getElem?_append_left (by simp[in64];omega)]
    simp[in64,List.getD,hlen,hi])
   rw[Addr.add_lit] at this
   exact this
theorem RmR.nz {w:World}{base n:Nat}{v:Value}{NS:List Nd}(h:RmR w base 65 9 v n (nd64 NS++nd9 spareN)):∃ g cap,v=.slice (some ⟨g,0,none⟩) n cap/\Nz w (some ⟨g,0,none⟩) n cap NS/\n+1<=cap/\cap<=9223372036854775807/\w.cell? ⟨g,n*9,none⟩=some (.int .i64 7777):=by
 obtain⟨g,cap,rfl,ho⟩:=h
 obtain⟨h1,h2⟩:=own_caps ho
 have hlen:NS.length=n:=by have:=ho.1;simp[nd64_len,nd9] at this;omega
 have hcs:=fun j u hu=>ho.cells (g:=g) rfl j u hu
 have hc:w.cell? ⟨g,n*9,none⟩=some (.int .i64 7777):=by
  have:=hcs (n*9) (.int .i64 7777) (by
   rw[List.getElem?_append_right (by rw[nd64_len];omega),nd64_len,hlen,Nat.sub_self]
   rfl)
  rw[Addr.add_lit,Nat.zero_add] at this
  exact this
 refine⟨g,cap,rfl,⟨hlen,by omega,h2,?_⟩,h1,by unfold maxLen at h2;exact h2,hc⟩
 ·by_cases h0:n=0
  ·exact .inl h0
  ·refine .inr ⟨g,0,rfl,World.block_lt_of_cell? w _ hc,fun i hi j v hv=>?_⟩
   have hj:j < 9:=by
    have:=(List.getElem?_eq_some_iff.1 hv).1
    simpa [nd9] using this
   have:=hcs (i*9+j) v (by
    rw[List.getElem?_append_left (by rw[nd64_len];omega)]
    exact nd64_get NS i (by omega) j v hv)
   rw[Addr.add_lit,Nat.zero_add] at this
   rw[Nat.zero_add]
   exact this
theorem held_any {W:World}{na ba da:Option Addr}{nl nc bl bc dl dc g1 g2 g3 k1 k2 k3:Nat}{root:Int}{NM:List Txt}{BS:List Int}{NS:List Nd}
  (hX:Tx W (some ⟨g1,0,none⟩) nl k1 NM) (hB:Iz W (some ⟨g2,0,none⟩) bl k2 BS) (hN:Nz W (some ⟨g3,0,none⟩) dl k3 NS) (hX2:Tx W na nl nc NM) (hB2:Iz W ba bl bc BS) (hN2:Nz W da dl dc NS)
  (l1:nl+1<=k1) (l2:bl+1<=k2) (l3:dl+1<=k3) (m1:k1<=9223372036854775807) (m2:k2<=9223372036854775807) (m3:k3<=9223372036854775807)
  (c1:W.cell? ⟨g1,nl,none⟩=some (.string (sB spareT))) (c2:W.cell? ⟨g2,bl,none⟩=some (.int .i64 7777)) (c3:W.cell? ⟨g3,dl*9,none⟩=some (.int .i64 7777)) :
  Calls Tryz.prog 12 #[.agg #[.slice (some ⟨g1,0,none⟩) nl k1,.slice (some ⟨g2,0,none⟩) bl k2,.slice (some ⟨g3,0,none⟩) dl k3,.int .i64 root],.agg #[.slice na nl nc,.slice ba bl bc,.slice da dl dc,.int .i64 root]] W fun e W'=>e=.returned (.bool true)/\Below W.heap.size W W':=by
 obtain⟨U,hU⟩:∃ U,(W.alloc (.cells #[.slice (some ⟨g1,0,none⟩) nl k1,.slice (some ⟨g2,0,none⟩) bl k2,.slice (some ⟨g3,0,none⟩) dl k3,.int .i64 root] 28)).alloc (.cells #[.slice na nl nc,.slice ba bl bc,.slice da dl dc,.int .i64 root] 28)=U:=⟨_,rfl⟩
 have hb:Below W.heap.size W U:=by rw[<-hU];exact bel (bel1 W _) (bel1 _ _)
 have HA:=hide (show HasC U W.heap.size 28 #[.slice (some ⟨g1,0,none⟩) nl k1,.slice (some ⟨g2,0,none⟩) bl k2,.slice (some ⟨g3,0,none⟩) dl k3,.int .i64 root] by rw[<-hU];exact(HasC.new _ _ _).alloc _)
 have HC:=hide (show HasC U (W.heap.size+1) 28 #[.slice na nl nc,.slice ba bl bc,.slice da dl dc,.int .i64 root] by
  rw[<-hU]
  have:=HasC.new (W.alloc (.cells #[.slice (some ⟨g1,0,none⟩) nl k1,.slice (some ⟨g2,0,none⟩) bl k2,.slice (some ⟨g3,0,none⟩) dl k3,.int .i64 root] 28)) 28 #[.slice na nl nc,.slice ba bl bc,.slice da dl dc,.int .i64 root]
  rw[World.size_alloc] at this
  exact this)
 have HSm:=hide (same_self (hX.later hb) (hB.later hb) (hN.later hb) (hX2.later hb) (hB2.later hb) (hN2.later hb) (root:=root))
 have HBb:=hide hb
 have HU:=hide hU
 have HCC:=hide (And.intro (below_cell hb c1) (And.intro (below_cell hb c2) (below_cell hb c3)))
 clear hX hB hN hX2 hB2 hN2 c1 c2 c3 hb hU
 obtain⟨t0,t1,t2,t3⟩:=facts4 HA.out
 obtain⟨s0,s1,s2,s3⟩:=facts4 HC.out
 go_enter Tryz.func12,Tryz.ntmps12
 go_wp2_with fail
 rw[HU.out]
 go_wp2_with fail
 refine HSm.out.mono ?_
 clear HSm t0 t1 t2 t3 s0 s1 s2 s3
 rintro e V ⟨rfl,hb⟩
 obtain⟨t0,t1,t2,t3⟩:=facts4 (HA.out.below hb)
 obtain⟨s0,s1,s2,s3⟩:=facts4 (HC.out.below hb)
 have c1:=below_cell hb HCC.out.1
 have c2:=below_cell hb HCC.out.2.1
 have c3:=below_cell hb HCC.out.2.2
 have HB2:=hide (bel HBb.out hb)
 clear hb HCC HA HC HU HBb
 go_wp2_with fail
 have hw1:IntKind.i64.wrap ((nl:Int)+1)=((nl+1:Nat):Int):=by rw[IntWalk.i64_in _ ⟨by omega,by omega⟩];rfl
 have ha1:(0:Int)<=(nl:Int)+1:=by omega
 have hb1:(nl:Int)+1<=(k1:Int):=by omega
 have hc1:(nl:Int) < (nl:Int)+1:=by omega
 have hd1:((nl:Int)+1).toNat=nl+1:=by omega
 have he1:¬((nl:Int)+1 < 0):=by omega
 have hf1:¬((k1:Int) < (nl:Int)+1):=by omega
 have hw2:IntKind.i64.wrap ((bl:Int)+1)=((bl+1:Nat):Int):=by rw[IntWalk.i64_in _ ⟨by omega,by omega⟩];rfl
 have ha2:(0:Int)<=(bl:Int)+1:=by omega
 have hb2:(bl:Int)+1<=(k2:Int):=by omega
 have hc2:(bl:Int) < (bl:Int)+1:=by omega
 have hd2:((bl:Int)+1).toNat=bl+1:=by omega
 have he2:¬((bl:Int)+1 < 0):=by omega
 have hf2:¬((k2:Int) < (bl:Int)+1):=by omega
 have hw3:IntKind.i64.wrap ((dl:Int)+1)=((dl+1:Nat):Int):=by rw[IntWalk.i64_in _ ⟨by omega,by omega⟩];rfl
 have ha3:(0:Int)<=(dl:Int)+1:=by omega
 have hb3:(dl:Int)+1<=(k3:Int):=by omega
 have hc3:(dl:Int) < (dl:Int)+1:=by omega
 have hd3:((dl:Int)+1).toNat=dl+1:=by omega
 have he3:¬((dl:Int)+1 < 0):=by omega
 have hf3:¬((k3:Int) < (dl:Int)+1):=by omega
 go_quiet (fail)
 go_wp2_with fail
 rw[show (spareT==[115,112,97,114,101])=true by decide]
 exact bodyPost_ret (v:=.bool true) (by simp[results,Tryz.results12,go_sem]) rfl ⟨rfl,bel HB2.out (below_drewN _ _)⟩
structure Cq (W V:World)(f d:Int)(na ba da:Option Addr)(nl nc bl bc dl dc g1 g2 g3 k1 k2 k3 p2:Nat)(root:Int)(NM:List Txt)(BS:List Int)(NS:List Nd):Prop where
 old:Below W.heap.size W V
 X:Tx V na nl nc NM
 B:Iz V ba bl bc BS
 N:Nz V da dl dc NS
 X2:Tx V (some ⟨g1,0,none⟩) nl k1 NM
 B2:Iz V (some ⟨g2,0,none⟩) bl k2 BS
 N2:Nz V (some ⟨g3,0,none⟩) dl k3 NS
 c1:V.cell? ⟨g1,nl,none⟩=some (.string (sB spareT))
 c2:V.cell? ⟨g2,bl,none⟩=some (.int .i64 7777)
 c3:V.cell? ⟨g3,dl*9,none⟩=some (.int .i64 7777)
 t:HasC V (W.heap.size+1) 28 #[.slice na nl nc,.slice ba bl bc,.slice da dl dc,.int .i64 root]
 u:HasC V p2 28 #[.slice (some ⟨g1,0,none⟩) nl k1,.slice (some ⟨g2,0,none⟩) bl k2,.slice (some ⟨g3,0,none⟩) dl k3,.int .i64 root]
 k:HasC V W.heap.size 23 (kdA f d)
theorem Cq.later {W V V':World}{f d:Int}{na ba da:Option Addr}{nl nc bl bc dl dc g1 g2 g3 k1 k2 k3 p2:Nat}{root:Int}{NM:List Txt}{BS:List Int}{NS:List Nd}(h:Cq W V f d na ba da nl nc bl bc dl dc g1 g2 g3 k1 k2 k3 p2 root NM BS NS)(hb:Below V.heap.size V V'):Cq W V' f d na ba da nl nc bl bc dl dc g1 g2 g3 k1 k2 k3 p2 root NM BS NS :=
 ⟨bel h.old hb,h.X.later hb,h.B.later hb,h.N.later hb,h.X2.later hb,h.B2.later hb,h.N2.later hb,below_cell hb h.c1,below_cell hb h.c2,below_cell hb h.c3,h.t.below hb,h.u.below hb,h.k.below hb⟩
theorem loV_few (f d:Int)(NM:List Txt)(BS:List Int)(NS:List Nd)(root:Int):(loV f d NM BS NS root).I.length<=200:=by
 unfold loV
 split
 ·rename_i h
  exact(Cde.mc_parts (lo_may h)).2.2.1
 ·simp
theorem alike (Z:LoV):Cde.sameB Z.f Z.d Z.o Z.I Z.f Z.d Z.o Z.I=true:=by simp[Cde.sameB]
structure Hc (V:World)(lo b:Nat)(Z:LoV)(a:Option Addr)(c:Nat):Prop where
 b:HasC V b 32 (Cde.cd Z.f Z.d a Z.I.length c Z.o)
 s:V.ownsRow lo 67 6 (.slice a Z.I.length c) Z.I.length (Cde.is6 Z.I)
theorem Hc.later {V V':World}{lo b:Nat}{Z:LoV}{a:Option Addr}{c:Nat}(h:Hc V lo b Z a c)(hb:Below V.heap.size V V'):Hc V' lo b Z a c:=⟨h.b.below hb,own_bel h.s hb⟩
theorem Hc.ins {V:World}{lo b:Nat}{Z:LoV}{a:Option Addr}{c:Nat}(h:Hc V lo b Z a c):Cde.Ins V a Z.I.length c Z.I:=by
 obtain⟨a',c',e1,hI,-⟩:=Cde.Ins.of_owns h.s
 cases e1
 exact hI
theorem two_lists {V:World}{lo lo2 b b2:Nat}{Z:LoV}{a a2:Option Addr}{c c2:Nat}(h:Hc V lo b Z a c)(h2:Hc V lo2 b2 Z a2 c2)(hd:∀ k,(Value.slice a Z.I.length c).ownBlock=some k->k < lo2)(hf:Z.I.length<=200) :
  Ai.Lists (V.alloc (.cells #[.int .i64 Z.f,.int .i64 Z.d,.slice a Z.I.length c,.int .i64 Z.o,.int .i64 Z.f,.int .i64 Z.d,.slice a2 Z.I.length c2,.int .i64 Z.o] 32)) V.heap.size 2 (fun i=>if i=0 then .slice a Z.I.length c else .slice a2 Z.I.length c2) (fun _=>Z.I.length):=by
 have hn:=HasC.new V 32 #[.int .i64 Z.f,.int .i64 Z.d,.slice a Z.I.length c,.int .i64 Z.o,.int .i64 Z.f,.int .i64 Z.d,.slice a2 Z.I.length c2,.int .i64 Z.o]
 have two:∀ i,i < 2->i=0\/i=1:=fun i hi=>by omega
 refine⟨hn.lt,fun i hi=>?_,fun i hi=>?_,fun i j hi hj hij k hk=>?_,fun i hi=>?_,fun i hi=>by omega,by decide⟩
 ·rcases two i hi with rfl|rfl
  ·exact hn.cell 2 rfl
  ·exact hn.cell 6 rfl
 ·rcases two i hi with rfl|rfl
  ·exact⟨Z.I,Cde.own_mono (h.s.alloc _) (Nat.zero_le _)⟩
  ·exact⟨Z.I,Cde.own_mono (h2.s.alloc _) (Nat.zero_le _)⟩
 ·rcases two i hi with rfl|rfl
  ·obtain rfl:j=1:=by omega
   intro e
   have h3:=hd k hk
   have h4:=(h2.s.lt k e).1
   omega
  ·obtain rfl:j=0:=by omega
   intro e
   have h3:=hd k e
   have h4:=(h2.s.lt k hk).1
   omega
 ·rcases two i hi with rfl|rfl
  ·exact own_lt' h.s (Nat.le_refl _)
  ·exact own_lt' h2.s (Nat.le_refl _)
theorem code_walk (f d:Int){W:World}{na ba da:Option Addr}{nl nc bl bc dl dc:Nat}{root:Int}{NM:List Txt}{BS:List Int}{NS:List Nd}(hX:Tx W na nl nc NM)(hB:Iz W ba bl bc BS)(hN:Nz W da dl dc NS)(hs:∀ s ∈ NM,s.length<=9223372036854775807)
  (hn1:na=none->nl=0/\nc=0) (hn2:ba=none->bl=0/\bc=0) (hn3:da=none->dl=0/\dc=0) (hs1:(nl+1)*16<=140737488355328) (hs2:(bl+1)*8<=140737488355328) (hs3:(dl+1)*72<=140737488355328) :
  Calls Tryz.prog 3 #[.agg (kdA f d),.agg #[.slice na nl nc,.slice ba bl bc,.slice da dl dc,.int .i64 root]] W fun e W'=>e=.returned (.bool true)/\Below W.heap.size W W':=by
 have hb1:=bel1 W (.cells (kdA f d) 23)
 have hb0:=bel hb1 (bel1 (W.alloc (.cells (kdA f d) 23)) (.cells #[.slice na nl nc,.slice ba bl bc,.slice da dl dc,.int .i64 root] 28))
 have HR:=hide (roomy_any (hX.later hb0) (hB.later hb0) (hN.later hb0) hn1 hn2 hn3 hs1 hs2 hs3 (root:=root))
 have HT:=hide (has_n1 W (.cells (kdA f d) 23) 28 #[.slice na nl nc,.slice ba bl bc,.slice da dl dc,.int .i64 root])
 have HK:=hide ((HasC.new W 23 (kdA f d)).alloc (.cells #[.slice na nl nc,.slice ba bl bc,.slice da dl dc,.int .i64 root] 28))
 have HX:=hide (hX.later hb0)
 have HB:=hide (hB.later hb0)
 have HN:=hide (hN.later hb0)
 have HB0:=hide hb0
 have HA:=hide fun V=>lawake_any V
 have HE:=hide fun(V:World) (g1 g2 g3 k1 k2 k3 p2:Nat) (h:Cq W V f d na ba da nl nc bl bc dl dc g1 g2 g3 k1 k2 k3 p2 root NM BS NS)=>olower_any f d h.X2 h.B2 h.N2 hs (root:=root)
 have HJ:=hide fun(V:World) (g1 g2 g3 k1 k2 k3 p2:Nat) (h:Cq W V f d na ba da nl nc bl bc dl dc g1 g2 g3 k1 k2 k3 p2 root NM BS NS)=>qlower_any f d h.X h.B h.N hs (root:=root)
 have HFw:=hide (loV_few f d NM BS NS root)
 generalize loV f d NM BS NS root=Z at *
 have HSm:=hide fun(W:World) (a b:Option Addr) (c k:Nat) (h1:Cde.Ins W a Z.I.length c Z.I) (h2:Cde.Ins W b Z.I.length k Z.I)=>Cde.xsame_any Z.f Z.d Z.o Z.f Z.d Z.o h1 h2
 rw[alike] at HSm
 clear hX hB hN hs hn1 hn2 hn3 hs1 hs2 hs3 hb0 hb1
 obtain⟨t0,t1,t2,t3⟩:=four_of HT.out
 go_enter Tryz.func3,Tryz.ntmps3
 go_wp2_with fail
 refine HR.out.mono ?_
 clear HR t0 t1 t2 t3
 rintro e V ⟨nv,bv,dv,rfl,h1,h2,h3,hb⟩
 obtain⟨g1,k1,rfl,hX2,l1,m1,c1⟩:=h1.tx
 obtain⟨g2,k2,rfl,hB2,l2,m2,c2⟩:=h2.iz
 obtain⟨g3,k3,rfl,hN2,l3,m3,c3⟩:=h3.nz
 have hba:=bel1 V (.cells #[.slice (some ⟨g1,0,none⟩) nl k1,.slice (some ⟨g2,0,none⟩) bl k2,.slice (some ⟨g3,0,none⟩) dl k3,.int .i64 root] 28)
 have hbb:=bel hb hba
 have HC:=hide (show Cq W (V.alloc (.cells #[.slice (some ⟨g1,0,none⟩) nl k1,.slice (some ⟨g2,0,none⟩) bl k2,.slice (some ⟨g3,0,none⟩) dl k3,.int .i64 root] 28)) f d na ba da nl nc bl bc dl dc g1 g2 g3 k1 k2 k3 V.heap.size root NM BS NS from
  ⟨bel HB0.out hbb,HX.out.later hbb,HB.out.later hbb,HN.out.later hbb,hX2.later hba,hB2.later hba,hN2.later hba,below_cell hba c1,below_cell hba c2,below_cell hba c3,HT.out.below hbb,HasC.new _ _ _,HK.out.below hbb⟩)
 have HKV:=hide (HK.out.below hb)
 have HL:=hide (And.intro (And.intro l1 (And.intro l2 l3)) (And.intro m1 (And.intro m2 m3)))
 clear h1 h2 h3 hb hX2 hB2 hN2 c1 c2 c3 l1 l2 l3 m1 m2 m3 hba hbb HX HB HN HT HB0 HK
 obtain⟨f0,f1,-,-⟩:=two_of HKV.out
 have zK:=HKV.out.lt
 go_wp2_with fail
 obtain⟨p2,hp2⟩:∃ p,V.heap.size=p:=⟨_,rfl⟩
 obtain⟨V1,hV1⟩:∃ X,V.alloc (.cells #[.slice (some ⟨g1,0,none⟩) nl k1,.slice (some ⟨g2,0,none⟩) bl k2,.slice (some ⟨g3,0,none⟩) dl k3,.int .i64 root] 28)=X:=⟨_,rfl⟩
 rw[hV1,hp2] at HC ⊢
 clear hV1 hp2 f0 f1 zK HKV
 refine(HE.out V1 _ _ _ _ _ _ _ HC.out).mono ?_
 rintro e V2 ⟨a1,e1,rfl,hO,hb⟩
 have hba:=bel1 V2 (.cells (Cde.cd Z.f Z.d a1 Z.I.length e1 Z.o) 32)
 have HC2:=hide (HC.out.later (bel hb hba))
 have HA2:=hide (show Hc (V2.alloc (.cells (Cde.cd Z.f Z.d a1 Z.I.length e1 Z.o) 32)) V1.heap.size V2.heap.size Z a1 e1 from⟨HasC.new _ _ _,own_bel hO hba⟩)
 have HD:=hide (show ∀ k,(Value.slice a1 Z.I.length e1).ownBlock=some k->k < (V2.alloc (.cells (Cde.cd Z.f Z.d a1 Z.I.length e1 Z.o) 32)).heap.size from fun k hk=>by have:=(hO.lt k hk).2;have:=hba.size;omega)
 have HZ1:=hide (show W.heap.size<=V1.heap.size from HC.out.old.size)
 obtain⟨t0,t1,t2,t3⟩:=four_of (HC.out.later hb).t
 obtain⟨f0,f1,-,-⟩:=two_of (HC.out.later hb).k
 have zT:=(HC.out.later hb).t.lt
 have zK:=(HC.out.later hb).k.lt
 clear hba hb hO HC
 go_wp2_with fail
 obtain⟨pa,hpa⟩:∃ p,V2.heap.size=p:=⟨_,rfl⟩
 obtain⟨V3,hV3⟩:∃ X,V2.alloc (.cells (Cde.cd Z.f Z.d a1 Z.I.length e1 Z.o) 32)=X:=⟨_,rfl⟩
 rw[hV3] at HC2 HA2 HD ⊢
 rw[hpa] at HA2 ⊢
 clear hV3 hpa t0 t1 t2 t3 f0 f1 zT zK
 refine(HJ.out V3 _ _ _ _ _ _ _ HC2.out).mono ?_
 rintro e V4 ⟨a2,e2,rfl,hO,hb⟩
 have hba:=bel1 V4 (.cells (Cde.cd Z.f Z.d a2 Z.I.length e2 Z.o) 32)
 have hbb:=bel hb hba
 have HC4:=hide (HC2.out.later hbb)
 have HA4:=hide (HA2.out.later hbb)
 have HB4:=hide (show Hc (V4.alloc (.cells (Cde.cd Z.f Z.d a2 Z.I.length e2 Z.o) 32)) V3.heap.size V4.heap.size Z a2 e2 from⟨HasC.new _ _ _,own_bel hO hba⟩)
 have HZ3:=hide (show V3.heap.size<=(V4.alloc (.cells (Cde.cd Z.f Z.d a2 Z.I.length e2 Z.o) 32)).heap.size from hbb.size)
 obtain⟨t0,t1,t2,t3⟩:=four_of (HC2.out.later hb).u
 obtain⟨f0,f1,-,-⟩:=two_of (HC2.out.later hb).k
 have zT:=(HC2.out.later hb).u.lt
 have zK:=(HC2.out.later hb).k.lt
 clear hba hbb hb hO HC2 HA2
 go_wp2_with fail
 obtain⟨pb,hpb⟩:∃ p,V4.heap.size=p:=⟨_,rfl⟩
 obtain⟨V5,hV5⟩:∃ X,V4.alloc (.cells (Cde.cd Z.f Z.d a2 Z.I.length e2 Z.o) 32)=X:=⟨_,rfl⟩
 rw[hV5] at HC4 HA4 HB4 HZ3 ⊢
 rw[hpb] at HB4 ⊢
 clear hV5 hpb t0 t1 t2 t3 f0 f1 zT zK
 refine(HE.out V5 _ _ _ _ _ _ _ HC4.out).mono ?_
 rintro e V6 ⟨a3,e3,rfl,hO,hb⟩
 have hba:=bel1 V6 (.cells (Cde.cd Z.f Z.d a3 Z.I.length e3 Z.o) 32)
 have hbb:=bel hb hba
 have HC6:=hide (HC4.out.later hbb)
 have HA6:=hide (HA4.out.later hbb)
 have HB6:=hide (HB4.out.later hbb)
 have HG6:=hide (show Hc (V6.alloc (.cells (Cde.cd Z.f Z.d a3 Z.I.length e3 Z.o) 32)) V5.heap.size V6.heap.size Z a3 e3 from⟨HasC.new _ _ _,own_bel hO hba⟩)
 have HZ5:=hide (show W.heap.size<=V5.heap.size from HC4.out.old.size)
 clear hba hbb hb hO HC4 HA4 HB4
 have HD5:=hide (show ∀ k,(Value.slice a1 Z.I.length e1).ownBlock=some k->k < V5.heap.size from fun k hk=>Nat.lt_of_lt_of_le (HD.out k hk) HZ3.out)
 clear HD HZ3 HE HJ
 obtain⟨er,her⟩:∃ er,Z.er=er:=⟨_,rfl⟩
 rw[her]
 clear her
 go_wp2_with fail
 obtain⟨pc,hpc⟩:∃ p,V6.heap.size=p:=⟨_,rfl⟩
 obtain⟨V7,hV7⟩:∃ X,V6.alloc (.cells (Cde.cd Z.f Z.d a3 Z.I.length e3 Z.o) 32)=X:=⟨_,rfl⟩
 rw[hV7] at HC6 HA6 HB6 HG6 ⊢
 rw[hpc] at HG6 ⊢
 clear hV7 hpc
 refine(HA.out _).mono ?_
 rintro e V8 ⟨rfl,hb⟩
 have HC8:=hide (HC6.out.later hb)
 have HA8:=hide (HA6.out.later hb)
 have HB8:=hide (HB6.out.later hb)
 have HG8:=hide (HG6.out.later hb)
 clear hb HC6 HA6 HB6 HG6 HA
 obtain⟨x0,x1,x2,x3⟩:=four_of HA8.out.b
 obtain⟨y0,y1,y2,y3⟩:=four_of HB8.out.b
 go_wp2_with fail
 refine(HSm.out _ _ _ _ _ HA8.out.ins HB8.out.ins).mono ?_
 rintro e V9 ⟨rfl,hb⟩
 have HC9:=hide (HC8.out.later hb)
 have HA9:=hide (HA8.out.later hb)
 have HB9:=hide (HB8.out.later hb)
 have HG9:=hide (HG8.out.later hb)
 clear hb HC8 HA8 HB8 HG8 x0 x1 x2 x3 y0 y1 y2 y3
 obtain⟨x0,x1,x2,x3⟩:=four_of HG9.out.b
 obtain⟨y0,y1,y2,y3⟩:=four_of HB9.out.b
 go_wp2_with fail
 refine(HSm.out _ _ _ _ _ HG9.out.ins HB9.out.ins).mono ?_
 rintro e V10 ⟨rfl,hb⟩
 have HC10:=hide (HC9.out.later hb)
 have HA10:=hide (HA9.out.later hb)
 have HG10:=hide (HG9.out.later hb)
 clear hb HC9 HA9 HB9 HG9 HSm x0 x1 x2 x3 y0 y1 y2 y3
 obtain⟨x0,x1,x2,x3⟩:=four_of HC10.out.t
 obtain⟨y0,y1,y2,y3⟩:=four_of HC10.out.u
 have HL1:=HL.out
 have HH:=hide (held_any HC10.out.X2 HC10.out.B2 HC10.out.N2 HC10.out.X HC10.out.B HC10.out.N HL1.1.1 HL1.1.2.1 HL1.1.2.2 HL1.2.1 HL1.2.2.1 HL1.2.2.2 HC10.out.c1 HC10.out.c2 HC10.out.c3 (root:=root))
 clear HL1
 go_wp2_with fail
 refine HH.out.mono ?_
 rintro e V11 ⟨rfl,hb⟩
 have HB11:=hide (bel HC10.out.old hb)
 have HA11:=hide (HA10.out.later hb)
 have HG11:=hide (HG10.out.later hb)
 clear hb HC10 HA10 HG10 HH HL x0 x1 x2 x3 y0 y1 y2 y3
 obtain⟨x0,x1,x2,x3⟩:=four_of HA11.out.b
 obtain⟨y0,y1,y2,y3⟩:=four_of HG11.out.b
 have HLs:=hide (two_lists HA11.out HG11.out HD5.out HFw.out)
 have HOf:Hid (∀ k,Ai.Of 2 (fun i=>if i=0 then .slice a1 Z.I.length e1 else .slice a3 Z.I.length e3) k->W.heap.size<=k):=hide fun k ⟨i,hi,hk⟩=>by
  rcases(show i=0\/i=1 by omega) with rfl|rfl
  ·have:=(HA11.out.s.lt k hk).1;have:=HZ1.out;omega
  ·have:=(HG11.out.s.lt k hk).1;have:=HZ5.out;omega
 have HAp:=hide (Ai.xapart_any _ 2 2 _ _ _ HLs.out)
 go_wp2_with fail
 refine HAp.out.mono ?_
 rintro e V12 ⟨rfl,hk⟩
 have HB12:Hid (Below W.heap.size W V12):=hide ((bel HB11.out (bel1 _ _)).trans (hk.below (by have:=HB11.out.size;simp only[World.size_alloc];omega) HOf.out))
 clear hk
 go_wp2_with fail
 go_ret
 exact⟨rfl,HB12.out⟩
end Go.Proofs.YtngnnijpdjhelaaGreat
namespace Go.Proofs.YtngnnijpdjhelaaGreat
open Go.ChangeShapes Go.WideShapes Go.ChangeAt Go.RowKit
set_option linter.unusedVariables false
set_option maxRecDepth 100000
set_option maxHeartbeats 16000000
theorem lowerCode_lifted (os:Os)(started:os.Started)(H:Type)(enc:TypeId × Value->H) :
  ReturnsInHanded {} Tryz.checked os 3 .any (Rows.lowerCodeSpec.pre6 enc Tryz.prog Tryz.f3 Rows.lowerCodeRow.domain false) (Rows.lowerCodeSpec.post enc Tryz.prog Tryz.f3 false true false false):=by
 refine returnsInHanded_of_change_sized (C:=Tryz.checked) ownK started (by kernel_rfl) Tryz.func3
  (ChangeSpec.witness6 (enc:=enc) (C:=Tryz.checked) false ⟨#[],#[.agg #[.int .i64 0,.int .i64 0],.agg #[.slice none 0 0,.slice none 0 0,.slice none 0 0,.int .i64 0]],[]⟩ 8 (by kernel_rfl) (by kernel_rfl) (by kernel_rfl) (by kernel_rfl)) ?_
 intro W base args ds gs before hval0 hW hcnd hsz0 _
 have hsz:(DataW.weightsEach Tryz.prog (Tryz.f3.params.toList++Rows.lowerCodeSpec.plain.varTypes Tryz.prog) (ds++gs)).all (·<=reachBytes)=true:=hsz0
 have hval:∀(j:Nat) t v,Tryz.f3.params[j]?=some t->args[j]?=some v->Value.okWide Tryz.prog W .any base t v:=hval0
 have hW':=hW
 obtain⟨p,q,hA0,hV,rfl,hfz,hnd⟩:=hW
 have hA:DataW.TrodAll enc Tryz.prog W 0 (fun _=>true) true Tryz.f3.params.toList args.toList ds p:=hA0
 rw[Tryz.params3] at hA hval hsz
 obtain⟨v0,vs0,d0,ds0,p0,q0,hargs,rfl,rfl,h0,r0⟩:=trodAll_cons hA
 obtain⟨v1,vs1,d1,ds1,p1,q1,rfl,rfl,rfl,h1,r1⟩:=trodAll_cons r0
 obtain⟨rfl,rfl,rfl⟩:=trodAll_nil r1
 obtain rfl:args=#[v0,v1]:=by cases args;simp_all
 obtain⟨rfl,rfl⟩:=trodVars_none hV
 have k0:=h0
 have lt0:∀ x ∈ p0,x.block < W.heap.size:=by obtain⟨m,hm⟩:=k0;exact DataW.trod_lt m _ _ _ hm
 obtain⟨f0,e0,rfl⟩:=open_kind (hval 0 23 v0 rfl rfl) h0
 have k1:=h1
 have lt1:∀ x ∈ p1,x.block < W.heap.size:=by obtain⟨m,hm⟩:=k1;exact DataW.trod_lt m _ _ _ hm
 obtain⟨na1,nl1,nc1,NM1,ba1,bl1,bc1,BS1,da1,dl1,dc1,NS1,root1,rfl,hX1,hN1,hI1,hY1,o01,o11,o21,y01,y11,y21,y31,hd1,he1,hf1,hg1⟩:=open_tree (hval 1 28 v1 rfl rfl) h1
 obtain⟨hR1,hS1,hT1⟩:=tree_reach hd1 he1 hf1 hg1 hsz 1 rfl rfl
 clear hA0 hval0 hsz0
 refine(code_walk f0 e0 hX1 hI1 hY1 hN1 o01 o11 o21 hR1 hS1 hT1).mono fun e W' ⟨he,bel⟩=>?_
 subst he
 exact⟨_,rfl,_,_,_,[],_,[],hW',trodAll_mk1 (shut_bool Tryz.underlying4 _),trodAll_cons_mk (Below.trod laidOut' (by kernel_rfl) (of_decide_eq_true (by kernel_rfl)) k0 bel lt0) (trodAll_cons_mk (Below.trod laidOut' (by kernel_rfl) (of_decide_eq_true (by kernel_rfl)) k1 bel lt1) (trodAll_mk0)),rfl,bel.frame _,fun h=>by cases h⟩
theorem lowerCode_holds:Rows.LowerCodeSaid :=
 OpenClaim.holds_of_wide 3 Tryz.f3 rfl rfl rfl rfl rfl rfl rfl ⟨rfl,rfl,rfl,rfl,rfl⟩ rfl rfl rfl rfl rfl (by kernel_rfl) Tryz.func3 (by kernel_rfl)
  (of_decide_eq_true (by kernel_rfl)) (by unfold Func.isWrapper;first|(rw[if_pos (by decide +kernel)];kernel_rfl)|(rw[if_neg (by decide +kernel)];exact⟨rfl,rfl⟩))
  (fun os started H enc _=>lowerCode_lifted os started H enc)
#print axioms lowerCode_holds
end Go.Proofs.YtngnnijpdjhelaaGreat
