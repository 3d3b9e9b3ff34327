import Derived.Test.YtimdcmponhcngaaGreatX50
namespace Go.Proofs.YtimdcmponhcngaaGreat
open Go.RowKit Go.IntWalk Lx Pz
set_option linter.unusedVariables false
set_option maxRecDepth 100000
set_option maxHeartbeats 16000000
theorem same_self {W:World}{na ba da na2 ba2 da2:Option Addr}{nl nc bl bc dl dc nc2 bc2 dc2:Nat}{root:Int}{NM:List Txt}{BS:List Int}{NS:List Nd}
  (hX:Tx W na nl nc NM) (hB:Iz W ba bl bc BS) (hN:Nz W da dl dc NS) (hX2:Tx W na2 nl nc2 NM) (hB2:Iz W ba2 bl bc2 BS) (hN2:Nz W da2 dl dc2 NS) :
  Calls Tryz.prog 38 #[.agg (tr4 (.slice na nl nc) (.slice ba bl bc) (.slice da dl dc) (.int .i64 root)),.agg (tr4 (.slice na2 nl nc2) (.slice ba2 bl bc2) (.slice da2 dl dc2) (.int .i64 root))] W fun e W'=>e=.returned (.bool true)/\Below W.heap.size W W':=by
 have hnl:nl<=9223372036854775807:=by have:=hX.le;have:=hX.max;unfold maxLen at *;omega
 have hbl:bl<=9223372036854775807:=by have:=hB.le;have:=hB.max;unfold maxLen at *;omega
 have hdl:dl<=9223372036854775807:=by have:=hN.le;have:=hN.max;unfold maxLen at *;omega
 have HX:=hide hX
 have HB:=hide hB
 have HN:=hide hN
 have HX2:=hide hX2
 have HB2:=hide hB2
 have HN2:=hide hN2
 clear hX hB hN hX2 hB2 hN2
 have HW0:=hide (bel (bel1 W (.cells (tr4 (.slice na nl nc) (.slice ba bl bc) (.slice da dl dc) (.int .i64 root)) 28)) (bel1 (W.alloc (.cells (tr4 (.slice na nl nc) (.slice ba bl bc) (.slice da dl dc) (.int .i64 root)) 28)) (.cells (tr4 (.slice na2 nl nc2) (.slice ba2 bl bc2) (.slice da2 dl dc2) (.int .i64 root)) 28)))
 have HC0:=hide ((HasC.new W 28 (tr4 (.slice na nl nc) (.slice ba bl bc) (.slice da dl dc) (.int .i64 root))).alloc (.cells (tr4 (.slice na2 nl nc2) (.slice ba2 bl bc2) (.slice da2 dl dc2) (.int .i64 root)) 28))
 have HC1:=hide (HasC.new (W.alloc (.cells (tr4 (.slice na nl nc) (.slice ba bl bc) (.slice da dl dc) (.int .i64 root)) 28)) 28 (tr4 (.slice na2 nl nc2) (.slice ba2 bl bc2) (.slice da2 dl dc2) (.int .i64 root)))
 rw[World.size_alloc] at HC1
 go_enter Tryz.func38,Tryz.ntmps38
 go_wp2_with fail
 go_loopw [5] (fun i wr=>∃ k:Nat,k<=nl/\i=.int .i64 k/\Hid (Below W.heap.size W wr)/\Hid (HasC wr W.heap.size 28 (tr4 (.slice na nl nc) (.slice ba bl bc) (.slice da dl dc) (.int .i64 root)))/\Hid (HasC wr (W.heap.size+1) 28 (tr4 (.slice na2 nl nc2) (.slice ba2 bl bc2) (.slice da2 dl dc2) (.int .i64 root)))) (fun i _=>nl-(intOf i).toNat)
 case atStart=>exact⟨0,Nat.zero_le _,rfl,hide HW0.out,hide HC0.out,hide HC1.out⟩
 case round =>
  obtain⟨k,hk,rfl,HWb,HD0,HD1⟩:=hrel
  rename World=>V
  obtain⟨c0,c1,c2,c3⟩:=facts4 HD0.out
  obtain⟨d0,d1,d2,d3⟩:=facts4 HD1.out
  by_cases hlt:k < nl
  ·obtain⟨b,off,rfl,e1⟩:∃ b off,na=some ⟨b,off,none⟩/\V.cell? ⟨b,off+k,none⟩=some (.string (sB (NM.getD k []))):=by
    rcases(HX.out.later HWb.out).cell with h0|⟨b,off,ha,hc⟩
    ·omega
    ·exact⟨b,off,ha,hc k hlt⟩
   obtain⟨b2,off2,rfl,e2⟩:∃ b off,na2=some ⟨b,off,none⟩/\V.cell? ⟨b,off+k,none⟩=some (.string (sB (NM.getD k []))):=by
    rcases(HX2.out.later HWb.out).cell with h0|⟨b,off,ha,hc⟩
    ·omega
    ·exact⟨b,off,ha,hc k hlt⟩
   generalize sB (NM.getD k [])=u at *
   have hi0:(0:Int)<=k:=by omega
   have hi1:(k:Int) < nl:=by omega
   go_upto_region 6 with fail
   go_quiet (fail)
   go_wp2_with fail
   go_roundw
   case rel=>exact⟨k+1,by omega,by go_num,hide (bel HWb.out (below_drewN _ _)),hide (HD0.out.below (below_drewN _ _)),hide (HD1.out.below (below_drewN _ _))⟩
   case measure=>simp[intOf];omega
  ·obtain rfl:k=nl:=by omega
   go_wp2_with fail
   go_loopw [6] (fun i wr=>∃ j:Nat,j<=bl/\i=.int .i64 j/\Hid (Below W.heap.size W wr)/\Hid (HasC wr W.heap.size 28 (tr4 (.slice na k nc) (.slice ba bl bc) (.slice da dl dc) (.int .i64 root)))/\Hid (HasC wr (W.heap.size+1) 28 (tr4 (.slice na2 k nc2) (.slice ba2 bl bc2) (.slice da2 dl dc2) (.int .i64 root)))) (fun i _=>bl-(intOf i).toNat)
   case atStart=>exact⟨0,Nat.zero_le _,rfl,hide HWb.out,hide HD0.out,hide HD1.out⟩
   case round =>
    obtain⟨j,hj,rfl,HWb,HD0,HD1⟩:=hrel
    rename World=>V2
    clear c0 c1 c2 c3 d0 d1 d2 d3
    obtain⟨c0,c1,c2,c3⟩:=facts4 HD0.out
    obtain⟨d0,d1,d2,d3⟩:=facts4 HD1.out
    by_cases hlt:j < bl
    ·obtain⟨b,off,rfl,e1⟩:∃ b off,ba=some ⟨b,off,none⟩/\V2.cell? ⟨b,off+j,none⟩=some (.int .i64 (BS.getD j 0)):=by
      rcases(HB.out.later HWb.out).cell with h0|⟨b,off,ha,-,hc⟩
      ·omega
      ·exact⟨b,off,ha,hc j hlt⟩
     obtain⟨b2,off2,rfl,e2⟩:∃ b off,ba2=some ⟨b,off,none⟩/\V2.cell? ⟨b,off+j,none⟩=some (.int .i64 (BS.getD j 0)):=by
      rcases(HB2.out.later HWb.out).cell with h0|⟨b,off,ha,-,hc⟩
      ·omega
      ·exact⟨b,off,ha,hc j hlt⟩
     generalize BS.getD j 0=u at *
     have hi0:(0:Int)<=j:=by omega
     have hi1:(j:Int) < bl:=by omega
     go_upto_region 11 with fail
     go_quiet (fail)
     go_wp2_with fail
     go_roundw
     case rel=>exact⟨j+1,by omega,by go_num,hide (bel HWb.out (below_drewN _ _)),hide (HD0.out.below (below_drewN _ _)),hide (HD1.out.below (below_drewN _ _))⟩
     case measure=>simp[intOf];omega
    ·obtain rfl:j=bl:=by omega
     go_wp2_with fail
     go_loopw [7] (fun i wr=>∃ m:Nat,m<=dl/\i=.int .i64 m/\Hid (Below W.heap.size W wr)/\Hid (HasC wr W.heap.size 28 (tr4 (.slice na k nc) (.slice ba j bc) (.slice da dl dc) (.int .i64 root)))/\Hid (HasC wr (W.heap.size+1) 28 (tr4 (.slice na2 k nc2) (.slice ba2 j bc2) (.slice da2 dl dc2) (.int .i64 root)))) (fun i _=>dl-(intOf i).toNat)
     case atStart=>exact⟨0,Nat.zero_le _,rfl,hide HWb.out,hide HD0.out,hide HD1.out⟩
     case round =>
      obtain⟨m,hm,rfl,HWb,HD0,HD1⟩:=hrel
      rename World=>V3
      clear c0 c1 c2 c3 d0 d1 d2 d3
      obtain⟨c0,c1,c2,c3⟩:=facts4 HD0.out
      obtain⟨d0,d1,d2,d3⟩:=facts4 HD1.out
      by_cases hlt:m < dl
      ·obtain⟨g1,o1,rfl,at1⟩:=(HN.out.later HWb.out).at (by omega)
       obtain⟨g2,o2,rfl,at2⟩:=(HN2.out.later HWb.out).at (by omega)
       obtain⟨e0,e1,e2,e3,e4,e5,e6,e7,e8⟩:=at1 m hlt
       obtain⟨f0,f1,f2,f3,f4,f5,f6,f7,f8⟩:=at2 m hlt
       clear at1 at2
       generalize NS.getD m n0=n at *
       have hi0:(0:Int)<=m:=by omega
       have hi1:(m:Int) < dl:=by omega
       go_upto_region 16 with fail
       go_quiet (fail)
       go_wp2_with fail
       go_roundw
       case rel=>exact⟨m+1,by omega,by go_num,hide (bel HWb.out (below_drewN _ _)),hide (HD0.out.below (below_drewN _ _)),hide (HD1.out.below (below_drewN _ _))⟩
       case measure=>simp[intOf];omega
      ·obtain rfl:m=dl:=by omega
       go_wp2_with fail
       go_ret
       exact⟨rfl,HWb.out⟩
theorem below_cell {W W':World}{p:Addr}{v:Value}(hb:Below W.heap.size W W')(h:W.cell? p=some v):W'.cell? p=some v:=by
 rw[hb.cell (World.block_lt_of_cell? W _ h)]
 exact h
theorem RmR.tx {w:World}{base n:Nat}{v:Value}{NM:List Txt}(h:RmR w base 9 1 v n (tx64 NM++[.string (sB spareT)])):∃ g cap,v=.slice (some ⟨g,0,none⟩) n cap/\Tx w (some ⟨g,0,none⟩) n cap NM/\n+1<=cap/\cap<=9223372036854775807/\w.cell? ⟨g,n,none⟩=some (.string (sB spareT)):=by
 obtain⟨g,cap,rfl,ho⟩:=h
 obtain⟨h1,h2⟩:=own_caps ho
 have hlen:NM.length=n:=by have:=ho.1;simp[tx64] at this;omega
 have hcs:=fun j u hu=>ho.cells (g:=g) rfl j u hu
 refine⟨g,cap,rfl,⟨hlen,by omega,h2,?_⟩,h1,by unfold maxLen at h2;exact h2,?_⟩
 ·by_cases h0:n=0
  ·exact .inl h0
  ·refine .inr ⟨g,0,rfl,fun i hi=>?_⟩
   have:=hcs i (.string (sB (NM.getD i []))) (by
    rw[List.getElem?_append_left (by simp[tx64];omega)]
    simp[tx64,List.getD,hlen,hi])
   rw[Addr.add_lit] at this
   exact this
 ·have:=hcs n (.string (sB spareT)) (by
   rw[List.getElem?_append_right (by simp[tx64];omega)]
   simp[tx64,hlen])
  rw[Addr.add_lit,Nat.zero_add] at this
  exact this
theorem RmR.iz {w:World}{base n:Nat}{v:Value}{BS:List Int}(h:RmR w base 3 1 v n (in64 BS++[.int .i64 7777])):∃ g cap,v=.slice (some ⟨g,0,none⟩) n cap/\Iz w (some ⟨g,0,none⟩) n cap BS/\n+1<=cap/\cap<=9223372036854775807/\w.cell? ⟨g,n,none⟩=some (.int .i64 7777):=by
 obtain⟨g,cap,rfl,ho⟩:=h
 obtain⟨h1,h2⟩:=own_caps ho
 have hlen:BS.length=n:=by have:=ho.1;simp[in64] at this;omega
 have hcs:=fun j u hu=>ho.cells (g:=g) rfl j u hu
 have hc:w.cell? ⟨g,n,none⟩=some (.int .i64 7777):=by
  have:=hcs n (.int .i64 7777) (by
   rw[List.getElem?_append_right (by simp[in64];omega)]
   simp[in64,hlen])
  rw[Addr.add_lit,Nat.zero_add] at this
  exact this
 refine⟨g,cap,rfl,⟨hlen,by omega,h2,?_⟩,h1,by unfold maxLen at h2;exact h2,hc⟩
 ·by_cases h0:n=0
  ·exact .inl h0
  ·refine .inr ⟨g,0,rfl,World.block_lt_of_cell? w _ hc,fun i hi=>?_⟩
   have:=hcs i (.int .i64 (BS.getD i 0)) (by
    rw[List.getElem?_append_left (by simp[in64];omega)]
    simp[in64,List.getD,hlen,hi])
   rw[Addr.add_lit] at this
   exact this
theorem RmR.nz {w:World}{base n:Nat}{v:Value}{NS:List Nd}(h:RmR w base 69 9 v n (nd64 NS++nd9 spareN)):∃ g cap,v=.slice (some ⟨g,0,none⟩) n cap/\Nz w (some ⟨g,0,none⟩) n cap NS/\n+1<=cap/\cap<=9223372036854775807/\w.cell? ⟨g,n*9,none⟩=some (.int .i64 7777):=by
 obtain⟨g,cap,rfl,ho⟩:=h
 obtain⟨h1,h2⟩:=own_caps ho
 have hlen:NS.length=n:=by have:=ho.1;simp[nd64_len,nd9] at this;omega
 have hcs:=fun j u hu=>ho.cells (g:=g) rfl j u hu
 have hc:w.cell? ⟨g,n*9,none⟩=some (.int .i64 7777):=by
  have:=hcs (n*9) (.int .i64 7777) (by
   rw[List.getElem?_append_right (by rw[nd64_len];omega),nd64_len,hlen,Nat.sub_self]
   rfl)
  rw[Addr.add_lit,Nat.zero_add] at this
  exact this
 refine⟨g,cap,rfl,⟨hlen,by omega,h2,?_⟩,h1,by unfold maxLen at h2;exact h2,hc⟩
 ·by_cases h0:n=0
  ·exact .inl h0
  ·refine .inr ⟨g,0,rfl,World.block_lt_of_cell? w _ hc,fun i hi j v hv=>?_⟩
   have hj:j < 9:=by
    have:=(List.getElem?_eq_some_iff.1 hv).1
    simpa [nd9] using this
   have:=hcs (i*9+j) v (by
    rw[List.getElem?_append_left (by rw[nd64_len];omega)]
    exact nd64_get NS i (by omega) j v hv)
   rw[Addr.add_lit,Nat.zero_add] at this
   rw[Nat.zero_add]
   exact this
theorem held_any {W:World}{na ba da:Option Addr}{nl nc bl bc dl dc g1 g2 g3 k1 k2 k3:Nat}{root:Int}{NM:List Txt}{BS:List Int}{NS:List Nd}
  (hX:Tx W (some ⟨g1,0,none⟩) nl k1 NM) (hB:Iz W (some ⟨g2,0,none⟩) bl k2 BS) (hN:Nz W (some ⟨g3,0,none⟩) dl k3 NS) (hX2:Tx W na nl nc NM) (hB2:Iz W ba bl bc BS) (hN2:Nz W da dl dc NS)
  (l1:nl+1<=k1) (l2:bl+1<=k2) (l3:dl+1<=k3) (m1:k1<=9223372036854775807) (m2:k2<=9223372036854775807) (m3:k3<=9223372036854775807)
  (c1:W.cell? ⟨g1,nl,none⟩=some (.string (sB spareT))) (c2:W.cell? ⟨g2,bl,none⟩=some (.int .i64 7777)) (c3:W.cell? ⟨g3,dl*9,none⟩=some (.int .i64 7777)) :
  Calls Tryz.prog 16 #[.agg #[.slice (some ⟨g1,0,none⟩) nl k1,.slice (some ⟨g2,0,none⟩) bl k2,.slice (some ⟨g3,0,none⟩) dl k3,.int .i64 root],.agg #[.slice na nl nc,.slice ba bl bc,.slice da dl dc,.int .i64 root]] W fun e W'=>e=.returned (.bool true)/\Below W.heap.size W W':=by
 obtain⟨U,hU⟩:∃ U,(W.alloc (.cells #[.slice (some ⟨g1,0,none⟩) nl k1,.slice (some ⟨g2,0,none⟩) bl k2,.slice (some ⟨g3,0,none⟩) dl k3,.int .i64 root] 28)).alloc (.cells #[.slice na nl nc,.slice ba bl bc,.slice da dl dc,.int .i64 root] 28)=U:=⟨_,rfl⟩
 have hb:Below W.heap.size W U:=by rw[<-hU];exact bel (bel1 W _) (bel1 _ _)
 have HA:=hide (show HasC U W.heap.size 28 #[.slice (some ⟨g1,0,none⟩) nl k1,.slice (some ⟨g2,0,none⟩) bl k2,.slice (some ⟨g3,0,none⟩) dl k3,.int .i64 root] by rw[<-hU];exact(HasC.new _ _ _).alloc _)
 have HC:=hide (show HasC U (W.heap.size+1) 28 #[.slice na nl nc,.slice ba bl bc,.slice da dl dc,.int .i64 root] by
  rw[<-hU]
  have:=HasC.new (W.alloc (.cells #[.slice (some ⟨g1,0,none⟩) nl k1,.slice (some ⟨g2,0,none⟩) bl k2,.slice (some ⟨g3,0,none⟩) dl k3,.int .i64 root] 28)) 28 #[.slice na nl nc,.slice ba bl bc,.slice da dl dc,.int .i64 root]
  rw[World.size_alloc] at this
  exact this)
 have HSm:=hide (same_self (hX.later hb) (hB.later hb) (hN.later hb) (hX2.later hb) (hB2.later hb) (hN2.later hb) (root:=root))
 have HBb:=hide hb
 have HU:=hide hU
 have HCC:=hide (And.intro (below_cell hb c1) (And.intro (below_cell hb c2) (below_cell hb c3)))
 clear hX hB hN hX2 hB2 hN2 c1 c2 c3 hb hU
 obtain⟨t0,t1,t2,t3⟩:=facts4 HA.out
 obtain⟨s0,s1,s2,s3⟩:=facts4 HC.out
 go_enter Tryz.func16,Tryz.ntmps16
 go_wp2_with fail
 rw[HU.out]
 go_wp2_with fail
 refine HSm.out.mono ?_
 clear HSm t0 t1 t2 t3 s0 s1 s2 s3
 rintro e V ⟨rfl,hb⟩
 obtain⟨t0,t1,t2,t3⟩:=facts4 (HA.out.below hb)
 obtain⟨s0,s1,s2,s3⟩:=facts4 (HC.out.below hb)
 have c1:=below_cell hb HCC.out.1
 have c2:=below_cell hb HCC.out.2.1
 have c3:=below_cell hb HCC.out.2.2
 have HB2:=hide (bel HBb.out hb)
 clear hb HCC HA HC HU HBb
 go_wp2_with fail
 have hw1:IntKind.i64.wrap ((nl:Int)+1)=((nl+1:Nat):Int):=by rw[IntWalk.i64_in _ ⟨by omega,by omega⟩];rfl
 have ha1:(0:Int)<=(nl:Int)+1:=by omega
 have hb1:(nl:Int)+1<=(k1:Int):=by omega
 have hc1:(nl:Int) < (nl:Int)+1:=by omega
 have hd1:((nl:Int)+1).toNat=nl+1:=by omega
 have he1:¬((nl:Int)+1 < 0):=by omega
 have hf1:¬((k1:Int) < (nl:Int)+1):=by omega
 have hw2:IntKind.i64.wrap ((bl:Int)+1)=((bl+1:Nat):Int):=by rw[IntWalk.i64_in _ ⟨by omega,by omega⟩];rfl
 have ha2:(0:Int)<=(bl:Int)+1:=by omega
 have hb2:(bl:Int)+1<=(k2:Int):=by omega
 have hc2:(bl:Int) < (bl:Int)+1:=by omega
 have hd2:((bl:Int)+1).toNat=bl+1:=by omega
 have he2:¬((bl:Int)+1 < 0):=by omega
 have hf2:¬((k2:Int) < (bl:Int)+1):=by omega
 have hw3:IntKind.i64.wrap ((dl:Int)+1)=((dl+1:Nat):Int):=by rw[IntWalk.i64_in _ ⟨by omega,by omega⟩];rfl
 have ha3:(0:Int)<=(dl:Int)+1:=by omega
 have hb3:(dl:Int)+1<=(k3:Int):=by omega
 have hc3:(dl:Int) < (dl:Int)+1:=by omega
 have hd3:((dl:Int)+1).toNat=dl+1:=by omega
 have he3:¬((dl:Int)+1 < 0):=by omega
 have hf3:¬((k3:Int) < (dl:Int)+1):=by omega
 go_quiet (fail)
 go_wp2_with fail
 rw[show (spareT==[115,112,97,114,101])=true by decide]
 exact bodyPost_ret (v:=.bool true) (by simp[results,Tryz.results16,go_sem]) rfl ⟨rfl,bel HB2.out (below_drewN _ _)⟩
end Go.Proofs.YtimdcmponhcngaaGreat
