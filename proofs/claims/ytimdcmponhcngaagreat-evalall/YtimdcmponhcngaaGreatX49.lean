import Derived.Maps.AppendAt
import Derived.Test.YtimdcmponhcngaaGreatX48
namespace Go.Proofs.YtimdcmponhcngaaGreat
open Go.RowKit Go.IntWalk Lx Pz
set_option linter.unusedVariables false
set_option maxRecDepth 100000
set_option maxHeartbeats 16000000
theorem same_self {W:World}{na ba da na2 ba2 da2:Option Addr}{nl nc bl bc dl dc nc2 bc2 dc2:Nat}{root:Int}{NM:List Txt}{BS:List Int}{NS:List Nd}
  (hX:Tx W na nl nc NM) (hB:Iz W ba bl bc BS) (hN:Nz W da dl dc NS) (hX2:Tx W na2 nl nc2 NM) (hB2:Iz W ba2 bl bc2 BS) (hN2:Nz W da2 dl dc2 NS) :
  Calls Tryz.prog 38 #[.agg (tr4 (.slice na nl nc) (.slice ba bl bc) (.slice da dl dc) (.int .i64 root)),.agg (tr4 (.slice na2 nl nc2) (.slice ba2 bl bc2) (.slice da2 dl dc2) (.int .i64 root))] W fun e W'=>e=.returned (.bool true)/\Below W.heap.size W W':=by
 have hnl:nl<=9223372036854775807:=by have:=hX.le;have:=hX.max;unfold maxLen at *;omega
 have hbl:bl<=9223372036854775807:=by have:=hB.le;have:=hB.max;unfold maxLen at *;omega
 have hdl:dl<=9223372036854775807:=by have:=hN.le;have:=hN.max;unfold maxLen at *;omega
 have HX:=hide hX
 have HB:=hide hB
 have HN:=hide hN
 have HX2:=hide hX2
 have HB2:=hide hB2
 have HN2:=hide hN2
 clear hX hB hN hX2 hB2 hN2
 have HW0:=hide (bel (bel1 W (.cells (tr4 (.slice na nl nc) (.slice ba bl bc) (.slice da dl dc) (.int .i64 root)) 28)) (bel1 (W.alloc (.cells (tr4 (.slice na nl nc) (.slice ba bl bc) (.slice da dl dc) (.int .i64 root)) 28)) (.cells (tr4 (.slice na2 nl nc2) (.slice ba2 bl bc2) (.slice da2 dl dc2) (.int .i64 root)) 28)))
 have HC0:=hide ((HasC.new W 28 (tr4 (.slice na nl nc) (.slice ba bl bc) (.slice da dl dc) (.int .i64 root))).alloc (.cells (tr4 (.slice na2 nl nc2) (.slice ba2 bl bc2) (.slice da2 dl dc2) (.int .i64 root)) 28))
 have HC1:=hide (HasC.new (W.alloc (.cells (tr4 (.slice na nl nc) (.slice ba bl bc) (.slice da dl dc) (.int .i64 root)) 28)) 28 (tr4 (.slice na2 nl nc2) (.slice ba2 bl bc2) (.slice da2 dl dc2) (.int .i64 root)))
 rw[World.size_alloc] at HC1
 go_enter Tryz.func38,Tryz.ntmps38
 go_wp2_with fail
 go_loopw [5] (fun i wr=>∃ k:Nat,k<=nl/\i=.int .i64 k/\Hid (Below W.heap.size W wr)/\Hid (HasC wr W.heap.size 28 (tr4 (.slice na nl nc) (.slice ba bl bc) (.slice da dl dc) (.int .i64 root)))/\Hid (HasC wr (W.heap.size+1) 28 (tr4 (.slice na2 nl nc2) (.slice ba2 bl bc2) (.slice da2 dl dc2) (.int .i64 root)))) (fun i _=>nl-(intOf i).toNat)
 case atStart=>exact⟨0,Nat.zero_le _,rfl,hide HW0.out,hide HC0.out,hide HC1.out⟩
 case round =>
  obtain⟨k,hk,rfl,HWb,HD0,HD1⟩:=hrel
  rename World=>V
  obtain⟨c0,c1,c2,c3⟩:=facts4 HD0.out
  obtain⟨d0,d1,d2,d3⟩:=facts4 HD1.out
  by_cases hlt:k < nl
  ·obtain⟨b,off,rfl,e1⟩:∃ b off,na=some ⟨b,off,none⟩/\V.cell? ⟨b,off+k,none⟩=some (.string (sB (NM.getD k []))):=by
    rcases(HX.out.later HWb.out).cell with h0|⟨b,off,ha,hc⟩
    ·omega
    ·exact⟨b,off,ha,hc k hlt⟩
   obtain⟨b2,off2,rfl,e2⟩:∃ b off,na2=some ⟨b,off,none⟩/\V.cell? ⟨b,off+k,none⟩=some (.string (sB (NM.getD k []))):=by
    rcases(HX2.out.later HWb.out).cell with h0|⟨b,off,ha,hc⟩
    ·omega
    ·exact⟨b,off,ha,hc k hlt⟩
   generalize sB (NM.getD k [])=u at *
   have hi0:(0:Int)<=k:=by omega
   have hi1:(k:Int) < nl:=by omega
   go_upto_region 6 with fail
   go_quiet (fail)
   go_wp2_with fail
   go_roundw
   case rel=>exact⟨k+1,by omega,by go_num,hide (bel HWb.out (below_drewN _ _)),hide (HD0.out.below (below_drewN _ _)),hide (HD1.out.below (below_drewN _ _))⟩
   case measure=>simp[intOf];omega
  ·obtain rfl:k=nl:=by omega
   go_wp2_with fail
   go_loopw [6] (fun i wr=>∃ j:Nat,j<=bl/\i=.int .i64 j/\Hid (Below W.heap.size W wr)/\Hid (HasC wr W.heap.size 28 (tr4 (.slice na k nc) (.slice ba bl bc) (.slice da dl dc) (.int .i64 root)))/\Hid (HasC wr (W.heap.size+1) 28 (tr4 (.slice na2 k nc2) (.slice ba2 bl bc2) (.slice da2 dl dc2) (.int .i64 root)))) (fun i _=>bl-(intOf i).toNat)
   case atStart=>exact⟨0,Nat.zero_le _,rfl,hide HWb.out,hide HD0.out,hide HD1.out⟩
   case round =>
    obtain⟨j,hj,rfl,HWb,HD0,HD1⟩:=hrel
    rename World=>V2
    clear c0 c1 c2 c3 d0 d1 d2 d3
    obtain⟨c0,c1,c2,c3⟩:=facts4 HD0.out
    obtain⟨d0,d1,d2,d3⟩:=facts4 HD1.out
    by_cases hlt:j < bl
    ·obtain⟨b,off,rfl,e1⟩:∃ b off,ba=some ⟨b,off,none⟩/\V2.cell? ⟨b,off+j,none⟩=some (.int .i64 (BS.getD j 0)):=by
      rcases(HB.out.later HWb.out).cell with h0|⟨b,off,ha,-,hc⟩
      ·omega
      ·exact⟨b,off,ha,hc j hlt⟩
     obtain⟨b2,off2,rfl,e2⟩:∃ b off,ba2=some ⟨b,off,none⟩/\V2.cell? ⟨b,off+j,none⟩=some (.int .i64 (BS.getD j 0)):=by
      rcases(HB2.out.later HWb.out).cell with h0|⟨b,off,ha,-,hc⟩
      ·omega
      ·exact⟨b,off,ha,hc j hlt⟩
     generalize BS.getD j 0=u at *
     have hi0:(0:Int)<=j:=by omega
     have hi1:(j:Int) < bl:=by omega
     go_upto_region 11 with fail
     go_quiet (fail)
     go_wp2_with fail
     go_roundw
     case rel=>exact⟨j+1,by omega,by go_num,hide (bel HWb.out (below_drewN _ _)),hide (HD0.out.below (below_drewN _ _)),hide (HD1.out.below (below_drewN _ _))⟩
     case measure=>simp[intOf];omega
    ·obtain rfl:j=bl:=by omega
     go_wp2_with fail
     go_loopw [7] (fun i wr=>∃ m:Nat,m<=dl/\i=.int .i64 m/\Hid (Below W.heap.size W wr)/\Hid (HasC wr W.heap.size 28 (tr4 (.slice na k nc) (.slice ba j bc) (.slice da dl dc) (.int .i64 root)))/\Hid (HasC wr (W.heap.size+1) 28 (tr4 (.slice na2 k nc2) (.slice ba2 j bc2) (.slice da2 dl dc2) (.int .i64 root)))) (fun i _=>dl-(intOf i).toNat)
     case atStart=>exact⟨0,Nat.zero_le _,rfl,hide HWb.out,hide HD0.out,hide HD1.out⟩
     case round =>
      obtain⟨m,hm,rfl,HWb,HD0,HD1⟩:=hrel
      rename World=>V3
      clear c0 c1 c2 c3 d0 d1 d2 d3
      obtain⟨c0,c1,c2,c3⟩:=facts4 HD0.out
      obtain⟨d0,d1,d2,d3⟩:=facts4 HD1.out
      by_cases hlt:m < dl
      ·obtain⟨g1,o1,rfl,at1⟩:=(HN.out.later HWb.out).at (by omega)
       obtain⟨g2,o2,rfl,at2⟩:=(HN2.out.later HWb.out).at (by omega)
       obtain⟨e0,e1,e2,e3,e4,e5,e6,e7,e8⟩:=at1 m hlt
       obtain⟨f0,f1,f2,f3,f4,f5,f6,f7,f8⟩:=at2 m hlt
       clear at1 at2
       generalize NS.getD m n0=n at *
       have hi0:(0:Int)<=m:=by omega
       have hi1:(m:Int) < dl:=by omega
       go_upto_region 16 with fail
       go_quiet (fail)
       go_wp2_with fail
       go_roundw
       case rel=>exact⟨m+1,by omega,by go_num,hide (bel HWb.out (below_drewN _ _)),hide (HD0.out.below (below_drewN _ _)),hide (HD1.out.below (below_drewN _ _))⟩
       case measure=>simp[intOf];omega
      ·obtain rfl:m=dl:=by omega
       go_wp2_with fail
       go_ret
       exact⟨rfl,HWb.out⟩
theorem below_cell {W W':World}{p:Addr}{v:Value}(hb:Below W.heap.size W W')(h:W.cell? p=some v):W'.cell? p=some v:=by
 rw[hb.cell (World.block_lt_of_cell? W _ h)]
 exact h
theorem RmR.tx {w:World}{base n:Nat}{v:Value}{NM:List Txt}(h:RmR w base 9 1 v n (tx64 NM++[.string (sB spareT)])):∃ g cap,v=.slice (some ⟨g,0,none⟩) n cap/\Tx w (some ⟨g,0,none⟩) n cap NM/\n+1<=cap/\cap<=9223372036854775807/\w.cell? ⟨g,n,none⟩=some (.string (sB spareT)):=by
 obtain⟨g,cap,rfl,ho⟩:=h
 obtain⟨h1,h2⟩:=own_caps ho
 have hlen:NM.length=n:=by have:=ho.1;simp[tx64] at this;omega
 have hcs:=fun j u hu=>ho.cells (g:=g) rfl j u hu
 refine⟨g,cap,rfl,⟨hlen,by omega,h2,?_⟩,h1,by unfold maxLen at h2;exact h2,?_⟩
 ·by_cases h0:n=0
  ·exact .inl h0
  ·refine .inr ⟨g,0,rfl,fun i hi=>?_⟩
   have:=hcs i (.string (sB (NM.getD i []))) (by
    rw[List.getElem?_append_left (by simp[tx64];omega)]
    simp[tx64,List.getD,hlen,hi])
   rw[Addr.add_lit] at this
   exact this
 ·have:=hcs n (.string (sB spareT)) (by
   rw[List.getElem?_append_right (by simp[tx64];omega)]
   simp[tx64,hlen])
  rw[Addr.add_lit,Nat.zero_add] at this
  exact this
theorem RmR.iz {w:World}{base n:Nat}{v:Value}{BS:List Int}(h:RmR w base 3 1 v n (in64 BS++[.int .i64 7777])):∃ g cap,v=.slice (some ⟨g,0,none⟩) n cap/\Iz w (some ⟨g,0,none⟩) n cap BS/\n+1<=cap/\cap<=9223372036854775807/\w.cell? ⟨g,n,none⟩=some (.int .i64 7777):=by
 obtain⟨g,cap,rfl,ho⟩:=h
 obtain⟨h1,h2⟩:=own_caps ho
 have hlen:BS.length=n:=by have:=ho.1;simp[in64] at this;omega
 have hcs:=fun j u hu=>ho.cells (g:=g) rfl j u hu
 have hc:w.cell? ⟨g,n,none⟩=some (.int .i64 7777):=by
  have:=hcs n (.int .i64 7777) (by
   rw[List.getElem?_append_right (by simp[in64];omega)]
   simp[in64,hlen])
  rw[Addr.add_lit,Nat.zero_add] at this
  exact this
 refine⟨g,cap,rfl,⟨hlen,by omega,h2,?_⟩,h1,by unfold maxLen at h2;exact h2,hc⟩
 ·by_cases h0:n=0
  ·exact .inl h0
  ·refine .inr ⟨g,0,rfl,World.block_lt_of_cell? w _ hc,fun i hi=>?_⟩
   have:=hcs i (.int .i64 (BS.getD i 0)) (by
    rw[List.getElem?_append_left (by simp[in64];omega)]
    simp[in64,List.getD,hlen,hi])
   rw[Addr.add_lit] at this
   exact this
theorem RmR.nz {w:World}{base n:Nat}{v:Value}{NS:List Nd}(h:RmR w base 69 9 v n (nd64 NS++nd9 spareN)):∃ g cap,v=.slice (some ⟨g,0,none⟩) n cap/\Nz w (some ⟨g,0,none⟩) n cap NS/\n+1<=cap/\cap<=9223372036854775807/\w.cell? ⟨g,n*9,none⟩=some (.int .i64 7777):=by
 obtain⟨g,cap,rfl,ho⟩:=h
 obtain⟨h1,h2⟩:=own_caps ho
 have hlen:NS.length=n:=by have:=ho.1;simp[nd64_len,nd9] at this;omega
 have hcs:=fun j u hu=>ho.cells (g:=g) rfl j u hu
 have hc:w.cell? ⟨g,n*9,none⟩=some (.int .i64 7777):=by
  have:=hcs (n*9) (.int .i64 7777) (by
   rw[List.getElem?_append_right (by rw[nd64_len];omega),nd64_len,hlen,Nat.sub_self]
   rfl)
  rw[Addr.add_lit,Nat.zero_add] at this
  exact this
 refine⟨g,cap,rfl,⟨hlen,by omega,h2,?_⟩,h1,by unfold maxLen at h2;exact h2,hc⟩
 ·by_cases h0:n=0
  ·exact .inl h0
  ·refine .inr ⟨g,0,rfl,World.block_lt_of_cell? w _ hc,fun i hi j v hv=>?_⟩
   have hj:j < 9:=by
    have:=(List.getElem?_eq_some_iff.1 hv).1
    simpa [nd9] using this
   have:=hcs (i*9+j) v (by
    rw[List.getElem?_append_left (by rw[nd64_len];omega)]
    exact nd64_get NS i (by omega) j v hv)
   rw[Addr.add_lit,Nat.zero_add] at this
   rw[Nat.zero_add]
   exact this
theorem held_any {W:World}{na ba da:Option Addr}{nl nc bl bc dl dc g1 g2 g3 k1 k2 k3:Nat}{root:Int}{NM:List Txt}{BS:List Int}{NS:List Nd}
  (hX:Tx W (some ⟨g1,0,none⟩) nl k1 NM) (hB:Iz W (some ⟨g2,0,none⟩) bl k2 BS) (hN:Nz W (some ⟨g3,0,none⟩) dl k3 NS) (hX2:Tx W na nl nc NM) (hB2:Iz W ba bl bc BS) (hN2:Nz W da dl dc NS)
  (l1:nl+1<=k1) (l2:bl+1<=k2) (l3:dl+1<=k3) (m1:k1<=9223372036854775807) (m2:k2<=9223372036854775807) (m3:k3<=9223372036854775807)
  (c1:W.cell? ⟨g1,nl,none⟩=some (.string (sB spareT))) (c2:W.cell? ⟨g2,bl,none⟩=some (.int .i64 7777)) (c3:W.cell? ⟨g3,dl*9,none⟩=some (.int .i64 7777)) :
  Calls Tryz.prog 16 #[.agg #[.slice (some ⟨g1,0,none⟩) nl k1,.slice (some ⟨g2,0,none⟩) bl k2,.slice (some ⟨g3,0,none⟩) dl k3,.int .i64 root],.agg #[.slice na nl nc,.slice ba bl bc,.slice da dl dc,.int .i64 root]] W fun e W'=>e=.returned (.bool true)/\Below W.heap.size W W':=by
 obtain⟨U,hU⟩:∃ U,(W.alloc (.cells #[.slice (some ⟨g1,0,none⟩) nl k1,.slice (some ⟨g2,0,none⟩) bl k2,.slice (some ⟨g3,0,none⟩) dl k3,.int .i64 root] 28)).alloc (.cells #[.slice na nl nc,.slice ba bl bc,.slice da dl dc,.int .i64 root] 28)=U:=⟨_,rfl⟩
 have hb:Below W.heap.size W U:=by rw[<-hU];exact bel (bel1 W _) (bel1 _ _)
 have HA:=hide (show HasC U W.heap.size 28 #[.slice (some ⟨g1,0,none⟩) nl k1,.slice (some ⟨g2,0,none⟩) bl k2,.slice (some ⟨g3,0,none⟩) dl k3,.int .i64 root] by rw[<-hU];exact(HasC.new _ _ _).alloc _)
 have HC:=hide (show HasC U (W.heap.size+1) 28 #[.slice na nl nc,.slice ba bl bc,.slice da dl dc,.int .i64 root] by
  rw[<-hU]
  have:=HasC.new (W.alloc (.cells #[.slice (some ⟨g1,0,none⟩) nl k1,.slice (some ⟨g2,0,none⟩) bl k2,.slice (some ⟨g3,0,none⟩) dl k3,.int .i64 root] 28)) 28 #[.slice na nl nc,.slice ba bl bc,.slice da dl dc,.int .i64 root]
  rw[World.size_alloc] at this
  exact this)
 have HSm:=hide (same_self (hX.later hb) (hB.later hb) (hN.later hb) (hX2.later hb) (hB2.later hb) (hN2.later hb) (root:=root))
 have HBb:=hide hb
 have HU:=hide hU
 have HCC:=hide (And.intro (below_cell hb c1) (And.intro (below_cell hb c2) (below_cell hb c3)))
 clear hX hB hN hX2 hB2 hN2 c1 c2 c3 hb hU
 obtain⟨t0,t1,t2,t3⟩:=facts4 HA.out
 obtain⟨s0,s1,s2,s3⟩:=facts4 HC.out
 go_enter Tryz.func16,Tryz.ntmps16
 go_wp2_with fail
 rw[HU.out]
 go_wp2_with fail
 refine HSm.out.mono ?_
 clear HSm t0 t1 t2 t3 s0 s1 s2 s3
 rintro e V ⟨rfl,hb⟩
 obtain⟨t0,t1,t2,t3⟩:=facts4 (HA.out.below hb)
 obtain⟨s0,s1,s2,s3⟩:=facts4 (HC.out.below hb)
 have c1:=below_cell hb HCC.out.1
 have c2:=below_cell hb HCC.out.2.1
 have c3:=below_cell hb HCC.out.2.2
 have HB2:=hide (bel HBb.out hb)
 clear hb HCC HA HC HU HBb
 go_wp2_with fail
 have hw1:IntKind.i64.wrap ((nl:Int)+1)=((nl+1:Nat):Int):=by rw[IntWalk.i64_in _ ⟨by omega,by omega⟩];rfl
 have ha1:(0:Int)<=(nl:Int)+1:=by omega
 have hb1:(nl:Int)+1<=(k1:Int):=by omega
 have hc1:(nl:Int) < (nl:Int)+1:=by omega
 have hd1:((nl:Int)+1).toNat=nl+1:=by omega
 have he1:¬((nl:Int)+1 < 0):=by omega
 have hf1:¬((k1:Int) < (nl:Int)+1):=by omega
 have hw2:IntKind.i64.wrap ((bl:Int)+1)=((bl+1:Nat):Int):=by rw[IntWalk.i64_in _ ⟨by omega,by omega⟩];rfl
 have ha2:(0:Int)<=(bl:Int)+1:=by omega
 have hb2:(bl:Int)+1<=(k2:Int):=by omega
 have hc2:(bl:Int) < (bl:Int)+1:=by omega
 have hd2:((bl:Int)+1).toNat=bl+1:=by omega
 have he2:¬((bl:Int)+1 < 0):=by omega
 have hf2:¬((k2:Int) < (bl:Int)+1):=by omega
 have hw3:IntKind.i64.wrap ((dl:Int)+1)=((dl+1:Nat):Int):=by rw[IntWalk.i64_in _ ⟨by omega,by omega⟩];rfl
 have ha3:(0:Int)<=(dl:Int)+1:=by omega
 have hb3:(dl:Int)+1<=(k3:Int):=by omega
 have hc3:(dl:Int) < (dl:Int)+1:=by omega
 have hd3:((dl:Int)+1).toNat=dl+1:=by omega
 have he3:¬((dl:Int)+1 < 0):=by omega
 have hf3:¬((k3:Int) < (dl:Int)+1):=by omega
 go_quiet (fail)
 go_wp2_with fail
 rw[show (spareT==[115,112,97,114,101])=true by decide]
 exact bodyPost_ret (v:=.bool true) (by simp[results,Tryz.results16,go_sem]) rfl ⟨rfl,bel HB2.out (below_drewN _ _)⟩
end Go.Proofs.YtimdcmponhcngaaGreat
namespace Go.Proofs.YtimdcmponhcngaaGreat.Knd
open Go.RowKit
set_option linter.unusedVariables false
set_option maxRecDepth 100000
set_option maxHeartbeats 16000000
theorem take_succ_iff {z1 z2:List Int}{k:Nat}(h1:k < z1.length)(h2:k < z2.length)(h:z1.take k=z2.take k)(e:z1.getD k 0=z2.getD k 0):z1.take (k+1)=z2.take (k+1):=by
 rw[List.take_succ_eq_append_getElem h1,List.take_succ_eq_append_getElem h2,h]
 simp[List.getD,h1,h2] at e
 rw[e]
theorem sameI_any (a1 a2:Option Addr)(n1 n2 c1 c2:Nat)(z1 z2:List Int)(w:World)(h1:Ints w a1 n1 c1 z1)(h2:Ints w a2 n2 c2 z2) :
  Calls Tryz.prog 15 #[.slice a1 n1 c1,.slice a2 n2 c2] w fun e w'=>e=.returned (.bool (decide (z1=z2)))/\∃ q,w'=w.drewN q:=by
 have hm1:n1<=9223372036854775807:=by have:=h1.le;have:=h1.max;unfold maxLen at this;omega
 have hl1:=h1.len
 have hl2:=h2.len
 have HL1:Hid (z1.length=n1):=hl1
 have HL2:Hid (z2.length=n2):=hl2
 by_cases hne:n1=n2
 ·subst hne
  clear hl1 hl2
  go_enter Tryz.func15,Tryz.ntmps15
  go_wp2_with fail
  go_loopw [5] (fun i wr=>∃ k q:Nat,k<=n1/\i=.int .i64 k/\z1.take k=z2.take k/\wr=w.drewN q) (fun i _=>n1-(intOf i).toNat)
  case atStart=>exact⟨0,0,Nat.zero_le _,rfl,by simp,rfl⟩
  case round =>
   obtain⟨k,q,hk,rfl,htk,rfl⟩:=hrel
   have HT:Hid (z1.take k=z2.take k):=htk
   clear htk
   by_cases hlt:k < n1
   ·obtain⟨b1,o1,rfl,_,hc1⟩:=h1.at (by omega)
    obtain⟨b2,o2,rfl,_,hc2⟩:=h2.at (by omega)
    have g1:=hc1 k hlt
    have g2:=hc2 k hlt
    clear hc1 hc2
    generalize ea:z1.getD k 0=x at g1
    generalize eb:z2.getD k 0=y at g2
    have EA:Hid (z1.getD k 0=x):=ea
    have EB:Hid (z2.getD k 0=y):=eb
    clear ea eb
    go_wp2_with fail
    go_quiet (fail)
    go_wp2_with fail
    ·have hxy:x≠y:=by simpa using (show (x != y)=true by assumption)
     go_ret
     refine⟨?_,_,World.drewN_drewN ..⟩
     have hz:¬z1=z2:=fun e=>hxy (by rw[<-EA.out,<-EB.out,e])
     simp[hz]
    ·have hxy:x=y:=by simpa using (show (x != y)=false by assumption)
     go_roundw
     case rel=>exact⟨k+1,_,by omega,by go_num,take_succ_iff (by rw[HL1.out];exact hlt) (by rw[HL2.out];exact hlt) HT.out (by rw[EA.out,EB.out,hxy]),rfl⟩
     case measure=>simp[intOf];omega
   ·go_wp2_with fail
    go_ret
    refine⟨?_,_,rfl⟩
    have hz:z1=z2:=by
     have h:=HT.out
     rw[List.take_of_length_le (by rw[HL1.out];omega),List.take_of_length_le (by rw[HL2.out];omega)] at h
     exact h
    simp[hz]
 ·have hne':((n1:Int) != (n2:Int))=true:=by simp;omega
  go_enter Tryz.func15,Tryz.ntmps15
  go_wp2_with fail
  go_ret
  refine⟨?_,0,rfl⟩
  have hz:¬z1=z2:=fun e=>hne (by rw[<-HL1.out,<-HL2.out,e])
  simp[hz]
theorem sameI_self (a1 a2:Option Addr)(n1 n2 c1 c2:Nat)(z:List Int)(w:World)(h1:Ints w a1 n1 c1 z)(h2:Ints w a2 n2 c2 z) :
  Calls Tryz.prog 15 #[.slice a1 n1 c1,.slice a2 n2 c2] w fun e w'=>e=.returned (.bool true)/\∃ q,w'=w.drewN q:=by
 have h:=sameI_any a1 a2 n1 n2 c1 c2 z z w h1 h2
 simpa using h
theorem Ints.take {w:World}{a:Option Addr}{n c:Nat}{zs:List Int}(h:Ints w a n c zs){k:Nat}(hk:k<=n):Ints w a k c (zs.take k):=by
 have hl:=h.len
 refine⟨by rw[List.length_take];omega,Nat.le_trans hk h.le,h.max,h.nil,?_⟩
 by_cases h0:k=0
 ·exact .inl h0
 ·obtain⟨b,off,ha,_,hc⟩:=h.at (by omega)
  refine .inr ⟨b,off,ha,fun i hi=>?_⟩
  rw[hc i (by omega)]
  simp[List.getD,hi]
def marks:List Int:=(List.range 40).map (fun i:Nat=>(7000:Int)+(i:Int))
theorem marks_len:marks.length=40:=by decide
theorem marks_at:∀ k,k < 40->marks.getD k 0=7000+(k:Int):=by decide
theorem marks_succ {k:Nat}(h:k < 40):marks.take (k+1)=marks.take k++[7000+(k:Int)]:=by
 rw[List.take_succ_eq_append_getElem (by rw[marks_len];exact h)]
 have:=marks_at k h
 simp[List.getD,marks_len,h] at this
 simp[this]
theorem roomy_any (a:Option Addr)(n c:Nat)(zs:List Int)(w:World)(hb:Ints w a n c zs)(hsum:n<=17592186044000) :
  Calls Tryz.prog 9 #[.slice a n c] w fun e w'=>e=.returned (.slice (some ⟨w.heap.size,0,none⟩) n (n+40)) /\
   w'.ownsRow w.heap.size 3 1 (.slice (some ⟨w.heap.size,0,none⟩) (n+40) (n+40)) (n+40) (i64s (zs++marks))/\Below w.heap.size w w':=by
 obtain⟨i0,hi,hz0,hz1,hz2⟩:=info_parts info3
 have HB:Hid (Ints w a n c zs):=hb
 have HL:Hid (zs.length=n):=hb.len
 have hnone:a=none->n=0/\c=0:=fun h=>by have h1:=hb.nil h;have h2:=hb.le;omega
 have HNO:=hide hnone
 clear hb hnone
 go_enter Tryz.func9,Tryz.ntmps9
 have hnl:(i64s zs).length=n*1:=by simp[HL.out]
 go_wp2_with (first
  | (at_make;refine wpList_make_own _ rfl _ _ 25 rfl w.heap.size 3 i0 (.int .i64 0) 1 Tryz.underlying25 hi hz0 hz1 .i64 .i64 ((n:Int)+40) (n+40) rfl rfl (by omega) (by rw[hz2];omega) (by unfold maxLen;omega) (Nat.le_refl _) ?_;intro w1 hown hgrow;have HB1:Hid (Below w.heap.size w w1):=hide ((Below.refl _ _).grown hgrow (Nat.le_refl _) (fun k h=>by cases h));have HNW:=hide (HB.out.later HB1.out).news;clear hgrow)
  | (at_builtin;refine wpList_append_fits_any _ rfl _ _ 25 rfl w.heap.size 3 i0 1 Tryz.underlying25 hi hz1 w.heap.size 0 (n+40) [] rfl hown a n c (i64s zs) rfl hnl HNO.out HNW.out (ints_oneCell _ _) (by omega) ?_;intro w2 hown2 hgrow2))
 have HB2:Hid (Below w.heap.size w w2):=HB1.out.grown hgrow2 HB1.out.size (fun k h=>by cases h;exact Nat.le_refl _)
 have HO2:Hid (w2.ownsRow w.heap.size 3 1 (.slice (some ⟨w.heap.size,0,none⟩) n (n+40)) n (i64s zs)):=hide (by simpa using hown2)
 clear hown hown2 hgrow2 hnl HNW
 go_loopw [3,4] (fun v i wr=>∃ k:Nat,k<=40/\i=.int .i64 k/\v=.slice (some ⟨w.heap.size,0,none⟩) (n+k) (n+40) /\
   wr.ownsRow w.heap.size 3 1 (.slice (some ⟨w.heap.size,0,none⟩) (n+k) (n+40)) (n+k) (i64s (zs++marks.take k))/\Below w.heap.size w wr)
  (fun _ i _=>40-(intOf i).toNat)
 case atStart=>exact⟨0,by omega,rfl,by simp,by simpa using HO2.out,HB2.out⟩
 case round =>
  clear HO2 HB2
  obtain⟨k,hk,rfl,rfl,hown,hbr⟩:=hrel
  have HO:=hide hown
  have HR:=hide hbr
  have hsz:w.heap.size<=wr.heap.size:=hbr.size
  clear hbr
  by_cases hlt:k < 40
  ·have HMS:=hide (marks_succ hlt)
   have hc1:∀ u ∈ [Value.int IntKind.i64 (7000+(k:Int))],u.oneCell'=true:=by intro u hu;simp at hu;subst hu;rfl
   go_wp2_with (at_builtin;refine wpList_append_fits _ rfl _ _ 25 rfl w.heap.size 3 i0 1 Tryz.underlying25 hi hz1 w.heap.size (n+k) (n+40) (i64s (zs++marks.take k)) rfl (HO.out.alloc _) ⟨wr.heap.size,0,none⟩ 1 1 [.int .i64 (7000+(k:Int))] rfl rfl (cell_one_new _ _ _) hc1 (by omega) ?_;intro w2 hown2 hgrow2)
   have hb2:Below w.heap.size w w2:=(HR.out.alloc hsz _).grown hgrow2 (by simp;omega) (fun k h=>by cases h;exact Nat.le_refl _)
   have e2:i64s (zs++marks.take k)++[Value.int .i64 (7000+(k:Int))]=i64s (zs++marks.take (k+1)):=by rw[HMS.out];simp
   rw[e2,Nat.add_assoc] at hown2
   go_roundw
   case rel=>exact⟨k+1,by omega,by go_num,by rw[Nat.add_assoc],hown2,hb2⟩
   case measure=>simp[intOf];omega
  ·obtain rfl:k=40:=by omega
   have HF:Hid (wr.ownsRow w.heap.size 3 1 (.slice (some ⟨w.heap.size,0,none⟩) (n+40) (n+40)) (n+40) (i64s (zs++marks))):=by
    have h:=HO.out
    rw[List.take_of_length_le (by rw[marks_len];omega)] at h
    exact h
   clear hown HO
   have hc0:¬n+40=0:=by omega
   go_wp2_with fail
   go_ret
   exact⟨rfl,HF.out,HR.out⟩
theorem held_any (g off n cap:Nat)(a:Option Addr)(c:Nat)(zs:List Int)(w:World)(h1:Ints w (some ⟨g,off,none⟩) (n+40) cap (zs++marks))(h2:Ints w a n c zs) :
  Calls Tryz.prog 17 #[.slice (some ⟨g,off,none⟩) n cap,.slice a n c] w fun e w'=>e=.returned (.bool true)/\∃ q,w'=w.drewN q:=by
 have hle:=h1.le
 have hmx:cap<=9223372036854775807:=by have:=h1.max;unfold maxLen at this;omega
 have hl2:=h2.len
 have h1t:Ints w (some ⟨g,off,none⟩) n cap zs:=by
  have h:=h1.take (k:=n) (by omega)
  rw[<-hl2,List.take_left] at h
  rw[<-hl2];exact h
 obtain⟨b',off',e,_,hc⟩:=h1.at (by omega)
 cases e
 have HC:Hid (∀ k,k < 40->w.cell? ⟨g,off+(n+k),none⟩=some (.int .i64 (7000+(k:Int)))):=fun k hk=>by
  rw[hc (n+k) (by omega)]
  have e:(zs++marks).getD (n+k) 0=7000+(k:Int):=by
   rw[<-marks_at k hk]
   simp only[List.getD]
   rw[List.getElem?_append_right (by omega),show n+k-zs.length=k by omega]
  rw[e]
 have H1:=hide h1t
 have H2:=hide h2
 clear h1 h2 h1t hc hl2
 go_enter Tryz.func17,Tryz.ntmps17
 go_wp2_with fail
 refine(sameI_self (some ⟨g,off,none⟩) a n n cap c zs _ H1.out H2.out).mono ?_
 rintro e w1 ⟨rfl,q,rfl⟩
 go_wp2_with fail
 go_loop [6] (fun i=>∃ k:Nat,k<=40/\i=.int .i64 k) (fun i=>40-(intOf i).toNat)
 case atStart=>exact⟨0,by omega,rfl⟩
 case round =>
  obtain⟨k,hk,rfl⟩:=hrel
  by_cases hlt:k < 40
  ·have g0:=HC.out k hlt
   go_wp2_with fail
   go_round
   case rel=>exact⟨k+1,by omega,by go_num⟩
   case measure=>simp[intOf];omega
  ·go_wp2_with fail
   go_ret
   exact⟨rfl,q,rfl⟩
end Go.Proofs.YtimdcmponhcngaaGreat.Knd
