import Derived.Test.YtimdcmponhcngaaGreatX41
import Derived.Test.YtimdcmponhcngaaGreatX16
import Derived.Test.YtimdcmponhcngaaGreatX04
namespace Go.Proofs.YtimdcmponhcngaaGreat
open Go.RowKit Go.IntWalk Lx Pz
set_option linter.unusedVariables false
set_option maxRecDepth 100000
set_option maxHeartbeats 16000000
structure Tq (W V:World)(kd tr wd:Array Value):Prop where
 k:HasC V W.heap.size 23 kd
 t:HasC V (W.heap.size+1) 28 tr
 w:HasC V (W.heap.size+1+1) 30 wd
 lo:Below W.heap.size W V
theorem Tq.below {W V V':World}{kd tr wd:Array Value}(h:Tq W V kd tr wd)(hb:Below V.heap.size V V'):Tq W V' kd tr wd :=
 ⟨h.k.below hb,h.t.below hb,h.w.below hb,bel h.lo hb⟩
theorem Tq.new (W:World)(kd tr wd:Array Value):Tq W (((W.alloc (.cells kd 23)).alloc (.cells tr 28)).alloc (.cells wd 30)) kd tr wd:=by
 refine⟨((HasC.new W 23 kd).alloc _).alloc _,?_,?_,bel (bel (bel1 W _) (bel1 _ _)) (bel1 _ _)⟩
 ·have:=(HasC.new (W.alloc (.cells kd 23)) 28 tr).alloc (.cells wd 30)
  simp only[World.size_alloc] at this
  exact this
 ·have:=HasC.new ((W.alloc (.cells kd 23)).alloc (.cells tr 28)) 30 wd
  simp only[World.size_alloc] at this
  exact this
theorem wvalue_any (f d:Int)(v:Wd){W:World}{na ba da pa ha:Option Addr}{nl nc bl bc dl dc pl pc hl hc i:Nat}{root:Int}{BS V:List Int}{NS:List Nd}(hB:Iz W ba bl bc BS)(hN:Nz W da dl dc NS)(hP:Knd.Ints W pa pl pc v.ps)(hH:Iz W ha hl hc V)
  (hi:i < dl) (hw:Wn BS i (NS.getD i n0)) (hle:i<=hl) (hn:(NS.getD i n0).op=3->∃ q,Knd.numZ f d (plOf (NS.getD i n0))=some q/\q < pl) :
  Calls Tryz.prog 37 #[.agg (kdA f d),.agg (tr4 (.slice na nl nc) (.slice ba bl bc) (.slice da dl dc) (.int .i64 root)),.agg (wdA v pa pl pc),.slice ha hl hc,.int .i64 i] W fun e W'=>e=.returned (.int .i64 (vaN f d v BS V (NS.getD i n0)))/\Below W.heap.size W W':=by
 have HLB:=hide hB.len
 have hhl:hl<=9223372036854775807:=by have:=hH.le;have:=hH.max;unfold maxLen at *;omega
 have hdl:dl<=9223372036854775807:=by have:=hN.le;have:=hN.max;unfold maxLen at *;omega
 obtain⟨g,off,rfl,hgW,hat⟩:∃ g off,da=some ⟨g,off,none⟩/\g < W.heap.size/\at9 W g (off+i*9) (NS.getD i n0):=by
  obtain⟨g,off,rfl,hat⟩:=hN.at (by omega)
  exact⟨g,off,rfl,World.block_lt_of_cell? W _ (hat i hi).1,hat i hi⟩
 obtain⟨e0,e1,e2,e3,e4,e5,e6,e7,e8⟩:=hat
 clear hN
 have i0:(0:Int)<=i:=by omega
 have i1:(i:Int) < dl:=by omega
 have g1:g < W.heap.size+1:=by omega
 have g2:g < W.heap.size+1+1:=by omega
 generalize NS.getD i n0=n at *
 have HQ:=hide (Tq.new W (kdA f d) (tr4 (.slice na nl nc) (.slice ba bl bc) (.slice (some ⟨g,off,none⟩) dl dc) (.int .i64 root)) (wdA v pa pl pc))
 have HX:=hide (HQ.out.below (bel1 _ (.cells (ndA n) 69)))
 have HN0:=hide (HasC.new (((W.alloc (.cells (kdA f d) 23)).alloc (.cells (tr4 (.slice na nl nc) (.slice ba bl bc) (.slice (some ⟨g,off,none⟩) dl dc) (.int .i64 root)) 28)).alloc (.cells (wdA v pa pl pc) 30)) 69 (ndA n))
 simp only[World.size_alloc] at HN0
 have HB:=hide hB
 have HP:=hide hP
 have HH:=hide hH
 clear hB hP hH HQ
 obtain⟨R,hR⟩:∃ R,vaN f d v BS V n=R:=⟨_,rfl⟩
 rw[hR]
 by_cases ho1:n.op=1
 ·have q1:(n.op==1)=true:=by simpa using ho1
  have hva:vaN f d v BS V n=n.k:=by unfold vaN;rw[if_neg (by omega),if_pos ho1]
  rw[hva] at hR
  subst hR
  clear ho1 hva
  go_enter Tryz.func37,Tryz.ntmps37
  go_wp2_with fail
  go_ret
  exact⟨rfl,HX.out.lo⟩
 have q1:(n.op==1)=false:=by simpa using ho1
 by_cases ho2:n.op=2
 ·have q2:(n.op==2)=true:=by simpa using ho2
  have hva:vaN f d v BS V n=inpV f d v n.k:=by unfold vaN;rw[if_neg (by omega),if_neg ho1,if_pos ho2]
  rw[hva] at hR
  have HI:=hide fun w=>winput_any f d n.k v pa pl pc (hw.inp ho2).1 (hw.inp ho2).2 w
  rw[hR] at HI
  clear hR hva ho1 ho2
  go_enter Tryz.func37,Tryz.ntmps37
  go_wp2_with fail
  refine(HI.out _).mono ?_
  rintro e V3 ⟨rfl,hb⟩
  go_wp2_with fail
  go_ret
  exact⟨rfl,bel HX.out.lo hb⟩
 have q2:(n.op==2)=false:=by simpa using ho2
 by_cases ho3:n.op=3
 ·have q3:(n.op==3)=true:=by simpa using ho3
  have hva:vaN f d v BS V n=smpV f d v n:=by unfold vaN;rw[if_neg (by omega),if_neg ho1,if_neg ho2,if_pos ho3]
  rw[hva] at hR
  obtain⟨q,hq,hql⟩:=hn ho3
  unfold smpV at hR
  rw[hq,Option.getD_some] at hR
  have HI:=hide fun w=>Knd.rnumber_any f d (plOf n) w
  rw[<-Knd.num_same] at HI
  unfold Knd.numV at HI
  rw[hq] at HI
  simp only[Option.getD_some,Option.isSome_some] at HI
  have j0:(0:Int)<=q:=by omega
  have j1:(q:Int) < pl:=by omega
  clear hva hq ho1 ho2 ho3 hn
  go_enter Tryz.func37,Tryz.ntmps37
  go_wp2_with fail
  refine(HI.out _).mono ?_
  rintro e V3 ⟨rfl,hb⟩
  have HX3:=hide (HX.out.below hb)
  obtain⟨w0,w1,w2,w3⟩:=four_of HX3.out.w
  obtain⟨b,off',rfl,-,hc'⟩:=(HP.out.later HX3.out.lo).at (by omega)
  have c0:=hc' q hql
  rw[hR] at c0
  clear hc' hb HI HX hR
  go_wp2_with fail
  go_ret
  exact⟨rfl,HX3.out.lo⟩
 have q3:(n.op==3)=false:=by simpa using ho3
 by_cases ho4:n.op=4
 ·have q4:(n.op==4)=true:=by simpa using ho4
  have hva:vaN f d v BS V n=V.getD (BS.getD n.k.toNat 0).toNat 0:=by unfold vaN;rw[if_pos ho4]
  rw[hva] at hR
  obtain⟨u0,u1,u2,u3⟩:=hw.use ho4
  obtain⟨kk,hkk⟩:∃ kk:Nat,n.k=(kk:Int):=⟨n.k.toNat,by omega⟩
  rw[hkk] at e4 u1 u2 u3 hR
  simp only[Int.toNat_natCast] at u1 u2 u3 hR
  obtain⟨bb,boff,rfl,hbb,hbc⟩:∃ b off,ba=some ⟨b,off,none⟩/\b < W.heap.size/\W.cell? ⟨b,off+kk,none⟩=some (.int .i64 (BS.getD kk 0)):=by
   rcases HB.out.cell with h0|⟨b,off,ha,hlb,hc⟩
   ·rw[HLB.out] at u1;omega
   ·exact⟨b,off,ha,hlb,hc kk (by rw[<-HLB.out];exact u1)⟩
  obtain⟨q,hq⟩:∃ q:Nat,BS.getD kk 0=(q:Int):=⟨(BS.getD kk 0).toNat,by omega⟩
  rw[hq] at hbc u3 hR
  simp only[Int.toNat_natCast] at u3 hR
  obtain⟨hb',hoff,rfl,hhb,hhc⟩:∃ b off,ha=some ⟨b,off,none⟩/\b < W.heap.size/\W.cell? ⟨b,off+q,none⟩=some (.int .i64 (V.getD q 0)):=by
   rcases HH.out.cell with h0|⟨b,off,ha,hlb,hc⟩
   ·omega
   ·exact⟨b,off,ha,hlb,hc q (by omega)⟩
  rw[hR] at hhc
  have b1:bb < W.heap.size+1:=by omega
  have b2:bb < W.heap.size+1+1:=by omega
  have b3:bb < W.heap.size+1+1+1:=by omega
  have c1:hb' < W.heap.size+1:=by omega
  have c2:hb' < W.heap.size+1+1:=by omega
  have c3:hb' < W.heap.size+1+1+1:=by omega
  have w0:(kk:Int) < bl:=by have:=HLB.out;omega
  have w1:(q:Int) < hl:=by omega
  have w2:(0:Int)<=kk:=by omega
  have w3:(0:Int)<=q:=by omega
  have HL:=hide HX.out.lo
  clear hq u0 u1 u2 u3 hva HX HN0 hR
  go_enter Tryz.func37,Tryz.ntmps37
  go_wp2_with fail
  go_ret
  exact⟨rfl,bel ((Tq.new W (kdA f d) (tr4 (.slice na nl nc) (.slice (some ⟨bb,boff,none⟩) bl bc) (.slice (some ⟨g,off,none⟩) dl dc) (.int .i64 root)) (wdA v pa pl pc)).lo) (bel1 _ _)⟩
 have q4:(n.op==4)=false:=by simpa using ho4
 have hva:vaN f d v BS V n=opV V n:=by unfold vaN;rw[if_neg ho4,if_neg ho1,if_neg ho2,if_neg ho3]
 rw[hva] at hR
 unfold opV at hR
 obtain⟨k,hk⟩:∃ k:Nat,prZ n.op=k:=⟨(prZ n.op).toNat,by have:=hw.pr;omega⟩
 have h3:k<=3:=by
  have:prZ n.op<=3:=by unfold prZ arZ;repeat' split <;> omega
  omega
 have har:arZ n.op=k:=by rw[hw.ar ho4,hk]
 have HPt:=hide fun j hj=>prts_at (n:=n) (j:=j) hk h3 hj
 have HPl:=hide (prts_len hk h3)
 have HPr:=hide hw.prt
 have HSg:=hide fun j hj=>op_args (V:=V) (n:=n) (k:=j) hj
 obtain⟨L,hL⟩:∃ L,((prts n).map fun p=>V.getD p.toNat 0)=L:=⟨_,rfl⟩
 have HLl:Hid (L.length=k):=hide (by rw[<-hL,List.length_map,HPl.out])
 rw[hL] at HSg hR
 have HA:=hide fun W=>varity_any n.op W
 rw[har] at HA
 have HRv:=hide hR
 have hk0:(0:Int)<=k:=by omega
 have hk1:(k:Int)<=3:=by omega
 have HG0:Hid (HasC (((((W.alloc (.cells (kdA f d) 23)).alloc (.cells (tr4 (.slice na nl nc) (.slice ba bl bc) (.slice (some ⟨g,off,none⟩) dl dc) (.int .i64 root)) 28)).alloc (.cells (wdA v pa pl pc) 30)).alloc (.cells (ndA n) 69)).alloc (.cells (ab3 n) 3)) (W.heap.size+1+1+1+1) 3 (ab3 n)):=by
  have:=HasC.new ((((W.alloc (.cells (kdA f d) 23)).alloc (.cells (tr4 (.slice na nl nc) (.slice ba bl bc) (.slice (some ⟨g,off,none⟩) dl dc) (.int .i64 root)) 28)).alloc (.cells (wdA v pa pl pc) 30)).alloc (.cells (ndA n) 69)) 3 (ab3 n)
  simp only[World.size_alloc] at this
  exact hide this
 have HN1:=hide (HN0.out.alloc (.cells (ab3 n) 3))
 have HL1:=hide (bel HX.out.lo (bel1 _ (.cells (ab3 n) 3)))
 clear hva hR hL hk har ho1 ho2 ho3 ho4 hn hw HX HN0
 go_enter Tryz.func37,Tryz.ntmps37
 go_wp2_with fail
 obtain⟨V1,hV1⟩:∃ V1,((((W.alloc (.cells (kdA f d) 23)).alloc (.cells (tr4 (.slice na nl nc) (.slice ba bl bc) (.slice (some ⟨g,off,none⟩) dl dc) (.int .i64 root)) 28)).alloc (.cells (wdA v pa pl pc) 30)).alloc (.cells (ndA n) 69)).alloc (.cells (ab3 n) 3)=V1:=⟨_,rfl⟩
 rw[hV1] at HG0 HN1 HL1 ⊢
 clear hV1 e0 e1 e2 e3 e4 e5 e6 e7 e8 g1 g2 hgW
 go_loopw [15,16] (fun u i wr=>∃ j:Nat,j<=k/\i=.int .i64 j/\Hid (Ls V1 wr u (L.take j))) (fun _ i _=>k-(intOf i).toNat)
 case atStart=>exact⟨0,Nat.zero_le _,rfl,hide (Ls.start V1)⟩
 case round =>
  obtain⟨j,hj,rfl,HE⟩:=hrel
  rename World=>V2
  have x0:=(HN1.out.below HE.out.bel).cell 0 rfl
  by_cases hlt:j < k
  ·have cp:=(HG0.out.below HE.out.bel).cell j (HPt.out j hlt).1
   obtain⟨p0,p1⟩:=HPr.out _ (HPt.out j hlt).2
   have HT:=hide (HSg.out j (by rw[HPl.out];exact hlt))
   obtain⟨q,hq⟩:∃ q:Nat,(prts n).getD j 0=(q:Int):=⟨((prts n).getD j 0).toNat,by omega⟩
   rw[hq] at cp p1 HT
   simp only[Int.toNat_natCast] at p1 HT
   obtain⟨b,off',rfl,hcq⟩:∃ b off,ha=some ⟨b,off,none⟩/\V2.cell? ⟨b,off+q,none⟩=some (.int .i64 (V.getD q 0)):=by
    rcases((HH.out.later HL1.out).later HE.out.bel).cell with h0|⟨b,off,ha,hlb,hc⟩
    ·omega
    ·exact⟨b,off,ha,hc q (by omega)⟩
   generalize V.getD q 0=sv at *
   have j0:(0:Int)<=j:=by omega
   have j1:(j:Int) < k:=by omega
   have j2:(j:Int) < 3:=by omega
   have a0:(0:Int)<=q:=by omega
   have a1:(q:Int) < hl:=by omega
   have HJ:Hid ((L.take j).length=j):=hide (by rw[List.length_take,HLl.out];omega)
   clear p0 p1 hq
   go_wp2_with (first|(go_at_call 62;refine(HA.out _).mono ?_;rintro e w2 ⟨rfl,rfl⟩)|(at_builtin;refine list_ls (w:=V1) (L:=L.take j) rfl _ _ rfl rfl (HE.out.alloc _) _ sv rfl (HasC.new _ _ _) (by rw[HJ.out];omega) ?_;intro g2 cap2 w2 HE2;rw[HJ.out] at HE2 ⊢))
   go_roundw
   case rel=>exact⟨j+1,by omega,by go_num,hide (by rw[HT.out];exact HE2)⟩
   case measure=>simp[intOf];omega
  ·obtain rfl:j=k:=by omega
   have e:L.take j=L:=List.take_of_length_le (by rw[HLl.out];exact Nat.le_refl _)
   have HE1:=HE.out
   rw[e] at HE1
   obtain⟨va,vc,rfl,hA,-⟩:=Spn.Ints.of_owns HE1.a
   have hLl:=HLl.out
   rw[hLl] at hA ⊢
   have HOf:=hide (Spn.rvalue_any n.op 0 0 _ _ _ _ _ hA)
   have HB2:=hide (bel HL1.out HE1.bel)
   obtain⟨⟨vv,er⟩,hZ⟩:∃ Z,Spn.valZ n.op 0 0 L=Z:=⟨_,rfl⟩
   rw[hZ] at HOf
   have hRv:=HRv.out
   rw[hZ] at hRv
   simp only at hRv
   subst hRv
   clear hZ hA e HE HE1 hLl HRv
   go_wp2_with (first|(go_at_call 62;refine(HA.out _).mono ?_;rintro e w2 ⟨rfl,rfl⟩)|(go_at_call 69;refine HOf.out.mono ?_;rintro e w2 ⟨rfl,rfl⟩))
   go_ret
   exact⟨rfl,HB2.out⟩
theorem jcost_any (o:Int)(W:World):Calls Tryz.prog 64 #[.int .i64 o] W fun e W'=>e=.returned (.int .i64 (coZ o))/\W'=W:=by
 by_cases h1:o=4
 ·subst h1
  go_enter Tryz.func64,Tryz.ntmps64
  go_wp2
  go_ret
  exact⟨rfl,rfl⟩
 by_cases h2:o=11
 ·subst h2
  go_enter Tryz.func64,Tryz.ntmps64
  go_wp2
  go_ret
  exact⟨rfl,rfl⟩
 by_cases h3:o=12
 ·subst h3
  go_enter Tryz.func64,Tryz.ntmps64
  go_wp2
  go_ret
  exact⟨rfl,rfl⟩
 have e:coZ o=1:=by unfold coZ;rw[if_neg h1,if_neg h2,if_neg h3]
 rw[e]
 have e1:(o==4)=false:=by simpa using h1
 have e2:(o==11)=false:=by simpa using h2
 have e3:(o==12)=false:=by simpa using h3
 clear h1 h2 h3 e
 go_enter Tryz.func64,Tryz.ntmps64
 go_wp2
 go_ret
 exact⟨rfl,rfl⟩
def lfZ (f d op k:Int):(Int × Int) × Bool :=
 if op=1 then((k,k),true) else if op=2 then((Knd.inZ f d k).getD (0,0),(Knd.inZ f d k).isSome) else if op=3 then((Knd.lowZ f d,Knd.highZ f d),true) else((0,0),false)
abbrev lfV (Z:(Int × Int) × Bool):Value:=.tuple #[.agg #[.int .i64 Z.1.1,.int .i64 Z.1.2],.bool Z.2]
theorem jleaf_any (f d op k:Int)(W:World):Calls Tryz.prog 61 #[.agg (kdA f d),.int .i64 op,.int .i64 k] W fun e W'=>e=.returned (lfV (lfZ f d op k))/\Below W.heap.size W W':=by
 have hb1:=bel1 W (.cells (kdA f d) 23)
 have HB0:=hide (bel hb1 (bel1 (W.alloc (.cells (kdA f d) 23)) (.cells #[.int .i64 0,.int .i64 0] 58)))
 have HK0:=hide ((HasC.new W 23 (kdA f d)).alloc (.cells #[.int .i64 0,.int .i64 0] 58))
 have HR0:Hid (HasC ((W.alloc (.cells (kdA f d) 23)).alloc (.cells #[.int .i64 0,.int .i64 0] 58)) (W.heap.size+1) 58 #[.int .i64 0,.int .i64 0]):=by
  have:=HasC.new (W.alloc (.cells (kdA f d) 23)) 58 #[.int .i64 0,.int .i64 0]
  simp only[World.size_alloc] at this
  exact hide this
 have HBk:=hide hb1
 clear hb1
 by_cases h1:op=1
 ·subst h1
  rw[show lfZ f d 1 k=((k,k),true) from rfl]
  go_enter Tryz.func61,Tryz.ntmps61
  go_wp2
  exact bodyPost_ret (v:=.tuple #[.agg #[.int .i64 k,.int .i64 k],.bool true]) (by simp[results,Tryz.results61,go_sem]) rfl ⟨rfl,bel HBk.out (bel1 _ _)⟩
 by_cases h2:op=2
 ·subst h2
  rw[show lfZ f d 2 k=((Knd.inZ f d k).getD (0,0),(Knd.inZ f d k).isSome) from rfl]
  have HI:=hide fun w=>Knd.rinput_any f d k w
  unfold Knd.inV at HI
  obtain⟨⟨lo,hi⟩,hp⟩:∃ p,(Knd.inZ f d k).getD (0,0)=p:=⟨_,rfl⟩
  rw[hp] at HI ⊢
  generalize (Knd.inZ f d k).isSome=q at HI ⊢
  clear hp h1
  go_enter Tryz.func61,Tryz.ntmps61
  go_wp2_with fail
  refine(HI.out _).mono ?_
  rintro e V1 ⟨rfl,hb⟩
  have HB1:=hide (bel HB0.out hb)
  obtain⟨r0,r1,hB⟩:=put_two (HR0.out.below hb) HB1.out (by omega) lo hi
  obtain⟨c0,c1,c2,c3⟩:=two_of (HR0.out.below hb)
  have HR1:=hide r0
  have HR2:=hide r1
  clear hb r0 r1
  go_wp2_with fail
  have r0:=HR1.out
  have r1:=HR2.out
  exact bodyPost_ret (v:=.tuple #[.agg #[.int .i64 lo,.int .i64 hi],.bool q]) (by simp only[results,Tryz.results61];simp[go_sem,r0,r1]) rfl ⟨rfl,hB⟩
 by_cases h3:op=3
 ·subst h3
  rw[show lfZ f d 3 k=((Knd.lowZ f d,Knd.highZ f d),true) from rfl]
  have HLo:=hide fun w=>Knd.rlow_any f d w
  have HHi:=hide fun w=>Knd.rhigh_any f d w
  generalize Knd.lowZ f d=lo at *
  generalize Knd.highZ f d=hi at *
  have x0:=HK0.out.cell 0 rfl
  have y0:=HK0.out.cell 1 rfl
  clear h1 h2
  go_enter Tryz.func61,Tryz.ntmps61
  go_wp2_with fail
  obtain⟨W0,hW0⟩:∃ W0,((W.alloc (.cells (kdA f d) 23)).alloc (.cells #[.int .i64 0,.int .i64 0] 58))=W0:=⟨_,rfl⟩
  rw[hW0] at HR0 HK0 HB0 x0 y0 ⊢
  clear hW0
  have HRd:Hid (HasC W0.drew (W.heap.size+1) 58 #[.int .i64 0,.int .i64 0]):=HR0.out
  have HKd:Hid (HasC W0.drew W.heap.size 23 (kdA f d)):=HK0.out
  have HBd:=hide HB0.out.drew
  go_region_held3 (fun w'=>w'.cell? ⟨W.heap.size,0,none⟩=some (.int .i64 f)/\w'.cell? ⟨W.heap.size,1,none⟩=some (.int .i64 d))
   (first|exact⟨x0,y0⟩|exact⟨x3,y3⟩|exact⟨x4,y4⟩|exact⟨(oth2 HK4.out (by omega) _ _).cell 0 rfl,(oth2 HK4.out (by omega) _ _).cell 1 rfl⟩|go_keep)
   ((first
    | (go_at_call 65;refine(HLo.out _).mono ?_;rintro e w3 ⟨rfl,hb3⟩;have HR3:=hide (HRd.out.below hb3);have HK3:=hide (HKd.out.below hb3);have HB3:=hide (bel HBd.out hb3);clear hb3;obtain⟨x3,y3,-,-⟩:=two_of HK3.out)
    | (go_at_call 66;refine(HHi.out _).mono ?_;rintro e w4 ⟨rfl,hb4⟩;have HR4:=hide (HR3.out.below hb4);have HK4:=hide (HK3.out.below hb4);have HB4:=hide (bel HB3.out hb4);clear hb4;obtain⟨x4,y4,-,-⟩:=two_of HK4.out;obtain⟨g0,g1,g2,g3⟩:=two_of HR4.out)))
  all_goals
   obtain⟨r0,r1,hB⟩:=put_two HR4.out HB4.out (by omega) lo hi
   go_wp2
   exact bodyPost_ret (v:=.tuple #[.agg #[.int .i64 lo,.int .i64 hi],.bool true]) (by simp[results,Tryz.results61,go_sem,r0,r1]) rfl ⟨rfl,hB⟩
 have e1:(op==1)=false:=by simpa using h1
 have e2:(op==2)=false:=by simpa using h2
 have e3:(op==3)=false:=by simpa using h3
 rw[show lfZ f d op k=((0,0),false) by unfold lfZ;rw[if_neg h1,if_neg h2,if_neg h3]]
 clear h1 h2 h3
 go_enter Tryz.func61,Tryz.ntmps61
 go_wp2
 exact bodyPost_ret (v:=.tuple #[.agg #[.int .i64 0,.int .i64 0],.bool false]) (by simp[results,Tryz.results61,go_sem]) rfl ⟨rfl,bel HBk.out (bel1 _ _)⟩
end Go.Proofs.YtimdcmponhcngaaGreat
namespace Go.Proofs.YtimdcmponhcngaaGreat
open Lx Pz
set_option linter.unusedVariables false
set_option maxRecDepth 100000
set_option maxHeartbeats 16000000
def Nr (S' S:Sps):Prop:=S'.length=S.length/\∀ i,i < S.length->(S.getD i (0,0)).1<=(S'.getD i (0,0)).1/\(S'.getD i (0,0)).1<=(S'.getD i (0,0)).2/\(S'.getD i (0,0)).2<=(S.getD i (0,0)).2
theorem Nr.snoc {S' S:Sps}{p' p:Int × Int}(h:Nr S' S)(h1:p.1<=p'.1)(h2:p'.1<=p'.2)(h3:p'.2<=p.2):Nr (S'++[p']) (S++[p]):=by
 obtain⟨hl,hs⟩:=h
 refine⟨by simp[hl],fun i hi=>?_⟩
 simp only[List.length_append,List.length_cons,List.length_nil] at hi
 by_cases hlt:i < S.length
 ·have e1:(S++[p]).getD i (0,0)=S.getD i (0,0):=by rw[List.getD_eq_getElem?_getD,List.getElem?_append_left hlt,<-List.getD_eq_getElem?_getD]
  have e2:(S'++[p']).getD i (0,0)=S'.getD i (0,0):=by rw[List.getD_eq_getElem?_getD,List.getElem?_append_left (by omega),<-List.getD_eq_getElem?_getD]
  rw[e1,e2]
  exact hs i hlt
 ·obtain rfl:i=S.length:=by omega
  have e1:(S++[p]).getD S.length (0,0)=p:=by rw[List.getD_eq_getElem?_getD,List.getElem?_append_right (Nat.le_refl _)];simp
  have e2:(S'++[p']).getD S.length (0,0)=p':=by rw[List.getD_eq_getElem?_getD,List.getElem?_append_right (by omega)];simp[hl]
  rw[e1,e2]
  exact⟨h1,h2,h3⟩
theorem Nr.sub {S' S:Sps}(h:Nr S' S):∀(P:List Int),(∀ p ∈ P,p.toNat < S.length)->Spn.Sub (P.map fun p=>S'.getD p.toNat (0,0)) (P.map fun p=>S.getD p.toNat (0,0))
 | [],_=>trivial
 | p::P,hp=>⟨h.2 p.toNat (hp p (by simp)),h.sub P fun q hq=>hp q (by simp[hq])⟩
theorem of_le {op k s x y:Int}{L:List (Int × Int)}(h:Spn.ofZ op k s L=((x,y),0)):x<=y:=by
 unfold Spn.ofZ at h
 split at h
 ·unfold Spn.finZ at h
  split at h
  ·rename_i h1
   exact absurd (congrArg Prod.snd h) h1
  ·split at h
   ·rename_i h2
    have e:=congrArg Prod.fst h
    rw[show (Spn.reckZ op k s L).1=(x,y) from e] at h2
    have:=Spn.whB_iff.1 h2
    omega
   ·cases h
 ·cases h
theorem pw_mono {a b:Int}(h:a<=b):Knd.pw a<=Knd.pw b:=by
 unfold Knd.pw
 exact_mod_cast Nat.pow_le_pow_right (by decide) (by omega:a.toNat<=b.toNat)
theorem spN_narrow {f d d':Int}{BS:List Int}{S S':Sps}{n:Nd}{p:Int × Int}(hm:Knd.May f d)(hm':Knd.May f d')(hd:d'<=d)(hN:Nr S' S)(hn:Wn BS S.length n)(h3:n.op=2->n.k < 3)(h:spN f d BS S n=(p,0)) :
  ∃ p',spN f d' BS S' n=(p',0)/\p.1<=p'.1/\p'.1<=p'.2/\p'.2<=p.2:=by
 unfold spN at h ⊢
 by_cases h4:n.op=4
 ·rw[if_pos h4] at h ⊢
  have e:=congrArg Prod.fst h
  simp only at e
  refine⟨_,rfl,?_⟩
  rw[<-e]
  exact hN.2 _ (hn.use h4).2.2.2
 rw[if_neg h4] at h ⊢
 by_cases h1:n.op=1
 ·rw[if_pos h1] at h ⊢
  have e:=congrArg Prod.fst h
  simp only at e
  refine⟨_,rfl,?_⟩
  rw[<-e]
  exact⟨Int.le_refl _,Int.le_refl _,Int.le_refl _⟩
 rw[if_neg h1] at h ⊢
 by_cases h2:n.op=2
 ·rw[if_pos h2] at h ⊢
  have e:=congrArg Prod.fst h
  simp only at e
  have hk:=hn.inp h2
  have hk3:=h3 h2
  have hz:∀ x:Int,Knd.May f x->(Knd.inZ f x n.k).getD (0,0)=if n.k=0 then(0,Knd.colZ f-1) else if n.k=1 then(0,Knd.rowZ f-1) else(0,3):=by
   intro x hx
   unfold Knd.inZ
   rw[if_neg (by simpa using hx)]
   by_cases a0:n.k=0
   ·rw[if_pos a0,if_pos a0];rfl
   rw[if_neg a0,if_neg a0]
   by_cases a1:n.k=1
   ·rw[if_pos a1,if_pos a1];rfl
   rw[if_neg a1,if_neg a1,if_pos (by omega)];rfl
  rw[hz d hm] at e
  refine⟨_,rfl,?_⟩
  rw[hz d' hm',<-e]
  have c1:0 < Knd.colZ f:=by unfold Knd.colZ;split <;> omega
  have c2:0 < Knd.rowZ f:=by unfold Knd.rowZ;split <;> omega
  refine⟨Int.le_refl _,?_,Int.le_refl _⟩
  split
  ·show (0:Int)<=Knd.colZ f-1;omega
  ·split
   ·show (0:Int)<=Knd.rowZ f-1;omega
   ·decide
 rw[if_neg h2] at h ⊢
 by_cases h5:n.op=3
 ·rw[if_pos h5] at h ⊢
  have e:=congrArg Prod.fst h
  simp only at e
  refine⟨_,rfl,?_⟩
  rw[<-e]
  show Knd.lowZ f d<=Knd.lowZ f d'/\Knd.lowZ f d'<=Knd.highZ f d'/\Knd.highZ f d'<=Knd.highZ f d
  have hp:=pw_mono (show d' - 1<=d-1 by omega)
  have hp2:=(Knd.pw_le (d' - 1) (by have:=hm'.2.2;omega)).1
  rcases hm.1 with rfl|rfl
  ·rw[(Knd.zs0 hm).1,(Knd.zs0 hm).2.1,(Knd.zs0 hm').1,(Knd.zs0 hm').2.1]
   omega
  ·rw[(Knd.zs1 hm).1,(Knd.zs1 hm).2.1,(Knd.zs1 hm').1,(Knd.zs1 hm').2.1]
   omega
 rw[if_neg h5] at h ⊢
 obtain⟨x,y⟩:=p
 obtain⟨lo',hi',e,e1,e2⟩:=Spn.grows_all h (hN.sub (prts n) fun q hq=>(hn.prt q hq).2)
 exact⟨(lo',hi'),e,e1,of_le e,e2⟩
theorem spR_narrow {f d d':Int}{BS:List Int}(hm:Knd.May f d)(hm':Knd.May f d')(hd:d'<=d):∀(NS:List Nd) (S S' T:Sps),Nr S' S->Wl BS S.length NS->(∀ n ∈ NS,n.op=2->n.k < 3)->spR f d BS NS S=(T,0)->∃ T',spR f d' BS NS S'=(T',0)/\Nr T' T
 | [],S,S',T,hN,_,_,h=>by cases h;exact⟨S',rfl,hN⟩
 | n::NS,S,S',T,hN,hw,h3,h=>by
  unfold spR at h ⊢
  obtain⟨⟨p,e⟩,hp⟩:∃ Z,spN f d BS S n=Z:=⟨_,rfl⟩
  rw[hp] at h
  by_cases he:e=0
  ·subst he
   rw[if_pos rfl] at h
   obtain⟨p',hp',a1,a2,a3⟩:=spN_narrow hm hm' hd hN hw.1 (h3 n (by simp)) hp
   rw[hp',if_pos rfl]
   exact spR_narrow hm hm' hd NS _ _ T (hN.snoc a1 a2 a3) (by simpa using hw.2) (fun m hm=>h3 m (by simp[hm])) h
  ·rw[if_neg he] at h
   exact absurd (congrArg Prod.snd h) he
theorem plcs_same {f d d':Int}(hm:Knd.May f d)(hm':Knd.May f d'):Knd.plcs f d=Knd.plcs f d':=by
 unfold Knd.plcs Knd.blks;rw[if_pos hm,if_pos hm']
theorem ah_same {f d d':Int}(hm:Knd.May f d)(hm':Knd.May f d'):ahB f d=ahB f d':=by
 funext n
 unfold ahB Knd.numZ
 rw[plcs_same hm hm']
theorem ck_zero {f d:Int}{NM:List Txt}{BS:List Int}{NS:List Nd}{root:Int}:ckE f d NM BS NS root=0↔Knd.May f d/\chkP NM BS NS root=true/\NS.any (ahB f d)=false/\(spR f d BS NS []).2=0/\coR NS<=200/\mxR (dpR BS NS [])<=24:=by
 unfold ckE
 by_cases h1:Knd.May f d
 ·rw[if_neg (by simpa using h1)]
  cases h2:chkP NM BS NS root
  ·simp
  ·rw[if_neg (by simp)]
   cases h3:NS.any (ahB f d)
   ·rw[if_neg (by simp)]
    by_cases h4:(spR f d BS NS []).2=0
    ·rw[if_neg (by simpa using h4)]
     by_cases h5:200 < coR NS\/24 < mxR (dpR BS NS [])
     ·rw[if_pos h5]
      constructor
      ·intro h;cases h
      ·rintro⟨-,-,-,-,a,b⟩;omega
     ·rw[if_neg h5]
      exact⟨fun _=>⟨h1,rfl,rfl,h4,by omega,by omega⟩,fun _=>rfl⟩
    ·rw[if_pos h4]
     exact⟨fun h=>absurd h h4,fun h=>absurd h.2.2.2.1 h4⟩
   ·rw[if_pos rfl]
    constructor
    ·intro h;cases h
    ·rintro⟨-,-,h,-⟩;cases h
 ·rw[if_pos h1]
  constructor
  ·intro h;cases h
  ·intro h;exact absurd h.1 h1
theorem ck_narrow {f d d':Int}{NM:List Txt}{BS:List Int}{NS:List Nd}{root:Int}(hm':Knd.May f d')(hd:d'<=d)(hw:Wl BS 0 NS)(h3:∀ n ∈ NS,n.op=2->n.k < 3)(h:ckE f d NM BS NS root=0) :
  ckE f d' NM BS NS root=0/\Nr (spR f d' BS NS []).1 (spR f d BS NS []).1:=by
 obtain⟨a1,a2,a3,a4,a5,a6⟩:=ck_zero.1 h
 obtain⟨T',e1,e2⟩:=spR_narrow a1 hm' hd NS [] [] (spR f d BS NS []).1 ⟨rfl,fun i hi=>by simp at hi⟩ hw h3 (Prod.ext rfl a4)
 rw[e1]
 exact⟨ck_zero.2 ⟨hm',a2,by rw[<-ah_same a1 hm'];exact a3,by rw[e1],a5,a6⟩,e2⟩
end Go.Proofs.YtimdcmponhcngaaGreat
