import Derived.Test.YtimdcmponhcngaaGreatX29
import Derived.Test.YtimdcmponhcngaaGreatX33
namespace Go.Proofs.YtimdcmponhcngaaGreat
open Go.RowKit Go.IntWalk Lx Pz
set_option linter.unusedVariables false
set_option maxRecDepth 100000
set_option maxHeartbeats 16000000
structure Tq (W V:World)(kd tr wd:Array Value):Prop where
 k:HasC V W.heap.size 23 kd
 t:HasC V (W.heap.size+1) 28 tr
 w:HasC V (W.heap.size+1+1) 30 wd
 lo:Below W.heap.size W V
theorem Tq.below {W V V':World}{kd tr wd:Array Value}(h:Tq W V kd tr wd)(hb:Below V.heap.size V V'):Tq W V' kd tr wd :=
 ⟨h.k.below hb,h.t.below hb,h.w.below hb,bel h.lo hb⟩
theorem Tq.new (W:World)(kd tr wd:Array Value):Tq W (((W.alloc (.cells kd 23)).alloc (.cells tr 28)).alloc (.cells wd 30)) kd tr wd:=by
 refine⟨((HasC.new W 23 kd).alloc _).alloc _,?_,?_,bel (bel (bel1 W _) (bel1 _ _)) (bel1 _ _)⟩
 ·have:=(HasC.new (W.alloc (.cells kd 23)) 28 tr).alloc (.cells wd 30)
  simp only[World.size_alloc] at this
  exact this
 ·have:=HasC.new ((W.alloc (.cells kd 23)).alloc (.cells tr 28)) 30 wd
  simp only[World.size_alloc] at this
  exact this
theorem wvalue_any (f d:Int)(v:Wd){W:World}{na ba da pa ha:Option Addr}{nl nc bl bc dl dc pl pc hl hc i:Nat}{root:Int}{BS V:List Int}{NS:List Nd}(hB:Iz W ba bl bc BS)(hN:Nz W da dl dc NS)(hP:Knd.Ints W pa pl pc v.ps)(hH:Iz W ha hl hc V)
  (hi:i < dl) (hw:Wn BS i (NS.getD i n0)) (hle:i<=hl) (hn:(NS.getD i n0).op=3->∃ q,Knd.numZ f d (plOf (NS.getD i n0))=some q/\q < pl) :
  Calls Tryz.prog 37 #[.agg (kdA f d),.agg (tr4 (.slice na nl nc) (.slice ba bl bc) (.slice da dl dc) (.int .i64 root)),.agg (wdA v pa pl pc),.slice ha hl hc,.int .i64 i] W fun e W'=>e=.returned (.int .i64 (vaN f d v BS V (NS.getD i n0)))/\Below W.heap.size W W':=by
 have HLB:=hide hB.len
 have hhl:hl<=9223372036854775807:=by have:=hH.le;have:=hH.max;unfold maxLen at *;omega
 have hdl:dl<=9223372036854775807:=by have:=hN.le;have:=hN.max;unfold maxLen at *;omega
 obtain⟨g,off,rfl,hgW,hat⟩:∃ g off,da=some ⟨g,off,none⟩/\g < W.heap.size/\at9 W g (off+i*9) (NS.getD i n0):=by
  obtain⟨g,off,rfl,hat⟩:=hN.at (by omega)
  exact⟨g,off,rfl,World.block_lt_of_cell? W _ (hat i hi).1,hat i hi⟩
 obtain⟨e0,e1,e2,e3,e4,e5,e6,e7,e8⟩:=hat
 clear hN
 have i0:(0:Int)<=i:=by omega
 have i1:(i:Int) < dl:=by omega
 have g1:g < W.heap.size+1:=by omega
 have g2:g < W.heap.size+1+1:=by omega
 generalize NS.getD i n0=n at *
 have HQ:=hide (Tq.new W (kdA f d) (tr4 (.slice na nl nc) (.slice ba bl bc) (.slice (some ⟨g,off,none⟩) dl dc) (.int .i64 root)) (wdA v pa pl pc))
 have HX:=hide (HQ.out.below (bel1 _ (.cells (ndA n) 69)))
 have HN0:=hide (HasC.new (((W.alloc (.cells (kdA f d) 23)).alloc (.cells (tr4 (.slice na nl nc) (.slice ba bl bc) (.slice (some ⟨g,off,none⟩) dl dc) (.int .i64 root)) 28)).alloc (.cells (wdA v pa pl pc) 30)) 69 (ndA n))
 simp only[World.size_alloc] at HN0
 have HB:=hide hB
 have HP:=hide hP
 have HH:=hide hH
 clear hB hP hH HQ
 obtain⟨R,hR⟩:∃ R,vaN f d v BS V n=R:=⟨_,rfl⟩
 rw[hR]
 by_cases ho1:n.op=1
 ·have q1:(n.op==1)=true:=by simpa using ho1
  have hva:vaN f d v BS V n=n.k:=by unfold vaN;rw[if_neg (by omega),if_pos ho1]
  rw[hva] at hR
  subst hR
  clear ho1 hva
  go_enter Tryz.func37,Tryz.ntmps37
  go_wp2_with fail
  go_ret
  exact⟨rfl,HX.out.lo⟩
 have q1:(n.op==1)=false:=by simpa using ho1
 by_cases ho2:n.op=2
 ·have q2:(n.op==2)=true:=by simpa using ho2
  have hva:vaN f d v BS V n=inpV f d v n.k:=by unfold vaN;rw[if_neg (by omega),if_neg ho1,if_pos ho2]
  rw[hva] at hR
  have HI:=hide fun w=>winput_any f d n.k v pa pl pc (hw.inp ho2).1 (hw.inp ho2).2 w
  rw[hR] at HI
  clear hR hva ho1 ho2
  go_enter Tryz.func37,Tryz.ntmps37
  go_wp2_with fail
  refine(HI.out _).mono ?_
  rintro e V3 ⟨rfl,hb⟩
  go_wp2_with fail
  go_ret
  exact⟨rfl,bel HX.out.lo hb⟩
 have q2:(n.op==2)=false:=by simpa using ho2
 by_cases ho3:n.op=3
 ·have q3:(n.op==3)=true:=by simpa using ho3
  have hva:vaN f d v BS V n=smpV f d v n:=by unfold vaN;rw[if_neg (by omega),if_neg ho1,if_neg ho2,if_pos ho3]
  rw[hva] at hR
  obtain⟨q,hq,hql⟩:=hn ho3
  unfold smpV at hR
  rw[hq,Option.getD_some] at hR
  have HI:=hide fun w=>Knd.rnumber_any f d (plOf n) w
  rw[<-Knd.num_same] at HI
  unfold Knd.numV at HI
  rw[hq] at HI
  simp only[Option.getD_some,Option.isSome_some] at HI
  have j0:(0:Int)<=q:=by omega
  have j1:(q:Int) < pl:=by omega
  clear hva hq ho1 ho2 ho3 hn
  go_enter Tryz.func37,Tryz.ntmps37
  go_wp2_with fail
  refine(HI.out _).mono ?_
  rintro e V3 ⟨rfl,hb⟩
  have HX3:=hide (HX.out.below hb)
  obtain⟨w0,w1,w2,w3⟩:=four_of HX3.out.w
  obtain⟨b,off',rfl,-,hc'⟩:=(HP.out.later HX3.out.lo).at (by omega)
  have c0:=hc' q hql
  rw[hR] at c0
  clear hc' hb HI HX hR
  go_wp2_with fail
  go_ret
  exact⟨rfl,HX3.out.lo⟩
 have q3:(n.op==3)=false:=by simpa using ho3
 by_cases ho4:n.op=4
 ·have q4:(n.op==4)=true:=by simpa using ho4
  have hva:vaN f d v BS V n=V.getD (BS.getD n.k.toNat 0).toNat 0:=by unfold vaN;rw[if_pos ho4]
  rw[hva] at hR
  obtain⟨u0,u1,u2,u3⟩:=hw.use ho4
  obtain⟨kk,hkk⟩:∃ kk:Nat,n.k=(kk:Int):=⟨n.k.toNat,by omega⟩
  rw[hkk] at e4 u1 u2 u3 hR
  simp only[Int.toNat_natCast] at u1 u2 u3 hR
  obtain⟨bb,boff,rfl,hbb,hbc⟩:∃ b off,ba=some ⟨b,off,none⟩/\b < W.heap.size/\W.cell? ⟨b,off+kk,none⟩=some (.int .i64 (BS.getD kk 0)):=by
   rcases HB.out.cell with h0|⟨b,off,ha,hlb,hc⟩
   ·rw[HLB.out] at u1;omega
   ·exact⟨b,off,ha,hlb,hc kk (by rw[<-HLB.out];exact u1)⟩
  obtain⟨q,hq⟩:∃ q:Nat,BS.getD kk 0=(q:Int):=⟨(BS.getD kk 0).toNat,by omega⟩
  rw[hq] at hbc u3 hR
  simp only[Int.toNat_natCast] at u3 hR
  obtain⟨hb',hoff,rfl,hhb,hhc⟩:∃ b off,ha=some ⟨b,off,none⟩/\b < W.heap.size/\W.cell? ⟨b,off+q,none⟩=some (.int .i64 (V.getD q 0)):=by
   rcases HH.out.cell with h0|⟨b,off,ha,hlb,hc⟩
   ·omega
   ·exact⟨b,off,ha,hlb,hc q (by omega)⟩
  rw[hR] at hhc
  have b1:bb < W.heap.size+1:=by omega
  have b2:bb < W.heap.size+1+1:=by omega
  have b3:bb < W.heap.size+1+1+1:=by omega
  have c1:hb' < W.heap.size+1:=by omega
  have c2:hb' < W.heap.size+1+1:=by omega
  have c3:hb' < W.heap.size+1+1+1:=by omega
  have w0:(kk:Int) < bl:=by have:=HLB.out;omega
  have w1:(q:Int) < hl:=by omega
  have w2:(0:Int)<=kk:=by omega
  have w3:(0:Int)<=q:=by omega
  have HL:=hide HX.out.lo
  clear hq u0 u1 u2 u3 hva HX HN0 hR
  go_enter Tryz.func37,Tryz.ntmps37
  go_wp2_with fail
  go_ret
  exact⟨rfl,bel ((Tq.new W (kdA f d) (tr4 (.slice na nl nc) (.slice (some ⟨bb,boff,none⟩) bl bc) (.slice (some ⟨g,off,none⟩) dl dc) (.int .i64 root)) (wdA v pa pl pc)).lo) (bel1 _ _)⟩
 have q4:(n.op==4)=false:=by simpa using ho4
 have hva:vaN f d v BS V n=opV V n:=by unfold vaN;rw[if_neg ho4,if_neg ho1,if_neg ho2,if_neg ho3]
 rw[hva] at hR
 unfold opV at hR
 obtain⟨k,hk⟩:∃ k:Nat,prZ n.op=k:=⟨(prZ n.op).toNat,by have:=hw.pr;omega⟩
 have h3:k<=3:=by
  have:prZ n.op<=3:=by unfold prZ arZ;repeat' split <;> omega
  omega
 have har:arZ n.op=k:=by rw[hw.ar ho4,hk]
 have HPt:=hide fun j hj=>prts_at (n:=n) (j:=j) hk h3 hj
 have HPl:=hide (prts_len hk h3)
 have HPr:=hide hw.prt
 have HSg:=hide fun j hj=>op_args (V:=V) (n:=n) (k:=j) hj
 obtain⟨L,hL⟩:∃ L,((prts n).map fun p=>V.getD p.toNat 0)=L:=⟨_,rfl⟩
 have HLl:Hid (L.length=k):=hide (by rw[<-hL,List.length_map,HPl.out])
 rw[hL] at HSg hR
 have HA:=hide fun W=>varity_any n.op W
 rw[har] at HA
 have HRv:=hide hR
 have hk0:(0:Int)<=k:=by omega
 have hk1:(k:Int)<=3:=by omega
 have HG0:Hid (HasC (((((W.alloc (.cells (kdA f d) 23)).alloc (.cells (tr4 (.slice na nl nc) (.slice ba bl bc) (.slice (some ⟨g,off,none⟩) dl dc) (.int .i64 root)) 28)).alloc (.cells (wdA v pa pl pc) 30)).alloc (.cells (ndA n) 69)).alloc (.cells (ab3 n) 3)) (W.heap.size+1+1+1+1) 3 (ab3 n)):=by
  have:=HasC.new ((((W.alloc (.cells (kdA f d) 23)).alloc (.cells (tr4 (.slice na nl nc) (.slice ba bl bc) (.slice (some ⟨g,off,none⟩) dl dc) (.int .i64 root)) 28)).alloc (.cells (wdA v pa pl pc) 30)).alloc (.cells (ndA n) 69)) 3 (ab3 n)
  simp only[World.size_alloc] at this
  exact hide this
 have HN1:=hide (HN0.out.alloc (.cells (ab3 n) 3))
 have HL1:=hide (bel HX.out.lo (bel1 _ (.cells (ab3 n) 3)))
 clear hva hR hL hk har ho1 ho2 ho3 ho4 hn hw HX HN0
 go_enter Tryz.func37,Tryz.ntmps37
 go_wp2_with fail
 obtain⟨V1,hV1⟩:∃ V1,((((W.alloc (.cells (kdA f d) 23)).alloc (.cells (tr4 (.slice na nl nc) (.slice ba bl bc) (.slice (some ⟨g,off,none⟩) dl dc) (.int .i64 root)) 28)).alloc (.cells (wdA v pa pl pc) 30)).alloc (.cells (ndA n) 69)).alloc (.cells (ab3 n) 3)=V1:=⟨_,rfl⟩
 rw[hV1] at HG0 HN1 HL1 ⊢
 clear hV1 e0 e1 e2 e3 e4 e5 e6 e7 e8 g1 g2 hgW
 go_loopw [15,16] (fun u i wr=>∃ j:Nat,j<=k/\i=.int .i64 j/\Hid (Ls V1 wr u (L.take j))) (fun _ i _=>k-(intOf i).toNat)
 case atStart=>exact⟨0,Nat.zero_le _,rfl,hide (Ls.start V1)⟩
 case round =>
  obtain⟨j,hj,rfl,HE⟩:=hrel
  rename World=>V2
  have x0:=(HN1.out.below HE.out.bel).cell 0 rfl
  by_cases hlt:j < k
  ·have cp:=(HG0.out.below HE.out.bel).cell j (HPt.out j hlt).1
   obtain⟨p0,p1⟩:=HPr.out _ (HPt.out j hlt).2
   have HT:=hide (HSg.out j (by rw[HPl.out];exact hlt))
   obtain⟨q,hq⟩:∃ q:Nat,(prts n).getD j 0=(q:Int):=⟨((prts n).getD j 0).toNat,by omega⟩
   rw[hq] at cp p1 HT
   simp only[Int.toNat_natCast] at p1 HT
   obtain⟨b,off',rfl,hcq⟩:∃ b off,ha=some ⟨b,off,none⟩/\V2.cell? ⟨b,off+q,none⟩=some (.int .i64 (V.getD q 0)):=by
    rcases((HH.out.later HL1.out).later HE.out.bel).cell with h0|⟨b,off,ha,hlb,hc⟩
    ·omega
    ·exact⟨b,off,ha,hc q (by omega)⟩
   generalize V.getD q 0=sv at *
   have j0:(0:Int)<=j:=by omega
   have j1:(j:Int) < k:=by omega
   have j2:(j:Int) < 3:=by omega
   have a0:(0:Int)<=q:=by omega
   have a1:(q:Int) < hl:=by omega
   have HJ:Hid ((L.take j).length=j):=hide (by rw[List.length_take,HLl.out];omega)
   clear p0 p1 hq
   go_wp2_with (first|(go_at_call 62;refine(HA.out _).mono ?_;rintro e w2 ⟨rfl,rfl⟩)|(at_builtin;refine list_ls (w:=V1) (L:=L.take j) rfl _ _ rfl rfl (HE.out.alloc _) _ sv rfl (HasC.new _ _ _) (by rw[HJ.out];omega) ?_;intro g2 cap2 w2 HE2;rw[HJ.out] at HE2 ⊢))
   go_roundw
   case rel=>exact⟨j+1,by omega,by go_num,hide (by rw[HT.out];exact HE2)⟩
   case measure=>simp[intOf];omega
  ·obtain rfl:j=k:=by omega
   have e:L.take j=L:=List.take_of_length_le (by rw[HLl.out];exact Nat.le_refl _)
   have HE1:=HE.out
   rw[e] at HE1
   obtain⟨va,vc,rfl,hA,-⟩:=Spn.Ints.of_owns HE1.a
   have hLl:=HLl.out
   rw[hLl] at hA ⊢
   have HOf:=hide (Spn.rvalue_any n.op 0 0 _ _ _ _ _ hA)
   have HB2:=hide (bel HL1.out HE1.bel)
   obtain⟨⟨vv,er⟩,hZ⟩:∃ Z,Spn.valZ n.op 0 0 L=Z:=⟨_,rfl⟩
   rw[hZ] at HOf
   have hRv:=HRv.out
   rw[hZ] at hRv
   simp only at hRv
   subst hRv
   clear hZ hA e HE HE1 hLl HRv
   go_wp2_with (first|(go_at_call 62;refine(HA.out _).mono ?_;rintro e w2 ⟨rfl,rfl⟩)|(go_at_call 69;refine HOf.out.mono ?_;rintro e w2 ⟨rfl,rfl⟩))
   go_ret
   exact⟨rfl,HB2.out⟩
end Go.Proofs.YtimdcmponhcngaaGreat
namespace Go.Proofs.YtimdcmponhcngaaGreat.Knd
open Go.RowKit
set_option linter.unusedVariables false
set_option maxRecDepth 100000
set_option maxHeartbeats 16000000
def lz (f d:Int):Nat->Int
 | 0=>0 | 1=>0 | 2=>0 | 3=>lowZ f d | 4=>highZ f d | _=>borderZ f d
def mz (f d x y:Int):Nat->Int
 | 0=>x | 1=>y | 2=>3 | 3=>lowZ f d | 4=>highZ f d | _=>borderZ f d
theorem upto5 (k:Nat)(h:k<=5):k=0\/k=1\/k=2\/k=3\/k=4\/k=5:=by omega
theorem lz_at (f d:Int)(k:Nat)(h:k<=5):(#[Value.int .i64 0,.int .i64 0,.int .i64 0,.int .i64 (lowZ f d),.int .i64 (highZ f d),.int .i64 (borderZ f d)])[k]?=some (.int .i64 (lz f d k)):=by
 rcases upto5 k h with rfl|rfl|rfl|rfl|rfl|rfl <;> rfl
theorem mz_at (f d x y:Int)(k:Nat)(h:k<=5):(#[Value.int .i64 x,.int .i64 y,.int .i64 3,.int .i64 (lowZ f d),.int .i64 (highZ f d),.int .i64 (borderZ f d)])[k]?=some (.int .i64 (mz f d x y k)):=by
 rcases upto5 k h with rfl|rfl|rfl|rfl|rfl|rfl <;> rfl
theorem inV_at (f d:Int)(hm:May f d)(k:Nat)(h:k<=5):inV f d (k:Int)=.tuple #[.agg #[.int .i64 (lz f d k),.int .i64 (mz f d (colZ f-1) (rowZ f-1) k)],.bool true]:=by
 rcases upto5 k h with rfl|rfl|rfl|rfl|rfl|rfl <;> simp[inV,inZ,hm,lz,mz]
theorem rinput_ok (f d:Int)(n:Nat)(hm:May f d)(h5:n<=5)(w:World) :
  Calls Tryz.prog 67 #[.agg #[.int .i64 f,.int .i64 d],.int .i64 (n:Int)] w fun e w'=>e=.returned (inV f d (n:Int))/\Below w.heap.size w w':=by
 have hq1:¬((n:Int) < 0):=by omega
 have hq2:¬(5 < (n:Int)):=by omega
 have HB1:=hide ((bel1 w (.cells #[.int .i64 f,.int .i64 d] 23)).alloc (by simp) (.cells #[.int .i64 0,.int .i64 0] 58))
 have hR:HasC ((w.alloc (.cells #[.int .i64 f,.int .i64 d] 23)).alloc (.cells #[.int .i64 0,.int .i64 0] 58)) (w.heap.size+1) 58 #[.int .i64 0,.int .i64 0]:=by
  have:=HasC.new (w.alloc (.cells #[.int .i64 f,.int .i64 d] 23)) 58 #[.int .i64 0,.int .i64 0]
  rwa[World.size_alloc] at this
 have HR1:=hide hR
 have HK1:=hide ((HasC.new w 23 #[.int .i64 f,.int .i64 d]).alloc (.cells #[.int .i64 0,.int .i64 0] 58))
 clear hR
 go_enter Tryz.func67,Tryz.ntmps67
 go_wp2_with (go_at_call 58;refine(rmay_ok _ _ _ hm).mono ?_;rintro e w2 ⟨rfl,hb2⟩;have HR2:=hide (HR1.out.below hb2);have HK2:=hide (HK1.out.below hb2);have HB2:=hide (bel HB1.out hb2);clear hb2;obtain⟨s2,t2,u2,v2⟩:=facts2 HR2.out;obtain⟨x2,y2,-,-⟩:=facts2 HK2.out)
 clear HB1 HR1 HK1
 have HRd:Hid (HasC w2.drew (w.heap.size+1) 58 #[.int .i64 0,.int .i64 0]):=HR2.out
 have HKd:Hid (HasC w2.drew w.heap.size 23 #[.int .i64 f,.int .i64 d]):=HK2.out
 have HBd:=hide HB2.out.drew
 go_region_held3 (fun w'=>w'.cell? ⟨w.heap.size,0,none⟩=some (.int .i64 f)/\w'.cell? ⟨w.heap.size,1,none⟩=some (.int .i64 d))
  (first|exact⟨x3,y3⟩|exact⟨x4,y4⟩|exact⟨x5,y5⟩|exact⟨(HK5.out.alloc _).cell 0 rfl,(HK5.out.alloc _).cell 1 rfl⟩|(simp[go_sem,x2,y2];done))
  (first
   | (go_at_call 65;refine(rlow_any f d _).mono ?_;rintro e w3 ⟨rfl,hb3⟩;have HR3:=hide (HRd.out.below hb3);have HK3:=hide (HKd.out.below hb3);have HB3:=hide (bel HBd.out hb3);clear hb3;obtain⟨x3,y3,-,-⟩:=facts2 HK3.out)
   | (go_at_call 66;refine(rhigh_any f d _).mono ?_;rintro e w4 ⟨rfl,hb4⟩;have HR4:=hide (HR3.out.below hb4);have HK4:=hide (HK3.out.below hb4);have HB4:=hide (bel HB3.out hb4);clear hb4;obtain⟨x4,y4,-,-⟩:=facts2 HK4.out)
   | (go_at_call 95;refine(rborder_any f d _).mono ?_;rintro e w5 ⟨rfl,hb5⟩;have HR5:=hide (HR4.out.below hb5);have HK5:=hide (HK4.out.below hb5);have HB5:=hide (bel HB4.out hb5);clear hb5;obtain⟨x5,y5,-,-⟩:=facts2 HK5.out))
 have HR6:=hide (HR5.out.alloc (.cells #[.int .i64 0,.int .i64 0,.int .i64 0,.int .i64 (lowZ f d),.int .i64 (highZ f d),.int .i64 (borderZ f d)] 3))
 have HK6:=hide (HK5.out.alloc (.cells #[.int .i64 0,.int .i64 0,.int .i64 0,.int .i64 (lowZ f d),.int .i64 (highZ f d),.int .i64 (borderZ f d)] 3))
 have HB6:=hide (HB5.out.alloc HB5.out.size (.cells #[.int .i64 0,.int .i64 0,.int .i64 0,.int .i64 (lowZ f d),.int .i64 (highZ f d),.int .i64 (borderZ f d)] 3))
 have HL6:=hide (HasC.new w5 3 #[.int .i64 0,.int .i64 0,.int .i64 0,.int .i64 (lowZ f d),.int .i64 (highZ f d),.int .i64 (borderZ f d)])
 obtain⟨w6,hw6⟩:∃ w6,w5.alloc (.cells #[.int .i64 0,.int .i64 0,.int .i64 0,.int .i64 (lowZ f d),.int .i64 (highZ f d),.int .i64 (borderZ f d)] 3)=w6:=⟨_,rfl⟩
 obtain⟨g6,hg6⟩:∃ g6,w5.heap.size=g6:=⟨_,rfl⟩
 rw[hw6] at HR6 HK6 HB6 HL6 ⊢
 rw[hg6] at HL6 ⊢
 have HG6:Hid (w.heap.size+1 < g6):=by unfold Hid;rw[<-hg6];exact HR5.out.lt
 clear hw6 hg6 HRd HKd HBd HR2 HK2 HB2 HR3 HK3 HB3 HR4 HK4 HB4 HR5 HK5 HB5 s2 t2 u2 v2 x2 y2 x3 y3 x4 y4 x5 y5
 obtain⟨x6,y6,-,-⟩:=facts2 HK6.out
 go_wp2
 have HLd:Hid (HasC w6.drew g6 3 #[.int .i64 0,.int .i64 0,.int .i64 0,.int .i64 (lowZ f d),.int .i64 (highZ f d),.int .i64 (borderZ f d)]):=HL6.out
 have HRd:Hid (HasC w6.drew (w.heap.size+1) 58 #[.int .i64 0,.int .i64 0]):=HR6.out
 have HKd:Hid (HasC w6.drew w.heap.size 23 #[.int .i64 f,.int .i64 d]):=HK6.out
 have HBd:=hide HB6.out.drew
 go_region_held3 (fun w'=>w'.cell? ⟨w.heap.size,0,none⟩=some (.int .i64 f)/\w'.cell? ⟨w.heap.size,1,none⟩=some (.int .i64 d))
  (first|exact⟨x3,y3⟩|exact⟨x4,y4⟩|exact⟨x5,y5⟩|exact⟨(HK5.out.alloc _).cell 0 rfl,(HK5.out.alloc _).cell 1 rfl⟩|(simp[go_sem,x6,y6];done))
  (first
   | (go_at_call 65;refine(rlow_any f d _).mono ?_;rintro e w3 ⟨rfl,hb3⟩;have HL3:=hide (HLd.out.below hb3);have HR3:=hide (HRd.out.below hb3);have HK3:=hide (HKd.out.below hb3);have HB3:=hide (bel HBd.out hb3);clear hb3;obtain⟨x3,y3,-,-⟩:=facts2 HK3.out)
   | (go_at_call 66;refine(rhigh_any f d _).mono ?_;rintro e w4 ⟨rfl,hb4⟩;have HL4:=hide (HL3.out.below hb4);have HR4:=hide (HR3.out.below hb4);have HK4:=hide (HK3.out.below hb4);have HB4:=hide (bel HB3.out hb4);clear hb4;obtain⟨x4,y4,-,-⟩:=facts2 HK4.out)
   | (go_at_call 95;refine(rborder_any f d _).mono ?_;rintro e w5 ⟨rfl,hb5⟩;have HL5:=hide (HL4.out.below hb5);have HR5:=hide (HR4.out.below hb5);have HK5:=hide (HK4.out.below hb5);have HB5:=hide (bel HB4.out hb5);clear hb5;obtain⟨x5,y5,-,-⟩:=facts2 HK5.out))
 have HL7:=hide (HL5.out.alloc (.cells #[.int .i64 4095,.int .i64 4095,.int .i64 3,.int .i64 (lowZ f d),.int .i64 (highZ f d),.int .i64 (borderZ f d)] 3))
 have HR7:=hide (HR5.out.alloc (.cells #[.int .i64 4095,.int .i64 4095,.int .i64 3,.int .i64 (lowZ f d),.int .i64 (highZ f d),.int .i64 (borderZ f d)] 3))
 have HK7:=hide (HK5.out.alloc (.cells #[.int .i64 4095,.int .i64 4095,.int .i64 3,.int .i64 (lowZ f d),.int .i64 (highZ f d),.int .i64 (borderZ f d)] 3))
 have HB7:=hide (HB5.out.alloc HB5.out.size (.cells #[.int .i64 4095,.int .i64 4095,.int .i64 3,.int .i64 (lowZ f d),.int .i64 (highZ f d),.int .i64 (borderZ f d)] 3))
 have HM7:=hide (HasC.new w5 3 #[.int .i64 4095,.int .i64 4095,.int .i64 3,.int .i64 (lowZ f d),.int .i64 (highZ f d),.int .i64 (borderZ f d)])
 obtain⟨w7,hw7⟩:∃ w7,w5.alloc (.cells #[.int .i64 4095,.int .i64 4095,.int .i64 3,.int .i64 (lowZ f d),.int .i64 (highZ f d),.int .i64 (borderZ f d)] 3)=w7:=⟨_,rfl⟩
 obtain⟨g7,hg7⟩:∃ g7,w5.heap.size=g7:=⟨_,rfl⟩
 rw[hw7] at HL7 HR7 HK7 HB7 HM7 ⊢
 rw[hg7] at HM7 ⊢
 have HG7:Hid (g6 < g7):=by unfold Hid;rw[<-hg7];exact HL5.out.lt
 clear hw7 hg7 HLd HRd HKd HBd HL3 HR3 HK3 HB3 HL4 HR4 HK4 HB4 HL5 HR5 HK5 HB5 x3 y3 x4 y4 x5 y5 HR6 HK6 HB6 HL6 x6 y6
 obtain⟨x7,y7,-,-⟩:=facts2 HK7.out
 obtain⟨r0,r1,r2,r3⟩:=facts2 HR7.out
 have hl7:w7.cell? ⟨g6,n,none⟩=some (.int .i64 (lz f d n)):=HL7.out.cell n (lz_at f d n h5)
 have hm7:w7.cell? ⟨g7,n,none⟩=some (.int .i64 (mz f d 4095 4095 n)):=HM7.out.cell n (mz_at f d 4095 4095 n h5)
 have hi6:(n:Int) < 6:=by omega
 rcases hm.1 with rfl|rfl
 ·have HR8:=HR7
  have HB8:=HB7
  go_wp2
  go_region
  go_wp2
  obtain⟨c0,c1,hB⟩:=stored2 HR8.out HB8.out (by omega) (lz 0 d n) (mz 0 d 4095 4095 n)
  refine bodyPost_ret (v:=.tuple #[.agg #[.int .i64 (lz 0 d n),.int .i64 (mz 0 d 4095 4095 n)],.bool true]) ?_ rfl ⟨?_,hB.drew⟩
  ·simp[results,Tryz.results67,go_sem,c0,c1]
  ·rw[inV_at 0 d hm n h5];rfl
 ·have m0:w7.cell? ⟨g7,0,none⟩=some (.int .i64 4095):=HM7.out.cell 0 rfl
  have m1:w7.cell? ⟨g7,1,none⟩=some (.int .i64 4095):=HM7.out.cell 1 rfl
  have m2:=HM7.out.frozen 0
  have m3:=HM7.out.frozen 1
  clear hl7 hm7
  go_wp2
  have hne:w.heap.size+1≠g7:=by have h1:=HG6.out;have h2:=HG7.out;omega
  have HM8:=hide ((HM7.out.set 0 (.int .i64 1048575)).set 1 (.int .i64 0))
  have HL8:=hide ((HL7.out.other (p:=⟨g7,0,none⟩) (by have:=HG7.out;simp;omega) (.int .i64 1048575)).other (p:=⟨g7,1,none⟩) (by have:=HG7.out;simp;omega) (.int .i64 0))
  have HR8:=hide ((HR7.out.other (p:=⟨g7,0,none⟩) hne (.int .i64 1048575)).other (p:=⟨g7,1,none⟩) hne (.int .i64 0))
  have HB8:=hide ((HB7.out.setCell (p:=⟨g7,0,none⟩) (by have h1:=HG6.out;have h2:=HG7.out;simp;omega) (.int .i64 1048575)).setCell (p:=⟨g7,1,none⟩) (by have h1:=HG6.out;have h2:=HG7.out;simp;omega) (.int .i64 0))
  clear m0 m1 m2 m3 r0 r1 r2 r3 y7
  obtain⟨w8,hw8⟩:∃ w8,(w7.setCell ⟨g7,0,none⟩ (.int .i64 1048575)).setCell ⟨g7,1,none⟩ (.int .i64 0)=w8:=⟨_,rfl⟩
  rw[hw8] at HM8 HL8 HR8 HB8 ⊢
  clear hw8
  have hl8:w8.cell? ⟨g6,n,none⟩=some (.int .i64 (lz 1 d n)):=HL8.out.cell n (lz_at 1 d n h5)
  have hm8:w8.cell? ⟨g7,n,none⟩=some (.int .i64 (mz 1 d 1048575 0 n)):=HM8.out.cell n (mz_at 1 d 1048575 0 n h5)
  obtain⟨r0,r1,r2,r3⟩:=facts2 HR8.out
  go_region
  go_wp2
  obtain⟨c0,c1,hB⟩:=stored2 HR8.out HB8.out (by omega) (lz 1 d n) (mz 1 d 1048575 0 n)
  refine bodyPost_ret (v:=.tuple #[.agg #[.int .i64 (lz 1 d n),.int .i64 (mz 1 d 1048575 0 n)],.bool true]) ?_ rfl ⟨?_,hB.drew⟩
  ·simp[results,Tryz.results67,go_sem,c0,c1]
  ·rw[inV_at 1 d hm n h5];rfl
theorem rinput_bad (f d n:Int)(hm:¬May f d)(w:World) :
  Calls Tryz.prog 67 #[.agg #[.int .i64 f,.int .i64 d],.int .i64 n] w fun e w'=>e=.returned (.tuple #[.agg #[.int .i64 0,.int .i64 0],.bool false])/\Below w.heap.size w w':=by
 have HB1:=hide ((bel1 w (.cells #[.int .i64 f,.int .i64 d] 23)).alloc (by simp) (.cells #[.int .i64 0,.int .i64 0] 58))
 have hR:HasC ((w.alloc (.cells #[.int .i64 f,.int .i64 d] 23)).alloc (.cells #[.int .i64 0,.int .i64 0] 58)) (w.heap.size+1) 58 #[.int .i64 0,.int .i64 0]:=by
  have:=HasC.new (w.alloc (.cells #[.int .i64 f,.int .i64 d] 23)) 58 #[.int .i64 0,.int .i64 0]
  rwa[World.size_alloc] at this
 have HR1:=hide hR
 clear hR
 go_enter Tryz.func67,Tryz.ntmps67
 go_wp2_with (go_at_call 58;refine(rmay_bad _ _ _ hm).mono ?_;rintro e w2 ⟨rfl,hb2⟩;have HR2:=hide (HR1.out.below hb2);have HB2:=hide (bel HB1.out hb2);clear hb2;obtain⟨s2,t2,u2,v2⟩:=facts2 HR2.out)
 obtain⟨c0,c1,hB⟩:=stored2 HR2.out HB2.out (by omega) 0 0
 exact bodyPost_ret (v:=.tuple #[.agg #[.int .i64 0,.int .i64 0],.bool false]) (by simp[results,Tryz.results67,go_sem,c0,c1]) rfl ⟨rfl,hB⟩
theorem rinput_neg (f d n:Int)(hm:May f d)(h:n < 0)(w:World) :
  Calls Tryz.prog 67 #[.agg #[.int .i64 f,.int .i64 d],.int .i64 n] w fun e w'=>e=.returned (.tuple #[.agg #[.int .i64 0,.int .i64 0],.bool false])/\Below w.heap.size w w':=by
 have HB1:=hide ((bel1 w (.cells #[.int .i64 f,.int .i64 d] 23)).alloc (by simp) (.cells #[.int .i64 0,.int .i64 0] 58))
 have hR:HasC ((w.alloc (.cells #[.int .i64 f,.int .i64 d] 23)).alloc (.cells #[.int .i64 0,.int .i64 0] 58)) (w.heap.size+1) 58 #[.int .i64 0,.int .i64 0]:=by
  have:=HasC.new (w.alloc (.cells #[.int .i64 f,.int .i64 d] 23)) 58 #[.int .i64 0,.int .i64 0]
  rwa[World.size_alloc] at this
 have HR1:=hide hR
 clear hR
 go_enter Tryz.func67,Tryz.ntmps67
 go_wp2_with (go_at_call 58;refine(rmay_ok _ _ _ hm).mono ?_;rintro e w2 ⟨rfl,hb2⟩;have HR2:=hide (HR1.out.below hb2);have HB2:=hide (bel HB1.out hb2);clear hb2;obtain⟨s2,t2,u2,v2⟩:=facts2 HR2.out)
 obtain⟨c0,c1,hB⟩:=stored2 HR2.out HB2.out (by omega) 0 0
 exact bodyPost_ret (v:=.tuple #[.agg #[.int .i64 0,.int .i64 0],.bool false]) (by simp[results,Tryz.results67,go_sem,c0,c1]) rfl ⟨rfl,hB⟩
theorem rinput_big (f d n:Int)(hm:May f d)(h:5 < n)(w:World) :
  Calls Tryz.prog 67 #[.agg #[.int .i64 f,.int .i64 d],.int .i64 n] w fun e w'=>e=.returned (.tuple #[.agg #[.int .i64 0,.int .i64 0],.bool false])/\Below w.heap.size w w':=by
 have HB1:=hide ((bel1 w (.cells #[.int .i64 f,.int .i64 d] 23)).alloc (by simp) (.cells #[.int .i64 0,.int .i64 0] 58))
 have hR:HasC ((w.alloc (.cells #[.int .i64 f,.int .i64 d] 23)).alloc (.cells #[.int .i64 0,.int .i64 0] 58)) (w.heap.size+1) 58 #[.int .i64 0,.int .i64 0]:=by
  have:=HasC.new (w.alloc (.cells #[.int .i64 f,.int .i64 d] 23)) 58 #[.int .i64 0,.int .i64 0]
  rwa[World.size_alloc] at this
 have HR1:=hide hR
 clear hR
 have h0:¬n < 0:=by omega
 have h0':decide (n < 0)=false:=by simp;omega
 go_enter Tryz.func67,Tryz.ntmps67
 go_wp2_with (go_at_call 58;refine(rmay_ok _ _ _ hm).mono ?_;rintro e w2 ⟨rfl,hb2⟩;have HR2:=hide (HR1.out.below hb2);have HB2:=hide (bel HB1.out hb2);clear hb2;obtain⟨s2,t2,u2,v2⟩:=facts2 HR2.out)
 obtain⟨c0,c1,hB⟩:=stored2 HR2.out HB2.out (by omega) 0 0
 exact bodyPost_ret (v:=.tuple #[.agg #[.int .i64 0,.int .i64 0],.bool false]) (by simp[results,Tryz.results67,go_sem,c0,c1]) rfl ⟨rfl,hB⟩
theorem rinput_any (f d n:Int)(w:World) :
  Calls Tryz.prog 67 #[.agg #[.int .i64 f,.int .i64 d],.int .i64 n] w fun e w'=>e=.returned (inV f d n)/\Below w.heap.size w w':=by
 by_cases hm:May f d
 ·by_cases h0:n < 0
  ·have e:inV f d n=.tuple #[.agg #[.int .i64 0,.int .i64 0],.bool false]:=by
    have e1:n≠0:=by omega
    have e2:n≠1:=by omega
    have e3:n≠2:=by omega
    have e4:n≠3:=by omega
    have e5:n≠4:=by omega
    have e6:n≠5:=by omega
    simp[inV,inZ,hm,e1,e2,e3,e4,e5,e6]
   rw[e];exact rinput_neg f d n hm h0 w
  ·by_cases h5:5 < n
   ·have e:inV f d n=.tuple #[.agg #[.int .i64 0,.int .i64 0],.bool false]:=by
     have e1:n≠0:=by omega
     have e2:n≠1:=by omega
     have e3:n≠2:=by omega
     have e4:n≠3:=by omega
     have e5:n≠4:=by omega
     have e6:n≠5:=by omega
     simp[inV,inZ,hm,e1,e2,e3,e4,e5,e6]
    rw[e];exact rinput_big f d n hm h5 w
   ·obtain⟨k,rfl⟩:∃ k:Nat,n=(k:Int):=⟨n.toNat,by omega⟩
    exact rinput_ok f d k hm (by omega) w
 ·have e:inV f d n=.tuple #[.agg #[.int .i64 0,.int .i64 0],.bool false]:=by simp[inV,inZ,hm]
  rw[e];exact rinput_bad f d n hm w
end Go.Proofs.YtimdcmponhcngaaGreat.Knd
namespace Go.Proofs.YtimdcmponhcngaaGreat
open Go.RowKit Go.IntWalk Lx Pz
set_option linter.unusedVariables false
set_option maxRecDepth 100000
set_option maxHeartbeats 16000000
theorem jcost_any (o:Int)(W:World):Calls Tryz.prog 64 #[.int .i64 o] W fun e W'=>e=.returned (.int .i64 (coZ o))/\W'=W:=by
 by_cases h1:o=4
 ·subst h1
  go_enter Tryz.func64,Tryz.ntmps64
  go_wp2
  go_ret
  exact⟨rfl,rfl⟩
 by_cases h2:o=11
 ·subst h2
  go_enter Tryz.func64,Tryz.ntmps64
  go_wp2
  go_ret
  exact⟨rfl,rfl⟩
 by_cases h3:o=12
 ·subst h3
  go_enter Tryz.func64,Tryz.ntmps64
  go_wp2
  go_ret
  exact⟨rfl,rfl⟩
 have e:coZ o=1:=by unfold coZ;rw[if_neg h1,if_neg h2,if_neg h3]
 rw[e]
 have e1:(o==4)=false:=by simpa using h1
 have e2:(o==11)=false:=by simpa using h2
 have e3:(o==12)=false:=by simpa using h3
 clear h1 h2 h3 e
 go_enter Tryz.func64,Tryz.ntmps64
 go_wp2
 go_ret
 exact⟨rfl,rfl⟩
def lfZ (f d op k:Int):(Int × Int) × Bool :=
 if op=1 then((k,k),true) else if op=2 then((Knd.inZ f d k).getD (0,0),(Knd.inZ f d k).isSome) else if op=3 then((Knd.lowZ f d,Knd.highZ f d),true) else((0,0),false)
abbrev lfV (Z:(Int × Int) × Bool):Value:=.tuple #[.agg #[.int .i64 Z.1.1,.int .i64 Z.1.2],.bool Z.2]
theorem jleaf_any (f d op k:Int)(W:World):Calls Tryz.prog 61 #[.agg (kdA f d),.int .i64 op,.int .i64 k] W fun e W'=>e=.returned (lfV (lfZ f d op k))/\Below W.heap.size W W':=by
 have hb1:=bel1 W (.cells (kdA f d) 23)
 have HB0:=hide (bel hb1 (bel1 (W.alloc (.cells (kdA f d) 23)) (.cells #[.int .i64 0,.int .i64 0] 58)))
 have HK0:=hide ((HasC.new W 23 (kdA f d)).alloc (.cells #[.int .i64 0,.int .i64 0] 58))
 have HR0:Hid (HasC ((W.alloc (.cells (kdA f d) 23)).alloc (.cells #[.int .i64 0,.int .i64 0] 58)) (W.heap.size+1) 58 #[.int .i64 0,.int .i64 0]):=by
  have:=HasC.new (W.alloc (.cells (kdA f d) 23)) 58 #[.int .i64 0,.int .i64 0]
  simp only[World.size_alloc] at this
  exact hide this
 have HBk:=hide hb1
 clear hb1
 by_cases h1:op=1
 ·subst h1
  rw[show lfZ f d 1 k=((k,k),true) from rfl]
  go_enter Tryz.func61,Tryz.ntmps61
  go_wp2
  exact bodyPost_ret (v:=.tuple #[.agg #[.int .i64 k,.int .i64 k],.bool true]) (by simp[results,Tryz.results61,go_sem]) rfl ⟨rfl,bel HBk.out (bel1 _ _)⟩
 by_cases h2:op=2
 ·subst h2
  rw[show lfZ f d 2 k=((Knd.inZ f d k).getD (0,0),(Knd.inZ f d k).isSome) from rfl]
  have HI:=hide fun w=>Knd.rinput_any f d k w
  unfold Knd.inV at HI
  obtain⟨⟨lo,hi⟩,hp⟩:∃ p,(Knd.inZ f d k).getD (0,0)=p:=⟨_,rfl⟩
  rw[hp] at HI ⊢
  generalize (Knd.inZ f d k).isSome=q at HI ⊢
  clear hp h1
  go_enter Tryz.func61,Tryz.ntmps61
  go_wp2_with fail
  refine(HI.out _).mono ?_
  rintro e V1 ⟨rfl,hb⟩
  have HB1:=hide (bel HB0.out hb)
  obtain⟨r0,r1,hB⟩:=put_two (HR0.out.below hb) HB1.out (by omega) lo hi
  obtain⟨c0,c1,c2,c3⟩:=two_of (HR0.out.below hb)
  have HR1:=hide r0
  have HR2:=hide r1
  clear hb r0 r1
  go_wp2_with fail
  have r0:=HR1.out
  have r1:=HR2.out
  exact bodyPost_ret (v:=.tuple #[.agg #[.int .i64 lo,.int .i64 hi],.bool q]) (by simp only[results,Tryz.results61];simp[go_sem,r0,r1]) rfl ⟨rfl,hB⟩
 by_cases h3:op=3
 ·subst h3
  rw[show lfZ f d 3 k=((Knd.lowZ f d,Knd.highZ f d),true) from rfl]
  have HLo:=hide fun w=>Knd.rlow_any f d w
  have HHi:=hide fun w=>Knd.rhigh_any f d w
  generalize Knd.lowZ f d=lo at *
  generalize Knd.highZ f d=hi at *
  have x0:=HK0.out.cell 0 rfl
  have y0:=HK0.out.cell 1 rfl
  clear h1 h2
  go_enter Tryz.func61,Tryz.ntmps61
  go_wp2_with fail
  obtain⟨W0,hW0⟩:∃ W0,((W.alloc (.cells (kdA f d) 23)).alloc (.cells #[.int .i64 0,.int .i64 0] 58))=W0:=⟨_,rfl⟩
  rw[hW0] at HR0 HK0 HB0 x0 y0 ⊢
  clear hW0
  have HRd:Hid (HasC W0.drew (W.heap.size+1) 58 #[.int .i64 0,.int .i64 0]):=HR0.out
  have HKd:Hid (HasC W0.drew W.heap.size 23 (kdA f d)):=HK0.out
  have HBd:=hide HB0.out.drew
  go_region_held3 (fun w'=>w'.cell? ⟨W.heap.size,0,none⟩=some (.int .i64 f)/\w'.cell? ⟨W.heap.size,1,none⟩=some (.int .i64 d))
   (first|exact⟨x0,y0⟩|exact⟨x3,y3⟩|exact⟨x4,y4⟩|exact⟨(oth2 HK4.out (by omega) _ _).cell 0 rfl,(oth2 HK4.out (by omega) _ _).cell 1 rfl⟩|go_keep)
   ((first
    | (go_at_call 65;refine(HLo.out _).mono ?_;rintro e w3 ⟨rfl,hb3⟩;have HR3:=hide (HRd.out.below hb3);have HK3:=hide (HKd.out.below hb3);have HB3:=hide (bel HBd.out hb3);clear hb3;obtain⟨x3,y3,-,-⟩:=two_of HK3.out)
    | (go_at_call 66;refine(HHi.out _).mono ?_;rintro e w4 ⟨rfl,hb4⟩;have HR4:=hide (HR3.out.below hb4);have HK4:=hide (HK3.out.below hb4);have HB4:=hide (bel HB3.out hb4);clear hb4;obtain⟨x4,y4,-,-⟩:=two_of HK4.out;obtain⟨g0,g1,g2,g3⟩:=two_of HR4.out)))
  all_goals
   obtain⟨r0,r1,hB⟩:=put_two HR4.out HB4.out (by omega) lo hi
   go_wp2
   exact bodyPost_ret (v:=.tuple #[.agg #[.int .i64 lo,.int .i64 hi],.bool true]) (by simp[results,Tryz.results61,go_sem,r0,r1]) rfl ⟨rfl,hB⟩
 have e1:(op==1)=false:=by simpa using h1
 have e2:(op==2)=false:=by simpa using h2
 have e3:(op==3)=false:=by simpa using h3
 rw[show lfZ f d op k=((0,0),false) by unfold lfZ;rw[if_neg h1,if_neg h2,if_neg h3]]
 clear h1 h2 h3
 go_enter Tryz.func61,Tryz.ntmps61
 go_wp2
 exact bodyPost_ret (v:=.tuple #[.agg #[.int .i64 0,.int .i64 0],.bool false]) (by simp[results,Tryz.results61,go_sem]) rfl ⟨rfl,bel HBk.out (bel1 _ _)⟩
end Go.Proofs.YtimdcmponhcngaaGreat
