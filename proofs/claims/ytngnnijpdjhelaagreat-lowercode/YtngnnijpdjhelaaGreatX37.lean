import Derived.Laws.MakeOwn
import Derived.Test.YtngnnijpdjhelaaGreatX36
namespace Go.Proofs.YtngnnijpdjhelaaGreat
open Go.RowKit Go.IntWalk Lx Pz
set_option linter.unusedVariables false
set_option maxRecDepth 100000
set_option maxHeartbeats 16000000
theorem sp_args {S:Sps}{n:Nd}{k:Nat}(hk:k < (prts n).length):((prts n).map fun p=>S.getD p.toNat (0,0)).take (k+1)=((prts n).map fun p=>S.getD p.toNat (0,0)).take k++[S.getD ((prts n).getD k 0).toNat (0,0)]:=by
 rw[take_snoc (0,0) (by simpa using hk)]
 congr 2
 simp[List.getD_eq_getElem?_getD,List.getElem?_map,List.getElem?_eq_getElem hk]
theorem prts_len {n:Nd}{k:Nat}(hp:prZ n.op=k)(h3:k<=3):(prts n).length=k:=by
 unfold prts;rw[hp];simp;omega
theorem prts_at {n:Nd}{k j:Nat}(hp:prZ n.op=k)(h3:k<=3)(hj:j < k):(ab3 n)[j]?=some (.int .i64 ((prts n).getD j 0))/\(prts n).getD j 0 ∈ prts n:=by
 have hl:=prts_len hp h3
 refine⟨?_,?_⟩
 ·unfold prts
  rw[hp]
  rcases(show k=1\/k=2\/k=3 by omega) with rfl|rfl|rfl
  ·obtain rfl:j=0:=by omega
   rfl
  ·rcases(show j=0\/j=1 by omega) with rfl|rfl <;> rfl
  ·rcases(show j=0\/j=1\/j=2 by omega) with rfl|rfl|rfl <;> rfl
 ·rw[List.getD_eq_getElem?_getD,List.getElem?_eq_getElem (by omega)]
  exact List.getElem_mem _
theorem two_of {W:World}{b:Nat}{t:TypeId}{x y:Value}(h:HasC W b t #[x,y]):W.cell? ⟨b,0,none⟩=some x/\W.cell? ⟨b,1,none⟩=some y/\W.frozen? ⟨b,0,none⟩=false/\W.frozen? ⟨b,1,none⟩=false :=
 Spn.facts2 h
theorem put_two {w w2:World}{b:Nat}{t:TypeId}{p q:Value}(h:HasC w2 b t #[p,q])(hB:Below w.heap.size w w2)(hb:w.heap.size<=b)(x y:Int) :
  ((w2.setCell ⟨b,0,none⟩ (.int .i64 x)).setCell ⟨b,1,none⟩ (.int .i64 y)).cell? ⟨b,0,none⟩=some (.int .i64 x)/\((w2.setCell ⟨b,0,none⟩ (.int .i64 x)).setCell ⟨b,1,none⟩ (.int .i64 y)).cell? ⟨b,1,none⟩=some (.int .i64 y) /\
  Below w.heap.size w ((w2.setCell ⟨b,0,none⟩ (.int .i64 x)).setCell ⟨b,1,none⟩ (.int .i64 y)) :=
 Spn.stored2 h hB hb x y
theorem oth2 {W:World}{b r:Nat}{t:TypeId}{cs:Array Value}(h:HasC W b t cs)(hr:b≠r)(x y:Value):HasC ((W.setCell ⟨r,0,none⟩ x).setCell ⟨r,1,none⟩ y) b t cs:=(h.other (p:=⟨r,0,none⟩) hr x).other (p:=⟨r,1,none⟩) hr y
theorem set2 {W:World}{b:Nat}{t:TypeId}{p q:Value}(h:HasC W b t #[p,q])(x y:Value):HasC ((W.setCell ⟨b,0,none⟩ x).setCell ⟨b,1,none⟩ y) b t #[x,y]:=(h.set 0 x).set 1 y
theorem spanOf_leaf (f d:Int)(n:Nd)(hm:Knd.May f d)(v:Value)(hv:∃ a k c,v=.slice a k c)(h:n.op=1\/n.op=2\/n.op=3)(BS:List Int)(S:Sps)(W:World) :
  Calls Tryz.prog 65 #[.agg (kdA f d),.agg (ndA n),v] W fun e W'=>e=.returned (Spn.spV (spN f d BS S n))/\Below W.heap.size W W':=by
 obtain⟨a,kk,c,rfl⟩:=hv
 obtain⟨o,pa,pb,pc,pk,back,co,x,y⟩:=n
 simp only at h
 have hb1:=bel1 W (.cells (kdA f d) 23)
 have hb2:=bel hb1 (bel1 (W.alloc (.cells (kdA f d) 23)) (.cells (ndA ⟨o,pa,pb,pc,pk,back,co,x,y⟩) 65))
 have hb3:=bel hb2 (bel1 ((W.alloc (.cells (kdA f d) 23)).alloc (.cells (ndA ⟨o,pa,pb,pc,pk,back,co,x,y⟩) 65)) (.cells #[.int .i64 0,.int .i64 0] 103))
 have HB0:=hide hb3
 have HBk:=hide hb2
 have HK0:=hide (((HasC.new W 23 (kdA f d)).alloc (.cells (ndA ⟨o,pa,pb,pc,pk,back,co,x,y⟩) 65)).alloc (.cells #[.int .i64 0,.int .i64 0] 103))
 have HR0:Hid (HasC (((W.alloc (.cells (kdA f d) 23)).alloc (.cells (ndA ⟨o,pa,pb,pc,pk,back,co,x,y⟩) 65)).alloc (.cells #[.int .i64 0,.int .i64 0] 103)) (W.heap.size+1+1) 103 #[.int .i64 0,.int .i64 0]):=by
  have:=HasC.new ((W.alloc (.cells (kdA f d) 23)).alloc (.cells (ndA ⟨o,pa,pb,pc,pk,back,co,x,y⟩) 65)) 103 #[.int .i64 0,.int .i64 0]
  simp only[World.size_alloc] at this
  exact hide this
 clear hb1 hb2 hb3
 rcases h with rfl|rfl|rfl
 ·rw[show spN f d BS S ⟨1,pa,pb,pc,pk,back,co,x,y⟩=((pk,pk),0) from rfl]
  go_enter Tryz.func65,Tryz.ntmps65
  go_wp2
  exact bodyPost_ret (v:=.tuple #[.agg #[.int .i64 pk,.int .i64 pk],.int .i64 0]) (by simp[results,Tryz.results65,go_sem]) rfl ⟨rfl,bel HBk.out (bel1 _ _)⟩
 ·rw[show spN f d BS S ⟨2,pa,pb,pc,pk,back,co,x,y⟩=((Knd.inZ f d pk).getD (0,0),0) from rfl]
  have HI:=hide fun w=>Knd.input_any f d pk w
  unfold Knd.inV at HI
  obtain⟨⟨lo,hi⟩,hp⟩:∃ p,(Knd.inZ f d pk).getD (0,0)=p:=⟨_,rfl⟩
  rw[hp] at HI ⊢
  generalize (Knd.inZ f d pk).isSome=q at HI
  clear hp
  go_enter Tryz.func65,Tryz.ntmps65
  go_wp2_with fail
  refine(HI.out _).mono ?_
  rintro e V1 ⟨rfl,hb⟩
  have HB1:=hide (bel HB0.out hb)
  have hz:=(HR0.out.below hb).lt
  obtain⟨-,-,hB⟩:=put_two (HR0.out.below hb) HB1.out (by omega) lo hi
  have h3:=(set2 (HR0.out.below hb) (.int .i64 lo) (.int .i64 hi)).alloc (.cells #[.int .i64 lo,.int .i64 hi] 103)
  have r0:=h3.cell 0 rfl
  have r1:=h3.cell 1 rfl
  have HB2:=hide (bel hB (bel1 _ (.cells #[.int .i64 lo,.int .i64 hi] 103)))
  have HR2:=hide r0
  have HR3:=hide r1
  clear r0 r1 h3 hB
  obtain⟨c0,c1,c2,c3⟩:=two_of (HR0.out.below hb)
  clear hb
  go_wp2_with fail
  have r0:=HR2.out
  have r1:=HR3.out
  exact bodyPost_ret (v:=.tuple #[.agg #[.int .i64 lo,.int .i64 hi],.int .i64 0]) (by simp only[results,Tryz.results65];simp[go_sem,r0,r1]) rfl ⟨rfl,HB2.out⟩
 ·rw[show spN f d BS S ⟨3,pa,pb,pc,pk,back,co,x,y⟩=((Knd.lowZ f d,Knd.highZ f d),0) from rfl]
  have HLo:=hide fun w=>Knd.low_any f d w
  have HHi:=hide fun w=>Knd.high_any f d w
  generalize Knd.lowZ f d=lo at *
  generalize Knd.highZ f d=hi at *
  have x0:=HK0.out.cell 0 rfl
  have y0:=HK0.out.cell 1 rfl
  go_enter Tryz.func65,Tryz.ntmps65
  go_wp2_with fail
  obtain⟨W0,hW0⟩:∃ W0,(((W.alloc (.cells (kdA f d) 23)).alloc (.cells (ndA ⟨3,pa,pb,pc,pk,back,co,x,y⟩) 65)).alloc (.cells #[.int .i64 0,.int .i64 0] 103))=W0:=⟨_,rfl⟩
  rw[hW0] at HR0 HK0 HB0 x0 y0 ⊢
  clear hW0
  have HRd:Hid (HasC W0.drew (W.heap.size+1+1) 103 #[.int .i64 0,.int .i64 0]):=HR0.out
  have HKd:Hid (HasC W0.drew W.heap.size 23 (kdA f d)):=HK0.out
  have HBd:=hide HB0.out.drew
  go_region_held3 (fun w'=>w'.cell? ⟨W.heap.size,0,none⟩=some (.int .i64 f)/\w'.cell? ⟨W.heap.size,1,none⟩=some (.int .i64 d))
   (first|exact⟨x0,y0⟩|exact⟨x3,y3⟩|exact⟨x4,y4⟩|exact⟨(oth2 HK4.out (by omega) _ _).cell 0 rfl,(oth2 HK4.out (by omega) _ _).cell 1 rfl⟩|go_keep)
   ((first
    | (go_at_call 47;refine(HLo.out _).mono ?_;rintro e w3 ⟨rfl,hb3⟩;have HR3:=hide (HRd.out.below hb3);have HK3:=hide (HKd.out.below hb3);have HB3:=hide (bel HBd.out hb3);clear hb3;obtain⟨x3,y3,-,-⟩:=two_of HK3.out)
    | (go_at_call 48;refine(HHi.out _).mono ?_;rintro e w4 ⟨rfl,hb4⟩;have HR4:=hide (HR3.out.below hb4);have HK4:=hide (HK3.out.below hb4);have HB4:=hide (bel HB3.out hb4);clear hb4;obtain⟨x4,y4,-,-⟩:=two_of HK4.out;obtain⟨g0,g1,g2,g3⟩:=two_of HR4.out)))
  all_goals
   obtain⟨r0,r1,hB⟩:=put_two HR4.out HB4.out (by omega) lo hi
   go_wp2
   exact bodyPost_ret (v:=.tuple #[.agg #[.int .i64 lo,.int .i64 hi],.int .i64 0]) (by simp[results,Tryz.results65,go_sem,r0,r1]) rfl ⟨rfl,hB⟩
theorem spanOf_in (f d:Int)(n:Nd){BS:List Int}{i sl sc:Nat}{a:Option Addr}{S:Sps}{W:World}(hn:Wn BS i n)(h5:5<=n.op)(hS:Spn.Spans W a sl sc S)(hi:i<=sl) :
  Calls Tryz.prog 65 #[.agg (kdA f d),.agg (ndA n),.slice a sl sc] W fun e W'=>e=.returned (Spn.spV (spN f d BS S n))/\Below W.heap.size W W':=by
 obtain⟨k,hk⟩:∃ k:Nat,prZ n.op=k:=⟨(prZ n.op).toNat,by have:=hn.pr;omega⟩
 have h3:k<=3:=by
  have:prZ n.op<=3:=by unfold prZ arZ;repeat' split <;> omega
  omega
 have har:arZ n.op=k:=by rw[hn.ar (by omega),hk]
 have hsl:sl<=9223372036854775807:=by have:=hS.le;have:=hS.max;unfold maxLen at *;omega
 rw[show spN f d BS S n=Spn.ofZ n.op 0 0 ((prts n).map fun p=>S.getD p.toNat (0,0)) by unfold spN;rw[if_neg (by omega),if_neg (by omega),if_neg (by omega),if_neg (by omega)]]
 have HPt:=hide fun j hj=>prts_at (n:=n) (j:=j) hk h3 hj
 have HPl:=hide (prts_len hk h3)
 have HPr:=hide hn.prt
 have HSg:=hide fun j hj=>sp_args (S:=S) (n:=n) (k:=j) hj
 obtain⟨L,hL⟩:∃ L,((prts n).map fun p=>S.getD p.toNat (0,0))=L:=⟨_,rfl⟩
 have HLl:Hid (L.length=k):=hide (by rw[<-hL,List.length_map,HPl.out])
 rw[hL] at HSg ⊢
 have HPO:=hide fun w=>partsOf_any n k har h3 w
 have q1:(n.op==1)=false:=by simp;omega
 have q2:(n.op==2)=false:=by simp;omega
 have q3:(n.op==3)=false:=by simp;omega
 have hb1:=bel1 W (.cells (kdA f d) 23)
 have hb2:=bel hb1 (bel1 (W.alloc (.cells (kdA f d) 23)) (.cells (ndA n) 65))
 have hb3:=bel hb2 (bel1 ((W.alloc (.cells (kdA f d) 23)).alloc (.cells (ndA n) 65)) (.cells #[.int .i64 0,.int .i64 0] 103))
 have HB0:=hide hb3
 have HN0:Hid (HasC (((W.alloc (.cells (kdA f d) 23)).alloc (.cells (ndA n) 65)).alloc (.cells #[.int .i64 0,.int .i64 0] 103)) (W.heap.size+1) 65 (ndA n)):=by
  have:=(HasC.new (W.alloc (.cells (kdA f d) 23)) 65 (ndA n)).alloc (.cells #[.int .i64 0,.int .i64 0] 103)
  simp only[World.size_alloc] at this
  exact hide this
 have HR0:Hid (HasC (((W.alloc (.cells (kdA f d) 23)).alloc (.cells (ndA n) 65)).alloc (.cells #[.int .i64 0,.int .i64 0] 103)) (W.heap.size+1+1) 103 #[.int .i64 0,.int .i64 0]):=by
  have:=HasC.new ((W.alloc (.cells (kdA f d) 23)).alloc (.cells (ndA n) 65)) 103 #[.int .i64 0,.int .i64 0]
  simp only[World.size_alloc] at this
  exact hide this
 have HS0:=hide (hS.later hb3)
 clear hb1 hb2 hb3 hS hL har hk hn h5
 go_enter Tryz.func65,Tryz.ntmps65
 go_wp2_with fail
 refine(HPO.out _).mono ?_
 rintro e V1 ⟨g,rfl,-,hG,hb⟩
 have HG:=hide hG
 have HR1:=hide (HR0.out.below hb)
 have HN1:=hide (HN0.out.below hb)
 have HB1:=hide (bel HB0.out hb)
 have HS1:=hide (HS0.out.later hb)
 have hgl:=hG.lt
 clear hG hb HR0 HN0 HB0 HS0 HPO
 go_wp2_with fail
 go_loopw [10,42] (fun v i wr=>∃ j:Nat,j<=k/\i=.int .i64 j/\Hid (Spn.Es V1 wr v j (L.take j))) (fun _ i _=>k-(intOf i).toNat)
 case atStart=>exact⟨0,Nat.zero_le _,rfl,hide (Spn.Es.start V1)⟩
 case round =>
  obtain⟨j,hj,rfl,HE⟩:=hrel
  rename World=>V
  by_cases hlt:j < k
  ·have cp:=(HG.out.below HE.out.bel).cell j (HPt.out j hlt).1
   obtain⟨p0,p1⟩:=HPr.out _ (HPt.out j hlt).2
   have HT:=hide (HSg.out j (by rw[HPl.out];exact hlt))
   obtain⟨q,hq⟩:∃ q:Nat,(prts n).getD j 0=(q:Int):=⟨((prts n).getD j 0).toNat,by omega⟩
   rw[hq] at cp p1 HT
   simp only[Int.toNat_natCast] at p1 HT
   obtain⟨b,off,rfl,-,hcs⟩:=(HS1.out.later HE.out.bel).at (by omega)
   obtain⟨s0,s1⟩:=hcs q (by omega)
   generalize S.getD q (0,0)=sv at *
   obtain⟨lo,hi2⟩:=sv
   simp only at s0 s1
   have j0:(0:Int)<=j:=by omega
   have j1:(j:Int) < k:=by omega
   have j2:(j:Int) < 3:=by omega
   have i0:(0:Int)<=q:=by omega
   have i1:(q:Int) < sl:=by omega
   clear hcs p0 p1 hq
   go_wp2_with (at_builtin;refine Spn.list_span (w:=V1) (L:=L.take j) rfl _ _ rfl rfl (HE.out.alloc _) _ lo hi2 rfl (Spn.HasC.new _ _ _) (by omega) ?_;intro g2 cap2 w2 HE2 hsz)
   go_roundw
   case rel=>exact⟨j+1,by omega,by go_num,hide (by rw[HT.out];exact HE2)⟩
   case measure=>simp[intOf];omega
  ·obtain rfl:j=k:=by omega
   have e:L.take j=L:=List.take_of_length_le (by rw[HLl.out];exact Nat.le_refl _)
   have HE1:=HE.out
   rw[e] at HE1
   obtain⟨va,vc,rfl,hA⟩:=Spn.Spans.of_owns HE1.a HLl.out
   have HOf:=hide (Spn.of_any n.op 0 0 _ _ _ _ _ hA)
   have HR2:=hide (HR1.out.below HE1.bel)
   have HB2:=hide (bel HB1.out HE1.bel)
   have x0:=(HN1.out.below HE1.bel).cell 0 rfl
   obtain⟨⟨⟨lo,hi2⟩,er⟩,hZ⟩:∃ Z,Spn.ofZ n.op 0 0 L=Z:=⟨_,rfl⟩
   rw[hZ] at HOf
   have HZ:=hide hZ
   clear hZ hA e HE HE1
   go_wp2_with fail
   refine HOf.out.mono ?_
   rintro e V2 ⟨rfl,hb⟩
   have HR3:=hide (HR2.out.below hb)
   have HB3:=hide (bel HB2.out hb)
   obtain⟨g0,g1,g2,g3⟩:=two_of HR3.out
   clear hb
   go_wp2_with fail
   obtain⟨r0,r1,hB⟩:=put_two HR3.out HB3.out (by omega) lo hi2
   exact bodyPost_ret (v:=.tuple #[.agg #[.int .i64 lo,.int .i64 hi2],.int .i64 er]) (by simp[results,Tryz.results65,go_sem,r0,r1]) rfl ⟨by rw[HZ.out],hB⟩
abbrev spA (L:Sps):Array Value:=(Spn.sp64 L).toArray
theorem spA_get (L:Sps)(i:Nat)(h:i < L.length):(spA L)[i*2]?=some (.int .i64 (L.getD i (0,0)).1)/\(spA L)[i*2+1]?=some (.int .i64 (L.getD i (0,0)).2):=by
 unfold spA
 rw[List.getElem?_toArray,List.getElem?_toArray]
 exact Spn.sp64_get L i h
theorem made_sp (n:Nat):madeCells #[.int .i64 0,.int .i64 0] (n*2)=spA (List.replicate n (0,0)):=by
 apply Array.ext_getElem?
 intro i
 by_cases hi:i < n*2
 ·have h1:(madeCells #[.int .i64 0,.int .i64 0] (n*2))[i]?=some (.int .i64 0):=by
   unfold madeCells
   rw[Array.getElem?_map,Array.getElem?_eq_getElem (by simpa using hi)]
   simp only[Array.getElem_range,Option.map_some]
   rcases(show i % 2=0\/i % 2=1 by omega) with h|h <;> (show some ((#[Value.int .i64 0,.int .i64 0])[i % 2]!)=_;rw[h];rfl)
  rw[h1]
  obtain⟨a,b⟩:=spA_get (List.replicate n (0,0)) (i / 2) (by simp;omega)
  have hz:(List.replicate n ((0:Int),(0:Int))).getD (i / 2) (0,0)=(0,0):=by
   rw[List.getD_eq_getElem?_getD,List.getElem?_replicate];split <;> rfl
  rw[hz] at a b
  rcases(show i % 2=0\/i % 2=1 by omega) with h|h
  ·rw[show i=i / 2*2 by omega];exact a.symm
  ·rw[show i=i / 2*2+1 by omega];exact b.symm
 ·rw[Array.getElem?_eq_none (by rw[size_madeCells];omega),Array.getElem?_eq_none (by simp[Spn.sp64_len];omega)]
theorem make_sp (n:Nat)(h:n<=1024)(w:World):(Instr.makeSlice 48 (.int .i64 n) (.int .i64 n)).run Tryz.prog w=.ok (.slice (some ⟨w.heap.size,0,none⟩) n n) (w.alloc (.cells (spA (List.replicate n (0,0))) 103)):=by
 obtain⟨i0,hi,hz0,hz1,hz2⟩:=Spn.info_parts Spn.info26
 have:=run_make w 48 103 i0 _ Tryz.underlying48 hi hz0 .i64 .i64 n n (by omega) (Int.le_refl _) (by rw[hz2];omega) (by omega)
 rw[hz1] at this
 simp only[Int.toNat_natCast] at this
 have e:madeCells (Value.agg #[.int .i64 0,.int .i64 0]).cells (n*2)=spA (List.replicate n (0,0)):=made_sp n
 rw[e] at this
 exact this
theorem set_sp (S Z:Sps)(p q:Int × Int):((spA (S++q::Z)).setIfInBounds (S.length*2) (.int .i64 p.1)).setIfInBounds (S.length*2+1) (.int .i64 p.2)=spA (S++p::Z):=by
 apply Array.toList_inj.1
 simp only[Array.toList_setIfInBounds]
 have e:∀ r:Int × Int,Spn.sp64 (S++r::Z)=Spn.sp64 S++(.int .i64 r.1::.int .i64 r.2::Spn.sp64 Z):=fun r=>by simp[Spn.sp64]
 rw[e,e,List.set_append_right _ _ (by rw[Spn.sp64_len];omega),List.set_append_right _ _ (by rw[Spn.sp64_len];omega),Spn.sp64_len]
 simp
theorem spans_has {W:World}{g:Nat}{L:Sps}(h:HasC W g 103 (spA L))(hl:L.length<=1024):Spn.Spans W (some ⟨g,0,none⟩) L.length L.length L:=by
 refine⟨rfl,Nat.le_refl _,by unfold maxLen;omega,(fun e=>by cases e),.inr ⟨g,0,rfl,fun i hi=>?_⟩⟩
 obtain⟨a,b⟩:=spA_get L i hi
 rw[Nat.zero_add]
 exact⟨h.cell (i*2) a,h.cell (i*2+1) b⟩
theorem put_sp {W:World}{g k:Nat}{S Z:Sps}{q:Int × Int}(h:HasC W g 103 (spA (S++q::Z)))(hk:S.length=k)(x y:Int):HasC ((W.setCell ⟨g,k*2,none⟩ (.int .i64 x)).setCell ⟨g,k*2+1,none⟩ (.int .i64 y)) g 103 (spA (S++(x,y)::Z)):=by
 subst hk
 have:=(h.set (S.length*2) (.int .i64 x)).set (S.length*2+1) (.int .i64 y)
 rwa[show ((spA (S++q::Z)).setIfInBounds (S.length*2) (.int .i64 x)).setIfInBounds (S.length*2+1) (.int .i64 y)=spA (S++(x,y)::Z) from set_sp S Z (x,y) q] at this
theorem getD_pre {S Z:Sps}{i:Nat}(h:i < S.length):(S++Z).getD i (0,0)=S.getD i (0,0):=by
 rw[List.getD_eq_getElem?_getD,List.getElem?_append_left h,<-List.getD_eq_getElem?_getD]
theorem spN_pre {f d:Int}{BS:List Int}{S Z:Sps}{n:Nd}(hn:Wn BS S.length n):spN f d BS (S++Z) n=spN f d BS S n:=by
 unfold spN
 split
 ·rename_i h4
  rw[getD_pre (hn.use h4).2.2.2]
 ·split
  ·rfl
  ·split
   ·rfl
   ·split
    ·rfl
    ·congr 1
     apply List.map_congr_left
     intro p hp
     exact getD_pre (hn.prt p hp).2
theorem rep_succ {n k:Nat}(h:k < n):List.replicate (n-k) ((0:Int),(0:Int))=(0,0)::List.replicate (n-(k+1)) (0,0):=by
 rw[show n-k=(n-(k+1))+1 by omega,List.replicate_succ]
theorem oth2' {W:World}{b r k:Nat}{t:TypeId}{cs:Array Value}(h:HasC W b t cs)(hr:b≠r)(x y:Value):HasC ((W.setCell ⟨r,k*2,none⟩ x).setCell ⟨r,k*2+1,none⟩ y) b t cs:=(h.other (p:=⟨r,k*2,none⟩) hr x).other (p:=⟨r,k*2+1,none⟩) hr y
theorem spanOf_any (f d:Int){n:Nd}{BS:List Int}{i sl sc:Nat}{a:Option Addr}{S:Sps}{W:World}(hm:Knd.May f d)(hn:Wn BS i n)(h4:n.op≠4)(hS:Spn.Spans W a sl sc S)(hi:i<=sl) :
  Calls Tryz.prog 65 #[.agg (kdA f d),.agg (ndA n),.slice a sl sc] W fun e W'=>e=.returned (Spn.spV (spN f d BS S n))/\Below W.heap.size W W':=by
 by_cases h:n.op=1\/n.op=2\/n.op=3
 ·exact spanOf_leaf f d n hm _ ⟨_,_,_,rfl⟩ h BS S W
 ·exact spanOf_in f d n hn (by have:=hn.lo;omega) hS hi
def SpP (w:World)(n:Nat)(Z:Sps × Int)(e:Ending)(W':World):Prop :=
 (Z.2≠0/\e=.returned (.tuple #[.slice none 0 0,.int .i64 Z.2])/\Below w.heap.size w W') \/
 (Z.2=0/\∃ g,e=.returned (.tuple #[.slice (some ⟨g,0,none⟩) n n,.int .i64 0])/\w.heap.size<=g/\HasC W' g 103 (spA Z.1)/\Below w.heap.size w W')
theorem spansOf_any (f d:Int){W:World}{ba da:Option Addr}{bl bc dl dc:Nat}{nv:Value}(hnv:∃ a k c,nv=.slice a k c){root:Int}{BS:List Int}{NS:List Nd}(hm:Knd.May f d)(hB:Iz W ba bl bc BS)(hN:Nz W da dl dc NS)(hw:Wl BS 0 NS)(hd:dl<=1024) :
  Calls Tryz.prog 34 #[.agg (kdA f d),.agg (tr4 nv (.slice ba bl bc) (.slice da dl dc) (.int .i64 root))] W (SpP W dl (spR f d BS NS [])):=by
 obtain⟨a1,n1,c1,rfl⟩:=hnv
 have hmk:=make_sp dl hd
 have hb1:=bel1 W (.cells (kdA f d) 23)
 have hb2:=bel hb1 (bel1 (W.alloc (.cells (kdA f d) 23)) (.cells (tr4 (.slice a1 n1 c1) (.slice ba bl bc) (.slice da dl dc) (.int .i64 root)) 28))
 have hb3:=bel hb2 (bel1 ((W.alloc (.cells (kdA f d) 23)).alloc (.cells (tr4 (.slice a1 n1 c1) (.slice ba bl bc) (.slice da dl dc) (.int .i64 root)) 28)) (.cells (spA (List.replicate dl (0,0))) 103))
 have HK0:=hide (((HasC.new W 23 (kdA f d)).alloc (.cells (tr4 (.slice a1 n1 c1) (.slice ba bl bc) (.slice da dl dc) (.int .i64 root)) 28)).alloc (.cells (spA (List.replicate dl (0,0))) 103))
 have HT0:Hid (HasC (((W.alloc (.cells (kdA f d) 23)).alloc (.cells (tr4 (.slice a1 n1 c1) (.slice ba bl bc) (.slice da dl dc) (.int .i64 root)) 28)).alloc (.cells (spA (List.replicate dl (0,0))) 103)) (W.heap.size+1) 28 (tr4 (.slice a1 n1 c1) (.slice ba bl bc) (.slice da dl dc) (.int .i64 root))):=by
  have:=(HasC.new (W.alloc (.cells (kdA f d) 23)) 28 (tr4 (.slice a1 n1 c1) (.slice ba bl bc) (.slice da dl dc) (.int .i64 root))).alloc (.cells (spA (List.replicate dl (0,0))) 103)
  simp only[World.size_alloc] at this
  exact hide this
 have HG0:Hid (HasC (((W.alloc (.cells (kdA f d) 23)).alloc (.cells (tr4 (.slice a1 n1 c1) (.slice ba bl bc) (.slice da dl dc) (.int .i64 root)) 28)).alloc (.cells (spA (List.replicate dl (0,0))) 103)) (W.heap.size+1+1) 103 (spA (List.replicate dl (0,0)))):=by
  have:=HasC.new ((W.alloc (.cells (kdA f d) 23)).alloc (.cells (tr4 (.slice a1 n1 c1) (.slice ba bl bc) (.slice da dl dc) (.int .i64 root)) 28)) 103 (spA (List.replicate dl (0,0)))
  simp only[World.size_alloc] at this
  exact hide this
 have HB0:=hide hb3
 have HBI:=hide hB
 have HNI:=hide hN
 have HLN:=hide hN.len
 have HLB:=hide hB.len
 have HW:=hide hw
 clear hb1 hb2 hb3 hB hN hw
 go_enter Tryz.func34,Tryz.ntmps34
 go_wp2_with fail
 go_loopw [18] (fun i wr=>∃(k:Nat) (S:Sps),k<=dl/\i=.int .i64 k/\Hid (spR f d BS (NS.take k) []=(S,0))/\Hid (HasC wr (W.heap.size+1+1) 103 (spA (S++List.replicate (dl-k) (0,0))))/\Hid (HasC wr W.heap.size 23 (kdA f d))/\Hid (HasC wr (W.heap.size+1) 28 (tr4 (.slice a1 n1 c1) (.slice ba bl bc) (.slice da dl dc) (.int .i64 root)))/\Hid (Below W.heap.size W wr)) (fun i _=>dl-(intOf i).toNat)
 case atStart=>exact⟨0,[],Nat.zero_le _,rfl,hide rfl,HG0,HK0,HT0,HB0⟩
 case round =>
  obtain⟨k,S,hk,rfl,HS,HG,HK,HT,HB⟩:=hrel
  rename World=>V
  by_cases hlt:k < dl
  ·obtain⟨g,off,rfl,hat⟩:=(HNI.out.later HB.out).at (by omega)
   obtain⟨e0,e1,e2,e3,e4,e5,e6,e7,e8⟩:=hat k hlt
   clear hat
   have hi0:(0:Int)<=k:=by omega
   have hi1:(k:Int) < dl:=by omega
   have hSl:S.length=k:=by have:=spR_len HS.out;simp at this;rw[HLN.out] at this;omega
   have HWn:=hide (wl_at HW.out (by rw[HLN.out];exact hlt:k < NS.length))
   rw[Nat.zero_add] at HWn
   have HS2:=hide (spR_snoc (n:=NS.getD k n0) HS.out)
   rw[<-take_snoc n0 (by rw[HLN.out];exact hlt)] at HS2
   have HSe:=hide fun(e:Int) (he:e≠0) (h:spR f d BS (NS.take (k+1)) []=([],e))=>(show spR f d BS NS []=([],e) by rw[<-List.take_append_drop (k+1) NS];exact spR_bad h he)
   rw[rep_succ hlt] at HG
   obtain⟨f0,f1⟩:V.cell? ⟨W.heap.size,0,none⟩=some (.int .i64 f)/\V.cell? ⟨W.heap.size,1,none⟩=some (.int .i64 d):=⟨HK.out.cell 0 rfl,HK.out.cell 1 rfl⟩
   have x1:=HT.out.cell 1 rfl
   have hz0:W.heap.size < V.heap.size:=HK.out.lt
   have hz1:W.heap.size+1 < V.heap.size:=HT.out.lt
   have hz2:W.heap.size+1+1 < V.heap.size:=HG.out.lt
   have y0:=HG.out.frozen (k*2)
   have y1:=HG.out.frozen (k*2+1)
   generalize NS.getD k n0=n at *
   by_cases ho:n.op=4
   ·have ho1:(n.op==4)=true:=by simpa using ho
    obtain⟨u0,u1,u2,u3⟩:=HWn.out.use ho
    have hspn:spN f d BS S n=(S.getD (BS.getD n.k.toNat 0).toNat (0,0),0):=by unfold spN;rw[if_pos ho]
    rw[hspn,if_pos rfl] at HS2
    obtain⟨kk,hkk⟩:∃ kk:Nat,n.k=(kk:Int):=⟨n.k.toNat,by omega⟩
    rw[hkk] at e4 u1 u2 u3 HS2
    simp only[Int.toNat_natCast] at u1 u2 u3 HS2
    obtain⟨bb,boff,rfl,hbb,hbc⟩:∃ b off,ba=some ⟨b,off,none⟩/\b < V.heap.size/\V.cell? ⟨b,off+kk,none⟩=some (.int .i64 (BS.getD kk 0)):=by
     rcases(HBI.out.later HB.out).cell with h0|⟨b,off,ha,hlb,hc⟩
     ·rw[HLB.out] at u1;omega
     ·exact⟨b,off,ha,hlb,hc kk (by rw[<-HLB.out];exact u1)⟩
    obtain⟨q,hq⟩:∃ q:Nat,BS.getD kk 0=(q:Int):=⟨(BS.getD kk 0).toNat,by omega⟩
    rw[hq] at hbc u3 HS2
    simp only[Int.toNat_natCast] at u3 HS2
    obtain⟨s0,s1⟩:=spA_get (S++(0,0)::List.replicate (dl-(k+1)) (0,0)) q (by simp;omega)
    rw[getD_pre (by rw[hSl];exact u3)] at s0 s1
    have d0:=HG.out.cell (q*2) s0
    have d1:=HG.out.cell (q*2+1) s1
    generalize S.getD q (0,0)=sv at *
    obtain⟨lo,hi⟩:=sv
    simp only at d0 d1
    have HG2:=hide ((put_sp HG.out hSl lo hi).alloc (.cells #[.int .i64 n.op,.int .i64 n.a,.int .i64 n.b,.int .i64 n.c,.int .i64 kk,.int .i64 n.back,.int .i64 n.co,.int .i64 n.x,.int .i64 n.y] 65))
    have HK2:=hide ((oth2' HK.out (r:=W.heap.size+1+1) (k:=k) (by omega) (.int .i64 lo) (.int .i64 hi)).alloc (.cells #[.int .i64 n.op,.int .i64 n.a,.int .i64 n.b,.int .i64 n.c,.int .i64 kk,.int .i64 n.back,.int .i64 n.co,.int .i64 n.x,.int .i64 n.y] 65))
    have HT2:=hide ((oth2' HT.out (r:=W.heap.size+1+1) (k:=k) (by omega) (.int .i64 lo) (.int .i64 hi)).alloc (.cells #[.int .i64 n.op,.int .i64 n.a,.int .i64 n.b,.int .i64 n.c,.int .i64 kk,.int .i64 n.back,.int .i64 n.co,.int .i64 n.x,.int .i64 n.y] 65))
    have HB2:=hide (bel ((HB.out.setCell (p:=⟨W.heap.size+1+1,k*2,none⟩) (by simp;omega) (.int .i64 lo)).setCell (p:=⟨W.heap.size+1+1,k*2+1,none⟩) (by simp;omega) (.int .i64 hi)) (bel1 _ (.cells #[.int .i64 n.op,.int .i64 n.a,.int .i64 n.b,.int .i64 n.c,.int .i64 kk,.int .i64 n.back,.int .i64 n.co,.int .i64 n.x,.int .i64 n.y] 65)))
    obtain⟨ca,hca⟩:=spA_get (S++(0,0)::List.replicate (dl-(k+1)) (0,0)) k (by simp;omega)
    have da:=HG.out.cell (k*2) ca
    have db:=HG.out.cell (k*2+1) hca
    clear ca hca
    have w0:(kk:Int) < bl:=by have:=HLB.out;omega
    have w1:(q:Int) < dl:=by omega
    have w2:(0:Int)<=kk:=by omega
    have w3:(0:Int)<=q:=by omega
    clear s0 s1 hq u0 u1 u2 u3 hspn ho HWn HSe hmk
    go_wp2_with fail
    go_roundw
    case rel=>exact⟨k+1,S++[(lo,hi)],by omega,by go_num,hide HS2.out,hide (by rw[List.append_assoc];exact HG2.out),hide HK2.out,hide HT2.out,hide HB2.out⟩
    case measure=>simp[intOf];omega
   ·have ho1:(n.op==4)=false:=by simpa using ho
    have HSp:=hide (spans_has HG.out (by simp;omega))
    rw[show (S++(0,0)::List.replicate (dl-(k+1)) ((0:Int),(0:Int))).length=dl by simp;omega] at HSp
    have hl:=bel1 V (.cells (ndA n) 65)
    have HOf:=hide (spanOf_any f d hm HWn.out ho (HSp.out.later hl) (by omega))
    rw[spN_pre (by rw[hSl];exact HWn.out)] at HOf
    have HG1:=hide (HG.out.alloc (.cells (ndA n) 65))
    have HK1:=hide (HK.out.alloc (.cells (ndA n) 65))
    have HT1:=hide (HT.out.alloc (.cells (ndA n) 65))
    have HN1:=hide (HasC.new V 65 (ndA n))
    have HB1:=hide (bel HB.out hl)
    obtain⟨⟨⟨lo,hi⟩,er⟩,hZ⟩:∃ Z,spN f d BS S n=Z:=⟨_,rfl⟩
    rw[hZ] at HOf HS2
    clear hZ hl ho HWn HSp hmk
    go_wp2_with fail
    refine HOf.out.mono ?_
    rintro e V1 ⟨rfl,hb⟩
    by_cases he:er=0
    ·subst he
     rw[if_pos rfl] at HS2
     have HGa:=hide (HG1.out.below hb)
     have HKa:=hide (HK1.out.below hb)
     have HTa:=hide (HT1.out.below hb)
     have HBa:=hide (bel HB1.out hb)
     have hza:=HGa.out.lt
     have ya:=HGa.out.frozen (k*2)
     have yb:=HGa.out.frozen (k*2+1)
     obtain⟨ca,hca⟩:=spA_get (S++(0,0)::List.replicate (dl-(k+1)) (0,0)) k (by simp;omega)
     have da:=HGa.out.cell (k*2) ca
     have db:=HGa.out.cell (k*2+1) hca
     have HG2:=hide ((put_sp HGa.out hSl lo hi).alloc (.cells #[.int .i64 lo,.int .i64 hi] 103))
     have HK2:=hide ((oth2' HKa.out (r:=W.heap.size+1+1) (k:=k) (by omega) (.int .i64 lo) (.int .i64 hi)).alloc (.cells #[.int .i64 lo,.int .i64 hi] 103))
     have HT2:=hide ((oth2' HTa.out (r:=W.heap.size+1+1) (k:=k) (by omega) (.int .i64 lo) (.int .i64 hi)).alloc (.cells #[.int .i64 lo,.int .i64 hi] 103))
     have HB2:=hide (bel ((HBa.out.setCell (p:=⟨W.heap.size+1+1,k*2,none⟩) (by simp;omega) (.int .i64 lo)).setCell (p:=⟨W.heap.size+1+1,k*2+1,none⟩) (by simp;omega) (.int .i64 hi)) (bel1 _ (.cells #[.int .i64 lo,.int .i64 hi] 103)))
     clear hb HG1 HK1 HT1 HB1 HN1 HG HK HT HB HOf e0 e1 e2 e3 e4 e5 e6 e7 e8 ca hca f0 f1 x1 y0 y1 HSe
     go_wp2_with fail
     go_roundw
     case rel=>exact⟨k+1,S++[(lo,hi)],by omega,by go_num,hide HS2.out,hide (by rw[List.append_assoc];exact HG2.out),hide HK2.out,hide HT2.out,hide HB2.out⟩
     case measure=>simp[intOf];omega
    ·rw[if_neg he] at HS2
     have hne:(er != 0)=true:=by simpa using he
     have HF:=hide (HSe.out er he HS2.out)
     have HBa:=hide (bel HB1.out hb)
     clear hb
     have HE:=hide he
     clear he
     go_wp2_with fail
     exact bodyPost_ret (v:=.tuple #[.slice none 0 0,.int .i64 er]) (by simp[results,Tryz.results34,go_sem]) rfl (.inl (by rw[HF.out];exact⟨HE.out,rfl,bel HBa.out (bel1 _ _)⟩))
  ·obtain rfl:k=dl:=by omega
   have e:NS.take k=NS:=List.take_of_length_le (by rw[HLN.out];exact Nat.le_refl _)
   have hZ:=HS.out
   rw[e] at hZ
   have HZ:=hide hZ
   have HG1:=hide HG.out
   rw[Nat.sub_self,List.replicate_zero,List.append_nil] at HG1
   clear hZ
   go_wp2_with fail
   exact bodyPost_ret (v:=.tuple #[.slice (some ⟨W.heap.size+1+1,0,none⟩) k k,.int .i64 0]) (by simp[results,Tryz.results34,go_sem]) rfl (.inr (by rw[HZ.out];exact⟨rfl,_,rfl,by omega,HG1.out,HB.out⟩))
theorem cost_any (o:Int)(W:World):Calls Tryz.prog 43 #[.int .i64 o] W fun e W'=>e=.returned (.int .i64 (coZ o))/\W'=W:=by
 by_cases h1:o=4
 ·subst h1
  go_enter Tryz.func43,Tryz.ntmps43
  go_wp2
  go_ret
  exact⟨rfl,rfl⟩
 by_cases h2:o=11
 ·subst h2
  go_enter Tryz.func43,Tryz.ntmps43
  go_wp2
  go_ret
  exact⟨rfl,rfl⟩
 by_cases h3:o=12
 ·subst h3
  go_enter Tryz.func43,Tryz.ntmps43
  go_wp2
  go_ret
  exact⟨rfl,rfl⟩
 have e:coZ o=1:=by unfold coZ;rw[if_neg h1,if_neg h2,if_neg h3]
 rw[e]
 have e1:(o==4)=false:=by simpa using h1
 have e2:(o==11)=false:=by simpa using h2
 have e3:(o==12)=false:=by simpa using h3
 clear h1 h2 h3 e
 go_enter Tryz.func43,Tryz.ntmps43
 go_wp2
 go_ret
 exact⟨rfl,rfl⟩
theorem costOf_any {W:World}{da:Option Addr}{dl dc:Nat}{NS:List Nd}(hN:Nz W da dl dc NS)(hd:dl<=1024) :
  Calls Tryz.prog 35 #[.slice da dl dc] W fun e W'=>e=.returned (.int .i64 (coR NS))/\Below W.heap.size W W':=by
 have HNI:=hide hN
 have HLN:=hide hN.len
 clear hN
 go_enter Tryz.func35,Tryz.ntmps35
 go_wp2_with fail
 go_loopw [3,8] (fun s i wr=>∃(k:Nat) (c:Int),k<=dl/\i=.int .i64 k/\s=.int .i64 c/\0<=c/\c<=6*k/\Hid (c=coR (NS.take k))/\Hid (Below W.heap.size W wr)) (fun _ i _=>dl-(intOf i).toNat)
 case atStart=>exact⟨0,0,Nat.zero_le _,rfl,rfl,Int.le_refl _,Int.le_refl _,hide rfl,hide (Below.refl _ _)⟩
 case round =>
  obtain⟨k,c,hk,rfl,rfl,hc0,hc6,HC,HB⟩:=hrel
  rename World=>V
  by_cases hlt:k < dl
  ·obtain⟨g,off,rfl,hat⟩:=(HNI.out.later HB.out).at (by omega)
   obtain⟨e0,e1,e2,e3,e4,e5,e6,e7,e8⟩:=hat k hlt
   clear hat
   have hi0:(0:Int)<=k:=by omega
   have hi1:(k:Int) < dl:=by omega
   have HC2:=hide (show c+coZ (NS.getD k n0).op=coR (NS.take (k+1)) by rw[take_snoc n0 (by rw[HLN.out];exact hlt),coR_snoc,HC.out])
   obtain⟨z0,z6⟩:=coZ_in (NS.getD k n0).op
   generalize NS.getD k n0=n at *
   go_wp2_with fail
   refine(cost_any _ _).mono ?_
   rintro e V1 ⟨rfl,rfl⟩
   generalize coZ n.op=z at *
   go_wp2_with fail
   go_roundw
   case rel=>exact⟨k+1,c+z,by omega,by go_num,by go_num,by omega,by omega,hide HC2.out,hide (bel HB.out (bel1 _ _))⟩
   case measure=>simp[intOf];omega
  ·obtain rfl:k=dl:=by omega
   go_wp2_with fail
   go_ret
   have e:NS.take k=NS:=List.take_of_length_le (by rw[HLN.out];exact Nat.le_refl _)
   exact⟨ret_int (show c=coR NS by rw[HC.out,e]),HB.out⟩
theorem max_snoc (D:List Int)(k:Nat)(hk:k < D.length):(D.take (k+1)).foldl max 0=max ((D.take k).foldl max 0) (D.getD k 0):=by
 rw[take_snoc 0 hk,List.foldl_append];rfl
theorem smax_any {W:World}{a:Option Addr}{n cap:Nat}{D:List Int}(hD:Iz W a n cap D)(hn:1<=n)(h1:∀ x ∈ D,1<=x) :
  Calls Tryz.prog 36 #[.slice a n cap] W fun e W'=>e=.returned (.int .i64 (mxR D))/\W'=W:=by
 have hm:n<=9223372036854775807:=by have:=hD.le;have:=hD.max;unfold maxLen at *;omega
 obtain⟨b,off,rfl,hc⟩:∃ b off,a=some ⟨b,off,none⟩/\∀ i,i < n->W.cell? ⟨b,off+i,none⟩=some (.int .i64 (D.getD i 0)):=by
  rcases hD.cell with h0|⟨b,off,ha,-,hc⟩
  ·omega
  ·exact⟨b,off,ha,hc⟩
 have HLN:=hide hD.len
 have c0:=hc 0 (by omega)
 rw[Nat.add_zero] at c0
 have hi0:(1:Int)<=n:=by omega
 have hi1:(0:Int) < n:=by omega
 have H0:=hide (show D.getD 0 0=(D.take 1).foldl max 0 by
  have h2:=max_snoc D 0 (by rw[hD.len];omega)
  have h3:1<=D.getD 0 0:=by
   rw[List.getD_eq_getElem?_getD,List.getElem?_eq_getElem (by rw[hD.len];omega)]
   exact h1 _ (List.getElem_mem _)
  rw[h2]
  simp only[List.take_zero,List.foldl_nil]
  omega)
 have HC:=hide hc
 clear hc hD h1
 generalize D.getD 0 0=d0 at *
 go_enter Tryz.func36,Tryz.ntmps36
 go_wp2_with fail
 go_loop [3,4] (fun m i=>∃(k:Nat) (c:Int),1<=k/\k<=n/\i=.int .i64 k/\m=.int .i64 c/\Hid (c=(D.take k).foldl max 0)) (fun _ i=>n-(intOf i).toNat)
 case atStart=>exact⟨1,d0,Nat.le_refl _,hn,rfl,rfl,H0⟩
 case round =>
  obtain⟨k,c,hk1,hk,rfl,rfl,HM⟩:=hrel
  by_cases hlt:k < n
  ·have c1:=HC.out k hlt
   have j0:(0:Int)<=k:=by omega
   have j1:(k:Int) < n:=by omega
   have HM2:=hide (show max c (D.getD k 0)=(D.take (k+1)).foldl max 0 by rw[max_snoc D k (by rw[HLN.out];exact hlt),HM.out])
   generalize D.getD k 0=x at *
   go_wp2_with fail
   go_round
   case rel=>exact⟨k+1,max c x,by omega,by omega,by go_num,rfl,HM2⟩
   case measure=>simp[intOf];omega
  ·obtain rfl:k=n:=by omega
   go_wp2_with fail
   go_ret
   have e:D.take k=D:=List.take_of_length_le (by rw[HLN.out];exact Nat.le_refl _)
   exact⟨ret_int (show c=mxR D by rw[HM.out,e];rfl),rfl⟩
end Go.Proofs.YtngnnijpdjhelaaGreat
