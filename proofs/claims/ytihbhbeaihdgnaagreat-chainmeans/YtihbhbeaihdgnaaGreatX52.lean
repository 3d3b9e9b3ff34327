/-
  ChainMeans: of every kind, text, order and window the law returns true: the chain of a program's code, behind any passes, answers what the tree comes to; and the arguments read as before.
-/
import Derived.Test.YtihbhbeaihdgnaaGreatXH
import Derived.Test.YtihbhbeaihdgnaaGreatRows
import Derived.Test.YtihbhbeaihdgnaaGreatX50
import Derived.Test.YtihbhbeaihdgnaaGreatX51
import Derived.Test.YtihbhbeaihdgnaaGreatX12
import Derived.Test.YtihbhbeaihdgnaaGreatX23
set_option maxRecDepth 100000
set_option maxHeartbeats 32000000
set_option linter.unusedVariables false
namespace Go.Proofs.Chn
open Go.RowKit Go.IntWalk Lx Pz
open YtihbhbeaihdgnaaGreat (Wd fD Fits bX fC aB bel aC aA nD wR evV tL jG xS aAg aAx)
open Cde (In i0 ia kd cd Ins bU iR aD aQ)
open Vfy (aZ)
open Pss (psF okP rnE rnI rnU rnK)
variable {P:List Int} {W:World}
theorem aOq (f d out:Int){a oa:Option Addr}{n cap m oc:Nat}{L:List In}(hL:Ins W a n cap L)(hP:Knd.Ints W oa m oc P) :
  Calls Tryz.prog 16 #[.agg (cd f d a n cap out),.slice oa m oc] W fun e W'=>∃ F D a' c' u J,e=.returned (.tuple #[.agg (cd F D a' J.length c' u),.int .i64 (rnE f d L out P)])/\(rnE f d L out P=0->F=f/\D=d/\psF f d P (L,out)=(J,u))/\Ins W' a' J.length c' J/\Below W.heap.size W W':=by
 refine(Pss.aOr f d out hL hP).mono ?_
 rintro e W' ⟨a',c',rfl,hO,hb⟩
 obtain⟨a2,c2,e2,hIn,-⟩:=Ins.of_owns hO
 cases e2
 exact⟨_,_,_,_,_,_,rfl,fun h=>⟨by rw[rnK,if_pos h],by rw[rnK,if_pos h],by rw[rnI,rnU,if_pos h,if_pos h]⟩,hIn,hb⟩
theorem aVp {f d:Int}{I:List In}{o:Int}(h:aZ f d I o=0):(okP P=true/\rnE f d I o P=0)\/rnE f d I o P=1:=by
 cases hP:okP P
 ·exact .inr (by rw[rnE,if_neg (by rw[hP];decide)])
 ·exact .inl ⟨rfl,by rw[rnE,if_pos hP,h]⟩
structure Mv (W V:World)(bt bk:Nat)(kv wv tv cv:Array Value):Prop where
 k:aB V W.heap.size 23 kv
 w:aB V (W.heap.size+1) 44 wv
 t:aB V bt 55 tv
 c:aB V bk 26 cv
 lo:Below W.heap.size W V
theorem Mv.below {W V V':World}{bt bk:Nat}{kv wv tv cv:Array Value}(h:Mv W V bt bk kv wv tv cv)(hb:Below V.heap.size V V'):Mv W V' bt bk kv wv tv cv :=
 ⟨h.k.below hb,h.w.below hb,h.t.below hb,h.c.below hb,bel h.lo hb⟩
theorem aDq (f d:Int)(s:ByteArray)(v:Wd){oa pa:Option Addr}{om oc pl pc:Nat}(hO:Knd.Ints W oa om oc P)(hP:Knd.Ints W pa pl pc v.ps) :
  Calls Tryz.prog 4 #[.agg (bX f d),.string s,.slice oa om oc,.agg (fD v pa pl pc)] W fun e w'=>e=.returned (.bool true)/\Below W.heap.size W w':=by
 have HA:=aA fun V=>aFn V
 have HPa:=aA fun V=>xS s V
 have hb1:=aC W (.cells (bX f d) 23)
 have HB0:=aA (bel hb1 (aC (W.alloc (.cells (bX f d) 23)) (.cells (fD v pa pl pc) 44)))
 have HK0:=aA ((YtihbhbeaihdgnaaGreat.aB.new W 23 (bX f d)).alloc (.cells (fD v pa pl pc) 44))
 have HW0:=aA (YtihbhbeaihdgnaaGreat.aBo W (.cells (bX f d) 23) 44 (fD v pa pl pc))
 have HPI:=aA hP
 have HOI:=aA hO
 clear hb1 hP hO
 go_enter Tryz.func4,Tryz.ntmps4
 go_wp2_with fail
 refine(HPa.o _).mono ?_
 rintro e V1 ⟨NM,BS,NS,root,na,nl,nc,ba,bl,bc,da,dl,dc,er,rfl,her,hsh,hX,hI,hN,hb⟩
 have HEr:=aA her
 have HSh:=aA hsh
 have hb2:=aC V1 (.cells (fC (.slice na nl nc) (.slice ba bl bc) (.slice da dl dc) (.int .i64 root)) 55)
 have HK1:=aA ((HK0.o.below hb).below hb2)
 have HW1:=aA ((HW0.o.below hb).below hb2)
 have HT1:=aA (YtihbhbeaihdgnaaGreat.aB.new V1 55 (fC (.slice na nl nc) (.slice ba bl bc) (.slice da dl dc) (.int .i64 root)))
 have HB1:=aA (bel (bel HB0.o hb) hb2)
 have HX:=aA (hX.later hb2)
 have HI:=aA (hI.later hb2)
 have HN:=aA (hN.later hb2)
 have HLw:=aA (aAg f d (root:=root) HX.o HI.o HN.o HSh.o)
 obtain⟨k0,k1,-,-⟩:=YtihbhbeaihdgnaaGreat.aQ (HK0.o.below hb)
 have z0:=(HK0.o.below hb).lt
 clear her hsh hX hI hN hb hb2 HPa HK0 HW0 HB0
 obtain⟨ce,hce⟩:∃ ce,nD f d NM BS NS root=ce:=⟨_,rfl⟩
 rw[hce] at HLw
 have HCe:=aA hce
 clear hce
 go_wp2_with fail
 refine HLw.o.mono ?_
 rintro e V2 ⟨F,D,I,o,ca,cc,rfl,hIn,hI0,hI1,hb⟩
 have hb2:=aC V2 (.cells (cd F D ca I.length cc o) 26)
 have HM2:Hid (Mv W (V2.alloc (.cells (cd F D ca I.length cc o) 26)) V1.heap.size V2.heap.size (bX f d) (fD v pa pl pc) (fC (.slice na nl nc) (.slice ba bl bc) (.slice da dl dc) (.int .i64 root)) (cd F D ca I.length cc o)) :=
  aA ⟨(HK1.o.below hb).below hb2,(HW1.o.below hb).below hb2,(HT1.o.below hb).below hb2,YtihbhbeaihdgnaaGreat.aB.new _ _ _,bel (bel HB1.o hb) hb2⟩
 have HC2:=aA (hIn.later hb2)
 have HI1:=aA hI1
 have HX2:=aA ((HX.o.later hb).later hb2)
 have HB2:=aA ((HI.o.later hb).later hb2)
 have HN2:=aA ((HN.o.later hb).later hb2)
 have HZ:=aA (aOq F D o (P:=P) HC2.o (HOI.o.later HM2.o.lo))
 obtain⟨c0,c1,c2,c3⟩:=aD HM2.o.c
 generalize V1.heap.size=bt at *
 clear hIn hI0 hI1 hb hb2 HK1 HW1 HT1 HB1 HX HI HN HLw k0 k1 z0
 go_wp2_with fail
 generalize V2.heap.size=bk at *
 refine HZ.o.mono ?_
 rintro e V3 ⟨F2,D2,a3,c3',u,J,rfl,hJ,hJn,hb⟩
 obtain⟨re,hre⟩:∃ re,rnE F D I o P=re:=⟨_,rfl⟩
 rw[hre] at hJ ⊢
 have HRe:=aA hre
 have hb2:=aC V3 (.cells (cd F2 D2 a3 J.length c3' u) 26)
 have HM3:=aA ((HM2.o.below hb).below hb2)
 have HX3:=aA ((HX2.o.later hb).later hb2)
 have HB3:=aA ((HB2.o.later hb).later hb2)
 have HN3:=aA ((HN2.o.later hb).later hb2)
 have HJn3:=aA (hJn.later hb2)
 have HD3:=aA (YtihbhbeaihdgnaaGreat.aB.new V3 26 (cd F2 D2 a3 J.length c3' u))
 have HJ:=aA hJ
 clear hre hJ hJn hb hb2 HM2 HC2 HX2 HB2 HN2 HZ c0 c1 c2 c3
 go_wp2_with fail
 generalize V3.heap.size=bd at *
 refine(HA.o _).mono ?_
 rintro e V4 ⟨rfl,hb⟩
 have HM4:=aA (HM3.o.below hb)
 have HX4:=aA (HX3.o.later hb)
 have HB4:=aA (HB3.o.later hb)
 have HN4:=aA (HN3.o.later hb)
 have HJn4:=aA (HJn3.o.later hb)
 have HD4:=aA (HD3.o.below hb)
 clear hb HM3 HX3 HB3 HN3 HJn3 HD3
 by_cases h1:ce=0
 ·subst h1
  have h0:er=0:=Classical.byContradiction fun h=>by
   have h2:=jG HCe.o
   rw[HEr.o h] at h2
   cases h2
  subst h0
  obtain⟨rfl,rfl,hIl,hol⟩:=HI1.o rfl
  obtain⟨t1,-⟩:=YtihbhbeaihdgnaaGreat.xJ HCe.o hIl hol
  rcases aVp (P:=P) t1 with⟨hok,hr0⟩|hr1
  ·rw[HRe.o] at hr0
   subst hr0
   obtain⟨rfl,rfl,hJ⟩:=HJ.o rfl
   obtain⟨-,t2,R,hR,hR0,hR1⟩:=aFy HCe.o v hIl hol hJ
   have HT2:=aA t2
   have HN1:=aA fun(V:World) (h:Ins V a3 J.length c3' J)=>aDl F2 D2 u h
   have HR1:=aA fun(V:World) (lo g b n:Nat) (h:Hm V lo g F2 D2 J u b n) (hb:Below W.heap.size W V)=>aDm v h (HPI.o.later hb) t2
   have hv:hrV (iR F2 D2 v J u) u=.tuple #[.int .i64 (evV F2 D2 v NM BS NS root),.int .i64 (wR F2 D2 v NM BS NS root)]:=by
    rw[hR,hrV,hrX]
    by_cases he:wR F2 D2 v NM BS NS root=0
    ·rw[if_pos he,(hR0 he).2]
    ·rw[if_neg he,(hR1 he).2]
   rw[hv] at HR1
   have HEv:=aA fun(V:World) hx hi hn (hb:Below W.heap.size W V)=>aAx F2 D2 v (W:=V) (root:=root) (NM:=NM) (BS:=BS) (NS:=NS) (na:=na) (nl:=nl) (nc:=nc) (ba:=ba) (bl:=bl) (bc:=bc) (da:=da) (dl:=dl) (dc:=dc) hx hi hn HSh.o (HPI.o.later hb)
   generalize wR F2 D2 v NM BS NS root=ev at *
   generalize evV F2 D2 v NM BS NS root=x at *
   generalize J.length=jl at *
   have p3:(ev==ev)=true:=by simp
   have p4:(x==x)=true:=by simp
   clear hv hR hR0 hR1 t1 t2 hJ hok hIl hol HI1 HCe HEr HRe HJ
   obtain⟨d0,d1,d2,d3⟩:=aD HD4.o
   go_wp2_with fail
   refine(HN1.o _ HJn4.o).mono ?_
   rintro e V5 ⟨hb,⟨hn0,-⟩|⟨-,g1,b1,n1,rfl,hM1⟩⟩
   ·exact absurd HT2.o hn0
   have HM5:=aA (HM4.o.below hb)
   have HX5:=aA (HX4.o.later hb)
   have HB5:=aA (HB4.o.later hb)
   have HT5:=aA (HN4.o.later hb)
   have HU5:=aA hM1
   clear hb hM1 HM4 HX4 HB4 HN4 HJn4 HD4 HN1 d0 d1 d2 d3
   obtain⟨w0,w1,w2,w3⟩:=aD HM5.o.w
   go_wp2_with fail
   refine(HR1.o _ _ _ _ _ HU5.o HM5.o.lo).mono ?_
   rintro e V6 ⟨rfl,hb⟩
   have HM6:=aA (HM5.o.below hb)
   have HX6:=aA (HX5.o.later hb)
   have HB6:=aA (HB5.o.later hb)
   have HT6:=aA (HT5.o.later hb)
   clear hb HM5 HX5 HB5 HT5 HU5 HR1 w0 w1 w2 w3
   obtain⟨k0,k1',-,-⟩:=YtihbhbeaihdgnaaGreat.aQ HM6.o.k
   obtain⟨t0,t1,t2,t3⟩:=YtihbhbeaihdgnaaGreat.aD HM6.o.t
   obtain⟨w0,w1,w2,w3⟩:=aD HM6.o.w
   go_wp2_with fail
   refine(HEv.o _ HX6.o HB6.o HT6.o HM6.o.lo).mono ?_
   rintro e V7 ⟨rfl,hb⟩
   have HBe:=aA (bel HM6.o.lo hb)
   clear hb HM6 HX6 HB6 HT6 HEv k0 k1' t0 t1 t2 t3 w0 w1 w2 w3
   go_wp2_with fail
   go_ret
   exact⟨rfl,HBe.o⟩
  ·rw[HRe.o] at hr1
   subst hr1
   clear t1 hIl hol HI1 HCe HEr HRe HJ
   go_wp2_with fail
   refine(HA.o _).mono ?_
   rintro e V7 ⟨rfl,hb7⟩
   have HB7:=aA (bel HM4.o.lo hb7)
   clear hb7
   go_wp2_with fail
   go_ret
   exact⟨rfl,HB7.o⟩
 ·have hr1:(ce != 0)=true:=by simpa using h1
  clear h1 HI1 HRe HJ
  by_cases h0:er=0
  ·have hr:(er != 0)=false:=by simpa using h0
   clear h0
   go_wp2_with fail
   refine(HA.o _).mono ?_
   rintro e V7 ⟨rfl,hb7⟩
   have HB7:=aA (bel HM4.o.lo hb7)
   clear hb7
   go_wp2_with fail
   go_ret
   exact⟨rfl,HB7.o⟩
  ·have hr:(er != 0)=true:=by simpa using h0
   clear h0
   go_wp2_with fail
   refine(HA.o _).mono ?_
   rintro e V7 ⟨rfl,hb7⟩
   have HB7:=aA (bel HM4.o.lo hb7)
   clear hb7
   go_wp2_with fail
   go_ret
   exact⟨rfl,HB7.o⟩
end Go.Proofs.Chn
namespace Go.Proofs.YtihbhbeaihdgnaaGreat
open Go.ChangeShapes Go.WideShapes Go.ChangeAt Go.RowKit
theorem rV (os:Os)(started:os.Started)(H:Type)(enc:TypeId × Value->H) :
  ReturnsInHanded {} Tryz.checked os 4 .any (Rows.chainMeansSpec.pre6 enc Tryz.prog Tryz.f4 Rows.chainMeansRow.domain false) (Rows.chainMeansSpec.post enc Tryz.prog Tryz.f4 false true false false):=by
 refine returnsInHanded_of_change (C:=Tryz.checked) aYo started (by kernel_rfl) Tryz.func4
  (ChangeSpec.witness6 (enc:=enc) (C:=Tryz.checked) false ⟨#[],#[.agg #[.int .i64 0,.int .i64 0],.string ⟨#[]⟩,.slice none 0 0,.agg #[.int .i64 0,.int .i64 0,.int .i64 0,.slice none 0 0]],[]⟩ 8 (by kernel_rfl) (by kernel_rfl) (by kernel_rfl) (by kernel_rfl)) ?_
 intro W base args ds gs before hval0 hW hcnd _
 have hval:∀(j:Nat) t v,Tryz.f4.params[j]?=some t->args[j]?=some v->Value.okWide Tryz.prog W .any base t v:=hval0
 have hW':=hW
 obtain⟨p,q,hA0,hV,rfl,hfz,hnd⟩:=hW
 have hA:DataW.TrodAll enc Tryz.prog W 0 (fun _=>true) true Tryz.f4.params.toList args.toList ds p:=hA0
 rw[Tryz.params4] at hA hval
 obtain⟨v0,vs0,d0,ds0,p0,q0,hargs,rfl,rfl,h0,r0⟩:=trodAll_cons hA
 obtain⟨v1,vs1,d1,ds1,p1,q1,rfl,rfl,rfl,h1,r1⟩:=trodAll_cons r0
 obtain⟨v2,vs2,d2,ds2,p2,q2,rfl,rfl,rfl,h2,r2⟩:=trodAll_cons r1
 obtain⟨v3,vs3,d3,ds3,p3,q3,rfl,rfl,rfl,h3,r3⟩:=trodAll_cons r2
 obtain⟨rfl,rfl,rfl⟩:=trodAll_nil r3
 obtain rfl:args=#[v0,v1,v2,v3]:=by cases args;simp_all
 obtain⟨rfl,rfl⟩:=trodVars_none hV
 have k0:=h0
 have lt0:∀ x ∈ p0,x.block < W.heap.size:=by obtain⟨m,hm⟩:=k0;exact DataW.trod_lt m _ _ _ hm
 obtain⟨f0,e0,rfl⟩:=aJd (hval 0 23 v0 rfl rfl) h0
 have k1:=h1
 have lt1:∀ x ∈ p1,x.block < W.heap.size:=by obtain⟨m,hm⟩:=k1;exact DataW.trod_lt m _ _ _ hm
 obtain⟨s1,rfl,hd1,hp1,hs1⟩:=Go.ChangeMaps.open_string Tryz.underlying9 (hval 1 9 v1 rfl rfl) h1
 have k2:=h2
 have lt2:∀ x ∈ p2,x.block < W.heap.size:=by obtain⟨m,hm⟩:=k2;exact DataW.trod_lt m _ _ _ hm
 obtain⟨a2,n2,c2,L2,rfl,hZ2,-⟩:=Pss.aF4 (hval 2 42 v2 rfl rfl) h2
 have k3:=h3
 have lt3:∀ x ∈ p3,x.block < W.heap.size:=by obtain⟨m,hm⟩:=k3;exact DataW.trod_lt m _ _ _ hm
 obtain⟨a3,b3,c3,sa3,sn3,sc3,zs3,rfl,hZ3⟩:=aD7 (hval 3 44 v3 rfl rfl) h3
 clear hA0 hval0
 refine(Chn.aDq f0 e0 s1 ⟨a3,b3,c3,zs3⟩ hZ2 hZ3).mono fun e W' ⟨he,bel⟩=>?_
 subst he
 exact⟨_,rfl,_,_,_,[],_,[],hW',trodAll_mk1 (shut_bool Tryz.underlying4 _),trodAll_cons_mk (Below.trod sH (by kernel_rfl) (of_decide_eq_true (by kernel_rfl)) k0 bel lt0) (trodAll_cons_mk (Below.trod sH (by kernel_rfl) (of_decide_eq_true (by kernel_rfl)) k1 bel lt1) (trodAll_cons_mk (Below.trod sH (by kernel_rfl) (of_decide_eq_true (by kernel_rfl)) k2 bel lt2) (trodAll_cons_mk (Below.trod sH (by kernel_rfl) (of_decide_eq_true (by kernel_rfl)) k3 bel lt3) (trodAll_mk0)))),rfl,bel.frame _,fun h=>by cases h⟩
theorem chainMeans_holds:Rows.ChainMeansSaid :=
 OpenClaim.holds_of_wide 4 Tryz.f4 rfl rfl rfl rfl rfl rfl rfl ⟨rfl,rfl,rfl,rfl,rfl⟩ rfl rfl rfl rfl rfl (by kernel_rfl) Tryz.func4 (by kernel_rfl)
  (of_decide_eq_true (by kernel_rfl)) (by unfold Func.isWrapper;first|(rw[if_pos (by decide +kernel)];kernel_rfl)|(rw[if_neg (by decide +kernel)];exact⟨rfl,rfl⟩))
  (fun os started H enc _=>rV os started H enc)
#print axioms chainMeans_holds
end Go.Proofs.YtihbhbeaihdgnaaGreat
