/-
  VmMeans: of every kind, text and window the law returns true: the machine of a program's code, before and behind the usual passes, answers what the tree comes to, in no more steps than its cost; and the arguments read as before.
-/
import Derived.Test.YtjmfboegnmogdaaGreatXH
import Derived.Test.YtjmfboegnmogdaaGreatRows
import Derived.Test.YtjmfboegnmogdaaGreatX28
import Derived.Test.YtjmfboegnmogdaaGreatX31
import Derived.Test.YtjmfboegnmogdaaGreatX49
import Derived.Test.YtjmfboegnmogdaaGreatX51
import Derived.Test.YtjmfboegnmogdaaGreatX12
set_option maxRecDepth 100000
set_option maxHeartbeats 32000000
set_option linter.unusedVariables false
namespace Go.Proofs.Vmm
open Go.RowKit Go.IntWalk Lx Pz
open YtjmfboegnmogdaaGreat (Wd gM Fits inpV nH evE evV tK aL9 aDq jH jC xL dW wT)
open Cde (In i0 ia kd cd Ins bU iG dV aS)
open Vfy (bB aM mX)
open Pss (psF jG qA aFg rnE rnI rnU rnK okP)
structure Mn (ev x s1 s2 co:Int)(r1 r2:Value):Prop where
 a:r1=.tuple #[.int .i64 x,.int .i64 s1,.int .i64 ev]
 b:r2=.tuple #[.int .i64 x,.int .i64 s2,.int .i64 ev]
 p:s1<=co
 q:s2<=co
 z:ev≠0\/(0 < s1/\0 < s2)
theorem aH0 {D:List Int}{o x:Int}{n:Nat}(h:D.length=n)(hx:D.getD o.toNat 0=x):aEl (0,D) o=.tuple #[.int .i64 x,.int .i64 n,.int .i64 0]:=by
 simp[aEl,rnX,rnN,h,<-hx]
theorem aMd {f d:Int}{NM:List aQ}{BS:List Int}{NS:List Nd}{root:Int}(h:nH f d NM BS NS root=0)(v:Wd){I J:List In}{o u:Int}(hI:I=(tK f d BS NS).2)(ho:o=(tK f d BS NS).1.getD root.toNat 0)(hJ:psF f d jG (I,o)=(J,u)) :
  bB f d I o=0/\bB f d J u=0/\I.length<=200/\∃ s1 s2,Mn (evE f d v NM BS NS root) (evV f d v NM BS NS root) s1 s2 (dV I) (aEl (iG f d v I o) o) (aEl (iG f d v J u) u):=by
 obtain⟨t1,-⟩:=aDq h hI ho
 have hk:=qA (f:=f) (d:=d) jG (I,o) t1
 rw[hJ] at hk
 obtain⟨mc,-⟩:=aM t1
 obtain⟨-,m1,m2,-,-,-⟩:=aS mc
 have hf1:=aFg mc
 obtain⟨mc2,-⟩:=aM hk.tk
 obtain⟨-,j1,-,-,-,-⟩:=aS mc2
 have hf2:=aFg mc2
 have hco:=hk.co
 dsimp only at hco j1 hf2
 refine⟨t1,hk.tk,by omega,?_⟩
 rcases dW f d v with⟨hF,hf⟩|⟨hF,hf⟩
 ·obtain⟨X,hX⟩:=aL9 h hF
  rw[<-hI] at hX
  have hz:iG f d v I o=(0,X):=by unfold Cde.iG;rw[if_pos mc,if_pos hF];exact hX.run
  have he:evE f d v NM BS NS root=0:=wT.2 ⟨h,hF⟩
  have hrt:=jC (jH h)
  have hv:evV f d v NM BS NS root=X.getD o.toNat 0:=by
   unfold YtjmfboegnmogdaaGreat.evV
   rw[if_pos he,hX.val root.toNat (by rw[(xL h).len];exact hrt.2.1),ho]
  obtain⟨V,U,v1,v2,v3,v4,v5⟩:=hk.vl v hF
  dsimp only at v1 v2 v3 v4 v5
  rw[hz] at v1
  have e:X=V:=congrArg Prod.snd v1
  subst e
  rw[hz,v2,he,hv]
  exact⟨I.length,J.length,aH0 v3 rfl,aH0 v4 v5,by omega,by omega,.inr ⟨by omega,by omega⟩⟩
 ·have he:evE f d v NM BS NS root=1:=by unfold YtjmfboegnmogdaaGreat.evE;rw[if_pos h,hf]
  have hv:evV f d v NM BS NS root=0:=by unfold YtjmfboegnmogdaaGreat.evV;rw[if_neg (by rw[he];decide)]
  rw[mX t1 hF,mX hk.tk hF,he,hv]
  exact⟨0,0,rfl,rfl,by omega,by omega,.inl (by decide)⟩
theorem aOw (f d out:Int){a:Option Addr}{n cap:Nat}{L:List In}{W:World}(hL:Ins W a n cap L)(h:bB f d L out=0){I:List In}{u:Int}(hI:psF f d jG (L,out)=(I,u)){k:Nat}(hk:I.length=k) :
  Calls Tryz.prog 13 #[.agg (cd f d a n cap out)] W fun e W'=>∃ a' c',e=.returned (.tuple #[.agg (cd f d a' k c' u),.int .i64 0])/\Ins W' a' k c' I/\Below W.heap.size W W':=by
 refine(Pss.aKa f d out hL).mono ?_
 rintro e W' ⟨a',c',rfl,hO,hb⟩
 have h1:rnE f d L out jG=0:=by rw[rnE,if_pos (by decide)];exact h
 have e1:rnI f d L out jG=I:=by rw[rnI,if_pos h1,hI]
 rw[e1,hk] at hO
 obtain⟨a2,c2,e2,hIn,-⟩:=Ins.of_owns hO
 cases e2
 exact⟨a',c',by rw[e1,hk];simp[rnK,rnU,h1,hI],hIn,hb⟩
end Go.Proofs.Vmm
namespace Go.Proofs.Vmm
open Go.RowKit Go.IntWalk Lx Pz
open YtjmfboegnmogdaaGreat (Wd gM Fits cK fD aB bel aC aA nH evE evV tK jH xW aAj aA1)
open Cde (In i0 ia kd cd Ins bU iG dV aD aR)
open Vfy (bB)
open Pss (psF jG)
structure Mv (W V:World)(bt bk:Nat)(kv wv tv cv:Array Value):Prop where
 k:aB V W.heap.size 23 kv
 w:aB V (W.heap.size+1) 45 wv
 t:aB V bt 50 tv
 c:aB V bk 26 cv
 lo:Below W.heap.size W V
theorem Mv.below {W V V':World}{bt bk:Nat}{kv wv tv cv:Array Value}(h:Mv W V bt bk kv wv tv cv)(hb:Below V.heap.size V V'):Mv W V' bt bk kv wv tv cv :=
 ⟨h.k.below hb,h.w.below hb,h.t.below hb,h.c.below hb,bel h.lo hb⟩
theorem aE5 (f d:Int)(s:ByteArray)(v:Wd)(pa:Option Addr)(pl pc:Nat)(W:World)(hP:Knd.Ints W pa pl pc v.ps) :
  Calls Tryz.prog 4 #[.agg (cK f d),.string s,.agg (gM v pa pl pc)] W fun e w'=>e=.returned (.bool true)/\Below W.heap.size W w':=by
 have HA:=aA fun V=>aF0 V
 have HPa:=aA fun V=>xW s V
 have hb1:=aC W (.cells (cK f d) 23)
 have HB0:=aA (bel hb1 (aC (W.alloc (.cells (cK f d) 23)) (.cells (gM v pa pl pc) 45)))
 have HK0:=aA ((YtjmfboegnmogdaaGreat.aB.new W 23 (cK f d)).alloc (.cells (gM v pa pl pc) 45))
 have HW0:=aA (YtjmfboegnmogdaaGreat.aBs W (.cells (cK f d) 23) 45 (gM v pa pl pc))
 have HPI:=aA hP
 clear hb1 hP
 go_enter Tryz.func4,Tryz.ntmps4
 go_wp2_with fail
 refine(HPa.o _).mono ?_
 rintro e V1 ⟨NM,BS,NS,root,na,nl,nc,ba,bl,bc,da,dl,dc,er,rfl,her,hsh,hX,hI,hN,hb⟩
 have HEr:=aA her
 have HSh:=aA hsh
 have hb2:=aC V1 (.cells (fD (.slice na nl nc) (.slice ba bl bc) (.slice da dl dc) (.int .i64 root)) 50)
 have HK1:=aA ((HK0.o.below hb).below hb2)
 have HW1:=aA ((HW0.o.below hb).below hb2)
 have HT1:=aA (YtjmfboegnmogdaaGreat.aB.new V1 50 (fD (.slice na nl nc) (.slice ba bl bc) (.slice da dl dc) (.int .i64 root)))
 have HB1:=aA (bel (bel HB0.o hb) hb2)
 have HX:=aA (hX.later hb2)
 have HI:=aA (hI.later hb2)
 have HN:=aA (hN.later hb2)
 have HLw:=aA (aAj f d (root:=root) HX.o HI.o HN.o HSh.o)
 obtain⟨k0,k1,-,-⟩:=YtjmfboegnmogdaaGreat.aR (HK0.o.below hb)
 have z0:=(HK0.o.below hb).lt
 clear her hsh hX hI hN hb hb2 HPa HK0 HW0 HB0
 obtain⟨ce,hce⟩:∃ ce,nH f d NM BS NS root=ce:=⟨_,rfl⟩
 rw[hce] at HLw
 have HCe:=aA hce
 clear hce
 go_wp2_with fail
 refine HLw.o.mono ?_
 rintro e V2 ⟨F,D,I,o,ca,cc,rfl,hIn,hI0,hI1,hb⟩
 have hb2:=aC V2 (.cells (cd F D ca I.length cc o) 26)
 have HM2:Hid (Mv W (V2.alloc (.cells (cd F D ca I.length cc o) 26)) V1.heap.size V2.heap.size (cK f d) (gM v pa pl pc) (fD (.slice na nl nc) (.slice ba bl bc) (.slice da dl dc) (.int .i64 root)) (cd F D ca I.length cc o)) :=
  aA ⟨(HK1.o.below hb).below hb2,(HW1.o.below hb).below hb2,(HT1.o.below hb).below hb2,YtjmfboegnmogdaaGreat.aB.new _ _ _,bel (bel HB1.o hb) hb2⟩
 have HC2:=aA (hIn.later hb2)
 have HI0:=aA hI0
 have HI1:=aA hI1
 have HX2:=aA ((HX.o.later hb).later hb2)
 have HB2:=aA ((HI.o.later hb).later hb2)
 have HN2:=aA ((HN.o.later hb).later hb2)
 clear hIn hI0 hI1 hb hb2 HK1 HW1 HT1 HB1 HX HI HN HLw k0 k1 z0
 go_wp2_with fail
 refine(HA.o _).mono ?_
 rintro e V3 ⟨rfl,hb⟩
 have HM3:=aA (HM2.o.below hb)
 have HC3:=aA (HC2.o.later hb)
 have HX3:=aA (HX2.o.later hb)
 have HB3:=aA (HB2.o.later hb)
 have HN3:=aA (HN2.o.later hb)
 clear hb HM2 HC2 HX2 HB2 HN2
 generalize V1.heap.size=bt at *
 generalize V2.heap.size=bk at *
 by_cases h1:ce=0
 ·subst h1
  have h0:er=0:=Classical.byContradiction fun h=>by
   have h2:=jH HCe.o
   rw[HEr.o h] at h2
   cases h2
  subst h0
  obtain⟨rfl,rfl,hIl,hol⟩:=HI1.o rfl
  obtain⟨⟨J,u⟩,hJ⟩:∃ x,psF F D jG (I,o)=x:=⟨_,rfl⟩
  obtain⟨t1,t2,t3,s1,s2,hmn⟩:=aMd HCe.o v hIl hol hJ
  obtain⟨m,hm⟩:∃ m,J.length=m:=⟨_,rfl⟩
  have HBs:=aA fun(V:World) (h:Ins V ca I.length cc I)=>aOw F D o h t1 hJ hm
  have HN1:=aA fun(V:World) (h:Ins V ca I.length cc I)=>xM F D o h
  have HN2:=aA fun(V:World) (a c':_) (h:Ins V a m c' J)=>xM F D u h
  have HR1:=aA fun(V:World) (lo g:Nat) (a':Option Addr) (n' c':Nat) (h:Mc V lo g F D I o a' n' c') (hb:Below W.heap.size W V)=>xN v h (HPI.o.later hb) t1
  have HR2:=aA fun(V:World) (lo g:Nat) (a':Option Addr) (n' c':Nat) (h:Mc V lo g F D J u a' n' c') (hb:Below W.heap.size W V)=>xN v h (HPI.o.later hb) t2
  rw[hmn.a] at HR1
  rw[hmn.b] at HR2
  have HCo:=aA fun(V:World) (h:Ins V ca I.length cc I)=>Cde.zU F D o h (by omega)
  have HEv:=aA fun(V:World) hx hi hn (hb:Below W.heap.size W V)=>aA1 F D v (W:=V) (root:=root) (NM:=NM) (BS:=BS) (NS:=NS) (na:=na) (nl:=nl) (nc:=nc) (ba:=ba) (bl:=bl) (bc:=bc) (da:=da) (dl:=dl) (dc:=dc) hx hi hn HSh.o (HPI.o.later hb)
  have T1:=aA t1
  have T2:=aA t2
  have q1:=hmn.p
  have q2:=hmn.q
  have q3:=hmn.z
  clear hmn t1 t2 t3 hJ hm hIl hol HI0 HI1 HCe HEr
  generalize dV I=co at *
  generalize evE F D v NM BS NS root=ev at *
  generalize evV F D v NM BS NS root=x at *
  generalize I.length=il at *
  have p1:decide (s1<=co)=true:=by simpa using q1
  have p2:decide (s2<=co)=true:=by simpa using q2
  have p3:(ev==ev)=true:=by simp
  have p4:(x==x)=true:=by simp
  clear q1 q2
  obtain⟨c0,c1,c2,c3⟩:=aD HM3.o.c
  go_wp2_with fail
  refine(HBs.o _ HC3.o).mono ?_
  rintro e V4 ⟨a4,c4,rfl,hI4,hb⟩
  have hb2:=aC V4 (.cells (cd F D a4 m c4 u) 26)
  have HM4:=aA ((HM3.o.below hb).below hb2)
  have HC4:=aA ((HC3.o.later hb).later hb2)
  have HX4:=aA ((HX3.o.later hb).later hb2)
  have HB4:=aA ((HB3.o.later hb).later hb2)
  have HT4:=aA ((HN3.o.later hb).later hb2)
  have HJ4:=aA (hI4.later hb2)
  have HD4:=aA (YtjmfboegnmogdaaGreat.aB.new V4 26 (cd F D a4 m c4 u))
  have z3:=(HM3.o.below hb).c.lt
  obtain⟨d0,d1,d2,d3⟩:=aD (HM3.o.below hb).c
  clear hI4 hb hb2 HM3 HC3 HX3 HB3 HN3 HBs c0 c1 c2 c3
  go_wp2_with fail
  generalize V4.heap.size=bd at *
  refine(HN1.o _ HC4.o).mono ?_
  rintro e V5 ⟨hb,⟨hn0,-⟩|⟨-,g1,b1,n1,k1,rfl,hM1⟩⟩
  ·exact absurd T1.o hn0
  have HM5:=aA (HM4.o.below hb)
  have HC5:=aA (HC4.o.later hb)
  have HX5:=aA (HX4.o.later hb)
  have HB5:=aA (HB4.o.later hb)
  have HT5:=aA (HT4.o.later hb)
  have HJ5:=aA (HJ4.o.later hb)
  have HD5:=aA (HD4.o.below hb)
  have HU5:=aA hM1
  clear hb hM1 HM4 HC4 HX4 HB4 HT4 HJ4 HD4 HN1 z3 d0 d1 d2 d3
  obtain⟨d0,d1,d2,d3⟩:=aD HD5.o
  go_wp2_with fail
  refine(HN2.o _ _ _ HJ5.o).mono ?_
  rintro e V6 ⟨hb,⟨hn0,-⟩|⟨-,g2,b2,n2,k2,rfl,hM2⟩⟩
  ·exact absurd T2.o hn0
  have HM6:=aA (HM5.o.below hb)
  have HC6:=aA (HC5.o.later hb)
  have HX6:=aA (HX5.o.later hb)
  have HB6:=aA (HB5.o.later hb)
  have HT6:=aA (HT5.o.later hb)
  have HU6:=aA (HU5.o.later hb)
  have HV6:=aA hM2
  clear hb hM2 HM5 HC5 HX5 HB5 HT5 HJ5 HD5 HU5 HN2 d0 d1 d2 d3
  obtain⟨k0,k1',-,-⟩:=YtjmfboegnmogdaaGreat.aR HM6.o.k
  obtain⟨t0,t1,t2,t3⟩:=YtjmfboegnmogdaaGreat.aD HM6.o.t
  obtain⟨w0,w1,w2,w3⟩:=aD HM6.o.w
  go_wp2_with fail
  refine(HEv.o _ HX6.o HB6.o HT6.o HM6.o.lo).mono ?_
  rintro e V7 ⟨rfl,hb⟩
  have HM7:=aA (HM6.o.below hb)
  have HC7:=aA (HC6.o.later hb)
  have HU7:=aA (HU6.o.later hb)
  have HV7:=aA (HV6.o.later hb)
  clear hb HM6 HC6 HX6 HB6 HT6 HU6 HV6 HEv k0 k1' t0 t1 t2 t3 w0 w1 w2 w3
  obtain⟨w0,w1,w2,w3⟩:=aD HM7.o.w
  go_wp2_with fail
  refine(HR1.o _ _ _ _ _ _ HU7.o HM7.o.lo).mono ?_
  rintro e V8 ⟨rfl,hb⟩
  have HM8:=aA (HM7.o.below hb)
  have HC8:=aA (HC7.o.later hb)
  have HV8:=aA (HV7.o.later hb)
  clear hb HM7 HC7 HU7 HV7 HR1 w0 w1 w2 w3
  obtain⟨w0,w1,w2,w3⟩:=aD HM8.o.w
  go_wp2_with fail
  refine(HR2.o _ _ _ _ _ _ HV8.o HM8.o.lo).mono ?_
  rintro e V9 ⟨rfl,hb⟩
  have HM9:=aA (HM8.o.below hb)
  have HC9:=aA (HC8.o.later hb)
  clear hb HM8 HC8 HV8 HR2 w0 w1 w2 w3
  obtain⟨c0,c1,c2,c3⟩:=aD HM9.o.c
  go_wp2_with fail
  refine(HCo.o _ HC9.o).mono ?_
  rintro e V10 ⟨rfl,hb⟩
  have HBe:=aA (bel HM9.o.lo hb)
  clear hb HM9 HC9 HCo c0 c1 c2 c3
  rcases q3 with q3|⟨q3,q4⟩
  ·have p5:(ev != 0)=true:=by simpa using q3
   clear q3
   go_wp2_with fail
   go_ret
   exact⟨rfl,HBe.o⟩
  ·have p5:decide (0 < s1)=true:=by simpa using q3
   have p6:decide (0 < s2)=true:=by simpa using q4
   obtain⟨be,hbe⟩:∃ be,(ev != 0)=be:=⟨_,rfl⟩
   clear q3 q4
   cases be
   all_goals
    go_wp2_with fail
    go_ret
    exact⟨rfl,HBe.o⟩
 ·have hr1:(ce != 0)=true:=by simpa using h1
  clear h1 HI0 HI1
  by_cases h0:er=0
  ·have hr:(er != 0)=false:=by simpa using h0
   clear h0
   go_wp2_with fail
   refine(HA.o _).mono ?_
   rintro e V7 ⟨rfl,hb7⟩
   have HB7:=aA (bel HM3.o.lo hb7)
   clear hb7
   go_wp2_with fail
   go_ret
   exact⟨rfl,HB7.o⟩
  ·have hr:(er != 0)=true:=by simpa using h0
   clear h0
   go_wp2_with fail
   refine(HA.o _).mono ?_
   rintro e V7 ⟨rfl,hb7⟩
   have HB7:=aA (bel HM3.o.lo hb7)
   clear hb7
   go_wp2_with fail
   go_ret
   exact⟨rfl,HB7.o⟩
end Go.Proofs.Vmm
namespace Go.Proofs.YtjmfboegnmogdaaGreat
open Go.ChangeShapes Go.WideShapes Go.ChangeAt Go.RowKit
theorem yQ (os:Os)(started:os.Started)(H:Type)(enc:TypeId × Value->H) :
  ReturnsInHanded {} Tryz.checked os 4 .any (Rows.vmMeansSpec.pre6 enc Tryz.prog Tryz.f4 Rows.vmMeansRow.domain false) (Rows.vmMeansSpec.post enc Tryz.prog Tryz.f4 false true false false):=by
 refine returnsInHanded_of_change (C:=Tryz.checked) aY7 started (by kernel_rfl) Tryz.func4
  (ChangeSpec.witness6 (enc:=enc) (C:=Tryz.checked) false ⟨#[],#[.agg #[.int .i64 0,.int .i64 0],.string ⟨#[]⟩,.agg #[.int .i64 0,.int .i64 0,.int .i64 0,.slice none 0 0]],[]⟩ 8 (by kernel_rfl) (by kernel_rfl) (by kernel_rfl) (by kernel_rfl)) ?_
 intro W base args ds gs before hval0 hW hcnd _
 have hval:∀(j:Nat) t v,Tryz.f4.params[j]?=some t->args[j]?=some v->Value.okWide Tryz.prog W .any base t v:=hval0
 have hW':=hW
 obtain⟨p,q,hA0,hV,rfl,hfz,hnd⟩:=hW
 have hA:DataW.TrodAll enc Tryz.prog W 0 (fun _=>true) true Tryz.f4.params.toList args.toList ds p:=hA0
 rw[Tryz.params4] at hA hval
 obtain⟨v0,vs0,d0,ds0,p0,q0,hargs,rfl,rfl,h0,r0⟩:=trodAll_cons hA
 obtain⟨v1,vs1,d1,ds1,p1,q1,rfl,rfl,rfl,h1,r1⟩:=trodAll_cons r0
 obtain⟨v2,vs2,d2,ds2,p2,q2,rfl,rfl,rfl,h2,r2⟩:=trodAll_cons r1
 obtain⟨rfl,rfl,rfl⟩:=trodAll_nil r2
 obtain rfl:args=#[v0,v1,v2]:=by cases args;simp_all
 obtain⟨rfl,rfl⟩:=trodVars_none hV
 have k0:=h0
 have lt0:∀ x ∈ p0,x.block < W.heap.size:=by obtain⟨m,hm⟩:=k0;exact DataW.trod_lt m _ _ _ hm
 obtain⟨f0,e0,rfl⟩:=aJf (hval 0 23 v0 rfl rfl) h0
 have k1:=h1
 have lt1:∀ x ∈ p1,x.block < W.heap.size:=by obtain⟨m,hm⟩:=k1;exact DataW.trod_lt m _ _ _ hm
 obtain⟨s1,rfl,hd1,hp1,hs1⟩:=Go.ChangeMaps.open_string Tryz.underlying9 (hval 1 9 v1 rfl rfl) h1
 have k2:=h2
 have lt2:∀ x ∈ p2,x.block < W.heap.size:=by obtain⟨m,hm⟩:=k2;exact DataW.trod_lt m _ _ _ hm
 obtain⟨a2,b2,c2,sa2,sn2,sc2,zs2,rfl,hZ2⟩:=aD6 (hval 2 45 v2 rfl rfl) h2
 clear hA0 hval0
 refine(Vmm.aE5 f0 e0 s1 ⟨a2,b2,c2,zs2⟩ sa2 sn2 sc2 W hZ2).mono fun e W' ⟨he,bel⟩=>?_
 subst he
 exact⟨_,rfl,_,_,_,[],_,[],hW',trodAll_mk1 (shut_bool Tryz.underlying4 _),trodAll_cons_mk (Below.trod xI (by kernel_rfl) (of_decide_eq_true (by kernel_rfl)) k0 bel lt0) (trodAll_cons_mk (Below.trod xI (by kernel_rfl) (of_decide_eq_true (by kernel_rfl)) k1 bel lt1) (trodAll_cons_mk (Below.trod xI (by kernel_rfl) (of_decide_eq_true (by kernel_rfl)) k2 bel lt2) (trodAll_mk0))),rfl,bel.frame _,fun h=>by cases h⟩
theorem vmMeans_holds:Rows.VmMeansSaid :=
 OpenClaim.holds_of_wide 4 Tryz.f4 rfl rfl rfl rfl rfl rfl rfl ⟨rfl,rfl,rfl,rfl,rfl⟩ rfl rfl rfl rfl rfl (by kernel_rfl) Tryz.func4 (by kernel_rfl)
  (of_decide_eq_true (by kernel_rfl)) (by unfold Func.isWrapper;first|(rw[if_pos (by decide +kernel)];kernel_rfl)|(rw[if_neg (by decide +kernel)];exact⟨rfl,rfl⟩))
  (fun os started H enc _=>yQ os started H enc)
#print axioms vmMeans_holds
end Go.Proofs.YtjmfboegnmogdaaGreat
