import Derived.Test.YtijbmdmeiancgaaGreatXH
import Derived.Test.YtijbmdmeiancgaaGreatX48
import Derived.Test.YtijbmdmeiancgaaGreatX32
import Derived.Test.YtijbmdmeiancgaaGreatX49
import Derived.Test.YtijbmdmeiancgaaGreatX16
import Derived.Test.YtijbmdmeiancgaaGreatX01
set_option maxRecDepth 100000
set_option maxHeartbeats 32000000
set_option linter.unusedVariables false
namespace Go.Proofs.Pss
open Go.RowKit Go.IntWalk Knd
open Cde (In i0 ia kd cd Ins aG bG mk7 aA3)
open Vfy (bL)
variable {V V' W:World} {b c g lo m n:Nat} {I L:List In} {a:Option Addr} {P:List Int} {d f o:Int}
theorem rQ {base:Nat}(hO:W.ownsRow base 57 6 (.slice (some ⟨g,0,none⟩) (n+1) c) (n+1) (bG (L++[mk7]))):Ins W (some ⟨g,0,none⟩) (n+1) c (L++[mk7]):=lF hO
theorem aAl (h:Ins W a (n+1) c (L++[mk7])):Ins W a n c L:=by
 have hl:=h.len
 simp at hl
 have h3:=h.take (k:=n) (by omega)
 rw[<-hl,List.take_left,hl] at h3
 exact h3
theorem tO {base size q:Nat}{e:TypeId}{v:Value}{xs:List Value}(h:V.ownsRow base e size v n xs)(hq:V.heap.size<=q):v.ownBlock≠some q:=fun e=>by
 have:=(h.lt q e).2
 omega
theorem uU {h:Nat}(hO:V.ownsRow lo 3 1 (.slice (some ⟨h,0,none⟩) (m+40) (m+40)) (m+40) (bY (P++marks))):Ints V (some ⟨h,0,none⟩) (m+40) (m+40) (P++marks):=by
 obtain⟨a',c',e1,hI,-⟩:=Ints.of_owns hO
 cases e1
 exact hI
theorem aG7 (h:Ints V a (m+40) c (P++marks)):Ints V a m c P:=by
 have hl:=h.len
 rw[List.length_append,oM] at hl
 have h3:=aFz h (k:=m) (by omega)
 rw[show m=P.length by omega,List.take_left] at h3
 rw[show m=P.length by omega]
 exact h3
structure Xr (W V:World)(f d out:Int)(a:Option Addr)(n cap g c pd:Nat)(L:List In)(oa:Option Addr)(m oc h:Nat)(P:List Int):Prop where
 old:Below W.heap.size W V
 li:Ins V a n cap L
 ro:V.ownsRow W.heap.size 57 6 (.slice (some ⟨g,0,none⟩) (n+1) c) (n+1) (bG (L++[mk7]))
 cb:aI V W.heap.size 26 (cd f d a n cap out)
 db:aI V pd 26 (cd f d (some ⟨g,0,none⟩) n c out)
 oi:Ints V oa m oc P
 oo:V.ownsRow W.heap.size 3 1 (.slice (some ⟨h,0,none⟩) (m+40) (m+40)) (m+40) (bY (P++marks))
theorem Xr.later {W V V':World}{f d out:Int}{a:Option Addr}{n cap g c pd:Nat}{L:List In}{oa:Option Addr}{m oc h:Nat}{P:List Int}(x:Xr W V f d out a n cap g c pd L oa m oc h P)(hb:Below V.heap.size V V'):Xr W V' f d out a n cap g c pd L oa m oc h P :=
 ⟨bel x.old hb,x.li.later hb,Cde.aS x.ro hb,x.cb.below hb,x.db.below hb,x.oi.later hb,Cde.aS x.oo hb⟩
structure Hc (V:World)(lo b:Nat)(f d:Int)(I:List In)(o:Int)(a:Option Addr)(n c:Nat):Prop where
 b:aI V b 26 (cd f d a n c o)
 s:V.ownsRow lo 57 6 (.slice a n c) n (bG I)
theorem Hc.later (h:Hc V lo b f d I o a n c)(hb:Below V.heap.size V V'):Hc V' lo b f d I o a n c:=⟨h.b.below hb,Cde.aS h.s hb⟩
structure Hi (V:World)(b:Nat)(f d:Int)(I:List In)(o:Int)(a:Option Addr)(n c:Nat):Prop where
 b:aI V b 26 (cd f d a n c o)
 s:Ins V a n c I
theorem Hi.later {V V':World}{b:Nat}{f d:Int}{I:List In}{o:Int}{a:Option Addr}{n c:Nat}(h:Hi V b f d I o a n c)(hb:Below V.heap.size V V'):Hi V' b f d I o a n c:=⟨h.b.below hb,h.s.later hb⟩
theorem aDy (f d:Int)(L:List In)(out:Int)(P:List Int):(tT f d L out P).length<=200:=by
 unfold tT
 split
 ·rename_i h
  rw[wF] at h
  split at h
  ·obtain⟨mc,-⟩:=Vfy.aT (oH (f:=f) (d:=d) P (L,out) h).tk
   exact(Cde.bD mc).2.2.1
  ·cases h
 ·simp
abbrev c4 (f d:Int)(a:Option Addr)(n c:Nat)(o:Int)(a2:Option Addr)(c2:Nat)(f3 d3:Int)(a3:Option Addr)(n3 c3:Nat)(o3:Int)(F D:Int)(g m c':Nat)(out:Int):Array Value :=
 #[.int .i64 f,.int .i64 d,.slice a n c,.int .i64 o,.int .i64 f,.int .i64 d,.slice a2 n c2,.int .i64 o,.int .i64 f3,.int .i64 d3,.slice a3 n3 c3,.int .i64 o3,.int .i64 F,.int .i64 D,.slice (some ⟨g,0,none⟩) m c',.int .i64 out]
theorem aCg {lo1 lo2 lo3 b2 b3:Nat}{f3 d3 o3 F D out:Int}{J:List In}{a2 a3:Option Addr}{n3 c2 c3 c':Nat}(h0:V.ownsRow lo 57 6 (.slice (some ⟨g,0,none⟩) (m+1) c') (m+1) (bG (L++[mk7])))(h:Hc V lo1 b f d I o a n c)(h2:Hc V lo2 b2 f d I o a2 n c2)(h3:Hc V lo3 b3 f3 d3 J o3 a3 n3 c3)
  (hg:g < lo1) (hd:∀ k,(Value.slice a n c).ownBlock=some k->k < lo2) (hd2:∀ k,(Value.slice a2 n c2).ownBlock=some k->k < lo3) (l12:lo1<=lo2) (l23:lo2<=lo3) (hf:n<=200) (hf3:n3<=200) (hm:m<=2932031007317) (hL:L.length=m) :
  Fld.Ai.Lists (V.alloc (.cells (c4 f d a n c o a2 c2 f3 d3 a3 n3 c3 o3 F D g m c' out) 26)) V.heap.size 4 (fun i=>if i=0 then .slice a n c else if i=1 then .slice a2 n c2 else if i=2 then .slice a3 n3 c3 else .slice (some ⟨g,0,none⟩) m c') (fun i=>if i=3 then m else if i=2 then n3 else n):=by
 have hn:=aI.new V 26 (c4 f d a n c o a2 c2 f3 d3 a3 n3 c3 o3 F D g m c' out)
 have fou:∀ i,i < 4->i=0\/i=1\/i=2\/i=3:=fun i hi=>by omega
 have hr:V.ownsRow lo 57 6 (.slice (some ⟨g,0,none⟩) m c') m (bG L):=by
  rw[Cde.iO] at h0
  exact Fld.Ai.owns_head h0 (by rw[Cde.gV,hL])
 have o1:∀ k,(Value.slice a n c).ownBlock=some k->lo1<=k:=fun k hk=>(h.s.lt k hk).1
 have o2:∀ k,(Value.slice a2 n c2).ownBlock=some k->lo2<=k:=fun k hk=>(h2.s.lt k hk).1
 have o3':∀ k,(Value.slice a3 n3 c3).ownBlock=some k->lo3<=k:=fun k hk=>(h3.s.lt k hk).1
 have o4:∀ k,(Value.slice (some ⟨g,0,none⟩) m c').ownBlock=some k->k=g:=fun k hk=>by simp[Value.ownBlock] at hk;exact hk.symm
 refine⟨hn.lt,fun i hi=>?_,fun i hi=>?_,fun i j hi hj hij k hk e=>?_,fun i hi=>?_,fun i hi=>?_,by decide⟩
 ·rcases fou i hi with rfl|rfl|rfl|rfl
  ·exact hn.cell 2 rfl
  ·exact hn.cell 6 rfl
  ·exact hn.cell 10 rfl
  ·exact hn.cell 14 rfl
 ·rcases fou i hi with rfl|rfl|rfl|rfl
  ·exact⟨I,Cde.aW (h.s.alloc _) (Nat.zero_le _)⟩
  ·exact⟨I,Cde.aW (h2.s.alloc _) (Nat.zero_le _)⟩
  ·exact⟨J,Cde.aW (h3.s.alloc _) (Nat.zero_le _)⟩
  ·exact⟨L,Cde.aW (hr.alloc _) (Nat.zero_le _)⟩
 ·rcases fou i hi with rfl|rfl|rfl|rfl <;> rcases fou j hj with rfl|rfl|rfl|rfl
  ·exact hij rfl
  ·have:=hd k hk;have:=o2 k e;omega
  ·have:=hd k hk;have:=o3' k e;omega
  ·have:=o1 k hk;have:=o4 k e;omega
  ·have:=o2 k hk;have:=hd k e;omega
  ·exact hij rfl
  ·have:=hd2 k hk;have:=o3' k e;omega
  ·have:=o2 k hk;have:=o4 k e;omega
  ·have:=o3' k hk;have:=hd k e;omega
  ·have:=o3' k hk;have:=hd2 k e;omega
  ·exact hij rfl
  ·have:=o3' k hk;have:=o4 k e;omega
  ·have:=o4 k hk;have:=o1 k e;omega
  ·have:=o4 k hk;have:=o2 k e;omega
  ·have:=o4 k hk;have:=o3' k e;omega
  ·exact hij rfl
 ·rcases fou i hi with rfl|rfl|rfl|rfl
  ·exact tO h.s (Nat.le_refl _)
  ·exact tO h2.s (Nat.le_refl _)
  ·exact tO h3.s (Nat.le_refl _)
  ·exact tO hr (Nat.le_refl _)
 ·rcases fou i hi with rfl|rfl|rfl|rfl
  ·show n<=_;omega
  ·show n<=_;omega
  ·show n3<=_;omega
  ·exact hm
theorem xU (f d out:Int){oa:Option Addr}{cap om oc:Nat}(hL:Ins W a n cap L)(hP:Ints W oa om oc P)(hs:n<=2932031007317)(hsp:om<=17592186044000) :
  Calls Tryz.prog 3 #[.agg (cd f d a n cap out),.slice oa om oc] W fun e W'=>e=.returned (.bool true)/\Below W.heap.size W W':=by
 have hb0:=aH W (.cells (cd f d a n cap out) 26)
 have HR:=aC (Cde.aC4 f d out (hL.later hb0) (by omega))
 have HRi:=aC fun V (h:Ints V oa om oc P)=>aGt oa om oc P V h hsp
 have HC0:=aC (aI.new W 26 (cd f d a n cap out))
 have HL0:=aC (hL.later hb0)
 have HP0:=aC (hP.later hb0)
 have HLn:=aC hL.len
 have HB0:=aC hb0
 have HAw:=aC fun V=>aCv V
 have HE:=aC fun(V:World) (g c pd h:Nat) (x:Xr W V f d out a n cap g c pd L oa om oc h P)=>aBo f d out (aAl (rQ x.ro)) (aG7 (uU x.oo))
 have HJ:=aC fun(V:World) (g c pd h:Nat) (x:Xr W V f d out a n cap g c pd L oa om oc h P)=>aBw f d out x.li x.oi
 have HEb:=aC fun(V:World) (g c pd h:Nat) (x:Xr W V f d out a n cap g c pd L oa om oc h P)=>xD f d out (aAl (rQ x.ro))
 have HJb:=aC fun(V:World) (g c pd h:Nat) (x:Xr W V f d out a n cap g c pd L oa om oc h P)=>aHq f d out x.li
 have HFw:=aC (aDy f d L out P)
 have HFb:=aC (aDy f d L out dZ)
 unfold RnP at HE HEb
 unfold RdP at HJ HJb
 obtain⟨I,hI⟩:∃ I,tT f d L out P=I:=⟨_,rfl⟩
 obtain⟨J,hJ⟩:∃ I,tT f d L out dZ=I:=⟨_,rfl⟩
 rw[hI] at HE HJ HFw
 rw[hJ] at HEb HJb HFb
 obtain⟨il,hil⟩:∃ il,I.length=il:=⟨_,rfl⟩
 obtain⟨jl,hjl⟩:∃ il,J.length=il:=⟨_,rfl⟩
 rw[hil] at HE HJ HFw
 rw[hjl] at HEb HJb HFb
 generalize rnU f d L out P=u at *
 generalize rnK f d L out P f=kf at *
 generalize rnK f d L out P d=kd' at *
 generalize wF f d L out P=er at *
 generalize rnU f d L out dZ=u2 at *
 generalize rnK f d L out dZ f=kf2 at *
 generalize rnK f d L out dZ d=kd2 at *
 generalize wF f d L out dZ=er2 at *
 have HSm:=aC fun(V:World) (a b:Option Addr) (c k:Nat) (h1:Ins V a il c I) (h2:Ins V b il k I)=>Cde.rT kf kd' u kf kd' u h1 h2
 have HSb:=aC fun(V:World) (a b:Option Addr) (c k:Nat) (h1:Ins V a jl c J) (h2:Ins V b jl k J)=>Cde.rT kf2 kd2 u2 kf2 kd2 u2 h1 h2
 rw[Cde.vY] at HSm HSb
 clear hL hP hb0 hI hJ hil hjl
 go_enter Tryz.func3,Tryz.ntmps3
 go_wp2_with fail
 refine HR.o.mono ?_
 clear HR
 rintro e V ⟨g,c,rfl,hO,hb⟩
 have hba:=aH V (.cells (cd f d (some ⟨g,0,none⟩) n c out) 26)
 have hbb:=bel hb hba
 have HX1:Hid (Below W.heap.size W (V.alloc (.cells (cd f d (some ⟨g,0,none⟩) n c out) 26))/\Ins (V.alloc (.cells (cd f d (some ⟨g,0,none⟩) n c out) 26)) a n cap L/\(V.alloc (.cells (cd f d (some ⟨g,0,none⟩) n c out) 26)).ownsRow W.heap.size 57 6 (.slice (some ⟨g,0,none⟩) (n+1) c) (n+1) (bG (L++[mk7]))/\aI (V.alloc (.cells (cd f d (some ⟨g,0,none⟩) n c out) 26)) W.heap.size 26 (cd f d a n cap out)/\aI (V.alloc (.cells (cd f d (some ⟨g,0,none⟩) n c out) 26)) V.heap.size 26 (cd f d (some ⟨g,0,none⟩) n c out)/\Ints (V.alloc (.cells (cd f d (some ⟨g,0,none⟩) n c out) 26)) oa om oc P):=aC ⟨bel HB0.o hbb,HL0.o.later hbb,Cde.aW (Cde.aS hO hba) HB0.o.size,HC0.o.below hbb,aI.new _ _ _,HP0.o.later hbb⟩
 have HG1:=aC (show g < (V.alloc (.cells (cd f d (some ⟨g,0,none⟩) n c out) 26)).heap.size from by have:=(hO.lt g rfl).2;have:=hba.size;omega)
 clear hO hb hba hbb HL0 HC0 HB0 HP0
 go_wp2_with fail
 obtain⟨pd,hpd⟩:∃ p,V.heap.size=p:=⟨_,rfl⟩
 obtain⟨V0,hV0⟩:∃ X,V.alloc (.cells (cd f d (some ⟨g,0,none⟩) n c out) 26)=X:=⟨_,rfl⟩
 rw[hV0] at HX1 HG1 ⊢
 rw[hpd] at HX1
 clear hV0
 refine(HRi.o V0 HX1.o.2.2.2.2.2).mono ?_
 rintro e V1 ⟨rfl,hO,hb⟩
 have HC:Hid (Xr W V1 f d out a n cap g c pd L oa om oc V0.heap.size P):=aC ⟨bel HX1.o.1 hb,HX1.o.2.1.later hb,Cde.aS HX1.o.2.2.1 hb,HX1.o.2.2.2.1.below hb,HX1.o.2.2.2.2.1.below hb,HX1.o.2.2.2.2.2.later hb,Cde.aW hO HX1.o.1.size⟩
 have HW1:=aC (show W.heap.size<=V1.heap.size from Nat.le_trans HX1.o.1.size hb.size)
 have HGl:=aC (show g < V1.heap.size from Nat.lt_of_lt_of_le HG1.o hb.size)
 clear hb hO HX1 HG1 HRi
 generalize V0.heap.size=hh at *
 obtain⟨t0,t1,t2,t3⟩:=aG HC.o.db
 try rw[hpd]
 clear hpd
 go_wp2_with fail
 clear t0 t1 t2 t3
 refine(HE.o V1 _ _ _ _ HC.o).mono ?_
 rintro e V2 ⟨aA,eA,rfl,hO,hb⟩
 have hba:=aH V2 (.cells (cd kf kd' aA il eA u) 26)
 have hbb:=bel hb hba
 have HC':=aC (HC.o.later hbb)
 have HA:=aC (show Hc (V2.alloc (.cells (cd kf kd' aA il eA u) 26)) V1.heap.size V2.heap.size kf kd' I u aA il eA from⟨aI.new _ _ _,Cde.aS hO hba⟩)
 have HDA:=aC (show ∀ k,(Value.slice aA il eA).ownBlock=some k->k < (V2.alloc (.cells (cd kf kd' aA il eA u) 26)).heap.size from fun k hk=>by have:=(hO.lt k hk).2;have:=hba.size;omega)
 have HSA:=aC (show V1.heap.size<=(V2.alloc (.cells (cd kf kd' aA il eA u) 26)).heap.size from hbb.size)
 obtain⟨t0,t1,t2,t3⟩:=aG (HC.o.later hb).cb
 have zT:=(HC.o.later hb).cb.lt
 clear hba hbb hb hO HC
 go_wp2_with fail
 obtain⟨pA,hp⟩:∃ p,V2.heap.size=p:=⟨_,rfl⟩
 obtain⟨V3,hv⟩:∃ X,V2.alloc (.cells (cd kf kd' aA il eA u) 26)=X:=⟨_,rfl⟩
 rw[hv] at HC' HA HDA HSA ⊢
 rw[hp] at HA ⊢
 clear hv hp t0 t1 t2 t3 zT
 have HC:=aC HC'.o
 clear HC'
 refine(HJ.o V3 _ _ _ _ HC.o).mono ?_
 rintro e V4 ⟨aB,eB,rfl,hO,-,hb⟩
 have hba:=aH V4 (.cells (cd kf kd' aB il eB u) 26)
 have hbb:=bel hb hba
 have HC':=aC (HC.o.later hbb)
 have HA':=aC (HA.o.later hbb)
 have HB:=aC (show Hi (V4.alloc (.cells (cd kf kd' aB il eB u) 26)) V4.heap.size kf kd' I u aB il eB from⟨aI.new _ _ _,hO.later hba⟩)
 have HSB:=aC (show V3.heap.size<=(V4.alloc (.cells (cd kf kd' aB il eB u) 26)).heap.size from hbb.size)
 obtain⟨t0,t1,t2,t3⟩:=aG (HC.o.later hb).db
 have zT:=(HC.o.later hb).db.lt
 clear hba hbb hb hO HC HA
 go_wp2_with fail
 obtain⟨pB,hp⟩:∃ p,V4.heap.size=p:=⟨_,rfl⟩
 obtain⟨V5,hv⟩:∃ X,V4.alloc (.cells (cd kf kd' aB il eB u) 26)=X:=⟨_,rfl⟩
 rw[hv] at HC' HA' HB HSB ⊢
 rw[hp] at HB ⊢
 clear hv hp t0 t1 t2 t3 zT
 have HC:=aC HC'.o
 have HA:=aC HA'.o
 clear HC' HA'
 refine(HE.o V5 _ _ _ _ HC.o).mono ?_
 rintro e V6 ⟨aX,eX,rfl,hO,hb⟩
 have hba:=aH V6 (.cells (cd kf kd' aX il eX u) 26)
 have hbb:=bel hb hba
 have HC':=aC (HC.o.later hbb)
 have HA':=aC (HA.o.later hbb)
 have HB':=aC (HB.o.later hbb)
 have HX:=aC (show Hc (V6.alloc (.cells (cd kf kd' aX il eX u) 26)) V5.heap.size V6.heap.size kf kd' I u aX il eX from⟨aI.new _ _ _,Cde.aS hO hba⟩)
 have HDX:=aC (show ∀ k,(Value.slice aX il eX).ownBlock=some k->k < (V6.alloc (.cells (cd kf kd' aX il eX u) 26)).heap.size from fun k hk=>by have:=(hO.lt k hk).2;have:=hba.size;omega)
 have HSX:=aC (show V5.heap.size<=(V6.alloc (.cells (cd kf kd' aX il eX u) 26)).heap.size from hbb.size)
 obtain⟨t0,t1,t2,t3⟩:=aG (HC.o.later hb).db
 have zT:=(HC.o.later hb).db.lt
 clear hba hbb hb hO HC HA HB
 go_wp2_with fail
 obtain⟨pX,hp⟩:∃ p,V6.heap.size=p:=⟨_,rfl⟩
 obtain⟨V7,hv⟩:∃ X,V6.alloc (.cells (cd kf kd' aX il eX u) 26)=X:=⟨_,rfl⟩
 rw[hv] at HC' HA' HB' HX HDX HSX ⊢
 rw[hp] at HX ⊢
 clear hv hp t0 t1 t2 t3 zT
 have HC:=aC HC'.o
 have HA:=aC HA'.o
 have HB:=aC HB'.o
 clear HC' HA' HB'
 refine(HEb.o V7 _ _ _ _ HC.o).mono ?_
 rintro e V8 ⟨aY,eY,rfl,hO,hb⟩
 have hba:=aH V8 (.cells (cd kf2 kd2 aY jl eY u2) 26)
 have hbb:=bel hb hba
 have HC':=aC (HC.o.later hbb)
 have HA':=aC (HA.o.later hbb)
 have HB':=aC (HB.o.later hbb)
 have HX':=aC (HX.o.later hbb)
 have HY:=aC (show Hc (V8.alloc (.cells (cd kf2 kd2 aY jl eY u2) 26)) V7.heap.size V8.heap.size kf2 kd2 J u2 aY jl eY from⟨aI.new _ _ _,Cde.aS hO hba⟩)
 have HDY:=aC (show ∀ k,(Value.slice aY jl eY).ownBlock=some k->k < (V8.alloc (.cells (cd kf2 kd2 aY jl eY u2) 26)).heap.size from fun k hk=>by have:=(hO.lt k hk).2;have:=hba.size;omega)
 have HSY:=aC (show V7.heap.size<=(V8.alloc (.cells (cd kf2 kd2 aY jl eY u2) 26)).heap.size from hbb.size)
 obtain⟨t0,t1,t2,t3⟩:=aG (HC.o.later hb).cb
 have zT:=(HC.o.later hb).cb.lt
 clear hba hbb hb hO HC HA HB HX
 go_wp2_with fail
 obtain⟨pY,hp⟩:∃ p,V8.heap.size=p:=⟨_,rfl⟩
 obtain⟨V9,hv⟩:∃ X,V8.alloc (.cells (cd kf2 kd2 aY jl eY u2) 26)=X:=⟨_,rfl⟩
 rw[hv] at HC' HA' HB' HX' HY HDY HSY ⊢
 rw[hp] at HY ⊢
 clear hv hp t0 t1 t2 t3 zT
 have HC:=aC HC'.o
 have HA:=aC HA'.o
 have HB:=aC HB'.o
 have HX:=aC HX'.o
 clear HC' HA' HB' HX'
 refine(HJb.o V9 _ _ _ _ HC.o).mono ?_
 rintro e V10 ⟨aZ,eZ,rfl,hO,-,hb⟩
 have hba:=aH V10 (.cells (cd kf2 kd2 aZ jl eZ u2) 26)
 have hbb:=bel hb hba
 have HC':=aC (HC.o.later hbb)
 have HA':=aC (HA.o.later hbb)
 have HB':=aC (HB.o.later hbb)
 have HX':=aC (HX.o.later hbb)
 have HY':=aC (HY.o.later hbb)
 have HZ:=aC (show Hi (V10.alloc (.cells (cd kf2 kd2 aZ jl eZ u2) 26)) V10.heap.size kf2 kd2 J u2 aZ jl eZ from⟨aI.new _ _ _,hO.later hba⟩)
 have HSZ:=aC (show V9.heap.size<=(V10.alloc (.cells (cd kf2 kd2 aZ jl eZ u2) 26)).heap.size from hbb.size)
 clear hba hbb hb hO HC HA HB HX HY
 go_wp2_with fail
 obtain⟨pZ,hp⟩:∃ p,V10.heap.size=p:=⟨_,rfl⟩
 obtain⟨V11,hv⟩:∃ X,V10.alloc (.cells (cd kf2 kd2 aZ jl eZ u2) 26)=X:=⟨_,rfl⟩
 rw[hv] at HC' HA' HB' HX' HY' HZ HSZ ⊢
 rw[hp] at HZ ⊢
 clear hv hp
 have HC:=aC HC'.o
 have HA:=aC HA'.o
 have HB:=aC HB'.o
 have HX:=aC HX'.o
 have HY:=aC HY'.o
 clear HC' HA' HB' HX' HY'
 clear HE HJ HEb HJb
 refine(HAw.o _).mono ?_
 rintro e V12 ⟨rfl,hb⟩
 have HC':=aC (HC.o.later hb)
 have HA':=aC (HA.o.later hb)
 have HB':=aC (HB.o.later hb)
 have HX':=aC (HX.o.later hb)
 have HY':=aC (HY.o.later hb)
 have HZ':=aC (HZ.o.later hb)
 clear hb HC HA HB HX HY HZ HAw
 have HC:=aC HC'.o
 have HA:=aC HA'.o
 have HB:=aC HB'.o
 have HX:=aC HX'.o
 have HY:=aC HY'.o
 have HZ:=aC HZ'.o
 clear HC' HA' HB' HX' HY' HZ'
 have hee:(er==er)=true:=by simp
 have hee2:(er2==er2)=true:=by simp
 have hne:(er != er)=false:=by simp
 have hne2:(er2 != er2)=false:=by simp
 obtain⟨x0,x1,x2,x3⟩:=aG HA.o.b
 obtain⟨y0,y1,y2,y3⟩:=aG HB.o.b
 go_wp2_with fail
 refine(HSm.o _ _ _ _ _ (lF HA.o.s) HB.o.s).mono ?_
 rintro e V13 ⟨rfl,hb⟩
 have HC':=aC (HC.o.later hb)
 have HA':=aC (HA.o.later hb)
 have HB':=aC (HB.o.later hb)
 have HX':=aC (HX.o.later hb)
 have HY':=aC (HY.o.later hb)
 have HZ':=aC (HZ.o.later hb)
 clear hb HC HA HB HX HY HZ x0 x1 x2 x3 y0 y1 y2 y3
 have HC:=aC HC'.o
 have HA:=aC HA'.o
 have HB:=aC HB'.o
 have HX:=aC HX'.o
 have HY:=aC HY'.o
 have HZ:=aC HZ'.o
 clear HC' HA' HB' HX' HY' HZ'
 obtain⟨x0,x1,x2,x3⟩:=aG HX.o.b
 obtain⟨y0,y1,y2,y3⟩:=aG HB.o.b
 go_wp2_with fail
 refine(HSm.o _ _ _ _ _ (lF HX.o.s) HB.o.s).mono ?_
 rintro e V14 ⟨rfl,hb⟩
 have HC':=aC (HC.o.later hb)
 have HA':=aC (HA.o.later hb)
 have HB':=aC (HB.o.later hb)
 have HX':=aC (HX.o.later hb)
 have HY':=aC (HY.o.later hb)
 have HZ':=aC (HZ.o.later hb)
 clear hb HC HA HB HX HY HZ x0 x1 x2 x3 y0 y1 y2 y3
 have HC:=aC HC'.o
 have HA:=aC HA'.o
 have HB:=aC HB'.o
 have HX:=aC HX'.o
 have HY:=aC HY'.o
 have HZ:=aC HZ'.o
 clear HC' HA' HB' HX' HY' HZ'
 obtain⟨x0,x1,x2,x3⟩:=aG HY.o.b
 obtain⟨y0,y1,y2,y3⟩:=aG HZ.o.b
 go_wp2_with fail
 refine(HSb.o _ _ _ _ _ (lF HY.o.s) HZ.o.s).mono ?_
 rintro e V15 ⟨rfl,hb⟩
 have HC':=aC (HC.o.later hb)
 have HA':=aC (HA.o.later hb)
 have HB':=aC (HB.o.later hb)
 have HX':=aC (HX.o.later hb)
 have HY':=aC (HY.o.later hb)
 have HZ':=aC (HZ.o.later hb)
 clear hb HC HA HB HX HY HZ x0 x1 x2 x3 y0 y1 y2 y3
 have HC:=aC HC'.o
 have HA:=aC HA'.o
 have HB:=aC HB'.o
 have HX:=aC HX'.o
 have HY:=aC HY'.o
 have HZ:=aC HZ'.o
 clear HC' HA' HB' HX' HY' HZ'
 obtain⟨x0,x1,x2,x3⟩:=aG HC.o.cb
 obtain⟨y0,y1,y2,y3⟩:=aG HC.o.db
 have HH:=aC (Cde.aGb f d out (rQ HC.o.ro) HC.o.li)
 go_wp2_with fail
 refine HH.o.mono ?_
 rintro e V16 ⟨rfl,hb⟩
 have HC':=aC (HC.o.later hb)
 have HA':=aC (HA.o.later hb)
 have HB':=aC (HB.o.later hb)
 have HX':=aC (HX.o.later hb)
 have HY':=aC (HY.o.later hb)
 have HZ':=aC (HZ.o.later hb)
 clear hb HC HA HB HX HY HZ HH x0 x1 x2 x3 y0 y1 y2 y3
 have HC:=aC HC'.o
 have HA:=aC HA'.o
 have HB:=aC HB'.o
 have HX:=aC HX'.o
 have HY:=aC HY'.o
 have HZ:=aC HZ'.o
 clear HC' HA' HB' HX' HY' HZ'
 have HH:=aC (aH6 hh 0 om (om+40) oa oc P V16 (uU HC.o.oo) HC.o.oi)
 go_wp2_with fail
 refine HH.o.mono ?_
 rintro e V17 ⟨rfl,qn,rfl⟩
 have hb:=Cde.cO V16 qn
 generalize V16.drewN qn=V17 at *
 have HC':=aC (HC.o.later hb)
 have HA':=aC (HA.o.later hb)
 have HB':=aC (HB.o.later hb)
 have HX':=aC (HX.o.later hb)
 have HY':=aC (HY.o.later hb)
 have HZ':=aC (HZ.o.later hb)
 clear hb HC HA HB HX HY HZ HH
 have HC:=aC HC'.o
 have HA:=aC HA'.o
 have HB:=aC HB'.o
 have HX:=aC HX'.o
 have HY:=aC HY'.o
 have HZ:=aC HZ'.o
 clear HC' HA' HB' HX' HY' HZ'
 obtain⟨x0,x1,x2,x3⟩:=aG HA.o.b
 obtain⟨y0,y1,y2,y3⟩:=aG HX.o.b
 obtain⟨z0,z1,z2,z3⟩:=aG HY.o.b
 obtain⟨w0,w1,w2,w3⟩:=aG HC.o.db
 have l13:=HSA.o
 have l35:=HSB.o
 have l57:=HSX.o
 have HLs:=aC (aCg (F:=f) (D:=d) (out:=out) HC.o.ro HA.o HX.o HY.o HGl.o (fun k hk=>Nat.lt_of_lt_of_le (HDA.o k hk) l35) HDX.o (Nat.le_trans l13 l35) l57 HFw.o HFb.o hs HLn.o)
 have HLo:=aC (show W.heap.size<=V1.heap.size from HW1.o)
 have HOf:Hid (∀ k,Fld.Ai.Of 4 (fun i=>if i=0 then .slice aA il eA else if i=1 then .slice aX il eX else if i=2 then .slice aY jl eY else .slice (some ⟨g,0,none⟩) n c) k->W.heap.size<=k):=aC fun k ⟨i,hi,hk⟩=>by
  have hlo:=HLo.o
  rcases(show i=0\/i=1\/i=2\/i=3 by omega) with rfl|rfl|rfl|rfl
  ·have:=(HA.o.s.lt k hk).1;omega
  ·have:=(HX.o.s.lt k hk).1;omega
  ·have:=(HY.o.s.lt k hk).1;omega
  ·have h1:=(HC.o.ro.lt g rfl).1
   simp[Value.ownBlock] at hk
   omega
 have HAp:=aC (Fld.Ai.xapart_any _ 4 4 _ _ _ HLs.o)
 have HB11:=aC HC.o.old
 clear l13 l35 l57
 go_wp2_with fail
 refine HAp.o.mono ?_
 rintro e V18 ⟨rfl,hk⟩
 have HB12:Hid (Below W.heap.size W V18):=aC ((bel HB11.o (aH _ _)).trans (hk.below (by have:=HB11.o.size;simp only[World.size_alloc];omega) HOf.o))
 clear hk
 go_wp2_with fail
 go_ret
 exact⟨rfl,HB12.o⟩
end Go.Proofs.Pss
