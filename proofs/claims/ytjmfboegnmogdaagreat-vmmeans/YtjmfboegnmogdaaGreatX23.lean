import Derived.Test.YtjmfboegnmogdaaGreatXH
import Derived.Test.YtjmfboegnmogdaaGreatX22
import Derived.Test.YtjmfboegnmogdaaGreatX09
import Derived.Test.YtjmfboegnmogdaaGreatX08
import Derived.Test.YtjmfboegnmogdaaGreatX21
import Derived.Test.YtjmfboegnmogdaaGreatX20
set_option maxRecDepth 100000
set_option maxHeartbeats 32000000
set_option linter.unusedVariables false
namespace Go.Proofs.YtjmfboegnmogdaaGreat
open Go.RowKit Go.IntWalk Lx Pz
variable {W:World} {b:Nat} {t:TypeId} {BS:List Int} {root:Int}
abbrev jO:Array Value:=#[.slice none 0 0,.int .i64 0,.int .i64 0]
def CkP (w:World)(f d:Int)(NM:List aQ)(BS:List Int)(NS:List Nd)(root:Int)(e:Ending)(W':World):Prop :=
 (nH f d NM BS NS root≠0/\e=.returned (.tuple #[.agg jO,.int .i64 (nH f d NM BS NS root)])/\Below w.heap.size w W') \/
 (nH f d NM BS NS root=0/\∃ g,e=.returned (.tuple #[.agg #[.slice (some ⟨g,0,none⟩) NS.length NS.length,.int .i64 (vM NS),.int .i64 (mxR (tJ BS NS []))],.int .i64 0])/\w.heap.size<=g/\aB W' g 70 (lQ (oC f d BS NS []).1)/\Below w.heap.size w W')
theorem iR {x y z:Value}(h:aB W b t #[x,y,z]):W.cell? ⟨b,0,none⟩=some x/\W.cell? ⟨b,1,none⟩=some y/\W.cell? ⟨b,2,none⟩=some z/\W.frozen? ⟨b,0,none⟩=false/\W.frozen? ⟨b,1,none⟩=false/\W.frozen? ⟨b,2,none⟩=false :=
 ⟨h.cell 0 rfl,h.cell 1 rfl,h.cell 2 rfl,h.frozen 0,h.frozen 1,h.frozen 2⟩
theorem fC {w w2:World}{p q r:Value}(h:aB w2 b t #[p,q,r])(hB:Below w.heap.size w w2)(hb:w.heap.size<=b)(x y z:Value) :
  aB (((w2.setCell ⟨b,0,none⟩ x).setCell ⟨b,1,none⟩ y).setCell ⟨b,2,none⟩ z) b t #[x,y,z] /\
  Below w.heap.size w (((w2.setCell ⟨b,0,none⟩ x).setCell ⟨b,1,none⟩ y).setCell ⟨b,2,none⟩ z) :=
 ⟨((h.set 0 x).set 1 y).set 2 z,((hB.setCell (p:=⟨b,0,none⟩) hb _).setCell (p:=⟨b,1,none⟩) hb _).setCell (p:=⟨b,2,none⟩) hb _⟩
theorem oU {r:Nat}{cs:Array Value}(h:aB W b t cs)(hr:b≠r)(x y z:Value):aB (((W.setCell ⟨r,0,none⟩ x).setCell ⟨r,1,none⟩ y).setCell ⟨r,2,none⟩ z) b t cs :=
 ((h.other (p:=⟨r,0,none⟩) hr x).other (p:=⟨r,1,none⟩) hr y).other (p:=⟨r,2,none⟩) hr z
theorem aTo {f d:Int}{NM:List aQ}{NS:List Nd}(h:qR f d NM BS NS root≠0):nH f d NM BS NS root=qR f d NM BS NS root:=by
 unfold qR at h ⊢
 unfold nH
 by_cases h1:¬Knd.May f d
 ·rw[if_pos h1,if_pos h1]
 ·rw[if_neg h1] at h ⊢
  rw[if_neg h1]
  by_cases h2:qF NM BS NS root=false
  ·rw[if_pos h2,if_pos h2]
  ·rw[if_neg h2] at h ⊢
   rw[if_neg h2]
   by_cases h3:NS.any (ahB f d)=true
   ·rw[if_pos h3,if_pos h3]
   ·rw[if_neg h3] at h
    exact absurd rfl h
theorem aWy {f d:Int}{NM:List aQ}{NS:List Nd}(h:qR f d NM BS NS root=0):Knd.May f d/\qF NM BS NS root=true /\
  nH f d NM BS NS root=if (oC f d BS NS []).2≠0 then(oC f d BS NS []).2 else if 200 < vM NS\/24 < mxR (tJ BS NS []) then 14 else 0:=by
 unfold qR at h
 by_cases h1:¬Knd.May f d
 ·rw[if_pos h1] at h;cases h
 ·rw[if_neg h1] at h
  by_cases h2:qF NM BS NS root=false
  ·rw[if_pos h2] at h;cases h
  ·rw[if_neg h2] at h
   by_cases h3:NS.any (ahB f d)=true
   ·rw[if_pos h3] at h;cases h
   ·refine⟨Decidable.of_not_not h1,by simpa using h2,?_⟩
    unfold nH
    rw[if_neg h1,if_neg h2,if_neg h3]
structure Cr (V:World)(tb:Nat)(tv:Array Value)(sv dv:Value)(co mx:Int)(D:List Int)(n:Nat)(d:Nat->Bool)(x9 x27 x28 x29 x30 x31 x32 x33 x34:Value)(w:World):Prop where
 bel:Below V.heap.size V w
 m0:d 0=true->x27=sv
 m1:d 1=true->x28=.pointer (some ⟨tb,2,none⟩)
 m2:d 2=true->x29=dv
 m3:d 3=true->x30=.int .i64 co
 m4:d 4=true->x31=.agg tv
 m5:d 5=true->d 9=false->∃ gd,x32=.slice (some ⟨gd,0,none⟩) n n/\aB w gd 3 (xD D)
 m6:d 6=true->x33=.int .i64 mx
 m7:d 7=true->x34=.agg #[sv,.int .i64 co,.int .i64 mx]
 m8:d 8=true->d 9=false->∃ gr,x9=.pointer (some ⟨gr,0,none⟩)/\V.heap.size<=gr/\aB w gr 35 jO
 m9:d 9=true->∃ gr,x9=.pointer (some ⟨gr,0,none⟩)/\V.heap.size<=gr/\aB w gr 35 #[sv,.int .i64 co,.int .i64 mx]
 ph:d 9=true->∀ j,j < 9->d j=true
theorem aXy {a b:Bool}(h:b=true):(a || b)=true:=by rw[h];simp
theorem aU1:Tryz.prog.follows .mixedOrders=true:=by kernel_rfl
theorem kM (f d:Int){na ba da:Option Addr}{nl nc bl bc dl dc:Nat}{NM:List aQ}{NS:List Nd}(hX:Tx W na nl nc NM)(hB:Iz W ba bl bc BS)(hN:Nz W da dl dc NS)(hs:∀ s ∈ NM,s.length<=9223372036854775807) :
  Calls Tryz.prog 35 #[.agg (cK f d),.agg (fD (.slice na nl nc) (.slice ba bl bc) (.slice da dl dc) (.int .i64 root))] W (CkP W f d NM BS NS root):=by
 have hb1:=aC W (.cells (cK f d) 23)
 have hb2:=bel hb1 (aC (W.alloc (.cells (cK f d) 23)) (.cells (fD (.slice na nl nc) (.slice ba bl bc) (.slice da dl dc) (.int .i64 root)) 50))
 have hb3:=bel hb2 (aC ((W.alloc (.cells (cK f d) 23)).alloc (.cells (fD (.slice na nl nc) (.slice ba bl bc) (.slice da dl dc) (.int .i64 root)) 50)) (.cells jO 35))
 have HK0:=aA (((aB.new W 23 (cK f d)).alloc (.cells (fD (.slice na nl nc) (.slice ba bl bc) (.slice da dl dc) (.int .i64 root)) 50)).alloc (.cells jO 35))
 have HT0:Hid (aB (((W.alloc (.cells (cK f d) 23)).alloc (.cells (fD (.slice na nl nc) (.slice ba bl bc) (.slice da dl dc) (.int .i64 root)) 50)).alloc (.cells jO 35)) (W.heap.size+1) 50 (fD (.slice na nl nc) (.slice ba bl bc) (.slice da dl dc) (.int .i64 root))):=by
  have:=(aB.new (W.alloc (.cells (cK f d) 23)) 50 (fD (.slice na nl nc) (.slice ba bl bc) (.slice da dl dc) (.int .i64 root))).alloc (.cells jO 35)
  simp only[World.size_alloc] at this
  exact aA this
 have HR0:Hid (aB (((W.alloc (.cells (cK f d) 23)).alloc (.cells (fD (.slice na nl nc) (.slice ba bl bc) (.slice da dl dc) (.int .i64 root)) 50)).alloc (.cells jO 35)) (W.heap.size+1+1) 35 jO):=by
  have:=aB.new ((W.alloc (.cells (cK f d) 23)).alloc (.cells (fD (.slice na nl nc) (.slice ba bl bc) (.slice da dl dc) (.int .i64 root)) 50)) 35 jO
  simp only[World.size_alloc] at this
  exact aA this
 have HX:=aA (hX.later hb3)
 have HBI:=aA (hB.later hb3)
 have HNI:=aA (hN.later hb3)
 have HLN:=aA hN.len
 have HB0:=aA hb3
 have HM:=aA (aK8 f d (root:=root) (hX.later hb3) (hB.later hb3) (hN.later hb3) hs)
 clear hX hB hN hb1 hb2 hb3 hs
 go_enter Tryz.func35,Tryz.ntmps35
 go_wp2_with fail
 refine HM.o.mono ?_
 rintro e V1 ⟨rfl,hb⟩
 have HR1:=aA (HR0.o.below hb)
 have HB1:=aA (bel HB0.o hb)
 by_cases hm:qR f d NM BS NS root=0
 ·obtain⟨m1,m2,m3⟩:=aWy hm
  obtain⟨es,ex,hD⟩:=jX.1 m2
  have hfew:dl<=1024:=by rw[<-HLN.o];exact hD.few
  have h1:1<=dl:=by rw[<-HLN.o,hD.nodes,List.length_append,E.flat_len];have:=ex.size_pos;omega
  have HK1:=aA (HK0.o.below hb)
  have HT1:=aA (HT0.o.below hb)
  have HNI1:=aA (HNI.o.later hb)
  have HBI1:=aA (HBI.o.later hb)
  have HW:=aA hD.wl
  have HM3:=aA m3
  have HSp:=aA (aEt f d ⟨na,nl,nc,rfl⟩ (root:=root) m1 (HBI.o.later hb) (HNI.o.later hb) hD.wl hfew)
  obtain⟨k0,k1,-,-⟩:=aR HK1.o
  obtain⟨t0,t1,t2,t3⟩:V1.cell? ⟨W.heap.size+1,0,none⟩=some (.slice na nl nc)/\V1.cell? ⟨W.heap.size+1,1,none⟩=some (.slice ba bl bc)/\V1.cell? ⟨W.heap.size+1,2,none⟩=some (.slice da dl dc)/\V1.cell? ⟨W.heap.size+1,3,none⟩=some (.int .i64 root):=⟨HT1.o.cell 0 rfl,HT1.o.cell 1 rfl,HT1.o.cell 2 rfl,HT1.o.cell 3 rfl⟩
  rw[hm]
  clear hm hb m1 m2 m3 hD HM HK0 HT0 HR0 HB0 HX HBI HNI
  go_wp2_with fail
  refine HSp.o.mono ?_
  rintro e V2 (⟨hz,rfl,hb⟩|⟨hz,gs,rfl,hgs,hG,hb⟩)
  ·have hne:((oC f d BS NS []).2 != 0)=true:=by simpa using hz
   have HF:Hid (nH f d NM BS NS root=(oC f d BS NS []).2):=aA (by rw[HM3.o,if_pos hz])
   have HR2:=aA (HR1.o.below hb)
   have HB2:=aA (bel HB1.o hb)
   have HZ:=aA hz
   obtain⟨r0,r1,r2,r3,r4,r5⟩:=iR HR2.o
   clear hb hz HM3
   generalize (oC f d BS NS []).2=er at *
   go_wp2_with fail
   obtain⟨hp,hpb⟩:=fC HR2.o HB2.o (by omega) (.slice none 0 0) (.int .i64 0) (.int .i64 0)
   have p0:=hp.cell 0 rfl
   have p1:=hp.cell 1 rfl
   have p2:=hp.cell 2 rfl
   exact bodyPost_ret (v:=.tuple #[.agg jO,.int .i64 er]) (by simp[results,Tryz.results35,go_sem,p0,p1,p2]) rfl (.inl (by rw[HF.o];exact⟨HZ.o,rfl,hpb⟩))
  ·have HF:Hid (nH f d NM BS NS root=if 200 < vM NS\/24 < mxR (tJ BS NS []) then 14 else 0):=aA (by rw[HM3.o,if_neg (by simpa using hz)])
   have HR2:=aA (HR1.o.below hb)
   have HB2:=aA (bel HB1.o hb)
   have HT2:=aA (HT1.o.below hb)
   have HN2:=aA (HNI1.o.later hb)
   have HI2:=aA (HBI1.o.later hb)
   have HG2:=aA hG
   have hgz:=hG.lt
   obtain⟨t0,t1,t2,t3⟩:V2.cell? ⟨W.heap.size+1,0,none⟩=some (.slice na nl nc)/\V2.cell? ⟨W.heap.size+1,1,none⟩=some (.slice ba bl bc)/\V2.cell? ⟨W.heap.size+1,2,none⟩=some (.slice da dl dc)/\V2.cell? ⟨W.heap.size+1,3,none⟩=some (.int .i64 root):=⟨HT2.o.cell 0 rfl,HT2.o.cell 1 rfl,HT2.o.cell 2 rfl,HT2.o.cell 3 rfl⟩
   have hDl:(tJ BS NS []).length=dl:=by rw[aBj,HLN.o];simp
   have HDb:=aA (Db.all (BS:=BS) (A:=NS) (D:=[]) (fun x hx=>by simp at hx) HW.o)
   have HGs:=aA hgs
   have HR1s:=aA HR1.o.lt
   obtain⟨co,hco⟩:∃ co,vM NS=co:=⟨_,rfl⟩
   obtain⟨D,hD⟩:∃ D,tJ BS NS []=D:=⟨_,rfl⟩
   obtain⟨mx,hmx⟩:∃ mx,mxR D=mx:=⟨_,rfl⟩
   obtain⟨SS,hSS⟩:∃ SS,(oC f d BS NS []).1=SS:=⟨_,rfl⟩
   rw[hD] at HDb hDl HF
   rw[hco,hmx] at HF
   rw[hSS] at HG2
   have HCo:=aA hco
   have HD:=aA hD
   have HMx:=aA hmx
   have HSS:=aA hSS
   have HDl:=aA hDl
   clear hb hG hz HM3 hDl HR1 HB1 HT1 HNI1 HBI1 HSp hgs k0 k1 hco hD hmx hSS
   go_wp2_with fail
   refine vH aU1 (aVi (by kernel_rfl)) (fun dd a w=>∃ x9 x27 x28 x29 x30 x31 x32 x33 x34,a=⟨#[.agg (cK f d),.agg (fD (.slice na nl nc) (.slice ba bl bc) (.slice da dl dc) (.int .i64 root)),.pointer (some ⟨W.heap.size,0,none⟩),.pointer (some ⟨W.heap.size+1,0,none⟩),.pointer (some ⟨W.heap.size+1+1,0,none⟩),.int .i64 0,.int .i64 0,.slice (some ⟨gs,0,none⟩) dl dl,.int .i64 0,x9,.agg #[.int .i64 f,.int .i64 d],.agg #[.slice na nl nc,.slice ba bl bc,.slice da dl dc,.int .i64 root],.int .i64 0,.int .i64 0,.bool false,undef,undef,.tuple #[.slice (some ⟨gs,0,none⟩) dl dl,.int .i64 0],.agg #[.int .i64 f,.int .i64 d],.agg #[.slice na nl nc,.slice ba bl bc,.slice da dl dc,.int .i64 root],.tuple #[.slice (some ⟨gs,0,none⟩) dl dl,.int .i64 0],.slice (some ⟨gs,0,none⟩) dl dl,.int .i64 0,.int .i64 0,.bool false,undef,undef,x27,x28,x29,x30,x31,x32,x33,x34,undef,undef,undef,undef,undef,undef,undef,undef,undef,undef],[]⟩/\Cr V2 (W.heap.size+1) (fD (.slice na nl nc) (.slice ba bl bc) (.slice da dl dc) (.int .i64 root)) (.slice (some ⟨gs,0,none⟩) dl dl) (.slice da dl dc) co mx D dl dd x9 x27 x28 x29 x30 x31 x32 x33 x34 w) ?_ ?_ ?_
   ·refine⟨_,_,_,_,_,_,_,_,_,rfl,aF V2,?_,?_,?_,?_,?_,?_,?_,?_,?_,?_,?_⟩
    all_goals intro h;cases h
   ·rintro dd a w i o ⟨x9,x27,x28,x29,x30,x31,x32,x33,x34,rfl,C⟩ hdi ho haft Q' hk'
    have HK:=aA hk'
    clear hk'
    have hi:i < 10:=(Array.getElem?_eq_some_iff.1 ho).1
    match i,hi with
    | 0,_ =>
     obtain rfl:=(Option.some.inj ho)
     have nope:dd 9=true->False:=fun h=>by have h2:=C.ph h 0 (by decide);rw[hdi] at h2;cases h2
     clear haft ho
     go_wp2
     exact HK.o _ _ ⟨_,_,_,_,_,_,_,_,_,rfl,⟨C.bel,(fun _=>rfl),C.m1,C.m2,C.m3,C.m4,C.m5,C.m6,C.m7,C.m8,(fun h=>(nope h).elim),(fun h=>(nope h).elim)⟩⟩
    | 1,_ =>
     obtain rfl:=(Option.some.inj ho)
     have nope:dd 9=true->False:=fun h=>by have h2:=C.ph h 1 (by decide);rw[hdi] at h2;cases h2
     clear haft ho
     go_wp2
     exact HK.o _ _ ⟨_,_,_,_,_,_,_,_,_,rfl,⟨C.bel,C.m0,(fun _=>rfl),C.m2,C.m3,C.m4,C.m5,C.m6,C.m7,C.m8,(fun h=>(nope h).elim),(fun h=>(nope h).elim)⟩⟩
    | 2,_ =>
     obtain rfl:=(Option.some.inj ho)
     have nope:dd 9=true->False:=fun h=>by have h2:=C.ph h 2 (by decide);rw[hdi] at h2;cases h2
     have g1:dd 1=true:=haft ⟨1,.data⟩ (by simp) rfl
     clear haft ho
     have e1:=C.m1 g1
     subst e1
     have t2:=(HT2.o.below C.bel).cell 2 rfl
     have C:=aA C
     go_wp2
     have C:=C.o
     exact HK.o _ _ ⟨_,_,_,_,_,_,_,_,_,rfl,⟨C.bel,C.m0,C.m1,(fun _=>rfl),C.m3,C.m4,C.m5,C.m6,C.m7,C.m8,(fun h=>(nope h).elim),(fun h=>(nope h).elim)⟩⟩
    | 3,_ =>
     obtain rfl:=(Option.some.inj ho)
     have nope:dd 9=true->False:=fun h=>by have h2:=C.ph h 3 (by decide);rw[hdi] at h2;cases h2
     have g2:dd 2=true:=haft ⟨2,.data⟩ (by simp) rfl
     clear haft ho
     have e1:=C.m2 g2
     subst e1
     have HQ:=aA (aFi (HN2.o.later C.bel) hfew)
     rw[HCo.o] at HQ
     have C:=aA C
     go_wp2_with fail
     refine HQ.o.mono ?_
     rintro e w' ⟨rfl,hw⟩
     go_wp2
     have C:=C.o
     have hb:=bel C.bel hw
     exact HK.o _ _ ⟨_,_,_,_,_,_,_,_,_,rfl,⟨hb,C.m0,C.m1,C.m2,(fun _=>rfl),C.m4,(fun h h2=>let ⟨g,e,r⟩:=C.m5 h h2;⟨g,e,r.below hw⟩),C.m6,C.m7,(fun h h2=>let ⟨g,e,e2,r⟩:=C.m8 h h2;⟨g,e,e2,r.below hw⟩),(fun h=>(nope h).elim),(fun h=>(nope h).elim)⟩⟩
    | 4,_ =>
     obtain rfl:=(Option.some.inj ho)
     have nope:dd 9=true->False:=fun h=>by have h2:=C.ph h 4 (by decide);rw[hdi] at h2;cases h2
     clear haft ho
     obtain⟨t0,t1,t2,t3⟩:w.cell? ⟨W.heap.size+1,0,none⟩=some (.slice na nl nc)/\w.cell? ⟨W.heap.size+1,1,none⟩=some (.slice ba bl bc)/\w.cell? ⟨W.heap.size+1,2,none⟩=some (.slice da dl dc)/\w.cell? ⟨W.heap.size+1,3,none⟩=some (.int .i64 root):=⟨(HT2.o.below C.bel).cell 0 rfl,(HT2.o.below C.bel).cell 1 rfl,(HT2.o.below C.bel).cell 2 rfl,(HT2.o.below C.bel).cell 3 rfl⟩
     have C:=aA C
     go_wp2
     have C:=C.o
     exact HK.o _ _ ⟨_,_,_,_,_,_,_,_,_,rfl,⟨C.bel,C.m0,C.m1,C.m2,C.m3,(fun _=>rfl),C.m5,C.m6,C.m7,C.m8,(fun h=>(nope h).elim),(fun h=>(nope h).elim)⟩⟩
    | 5,_ =>
     obtain rfl:=(Option.some.inj ho)
     have nope:dd 9=true->False:=fun h=>by have h2:=C.ph h 5 (by decide);rw[hdi] at h2;cases h2
     have g4:dd 4=true:=haft ⟨4,.data⟩ (by simp) rfl
     have g3:dd 3=true:=haft ⟨3,.chain⟩ (by simp) rfl
     clear haft ho
     have e1:=C.m4 g4
     subst e1
     have HQ:=aA (aBi ⟨na,nl,nc,rfl⟩ (root:=root) (HI2.o.later C.bel) (HN2.o.later C.bel) HW.o hfew)
     rw[HD.o] at HQ
     have C:=aA C
     go_wp2_with fail
     refine HQ.o.mono ?_
     rintro e w' ⟨gd,rfl,hG,hw⟩
     go_wp2
     have C:=C.o
     have hb:=bel C.bel hw
     exact HK.o _ _ ⟨_,_,_,_,_,_,_,_,_,rfl,⟨hb,C.m0,C.m1,C.m2,C.m3,C.m4,(fun _ _=>⟨gd,rfl,hG⟩),C.m6,C.m7,(fun h h2=>let ⟨g,e,e2,r⟩:=C.m8 h h2;⟨g,e,e2,r.below hw⟩),(fun h=>(nope h).elim),(fun h=>(nope h).elim)⟩⟩
    | 6,_ =>
     obtain rfl:=(Option.some.inj ho)
     have nope:dd 9=true->False:=fun h=>by have h2:=C.ph h 6 (by decide);rw[hdi] at h2;cases h2
     have g5:dd 5=true:=haft ⟨5,.data⟩ (by simp) rfl
     clear haft ho
     have h9:dd 9=false:=by cases h:dd 9 with|false=>rfl|true=>exact(nope h).elim
     obtain⟨gd,e1,hG⟩:=C.m5 g5 h9
     subst e1
     have HQ:=aA (aN4 (D:=D) (by have h:=aFp hG (by rw[HDl.o];exact hfew);rw[HDl.o] at h;exact h) h1 (fun x hx=>(HDb.o x hx).1))
     rw[HMx.o] at HQ
     clear hG h9
     have C:=aA C
     go_wp2_with fail
     refine HQ.o.mono ?_
     rintro e w' ⟨rfl,rfl⟩
     go_wp2
     have C:=C.o
     exact HK.o _ _ ⟨_,_,_,_,_,_,_,_,_,rfl,⟨C.bel,C.m0,C.m1,C.m2,C.m3,C.m4,C.m5,(fun _=>rfl),C.m7,C.m8,(fun h=>(nope h).elim),(fun h=>(nope h).elim)⟩⟩
    | 7,_ =>
     obtain rfl:=(Option.some.inj ho)
     have nope:dd 9=true->False:=fun h=>by have h2:=C.ph h 7 (by decide);rw[hdi] at h2;cases h2
     have g0:dd 0=true:=haft ⟨0,.data⟩ (by simp) rfl
     have g3:dd 3=true:=haft ⟨3,.data⟩ (by simp) rfl
     have g6:dd 6=true:=haft ⟨6,.data⟩ (by simp) rfl
     clear haft ho
     have e1:=C.m0 g0
     have e2:=C.m3 g3
     have e3:=C.m6 g6
     subst e1 e2 e3
     have C:=aA C
     go_wp2
     have C:=C.o
     exact HK.o _ _ ⟨_,_,_,_,_,_,_,_,_,rfl,⟨C.bel,C.m0,C.m1,C.m2,C.m3,C.m4,C.m5,C.m6,(fun _=>rfl),C.m8,(fun h=>(nope h).elim),(fun h=>(nope h).elim)⟩⟩
    | 8,_ =>
     obtain rfl:=(Option.some.inj ho)
     have nope:dd 9=true->False:=fun h=>by have h2:=C.ph h 8 (by decide);rw[hdi] at h2;cases h2
     clear haft ho
     have C:=aA C
     go_wp2
     have C:=C.o
     have hw:=aC w (.cells jO 35)
     have hb:=bel C.bel hw
     exact HK.o _ _ ⟨_,_,_,_,_,_,_,_,_,rfl,⟨hb,C.m0,C.m1,C.m2,C.m3,C.m4,(fun h h2=>let ⟨g,e,r⟩:=C.m5 h h2;⟨g,e,r.below hw⟩),C.m6,C.m7,(fun _ _=>⟨w.heap.size,rfl,C.bel.size,aB.new w _ _⟩),(fun h=>(nope h).elim),(fun h=>(nope h).elim)⟩⟩
    | 9,_ =>
     obtain rfl:=(Option.some.inj ho)
     have g8:dd 8=true:=haft ⟨8,.data⟩ (by simp) rfl
     have g7:dd 7=true:=haft ⟨7,.data⟩ (by simp) rfl
     have g6:dd 6=true:=haft ⟨6,.chain⟩ (by simp) rfl
     have g0:dd 0=true:=haft ⟨0,.phase⟩ (by simp) rfl
     have g1:dd 1=true:=haft ⟨1,.phase⟩ (by simp) rfl
     have g2:dd 2=true:=haft ⟨2,.phase⟩ (by simp) rfl
     have g3:dd 3=true:=haft ⟨3,.phase⟩ (by simp) rfl
     have g4:dd 4=true:=haft ⟨4,.phase⟩ (by simp) rfl
     have g5:dd 5=true:=haft ⟨5,.phase⟩ (by simp) rfl
     clear haft ho
     have D9:∀ j,j < 9->dd j=true:=fun j hj=>match j,hj with|0,_=>g0|1,_=>g1|2,_=>g2|3,_=>g3|4,_=>g4|5,_=>g5|6,_=>g6|7,_=>g7|8,_=>g8
     have e1:=C.m7 g7
     obtain⟨gr,e2,hge,hR⟩:=C.m8 g8 hdi
     subst e1 e2
     obtain⟨r0,r1,r2,r3,r4,r5⟩:=iR hR
     obtain⟨hp,hpb⟩:=fC (w:=V2) hR C.bel hge (.slice (some ⟨gs,0,none⟩) dl dl) (.int .i64 co) (.int .i64 mx)
     have HP:=aA hp
     have HPB:=aA hpb
     clear hp hpb hR
     have C:=aA C
     go_wp2
     have C:=C.o
     exact HK.o _ _ ⟨_,_,_,_,_,_,_,_,_,rfl,⟨HPB.o,C.m0,C.m1,C.m2,C.m3,C.m4,(fun _ h=>by cases h),C.m6,(fun _=>rfl),(fun _ h=>by cases h),(fun _=>⟨gr,rfl,hge,HP.o⟩),(fun _ j hj=>aXy (D9 j hj))⟩⟩
   ·rintro dd a w ⟨x9,x27,x28,x29,x30,x31,x32,x33,x34,rfl,C⟩ hall
    have D9:∀ i,i < 10->dd i=true:=hall
    obtain⟨gr,e1,hge,hR⟩:=C.m9 (D9 9 (by omega))
    subst e1
    have HGw:=aA (HG2.o.below C.bel)
    have HRw:=aA (HR2.o.below C.bel)
    have HBw:=aA (bel HB2.o C.bel)
    have hrz:=HR2.o.lt
    have HRr:=aA hR
    obtain⟨r0,r1,r2,-,-,-⟩:=iR hR
    obtain⟨q0,q1,q2,q3,q4,q5⟩:=iR HRw.o
    obtain⟨hp,hpb⟩:=fC HRw.o HBw.o (by omega) (.slice none 0 0) (.int .i64 0) (.int .i64 0)
    obtain⟨hq,hqb⟩:=fC HRw.o HBw.o (by omega) (.slice (some ⟨gs,0,none⟩) dl dl) (.int .i64 co) (.int .i64 mx)
    have HGq:=aA (oU (r:=W.heap.size+1+1) HGw.o (by have:=HGs.o;have:=HR1s.o;omega) (.slice (some ⟨gs,0,none⟩) dl dl) (.int .i64 co) (.int .i64 mx))
    have P0:=aA hp
    have PB:=aA hpb
    have Q0:=aA hq
    have QB:=aA hqb
    clear hp hpb hq hqb hR hall D9 C
    by_cases b1:200 < co
    ·have HF2:Hid (nH f d NM BS NS root=14):=aA (by rw[HF.o,if_pos (.inl b1)])
     go_wp2_with fail
     have p0:=P0.o.cell 0 rfl
     have p1:=P0.o.cell 1 rfl
     have p2:=P0.o.cell 2 rfl
     exact bodyPost_ret (v:=.tuple #[.agg jO,.int .i64 14]) (by simp[results,Tryz.results35,go_sem,p0,p1,p2]) rfl (.inl (by rw[HF2.o];exact⟨by decide,rfl,PB.o⟩))
    ·by_cases b2:24 < mx
     ·have HF2:Hid (nH f d NM BS NS root=14):=aA (by rw[HF.o,if_pos (.inr b2)])
      go_wp2_with fail
      have p0:=P0.o.cell 0 rfl
      have p1:=P0.o.cell 1 rfl
      have p2:=P0.o.cell 2 rfl
      exact bodyPost_ret (v:=.tuple #[.agg jO,.int .i64 14]) (by simp[results,Tryz.results35,go_sem,p0,p1,p2]) rfl (.inl (by rw[HF2.o];exact⟨by decide,rfl,PB.o⟩))
     ·have HF2:Hid (nH f d NM BS NS root=0):=aA (by rw[HF.o,if_neg (by omega)])
      go_wp2_with fail
      have p0:=Q0.o.cell 0 rfl
      have p1:=Q0.o.cell 1 rfl
      have p2:=Q0.o.cell 2 rfl
      exact bodyPost_ret (v:=.tuple #[.agg #[.slice (some ⟨gs,0,none⟩) dl dl,.int .i64 co,.int .i64 mx],.int .i64 0]) (by simp[results,Tryz.results35,go_sem,p0,p1,p2]) rfl (.inr ⟨HF2.o,gs,by rw[HLN.o,HCo.o,HD.o,HMx.o],by have:=HGs.o;have:=HR1s.o;omega,by rw[HSS.o];exact HGq.o,QB.o⟩)
 ·have hne:(qR f d NM BS NS root != 0)=true:=by simpa using hm
  have HF:=aA (aTo hm)
  have HE:=aA hm
  obtain⟨r0,r1,r2,r3,r4,r5⟩:=iR HR1.o
  clear hm hb HM HX HBI HNI HK0 HT0 HR0 HB0
  generalize qR f d NM BS NS root=er at *
  go_wp2_with fail
  obtain⟨hp,hpb⟩:=fC HR1.o HB1.o (by omega) (.slice none 0 0) (.int .i64 0) (.int .i64 0)
  have p0:=hp.cell 0 rfl
  have p1:=hp.cell 1 rfl
  have p2:=hp.cell 2 rfl
  exact bodyPost_ret (v:=.tuple #[.agg jO,.int .i64 er]) (by simp[results,Tryz.results35,go_sem,p0,p1,p2]) rfl (.inl (by rw[HF.o];exact⟨HE.o,rfl,hpb⟩))
end Go.Proofs.YtjmfboegnmogdaaGreat
namespace Go.Proofs.YtjmfboegnmogdaaGreat
open Go.RowKit Go.IntWalk Lx Pz
abbrev aB6 (es:List E)(ex:E):List Nd:=jM es 0++ex.flat (cO es)
abbrev rootOf (es:List E)(ex:E):Int:=((cO es+ex.size:Nat):Int)-1
theorem aIs {l:List UInt8}{T:List Tok}{NM:List aQ}{es:List E}{ex:E}(hT:tks l=some T)(hg:GP [] [] (T.map ab) (NM,es,ex))(hl:NM.length=es.length)(hz:cO es+ex.size<=T.length) :
  Dec NM (kJ es 0) (aB6 es ex) (rootOf es ex) es ex:=by
 have hok:(T.map ab).all dN=true:=by
  rw[List.all_map,List.all_eq_true]
  intro t ht
  exact aVc (aOh hT t ht)
 obtain⟨h1,h2,h3⟩:=aW5 hg hok rfl (by intro j e h;simp at h) rfl
 have h4:=aSe hT
 exact⟨rfl,rfl,hl,h1,h2,h3,by rw[List.length_append,dB,E.flat_len],by rw[List.length_append,dB,E.flat_len];omega⟩
theorem aMs {NM:List aQ}(h:nmB NM=true):∀ s ∈ NM,s.length<=9223372036854775807:=by
 intro s hs
 simp only[nmB,Bool.and_eq_true,List.all_eq_true] at h
 have h1:=h.1 s hs
 have h2:uZ s=true:=h1.1
 simp only[uZ,Bool.and_eq_true,decide_eq_true_eq] at h2
 have:=h2.1.1.2
 omega
theorem aF7 (s:ByteArray)(w:World):Calls Tryz.prog 11 #[.string s] w fun e W' =>
  (e=.returned (.tuple #[.agg aB4,.int .i64 10])/\Below w.heap.size w W') \/
  (∃ A NM es ex na nc ba bc da dc,ak (bs s)=some A/\GP [] [] A (NM,es,ex)/\Dec NM (kJ es 0) (aB6 es ex) (rootOf es ex) es ex /\
   e=.returned (.tuple #[.agg (fD (.slice na es.length nc) (.slice ba es.length bc) (.slice da (cO es+ex.size) dc) (.int .i64 (rootOf es ex))),.int .i64 0])/\Tx W' na es.length nc NM/\Iz W' ba es.length bc (kJ es 0) /\
   Nz W' da (cO es+ex.size) dc (aB6 es ex)/\Below w.heap.size w W'):=by
 refine(aF8 s w).mono ?_
 rintro e W1 (⟨h1,h2,-⟩|⟨T,NM,es,ex,na,nc,ba,bc,da,dc,hT,hA,h3,h4,rfl,h6,h7,h8,h9⟩)
 ·exact .inl ⟨h1,h2⟩
 ·have hg:=(hA (NM,es,ex)).1 rfl
  exact .inr ⟨T.map ab,NM,es,ex,na,nc,ba,bc,da,dc,(aWu hT).1,hg,aIs hT hg h3 h4,rfl,h6,h7,h8,h9⟩

end Go.Proofs.YtjmfboegnmogdaaGreat
namespace Go.Proofs.YtjmfboegnmogdaaGreat
open Lx Pz
def Cd (e:Int):Prop:=e=0\/e=1\/e=12\/e=13
theorem rY {f d:Int}{NM:List aQ}{BS:List Int}{NS:List Nd}{root:Int}:nH f d NM BS NS root=0↔Knd.May f d/\qF NM BS NS root=true/\NS.any (ahB f d)=false/\(oC f d BS NS []).2=0/\vM NS<=200/\mxR (tJ BS NS [])<=24:=by
 unfold nH
 by_cases h1:Knd.May f d
 ·rw[if_neg (by simpa using h1)]
  cases h2:qF NM BS NS root
  ·simp
  ·rw[if_neg (by simp)]
   cases h3:NS.any (ahB f d)
   ·rw[if_neg (by simp)]
    by_cases h4:(oC f d BS NS []).2=0
    ·rw[if_neg (by simpa using h4)]
     by_cases h5:200 < vM NS\/24 < mxR (tJ BS NS [])
     ·rw[if_pos h5]
      constructor
      ·intro h;cases h
      ·rintro⟨-,-,-,-,a,b⟩;omega
     ·rw[if_neg h5]
      exact⟨fun _=>⟨h1,rfl,rfl,h4,by omega,by omega⟩,fun _=>rfl⟩
    ·rw[if_pos h4]
     exact⟨fun h=>absurd h h4,fun h=>absurd h.2.2.2.1 h4⟩
   ·rw[if_pos rfl]
    constructor
    ·intro h;cases h
    ·rintro⟨-,-,h,-⟩;cases h
 ·rw[if_pos h1]
  constructor
  ·intro h;cases h
  ·intro h;exact absurd h.1 h1
end Go.Proofs.YtjmfboegnmogdaaGreat
