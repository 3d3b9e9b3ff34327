import Derived.Lib.ItoaNum
import Derived.Test.YtngnnijpdjhelaaGreatX38
import Derived.Test.YtngnnijpdjhelaaGreatX20
namespace Go.Proofs.YtngnnijpdjhelaaGreat
open Go.RowKit Go.IntWalk Lx Pz
set_option linter.unusedVariables false
set_option maxRecDepth 100000
set_option maxHeartbeats 16000000
abbrev rep0:Array Value:=#[.slice none 0 0,.int .i64 0,.int .i64 0]
def CkP (w:World)(f d:Int)(NM:List Txt)(BS:List Int)(NS:List Nd)(root:Int)(e:Ending)(W':World):Prop :=
 (ckE f d NM BS NS root≠0/\e=.returned (.tuple #[.agg rep0,.int .i64 (ckE f d NM BS NS root)])/\Below w.heap.size w W') \/
 (ckE f d NM BS NS root=0/\∃ g,e=.returned (.tuple #[.agg #[.slice (some ⟨g,0,none⟩) NS.length NS.length,.int .i64 (coR NS),.int .i64 (mxR (dpR BS NS []))],.int .i64 0])/\w.heap.size<=g/\HasC W' g 103 (spA (spR f d BS NS []).1)/\Below w.heap.size w W')
theorem three_of {W:World}{b:Nat}{t:TypeId}{x y z:Value}(h:HasC W b t #[x,y,z]):W.cell? ⟨b,0,none⟩=some x/\W.cell? ⟨b,1,none⟩=some y/\W.cell? ⟨b,2,none⟩=some z/\W.frozen? ⟨b,0,none⟩=false/\W.frozen? ⟨b,1,none⟩=false/\W.frozen? ⟨b,2,none⟩=false :=
 ⟨h.cell 0 rfl,h.cell 1 rfl,h.cell 2 rfl,h.frozen 0,h.frozen 1,h.frozen 2⟩
theorem put_three {w w2:World}{b:Nat}{t:TypeId}{p q r:Value}(h:HasC w2 b t #[p,q,r])(hB:Below w.heap.size w w2)(hb:w.heap.size<=b)(x y z:Value) :
  HasC (((w2.setCell ⟨b,0,none⟩ x).setCell ⟨b,1,none⟩ y).setCell ⟨b,2,none⟩ z) b t #[x,y,z] /\
  Below w.heap.size w (((w2.setCell ⟨b,0,none⟩ x).setCell ⟨b,1,none⟩ y).setCell ⟨b,2,none⟩ z) :=
 ⟨((h.set 0 x).set 1 y).set 2 z,((hB.setCell (p:=⟨b,0,none⟩) hb _).setCell (p:=⟨b,1,none⟩) hb _).setCell (p:=⟨b,2,none⟩) hb _⟩
theorem other_three {W:World}{b r:Nat}{t:TypeId}{cs:Array Value}(h:HasC W b t cs)(hr:b≠r)(x y z:Value):HasC (((W.setCell ⟨r,0,none⟩ x).setCell ⟨r,1,none⟩ y).setCell ⟨r,2,none⟩ z) b t cs :=
 ((h.other (p:=⟨r,0,none⟩) hr x).other (p:=⟨r,1,none⟩) hr y).other (p:=⟨r,2,none⟩) hr z
theorem ck_may {f d:Int}{NM:List Txt}{BS:List Int}{NS:List Nd}{root:Int}(h:mayE f d NM BS NS root≠0):ckE f d NM BS NS root=mayE f d NM BS NS root:=by
 unfold mayE at h ⊢
 unfold ckE
 by_cases h1:¬Knd.May f d
 ·rw[if_pos h1,if_pos h1]
 ·rw[if_neg h1] at h ⊢
  rw[if_neg h1]
  by_cases h2:chkP NM BS NS root=false
  ·rw[if_pos h2,if_pos h2]
  ·rw[if_neg h2] at h ⊢
   rw[if_neg h2]
   by_cases h3:NS.any (ahB f d)=true
   ·rw[if_pos h3,if_pos h3]
   ·rw[if_neg h3] at h
    exact absurd rfl h
theorem ck_ok {f d:Int}{NM:List Txt}{BS:List Int}{NS:List Nd}{root:Int}(h:mayE f d NM BS NS root=0):Knd.May f d/\chkP NM BS NS root=true /\
  ckE f d NM BS NS root=if (spR f d BS NS []).2≠0 then(spR f d BS NS []).2 else if 200 < coR NS\/24 < mxR (dpR BS NS []) then 14 else 0:=by
 unfold mayE at h
 by_cases h1:¬Knd.May f d
 ·rw[if_pos h1] at h;cases h
 ·rw[if_neg h1] at h
  by_cases h2:chkP NM BS NS root=false
  ·rw[if_pos h2] at h;cases h
  ·rw[if_neg h2] at h
   by_cases h3:NS.any (ahB f d)=true
   ·rw[if_pos h3] at h;cases h
   ·refine⟨Decidable.of_not_not h1,by simpa using h2,?_⟩
    unfold ckE
    rw[if_neg h1,if_neg h2,if_neg h3]
structure Cr (V:World)(tb:Nat)(tv:Array Value)(sv dv:Value)(co mx:Int)(D:List Int)(n:Nat)(d:Nat->Bool)(x9 x27 x28 x29 x30 x31 x32 x33 x34:Value)(w:World):Prop where
 bel:Below V.heap.size V w
 m0:d 0=true->x27=sv
 m1:d 1=true->x28=.pointer (some ⟨tb,2,none⟩)
 m2:d 2=true->x29=dv
 m3:d 3=true->x30=.int .i64 co
 m4:d 4=true->x31=.agg tv
 m5:d 5=true->d 9=false->∃ gd,x32=.slice (some ⟨gd,0,none⟩) n n/\HasC w gd 3 (inA D)
 m6:d 6=true->x33=.int .i64 mx
 m7:d 7=true->x34=.agg #[sv,.int .i64 co,.int .i64 mx]
 m8:d 8=true->d 9=false->∃ gr,x9=.pointer (some ⟨gr,0,none⟩)/\V.heap.size<=gr/\HasC w gr 50 rep0
 m9:d 9=true->∃ gr,x9=.pointer (some ⟨gr,0,none⟩)/\V.heap.size<=gr/\HasC w gr 50 #[sv,.int .i64 co,.int .i64 mx]
 ph:d 9=true->∀ j,j < 9->d j=true
theorem or_tt {a b:Bool}(h:b=true):(a || b)=true:=by rw[h];simp
theorem mixedE:Tryz.prog.follows .mixedOrders=true:=by kernel_rfl
theorem ccheck_any (f d:Int){W:World}{na ba da:Option Addr}{nl nc bl bc dl dc:Nat}{root:Int}{NM:List Txt}{BS:List Int}{NS:List Nd}(hX:Tx W na nl nc NM)(hB:Iz W ba bl bc BS)(hN:Nz W da dl dc NS)(hs:∀ s ∈ NM,s.length<=9223372036854775807) :
  Calls Tryz.prog 15 #[.agg (kdA f d),.agg (tr4 (.slice na nl nc) (.slice ba bl bc) (.slice da dl dc) (.int .i64 root))] W (CkP W f d NM BS NS root):=by
 have hb1:=bel1 W (.cells (kdA f d) 23)
 have hb2:=bel hb1 (bel1 (W.alloc (.cells (kdA f d) 23)) (.cells (tr4 (.slice na nl nc) (.slice ba bl bc) (.slice da dl dc) (.int .i64 root)) 28))
 have hb3:=bel hb2 (bel1 ((W.alloc (.cells (kdA f d) 23)).alloc (.cells (tr4 (.slice na nl nc) (.slice ba bl bc) (.slice da dl dc) (.int .i64 root)) 28)) (.cells rep0 50))
 have HK0:=hide (((HasC.new W 23 (kdA f d)).alloc (.cells (tr4 (.slice na nl nc) (.slice ba bl bc) (.slice da dl dc) (.int .i64 root)) 28)).alloc (.cells rep0 50))
 have HT0:Hid (HasC (((W.alloc (.cells (kdA f d) 23)).alloc (.cells (tr4 (.slice na nl nc) (.slice ba bl bc) (.slice da dl dc) (.int .i64 root)) 28)).alloc (.cells rep0 50)) (W.heap.size+1) 28 (tr4 (.slice na nl nc) (.slice ba bl bc) (.slice da dl dc) (.int .i64 root))):=by
  have:=(HasC.new (W.alloc (.cells (kdA f d) 23)) 28 (tr4 (.slice na nl nc) (.slice ba bl bc) (.slice da dl dc) (.int .i64 root))).alloc (.cells rep0 50)
  simp only[World.size_alloc] at this
  exact hide this
 have HR0:Hid (HasC (((W.alloc (.cells (kdA f d) 23)).alloc (.cells (tr4 (.slice na nl nc) (.slice ba bl bc) (.slice da dl dc) (.int .i64 root)) 28)).alloc (.cells rep0 50)) (W.heap.size+1+1) 50 rep0):=by
  have:=HasC.new ((W.alloc (.cells (kdA f d) 23)).alloc (.cells (tr4 (.slice na nl nc) (.slice ba bl bc) (.slice da dl dc) (.int .i64 root)) 28)) 50 rep0
  simp only[World.size_alloc] at this
  exact hide this
 have HX:=hide (hX.later hb3)
 have HBI:=hide (hB.later hb3)
 have HNI:=hide (hN.later hb3)
 have HLN:=hide hN.len
 have HB0:=hide hb3
 have HM:=hide (emay_any f d (root:=root) (hX.later hb3) (hB.later hb3) (hN.later hb3) hs)
 clear hX hB hN hb1 hb2 hb3 hs
 go_enter Tryz.func15,Tryz.ntmps15
 go_wp2_with fail
 refine HM.out.mono ?_
 rintro e V1 ⟨rfl,hb⟩
 have HR1:=hide (HR0.out.below hb)
 have HB1:=hide (bel HB0.out hb)
 by_cases hm:mayE f d NM BS NS root=0
 ·obtain⟨m1,m2,m3⟩:=ck_ok hm
  obtain⟨es,ex,hD⟩:=chk_dec.1 m2
  have hfew:dl<=1024:=by rw[<-HLN.out];exact hD.few
  have h1:1<=dl:=by rw[<-HLN.out,hD.nodes,List.length_append,E.flat_len];have:=ex.size_pos;omega
  have HK1:=hide (HK0.out.below hb)
  have HT1:=hide (HT0.out.below hb)
  have HNI1:=hide (HNI.out.later hb)
  have HBI1:=hide (HBI.out.later hb)
  have HW:=hide hD.wl
  have HM3:=hide m3
  have HSp:=hide (spansOf_any f d ⟨na,nl,nc,rfl⟩ (root:=root) m1 (HBI.out.later hb) (HNI.out.later hb) hD.wl hfew)
  obtain⟨k0,k1,-,-⟩:=two_of HK1.out
  obtain⟨t0,t1,t2,t3⟩:V1.cell? ⟨W.heap.size+1,0,none⟩=some (.slice na nl nc)/\V1.cell? ⟨W.heap.size+1,1,none⟩=some (.slice ba bl bc)/\V1.cell? ⟨W.heap.size+1,2,none⟩=some (.slice da dl dc)/\V1.cell? ⟨W.heap.size+1,3,none⟩=some (.int .i64 root):=⟨HT1.out.cell 0 rfl,HT1.out.cell 1 rfl,HT1.out.cell 2 rfl,HT1.out.cell 3 rfl⟩
  rw[hm]
  clear hm hb m1 m2 m3 hD HM HK0 HT0 HR0 HB0 HX HBI HNI
  go_wp2_with fail
  refine HSp.out.mono ?_
  rintro e V2 (⟨hz,rfl,hb⟩|⟨hz,gs,rfl,hgs,hG,hb⟩)
  ·have hne:((spR f d BS NS []).2 != 0)=true:=by simpa using hz
   have HF:Hid (ckE f d NM BS NS root=(spR f d BS NS []).2):=hide (by rw[HM3.out,if_pos hz])
   have HR2:=hide (HR1.out.below hb)
   have HB2:=hide (bel HB1.out hb)
   have HZ:=hide hz
   obtain⟨r0,r1,r2,r3,r4,r5⟩:=three_of HR2.out
   clear hb hz HM3
   generalize (spR f d BS NS []).2=er at *
   go_wp2_with fail
   obtain⟨hp,hpb⟩:=put_three HR2.out HB2.out (by omega) (.slice none 0 0) (.int .i64 0) (.int .i64 0)
   have p0:=hp.cell 0 rfl
   have p1:=hp.cell 1 rfl
   have p2:=hp.cell 2 rfl
   exact bodyPost_ret (v:=.tuple #[.agg rep0,.int .i64 er]) (by simp[results,Tryz.results15,go_sem,p0,p1,p2]) rfl (.inl (by rw[HF.out];exact⟨HZ.out,rfl,hpb⟩))
  ·have HF:Hid (ckE f d NM BS NS root=if 200 < coR NS\/24 < mxR (dpR BS NS []) then 14 else 0):=hide (by rw[HM3.out,if_neg (by simpa using hz)])
   have HR2:=hide (HR1.out.below hb)
   have HB2:=hide (bel HB1.out hb)
   have HT2:=hide (HT1.out.below hb)
   have HN2:=hide (HNI1.out.later hb)
   have HI2:=hide (HBI1.out.later hb)
   have HG2:=hide hG
   have hgz:=hG.lt
   obtain⟨t0,t1,t2,t3⟩:V2.cell? ⟨W.heap.size+1,0,none⟩=some (.slice na nl nc)/\V2.cell? ⟨W.heap.size+1,1,none⟩=some (.slice ba bl bc)/\V2.cell? ⟨W.heap.size+1,2,none⟩=some (.slice da dl dc)/\V2.cell? ⟨W.heap.size+1,3,none⟩=some (.int .i64 root):=⟨HT2.out.cell 0 rfl,HT2.out.cell 1 rfl,HT2.out.cell 2 rfl,HT2.out.cell 3 rfl⟩
   have hDl:(dpR BS NS []).length=dl:=by rw[dpR_len,HLN.out];simp
   have HDb:=hide (Db.all (BS:=BS) (A:=NS) (D:=[]) (fun x hx=>by simp at hx) HW.out)
   have HGs:=hide hgs
   have HR1s:=hide HR1.out.lt
   obtain⟨co,hco⟩:∃ co,coR NS=co:=⟨_,rfl⟩
   obtain⟨D,hD⟩:∃ D,dpR BS NS []=D:=⟨_,rfl⟩
   obtain⟨mx,hmx⟩:∃ mx,mxR D=mx:=⟨_,rfl⟩
   obtain⟨SS,hSS⟩:∃ SS,(spR f d BS NS []).1=SS:=⟨_,rfl⟩
   rw[hD] at HDb hDl HF
   rw[hco,hmx] at HF
   rw[hSS] at HG2
   have HCo:=hide hco
   have HD:=hide hD
   have HMx:=hide hmx
   have HSS:=hide hSS
   have HDl:=hide hDl
   clear hb hG hz HM3 hDl HR1 HB1 HT1 HNI1 HBI1 HSp hgs k0 k1 hco hD hmx hSS
   go_wp2_with fail
   refine wp_region_flags mixedE (ord_of (by kernel_rfl)) (fun dd a w=>∃ x9 x27 x28 x29 x30 x31 x32 x33 x34,a=⟨#[.agg (kdA f d),.agg (tr4 (.slice na nl nc) (.slice ba bl bc) (.slice da dl dc) (.int .i64 root)),.pointer (some ⟨W.heap.size,0,none⟩),.pointer (some ⟨W.heap.size+1,0,none⟩),.pointer (some ⟨W.heap.size+1+1,0,none⟩),.int .i64 0,.int .i64 0,.slice (some ⟨gs,0,none⟩) dl dl,.int .i64 0,x9,.agg #[.int .i64 f,.int .i64 d],.agg #[.slice na nl nc,.slice ba bl bc,.slice da dl dc,.int .i64 root],.int .i64 0,.int .i64 0,.bool false,undef,undef,.tuple #[.slice (some ⟨gs,0,none⟩) dl dl,.int .i64 0],.agg #[.int .i64 f,.int .i64 d],.agg #[.slice na nl nc,.slice ba bl bc,.slice da dl dc,.int .i64 root],.tuple #[.slice (some ⟨gs,0,none⟩) dl dl,.int .i64 0],.slice (some ⟨gs,0,none⟩) dl dl,.int .i64 0,.int .i64 0,.bool false,undef,undef,x27,x28,x29,x30,x31,x32,x33,x34,undef,undef,undef,undef,undef,undef,undef,undef,undef,undef],[]⟩/\Cr V2 (W.heap.size+1) (tr4 (.slice na nl nc) (.slice ba bl bc) (.slice da dl dc) (.int .i64 root)) (.slice (some ⟨gs,0,none⟩) dl dl) (.slice da dl dc) co mx D dl dd x9 x27 x28 x29 x30 x31 x32 x33 x34 w) ?_ ?_ ?_
   ·refine⟨_,_,_,_,_,_,_,_,_,rfl,below_drew V2,?_,?_,?_,?_,?_,?_,?_,?_,?_,?_,?_⟩
    all_goals intro h;cases h
   ·rintro dd a w i o ⟨x9,x27,x28,x29,x30,x31,x32,x33,x34,rfl,C⟩ hdi ho haft Q' hk'
    have HK:=hide hk'
    clear hk'
    have hi:i < 10:=(Array.getElem?_eq_some_iff.1 ho).1
    match i,hi with
    | 0,_ =>
     obtain rfl:=(Option.some.inj ho)
     have nope:dd 9=true->False:=fun h=>by have h2:=C.ph h 0 (by decide);rw[hdi] at h2;cases h2
     clear haft ho
     go_wp2
     exact HK.out _ _ ⟨_,_,_,_,_,_,_,_,_,rfl,⟨C.bel,(fun _=>rfl),C.m1,C.m2,C.m3,C.m4,C.m5,C.m6,C.m7,C.m8,(fun h=>(nope h).elim),(fun h=>(nope h).elim)⟩⟩
    | 1,_ =>
     obtain rfl:=(Option.some.inj ho)
     have nope:dd 9=true->False:=fun h=>by have h2:=C.ph h 1 (by decide);rw[hdi] at h2;cases h2
     clear haft ho
     go_wp2
     exact HK.out _ _ ⟨_,_,_,_,_,_,_,_,_,rfl,⟨C.bel,C.m0,(fun _=>rfl),C.m2,C.m3,C.m4,C.m5,C.m6,C.m7,C.m8,(fun h=>(nope h).elim),(fun h=>(nope h).elim)⟩⟩
    | 2,_ =>
     obtain rfl:=(Option.some.inj ho)
     have nope:dd 9=true->False:=fun h=>by have h2:=C.ph h 2 (by decide);rw[hdi] at h2;cases h2
     have g1:dd 1=true:=haft ⟨1,.data⟩ (by simp) rfl
     clear haft ho
     have e1:=C.m1 g1
     subst e1
     have t2:=(HT2.out.below C.bel).cell 2 rfl
     have C:=hide C
     go_wp2
     have C:=C.out
     exact HK.out _ _ ⟨_,_,_,_,_,_,_,_,_,rfl,⟨C.bel,C.m0,C.m1,(fun _=>rfl),C.m3,C.m4,C.m5,C.m6,C.m7,C.m8,(fun h=>(nope h).elim),(fun h=>(nope h).elim)⟩⟩
    | 3,_ =>
     obtain rfl:=(Option.some.inj ho)
     have nope:dd 9=true->False:=fun h=>by have h2:=C.ph h 3 (by decide);rw[hdi] at h2;cases h2
     have g2:dd 2=true:=haft ⟨2,.data⟩ (by simp) rfl
     clear haft ho
     have e1:=C.m2 g2
     subst e1
     have HQ:=hide (costOf_any (HN2.out.later C.bel) hfew)
     rw[HCo.out] at HQ
     have C:=hide C
     go_wp2_with fail
     refine HQ.out.mono ?_
     rintro e w' ⟨rfl,hw⟩
     go_wp2
     have C:=C.out
     have hb:=bel C.bel hw
     exact HK.out _ _ ⟨_,_,_,_,_,_,_,_,_,rfl,⟨hb,C.m0,C.m1,C.m2,(fun _=>rfl),C.m4,(fun h h2=>let ⟨g,e,r⟩:=C.m5 h h2;⟨g,e,r.below hw⟩),C.m6,C.m7,(fun h h2=>let ⟨g,e,e2,r⟩:=C.m8 h h2;⟨g,e,e2,r.below hw⟩),(fun h=>(nope h).elim),(fun h=>(nope h).elim)⟩⟩
    | 4,_ =>
     obtain rfl:=(Option.some.inj ho)
     have nope:dd 9=true->False:=fun h=>by have h2:=C.ph h 4 (by decide);rw[hdi] at h2;cases h2
     clear haft ho
     obtain⟨t0,t1,t2,t3⟩:w.cell? ⟨W.heap.size+1,0,none⟩=some (.slice na nl nc)/\w.cell? ⟨W.heap.size+1,1,none⟩=some (.slice ba bl bc)/\w.cell? ⟨W.heap.size+1,2,none⟩=some (.slice da dl dc)/\w.cell? ⟨W.heap.size+1,3,none⟩=some (.int .i64 root):=⟨(HT2.out.below C.bel).cell 0 rfl,(HT2.out.below C.bel).cell 1 rfl,(HT2.out.below C.bel).cell 2 rfl,(HT2.out.below C.bel).cell 3 rfl⟩
     have C:=hide C
     go_wp2
     have C:=C.out
     exact HK.out _ _ ⟨_,_,_,_,_,_,_,_,_,rfl,⟨C.bel,C.m0,C.m1,C.m2,C.m3,(fun _=>rfl),C.m5,C.m6,C.m7,C.m8,(fun h=>(nope h).elim),(fun h=>(nope h).elim)⟩⟩
    | 5,_ =>
     obtain rfl:=(Option.some.inj ho)
     have nope:dd 9=true->False:=fun h=>by have h2:=C.ph h 5 (by decide);rw[hdi] at h2;cases h2
     have g4:dd 4=true:=haft ⟨4,.data⟩ (by simp) rfl
     have g3:dd 3=true:=haft ⟨3,.chain⟩ (by simp) rfl
     clear haft ho
     have e1:=C.m4 g4
     subst e1
     have HQ:=hide (depthsOf_any ⟨na,nl,nc,rfl⟩ (root:=root) (HI2.out.later C.bel) (HN2.out.later C.bel) HW.out hfew)
     rw[HD.out] at HQ
     have C:=hide C
     go_wp2_with fail
     refine HQ.out.mono ?_
     rintro e w' ⟨gd,rfl,hG,hw⟩
     go_wp2
     have C:=C.out
     have hb:=bel C.bel hw
     exact HK.out _ _ ⟨_,_,_,_,_,_,_,_,_,rfl,⟨hb,C.m0,C.m1,C.m2,C.m3,C.m4,(fun _ _=>⟨gd,rfl,hG⟩),C.m6,C.m7,(fun h h2=>let ⟨g,e,e2,r⟩:=C.m8 h h2;⟨g,e,e2,r.below hw⟩),(fun h=>(nope h).elim),(fun h=>(nope h).elim)⟩⟩
    | 6,_ =>
     obtain rfl:=(Option.some.inj ho)
     have nope:dd 9=true->False:=fun h=>by have h2:=C.ph h 6 (by decide);rw[hdi] at h2;cases h2
     have g5:dd 5=true:=haft ⟨5,.data⟩ (by simp) rfl
     clear haft ho
     have h9:dd 9=false:=by cases h:dd 9 with|false=>rfl|true=>exact(nope h).elim
     obtain⟨gd,e1,hG⟩:=C.m5 g5 h9
     subst e1
     have HQ:=hide (smax_any (D:=D) (by have h:=has_iz hG (by rw[HDl.out];exact hfew);rw[HDl.out] at h;exact h) h1 (fun x hx=>(HDb.out x hx).1))
     rw[HMx.out] at HQ
     clear hG h9
     have C:=hide C
     go_wp2_with fail
     refine HQ.out.mono ?_
     rintro e w' ⟨rfl,rfl⟩
     go_wp2
     have C:=C.out
     exact HK.out _ _ ⟨_,_,_,_,_,_,_,_,_,rfl,⟨C.bel,C.m0,C.m1,C.m2,C.m3,C.m4,C.m5,(fun _=>rfl),C.m7,C.m8,(fun h=>(nope h).elim),(fun h=>(nope h).elim)⟩⟩
    | 7,_ =>
     obtain rfl:=(Option.some.inj ho)
     have nope:dd 9=true->False:=fun h=>by have h2:=C.ph h 7 (by decide);rw[hdi] at h2;cases h2
     have g0:dd 0=true:=haft ⟨0,.data⟩ (by simp) rfl
     have g3:dd 3=true:=haft ⟨3,.data⟩ (by simp) rfl
     have g6:dd 6=true:=haft ⟨6,.data⟩ (by simp) rfl
     clear haft ho
     have e1:=C.m0 g0
     have e2:=C.m3 g3
     have e3:=C.m6 g6
     subst e1 e2 e3
     have C:=hide C
     go_wp2
     have C:=C.out
     exact HK.out _ _ ⟨_,_,_,_,_,_,_,_,_,rfl,⟨C.bel,C.m0,C.m1,C.m2,C.m3,C.m4,C.m5,C.m6,(fun _=>rfl),C.m8,(fun h=>(nope h).elim),(fun h=>(nope h).elim)⟩⟩
    | 8,_ =>
     obtain rfl:=(Option.some.inj ho)
     have nope:dd 9=true->False:=fun h=>by have h2:=C.ph h 8 (by decide);rw[hdi] at h2;cases h2
     clear haft ho
     have C:=hide C
     go_wp2
     have C:=C.out
     have hw:=bel1 w (.cells rep0 50)
     have hb:=bel C.bel hw
     exact HK.out _ _ ⟨_,_,_,_,_,_,_,_,_,rfl,⟨hb,C.m0,C.m1,C.m2,C.m3,C.m4,(fun h h2=>let ⟨g,e,r⟩:=C.m5 h h2;⟨g,e,r.below hw⟩),C.m6,C.m7,(fun _ _=>⟨w.heap.size,rfl,C.bel.size,HasC.new w _ _⟩),(fun h=>(nope h).elim),(fun h=>(nope h).elim)⟩⟩
    | 9,_ =>
     obtain rfl:=(Option.some.inj ho)
     have g8:dd 8=true:=haft ⟨8,.data⟩ (by simp) rfl
     have g7:dd 7=true:=haft ⟨7,.data⟩ (by simp) rfl
     have g6:dd 6=true:=haft ⟨6,.chain⟩ (by simp) rfl
     have g0:dd 0=true:=haft ⟨0,.phase⟩ (by simp) rfl
     have g1:dd 1=true:=haft ⟨1,.phase⟩ (by simp) rfl
     have g2:dd 2=true:=haft ⟨2,.phase⟩ (by simp) rfl
     have g3:dd 3=true:=haft ⟨3,.phase⟩ (by simp) rfl
     have g4:dd 4=true:=haft ⟨4,.phase⟩ (by simp) rfl
     have g5:dd 5=true:=haft ⟨5,.phase⟩ (by simp) rfl
     clear haft ho
     have D9:∀ j,j < 9->dd j=true:=fun j hj=>match j,hj with|0,_=>g0|1,_=>g1|2,_=>g2|3,_=>g3|4,_=>g4|5,_=>g5|6,_=>g6|7,_=>g7|8,_=>g8
     have e1:=C.m7 g7
     obtain⟨gr,e2,hge,hR⟩:=C.m8 g8 hdi
     subst e1 e2
     obtain⟨r0,r1,r2,r3,r4,r5⟩:=three_of hR
     obtain⟨hp,hpb⟩:=put_three (w:=V2) hR C.bel hge (.slice (some ⟨gs,0,none⟩) dl dl) (.int .i64 co) (.int .i64 mx)
     have HP:=hide hp
     have HPB:=hide hpb
     clear hp hpb hR
     have C:=hide C
     go_wp2
     have C:=C.out
     exact HK.out _ _ ⟨_,_,_,_,_,_,_,_,_,rfl,⟨HPB.out,C.m0,C.m1,C.m2,C.m3,C.m4,(fun _ h=>by cases h),C.m6,(fun _=>rfl),(fun _ h=>by cases h),(fun _=>⟨gr,rfl,hge,HP.out⟩),(fun _ j hj=>or_tt (D9 j hj))⟩⟩
   ·rintro dd a w ⟨x9,x27,x28,x29,x30,x31,x32,x33,x34,rfl,C⟩ hall
    have D9:∀ i,i < 10->dd i=true:=hall
    obtain⟨gr,e1,hge,hR⟩:=C.m9 (D9 9 (by omega))
    subst e1
    have HGw:=hide (HG2.out.below C.bel)
    have HRw:=hide (HR2.out.below C.bel)
    have HBw:=hide (bel HB2.out C.bel)
    have hrz:=HR2.out.lt
    have HRr:=hide hR
    obtain⟨r0,r1,r2,-,-,-⟩:=three_of hR
    obtain⟨q0,q1,q2,q3,q4,q5⟩:=three_of HRw.out
    obtain⟨hp,hpb⟩:=put_three HRw.out HBw.out (by omega) (.slice none 0 0) (.int .i64 0) (.int .i64 0)
    obtain⟨hq,hqb⟩:=put_three HRw.out HBw.out (by omega) (.slice (some ⟨gs,0,none⟩) dl dl) (.int .i64 co) (.int .i64 mx)
    have HGq:=hide (other_three (r:=W.heap.size+1+1) HGw.out (by have:=HGs.out;have:=HR1s.out;omega) (.slice (some ⟨gs,0,none⟩) dl dl) (.int .i64 co) (.int .i64 mx))
    have P0:=hide hp
    have PB:=hide hpb
    have Q0:=hide hq
    have QB:=hide hqb
    clear hp hpb hq hqb hR hall D9 C
    by_cases b1:200 < co
    ·have HF2:Hid (ckE f d NM BS NS root=14):=hide (by rw[HF.out,if_pos (.inl b1)])
     go_wp2_with fail
     have p0:=P0.out.cell 0 rfl
     have p1:=P0.out.cell 1 rfl
     have p2:=P0.out.cell 2 rfl
     exact bodyPost_ret (v:=.tuple #[.agg rep0,.int .i64 14]) (by simp[results,Tryz.results15,go_sem,p0,p1,p2]) rfl (.inl (by rw[HF2.out];exact⟨by decide,rfl,PB.out⟩))
    ·by_cases b2:24 < mx
     ·have HF2:Hid (ckE f d NM BS NS root=14):=hide (by rw[HF.out,if_pos (.inr b2)])
      go_wp2_with fail
      have p0:=P0.out.cell 0 rfl
      have p1:=P0.out.cell 1 rfl
      have p2:=P0.out.cell 2 rfl
      exact bodyPost_ret (v:=.tuple #[.agg rep0,.int .i64 14]) (by simp[results,Tryz.results15,go_sem,p0,p1,p2]) rfl (.inl (by rw[HF2.out];exact⟨by decide,rfl,PB.out⟩))
     ·have HF2:Hid (ckE f d NM BS NS root=0):=hide (by rw[HF.out,if_neg (by omega)])
      go_wp2_with fail
      have p0:=Q0.out.cell 0 rfl
      have p1:=Q0.out.cell 1 rfl
      have p2:=Q0.out.cell 2 rfl
      exact bodyPost_ret (v:=.tuple #[.agg #[.slice (some ⟨gs,0,none⟩) dl dl,.int .i64 co,.int .i64 mx],.int .i64 0]) (by simp[results,Tryz.results15,go_sem,p0,p1,p2]) rfl (.inr ⟨HF2.out,gs,by rw[HLN.out,HCo.out,HD.out,HMx.out],by have:=HGs.out;have:=HR1s.out;omega,by rw[HSS.out];exact HGq.out,QB.out⟩)
 ·have hne:(mayE f d NM BS NS root != 0)=true:=by simpa using hm
  have HF:=hide (ck_may hm)
  have HE:=hide hm
  obtain⟨r0,r1,r2,r3,r4,r5⟩:=three_of HR1.out
  clear hm hb HM HX HBI HNI HK0 HT0 HR0 HB0
  generalize mayE f d NM BS NS root=er at *
  go_wp2_with fail
  obtain⟨hp,hpb⟩:=put_three HR1.out HB1.out (by omega) (.slice none 0 0) (.int .i64 0) (.int .i64 0)
  have p0:=hp.cell 0 rfl
  have p1:=hp.cell 1 rfl
  have p2:=hp.cell 2 rfl
  exact bodyPost_ret (v:=.tuple #[.agg rep0,.int .i64 er]) (by simp[results,Tryz.results15,go_sem,p0,p1,p2]) rfl (.inl (by rw[HF.out];exact⟨HE.out,rfl,hpb⟩))
end Go.Proofs.YtngnnijpdjhelaaGreat
namespace Go.Proofs.YtngnnijpdjhelaaGreat
open Lx Pz
set_option linter.unusedVariables false
set_option maxRecDepth 100000
set_option maxHeartbeats 16000000
structure Wd where
 x:Int
 y:Int
 c:Int
 ps:List Int
abbrev wdA (v:Wd)(a:Option Addr)(n cap:Nat):Array Value:=#[.int .i64 v.x,.int .i64 v.y,.int .i64 v.c,.slice a n cap]
abbrev Fits (f d:Int)(v:Wd):Prop:=Knd.Fit f d v.x v.y v.c v.ps
def inpV (f d:Int)(v:Wd)(k:Int):Int:=if k=0 then v.x else if k=1 then v.y else if k=2 then v.c else if k=3 then Knd.lowZ f d else if k=4 then Knd.highZ f d else Knd.borderZ f d
theorem look_lt (L:List Knd.Plc)(p:Knd.Plc):∀(k:Nat),k<=64->∀ q,Knd.look L (Knd.upto k) p=some q->q < k
 | 0,_,q,h=>by simp[Knd.upto,Knd.look] at h
 | k+1,hk,q,h=>by
  rw[Knd.upto_succ k (by omega),Knd.look_snoc] at h
  split at h
  ·cases h;exact Nat.lt_succ_self k
  ·have:=look_lt L p k (by omega) q h;omega
end Go.Proofs.YtngnnijpdjhelaaGreat
namespace Go.Proofs.YtngnnijpdjhelaaGreat
open Go.RowKit Go.IntWalk Lx Pz
set_option linter.unusedVariables false
set_option maxRecDepth 100000
set_option maxHeartbeats 16000000
theorem four_of {W:World}{b:Nat}{t:TypeId}{x y z u:Value}(h:HasC W b t #[x,y,z,u]):W.cell? ⟨b,0,none⟩=some x/\W.cell? ⟨b,1,none⟩=some y/\W.cell? ⟨b,2,none⟩=some z/\W.cell? ⟨b,3,none⟩=some u :=
 ⟨h.cell 0 rfl,h.cell 1 rfl,h.cell 2 rfl,h.cell 3 rfl⟩
structure Bx (W V:World)(g:Nat)(kd tr wd:Array Value)(D:List Int):Prop where
 k:HasC V W.heap.size 23 kd
 t:HasC V (W.heap.size+1) 28 tr
 w:HasC V (W.heap.size+1+1) 45 wd
 c:HasC V g 3 (inA D)
 hg:W.heap.size+1+1 < g
 lo:Below W.heap.size W V
theorem ck_num {f d:Int}{NM:List Txt}{BS:List Int}{NS:List Nd}{root:Int}(h:ckE f d NM BS NS root=0){n:Nd}(hn:n ∈ NS)(h3:n.op=3):∃ q,Knd.numZ f d (plOf n)=some q:=by
 unfold ckE at h
 split at h
 ·cases h
 split at h
 ·cases h
 split at h
 ·cases h
 rename_i h1
 cases hq:Knd.numZ f d (plOf n) with
 | some q=>exact⟨q,rfl⟩
 | none =>
  exfalso
  apply h1
  rw[List.any_eq_true]
  exact⟨n,hn,by unfold ahB;rw[hq,h3];rfl⟩
theorem ck_sound {f d:Int}{NM:List Txt}{BS:List Int}{NS:List Nd}{root:Int}(h:ckE f d NM BS NS root=0):chkP NM BS NS root=true:=by
 unfold ckE at h
 split at h
 ·cases h
 split at h
 ·cases h
 ·rename_i h1;simpa using h1
theorem getN_mem {NS:List Nd}{i:Nat}(h:i < NS.length):NS.getD i n0 ∈ NS:=by
 rw[List.getD_eq_getElem?_getD,List.getElem?_eq_getElem h];exact List.getElem_mem h
end Go.Proofs.YtngnnijpdjhelaaGreat
namespace Go.Proofs.YtngnnijpdjhelaaGreat
open Lx Pz
open Go.Lib (decDigits itoa)
set_option linter.unusedVariables false
set_option maxRecDepth 100000
set_option maxHeartbeats 16000000
def Fo (r:Txt):Prop:=∀ d,r.head?=some d->W d=false
def St (r:Txt):Prop:=∀ d,r.head?=some d->d≠60/\d≠61/\d≠62
def Tr (r:Txt):Prop:=True
theorem fo_nil:Fo []:=fun d h=>by simp at h
theorem fo_cons {c:UInt8}(h:W c=false)(r:Txt):Fo (c::r):=fun d hd=>by simp at hd;subst hd;exact h
def AkP (P:Txt->Prop)(x:Txt)(ts:List Tk):Prop:=∀ r,P r->ak (x++r)=(ak r).map (ts++·)
theorem ak_piece {k:Int}{x r:Txt}{c:UInt8}{t:Txt}(hx:x=c::t)(h1:bl c=false)(h2:c≠35)(hk:kd (x++r)=k)(hz:sz (x++r)=x.length)(hm:may k x=true):ak (x++r)=(ak r).map ([ab ⟨k,x,0⟩]++·):=by
 subst hx
 have ht:((c::t)++r).take (c::t).length=c::t:=List.take_left
 have hd:((c::t)++r).drop (c::t).length=r:=List.drop_left
 have hg:gd ((c::t)++r)=true:=by unfold gd;rw[hk,hz,ht];exact hm
 rw[List.cons_append] at hg hk hz ht hd ⊢
 rw[ak_tok h1 h2 hg,hz,hk,ht,hd]
 rfl
theorem ak_wrd {x:Txt}(hw:wrd x=true):AkP Fo x [.word x]:=by
 intro r hr
 cases x with
 | nil=>simp[wrd] at hw
 | cons c t =>
  have hA:A c=true:=by simp[wrd] at hw;exact hw.1.2
  have hall:(c::t).all W=true:=by simp only[wrd,Bool.and_eq_true] at hw;exact hw.2
  have h3:=A_not hA
  refine ak_piece (k:=2) rfl h3.1 h3.2.1 ?_ ?_ hw
  ·simp[kd,hA,h3.2.2.1]
  ·simp only[sz,List.cons_append,List.headD_cons,hA,h3.2.2.1,if_true,Bool.false_eq_true,if_false]
   rw[<-List.cons_append,rn,takeWhile_app W _ _ hall hr]
theorem ak_m (c:UInt8)(k:Tk)(hc:sh.contains c=true)(h60:c≠60)(h61:c≠61)(h62:c≠62)(h33:c≠33)(hk:mkT [c]=k):AkP Tr [c] [k]:=by
 intro r _
 rw[List.singleton_append,ak_mark hc h60 h61 h62 h33 r,hk]
 rfl
theorem ak_eq:AkP St [61] [.eq]:=by
 intro r hr
 refine ak_piece (k:=3) rfl (by decide) (by decide) (by rfl) ?_ (by decide)
 cases r with
 | nil=>rfl
 | cons d r =>
  obtain⟨h1,h2,h3⟩:=hr d rfl
  simp[sz,mk,D,A,dg,lt,two,sh,h1,h2,h3]
theorem ak_semi:AkP Tr [59] [.semi]:=ak_m 59 _ (by decide) (by decide) (by decide) (by decide) (by decide) (by decide)
end Go.Proofs.YtngnnijpdjhelaaGreat
namespace Go.Proofs.YtngnnijpdjhelaaGreat
open Go.RowKit Go.IntWalk Lx Pz
set_option linter.unusedVariables false
set_option maxRecDepth 100000
set_option maxHeartbeats 16000000
abbrev nodesOf (es:List E)(ex:E):List Nd:=flL es 0++ex.flat (szL es)
abbrev rootOf (es:List E)(ex:E):Int:=((szL es+ex.size:Nat):Int)-1
theorem dec_parse {l:List UInt8}{T:List Tok}{NM:List Txt}{es:List E}{ex:E}(hT:tks l=some T)(hg:GP [] [] (T.map ab) (NM,es,ex))(hl:NM.length=es.length)(hz:szL es+ex.size<=T.length) :
  Dec NM (bdL es 0) (nodesOf es ex) (rootOf es ex) es ex:=by
 have hok:(T.map ab).all okT=true:=by
  rw[List.all_map,List.all_eq_true]
  intro t ht
  exact okT_ab (tks_wf hT t ht)
 obtain⟨h1,h2,h3⟩:=gp_gd hg hok rfl (by intro j e h;simp at h) rfl
 have h4:=tks_len hT
 exact⟨rfl,rfl,hl,h1,h2,h3,by rw[List.length_append,flL_len,E.flat_len],by rw[List.length_append,flL_len,E.flat_len];omega⟩
theorem nm_short {NM:List Txt}(h:nmB NM=true):∀ s ∈ NM,s.length<=9223372036854775807:=by
 intro s hs
 simp only[nmB,Bool.and_eq_true,List.all_eq_true] at h
 have h1:=h.1 s hs
 have h2:wrd s=true:=h1.1
 simp only[wrd,Bool.and_eq_true,decide_eq_true_eq] at h2
 have:=h2.1.1.2
 omega
theorem parse_dec {s:ByteArray}{A:List Tk}{NM:List Txt}{es:List E}{ex:E}(ha:ak (bs s)=some A)(hl:s.size<=1024)(hg:GP [] [] A (NM,es,ex))(w:World) :
  Calls Tryz.prog 14 #[.string s] w fun e W'=>∃ na nc ba bc da dc,Dec NM (bdL es 0) (nodesOf es ex) (rootOf es ex) es ex /\
   e=.returned (.tuple #[.agg (tr4 (.slice na es.length nc) (.slice ba es.length bc) (.slice da (szL es+ex.size) dc) (.int .i64 (rootOf es ex))),.int .i64 0])/\Tx W' na es.length nc NM/\Iz W' ba es.length bc (bdL es 0) /\
   Nz W' da (szL es+ex.size) dc (nodesOf es ex)/\Below w.heap.size w W':=by
 obtain⟨T0,hT0,hab⟩:=tks_ak ha (by rw[bs_len];exact hl)
 refine(parse_read s w).mono ?_
 rintro e W1 (⟨-,-,hbad⟩|⟨T,NM',es',ex',na,nc,ba,bc,da,dc,hT,hA,h3,h4,rfl,h6,h7,h8,h9⟩)
 ·exfalso
  rw[hT0] at hbad
  rcases hbad with h|⟨T,h,h2⟩
  ·cases h
  ·cases h
   rw[hab] at h2
   have:=(h2 _).2 hg
   cases this
 ·have hd:=dec_parse hT ((hA _).1 rfl) h3 h4
  rw[hT0] at hT
  cases hT
  rw[hab] at hA
  have:=(hA _).2 hg
  cases this
  exact⟨na,nc,ba,bc,da,dc,hd,rfl,h6,h7,h8,h9⟩
theorem sound_root {NM:List Txt}{BS:List Int}{NS:List Nd}{root:Int}(h:chkP NM BS NS root=true):0<=root/\root.toNat < NS.length/\NS.length<=1024:=by
 obtain⟨es,ex,hD⟩:=chk_dec.1 h
 have h1:=hD.root
 have h2:1<=NS.length:=by rw[hD.nodes,List.length_append,E.flat_len];have:=ex.size_pos;omega
 have:=hD.few
 omega
theorem own_ne3 {W:World}{base size b n:Nat}{t e:TypeId}{v:Value}{xs:List Value}{cs:Array Value}(h:W.ownsRow base e size v n xs)(hb:HasC W b t cs)(ht:t≠e):v.ownBlock≠some b:=by
 intro hk
 obtain⟨-,cs',fr,h2⟩:=owns_block h b hk
 rw[hb] at h2
 cases h2
 exact ht rfl
theorem own_put1 {V:World}{base b:Nat}{e t:TypeId}{size n:Nat}{v:Value}{xs:List Value}{cs:Array Value}(h:V.ownsRow base e size v n xs)(hb:HasC V b t cs)(ht:t≠e)(i:Nat)(x:Value):(V.setCell ⟨b,i,none⟩ x).ownsRow base e size v n xs:=by
 refine ownsRow_setCell_other h (a:=⟨b,i,none⟩) ?_ x
 exact own_ne3 h hb ht

end Go.Proofs.YtngnnijpdjhelaaGreat
namespace Go.Proofs.YtngnnijpdjhelaaGreat
open Lx Pz
set_option linter.unusedVariables false
set_option maxRecDepth 100000
set_option maxHeartbeats 16000000
theorem ck_zero {f d:Int}{NM:List Txt}{BS:List Int}{NS:List Nd}{root:Int}:ckE f d NM BS NS root=0↔Knd.May f d/\chkP NM BS NS root=true/\NS.any (ahB f d)=false/\(spR f d BS NS []).2=0/\coR NS<=200/\mxR (dpR BS NS [])<=24:=by
 unfold ckE
 by_cases h1:Knd.May f d
 ·rw[if_neg (by simpa using h1)]
  cases h2:chkP NM BS NS root
  ·simp
  ·rw[if_neg (by simp)]
   cases h3:NS.any (ahB f d)
   ·rw[if_neg (by simp)]
    by_cases h4:(spR f d BS NS []).2=0
    ·rw[if_neg (by simpa using h4)]
     by_cases h5:200 < coR NS\/24 < mxR (dpR BS NS [])
     ·rw[if_pos h5]
      constructor
      ·intro h;cases h
      ·rintro⟨-,-,-,-,a,b⟩;omega
     ·rw[if_neg h5]
      exact⟨fun _=>⟨h1,rfl,rfl,h4,by omega,by omega⟩,fun _=>rfl⟩
    ·rw[if_pos h4]
     exact⟨fun h=>absurd h h4,fun h=>absurd h.2.2.2.1 h4⟩
   ·rw[if_pos rfl]
    constructor
    ·intro h;cases h
    ·rintro⟨-,-,h,-⟩;cases h
 ·rw[if_pos h1]
  constructor
  ·intro h;cases h
  ·intro h;exact absurd h.1 h1

end Go.Proofs.YtngnnijpdjhelaaGreat
namespace Go.Proofs.YtngnnijpdjhelaaGreat
open Go.RowKit Go.IntWalk Lx Pz
set_option linter.unusedVariables false
set_option maxRecDepth 100000
set_option maxHeartbeats 16000000

end Go.Proofs.YtngnnijpdjhelaaGreat
namespace Go.Proofs.YtngnnijpdjhelaaGreat
open Lx Pz
set_option linter.unusedVariables false
set_option maxRecDepth 100000
set_option maxHeartbeats 16000000


end Go.Proofs.YtngnnijpdjhelaaGreat
namespace Go.Proofs.Cde
open Go.RowKit Go.IntWalk YtngnnijpdjhelaaGreat.Knd
set_option linter.unusedVariables false
set_option maxRecDepth 100000
set_option maxHeartbeats 16000000
open YtngnnijpdjhelaaGreat (Wd wdA Fits inpV)

end Go.Proofs.Cde
namespace Go.Proofs.Cde
open YtngnnijpdjhelaaGreat (Wd wdA Fits inpV)
open Go.RowKit Go.IntWalk YtngnnijpdjhelaaGreat.Knd
set_option linter.unusedVariables false
set_option maxRecDepth 100000
set_option maxHeartbeats 16000000
open Classical in
theorem mc_parts {f d:Int}{L:List In}{out:Int}(h:mcB f d L out=true):May f d/\1<=L.length/\L.length<=200/\0<=out/\out < L.length/\okT L L.length=true:=by
 simp only[mcB,Bool.and_eq_true,decide_eq_true_eq,YtngnnijpdjhelaaGreat.Spn.inB_iff] at h
 obtain⟨⟨⟨h1,h2⟩,h3⟩,h4⟩:=h
 exact⟨h1,by omega,by omega,by omega,by omega,h4⟩
end Go.Proofs.Cde
