import Derived.Test.YtimdcmponhcngaaGreatX38
namespace Go.Proofs.YtimdcmponhcngaaGreat
open Go.RowKit Go.IntWalk Lx Pz
set_option linter.unusedVariables false
set_option maxRecDepth 100000
set_option maxHeartbeats 16000000
abbrev rep0:Array Value:=#[.slice none 0 0,.int .i64 0,.int .i64 0]
def CkP (w:World)(f d:Int)(NM:List Txt)(BS:List Int)(NS:List Nd)(root:Int)(e:Ending)(W':World):Prop :=
 (ckE f d NM BS NS root≠0/\e=.returned (.tuple #[.agg rep0,.int .i64 (ckE f d NM BS NS root)])/\Below w.heap.size w W') \/
 (ckE f d NM BS NS root=0/\∃ g,e=.returned (.tuple #[.agg #[.slice (some ⟨g,0,none⟩) NS.length NS.length,.int .i64 (coR NS),.int .i64 (mxR (dpR BS NS []))],.int .i64 0])/\w.heap.size<=g/\HasC W' g 58 (spA (spR f d BS NS []).1)/\Below w.heap.size w W')
theorem three_of {W:World}{b:Nat}{t:TypeId}{x y z:Value}(h:HasC W b t #[x,y,z]):W.cell? ⟨b,0,none⟩=some x/\W.cell? ⟨b,1,none⟩=some y/\W.cell? ⟨b,2,none⟩=some z/\W.frozen? ⟨b,0,none⟩=false/\W.frozen? ⟨b,1,none⟩=false/\W.frozen? ⟨b,2,none⟩=false :=
 ⟨h.cell 0 rfl,h.cell 1 rfl,h.cell 2 rfl,h.frozen 0,h.frozen 1,h.frozen 2⟩
theorem put_three {w w2:World}{b:Nat}{t:TypeId}{p q r:Value}(h:HasC w2 b t #[p,q,r])(hB:Below w.heap.size w w2)(hb:w.heap.size<=b)(x y z:Value) :
  HasC (((w2.setCell ⟨b,0,none⟩ x).setCell ⟨b,1,none⟩ y).setCell ⟨b,2,none⟩ z) b t #[x,y,z] /\
  Below w.heap.size w (((w2.setCell ⟨b,0,none⟩ x).setCell ⟨b,1,none⟩ y).setCell ⟨b,2,none⟩ z) :=
 ⟨((h.set 0 x).set 1 y).set 2 z,((hB.setCell (p:=⟨b,0,none⟩) hb _).setCell (p:=⟨b,1,none⟩) hb _).setCell (p:=⟨b,2,none⟩) hb _⟩
theorem other_three {W:World}{b r:Nat}{t:TypeId}{cs:Array Value}(h:HasC W b t cs)(hr:b≠r)(x y z:Value):HasC (((W.setCell ⟨r,0,none⟩ x).setCell ⟨r,1,none⟩ y).setCell ⟨r,2,none⟩ z) b t cs :=
 ((h.other (p:=⟨r,0,none⟩) hr x).other (p:=⟨r,1,none⟩) hr y).other (p:=⟨r,2,none⟩) hr z
theorem ck_may {f d:Int}{NM:List Txt}{BS:List Int}{NS:List Nd}{root:Int}(h:mayE f d NM BS NS root≠0):ckE f d NM BS NS root=mayE f d NM BS NS root:=by
 unfold mayE at h ⊢
 unfold ckE
 by_cases h1:¬Knd.May f d
 ·rw[if_pos h1,if_pos h1]
 ·rw[if_neg h1] at h ⊢
  rw[if_neg h1]
  by_cases h2:chkP NM BS NS root=false
  ·rw[if_pos h2,if_pos h2]
  ·rw[if_neg h2] at h ⊢
   rw[if_neg h2]
   by_cases h3:NS.any (ahB f d)=true
   ·rw[if_pos h3,if_pos h3]
   ·rw[if_neg h3] at h
    exact absurd rfl h
theorem ck_ok {f d:Int}{NM:List Txt}{BS:List Int}{NS:List Nd}{root:Int}(h:mayE f d NM BS NS root=0):Knd.May f d/\chkP NM BS NS root=true /\
  ckE f d NM BS NS root=if (spR f d BS NS []).2≠0 then(spR f d BS NS []).2 else if 200 < coR NS\/24 < mxR (dpR BS NS []) then 14 else 0:=by
 unfold mayE at h
 by_cases h1:¬Knd.May f d
 ·rw[if_pos h1] at h;cases h
 ·rw[if_neg h1] at h
  by_cases h2:chkP NM BS NS root=false
  ·rw[if_pos h2] at h;cases h
  ·rw[if_neg h2] at h
   by_cases h3:NS.any (ahB f d)=true
   ·rw[if_pos h3] at h;cases h
   ·refine⟨Decidable.of_not_not h1,by simpa using h2,?_⟩
    unfold ckE
    rw[if_neg h1,if_neg h2,if_neg h3]
structure Cr (V:World)(tb:Nat)(tv:Array Value)(sv dv:Value)(co mx:Int)(D:List Int)(n:Nat)(d:Nat->Bool)(x9 x27 x28 x29 x30 x31 x32 x33 x34:Value)(w:World):Prop where
 bel:Below V.heap.size V w
 m0:d 0=true->x27=sv
 m1:d 1=true->x28=.pointer (some ⟨tb,2,none⟩)
 m2:d 2=true->x29=dv
 m3:d 3=true->x30=.int .i64 co
 m4:d 4=true->x31=.agg tv
 m5:d 5=true->d 9=false->∃ gd,x32=.slice (some ⟨gd,0,none⟩) n n/\HasC w gd 3 (inA D)
 m6:d 6=true->x33=.int .i64 mx
 m7:d 7=true->x34=.agg #[sv,.int .i64 co,.int .i64 mx]
 m8:d 8=true->d 9=false->∃ gr,x9=.pointer (some ⟨gr,0,none⟩)/\V.heap.size<=gr/\HasC w gr 52 rep0
 m9:d 9=true->∃ gr,x9=.pointer (some ⟨gr,0,none⟩)/\V.heap.size<=gr/\HasC w gr 52 #[sv,.int .i64 co,.int .i64 mx]
 ph:d 9=true->∀ j,j < 9->d j=true
theorem or_tt {a b:Bool}(h:b=true):(a || b)=true:=by rw[h];simp
theorem mixedE:Tryz.prog.follows .mixedOrders=true:=by kernel_rfl
theorem ccheck_any (f d:Int){W:World}{na ba da:Option Addr}{nl nc bl bc dl dc:Nat}{root:Int}{NM:List Txt}{BS:List Int}{NS:List Nd}(hX:Tx W na nl nc NM)(hB:Iz W ba bl bc BS)(hN:Nz W da dl dc NS)(hs:∀ s ∈ NM,s.length<=9223372036854775807) :
  Calls Tryz.prog 20 #[.agg (kdA f d),.agg (tr4 (.slice na nl nc) (.slice ba bl bc) (.slice da dl dc) (.int .i64 root))] W (CkP W f d NM BS NS root):=by
 have hb1:=bel1 W (.cells (kdA f d) 23)
 have hb2:=bel hb1 (bel1 (W.alloc (.cells (kdA f d) 23)) (.cells (tr4 (.slice na nl nc) (.slice ba bl bc) (.slice da dl dc) (.int .i64 root)) 28))
 have hb3:=bel hb2 (bel1 ((W.alloc (.cells (kdA f d) 23)).alloc (.cells (tr4 (.slice na nl nc) (.slice ba bl bc) (.slice da dl dc) (.int .i64 root)) 28)) (.cells rep0 52))
 have HK0:=hide (((HasC.new W 23 (kdA f d)).alloc (.cells (tr4 (.slice na nl nc) (.slice ba bl bc) (.slice da dl dc) (.int .i64 root)) 28)).alloc (.cells rep0 52))
 have HT0:Hid (HasC (((W.alloc (.cells (kdA f d) 23)).alloc (.cells (tr4 (.slice na nl nc) (.slice ba bl bc) (.slice da dl dc) (.int .i64 root)) 28)).alloc (.cells rep0 52)) (W.heap.size+1) 28 (tr4 (.slice na nl nc) (.slice ba bl bc) (.slice da dl dc) (.int .i64 root))):=by
  have:=(HasC.new (W.alloc (.cells (kdA f d) 23)) 28 (tr4 (.slice na nl nc) (.slice ba bl bc) (.slice da dl dc) (.int .i64 root))).alloc (.cells rep0 52)
  simp only[World.size_alloc] at this
  exact hide this
 have HR0:Hid (HasC (((W.alloc (.cells (kdA f d) 23)).alloc (.cells (tr4 (.slice na nl nc) (.slice ba bl bc) (.slice da dl dc) (.int .i64 root)) 28)).alloc (.cells rep0 52)) (W.heap.size+1+1) 52 rep0):=by
  have:=HasC.new ((W.alloc (.cells (kdA f d) 23)).alloc (.cells (tr4 (.slice na nl nc) (.slice ba bl bc) (.slice da dl dc) (.int .i64 root)) 28)) 52 rep0
  simp only[World.size_alloc] at this
  exact hide this
 have HX:=hide (hX.later hb3)
 have HBI:=hide (hB.later hb3)
 have HNI:=hide (hN.later hb3)
 have HLN:=hide hN.len
 have HB0:=hide hb3
 have HM:=hide (emay_any f d (root:=root) (hX.later hb3) (hB.later hb3) (hN.later hb3) hs)
 clear hX hB hN hb1 hb2 hb3 hs
 go_enter Tryz.func20,Tryz.ntmps20
 go_wp2_with fail
 refine HM.out.mono ?_
 rintro e V1 ⟨rfl,hb⟩
 have HR1:=hide (HR0.out.below hb)
 have HB1:=hide (bel HB0.out hb)
 by_cases hm:mayE f d NM BS NS root=0
 ·obtain⟨m1,m2,m3⟩:=ck_ok hm
  obtain⟨es,ex,hD⟩:=chk_dec.1 m2
  have hfew:dl<=1024:=by rw[<-HLN.out];exact hD.few
  have h1:1<=dl:=by rw[<-HLN.out,hD.nodes,List.length_append,E.flat_len];have:=ex.size_pos;omega
  have HK1:=hide (HK0.out.below hb)
  have HT1:=hide (HT0.out.below hb)
  have HNI1:=hide (HNI.out.later hb)
  have HBI1:=hide (HBI.out.later hb)
  have HW:=hide hD.wl
  have HM3:=hide m3
  have HSp:=hide (spansOf_any f d ⟨na,nl,nc,rfl⟩ (root:=root) m1 (HBI.out.later hb) (HNI.out.later hb) hD.wl hfew)
  obtain⟨k0,k1,-,-⟩:=two_of HK1.out
  obtain⟨t0,t1,t2,t3⟩:V1.cell? ⟨W.heap.size+1,0,none⟩=some (.slice na nl nc)/\V1.cell? ⟨W.heap.size+1,1,none⟩=some (.slice ba bl bc)/\V1.cell? ⟨W.heap.size+1,2,none⟩=some (.slice da dl dc)/\V1.cell? ⟨W.heap.size+1,3,none⟩=some (.int .i64 root):=⟨HT1.out.cell 0 rfl,HT1.out.cell 1 rfl,HT1.out.cell 2 rfl,HT1.out.cell 3 rfl⟩
  rw[hm]
  clear hm hb m1 m2 m3 hD HM HK0 HT0 HR0 HB0 HX HBI HNI
  go_wp2_with fail
  refine HSp.out.mono ?_
  rintro e V2 (⟨hz,rfl,hb⟩|⟨hz,gs,rfl,hgs,hG,hb⟩)
  ·have hne:((spR f d BS NS []).2 != 0)=true:=by simpa using hz
   have HF:Hid (ckE f d NM BS NS root=(spR f d BS NS []).2):=hide (by rw[HM3.out,if_pos hz])
   have HR2:=hide (HR1.out.below hb)
   have HB2:=hide (bel HB1.out hb)
   have HZ:=hide hz
   obtain⟨r0,r1,r2,r3,r4,r5⟩:=three_of HR2.out
   clear hb hz HM3
   generalize (spR f d BS NS []).2=er at *
   go_wp2_with fail
   obtain⟨hp,hpb⟩:=put_three HR2.out HB2.out (by omega) (.slice none 0 0) (.int .i64 0) (.int .i64 0)
   have p0:=hp.cell 0 rfl
   have p1:=hp.cell 1 rfl
   have p2:=hp.cell 2 rfl
   exact bodyPost_ret (v:=.tuple #[.agg rep0,.int .i64 er]) (by simp[results,Tryz.results20,go_sem,p0,p1,p2]) rfl (.inl (by rw[HF.out];exact⟨HZ.out,rfl,hpb⟩))
  ·have HF:Hid (ckE f d NM BS NS root=if 200 < coR NS\/24 < mxR (dpR BS NS []) then 14 else 0):=hide (by rw[HM3.out,if_neg (by simpa using hz)])
   have HR2:=hide (HR1.out.below hb)
   have HB2:=hide (bel HB1.out hb)
   have HT2:=hide (HT1.out.below hb)
   have HN2:=hide (HNI1.out.later hb)
   have HI2:=hide (HBI1.out.later hb)
   have HG2:=hide hG
   have hgz:=hG.lt
   obtain⟨t0,t1,t2,t3⟩:V2.cell? ⟨W.heap.size+1,0,none⟩=some (.slice na nl nc)/\V2.cell? ⟨W.heap.size+1,1,none⟩=some (.slice ba bl bc)/\V2.cell? ⟨W.heap.size+1,2,none⟩=some (.slice da dl dc)/\V2.cell? ⟨W.heap.size+1,3,none⟩=some (.int .i64 root):=⟨HT2.out.cell 0 rfl,HT2.out.cell 1 rfl,HT2.out.cell 2 rfl,HT2.out.cell 3 rfl⟩
   have hDl:(dpR BS NS []).length=dl:=by rw[dpR_len,HLN.out];simp
   have HDb:=hide (Db.all (BS:=BS) (A:=NS) (D:=[]) (fun x hx=>by simp at hx) HW.out)
   have HGs:=hide hgs
   have HR1s:=hide HR1.out.lt
   obtain⟨co,hco⟩:∃ co,coR NS=co:=⟨_,rfl⟩
   obtain⟨D,hD⟩:∃ D,dpR BS NS []=D:=⟨_,rfl⟩
   obtain⟨mx,hmx⟩:∃ mx,mxR D=mx:=⟨_,rfl⟩
   obtain⟨SS,hSS⟩:∃ SS,(spR f d BS NS []).1=SS:=⟨_,rfl⟩
   rw[hD] at HDb hDl HF
   rw[hco,hmx] at HF
   rw[hSS] at HG2
   have HCo:=hide hco
   have HD:=hide hD
   have HMx:=hide hmx
   have HSS:=hide hSS
   have HDl:=hide hDl
   clear hb hG hz HM3 hDl HR1 HB1 HT1 HNI1 HBI1 HSp hgs k0 k1 hco hD hmx hSS
   go_wp2_with fail
   refine wp_region_flags mixedE (ord_of (by kernel_rfl)) (fun dd a w=>∃ x9 x27 x28 x29 x30 x31 x32 x33 x34,a=⟨#[.agg (kdA f d),.agg (tr4 (.slice na nl nc) (.slice ba bl bc) (.slice da dl dc) (.int .i64 root)),.pointer (some ⟨W.heap.size,0,none⟩),.pointer (some ⟨W.heap.size+1,0,none⟩),.pointer (some ⟨W.heap.size+1+1,0,none⟩),.int .i64 0,.int .i64 0,.slice (some ⟨gs,0,none⟩) dl dl,.int .i64 0,x9,.agg #[.int .i64 f,.int .i64 d],.agg #[.slice na nl nc,.slice ba bl bc,.slice da dl dc,.int .i64 root],.int .i64 0,.int .i64 0,.bool false,undef,undef,.tuple #[.slice (some ⟨gs,0,none⟩) dl dl,.int .i64 0],.agg #[.int .i64 f,.int .i64 d],.agg #[.slice na nl nc,.slice ba bl bc,.slice da dl dc,.int .i64 root],.tuple #[.slice (some ⟨gs,0,none⟩) dl dl,.int .i64 0],.slice (some ⟨gs,0,none⟩) dl dl,.int .i64 0,.int .i64 0,.bool false,undef,undef,x27,x28,x29,x30,x31,x32,x33,x34,undef,undef,undef,undef,undef,undef,undef,undef,undef,undef],[]⟩/\Cr V2 (W.heap.size+1) (tr4 (.slice na nl nc) (.slice ba bl bc) (.slice da dl dc) (.int .i64 root)) (.slice (some ⟨gs,0,none⟩) dl dl) (.slice da dl dc) co mx D dl dd x9 x27 x28 x29 x30 x31 x32 x33 x34 w) ?_ ?_ ?_
   ·refine⟨_,_,_,_,_,_,_,_,_,rfl,below_drew V2,?_,?_,?_,?_,?_,?_,?_,?_,?_,?_,?_⟩
    all_goals intro h;cases h
   ·rintro dd a w i o ⟨x9,x27,x28,x29,x30,x31,x32,x33,x34,rfl,C⟩ hdi ho haft Q' hk'
    have HK:=hide hk'
    clear hk'
    have hi:i < 10:=(Array.getElem?_eq_some_iff.1 ho).1
    match i,hi with
    | 0,_ =>
     obtain rfl:=(Option.some.inj ho)
     have nope:dd 9=true->False:=fun h=>by have h2:=C.ph h 0 (by decide);rw[hdi] at h2;cases h2
     clear haft ho
     go_wp2
     exact HK.out _ _ ⟨_,_,_,_,_,_,_,_,_,rfl,⟨C.bel,(fun _=>rfl),C.m1,C.m2,C.m3,C.m4,C.m5,C.m6,C.m7,C.m8,(fun h=>(nope h).elim),(fun h=>(nope h).elim)⟩⟩
    | 1,_ =>
     obtain rfl:=(Option.some.inj ho)
     have nope:dd 9=true->False:=fun h=>by have h2:=C.ph h 1 (by decide);rw[hdi] at h2;cases h2
     clear haft ho
     go_wp2
     exact HK.out _ _ ⟨_,_,_,_,_,_,_,_,_,rfl,⟨C.bel,C.m0,(fun _=>rfl),C.m2,C.m3,C.m4,C.m5,C.m6,C.m7,C.m8,(fun h=>(nope h).elim),(fun h=>(nope h).elim)⟩⟩
    | 2,_ =>
     obtain rfl:=(Option.some.inj ho)
     have nope:dd 9=true->False:=fun h=>by have h2:=C.ph h 2 (by decide);rw[hdi] at h2;cases h2
     have g1:dd 1=true:=haft ⟨1,.data⟩ (by simp) rfl
     clear haft ho
     have e1:=C.m1 g1
     subst e1
     have t2:=(HT2.out.below C.bel).cell 2 rfl
     have C:=hide C
     go_wp2
     have C:=C.out
     exact HK.out _ _ ⟨_,_,_,_,_,_,_,_,_,rfl,⟨C.bel,C.m0,C.m1,(fun _=>rfl),C.m3,C.m4,C.m5,C.m6,C.m7,C.m8,(fun h=>(nope h).elim),(fun h=>(nope h).elim)⟩⟩
    | 3,_ =>
     obtain rfl:=(Option.some.inj ho)
     have nope:dd 9=true->False:=fun h=>by have h2:=C.ph h 3 (by decide);rw[hdi] at h2;cases h2
     have g2:dd 2=true:=haft ⟨2,.data⟩ (by simp) rfl
     clear haft ho
     have e1:=C.m2 g2
     subst e1
     have HQ:=hide (costOf_any (HN2.out.later C.bel) hfew)
     rw[HCo.out] at HQ
     have C:=hide C
     go_wp2_with fail
     refine HQ.out.mono ?_
     rintro e w' ⟨rfl,hw⟩
     go_wp2
     have C:=C.out
     have hb:=bel C.bel hw
     exact HK.out _ _ ⟨_,_,_,_,_,_,_,_,_,rfl,⟨hb,C.m0,C.m1,C.m2,(fun _=>rfl),C.m4,(fun h h2=>let ⟨g,e,r⟩:=C.m5 h h2;⟨g,e,r.below hw⟩),C.m6,C.m7,(fun h h2=>let ⟨g,e,e2,r⟩:=C.m8 h h2;⟨g,e,e2,r.below hw⟩),(fun h=>(nope h).elim),(fun h=>(nope h).elim)⟩⟩
    | 4,_ =>
     obtain rfl:=(Option.some.inj ho)
     have nope:dd 9=true->False:=fun h=>by have h2:=C.ph h 4 (by decide);rw[hdi] at h2;cases h2
     clear haft ho
     obtain⟨t0,t1,t2,t3⟩:w.cell? ⟨W.heap.size+1,0,none⟩=some (.slice na nl nc)/\w.cell? ⟨W.heap.size+1,1,none⟩=some (.slice ba bl bc)/\w.cell? ⟨W.heap.size+1,2,none⟩=some (.slice da dl dc)/\w.cell? ⟨W.heap.size+1,3,none⟩=some (.int .i64 root):=⟨(HT2.out.below C.bel).cell 0 rfl,(HT2.out.below C.bel).cell 1 rfl,(HT2.out.below C.bel).cell 2 rfl,(HT2.out.below C.bel).cell 3 rfl⟩
     have C:=hide C
     go_wp2
     have C:=C.out
     exact HK.out _ _ ⟨_,_,_,_,_,_,_,_,_,rfl,⟨C.bel,C.m0,C.m1,C.m2,C.m3,(fun _=>rfl),C.m5,C.m6,C.m7,C.m8,(fun h=>(nope h).elim),(fun h=>(nope h).elim)⟩⟩
    | 5,_ =>
     obtain rfl:=(Option.some.inj ho)
     have nope:dd 9=true->False:=fun h=>by have h2:=C.ph h 5 (by decide);rw[hdi] at h2;cases h2
     have g4:dd 4=true:=haft ⟨4,.data⟩ (by simp) rfl
     have g3:dd 3=true:=haft ⟨3,.chain⟩ (by simp) rfl
     clear haft ho
     have e1:=C.m4 g4
     subst e1
     have HQ:=hide (depthsOf_any ⟨na,nl,nc,rfl⟩ (root:=root) (HI2.out.later C.bel) (HN2.out.later C.bel) HW.out hfew)
     rw[HD.out] at HQ
     have C:=hide C
     go_wp2_with fail
     refine HQ.out.mono ?_
     rintro e w' ⟨gd,rfl,hG,hw⟩
     go_wp2
     have C:=C.out
     have hb:=bel C.bel hw
     exact HK.out _ _ ⟨_,_,_,_,_,_,_,_,_,rfl,⟨hb,C.m0,C.m1,C.m2,C.m3,C.m4,(fun _ _=>⟨gd,rfl,hG⟩),C.m6,C.m7,(fun h h2=>let ⟨g,e,e2,r⟩:=C.m8 h h2;⟨g,e,e2,r.below hw⟩),(fun h=>(nope h).elim),(fun h=>(nope h).elim)⟩⟩
    | 6,_ =>
     obtain rfl:=(Option.some.inj ho)
     have nope:dd 9=true->False:=fun h=>by have h2:=C.ph h 6 (by decide);rw[hdi] at h2;cases h2
     have g5:dd 5=true:=haft ⟨5,.data⟩ (by simp) rfl
     clear haft ho
     have h9:dd 9=false:=by cases h:dd 9 with|false=>rfl|true=>exact(nope h).elim
     obtain⟨gd,e1,hG⟩:=C.m5 g5 h9
     subst e1
     have HQ:=hide (smax_any (D:=D) (by have h:=has_iz hG (by rw[HDl.out];exact hfew);rw[HDl.out] at h;exact h) h1 (fun x hx=>(HDb.out x hx).1))
     rw[HMx.out] at HQ
     clear hG h9
     have C:=hide C
     go_wp2_with fail
     refine HQ.out.mono ?_
     rintro e w' ⟨rfl,rfl⟩
     go_wp2
     have C:=C.out
     exact HK.out _ _ ⟨_,_,_,_,_,_,_,_,_,rfl,⟨C.bel,C.m0,C.m1,C.m2,C.m3,C.m4,C.m5,(fun _=>rfl),C.m7,C.m8,(fun h=>(nope h).elim),(fun h=>(nope h).elim)⟩⟩
    | 7,_ =>
     obtain rfl:=(Option.some.inj ho)
     have nope:dd 9=true->False:=fun h=>by have h2:=C.ph h 7 (by decide);rw[hdi] at h2;cases h2
     have g0:dd 0=true:=haft ⟨0,.data⟩ (by simp) rfl
     have g3:dd 3=true:=haft ⟨3,.data⟩ (by simp) rfl
     have g6:dd 6=true:=haft ⟨6,.data⟩ (by simp) rfl
     clear haft ho
     have e1:=C.m0 g0
     have e2:=C.m3 g3
     have e3:=C.m6 g6
     subst e1 e2 e3
     have C:=hide C
     go_wp2
     have C:=C.out
     exact HK.out _ _ ⟨_,_,_,_,_,_,_,_,_,rfl,⟨C.bel,C.m0,C.m1,C.m2,C.m3,C.m4,C.m5,C.m6,(fun _=>rfl),C.m8,(fun h=>(nope h).elim),(fun h=>(nope h).elim)⟩⟩
    | 8,_ =>
     obtain rfl:=(Option.some.inj ho)
     have nope:dd 9=true->False:=fun h=>by have h2:=C.ph h 8 (by decide);rw[hdi] at h2;cases h2
     clear haft ho
     have C:=hide C
     go_wp2
     have C:=C.out
     have hw:=bel1 w (.cells rep0 52)
     have hb:=bel C.bel hw
     exact HK.out _ _ ⟨_,_,_,_,_,_,_,_,_,rfl,⟨hb,C.m0,C.m1,C.m2,C.m3,C.m4,(fun h h2=>let ⟨g,e,r⟩:=C.m5 h h2;⟨g,e,r.below hw⟩),C.m6,C.m7,(fun _ _=>⟨w.heap.size,rfl,C.bel.size,HasC.new w _ _⟩),(fun h=>(nope h).elim),(fun h=>(nope h).elim)⟩⟩
    | 9,_ =>
     obtain rfl:=(Option.some.inj ho)
     have g8:dd 8=true:=haft ⟨8,.data⟩ (by simp) rfl
     have g7:dd 7=true:=haft ⟨7,.data⟩ (by simp) rfl
     have g6:dd 6=true:=haft ⟨6,.chain⟩ (by simp) rfl
     have g0:dd 0=true:=haft ⟨0,.phase⟩ (by simp) rfl
     have g1:dd 1=true:=haft ⟨1,.phase⟩ (by simp) rfl
     have g2:dd 2=true:=haft ⟨2,.phase⟩ (by simp) rfl
     have g3:dd 3=true:=haft ⟨3,.phase⟩ (by simp) rfl
     have g4:dd 4=true:=haft ⟨4,.phase⟩ (by simp) rfl
     have g5:dd 5=true:=haft ⟨5,.phase⟩ (by simp) rfl
     clear haft ho
     have D9:∀ j,j < 9->dd j=true:=fun j hj=>match j,hj with|0,_=>g0|1,_=>g1|2,_=>g2|3,_=>g3|4,_=>g4|5,_=>g5|6,_=>g6|7,_=>g7|8,_=>g8
     have e1:=C.m7 g7
     obtain⟨gr,e2,hge,hR⟩:=C.m8 g8 hdi
     subst e1 e2
     obtain⟨r0,r1,r2,r3,r4,r5⟩:=three_of hR
     obtain⟨hp,hpb⟩:=put_three (w:=V2) hR C.bel hge (.slice (some ⟨gs,0,none⟩) dl dl) (.int .i64 co) (.int .i64 mx)
     have HP:=hide hp
     have HPB:=hide hpb
     clear hp hpb hR
     have C:=hide C
     go_wp2
     have C:=C.out
     exact HK.out _ _ ⟨_,_,_,_,_,_,_,_,_,rfl,⟨HPB.out,C.m0,C.m1,C.m2,C.m3,C.m4,(fun _ h=>by cases h),C.m6,(fun _=>rfl),(fun _ h=>by cases h),(fun _=>⟨gr,rfl,hge,HP.out⟩),(fun _ j hj=>or_tt (D9 j hj))⟩⟩
   ·rintro dd a w ⟨x9,x27,x28,x29,x30,x31,x32,x33,x34,rfl,C⟩ hall
    have D9:∀ i,i < 10->dd i=true:=hall
    obtain⟨gr,e1,hge,hR⟩:=C.m9 (D9 9 (by omega))
    subst e1
    have HGw:=hide (HG2.out.below C.bel)
    have HRw:=hide (HR2.out.below C.bel)
    have HBw:=hide (bel HB2.out C.bel)
    have hrz:=HR2.out.lt
    have HRr:=hide hR
    obtain⟨r0,r1,r2,-,-,-⟩:=three_of hR
    obtain⟨q0,q1,q2,q3,q4,q5⟩:=three_of HRw.out
    obtain⟨hp,hpb⟩:=put_three HRw.out HBw.out (by omega) (.slice none 0 0) (.int .i64 0) (.int .i64 0)
    obtain⟨hq,hqb⟩:=put_three HRw.out HBw.out (by omega) (.slice (some ⟨gs,0,none⟩) dl dl) (.int .i64 co) (.int .i64 mx)
    have HGq:=hide (other_three (r:=W.heap.size+1+1) HGw.out (by have:=HGs.out;have:=HR1s.out;omega) (.slice (some ⟨gs,0,none⟩) dl dl) (.int .i64 co) (.int .i64 mx))
    have P0:=hide hp
    have PB:=hide hpb
    have Q0:=hide hq
    have QB:=hide hqb
    clear hp hpb hq hqb hR hall D9 C
    by_cases b1:200 < co
    ·have HF2:Hid (ckE f d NM BS NS root=14):=hide (by rw[HF.out,if_pos (.inl b1)])
     go_wp2_with fail
     have p0:=P0.out.cell 0 rfl
     have p1:=P0.out.cell 1 rfl
     have p2:=P0.out.cell 2 rfl
     exact bodyPost_ret (v:=.tuple #[.agg rep0,.int .i64 14]) (by simp[results,Tryz.results20,go_sem,p0,p1,p2]) rfl (.inl (by rw[HF2.out];exact⟨by decide,rfl,PB.out⟩))
    ·by_cases b2:24 < mx
     ·have HF2:Hid (ckE f d NM BS NS root=14):=hide (by rw[HF.out,if_pos (.inr b2)])
      go_wp2_with fail
      have p0:=P0.out.cell 0 rfl
      have p1:=P0.out.cell 1 rfl
      have p2:=P0.out.cell 2 rfl
      exact bodyPost_ret (v:=.tuple #[.agg rep0,.int .i64 14]) (by simp[results,Tryz.results20,go_sem,p0,p1,p2]) rfl (.inl (by rw[HF2.out];exact⟨by decide,rfl,PB.out⟩))
     ·have HF2:Hid (ckE f d NM BS NS root=0):=hide (by rw[HF.out,if_neg (by omega)])
      go_wp2_with fail
      have p0:=Q0.out.cell 0 rfl
      have p1:=Q0.out.cell 1 rfl
      have p2:=Q0.out.cell 2 rfl
      exact bodyPost_ret (v:=.tuple #[.agg #[.slice (some ⟨gs,0,none⟩) dl dl,.int .i64 co,.int .i64 mx],.int .i64 0]) (by simp[results,Tryz.results20,go_sem,p0,p1,p2]) rfl (.inr ⟨HF2.out,gs,by rw[HLN.out,HCo.out,HD.out,HMx.out],by have:=HGs.out;have:=HR1s.out;omega,by rw[HSS.out];exact HGq.out,QB.out⟩)
 ·have hne:(mayE f d NM BS NS root != 0)=true:=by simpa using hm
  have HF:=hide (ck_may hm)
  have HE:=hide hm
  obtain⟨r0,r1,r2,r3,r4,r5⟩:=three_of HR1.out
  clear hm hb HM HX HBI HNI HK0 HT0 HR0 HB0
  generalize mayE f d NM BS NS root=er at *
  go_wp2_with fail
  obtain⟨hp,hpb⟩:=put_three HR1.out HB1.out (by omega) (.slice none 0 0) (.int .i64 0) (.int .i64 0)
  have p0:=hp.cell 0 rfl
  have p1:=hp.cell 1 rfl
  have p2:=hp.cell 2 rfl
  exact bodyPost_ret (v:=.tuple #[.agg rep0,.int .i64 er]) (by simp[results,Tryz.results20,go_sem,p0,p1,p2]) rfl (.inl (by rw[HF.out];exact⟨HE.out,rfl,hpb⟩))
end Go.Proofs.YtimdcmponhcngaaGreat
namespace Go.Proofs.YtimdcmponhcngaaGreat
open Lx Pz
set_option linter.unusedVariables false
set_option maxRecDepth 100000
set_option maxHeartbeats 16000000
structure Wd where
 x:Int
 y:Int
 c:Int
 ps:List Int
abbrev wdA (v:Wd)(a:Option Addr)(n cap:Nat):Array Value:=#[.int .i64 v.x,.int .i64 v.y,.int .i64 v.c,.slice a n cap]
abbrev Fits (f d:Int)(v:Wd):Prop:=Knd.Fit f d v.x v.y v.c v.ps
def inpV (f d:Int)(v:Wd)(k:Int):Int:=if k=0 then v.x else if k=1 then v.y else if k=2 then v.c else if k=3 then Knd.lowZ f d else if k=4 then Knd.highZ f d else Knd.borderZ f d
def smpV (f d:Int)(v:Wd)(n:Nd):Int:=v.ps.getD ((Knd.numZ f d (plOf n)).getD 0) 0
def opV (V:List Int)(n:Nd):Int:=(Spn.valZ n.op 0 0 ((prts n).map fun p=>V.getD p.toNat 0)).1
def vaN (f d:Int)(v:Wd)(BS V:List Int)(n:Nd):Int :=
 if n.op=4 then V.getD (BS.getD n.k.toNat 0).toNat 0 else if n.op=1 then n.k else if n.op=2 then inpV f d v n.k else if n.op=3 then smpV f d v n else opV V n
def vaR (f d:Int)(v:Wd)(BS:List Int):List Nd->List Int->List Int
 | [],V=>V
 | n::NS,V=>vaR f d v BS NS (V++[vaN f d v BS V n])
theorem vaR_app (f d:Int)(v:Wd)(BS:List Int):∀(A B:List Nd) (V:List Int),vaR f d v BS (A++B) V=vaR f d v BS B (vaR f d v BS A V)
 | [],B,V=>rfl
 | n::A,B,V=>vaR_app f d v BS A B _
theorem vaR_len (f d:Int)(v:Wd)(BS:List Int):∀(A:List Nd) (V:List Int),(vaR f d v BS A V).length=V.length+A.length
 | [],V=>rfl
 | n::A,V=>by rw[vaR,vaR_len f d v BS A];simp;omega
theorem vaR_snoc (f d:Int)(v:Wd)(BS:List Int)(A:List Nd)(n:Nd)(V:List Int):vaR f d v BS (A++[n]) V=vaR f d v BS A V++[vaN f d v BS (vaR f d v BS A V) n]:=by
 rw[vaR_app];rfl
noncomputable def evE (f d:Int)(v:Wd)(NM:List Txt)(BS:List Int)(NS:List Nd)(root:Int):Int:=if ckE f d NM BS NS root=0 then Knd.fitE f d v.x v.y v.c v.ps else ckE f d NM BS NS root
noncomputable def evV (f d:Int)(v:Wd)(NM:List Txt)(BS:List Int)(NS:List Nd)(root:Int):Int:=if evE f d v NM BS NS root=0 then(vaR f d v BS NS []).getD root.toNat 0 else 0
theorem fitE_cases (f d:Int)(v:Wd):(Fits f d v/\Knd.fitE f d v.x v.y v.c v.ps=0)\/(¬Fits f d v/\Knd.fitE f d v.x v.y v.c v.ps=1):=by
 unfold Knd.fitE
 by_cases h:Fits f d v
 ·exact .inl ⟨h,if_pos h⟩
 ·exact .inr ⟨h,if_neg h⟩
theorem evE_zero {f d:Int}{v:Wd}{NM:List Txt}{BS:List Int}{NS:List Nd}{root:Int}:evE f d v NM BS NS root=0↔ckE f d NM BS NS root=0/\Fits f d v:=by
 unfold evE
 constructor
 ·intro h
  split at h
  ·rename_i h1
   rcases fitE_cases f d v with⟨h2,-⟩|⟨-,h2⟩
   ·exact⟨h1,h2⟩
   ·omega
  ·rename_i h1;exact absurd h h1
 ·rintro⟨h1,h2⟩
  rw[if_pos h1]
  rcases fitE_cases f d v with⟨-,h3⟩|⟨h3,-⟩
  ·exact h3
  ·exact absurd h2 h3
theorem look_lt (L:List Knd.Plc)(p:Knd.Plc):∀(k:Nat),k<=64->∀ q,Knd.look L (Knd.upto k) p=some q->q < k
 | 0,_,q,h=>by simp[Knd.upto,Knd.look] at h
 | k+1,hk,q,h=>by
  rw[Knd.upto_succ k (by omega),Knd.look_snoc] at h
  split at h
  ·cases h;exact Nat.lt_succ_self k
  ·have:=look_lt L p k (by omega) q h;omega
end Go.Proofs.YtimdcmponhcngaaGreat
namespace Go.Proofs.YtimdcmponhcngaaGreat
open Go.RowKit Go.IntWalk Lx Pz
set_option linter.unusedVariables false
set_option maxRecDepth 100000
set_option maxHeartbeats 16000000
theorem four_of {W:World}{b:Nat}{t:TypeId}{x y z u:Value}(h:HasC W b t #[x,y,z,u]):W.cell? ⟨b,0,none⟩=some x/\W.cell? ⟨b,1,none⟩=some y/\W.cell? ⟨b,2,none⟩=some z/\W.cell? ⟨b,3,none⟩=some u :=
 ⟨h.cell 0 rfl,h.cell 1 rfl,h.cell 2 rfl,h.cell 3 rfl⟩
theorem vinput_any (f d k:Int)(v:Wd)(a:Option Addr)(n cap:Nat)(W:World) :
  Calls Tryz.prog 32 #[.agg (kdA f d),.agg (wdA v a n cap),.int .i64 k] W fun e W'=>e=.returned (.int .i64 (inpV f d v k))/\Below W.heap.size W W':=by
 have HL:=hide fun W=>Knd.low_any f d W
 have HH:=hide fun W=>Knd.high_any f d W
 have HO:=hide fun W=>Knd.border_any f d W
 have HB:=hide (bel (bel1 W (.cells (kdA f d) 23)) (bel1 (W.alloc (.cells (kdA f d) 23)) (.cells (wdA v a n cap) 30)))
 unfold inpV
 by_cases h0:k=0
 ·subst h0
  rw[if_pos rfl]
  go_enter Tryz.func32,Tryz.ntmps32
  go_wp2_with fail
  go_ret
  exact⟨rfl,HB.out⟩
 rw[if_neg h0]
 by_cases h1:k=1
 ·subst h1
  rw[if_pos rfl]
  go_enter Tryz.func32,Tryz.ntmps32
  go_wp2_with fail
  go_ret
  exact⟨rfl,HB.out⟩
 rw[if_neg h1]
 by_cases h2:k=2
 ·subst h2
  rw[if_pos rfl]
  go_enter Tryz.func32,Tryz.ntmps32
  go_wp2_with fail
  go_ret
  exact⟨rfl,HB.out⟩
 rw[if_neg h2]
 by_cases h3:k=3
 ·subst h3
  rw[if_pos rfl]
  go_enter Tryz.func32,Tryz.ntmps32
  go_wp2_with fail
  refine(HL.out _).mono ?_
  rintro e V1 ⟨rfl,hb⟩
  go_wp2_with fail
  go_ret
  exact⟨rfl,bel HB.out hb⟩
 rw[if_neg h3]
 by_cases h4:k=4
 ·subst h4
  rw[if_pos rfl]
  go_enter Tryz.func32,Tryz.ntmps32
  go_wp2_with fail
  refine(HH.out _).mono ?_
  rintro e V1 ⟨rfl,hb⟩
  go_wp2_with fail
  go_ret
  exact⟨rfl,bel HB.out hb⟩
 rw[if_neg h4]
 have q0:(k==0)=false:=by simpa using h0
 have q1:(k==1)=false:=by simpa using h1
 have q2:(k==2)=false:=by simpa using h2
 have q3:(k==3)=false:=by simpa using h3
 have q4:(k==4)=false:=by simpa using h4
 clear h0 h1 h2 h3 h4
 go_enter Tryz.func32,Tryz.ntmps32
 go_wp2_with fail
 refine(HO.out _).mono ?_
 rintro e V1 ⟨rfl,hb⟩
 go_wp2_with fail
 go_ret
 exact⟨rfl,bel HB.out hb⟩
theorem vsample_any (f d:Int)(nd:Nd)(v:Wd){a:Option Addr}{n cap q:Nat}{W:World}(hP:Knd.Ints W a n cap v.ps)(hw:(plOf nd).wf)(hq:Knd.numZ f d (plOf nd)=some q)(hn:q < n) :
  Calls Tryz.prog 33 #[.agg (kdA f d),.agg (wdA v a n cap),.agg #[.int .i64 nd.back,.int .i64 nd.co,.int .i64 nd.x,.int .i64 nd.y]] W fun e W'=>e=.returned (.int .i64 (smpV f d v nd))/\Below W.heap.size W W':=by
 have HN:=hide fun W=>Knd.number_any f d (plOf nd) hw W
 unfold Knd.numV at HN
 unfold smpV
 rw[hq] at HN ⊢
 simp only[Option.getD_some,Option.isSome_some] at HN ⊢
 have hb1:=bel1 W (.cells (kdA f d) 23)
 have hb2:=bel hb1 (bel1 (W.alloc (.cells (kdA f d) 23)) (.cells (wdA v a n cap) 30))
 have hb3:=bel hb2 (bel1 ((W.alloc (.cells (kdA f d) 23)).alloc (.cells (wdA v a n cap) 30)) (.cells #[.int .i64 nd.back,.int .i64 nd.co,.int .i64 nd.x,.int .i64 nd.y] 65))
 have HB:=hide hb3
 have HW0:Hid (HasC (((W.alloc (.cells (kdA f d) 23)).alloc (.cells (wdA v a n cap) 30)).alloc (.cells #[.int .i64 nd.back,.int .i64 nd.co,.int .i64 nd.x,.int .i64 nd.y] 65)) (W.heap.size+1) 30 (wdA v a n cap)):=by
  have:=(HasC.new (W.alloc (.cells (kdA f d) 23)) 30 (wdA v a n cap)).alloc (.cells #[.int .i64 nd.back,.int .i64 nd.co,.int .i64 nd.x,.int .i64 nd.y] 65)
  simp only[World.size_alloc] at this
  exact hide this
 have HP:=hide (hP.later hb3)
 clear hb1 hb2 hb3 hP hw hq
 have i0:(0:Int)<=q:=by omega
 have i1:(q:Int) < n:=by omega
 obtain⟨z,hz⟩:∃ z,v.ps.getD q 0=z:=⟨_,rfl⟩
 rw[hz]
 go_enter Tryz.func33,Tryz.ntmps33
 go_wp2_with fail
 refine(HN.out _).mono ?_
 rintro e V1 ⟨rfl,hb⟩
 obtain⟨x0,x1,x2,x3⟩:=four_of (HW0.out.below hb)
 obtain⟨b,off,rfl,-,hc⟩:=(HP.out.later hb).at (by omega)
 have c0:=hc q hn
 rw[hz] at c0
 have HB2:=hide (bel HB.out hb)
 clear hc hb HB HP HW0 HN hz
 go_wp2_with fail
 go_ret
 exact⟨rfl,HB2.out⟩
structure Ls (w W:World)(v:Value)(L:List Int):Prop where
 a:W.ownsRow w.heap.size 3 1 v L.length (in64 L)
 bel:Below w.heap.size w W
theorem Ls.alloc {w W:World}{v:Value}{L:List Int}(h:Ls w W v L)(o:Obj):Ls w (W.alloc o) v L:=⟨h.a.alloc o,h.bel.alloc h.bel.size o⟩
theorem Ls.drew {w W:World}{v:Value}{L:List Int}(h:Ls w W v L):Ls w W.drew v L:=⟨h.a.drew,h.bel.drew⟩
theorem Ls.start (W:World):Ls W W (.slice none 0 0) []:=⟨⟨rfl,.inl ⟨rfl,rfl⟩⟩,Below.refl _ _⟩
theorem Ls.later {w W W':World}{v:Value}{L:List Int}(h:Ls w W v L)(hb:Below W.heap.size W W'):Ls w W' v L:=by
 have hg:W.grownBy W' none:=⟨hb.os,hb.tape,hb.output,hb.size,fun k hk _=>hb.block k hk⟩
 refine⟨h.a.kept hg ?_,h.bel.trans (hb.mono h.bel.size)⟩
 cases hv:v.ownBlock with
 | none=>exact .inl rfl
 | some q=>exact .inr (by simp)
theorem list_ls {w W:World}{v:Value}{L:List Int}{ops:Array Oper}{rest:List Oper}{o:Oper}{a:Act}{Q:Exit->Act->World->Prop}
  (hgd:o.guard=none) (s x:Operand) (ho:o.op=.call { callee:=.builtin .append,args:=#[s,x],argTypes:=#[25,25] })
  (hs:a.eval s=v) (hen:Ls w W v L) (b:Nat) (p:Int) (hx:a.eval x=.slice (some ⟨b,0,none⟩) 1 1) (hc:HasC W b 3 #[.int .i64 p]) (h3:L.length<=2000000)
  (h:∀ g cap w',Ls w w' (.slice (some ⟨g,0,none⟩) (L.length+1) cap) (L++[p])->wpList Tryz.prog ops Q rest (a.put o.dst (.slice (some ⟨g,0,none⟩) (L.length+1) cap)) w') :
  wpList Tryz.prog ops Q (o::rest) a W :=
 list_in hgd s x ho hs hen.a hen.bel.size b p hx hc h3 fun g cap w' h1 h2 h4=>h g cap w' ⟨h1,h4 w hen.bel rfl⟩
theorem op_args {V:List Int}{n:Nd}{k:Nat}(hk:k < (prts n).length):((prts n).map fun p=>V.getD p.toNat 0).take (k+1)=((prts n).map fun p=>V.getD p.toNat 0).take k++[V.getD ((prts n).getD k 0).toNat 0]:=by
 rw[take_snoc 0 (by simpa using hk)]
 congr 2
 simp[List.getD_eq_getElem?_getD,List.getElem?_map,List.getElem?_eq_getElem hk]
theorem vmade_any (n:Nd){BS:List Int}{i sl sc:Nat}{a:Option Addr}{V:List Int}{W:World}(hn:Wn BS i n)(h5:5<=n.op)(hS:Iz W a sl sc V)(hi:i<=sl) :
  Calls Tryz.prog 34 #[.agg (ndA n),.slice a sl sc] W fun e W'=>e=.returned (.int .i64 (opV V n))/\Below W.heap.size W W':=by
 obtain⟨k,hk⟩:∃ k:Nat,prZ n.op=k:=⟨(prZ n.op).toNat,by have:=hn.pr;omega⟩
 have h3:k<=3:=by
  have:prZ n.op<=3:=by unfold prZ arZ;repeat' split <;> omega
  omega
 have har:arZ n.op=k:=by rw[hn.ar (by omega),hk]
 have hsl:sl<=9223372036854775807:=by have:=hS.le;have:=hS.max;unfold maxLen at *;omega
 unfold opV
 have HPt:=hide fun j hj=>prts_at (n:=n) (j:=j) hk h3 hj
 have HPl:=hide (prts_len hk h3)
 have HPr:=hide hn.prt
 have HSg:=hide fun j hj=>op_args (V:=V) (n:=n) (k:=j) hj
 obtain⟨L,hL⟩:∃ L,((prts n).map fun p=>V.getD p.toNat 0)=L:=⟨_,rfl⟩
 have HLl:Hid (L.length=k):=hide (by rw[<-hL,List.length_map,HPl.out])
 rw[hL] at HSg ⊢
 have HA:=hide fun W=>arity_any n.op W
 rw[har] at HA
 have HB:=hide (bel1 W (.cells (ndA n) 69))
 have HN0:=hide (HasC.new W 69 (ndA n))
 obtain⟨f0,f1,f2,f3,f4,f5,f6,f7,f8⟩:=(HasC.new W 69 (ndA n)).nine
 have hz:W.heap.size < (W.alloc (.cells (ndA n) 69)).heap.size:=by simp
 have HS0:=hide (hS.later HB.out)
 clear hS hL har hk hn h5
 have hk0:(0:Int)<=k:=by omega
 have hk1:(k:Int)<=3:=by omega
 go_enter Tryz.func34,Tryz.ntmps34
 go_wp2_with fail
 go_region_held3 (fun w'=>w'.cell? ⟨W.heap.size,0,none⟩=some (.int .i64 n.op)/\w'.cell? ⟨W.heap.size,1,none⟩=some (.int .i64 n.a)/\w'.cell? ⟨W.heap.size,2,none⟩=some (.int .i64 n.b)/\w'.cell? ⟨W.heap.size,3,none⟩=some (.int .i64 n.c))
  (first|exact⟨f0,f1,f2,f3⟩|go_keep)
  ((first
   | (go_at_call 57;refine(HA.out _).mono ?_;rintro e w2 ⟨rfl,rfl⟩)))
 all_goals
  have h5:=HasC.new (W.alloc (.cells (ndA n) 69)) 3 (ab3 n)
  rw[World.size_alloc] at h5
  have hb5:=(bel1 (W.alloc (.cells (ndA n) 69)) (.cells (ab3 n) 3)).drew
  have HG:=hide (h5.below (below_drew _))
  have HN1:=hide (HN0.out.below hb5)
  have HB1:=hide (bel HB.out hb5)
  have HS1:=hide (HS0.out.later hb5)
  clear h5 hb5 HB HN0 HS0 f0 f1 f2 f3 f4 f5 f6 f7 f8
  go_wp2_with fail
  obtain⟨V1,hV1⟩:∃ V1,((W.alloc (.cells (ndA n) 69)).alloc (.cells (ab3 n) 3)).drew=V1:=⟨_,rfl⟩
  rw[hV1] at HG HN1 HB1 HS1 ⊢
  have hgl:=HG.out.lt
  clear hV1 HA
  go_loopw [5,22] (fun v i wr=>∃ j:Nat,j<=k/\i=.int .i64 j/\Hid (Ls V1 wr v (L.take j))) (fun _ i _=>k-(intOf i).toNat)
  case atStart=>exact⟨0,Nat.zero_le _,rfl,hide (Ls.start V1)⟩
  case round =>
   obtain⟨j,hj,rfl,HE⟩:=hrel
   rename World=>V2
   by_cases hlt:j < k
   ·have cp:=(HG.out.below HE.out.bel).cell j (HPt.out j hlt).1
    obtain⟨p0,p1⟩:=HPr.out _ (HPt.out j hlt).2
    have HT:=hide (HSg.out j (by rw[HPl.out];exact hlt))
    obtain⟨q,hq⟩:∃ q:Nat,(prts n).getD j 0=(q:Int):=⟨((prts n).getD j 0).toNat,by omega⟩
    rw[hq] at cp p1 HT
    simp only[Int.toNat_natCast] at p1 HT
    obtain⟨b,off,rfl,hcq⟩:∃ b off,a=some ⟨b,off,none⟩/\V2.cell? ⟨b,off+q,none⟩=some (.int .i64 (V.getD q 0)):=by
     rcases(HS1.out.later HE.out.bel).cell with h0|⟨b,off,ha,hlb,hc⟩
     ·omega
     ·exact⟨b,off,ha,hc q (by omega)⟩
    generalize V.getD q 0=sv at *
    have j0:(0:Int)<=j:=by omega
    have j1:(j:Int) < k:=by omega
    have j2:(j:Int) < 3:=by omega
    have i0:(0:Int)<=q:=by omega
    have i1:(q:Int) < sl:=by omega
    have HJ:Hid ((L.take j).length=j):=hide (by rw[List.length_take,HLl.out];omega)
    clear p0 p1 hq
    go_wp2_with (at_builtin;refine list_ls (w:=V1) (L:=L.take j) rfl _ _ rfl rfl (HE.out.alloc _) _ sv rfl (HasC.new _ _ _) (by rw[HJ.out];omega) ?_;intro g2 cap2 w2 HE2;rw[HJ.out] at HE2 ⊢)
    go_roundw
    case rel=>exact⟨j+1,by omega,by go_num,hide (by rw[HT.out];exact HE2)⟩
    case measure=>simp[intOf];omega
   ·obtain rfl:j=k:=by omega
    have e:L.take j=L:=List.take_of_length_le (by rw[HLl.out];exact Nat.le_refl _)
    have HE1:=HE.out
    rw[e] at HE1
    obtain⟨va,vc,rfl,hA,-⟩:=Spn.Ints.of_owns HE1.a
    have hLl:=HLl.out
    rw[hLl] at hA ⊢
    have HOf:=hide (Spn.value_any n.op 0 0 _ _ _ _ _ hA)
    have HB2:=hide (bel HB1.out HE1.bel)
    have x0:=(HN1.out.below HE1.bel).cell 0 rfl
    obtain⟨⟨vv,er⟩,hZ⟩:∃ Z,Spn.valZ n.op 0 0 L=Z:=⟨_,rfl⟩
    rw[hZ] at HOf
    have HZ:=hide hZ
    clear hZ hA e HE HE1 hLl
    go_wp2_with fail
    refine HOf.out.mono ?_
    rintro e V3 ⟨rfl,hb⟩
    have HB3:=hide (bel HB2.out hb)
    clear hb
    go_wp2_with fail
    go_ret
    exact⟨by rw[HZ.out];rfl,HB3.out⟩
end Go.Proofs.YtimdcmponhcngaaGreat
