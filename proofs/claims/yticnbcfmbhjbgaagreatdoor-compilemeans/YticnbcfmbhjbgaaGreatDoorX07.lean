import Derived.Test.YticnbcfmbhjbgaaGreatDoorX06
set_option maxRecDepth 100000
set_option maxHeartbeats 32000000
set_option linter.unusedVariables false
namespace Go.Proofs.YticnbcfmbhjbgaaGreatDoor
section
open Go.RowKit Go.IntWalk Lx Pz
variable {back x:Int} {W:World} {b:Nat}
theorem aFp {q:Bool}{l:List Tk}(h:l.head?≠some .lp):wR q l=none:=by
 unfold wR
 split
 ·exact absurd rfl h
 ·rfl
theorem bBm (v:Int)(l:List Tk)(h:¬v=0):wR true (.lp::.num v::.comma::l)=kP v l:=by simp[wR,h]
theorem aYq (l:List Tk):wR true (.lp::.num 0::l)=none:=by
 simp only[wR,if_true]
 split
 ·rename_i heq;cases heq;simp
 ·rfl
theorem aYs {l:List Tk}(h:∀ v r,l≠.num v::r):wR true (.lp::l)=none:=by
 simp only[wR,if_true]
 split
 ·exact absurd rfl (h _ _)
 ·rfl
theorem aYr {v:Int}{l:List Tk}(h:l.head?≠some .comma):wR true (.lp::.num v::l)=none:=by
 simp only[wR,if_true]
 split
 ·rename_i heq;cases heq;exact absurd rfl h
 ·rfl
theorem aBk {l:List Tk}(h:off l=none):kP back l=none:=by unfold kP;rw[h]
theorem aFj {l r:List Tk}(h:off l=some (x,r))(h1:r.head?≠some .comma)(h2:r.head?≠some .rp):kP back l=none:=by
 unfold kP
 rw[h]
 split
 ·rename_i heq;cases heq;exact absurd rfl h2
 ·rename_i heq;cases heq;exact absurd rfl h1
 ·rfl
theorem aFk {l r:List Tk}(h:off l=some (x,.rp::r)):kP back l=some (.leaf (lf 3 0 back 1 x 0),r):=by unfold kP;rw[h]
theorem aBl {l r:List Tk}(h:off l=some (x,.comma::r))(h1:off r=none):kP back l=none:=by unfold kP;rw[h];simp only[h1]
theorem aBm {y:Int}{l r r2:List Tk}(h:off l=some (x,.comma::r))(h1:off r=some (y,r2))(h2:r2.head?≠some .rp):kP back l=none:=by
 unfold kP
 rw[h]
 simp only[h1]
 split
 ·rename_i heq;cases heq;exact absurd rfl h2
 ·rfl
theorem aFl {y:Int}{l r r2:List Tk}(h:off l=some (x,.comma::r))(h1:off r=some (y,.rp::r2)):kP back l=some (.leaf (lf 3 0 back 2 x y),r2):=by unfold kP;rw[h];simp only[h1]
abbrev rQ (a b c d:Int):Array Value:=#[.i a,.i b,.i c,.i d]
theorem aX {t:TypeId}{x y z u:Value}(h:aB W b t #[x,y,z,u]):W.cell? ⟨b,0,none⟩=some x/\W.cell? ⟨b,1,none⟩=some y/\W.cell? ⟨b,2,none⟩=some z/\W.cell? ⟨b,3,none⟩=some u :=
 ⟨h.cell 0 rfl,h.cell 1 rfl,h.cell 2 rfl,h.cell 3 rfl⟩
theorem wC {t:TypeId}{x y z u:Value}(h:aB W b t #[x,y,z,u]):W.frozen? ⟨b,0,none⟩=false/\W.frozen? ⟨b,1,none⟩=false/\W.frozen? ⟨b,2,none⟩=false/\W.frozen? ⟨b,3,none⟩=false :=
 ⟨h.frozen 0,h.frozen 1,h.frozen 2,h.frozen 3⟩
theorem aUh {w:World}{m:Mm}{T:List Tok}{NM:List aM}{BS:List Int}{NS:List Nd}(h:Rd w W b m T NM BS NS)(h3:NS.length<=2000000) :
  Calls Tryz.prog 363 #[ptr b,.string ⟨#[112]⟩] W fun e W'=>Ok w W b T NM BS NS (wR false (T.map ab)) e W':=by
 have H3:=aA h3
 have hw:=aA h.wf
 have HP0:=aA (Pl.begin h 135 (rQ 0 0 0 0))
 clear h h3
 go_enter Tryz.func363,Tryz.ntmps363
 go_upto_region 2 with fail
 obtain⟨q,hq⟩:∃ q,W.heap.size=q:=⟨_,rfl⟩
 rw[hq] at HP0 ⊢
 generalize W.alloc (.cells (rQ 0 0 0 0) 135)=V0 at HP0 ⊢
 clear hq
 obtain⟨m0,hm0⟩:=HP0.o.rd
 have HM0:=aA hm0
 clear hm0
 by_cases hl:(T.map ab).head?=some .lp
 ·obtain⟨t1,T1,rfl,h1⟩:=dF hl
  have hs1:=aA ((bN (hw.o t1 (by simp)) (s:=[40]) (by decide)).2 h1)
  have H1:=aA h1
  clear hl h1 hw
  go_wp2_with fail
  refine(dY HM0.o _ hs1.o).mono ?_
  rintro e V1 ⟨rfl,hR,hk⟩
  have HP:=aA (HP0.o.step (by decide) hR hk)
  clear hR hk HP0 HM0
  have HQ:=aA (show wR false ((t1::T1).map ab)=kP 0 (T1.map ab) by rw[lMc,H1.o];rfl)
  obtain⟨m1,hm1⟩:=HP.o.rd
  have HM1:=aA hm1
  clear hm1
  go_wp2_with fail
  refine(rC HM1.o).mono ?_
  rintro e V3 (⟨hn,rfl,hb⟩|⟨x,P3,T3,ho,rfl,rfl,hR,hk⟩)
  ·have HB:=aA hb
   have hn:=aA hn
   clear hb
   go_wp2_with fail
   exact⟨rfl,.inl ⟨HQ.o.trans (aBk hn.o),rfl,HB.o⟩⟩
  ·have HO:=aA ho
   have HP3:=aA (HP.o.step (by decide) hR hk)
   clear hR hk ho
   obtain⟨c0,c1,c2,c3⟩:=aX HP3.o.va
   obtain⟨y0,y1,y2,y3⟩:=wC HP3.o.va
   have HP4:=aA ((HP3.o.store (by decide) 1 (.i 1)).store (by decide) 2 (.i x))
   have e4:((rQ 0 0 0 0).setIfInBounds 1 (.i 1)).setIfInBounds 2 (.i x)=rQ 0 1 x 0:=rfl
   rw[e4] at HP4
   clear e4
   clear HP HP3 HM1
   go_upto_region 9 with fail
   generalize (V3.setCell ⟨q,1,none⟩ (.i 1)).setCell ⟨q,2,none⟩ (.i x)=V4 at HP4 ⊢
   clear c0 c1 c2 c3 y0 y1 y2 y3
   obtain⟨m4,hm4⟩:=HP4.o.rd
   have hw4:=aA hm4.wf
   have HM4:=aA hm4
   clear hm4
   by_cases hc:(T3.map ab).head?=some .comma
   ·obtain⟨t5,T5,rfl,h5⟩:=dF hc
    have hs5:=aA ((bN (hw4.o t5 (by simp)) (s:=[44]) (by decide)).2 h5)
    have H5:=aA h5
    clear hc h5 hw4
    go_wp2_with fail
    refine(lQ HM4.o _ hs5.o).mono ?_
    rintro e V5 ⟨rfl,hR,hk⟩
    have HP5:=aA (HP4.o.step (by decide) hR hk)
    clear hR hk HP4 HM4
    obtain⟨m5,hm5⟩:=HP5.o.rd
    have HM5:=aA hm5
    clear hm5
    go_wp2_with fail
    refine(rC HM5.o).mono ?_
    rintro e V6 (⟨hn,rfl,hb⟩|⟨y,P6,T6,ho2,rfl,rfl,hR,hk⟩)
    ·have HB:=aA hb
     have hn:=aA hn
     clear hb
     go_wp2_with fail
     exact⟨rfl,.inl ⟨HQ.o.trans (aBl (by rw[HO.o,lMc,H5.o]) hn.o),rfl,HB.o⟩⟩
    ·have HO2:=aA ho2
     have HP6:=aA (HP5.o.step (by decide) hR hk)
     clear hR hk ho2
     obtain⟨c0,c1,c2,c3⟩:=aX HP6.o.va
     obtain⟨y0,y1,y2,y3⟩:=wC HP6.o.va
     have HP7:=aA ((HP6.o.store (by decide) 1 (.i 2)).store (by decide) 3 (.i y))
     have e7:((rQ 0 1 x 0).setIfInBounds 1 (.i 2)).setIfInBounds 3 (.i y)=rQ 0 2 x y:=rfl
     rw[e7] at HP7
     clear e7 HP5 HP6 HM5
     go_upto_region 11 with fail
     generalize (V6.setCell ⟨q,1,none⟩ (.i 2)).setCell ⟨q,3,none⟩ (.i y)=V7 at HP7 ⊢
     clear c0 c1 c2 c3 y0 y1 y2 y3
     obtain⟨m7,hm7⟩:=HP7.o.rd
     have hw7:=aA hm7.wf
     have HM7:=aA hm7
     clear hm7
     by_cases hr:(T6.map ab).head?=some .rp
     ·obtain⟨t8,T8,rfl,h8⟩:=dF hr
      have hs8:=aA ((bN (hw7.o t8 (by simp)) (s:=[41]) (by decide)).2 h8)
      have H8:=aA h8
      clear hr h8 hw7
      go_wp2_with fail
      refine(dY HM7.o _ hs8.o).mono ?_
      rintro e V8 ⟨rfl,hR,hk⟩
      have HP8:=aA (HP7.o.step (by decide) hR hk)
      clear hR hk HP7 HM7
      obtain⟨m8,hm8⟩:=HP8.o.rd
      have HM8:=aA hm8
      clear hm8
      obtain⟨c0,c1,c2,c3⟩:=aX HP8.o.va
      go_wp2_with fail
      refine(fM HM8.o (lf 3 0 0 2 x y) H3.o).mono ?_
      rintro e V9 ⟨rfl,hR,hk⟩
      have HR9:=aA hR
      have HK9:=aA (HP8.o.kp.trans hk)
      clear hR hk c0 c1 c2 c3
      go_wp2_with fail
      go_ret
      exact .inr ⟨_,t1::(P3++t5::(P6++[t8])),T8,HQ.o.trans (aFl (by rw[HO.o,lMc,H5.o]) (by rw[HO2.o,lMc,H8.o])),by simp,lT _ rfl,HR9.o,HK9.o⟩
     ·have hs8:=aA (iP (s:=[41]) hw7.o (by decide) hr)
      have HR:=aA hr
      clear hr hw7
      go_wp2_with fail
      refine(fH HM7.o _ hs8.o).mono ?_
      rintro e V8 ⟨rfl,hb⟩
      have HB:=aA (bel HM7.o.old hb)
      clear hb
      go_wp2_with fail
      exact⟨rfl,.inl ⟨HQ.o.trans (aBm (by rw[HO.o,lMc,H5.o]) HO2.o HR.o),rfl,HB.o⟩⟩
   ·have hs5:=aA (iP (s:=[44]) hw4.o (by decide) hc)
    have HC:=aA hc
    clear hc hw4
    go_wp2_with fail
    refine(mI HM4.o _ hs5.o).mono ?_
    rintro e V5 ⟨rfl,hb⟩
    have HP7:=aA (HP4.o.later hb)
    clear hb HP4 HM4 hs5
    obtain⟨m7,hm7⟩:=HP7.o.rd
    have hw7:=aA hm7.wf
    have HM7:=aA hm7
    clear hm7
    by_cases hr:(T3.map ab).head?=some .rp
    ·obtain⟨t8,T8,rfl,h8⟩:=dF hr
     have hs8:=aA ((bN (hw7.o t8 (by simp)) (s:=[41]) (by decide)).2 h8)
     have H8:=aA h8
     clear hr h8 hw7
     go_wp2_with fail
     refine(dY HM7.o _ hs8.o).mono ?_
     rintro e V8 ⟨rfl,hR,hk⟩
     have HP8:=aA (HP7.o.step (by decide) hR hk)
     clear hR hk HP7 HM7
     obtain⟨m8,hm8⟩:=HP8.o.rd
     have HM8:=aA hm8
     clear hm8
     obtain⟨c0,c1,c2,c3⟩:=aX HP8.o.va
     go_wp2_with fail
     refine(fM HM8.o (lf 3 0 0 1 x 0) H3.o).mono ?_
     rintro e V9 ⟨rfl,hR,hk⟩
     have HR9:=aA hR
     have HK9:=aA (HP8.o.kp.trans hk)
     clear hR hk c0 c1 c2 c3
     go_wp2_with fail
     go_ret
     exact .inr ⟨_,t1::(P3++[t8]),T8,HQ.o.trans (aFk (by rw[HO.o,lMc,H8.o])),by simp,lT _ rfl,HR9.o,HK9.o⟩
    ·have hs8:=aA (iP (s:=[41]) hw7.o (by decide) hr)
     have HR:=aA hr
     clear hr hw7
     go_wp2_with fail
     refine(fH HM7.o _ hs8.o).mono ?_
     rintro e V8 ⟨rfl,hb⟩
     have HB:=aA (bel HM7.o.old hb)
     clear hb
     go_wp2_with fail
     exact⟨rfl,.inl ⟨HQ.o.trans (aFj HO.o HC.o HR.o),rfl,HB.o⟩⟩
 ·have hs1:=aA (iP (s:=[40]) hw.o (by decide) hl)
  have HL:=aA hl
  clear hl hw
  go_wp2_with fail
  refine(fH HM0.o _ hs1.o).mono ?_
  rintro e V1 ⟨rfl,hb⟩
  have HB:=aA (bel HM0.o.old hb)
  clear hb
  go_wp2_with fail
  exact⟨rfl,.inl ⟨aFp HL.o,rfl,HB.o⟩⟩
theorem aUi {w:World}{m:Mm}{T:List Tok}{NM:List aM}{BS:List Int}{NS:List Nd}(h:Rd w W b m T NM BS NS)(h3:NS.length<=2000000) :
  Calls Tryz.prog 363 #[ptr b,.string ⟨#[113]⟩] W fun e W'=>Ok w W b T NM BS NS (wR true (T.map ab)) e W':=by
 have H3:=aA h3
 have hw:=aA h.wf
 have HP0:=aA (Pl.begin h 135 (rQ 0 0 0 0))
 clear h h3
 go_enter Tryz.func363,Tryz.ntmps363
 go_upto_region 2 with fail
 obtain⟨q,hq⟩:∃ q,W.heap.size=q:=⟨_,rfl⟩
 rw[hq] at HP0 ⊢
 generalize W.alloc (.cells (rQ 0 0 0 0) 135)=V0 at HP0 ⊢
 clear hq
 obtain⟨m0,hm0⟩:=HP0.o.rd
 have HM0:=aA hm0
 clear hm0
 by_cases hl:(T.map ab).head?=some .lp
 ·obtain⟨t1,T1,rfl,h1⟩:=dF hl
  have hs1:=aA ((bN (hw.o t1 (by simp)) (s:=[40]) (by decide)).2 h1)
  have H1:=aA h1
  clear hl h1 hw
  go_wp2_with fail
  refine(dY HM0.o _ hs1.o).mono ?_
  rintro e V1 ⟨rfl,hR,hk⟩
  have HP:=aA (HP0.o.step (by decide) hR hk)
  clear hR hk HP0 HM0
  have HQ1:=aA (show ((t1::T1).map ab)=.lp::T1.map ab by rw[lMc,H1.o])
  obtain⟨m1,hm1⟩:=HP.o.rd
  have HM1:=aA hm1
  clear hm1
  go_wp2_with fail
  refine(rA HM1.o).mono ?_
  rintro e V2 (⟨hn,rfl,hb⟩|⟨v,t2,T2,rfl,hv,rfl,hR,hk⟩)
  ·have HB:=aA hb
   have hn:=aA hn
   clear hb
   go_wp2_with fail
   exact⟨rfl,.inl ⟨by rw[HQ1.o];exact aYs hn.o,rfl,HB.o⟩⟩
  ·have HV:=aA hv
   have HP2:=aA (HP.o.step (by decide) hR hk)
   clear hR hk hv HM1 HP
   obtain⟨c0,c1,c2,c3⟩:=aX HP2.o.va
   obtain⟨y0,y1,y2,y3⟩:=wC HP2.o.va
   have HP3:=aA (HP2.o.store (by decide) 0 (.i v))
   have e3:(rQ 0 0 0 0).setIfInBounds 0 (.i v)=rQ v 0 0 0:=rfl
   rw[e3] at HP3
   clear e3 HP2
   go_upto_region 5 with fail
   generalize V2.setCell ⟨q,0,none⟩ (.i v)=V3 at HP3 ⊢
   clear c0 c1 c2 c3 y0 y1 y2 y3
   obtain⟨c0,c1,c2,c3⟩:=aX HP3.o.va
   have HQ2:=aA (show ((t1::t2::T2).map ab)=.lp::.num v::T2.map ab by rw[HQ1.o,lMc,HV.o])
   by_cases hz:v=0
   ·subst hz
    have hold:=HP3.o.rd
    have HB:=aA (show Below w.heap.size w V3 from by obtain⟨m,hm⟩:=HP3.o.rd;exact hm.old)
    go_wp2_with fail
    exact⟨rfl,.inl ⟨by rw[HQ2.o];exact aYq _,rfl,HB.o⟩⟩
   ·have hz':(v==0)=false:=by simpa using hz
    have HZ:=aA hz
    clear hz
    obtain⟨m3,hm3⟩:=HP3.o.rd
    have HM3:=aA hm3
    have hw3:=aA hm3.wf
    clear hm3
    by_cases hc2:(T2.map ab).head?=some .comma
    ·obtain⟨t3,T3',rfl,h3⟩:=dF hc2
     have hs3:=aA ((bN (hw3.o t3 (by simp)) (s:=[44]) (by decide)).2 h3)
     have H3':=aA h3
     clear hc2 h3 hw3
     go_wp2_with fail
     refine(dY HM3.o _ hs3.o).mono ?_
     rintro e V4' ⟨rfl,hR,hk⟩
     have HP:=aA (HP3.o.step (by decide) hR hk)
     clear hR hk HP3 HM3 c0 c1 c2 c3 hz'
     have HQ:=aA (show wR true ((t1::t2::t3::T3').map ab)=kP v (T3'.map ab) by rw[HQ2.o,lMc,H3'.o];exact bBm v _ HZ.o)
     obtain⟨m1,hm1⟩:=HP.o.rd
     have HM1:=aA hm1
     clear hm1
     go_wp2_with fail
     refine(rC HM1.o).mono ?_
     rintro e V3 (⟨hn,rfl,hb⟩|⟨x,P3,T3,ho,rfl,rfl,hR,hk⟩)
     ·have HB:=aA hb
      have hn:=aA hn
      clear hb
      go_wp2_with fail
      exact⟨rfl,.inl ⟨HQ.o.trans (aBk hn.o),rfl,HB.o⟩⟩
     ·have HO:=aA ho
      have HP3:=aA (HP.o.step (by decide) hR hk)
      clear hR hk ho
      obtain⟨c0,c1,c2,c3⟩:=aX HP3.o.va
      obtain⟨y0,y1,y2,y3⟩:=wC HP3.o.va
      have HP4:=aA ((HP3.o.store (by decide) 1 (.i 1)).store (by decide) 2 (.i x))
      have e4:((rQ v 0 0 0).setIfInBounds 1 (.i 1)).setIfInBounds 2 (.i x)=rQ v 1 x 0:=rfl
      rw[e4] at HP4
      clear e4
      clear HP HP3 HM1
      go_upto_region 9 with fail
      generalize (V3.setCell ⟨q,1,none⟩ (.i 1)).setCell ⟨q,2,none⟩ (.i x)=V4 at HP4 ⊢
      clear c0 c1 c2 c3 y0 y1 y2 y3
      obtain⟨m4,hm4⟩:=HP4.o.rd
      have hw4:=aA hm4.wf
      have HM4:=aA hm4
      clear hm4
      by_cases hc:(T3.map ab).head?=some .comma
      ·obtain⟨t5,T5,rfl,h5⟩:=dF hc
       have hs5:=aA ((bN (hw4.o t5 (by simp)) (s:=[44]) (by decide)).2 h5)
       have H5:=aA h5
       clear hc h5 hw4
       go_wp2_with fail
       refine(lQ HM4.o _ hs5.o).mono ?_
       rintro e V5 ⟨rfl,hR,hk⟩
       have HP5:=aA (HP4.o.step (by decide) hR hk)
       clear hR hk HP4 HM4
       obtain⟨m5,hm5⟩:=HP5.o.rd
       have HM5:=aA hm5
       clear hm5
       go_wp2_with fail
       refine(rC HM5.o).mono ?_
       rintro e V6 (⟨hn,rfl,hb⟩|⟨y,P6,T6,ho2,rfl,rfl,hR,hk⟩)
       ·have HB:=aA hb
        have hn:=aA hn
        clear hb
        go_wp2_with fail
        exact⟨rfl,.inl ⟨HQ.o.trans (aBl (by rw[HO.o,lMc,H5.o]) hn.o),rfl,HB.o⟩⟩
       ·have HO2:=aA ho2
        have HP6:=aA (HP5.o.step (by decide) hR hk)
        clear hR hk ho2
        obtain⟨c0,c1,c2,c3⟩:=aX HP6.o.va
        obtain⟨y0,y1,y2,y3⟩:=wC HP6.o.va
        have HP7:=aA ((HP6.o.store (by decide) 1 (.i 2)).store (by decide) 3 (.i y))
        have e7:((rQ v 1 x 0).setIfInBounds 1 (.i 2)).setIfInBounds 3 (.i y)=rQ v 2 x y:=rfl
        rw[e7] at HP7
        clear e7 HP5 HP6 HM5
        go_upto_region 11 with fail
        generalize (V6.setCell ⟨q,1,none⟩ (.i 2)).setCell ⟨q,3,none⟩ (.i y)=V7 at HP7 ⊢
        clear c0 c1 c2 c3 y0 y1 y2 y3
        obtain⟨m7,hm7⟩:=HP7.o.rd
        have hw7:=aA hm7.wf
        have HM7:=aA hm7
        clear hm7
        by_cases hr:(T6.map ab).head?=some .rp
        ·obtain⟨t8,T8,rfl,h8⟩:=dF hr
         have hs8:=aA ((bN (hw7.o t8 (by simp)) (s:=[41]) (by decide)).2 h8)
         have H8:=aA h8
         clear hr h8 hw7
         go_wp2_with fail
         refine(dY HM7.o _ hs8.o).mono ?_
         rintro e V8 ⟨rfl,hR,hk⟩
         have HP8:=aA (HP7.o.step (by decide) hR hk)
         clear hR hk HP7 HM7
         obtain⟨m8,hm8⟩:=HP8.o.rd
         have HM8:=aA hm8
         clear hm8
         obtain⟨c0,c1,c2,c3⟩:=aX HP8.o.va
         go_wp2_with fail
         refine(fM HM8.o (lf 3 0 v 2 x y) H3.o).mono ?_
         rintro e V9 ⟨rfl,hR,hk⟩
         have HR9:=aA hR
         have HK9:=aA (HP8.o.kp.trans hk)
         clear hR hk c0 c1 c2 c3
         go_wp2_with fail
         go_ret
         exact .inr ⟨_,t1::t2::t3::(P3++t5::(P6++[t8])),T8,HQ.o.trans (aFl (by rw[HO.o,lMc,H5.o]) (by rw[HO2.o,lMc,H8.o])),by simp,lT _ rfl,HR9.o,HK9.o⟩
        ·have hs8:=aA (iP (s:=[41]) hw7.o (by decide) hr)
         have HR:=aA hr
         clear hr hw7
         go_wp2_with fail
         refine(fH HM7.o _ hs8.o).mono ?_
         rintro e V8 ⟨rfl,hb⟩
         have HB:=aA (bel HM7.o.old hb)
         clear hb
         go_wp2_with fail
         exact⟨rfl,.inl ⟨HQ.o.trans (aBm (by rw[HO.o,lMc,H5.o]) HO2.o HR.o),rfl,HB.o⟩⟩
      ·have hs5:=aA (iP (s:=[44]) hw4.o (by decide) hc)
       have HC:=aA hc
       clear hc hw4
       go_wp2_with fail
       refine(mI HM4.o _ hs5.o).mono ?_
       rintro e V5 ⟨rfl,hb⟩
       have HP7:=aA (HP4.o.later hb)
       clear hb HP4 HM4 hs5
       obtain⟨m7,hm7⟩:=HP7.o.rd
       have hw7:=aA hm7.wf
       have HM7:=aA hm7
       clear hm7
       by_cases hr:(T3.map ab).head?=some .rp
       ·obtain⟨t8,T8,rfl,h8⟩:=dF hr
        have hs8:=aA ((bN (hw7.o t8 (by simp)) (s:=[41]) (by decide)).2 h8)
        have H8:=aA h8
        clear hr h8 hw7
        go_wp2_with fail
        refine(dY HM7.o _ hs8.o).mono ?_
        rintro e V8 ⟨rfl,hR,hk⟩
        have HP8:=aA (HP7.o.step (by decide) hR hk)
        clear hR hk HP7 HM7
        obtain⟨m8,hm8⟩:=HP8.o.rd
        have HM8:=aA hm8
        clear hm8
        obtain⟨c0,c1,c2,c3⟩:=aX HP8.o.va
        go_wp2_with fail
        refine(fM HM8.o (lf 3 0 v 1 x 0) H3.o).mono ?_
        rintro e V9 ⟨rfl,hR,hk⟩
        have HR9:=aA hR
        have HK9:=aA (HP8.o.kp.trans hk)
        clear hR hk c0 c1 c2 c3
        go_wp2_with fail
        go_ret
        exact .inr ⟨_,t1::t2::t3::(P3++[t8]),T8,HQ.o.trans (aFk (by rw[HO.o,lMc,H8.o])),by simp,lT _ rfl,HR9.o,HK9.o⟩
       ·have hs8:=aA (iP (s:=[41]) hw7.o (by decide) hr)
        have HR:=aA hr
        clear hr hw7
        go_wp2_with fail
        refine(fH HM7.o _ hs8.o).mono ?_
        rintro e V8 ⟨rfl,hb⟩
        have HB:=aA (bel HM7.o.old hb)
        clear hb
        go_wp2_with fail
        exact⟨rfl,.inl ⟨HQ.o.trans (aFj HO.o HC.o HR.o),rfl,HB.o⟩⟩
    ·have hs3:=aA (iP (s:=[44]) hw3.o (by decide) hc2)
     have HC2:=aA hc2
     clear hc2 hw3
     go_wp2_with fail
     refine(fH HM3.o _ hs3.o).mono ?_
     rintro e V4 ⟨rfl,hb⟩
     have HB:=aA (bel HM3.o.old hb)
     clear hb
     go_wp2_with fail
     exact⟨rfl,.inl ⟨by rw[HQ2.o];exact aYr HC2.o,rfl,HB.o⟩⟩
 ·have hs1:=aA (iP (s:=[40]) hw.o (by decide) hl)
  have HL:=aA hl
  clear hl hw
  go_wp2_with fail
  refine(fH HM0.o _ hs1.o).mono ?_
  rintro e V1 ⟨rfl,hb⟩
  have HB:=aA (bel HM0.o.old hb)
  clear hb
  go_wp2_with fail
  exact⟨rfl,.inl ⟨aFp HL.o,rfl,HB.o⟩⟩
end
section
open Go.RowKit Go.IntWalk Lx Pz
def CH (w:World)(b:Nat)(NM:List aM)(BS:List Int)(n:Nat):Prop:=∀(W:World) (m:Mm) (T:List Tok) (NS:List Nd),T.length < n->NS.length+T.length<=2000->Rd w W b m T NM BS NS ->
 Calls Tryz.prog 110 #[ptr b] W fun e W'=>∃ res,R NM (.at 0) (T.map ab) res/\Ok w W b T NM BS NS res e W'
theorem aR8 {s:aM}(h:bG s≠0):lW (bG s)=(tF (bG s):Int):=by
 unfold bG at h ⊢
 split
 ·rfl
 split
 ·rfl
 split
 ·rfl
 split
 ·rfl
 split
 ·rfl
 split
 ·rfl
 ·rename_i h1 h2 h3 h4 h5 h6
  rw[if_neg h1,if_neg h2,if_neg h3,if_neg h4,if_neg h5,if_neg h6] at h
  exact absurd rfl h
abbrev prt (es:List E)(s:Nat):Array Value:=#[.i (p1 es s),.i (p2 es s),.i (p3 es s)]
theorem aFv {es:List E}(h:es.length < 3)(a:E)(s:Nat):(prt es s).setIfInBounds es.length (.i ((s+bZ es+a.size:Nat)-1:Int))=prt (es++[a]) s:=by
 match es,h with
 | [],_=>simp[prt,p1,p2,p3,bZ]
 | [b],_=>simp[prt,p1,p2,p3,bZ]
 | [b,c],_=>simp[prt,p1,p2,p3,bZ,Nat.add_assoc]
 | _::_::_::_,h=>simp at h;omega
theorem aSh {w W:World}{b n:Nat}{m:Mm}{T:List Tok}{NM:List aM}{BS:List Int}{NS:List Nd}(hch:CH w b NM BS n)(h:Rd w W b m T NM BS NS)(hT:T.length<=n)(hN:NS.length+T.length<=1999)(s:aM)(hs:bG s≠0) :
  Calls Tryz.prog 364 #[ptr b,.i (bG s)] W fun e W'=>∃ res,R NM (.at 8) (.word s::T.map ab) res/\Ok w W b T NM BS NS res e W':=by
 have HC:=aA hch
 have HS:=aA hs
 have hw:=aA h.wf
 have HA:=aA fun V=>bQ (bG s) V
 rw[aR8 hs] at HA
 have HAR:=aA (tV hs)
 have HP0:=aA (Pl.begin h 276 (prt [] NS.length))
 obtain⟨o,ho⟩:∃ o,bG s=o:=⟨_,rfl⟩
 obtain⟨A,hA⟩:∃ A,tF (bG s)=A:=⟨_,rfl⟩
 have HO:=aA ho
 have HAA:=aA hA
 rw[hA] at HA HAR
 rw[ho] at HA ⊢
 have hA3:A<=3:=by have:=HAR.o;omega
 have hA1:1<=A:=by have:=HAR.o;omega
 clear h hs ho hA hch
 go_enter Tryz.func364,Tryz.ntmps364
 go_upto_region 2 with fail
 obtain⟨q,hq⟩:∃ q,W.heap.size=q:=⟨_,rfl⟩
 rw[hq] at HP0 ⊢
 generalize hV0:W.alloc (.cells (prt [] NS.length) 276)=V0 at HP0
 rw[show W.alloc (.cells #[.i 0,.i 0,.i 0] 276)=V0 from hV0]
 clear hq hV0
 obtain⟨m0,hm0⟩:=HP0.o.rd
 have HM0:=aA hm0
 clear hm0
 by_cases hl:(T.map ab).head?=some .lp
 ·obtain⟨t1,T1,rfl,h1⟩:=dF hl
  have hs1:=aA ((bN (hw.o t1 (by simp)) (s:=[40]) (by decide)).2 h1)
  have H1:=aA (show (t1::T1).map ab=.lp::T1.map ab by rw[lMc,h1])
  rw[lLc] at hT hN
  clear hl h1 hw
  go_wp2_with fail
  refine(dY HM0.o _ hs1.o).mono ?_
  rintro e V1 ⟨rfl,hR,hk⟩
  have HP:=aA (HP0.o.step (by decide) hR hk)
  clear hR hk HP0 HM0
  go_wp2_with fail
  refine(HA.o _).mono ?_
  rintro e V2 ⟨rfl,rfl⟩
  go_wp2_with fail
  go_loopw [11] (fun k V=>∃(i:Nat) (es:List E) (P T':List Tok),i<=A/\k=.i i/\Hid (es.length=i)/\Hid (T1=P++T')/\Hid (AR NM (T1.map ab) es (T'.map ab))/\Hid (Pl w W V b T' NM BS (NS++jL es NS.length) q 276 (prt es NS.length))) (fun k _=>A-(intOf k).toNat)
  case atStart=>exact⟨0,[],[],T1,by omega,rfl,aA rfl,aA rfl,aA AR.nil,aA (by simpa [jL] using HP.o)⟩
  case round =>
   obtain⟨i,es,P,T',hi,rfl,HL,HT,HR,HPl⟩:=hrel
   have HLn:=aA HR.o.len
   have hTl:T'.length<=T1.length:=by rw[HT.o,lLa];omega
   rename World=>V3
   obtain⟨m3,hm3⟩:=HPl.o.rd
   have HM3:=aA hm3
   have hw3:=aA hm3.wf
   clear hm3
   by_cases hlt:i < A
   ·have hlt3:i < 3:=by omega
    by_cases h0:i=0
    ·subst h0
     have hes:es=[]:=List.length_eq_zero_iff.1 HL.o
     have HE:=aA hes
     clear hes
     go_wp2_with fail
     refine(HC.o V3 m3 T' (NS++jL es NS.length) (by omega) (by rw[lLa,dD];have:=HLn.o;simp at this;omega) HM3.o).mono ?_
     rintro e V5 ⟨res,hres,(⟨rfl,rfl,hb⟩|⟨a,P5,T5,rfl,hsp,rfl,hR,hk⟩)⟩
     ·have HB:=aA hb
      have HN:=aA hres
      clear hb hres
      go_wp2_with fail
      exact⟨rfl,none,by rw[H1.o];exact HR.o.no_part (by rw[HAA.o,HL.o];exact hlt) (.inl ⟨HE.o,rfl⟩) HN.o,.inl ⟨rfl,rfl,HB.o⟩⟩
     ·have HRES:=aA hres
      have HSP:=aA hsp
      have HP5:=aA (HPl.o.step (by decide) hR hk)
      have e5:(NS++jL es NS.length).length=NS.length+bZ es:=by rw[lLa,dD]
      rw[e5,lAa,<-uC] at HP5
      rw[e5]
      obtain⟨d0,d1,d2⟩:=jA HP5.o.va
      obtain⟨y0,y1,y2⟩:=aA8 HP5.o.va
      have HP6:=aA (HP5.o.store (by decide) es.length (.i ((NS.length+bZ es+a.size:Nat)-1:Int)))
      rw[aFv (by rw[HL.o];omega),HL.o] at HP6
      generalize (((NS.length+bZ es+a.size:Nat):Int)-1)=z at HP6 ⊢
      clear hR hk hres hsp e5
      go_upto_region 9 with fail
      generalize V5.setCell ⟨q,0,none⟩ (.i z)=V6 at HP6 ⊢
      clear d0 d1 d2 y0 y1 y2
      go_wp2_with fail
      go_roundw
      case rel=>exact⟨1,es++[a],P++P5,T5,by omega,rfl,aA (by simp[HL.o]),aA (by rw[HT.o,HSP.o,lAa]),aA (by rw[HE.o] at HR ⊢;rw[<-HR.o.nil_inv];exact AR.one HRES.o),HP6⟩
      case measure=>simp[intOf];omega
    ·have hpos:(0:Int) < i:=by omega
     have HNE:=aA (show es≠[] from fun e=>by have:=HL.o;rw[e] at this;simp at this;omega)
     by_cases hc:(T'.map ab).head?=some .comma
     ·obtain⟨t4,T4,rfl,h4⟩:=dF hc
      have hs4:=aA ((bN (hw3.o t4 (by simp)) (s:=[44]) (by decide)).2 h4)
      have H4:=aA (show (t4::T4).map ab=.comma::T4.map ab by rw[lMc,h4])
      rw[lLc] at hTl
      clear hc h4 hw3 h0
      go_wp2_with fail
      refine(dY HM3.o _ hs4.o).mono ?_
      rintro e V4 ⟨rfl,hR,hk⟩
      have HP4:=aA (HPl.o.step (by decide) hR hk)
      clear hR hk HPl HM3
      obtain⟨m4,hm4⟩:=HP4.o.rd
      have HM4:=aA hm4
      clear hm4
      go_wp2_with fail
      refine(HC.o V4 m4 T4 (NS++jL es NS.length) (by omega) (by rw[lLa,dD];have:=HLn.o;simp at this;omega) HM4.o).mono ?_
      rintro e V5 ⟨res,hres,(⟨rfl,rfl,hb⟩|⟨a,P5,T5,rfl,hsp,rfl,hR,hk⟩)⟩
      ·have HB:=aA hb
       have HN:=aA hres
       clear hb hres
       go_wp2_with fail
       exact⟨rfl,none,by rw[H1.o];exact HR.o.no_part (by rw[HAA.o,HL.o];exact hlt) (.inr ⟨HNE.o,H4.o⟩) HN.o,.inl ⟨rfl,rfl,HB.o⟩⟩
      ·have HRES:=aA hres
       have HSP:=aA hsp
       have HP5:=aA (HP4.o.step (by decide) hR hk)
       have e5:(NS++jL es NS.length).length=NS.length+bZ es:=by rw[lLa,dD]
       rw[e5,lAa,<-uC] at HP5
       rw[e5]
       obtain⟨d0,d1,d2⟩:=jA HP5.o.va
       obtain⟨y0,y1,y2⟩:=aA8 HP5.o.va
       have HP6:=aA (HP5.o.store (by decide) es.length (.i ((NS.length+bZ es+a.size:Nat)-1:Int)))
       rw[aFv (by rw[HL.o];omega),HL.o] at HP6
       generalize (((NS.length+bZ es+a.size:Nat):Int)-1)=z at HP6 ⊢
       clear hR hk hres hsp e5
       have hi0:(0:Int)<=i:=by omega
       have hi3:(i:Int) < 3:=by omega
       have hlt2:i < 3:=by omega
       have HC5:=aA HP5.o.va
       have di:∃ u,V5.cell? ⟨q,i,none⟩=some u:=by
        rcases(show i=0\/i=1\/i=2 by omega) with rfl|rfl|rfl
        ·exact⟨_,d0⟩
        ·exact⟨_,d1⟩
        ·exact⟨_,d2⟩
       obtain⟨u,di⟩:=di
       have yi:V5.frozen? ⟨q,i,none⟩=false:=HC5.o.frozen i
       clear d0 d1 d2 y0 y1 y2
       go_upto_region 9 with fail
       generalize V5.setCell ⟨q,i,none⟩ (.i z)=V6 at HP6 ⊢
       clear di yi
       go_wp2_with fail
       go_roundw
       case rel=>exact⟨i+1,es++[a],P++t4::P5,T5,by omega,by go_num,aA (by simp[HL.o]),aA (by rw[HT.o,HSP.o];simp),aA (AR.more HNE.o (by rw[<-H4.o];exact HR.o) HRES.o),HP6⟩
       case measure=>simp[intOf];omega
     ·have hs4:=aA (iP (s:=[44]) hw3.o (by decide) hc)
      have HCM:=aA hc
      clear hc hw3 h0
      go_wp2_with fail
      refine(fH HM3.o _ hs4.o).mono ?_
      rintro e V4 ⟨rfl,hb⟩
      have HB:=aA (bel HM3.o.old hb)
      clear hb
      go_wp2_with fail
      exact⟨rfl,none,by rw[H1.o];exact HR.o.no_comma (by rw[HL.o];omega) (by rw[HAA.o,HL.o];exact hlt) HCM.o,.inl ⟨rfl,rfl,HB.o⟩⟩
   ·obtain rfl:i=A:=by omega
    by_cases hr:(T'.map ab).head?=some .rp
    ·obtain⟨t8,T8,rfl,h8⟩:=dF hr
     have hs8:=aA ((bN (hw3.o t8 (by simp)) (s:=[41]) (by decide)).2 h8)
     have H8:=aA (show (t8::T8).map ab=.rp::T8.map ab by rw[lMc,h8])
     clear hr h8 hw3
     go_wp2_with fail
     refine(dY HM3.o _ hs8.o).mono ?_
     rintro e V8 ⟨rfl,hR,hk⟩
     have HP8:=aA (HPl.o.step (by decide) hR hk)
     clear hR hk HPl HM3
     obtain⟨m8,hm8⟩:=HP8.o.rd
     have HM8:=aA hm8
     clear hm8
     obtain⟨d0,d1,d2⟩:=jA HP8.o.va
     go_wp2_with fail
     refine(fM HM8.o ⟨o,p1 es NS.length,p2 es NS.length,p3 es NS.length,0,0,0,0,0⟩ (by rw[lLa,dD];have:=HLn.o;simp at this;omega)).mono ?_
     rintro e V9 ⟨rfl,hR,hk⟩
     have hfl:=aO2 (o:=o) (es:=es) (by rw[HL.o];exact HAR.o) NS.length
     rw[lAa,<-hfl.1] at hR
     have HZ:=aA hfl.2
     have HR9:=aA hR
     have HK9:=aA (HP8.o.kp.trans hk)
     rw[show (NS++jL es NS.length).length=NS.length+bZ es by rw[lLa,dD]]
     clear hR hk d0 d1 d2 hfl
     go_wp2_with fail
     go_ret
     refine⟨some (mkE o es,T8.map ab),?_,.inr ⟨mkE o es,t1::(P++[t8]),T8,rfl,by rw[HT.o];simp,aO (by rw[HZ.o];omega),HR9.o,HK9.o⟩⟩
     have:=HR.o.ends (s:=s) (by rw[HL.o];omega) (by rw[HL.o,HAA.o])
     rw[H8.o,dV,HO.o] at this
     rw[H1.o]
     exact this
    ·have hs8:=aA (iP (s:=[41]) hw3.o (by decide) hr)
     have HRP:=aA hr
     clear hr hw3
     go_wp2_with fail
     refine(fH HM3.o _ hs8.o).mono ?_
     rintro e V8 ⟨rfl,hb⟩
     have HB:=aA (bel HM3.o.old hb)
     clear hb
     go_wp2_with fail
     refine⟨rfl,none,?_,.inl ⟨rfl,rfl,HB.o⟩⟩
     have:=HR.o.ends (s:=s) (by rw[HL.o];omega) (by rw[HL.o,HAA.o])
     rw[uZ HRP.o] at this
     rw[H1.o]
     exact this
 ·have hs1:=aA (iP (s:=[40]) hw.o (by decide) hl)
  have HL:=aA hl
  clear hl hw
  go_wp2_with fail
  refine(fH HM0.o _ hs1.o).mono ?_
  rintro e V1 ⟨rfl,hb⟩
  have HB:=aA (bel HM0.o.old hb)
  clear hb
  go_wp2_with fail
  exact⟨rfl,none,R.callx HS.o HL.o,.inl ⟨rfl,rfl,HB.o⟩⟩
end
open Go.RowKit Go.IntWalk Lx Pz
variable {W w:World} {b n:Nat} {BS:List Int}
theorem Ok.cons {W1:World}{t:Tok}{T:List Tok}{NM:List aM}{NS:List Nd}{res:Option (E × List Tk)}{e:Ending}{W':World}(h:Ok w W1 b T NM BS NS res e W')(hk:Kp SX W W1):Ok w W b (t::T) NM BS NS res e W':=by
 rcases h with h|⟨ex,P,T',h1,h2,h3,h4,h5⟩
 ·exact .inl h
 ·exact .inr ⟨ex,t::P,T',h1,by rw[h2];rfl,h3,h4,hk.trans h5⟩
theorem bB5 {nm:List aM}{s:aM}(h:0<=inK s):wd nm s=some (.leaf (lf 2 (inK s) 0 0 0 0)):=by unfold wd;rw[if_pos h]
theorem aZx {nm:List aM}{s:aM}(h:¬0<=inK s):wd nm s=if nm.contains s then some (.leaf (lf 4 (pos nm s) 0 0 0 0)) else none:=by unfold wd;rw[if_neg h]
theorem aVu {m:Mm}{t:Tok}{T:List Tok}{NM:List aM}{NS:List Nd}(hch:CH w b NM BS n)(h:Rd w W b m (t::T) NM BS NS)(hT:T.length<=n)(hN:NS.length+T.length<=1999)(s:aM)(hs:ab t=.word s) :
  Calls Tryz.prog 338 #[ptr b] W fun e W'=>∃ res,R NM (.at 8) ((t::T).map ab) res/\Ok w W b (t::T) NM BS NS res e W':=by
 have HC:=aA hch
 have HW:=aA h
 have F1:=aEv
 have hwf:=h.wf t (by simp)
 obtain⟨-,hw2,hts⟩:=aOl hwf hs
 have H1:=aA (show (t::T).map ab=.word s::T.map ab by rw[lMc,hs])
 rw[hts] at hw2
 have HTS:=aA hts
 have HWR:=aA hw2
 clear h hch hwf hw2 hts hs
 by_cases hp:s=wP
 ·subst hp
  go_enter Tryz.func338,Tryz.ntmps338
  go_wp2_with fail
  refine(eG HW.o).mono ?_
  rintro e V1 ⟨rfl,⟨m1,hR⟩,hk⟩
  have HR:=aA hR
  have HK:=aA hk
  rw[HTS.o,show sB wP=⟨#[112]⟩ from rfl]
  clear hR hk
  go_wp2_with fail
  refine(aUh HR.o (by omega)).mono ?_
  rintro e V2 hok
  have HOK:=aA (hok.cons (t:=t) HK.o)
  have HD:=aA (show R NM (.at 8) ((t::T).map ab) (wR false (T.map ab)) by rw[H1.o];exact R.place (.inl rfl))
  rcases hok with⟨-,rfl,-⟩|⟨ex,-,-,-,-,rfl,-⟩
  ·go_wp2_with fail
   exact⟨rfl,_,HD.o,HOK.o⟩
  ·go_wp2_with fail
   go_ret
   exact⟨_,HD.o,HOK.o⟩
 by_cases hq:s=wQ
 ·subst hq
  clear hp
  go_enter Tryz.func338,Tryz.ntmps338
  go_wp2_with fail
  refine(eG HW.o).mono ?_
  rintro e V1 ⟨rfl,⟨m1,hR⟩,hk⟩
  have HR:=aA hR
  have HK:=aA hk
  rw[HTS.o,show sB wQ=⟨#[113]⟩ from rfl]
  clear hR hk
  go_wp2_with fail
  refine(aUi HR.o (by omega)).mono ?_
  rintro e V2 hok
  have HOK:=aA (hok.cons (t:=t) HK.o)
  have HD:=aA (show R NM (.at 8) ((t::T).map ab) (wR true (T.map ab)) by rw[H1.o];exact R.place (.inr rfl))
  rcases hok with⟨-,rfl,-⟩|⟨ex,-,-,-,-,rfl,-⟩
  ·go_wp2_with fail
   exact⟨rfl,_,HD.o,HOK.o⟩
  ·go_wp2_with fail
   go_ret
   exact⟨_,HD.o,HOK.o⟩
 have kp:((sB s).toList==[112])=false:=by rw[iV,iB];simpa [wP] using hp
 have kq:((sB s).toList==[113])=false:=by rw[iV,iB];simpa [wQ] using hq
 have HP:=aA hp
 have HQ:=aA hq
 have HCa:=aA fun V=>xV (sB s) V
 have HIn:=aA fun V=>gQ (sB s) V
 rw[iB] at HCa HIn
 clear hp hq
 by_cases hc:bG s=0
 ·have HCz:=aA hc
  rw[hc] at HCa
  by_cases hi:0<=inK s
  ·have HWD:=aA (bB5 (nm:=NM) hi)
   obtain⟨k,hkk⟩:∃ k,inK s=k:=⟨_,rfl⟩
   rw[hkk] at HIn HWD hi
   clear hc hkk
   generalize hu:sB s=u at kp kq HCa HIn
   have HU:=aA hu
   clear hu
   go_enter Tryz.func338,Tryz.ntmps338
   go_wp2_with fail
   refine(eG HW.o).mono ?_
   rintro e V1 ⟨rfl,⟨m1,hR⟩,hk⟩
   have HR:=aA hR
   have HK:=aA hk
   rw[HTS.o,HU.o]
   clear hR hk
   go_wp2_with fail
   refine(HCa.o _).mono ?_
   rintro e V2 ⟨rfl,rfl⟩
   go_wp2_with fail
   refine(HIn.o _).mono ?_
   rintro e V2 ⟨rfl,rfl⟩
   go_wp2_with fail
   refine(fM HR.o (lf 2 k 0 0 0 0) (by omega)).mono ?_
   rintro e V3 ⟨rfl,hR,hk⟩
   have HR3:=aA hR
   have HK3:=aA (HK.o.trans hk)
   clear hR hk
   go_wp2_with fail
   go_ret
   refine⟨some (.leaf (lf 2 k 0 0 0 0),T.map ab),?_,.inr ⟨.leaf (lf 2 k 0 0 0 0),[t],T,rfl,rfl,lT _ rfl,HR3.o,HK3.o⟩⟩
   have:=R.word (nm:=NM) (l:=T.map ab) HP.o HQ.o HCz.o
   rw[HWD.o] at this
   rw[H1.o];exact this
  ·have HWD:=aA (aZx (nm:=NM) hi)
   obtain⟨k,hkk⟩:∃ k,inK s=k:=⟨_,rfl⟩
   rw[hkk] at HIn hi
   have hi':k < 0:=by omega
   clear hc hkk hi
   have HIx:=aA (show ∀(V:World) (a:Option Addr) (n cap:Nat),Tx V a n cap NM->Calls Tryz.prog 257 #[.slice a n cap,.string (sB s)] V fun e W'=>e=.returned (.i (ixZ NM s))/\W'=V from fun V a n cap hx=>by
    have:=aBc hx (sB s)
    rw[iB] at this
    exact this)
   cases hct:NM.contains s with
   | true =>
    rw[hct,if_pos rfl] at HWD
    rw[show ixZ NM s=(pos NM s:Int) by unfold ixZ;rw[hct];rfl] at HIx
    generalize pos NM s=z at HWD HIx
    generalize hu:sB s=u at kp kq HCa HIn HIx
    have HU:=aA hu
    clear hu hct
    go_enter Tryz.func338,Tryz.ntmps338
    go_wp2_with fail
    refine(eG HW.o).mono ?_
    rintro e V1 ⟨rfl,⟨m1,hR⟩,hk⟩
    have HR:=aA hR
    have HK:=aA hk
    rw[HTS.o,HU.o]
    clear hR hk
    obtain⟨a1,cap1,hn1,hTx⟩:=Tx.of_owns HR.o.names
    have HTx:=aA hTx
    have c1:V1.cell? ⟨b,1,none⟩=some (.slice a1 NM.length cap1):=by rw[<-hn1];exact HR.o.blk.cell 1 rfl
    clear hTx hn1
    go_wp2_with fail
    refine(HCa.o _).mono ?_
    rintro e V2 ⟨rfl,rfl⟩
    go_wp2_with fail
    refine(HIn.o _).mono ?_
    rintro e V2 ⟨rfl,rfl⟩
    go_wp2_with fail
    refine(HIx.o _ _ _ _ HTx.o).mono ?_
    rintro e V2 ⟨rfl,rfl⟩
    go_wp2_with fail
    refine(fM HR.o (lf 4 z 0 0 0 0) (by omega)).mono ?_
    rintro e V3 ⟨rfl,hR,hk⟩
    have HR3:=aA hR
    have HK3:=aA (HK.o.trans hk)
    clear hR hk
    go_wp2_with fail
    go_ret
    refine⟨some (.leaf (lf 4 z 0 0 0 0),T.map ab),?_,.inr ⟨.leaf (lf 4 z 0 0 0 0),[t],T,rfl,rfl,lT _ rfl,HR3.o,HK3.o⟩⟩
    have:=R.word (nm:=NM) (l:=T.map ab) HP.o HQ.o HCz.o
    rw[HWD.o] at this
    rw[H1.o];exact this
   | false =>
    rw[hct,if_neg (by decide)] at HWD
    rw[show ixZ NM s=-1 by unfold ixZ;rw[hct];rfl] at HIx
    generalize hu:sB s=u at kp kq HCa HIn HIx
    have HU:=aA hu
    clear hu hct
    go_enter Tryz.func338,Tryz.ntmps338
    go_wp2_with fail
    refine(eG HW.o).mono ?_
    rintro e V1 ⟨rfl,⟨m1,hR⟩,hk⟩
    have HR:=aA hR
    have HK:=aA hk
    rw[HTS.o,HU.o]
    clear hR hk
    obtain⟨a1,cap1,hn1,hTx⟩:=Tx.of_owns HR.o.names
    have HTx:=aA hTx
    have c1:V1.cell? ⟨b,1,none⟩=some (.slice a1 NM.length cap1):=by rw[<-hn1];exact HR.o.blk.cell 1 rfl
    clear hTx hn1
    go_wp2_with fail
    refine(HCa.o _).mono ?_
    rintro e V2 ⟨rfl,rfl⟩
    go_wp2_with fail
    refine(HIn.o _).mono ?_
    rintro e V2 ⟨rfl,rfl⟩
    go_wp2_with fail
    refine(HIx.o _ _ _ _ HTx.o).mono ?_
    rintro e V2 ⟨rfl,rfl⟩
    go_wp2_with fail
    refine⟨rfl,none,?_,.inl ⟨rfl,rfl,HR.o.old⟩⟩
    have:=R.word (nm:=NM) (l:=T.map ab) HP.o HQ.o HCz.o
    rw[HWD.o] at this
    rw[H1.o];exact this
 ·have HCz:=aA hc
  have HCl:=aA fun(V:World) (m:Mm) (h:Rd w V b m T NM BS NS)=>aSh HC.o h hT hN s hc
  have hne:(bG s==0)=false:=by simpa using hc
  obtain⟨o,ho⟩:∃ o,bG s=o:=⟨_,rfl⟩
  rw[ho] at HCa HCl hne
  clear hc ho HIn
  generalize hu:sB s=u at kp kq HCa
  have HU:=aA hu
  clear hu
  go_enter Tryz.func338,Tryz.ntmps338
  go_wp2_with fail
  refine(eG HW.o).mono ?_
  rintro e V1 ⟨rfl,⟨m1,hR⟩,hk⟩
  have HR:=aA hR
  have HK:=aA hk
  rw[HTS.o,HU.o]
  clear hR hk
  go_wp2_with fail
  refine(HCa.o _).mono ?_
  rintro e V2 ⟨rfl,rfl⟩
  go_wp2_with fail
  refine(HCl.o _ _ HR.o).mono ?_
  rintro e V2 ⟨res,hres,hok⟩
  have HOK:=aA (hok.cons (t:=t) HK.o)
  rw[<-H1.o] at hres
  have HD:=aA hres
  clear hres
  rcases hok with⟨-,rfl,-⟩|⟨ex,-,-,-,-,rfl,-⟩
  ·go_wp2_with fail
   exact⟨rfl,_,HD.o,HOK.o⟩
  ·go_wp2_with fail
   go_ret
   exact⟨_,HD.o,HOK.o⟩
theorem aKe {l:List Tk}(h1:∀ v,l.head?≠some (.num v))(h2:∀ s,l.head?≠some (.word s))(h3:l.head?≠some .lp)(h4:l.head?≠some (.op 5 9)):begins l=false:=by
 unfold begins
 split
 ·exact absurd rfl (h1 _)
 ·exact absurd rfl (h2 _)
 ·exact absurd rfl h3
 ·rename_i k o _
  simp only[decide_eq_false_iff_not]
  rintro⟨rfl,rfl⟩
  exact h4 rfl
 ·rfl
theorem zW {m:Mm}{T:List Tok}{NM:List aM}{NS:List Nd}(hch:CH w b NM BS n)(h:Rd w W b m T NM BS NS)(hT:T.length<=n)(hN:NS.length+T.length<=2000)(hm:(T.map ab).head?≠some (.op 5 9)) :
  Calls Tryz.prog 308 #[ptr b] W fun e W'=>∃ res,R NM (.at 8) (T.map ab) res/\Ok w W b T NM BS NS res e W':=by
 have HC:=aA hch
 have HW:=aA h
 have hw:=aA h.wf
 have F0:=bAj
 have HM:=aA hm
 clear h hch hm
 by_cases h1:∃ v,(T.map ab).head?=some (.num v)
 ·obtain⟨v,h1⟩:=h1
  obtain⟨t,T1,rfl,ht⟩:=dF h1
  obtain⟨hk1,-,-⟩:=aOk (hw.o t (by simp)) ht
  have H1:=aA (show (t::T1).map ab=.num v::T1.map ab by rw[lMc,ht])
  have HK1:=aA hk1
  have HV:=aA ht
  rw[lLc] at hT hN
  clear h1 ht hk1 HM
  go_enter Tryz.func308,Tryz.ntmps308
  go_wp2_with fail
  refine(fO HW.o).mono ?_
  rintro e V1 ⟨rfl,hb⟩
  rw[show (hd (t::T1)).kind=1 from HK1.o]
  have HR:=aA (HW.o.later hb)
  have HK:=aA (Kp.of_below SX hb)
  generalize sB (hd (t::T1)).text=u
  generalize ((hd (t::T1)).pos:Int)=p
  clear hb
  go_wp2_with fail
  refine(rA HR.o).mono ?_
  rintro e V2 (⟨hn,rfl,hb⟩|⟨v',t2,T2,he,hv,rfl,hR,hk⟩)
  ·exact absurd (H1.o) (hn v _)
  ·obtain⟨rfl,rfl⟩:t=t2/\T1=T2:=by simpa using he
   obtain rfl:v=v':=by have:=HV.o.symm.trans hv;simpa using this
   obtain⟨m2,hm2⟩:=hR
   have HR2:=aA hm2
   have HK2:=aA (HK.o.trans hk)
   clear hm2 hk hv he
   go_wp2_with fail
   refine(fM HR2.o (lf 1 v 0 0 0 0) (by omega)).mono ?_
   rintro e V3 ⟨rfl,hR,hk⟩
   have HR3:=aA hR
   have HK3:=aA (HK2.o.trans hk)
   clear hR hk
   go_wp2_with fail
   go_ret
   exact⟨some (.leaf (lf 1 v 0 0 0 0),T1.map ab),by rw[H1.o];exact R.num v _,.inr ⟨.leaf (lf 1 v 0 0 0 0),[t],T1,rfl,rfl,lT _ rfl,HR3.o,HK3.o⟩⟩
 by_cases h2:∃ s,(T.map ab).head?=some (.word s)
 ·obtain⟨s,h2⟩:=h2
  obtain⟨t,T1,rfl,ht⟩:=dF h2
  obtain⟨hk1,-,-⟩:=aOl (hw.o t (by simp)) ht
  have HK1:=aA hk1
  have HV:=aA ht
  rw[lLc] at hT hN
  clear h1 h2 ht hk1 HM
  go_enter Tryz.func308,Tryz.ntmps308
  go_wp2_with fail
  refine(fO HW.o).mono ?_
  rintro e V1 ⟨rfl,hb⟩
  rw[show (hd (t::T1)).kind=2 from HK1.o]
  have HR:=aA (HW.o.later hb)
  have HK:=aA (Kp.of_below SX hb)
  generalize sB (hd (t::T1)).text=u
  generalize ((hd (t::T1)).pos:Int)=p
  clear hb
  go_wp2_with fail
  refine(aVu HC.o HR.o (by omega) (by omega) s HV.o).mono ?_
  rintro e V2 ⟨res,hres,hok⟩
  have HOK:=aA (show Ok w W b (t::T1) NM BS NS res e V2 from by
   rcases hok with h|⟨ex,P,T',h1,h2,h3,h4,h5⟩
   ·exact .inl h
   ·exact .inr ⟨ex,P,T',h1,h2,h3,h4,HK.o.trans h5⟩)
  have HD:=aA hres
  clear hres
  rcases hok with⟨-,rfl,-⟩|⟨ex,-,-,-,-,rfl,-⟩
  ·go_wp2_with fail
   exact⟨rfl,_,HD.o,HOK.o⟩
  ·go_wp2_with fail
   go_ret
   exact⟨_,HD.o,HOK.o⟩
 have hk3:((hd T).kind==1)=false/\((hd T).kind==2)=false:=by
  cases T with
  | nil=>decide
  | cons t T =>
   have:t.kind=3:=lI (hw.o t (by simp)) (fun v e=>h1 ⟨v,by simp[e]⟩) (fun s e=>h2 ⟨s,by simp[e]⟩)
   show (t.kind==1)=false/\(t.kind==2)=false
   rw[this];decide
 obtain⟨k1,k2⟩:=hk3
 have H1:=aA h1
 have H2:=aA h2
 clear h1 h2
 by_cases hl:(T.map ab).head?=some .lp
 ·obtain⟨t1,T1,rfl,h1⟩:=dF hl
  have hs1:=aA ((bN (hw.o t1 (by simp)) (s:=[40]) (by decide)).2 h1)
  have HE:=aA (show (t1::T1).map ab=.lp::T1.map ab by rw[lMc,h1])
  rw[lLc] at hT hN
  clear hl h1 hw HM
  go_enter Tryz.func308,Tryz.ntmps308
  go_wp2_with fail
  refine(fO HW.o).mono ?_
  rintro e V1 ⟨rfl,hb⟩
  have HR:=aA (HW.o.later hb)
  have HK:=aA (Kp.of_below SX hb)
  generalize sB (hd (t1::T1)).text=u
  generalize ((hd (t1::T1)).pos:Int)=p
  generalize (hd (t1::T1)).kind=kk at k1 k2 ⊢
  clear hb
  go_wp2_with fail
  refine(dY HR.o _ hs1.o).mono ?_
  rintro e V2 ⟨rfl,⟨m2,hR⟩,hk⟩
  have HR2:=aA hR
  have HK2:=aA (HK.o.trans hk)
  clear hR hk
  go_wp2_with fail
  refine(HC.o _ _ T1 NS (by omega) (by omega) HR2.o).mono ?_
  rintro e V3 ⟨res,hres,(⟨rfl,rfl,hb⟩|⟨ex,P3,T3,rfl,hsp,rfl,⟨m3,hR⟩,hk⟩)⟩
  ·have HB:=aA hb
   have HN:=aA hres
   clear hb hres
   go_wp2_with fail
   exact⟨rfl,none,by rw[HE.o];exact R.par HN.o,.inl ⟨rfl,rfl,HB.o⟩⟩
  ·have HRES:=aA hres
   have HSP:=aA hsp
   have HR3:=aA hR
   have HK3:=aA (HK2.o.trans hk)
   have hw3:=aA hR.wf
   clear hres hsp hR hk
   obtain⟨z,hz⟩:∃ z:Int,((NS.length+ex.size:Nat):Int)-1=z:=⟨_,rfl⟩
   rw[hz]
   have HZ:=aA hz
   clear hz
   by_cases hr:(T3.map ab).head?=some .rp
   ·obtain⟨t8,T8,rfl,h8⟩:=dF hr
    have hs8:=aA ((bN (hw3.o t8 (by simp)) (s:=[41]) (by decide)).2 h8)
    have H8:=aA (show (t8::T8).map ab=.rp::T8.map ab by rw[lMc,h8])
    clear hr h8 hw3
    go_wp2_with fail
    refine(dY HR3.o _ hs8.o).mono ?_
    rintro e V8 ⟨rfl,hR,hk⟩
    have HR8:=aA hR
    have HK8:=aA (HK3.o.trans hk)
    clear hR hk
    go_wp2_with fail
    go_ret
    refine⟨some (ex,T8.map ab),?_,.inr ⟨ex,t1::(P3++[t8]),T8,rfl,by rw[HSP.o];simp,?_,HR8.o,HK8.o⟩⟩
    ·have:=R.par HRES.o
     rw[H8.o,dV] at this
     rw[HE.o];exact this
    ·exact aO HZ.o.symm
   ·have hs8:=aA (iP (s:=[41]) hw3.o (by decide) hr)
    have HRP:=aA hr
    clear hr hw3
    go_wp2_with fail
    refine(fH HR3.o _ hs8.o).mono ?_
    rintro e V8 ⟨rfl,hb⟩
    have HB:=aA (bel HR3.o.old hb)
    clear hb
    go_wp2_with fail
    refine⟨rfl,none,?_,.inl ⟨rfl,rfl,HB.o⟩⟩
    have:=R.par HRES.o
    rw[uZ HRP.o] at this
    rw[HE.o];exact this
 ·have hs1:=aA (iP (s:=[40]) hw.o (by decide) hl)
  have HL:=aA hl
  clear hl hw
  go_enter Tryz.func308,Tryz.ntmps308
  go_wp2_with fail
  refine(fO HW.o).mono ?_
  rintro e V1 ⟨rfl,hb⟩
  have HR:=aA (HW.o.later hb)
  generalize sB (hd T).text=u
  generalize ((hd T).pos:Int)=p
  generalize (hd T).kind=kk at k1 k2 ⊢
  clear hb
  go_wp2_with fail
  refine(fH HR.o _ hs1.o).mono ?_
  rintro e V2 ⟨rfl,hb⟩
  have HB:=aA (bel HR.o.old hb)
  clear hb
  go_wp2_with fail
  exact⟨rfl,none,R.bad (aKe (fun v e=>H1.o ⟨v,e⟩) (fun s e=>H2.o ⟨s,e⟩) HL.o HM.o),.inl ⟨rfl,rfl,HB.o⟩⟩
theorem Ok.kp {W1:World}{T:List Tok}{NM:List aM}{NS:List Nd}{res:Option (E × List Tk)}{e:Ending}{W':World}(h:Ok w W1 b T NM BS NS res e W')(hk:Kp SX W W1):Ok w W b T NM BS NS res e W':=by
 rcases h with h|⟨ex,P,T',h1,h2,h3,h4,h5⟩
 ·exact .inl h
 ·exact .inr ⟨ex,P,T',h1,h2,h3,h4,hk.trans h5⟩
theorem aO0 {NM:List aM}(hch:CH w b NM BS n):∀(T:List Tok) (W:World) (m:Mm) (NS:List Nd),T.length<=n->NS.length+T.length<=2000->Rd w W b m T NM BS NS ->
  Calls Tryz.prog 258 #[ptr b] W fun e W'=>∃ res,R NM (.at 8) (T.map ab) res/\Ok w W b T NM BS NS res e W':=by
 intro T
 induction T with
 | nil =>
  intro W m NS hT hN h
  have HC:=aA hch
  have HW:=aA h
  clear h hch
  go_enter Tryz.func258,Tryz.ntmps258
  go_wp2_with fail
  refine(mI HW.o _ (by decide)).mono ?_
  rintro e V1 ⟨rfl,hb⟩
  have HR:=aA (HW.o.later hb)
  have HK:=aA (Kp.of_below SX hb)
  clear hb
  go_wp2_with fail
  refine(zW HC.o HR.o hT hN (by simp)).mono ?_
  rintro e V2 ⟨res,hres,hok⟩
  have HOK:=aA (hok.kp HK.o)
  have HD:=aA hres
  clear hres
  rcases hok with⟨-,rfl,-⟩|⟨ex,-,-,-,-,rfl,-⟩
  ·go_wp2_with fail
   exact⟨rfl,_,HD.o,HOK.o⟩
  ·go_wp2_with fail
   go_ret
   exact⟨_,HD.o,HOK.o⟩
 | cons t T ih =>
  intro W m NS hT hN h
  have HC:=aA hch
  have HI:=aA ih
  have HW:=aA h
  have hw:=h.wf
  clear h hch ih
  rw[lLc] at hT hN
  by_cases hm:((t::T).map ab).head?=some (.op 5 9)
  ·have ht:ab t=.op 5 9:=by simpa using hm
   have hs:=aA ((bN (hw t (by simp)) (s:=[45]) (by decide)).2 ht)
   have HE:=aA (show (t::T).map ab=.op 5 9::T.map ab by rw[lMc,ht])
   clear hm ht hw
   go_enter Tryz.func258,Tryz.ntmps258
   go_wp2_with fail
   refine(lQ HW.o _ hs.o).mono ?_
   rintro e V1 ⟨rfl,⟨m1,hR⟩,hk⟩
   have HR:=aA hR
   have HK:=aA hk
   clear hR hk
   go_wp2_with fail
   refine(HI.o _ _ NS (by omega) (by omega) HR.o).mono ?_
   rintro e V2 ⟨res,hres,(⟨rfl,rfl,hb⟩|⟨ex,P3,T3,rfl,hsp,rfl,⟨m3,hR⟩,hk⟩)⟩
   ·have HB:=aA hb
    have HN:=aA hres
    clear hb hres
    go_wp2_with fail
    exact⟨rfl,none,by rw[HE.o];exact R.neg HN.o,.inl ⟨rfl,rfl,HB.o⟩⟩
   ·have HRES:=aA hres
    have HSP:=aA hsp
    have HR3:=aA hR
    have HK3:=aA (HK.o.trans hk)
    have hsz:NS.length+ex.size<=2000:=by have:=qI hres;simp at this;omega
    clear hres hsp hR hk
    go_wp2_with fail
    refine(fM HR3.o ⟨5,((NS.length+ex.size:Nat):Int)-1,0,0,0,0,0,0,0⟩ (by rw[lLa,E.flat_len];omega)).mono ?_
    rintro e V4 ⟨rfl,hR,hk⟩
    rw[lAa,show ex.flat NS.length++[⟨5,((NS.length+ex.size:Nat):Int)-1,0,0,0,0,0,0,0⟩]=(E.un 5 ex).flat NS.length from rfl] at hR
    have HR4:=aA hR
    have HK4:=aA (HK3.o.trans hk)
    rw[show (NS++ex.flat NS.length).length=NS.length+ex.size by rw[lLa,E.flat_len]]
    clear hR hk
    go_wp2_with fail
    go_ret
    exact⟨some (.un 5 ex,T3.map ab),by rw[HE.o];exact R.neg HRES.o,.inr ⟨.un 5 ex,t::P3,T3,rfl,by rw[HSP.o];rfl,aO (by simp[E.size];omega),HR4.o,HK4.o⟩⟩
  ·have hs:=aA (iP (s:=[45]) hw (by decide) hm)
   have HM:=aA hm
   clear hm hw
   go_enter Tryz.func258,Tryz.ntmps258
   go_wp2_with fail
   refine(mI HW.o _ hs.o).mono ?_
   rintro e V1 ⟨rfl,hb⟩
   have HR:=aA (HW.o.later hb)
   have HK:=aA (Kp.of_below SX hb)
   clear hb
   go_wp2_with fail
   refine(zW HC.o HR.o (by rw[lLc];omega) (by rw[lLc];omega) HM.o).mono ?_
   rintro e V2 ⟨res,hres,hok⟩
   have HOK:=aA (hok.kp HK.o)
   have HD:=aA hres
   clear hres
   rcases hok with⟨-,rfl,-⟩|⟨ex,-,-,-,-,rfl,-⟩
   ·go_wp2_with fail
    exact⟨rfl,_,HD.o,HOK.o⟩
   ·go_wp2_with fail
    go_ret
    exact⟨_,HD.o,HOK.o⟩
end Go.Proofs.YticnbcfmbhjbgaaGreatDoor
