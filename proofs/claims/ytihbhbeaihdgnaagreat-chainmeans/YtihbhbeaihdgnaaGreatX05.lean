import Derived.Test.YtihbhbeaihdgnaaGreatXH
import Derived.Deep.Cut
import Derived.ScopeJumps
import Derived.WalkMore
import Derived.Test.YtihbhbeaihdgnaaGreatX04
set_option maxRecDepth 100000
set_option maxHeartbeats 32000000
set_option linter.unusedVariables false
namespace Go.Proofs.YtihbhbeaihdgnaaGreat
open Go.RowKit Go.IntWalk Lx Pz
def CH (w:World)(b:Nat)(NM:List aR)(BS:List Int)(n:Nat):Prop:=∀(W:World) (m:Mm) (T:List Tok) (NS:List Nd),T.length < n->NS.length+T.length<=2000->Rd w W b m T NM BS NS ->
 Calls Tryz.prog 63 #[ptr b] W fun e W'=>∃ res,R NM (.at 0) (T.map ab) res/\Ok w W b T NM BS NS res e W'
theorem aO1 {s:aR}(h:aY s≠0):mE (aY s)=(rE (aY s):Int):=by
 unfold aY at h ⊢
 split
 ·rfl
 split
 ·rfl
 split
 ·rfl
 split
 ·rfl
 split
 ·rfl
 split
 ·rfl
 ·rename_i h1 h2 h3 h4 h5 h6
  rw[if_neg h1,if_neg h2,if_neg h3,if_neg h4,if_neg h5,if_neg h6] at h
  exact absurd rfl h
abbrev prt (es:List E)(s:Nat):Array Value:=#[.int .i64 (p1 es s),.int .i64 (p2 es s),.int .i64 (p3 es s)]
theorem aEd {es:List E}(h:es.length < 3)(a:E)(s:Nat):(prt es s).setIfInBounds es.length (.int .i64 ((s+cZ es+a.size:Nat)-1:Int))=prt (es++[a]) s:=by
 match es,h with
 | [],_=>simp[prt,p1,p2,p3,cZ]
 | [b],_=>simp[prt,p1,p2,p3,cZ]
 | [b,c],_=>simp[prt,p1,p2,p3,cZ,Nat.add_assoc]
 | _::_::_::_,h=>simp at h;omega
theorem aO8 {w W:World}{b n:Nat}{m:Mm}{T:List Tok}{NM:List aR}{BS:List Int}{NS:List Nd}(hch:CH w b NM BS n)(h:Rd w W b m T NM BS NS)(hT:T.length<=n)(hN:NS.length+T.length<=1999)(s:aR)(hs:aY s≠0) :
  Calls Tryz.prog 233 #[ptr b,.int .i64 (aY s)] W fun e W'=>∃ res,R NM (.at 8) (.word s::T.map ab) res/\Ok w W b T NM BS NS res e W':=by
 have HC:=aA hch
 have HS:=aA hs
 have hw:=aA h.wf
 have HA:=aA fun V=>bI (aY s) V
 rw[aO1 hs] at HA
 have HAR:=aA (rR hs)
 have HP0:=aA (Pl.begin h 138 (prt [] NS.length))
 obtain⟨o,ho⟩:∃ o,aY s=o:=⟨_,rfl⟩
 obtain⟨A,hA⟩:∃ A,rE (aY s)=A:=⟨_,rfl⟩
 have HO:=aA ho
 have HAA:=aA hA
 rw[hA] at HA HAR
 rw[ho] at HA ⊢
 have hA3:A<=3:=by have:=HAR.o;omega
 have hA1:1<=A:=by have:=HAR.o;omega
 clear h hs ho hA hch
 go_enter Tryz.func233,Tryz.ntmps233
 go_upto_region 2 with fail
 obtain⟨q,hq⟩:∃ q,W.heap.size=q:=⟨_,rfl⟩
 rw[hq] at HP0 ⊢
 generalize hV0:W.alloc (.cells (prt [] NS.length) 138)=V0 at HP0
 rw[show W.alloc (.cells #[.int .i64 0,.int .i64 0,.int .i64 0] 138)=V0 from hV0]
 clear hq hV0
 obtain⟨m0,hm0⟩:=HP0.o.rd
 have HM0:=aA hm0
 clear hm0
 by_cases hl:(T.map ab).head?=some .lp
 ·obtain⟨t1,T1,rfl,h1⟩:=bT hl
  have hs1:=aA ((bE (hw.o t1 (by simp)) (s:=[40]) (by decide)).2 h1)
  have H1:=aA (show (t1::T1).map ab=.lp::T1.map ab by rw[List.map_cons,h1])
  rw[List.length_cons] at hT hN
  clear hl h1 hw
  go_wp2_with fail
  refine(dK HM0.o _ hs1.o).mono ?_
  rintro e V1 ⟨rfl,hR,hk⟩
  have HP:=aA (HP0.o.step (by decide) hR hk)
  clear hR hk HP0 HM0
  go_wp2_with fail
  refine(HA.o _).mono ?_
  rintro e V2 ⟨rfl,rfl⟩
  go_wp2_with fail
  go_loopw [11] (fun k V=>∃(i:Nat) (es:List E) (P T':List Tok),i<=A/\k=.int .i64 i/\Hid (es.length=i)/\Hid (T1=P++T')/\Hid (AR NM (T1.map ab) es (T'.map ab))/\Hid (Pl w W V b T' NM BS (NS++jK es NS.length) q 138 (prt es NS.length))) (fun k _=>A-(intOf k).toNat)
  case atStart=>exact⟨0,[],[],T1,by omega,rfl,aA rfl,aA rfl,aA AR.nil,aA (by simpa [jK] using HP.o)⟩
  case round =>
   obtain⟨i,es,P,T',hi,rfl,HL,HT,HR,HPl⟩:=hrel
   have HLn:=aA HR.o.len
   have hTl:T'.length<=T1.length:=by rw[HT.o,List.length_append];omega
   rename World=>V3
   obtain⟨m3,hm3⟩:=HPl.o.rd
   have HM3:=aA hm3
   have hw3:=aA hm3.wf
   clear hm3
   by_cases hlt:i < A
   ·have hlt3:i < 3:=by omega
    by_cases h0:i=0
    ·subst h0
     have hes:es=[]:=List.length_eq_zero_iff.1 HL.o
     have HE:=aA hes
     clear hes
     go_wp2_with fail
     refine(HC.o V3 m3 T' (NS++jK es NS.length) (by omega) (by rw[List.length_append,dC];have:=HLn.o;simp at this;omega) HM3.o).mono ?_
     rintro e V5 ⟨res,hres,(⟨rfl,rfl,hb⟩|⟨a,P5,T5,rfl,hsp,rfl,hR,hk⟩)⟩
     ·have HB:=aA hb
      have HN:=aA hres
      clear hb hres
      go_wp2_with fail
      exact⟨rfl,none,by rw[H1.o];exact HR.o.no_part (by rw[HAA.o,HL.o];exact hlt) (.inl ⟨HE.o,rfl⟩) HN.o,.inl ⟨rfl,rfl,HB.o⟩⟩
     ·have HRES:=aA hres
      have HSP:=aA hsp
      have HP5:=aA (HPl.o.step (by decide) hR hk)
      have e5:(NS++jK es NS.length).length=NS.length+cZ es:=by rw[List.length_append,dC]
      rw[e5,List.append_assoc,<-sD] at HP5
      rw[e5]
      obtain⟨d0,d1,d2⟩:=iE HP5.o.va
      obtain⟨y0,y1,y2⟩:=zY HP5.o.va
      have HP6:=aA (HP5.o.store (by decide) es.length (.int .i64 ((NS.length+cZ es+a.size:Nat)-1:Int)))
      rw[aEd (by rw[HL.o];omega),HL.o] at HP6
      generalize (((NS.length+cZ es+a.size:Nat):Int)-1)=z at HP6 ⊢
      clear hR hk hres hsp e5
      go_upto_region 9 with fail
      generalize V5.setCell ⟨q,0,none⟩ (.int .i64 z)=V6 at HP6 ⊢
      clear d0 d1 d2 y0 y1 y2
      go_wp2_with fail
      go_roundw
      case rel=>exact⟨1,es++[a],P++P5,T5,by omega,rfl,aA (by simp[HL.o]),aA (by rw[HT.o,HSP.o,List.append_assoc]),aA (by rw[HE.o] at HR ⊢;rw[<-HR.o.nil_inv];exact AR.one HRES.o),HP6⟩
      case measure=>simp[intOf];omega
    ·have hpos:(0:Int) < i:=by omega
     have HNE:=aA (show es≠[] from fun e=>by have:=HL.o;rw[e] at this;simp at this;omega)
     by_cases hc:(T'.map ab).head?=some .comma
     ·obtain⟨t4,T4,rfl,h4⟩:=bT hc
      have hs4:=aA ((bE (hw3.o t4 (by simp)) (s:=[44]) (by decide)).2 h4)
      have H4:=aA (show (t4::T4).map ab=.comma::T4.map ab by rw[List.map_cons,h4])
      rw[List.length_cons] at hTl
      clear hc h4 hw3 h0
      go_wp2_with fail
      refine(dK HM3.o _ hs4.o).mono ?_
      rintro e V4 ⟨rfl,hR,hk⟩
      have HP4:=aA (HPl.o.step (by decide) hR hk)
      clear hR hk HPl HM3
      obtain⟨m4,hm4⟩:=HP4.o.rd
      have HM4:=aA hm4
      clear hm4
      go_wp2_with fail
      refine(HC.o V4 m4 T4 (NS++jK es NS.length) (by omega) (by rw[List.length_append,dC];have:=HLn.o;simp at this;omega) HM4.o).mono ?_
      rintro e V5 ⟨res,hres,(⟨rfl,rfl,hb⟩|⟨a,P5,T5,rfl,hsp,rfl,hR,hk⟩)⟩
      ·have HB:=aA hb
       have HN:=aA hres
       clear hb hres
       go_wp2_with fail
       exact⟨rfl,none,by rw[H1.o];exact HR.o.no_part (by rw[HAA.o,HL.o];exact hlt) (.inr ⟨HNE.o,H4.o⟩) HN.o,.inl ⟨rfl,rfl,HB.o⟩⟩
      ·have HRES:=aA hres
       have HSP:=aA hsp
       have HP5:=aA (HP4.o.step (by decide) hR hk)
       have e5:(NS++jK es NS.length).length=NS.length+cZ es:=by rw[List.length_append,dC]
       rw[e5,List.append_assoc,<-sD] at HP5
       rw[e5]
       obtain⟨d0,d1,d2⟩:=iE HP5.o.va
       obtain⟨y0,y1,y2⟩:=zY HP5.o.va
       have HP6:=aA (HP5.o.store (by decide) es.length (.int .i64 ((NS.length+cZ es+a.size:Nat)-1:Int)))
       rw[aEd (by rw[HL.o];omega),HL.o] at HP6
       generalize (((NS.length+cZ es+a.size:Nat):Int)-1)=z at HP6 ⊢
       clear hR hk hres hsp e5
       have hi0:(0:Int)<=i:=by omega
       have hi3:(i:Int) < 3:=by omega
       have hlt2:i < 3:=by omega
       have HC5:=aA HP5.o.va
       have di:∃ u,V5.cell? ⟨q,i,none⟩=some u:=by
        rcases(show i=0\/i=1\/i=2 by omega) with rfl|rfl|rfl
        ·exact⟨_,d0⟩
        ·exact⟨_,d1⟩
        ·exact⟨_,d2⟩
       obtain⟨u,di⟩:=di
       have yi:V5.frozen? ⟨q,i,none⟩=false:=HC5.o.frozen i
       clear d0 d1 d2 y0 y1 y2
       go_upto_region 9 with fail
       generalize V5.setCell ⟨q,i,none⟩ (.int .i64 z)=V6 at HP6 ⊢
       clear di yi
       go_wp2_with fail
       go_roundw
       case rel=>exact⟨i+1,es++[a],P++t4::P5,T5,by omega,by go_num,aA (by simp[HL.o]),aA (by rw[HT.o,HSP.o];simp),aA (AR.more HNE.o (by rw[<-H4.o];exact HR.o) HRES.o),HP6⟩
       case measure=>simp[intOf];omega
     ·have hs4:=aA (gW (s:=[44]) hw3.o (by decide) hc)
      have HCM:=aA hc
      clear hc hw3 h0
      go_wp2_with fail
      refine(eT HM3.o _ hs4.o).mono ?_
      rintro e V4 ⟨rfl,hb⟩
      have HB:=aA (bel HM3.o.old hb)
      clear hb
      go_wp2_with fail
      exact⟨rfl,none,by rw[H1.o];exact HR.o.no_comma (by rw[HL.o];omega) (by rw[HAA.o,HL.o];exact hlt) HCM.o,.inl ⟨rfl,rfl,HB.o⟩⟩
   ·obtain rfl:i=A:=by omega
    by_cases hr:(T'.map ab).head?=some .rp
    ·obtain⟨t8,T8,rfl,h8⟩:=bT hr
     have hs8:=aA ((bE (hw3.o t8 (by simp)) (s:=[41]) (by decide)).2 h8)
     have H8:=aA (show (t8::T8).map ab=.rp::T8.map ab by rw[List.map_cons,h8])
     clear hr h8 hw3
     go_wp2_with fail
     refine(dK HM3.o _ hs8.o).mono ?_
     rintro e V8 ⟨rfl,hR,hk⟩
     have HP8:=aA (HPl.o.step (by decide) hR hk)
     clear hR hk HPl HM3
     obtain⟨m8,hm8⟩:=HP8.o.rd
     have HM8:=aA hm8
     clear hm8
     obtain⟨d0,d1,d2⟩:=iE HP8.o.va
     go_wp2_with fail
     refine(eY HM8.o ⟨o,p1 es NS.length,p2 es NS.length,p3 es NS.length,0,0,0,0,0⟩ (by rw[List.length_append,dC];have:=HLn.o;simp at this;omega)).mono ?_
     rintro e V9 ⟨rfl,hR,hk⟩
     have hfl:=aMa (o:=o) (es:=es) (by rw[HL.o];exact HAR.o) NS.length
     rw[List.append_assoc,<-hfl.1] at hR
     have HZ:=aA hfl.2
     have HR9:=aA hR
     have HK9:=aA (HP8.o.kp.trans hk)
     rw[show (NS++jK es NS.length).length=NS.length+cZ es by rw[List.length_append,dC]]
     clear hR hk d0 d1 d2 hfl
     go_wp2_with fail
     go_ret
     refine⟨some (mkE o es,T8.map ab),?_,.inr ⟨mkE o es,t1::(P++[t8]),T8,rfl,by rw[HT.o];simp,aN (by rw[HZ.o];omega),HR9.o,HK9.o⟩⟩
     have:=HR.o.ends (s:=s) (by rw[HL.o];omega) (by rw[HL.o,HAA.o])
     rw[H8.o,dH,HO.o] at this
     rw[H1.o]
     exact this
    ·have hs8:=aA (gW (s:=[41]) hw3.o (by decide) hr)
     have HRP:=aA hr
     clear hr hw3
     go_wp2_with fail
     refine(eT HM3.o _ hs8.o).mono ?_
     rintro e V8 ⟨rfl,hb⟩
     have HB:=aA (bel HM3.o.old hb)
     clear hb
     go_wp2_with fail
     refine⟨rfl,none,?_,.inl ⟨rfl,rfl,HB.o⟩⟩
     have:=HR.o.ends (s:=s) (by rw[HL.o];omega) (by rw[HL.o,HAA.o])
     rw[tQ HRP.o] at this
     rw[H1.o]
     exact this
 ·have hs1:=aA (gW (s:=[40]) hw.o (by decide) hl)
  have HL:=aA hl
  clear hl hw
  go_wp2_with fail
  refine(eT HM0.o _ hs1.o).mono ?_
  rintro e V1 ⟨rfl,hb⟩
  have HB:=aA (bel HM0.o.old hb)
  clear hb
  go_wp2_with fail
  exact⟨rfl,none,R.callx HS.o HL.o,.inl ⟨rfl,rfl,HB.o⟩⟩
end Go.Proofs.YtihbhbeaihdgnaaGreat
namespace Go.Proofs.YtihbhbeaihdgnaaGreat
open Go.RowKit Go.IntWalk Lx Pz
variable {W w:World} {b n:Nat} {BS:List Int}
theorem Ok.cons {W1:World}{t:Tok}{T:List Tok}{NM:List aR}{NS:List Nd}{res:Option (E × List Tk)}{e:Ending}{W':World}(h:Ok w W1 b T NM BS NS res e W')(hk:Kp SX W W1):Ok w W b (t::T) NM BS NS res e W':=by
 rcases h with h|⟨ex,P,T',h1,h2,h3,h4,h5⟩
 ·exact .inl h
 ·exact .inr ⟨ex,t::P,T',h1,by rw[h2];rfl,h3,h4,hk.trans h5⟩
theorem aXy {nm:List aR}{s:aR}(h:0<=yR s):wd nm s=some (.leaf (lf 2 (yR s) 0 0 0 0)):=by unfold wd;rw[if_pos h]
theorem aV5 {nm:List aR}{s:aR}(h:¬0<=yR s):wd nm s=if nm.contains s then some (.leaf (lf 4 (pos nm s) 0 0 0 0)) else none:=by unfold wd;rw[if_neg h]
theorem aSh {m:Mm}{t:Tok}{T:List Tok}{NM:List aR}{NS:List Nd}(hch:CH w b NM BS n)(h:Rd w W b m (t::T) NM BS NS)(hT:T.length<=n)(hN:NS.length+T.length<=1999)(s:aR)(hs:ab t=.word s) :
  Calls Tryz.prog 204 #[ptr b] W fun e W'=>∃ res,R NM (.at 8) ((t::T).map ab) res/\Ok w W b (t::T) NM BS NS res e W':=by
 have HC:=aA hch
 have HW:=aA h
 have F1:=aDg
 have hwf:=h.wf t (by simp)
 obtain⟨-,hw2,hts⟩:=aLu hwf hs
 have H1:=aA (show (t::T).map ab=.word s::T.map ab by rw[List.map_cons,hs])
 rw[hts] at hw2
 have HTS:=aA hts
 have HWR:=aA hw2
 clear h hch hwf hw2 hts hs
 by_cases hp:s=wP
 ·subst hp
  go_enter Tryz.func204,Tryz.ntmps204
  go_wp2_with fail
  refine(dP HW.o).mono ?_
  rintro e V1 ⟨rfl,⟨m1,hR⟩,hk⟩
  have HR:=aA hR
  have HK:=aA hk
  rw[HTS.o,show sB wP=⟨#[112]⟩ from rfl]
  clear hR hk
  go_wp2_with fail
  refine(aQ2 HR.o (by omega)).mono ?_
  rintro e V2 hok
  have HOK:=aA (hok.cons (t:=t) HK.o)
  have HD:=aA (show R NM (.at 8) ((t::T).map ab) (vD false (T.map ab)) by rw[H1.o];exact R.place (.inl rfl))
  rcases hok with⟨-,rfl,-⟩|⟨ex,-,-,-,-,rfl,-⟩
  ·go_wp2_with fail
   exact⟨rfl,_,HD.o,HOK.o⟩
  ·go_wp2_with fail
   go_ret
   exact⟨_,HD.o,HOK.o⟩
 by_cases hq:s=wQ
 ·subst hq
  clear hp
  go_enter Tryz.func204,Tryz.ntmps204
  go_wp2_with fail
  refine(dP HW.o).mono ?_
  rintro e V1 ⟨rfl,⟨m1,hR⟩,hk⟩
  have HR:=aA hR
  have HK:=aA hk
  rw[HTS.o,show sB wQ=⟨#[113]⟩ from rfl]
  clear hR hk
  go_wp2_with fail
  refine(aQ3 HR.o (by omega)).mono ?_
  rintro e V2 hok
  have HOK:=aA (hok.cons (t:=t) HK.o)
  have HD:=aA (show R NM (.at 8) ((t::T).map ab) (vD true (T.map ab)) by rw[H1.o];exact R.place (.inr rfl))
  rcases hok with⟨-,rfl,-⟩|⟨ex,-,-,-,-,rfl,-⟩
  ·go_wp2_with fail
   exact⟨rfl,_,HD.o,HOK.o⟩
  ·go_wp2_with fail
   go_ret
   exact⟨_,HD.o,HOK.o⟩
 have kp:((sB s).toList==[112])=false:=by rw[gZ,qH];simpa [wP] using hp
 have kq:((sB s).toList==[113])=false:=by rw[gZ,qH];simpa [wQ] using hq
 have HP:=aA hp
 have HQ:=aA hq
 have HCa:=aA fun V=>wC (sB s) V
 have HIn:=aA fun V=>fQ (sB s) V
 rw[qH] at HCa HIn
 clear hp hq
 by_cases hc:aY s=0
 ·have HCz:=aA hc
  rw[hc] at HCa
  by_cases hi:0<=yR s
  ·have HWD:=aA (aXy (nm:=NM) hi)
   obtain⟨k,hkk⟩:∃ k,yR s=k:=⟨_,rfl⟩
   rw[hkk] at HIn HWD hi
   clear hc hkk
   generalize hu:sB s=u at kp kq HCa HIn
   have HU:=aA hu
   clear hu
   go_enter Tryz.func204,Tryz.ntmps204
   go_wp2_with fail
   refine(dP HW.o).mono ?_
   rintro e V1 ⟨rfl,⟨m1,hR⟩,hk⟩
   have HR:=aA hR
   have HK:=aA hk
   rw[HTS.o,HU.o]
   clear hR hk
   go_wp2_with fail
   refine(HCa.o _).mono ?_
   rintro e V2 ⟨rfl,rfl⟩
   go_wp2_with fail
   refine(HIn.o _).mono ?_
   rintro e V2 ⟨rfl,rfl⟩
   go_wp2_with fail
   refine(eY HR.o (lf 2 k 0 0 0 0) (by omega)).mono ?_
   rintro e V3 ⟨rfl,hR,hk⟩
   have HR3:=aA hR
   have HK3:=aA (HK.o.trans hk)
   clear hR hk
   go_wp2_with fail
   go_ret
   refine⟨some (.leaf (lf 2 k 0 0 0 0),T.map ab),?_,.inr ⟨.leaf (lf 2 k 0 0 0 0),[t],T,rfl,rfl,kV _ rfl,HR3.o,HK3.o⟩⟩
   have:=R.word (nm:=NM) (l:=T.map ab) HP.o HQ.o HCz.o
   rw[HWD.o] at this
   rw[H1.o];exact this
  ·have HWD:=aA (aV5 (nm:=NM) hi)
   obtain⟨k,hkk⟩:∃ k,yR s=k:=⟨_,rfl⟩
   rw[hkk] at HIn hi
   have hi':k < 0:=by omega
   clear hc hkk hi
   have HIx:=aA (show ∀(V:World) (a:Option Addr) (n cap:Nat),Tx V a n cap NM->Calls Tryz.prog 148 #[.slice a n cap,.string (sB s)] V fun e W'=>e=.returned (.int .i64 (ixZ NM s))/\W'=V from fun V a n cap hx=>by
    have:=aAc hx (sB s)
    rw[qH] at this
    exact this)
   cases hct:NM.contains s with
   | true =>
    rw[hct,if_pos rfl] at HWD
    rw[show ixZ NM s=(pos NM s:Int) by unfold ixZ;rw[hct];rfl] at HIx
    generalize pos NM s=z at HWD HIx
    generalize hu:sB s=u at kp kq HCa HIn HIx
    have HU:=aA hu
    clear hu hct
    go_enter Tryz.func204,Tryz.ntmps204
    go_wp2_with fail
    refine(dP HW.o).mono ?_
    rintro e V1 ⟨rfl,⟨m1,hR⟩,hk⟩
    have HR:=aA hR
    have HK:=aA hk
    rw[HTS.o,HU.o]
    clear hR hk
    obtain⟨a1,cap1,hn1,hTx⟩:=Tx.of_owns HR.o.names
    have HTx:=aA hTx
    have c1:V1.cell? ⟨b,1,none⟩=some (.slice a1 NM.length cap1):=by rw[<-hn1];exact HR.o.blk.cell 1 rfl
    clear hTx hn1
    go_wp2_with fail
    refine(HCa.o _).mono ?_
    rintro e V2 ⟨rfl,rfl⟩
    go_wp2_with fail
    refine(HIn.o _).mono ?_
    rintro e V2 ⟨rfl,rfl⟩
    go_wp2_with fail
    refine(HIx.o _ _ _ _ HTx.o).mono ?_
    rintro e V2 ⟨rfl,rfl⟩
    go_wp2_with fail
    refine(eY HR.o (lf 4 z 0 0 0 0) (by omega)).mono ?_
    rintro e V3 ⟨rfl,hR,hk⟩
    have HR3:=aA hR
    have HK3:=aA (HK.o.trans hk)
    clear hR hk
    go_wp2_with fail
    go_ret
    refine⟨some (.leaf (lf 4 z 0 0 0 0),T.map ab),?_,.inr ⟨.leaf (lf 4 z 0 0 0 0),[t],T,rfl,rfl,kV _ rfl,HR3.o,HK3.o⟩⟩
    have:=R.word (nm:=NM) (l:=T.map ab) HP.o HQ.o HCz.o
    rw[HWD.o] at this
    rw[H1.o];exact this
   | false =>
    rw[hct,if_neg (by decide)] at HWD
    rw[show ixZ NM s=-1 by unfold ixZ;rw[hct];rfl] at HIx
    generalize hu:sB s=u at kp kq HCa HIn HIx
    have HU:=aA hu
    clear hu hct
    go_enter Tryz.func204,Tryz.ntmps204
    go_wp2_with fail
    refine(dP HW.o).mono ?_
    rintro e V1 ⟨rfl,⟨m1,hR⟩,hk⟩
    have HR:=aA hR
    have HK:=aA hk
    rw[HTS.o,HU.o]
    clear hR hk
    obtain⟨a1,cap1,hn1,hTx⟩:=Tx.of_owns HR.o.names
    have HTx:=aA hTx
    have c1:V1.cell? ⟨b,1,none⟩=some (.slice a1 NM.length cap1):=by rw[<-hn1];exact HR.o.blk.cell 1 rfl
    clear hTx hn1
    go_wp2_with fail
    refine(HCa.o _).mono ?_
    rintro e V2 ⟨rfl,rfl⟩
    go_wp2_with fail
    refine(HIn.o _).mono ?_
    rintro e V2 ⟨rfl,rfl⟩
    go_wp2_with fail
    refine(HIx.o _ _ _ _ HTx.o).mono ?_
    rintro e V2 ⟨rfl,rfl⟩
    go_wp2_with fail
    refine⟨rfl,none,?_,.inl ⟨rfl,rfl,HR.o.old⟩⟩
    have:=R.word (nm:=NM) (l:=T.map ab) HP.o HQ.o HCz.o
    rw[HWD.o] at this
    rw[H1.o];exact this
 ·have HCz:=aA hc
  have HCl:=aA fun(V:World) (m:Mm) (h:Rd w V b m T NM BS NS)=>aO8 HC.o h hT hN s hc
  have hne:(aY s==0)=false:=by simpa using hc
  obtain⟨o,ho⟩:∃ o,aY s=o:=⟨_,rfl⟩
  rw[ho] at HCa HCl hne
  clear hc ho HIn
  generalize hu:sB s=u at kp kq HCa
  have HU:=aA hu
  clear hu
  go_enter Tryz.func204,Tryz.ntmps204
  go_wp2_with fail
  refine(dP HW.o).mono ?_
  rintro e V1 ⟨rfl,⟨m1,hR⟩,hk⟩
  have HR:=aA hR
  have HK:=aA hk
  rw[HTS.o,HU.o]
  clear hR hk
  go_wp2_with fail
  refine(HCa.o _).mono ?_
  rintro e V2 ⟨rfl,rfl⟩
  go_wp2_with fail
  refine(HCl.o _ _ HR.o).mono ?_
  rintro e V2 ⟨res,hres,hok⟩
  have HOK:=aA (hok.cons (t:=t) HK.o)
  rw[<-H1.o] at hres
  have HD:=aA hres
  clear hres
  rcases hok with⟨-,rfl,-⟩|⟨ex,-,-,-,-,rfl,-⟩
  ·go_wp2_with fail
   exact⟨rfl,_,HD.o,HOK.o⟩
  ·go_wp2_with fail
   go_ret
   exact⟨_,HD.o,HOK.o⟩
theorem aIf {l:List Tk}(h1:∀ v,l.head?≠some (.num v))(h2:∀ s,l.head?≠some (.word s))(h3:l.head?≠some .lp)(h4:l.head?≠some (.op 5 9)):begins l=false:=by
 unfold begins
 split
 ·exact absurd rfl (h1 _)
 ·exact absurd rfl (h2 _)
 ·exact absurd rfl h3
 ·rename_i k o _
  simp only[decide_eq_false_iff_not]
  rintro⟨rfl,rfl⟩
  exact h4 rfl
 ·rfl
theorem xV {m:Mm}{T:List Tok}{NM:List aR}{NS:List Nd}(hch:CH w b NM BS n)(h:Rd w W b m T NM BS NS)(hT:T.length<=n)(hN:NS.length+T.length<=2000)(hm:(T.map ab).head?≠some (.op 5 9)) :
  Calls Tryz.prog 176 #[ptr b] W fun e W'=>∃ res,R NM (.at 8) (T.map ab) res/\Ok w W b T NM BS NS res e W':=by
 have HC:=aA hch
 have HW:=aA h
 have hw:=aA h.wf
 have F0:=aWk
 have HM:=aA hm
 clear h hch hm
 by_cases h1:∃ v,(T.map ab).head?=some (.num v)
 ·obtain⟨v,h1⟩:=h1
  obtain⟨t,T1,rfl,ht⟩:=bT h1
  obtain⟨hk1,-,-⟩:=aLt (hw.o t (by simp)) ht
  have H1:=aA (show (t::T1).map ab=.num v::T1.map ab by rw[List.map_cons,ht])
  have HK1:=aA hk1
  have HV:=aA ht
  rw[List.length_cons] at hT hN
  clear h1 ht hk1 HM
  go_enter Tryz.func176,Tryz.ntmps176
  go_wp2_with fail
  refine(eZ HW.o).mono ?_
  rintro e V1 ⟨rfl,hb⟩
  rw[show (hd (t::T1)).kind=1 from HK1.o]
  have HR:=aA (HW.o.later hb)
  have HK:=aA (Kp.of_below SX hb)
  generalize sB (hd (t::T1)).text=u
  generalize ((hd (t::T1)).pos:Int)=p
  clear hb
  go_wp2_with fail
  refine(pO HR.o).mono ?_
  rintro e V2 (⟨hn,rfl,hb⟩|⟨v',t2,T2,he,hv,rfl,hR,hk⟩)
  ·exact absurd (H1.o) (hn v _)
  ·obtain⟨rfl,rfl⟩:t=t2/\T1=T2:=by simpa using he
   obtain rfl:v=v':=by have:=HV.o.symm.trans hv;simpa using this
   obtain⟨m2,hm2⟩:=hR
   have HR2:=aA hm2
   have HK2:=aA (HK.o.trans hk)
   clear hm2 hk hv he
   go_wp2_with fail
   refine(eY HR2.o (lf 1 v 0 0 0 0) (by omega)).mono ?_
   rintro e V3 ⟨rfl,hR,hk⟩
   have HR3:=aA hR
   have HK3:=aA (HK2.o.trans hk)
   clear hR hk
   go_wp2_with fail
   go_ret
   exact⟨some (.leaf (lf 1 v 0 0 0 0),T1.map ab),by rw[H1.o];exact R.num v _,.inr ⟨.leaf (lf 1 v 0 0 0 0),[t],T1,rfl,rfl,kV _ rfl,HR3.o,HK3.o⟩⟩
 by_cases h2:∃ s,(T.map ab).head?=some (.word s)
 ·obtain⟨s,h2⟩:=h2
  obtain⟨t,T1,rfl,ht⟩:=bT h2
  obtain⟨hk1,-,-⟩:=aLu (hw.o t (by simp)) ht
  have HK1:=aA hk1
  have HV:=aA ht
  rw[List.length_cons] at hT hN
  clear h1 h2 ht hk1 HM
  go_enter Tryz.func176,Tryz.ntmps176
  go_wp2_with fail
  refine(eZ HW.o).mono ?_
  rintro e V1 ⟨rfl,hb⟩
  rw[show (hd (t::T1)).kind=2 from HK1.o]
  have HR:=aA (HW.o.later hb)
  have HK:=aA (Kp.of_below SX hb)
  generalize sB (hd (t::T1)).text=u
  generalize ((hd (t::T1)).pos:Int)=p
  clear hb
  go_wp2_with fail
  refine(aSh HC.o HR.o (by omega) (by omega) s HV.o).mono ?_
  rintro e V2 ⟨res,hres,hok⟩
  have HOK:=aA (show Ok w W b (t::T1) NM BS NS res e V2 from by
   rcases hok with h|⟨ex,P,T',h1,h2,h3,h4,h5⟩
   ·exact .inl h
   ·exact .inr ⟨ex,P,T',h1,h2,h3,h4,HK.o.trans h5⟩)
  have HD:=aA hres
  clear hres
  rcases hok with⟨-,rfl,-⟩|⟨ex,-,-,-,-,rfl,-⟩
  ·go_wp2_with fail
   exact⟨rfl,_,HD.o,HOK.o⟩
  ·go_wp2_with fail
   go_ret
   exact⟨_,HD.o,HOK.o⟩
 have hk3:((hd T).kind==1)=false/\((hd T).kind==2)=false:=by
  cases T with
  | nil=>decide
  | cons t T =>
   have:t.kind=3:=kQ (hw.o t (by simp)) (fun v e=>h1 ⟨v,by simp[e]⟩) (fun s e=>h2 ⟨s,by simp[e]⟩)
   show (t.kind==1)=false/\(t.kind==2)=false
   rw[this];decide
 obtain⟨k1,k2⟩:=hk3
 have H1:=aA h1
 have H2:=aA h2
 clear h1 h2
 by_cases hl:(T.map ab).head?=some .lp
 ·obtain⟨t1,T1,rfl,h1⟩:=bT hl
  have hs1:=aA ((bE (hw.o t1 (by simp)) (s:=[40]) (by decide)).2 h1)
  have HE:=aA (show (t1::T1).map ab=.lp::T1.map ab by rw[List.map_cons,h1])
  rw[List.length_cons] at hT hN
  clear hl h1 hw HM
  go_enter Tryz.func176,Tryz.ntmps176
  go_wp2_with fail
  refine(eZ HW.o).mono ?_
  rintro e V1 ⟨rfl,hb⟩
  have HR:=aA (HW.o.later hb)
  have HK:=aA (Kp.of_below SX hb)
  generalize sB (hd (t1::T1)).text=u
  generalize ((hd (t1::T1)).pos:Int)=p
  generalize (hd (t1::T1)).kind=kk at k1 k2 ⊢
  clear hb
  go_wp2_with fail
  refine(dK HR.o _ hs1.o).mono ?_
  rintro e V2 ⟨rfl,⟨m2,hR⟩,hk⟩
  have HR2:=aA hR
  have HK2:=aA (HK.o.trans hk)
  clear hR hk
  go_wp2_with fail
  refine(HC.o _ _ T1 NS (by omega) (by omega) HR2.o).mono ?_
  rintro e V3 ⟨res,hres,(⟨rfl,rfl,hb⟩|⟨ex,P3,T3,rfl,hsp,rfl,⟨m3,hR⟩,hk⟩)⟩
  ·have HB:=aA hb
   have HN:=aA hres
   clear hb hres
   go_wp2_with fail
   exact⟨rfl,none,by rw[HE.o];exact R.par HN.o,.inl ⟨rfl,rfl,HB.o⟩⟩
  ·have HRES:=aA hres
   have HSP:=aA hsp
   have HR3:=aA hR
   have HK3:=aA (HK2.o.trans hk)
   have hw3:=aA hR.wf
   clear hres hsp hR hk
   obtain⟨z,hz⟩:∃ z:Int,((NS.length+ex.size:Nat):Int)-1=z:=⟨_,rfl⟩
   rw[hz]
   have HZ:=aA hz
   clear hz
   by_cases hr:(T3.map ab).head?=some .rp
   ·obtain⟨t8,T8,rfl,h8⟩:=bT hr
    have hs8:=aA ((bE (hw3.o t8 (by simp)) (s:=[41]) (by decide)).2 h8)
    have H8:=aA (show (t8::T8).map ab=.rp::T8.map ab by rw[List.map_cons,h8])
    clear hr h8 hw3
    go_wp2_with fail
    refine(dK HR3.o _ hs8.o).mono ?_
    rintro e V8 ⟨rfl,hR,hk⟩
    have HR8:=aA hR
    have HK8:=aA (HK3.o.trans hk)
    clear hR hk
    go_wp2_with fail
    go_ret
    refine⟨some (ex,T8.map ab),?_,.inr ⟨ex,t1::(P3++[t8]),T8,rfl,by rw[HSP.o];simp,?_,HR8.o,HK8.o⟩⟩
    ·have:=R.par HRES.o
     rw[H8.o,dH] at this
     rw[HE.o];exact this
    ·exact aN HZ.o.symm
   ·have hs8:=aA (gW (s:=[41]) hw3.o (by decide) hr)
    have HRP:=aA hr
    clear hr hw3
    go_wp2_with fail
    refine(eT HR3.o _ hs8.o).mono ?_
    rintro e V8 ⟨rfl,hb⟩
    have HB:=aA (bel HR3.o.old hb)
    clear hb
    go_wp2_with fail
    refine⟨rfl,none,?_,.inl ⟨rfl,rfl,HB.o⟩⟩
    have:=R.par HRES.o
    rw[tQ HRP.o] at this
    rw[HE.o];exact this
 ·have hs1:=aA (gW (s:=[40]) hw.o (by decide) hl)
  have HL:=aA hl
  clear hl hw
  go_enter Tryz.func176,Tryz.ntmps176
  go_wp2_with fail
  refine(eZ HW.o).mono ?_
  rintro e V1 ⟨rfl,hb⟩
  have HR:=aA (HW.o.later hb)
  generalize sB (hd T).text=u
  generalize ((hd T).pos:Int)=p
  generalize (hd T).kind=kk at k1 k2 ⊢
  clear hb
  go_wp2_with fail
  refine(eT HR.o _ hs1.o).mono ?_
  rintro e V2 ⟨rfl,hb⟩
  have HB:=aA (bel HR.o.old hb)
  clear hb
  go_wp2_with fail
  exact⟨rfl,none,R.bad (aIf (fun v e=>H1.o ⟨v,e⟩) (fun s e=>H2.o ⟨s,e⟩) HL.o HM.o),.inl ⟨rfl,rfl,HB.o⟩⟩
theorem Ok.kp {W1:World}{T:List Tok}{NM:List aR}{NS:List Nd}{res:Option (E × List Tk)}{e:Ending}{W':World}(h:Ok w W1 b T NM BS NS res e W')(hk:Kp SX W W1):Ok w W b T NM BS NS res e W':=by
 rcases h with h|⟨ex,P,T',h1,h2,h3,h4,h5⟩
 ·exact .inl h
 ·exact .inr ⟨ex,P,T',h1,h2,h3,h4,hk.trans h5⟩
theorem aL8 {NM:List aR}(hch:CH w b NM BS n):∀(T:List Tok) (W:World) (m:Mm) (NS:List Nd),T.length<=n->NS.length+T.length<=2000->Rd w W b m T NM BS NS ->
  Calls Tryz.prog 149 #[ptr b] W fun e W'=>∃ res,R NM (.at 8) (T.map ab) res/\Ok w W b T NM BS NS res e W':=by
 intro T
 induction T with
 | nil =>
  intro W m NS hT hN h
  have HC:=aA hch
  have HW:=aA h
  clear h hch
  go_enter Tryz.func149,Tryz.ntmps149
  go_wp2_with fail
  refine(lK HW.o _ (by decide)).mono ?_
  rintro e V1 ⟨rfl,hb⟩
  have HR:=aA (HW.o.later hb)
  have HK:=aA (Kp.of_below SX hb)
  clear hb
  go_wp2_with fail
  refine(xV HC.o HR.o hT hN (by simp)).mono ?_
  rintro e V2 ⟨res,hres,hok⟩
  have HOK:=aA (hok.kp HK.o)
  have HD:=aA hres
  clear hres
  rcases hok with⟨-,rfl,-⟩|⟨ex,-,-,-,-,rfl,-⟩
  ·go_wp2_with fail
   exact⟨rfl,_,HD.o,HOK.o⟩
  ·go_wp2_with fail
   go_ret
   exact⟨_,HD.o,HOK.o⟩
 | cons t T ih =>
  intro W m NS hT hN h
  have HC:=aA hch
  have HI:=aA ih
  have HW:=aA h
  have hw:=h.wf
  clear h hch ih
  rw[List.length_cons] at hT hN
  by_cases hm:((t::T).map ab).head?=some (.op 5 9)
  ·have ht:ab t=.op 5 9:=by simpa using hm
   have hs:=aA ((bE (hw t (by simp)) (s:=[45]) (by decide)).2 ht)
   have HE:=aA (show (t::T).map ab=.op 5 9::T.map ab by rw[List.map_cons,ht])
   clear hm ht hw
   go_enter Tryz.func149,Tryz.ntmps149
   go_wp2_with fail
   refine(kT HW.o _ hs.o).mono ?_
   rintro e V1 ⟨rfl,⟨m1,hR⟩,hk⟩
   have HR:=aA hR
   have HK:=aA hk
   clear hR hk
   go_wp2_with fail
   refine(HI.o _ _ NS (by omega) (by omega) HR.o).mono ?_
   rintro e V2 ⟨res,hres,(⟨rfl,rfl,hb⟩|⟨ex,P3,T3,rfl,hsp,rfl,⟨m3,hR⟩,hk⟩)⟩
   ·have HB:=aA hb
    have HN:=aA hres
    clear hb hres
    go_wp2_with fail
    exact⟨rfl,none,by rw[HE.o];exact R.neg HN.o,.inl ⟨rfl,rfl,HB.o⟩⟩
   ·have HRES:=aA hres
    have HSP:=aA hsp
    have HR3:=aA hR
    have HK3:=aA (HK.o.trans hk)
    have hsz:NS.length+ex.size<=2000:=by have:=oP hres;simp at this;omega
    clear hres hsp hR hk
    go_wp2_with fail
    refine(eY HR3.o ⟨5,((NS.length+ex.size:Nat):Int)-1,0,0,0,0,0,0,0⟩ (by rw[List.length_append,E.flat_len];omega)).mono ?_
    rintro e V4 ⟨rfl,hR,hk⟩
    rw[List.append_assoc,show ex.flat NS.length++[⟨5,((NS.length+ex.size:Nat):Int)-1,0,0,0,0,0,0,0⟩]=(E.un 5 ex).flat NS.length from rfl] at hR
    have HR4:=aA hR
    have HK4:=aA (HK3.o.trans hk)
    rw[show (NS++ex.flat NS.length).length=NS.length+ex.size by rw[List.length_append,E.flat_len]]
    clear hR hk
    go_wp2_with fail
    go_ret
    exact⟨some (.un 5 ex,T3.map ab),by rw[HE.o];exact R.neg HRES.o,.inr ⟨.un 5 ex,t::P3,T3,rfl,by rw[HSP.o];rfl,aN (by simp[E.size];omega),HR4.o,HK4.o⟩⟩
  ·have hs:=aA (gW (s:=[45]) hw (by decide) hm)
   have HM:=aA hm
   clear hm hw
   go_enter Tryz.func149,Tryz.ntmps149
   go_wp2_with fail
   refine(lK HW.o _ hs.o).mono ?_
   rintro e V1 ⟨rfl,hb⟩
   have HR:=aA (HW.o.later hb)
   have HK:=aA (Kp.of_below SX hb)
   clear hb
   go_wp2_with fail
   refine(xV HC.o HR.o (by rw[List.length_cons];omega) (by rw[List.length_cons];omega) HM.o).mono ?_
   rintro e V2 ⟨res,hres,hok⟩
   have HOK:=aA (hok.kp HK.o)
   have HD:=aA hres
   clear hres
   rcases hok with⟨-,rfl,-⟩|⟨ex,-,-,-,-,rfl,-⟩
   ·go_wp2_with fail
    exact⟨rfl,_,HD.o,HOK.o⟩
   ·go_wp2_with fail
    go_ret
    exact⟨_,HD.o,HOK.o⟩
end Go.Proofs.YtihbhbeaihdgnaaGreat
namespace Go.Proofs.YtihbhbeaihdgnaaGreat
open Go.RowKit Go.IntWalk Lx Pz
def LV (w:World)(b:Nat)(NM:List aR)(BS:List Int)(n k:Nat):Prop:=∀(W:World) (m:Mm) (T:List Tok) (NS:List Nd),T.length<=n->NS.length+T.length<=2000->Rd w W b m T NM BS NS ->
 Calls Tryz.prog 113 #[ptr b,.int .i64 (k:Nat)] W fun e W'=>∃ res,R NM (.at (k+1)) (T.map ab) res/\Ok w W b T NM BS NS res e W'
def lenAt (b:Nat)(W:World):Nat:=match W.cell? ⟨b,0,none⟩ with|some (.slice _ n _)=>n|_=>0
theorem Rd.lenAt {w W:World}{b:Nat}{m:Mm}{T:List Tok}{NM:List aR}{BS:List Int}{NS:List Nd}(h:Rd w W b m T NM BS NS):lenAt b W=T.length:=by
 unfold Go.Proofs.YtihbhbeaihdgnaaGreat.lenAt
 rw[h.blk.cell 0 rfl]
 exact h.toks.t.len.symm
structure LF (w W:World)(b k:Nat)(T:List Tok)(NM:List aR)(BS:List Int)(NS:List Nd)(ex:E)(T':List Tok)(V:World):Prop where
 pre:∃ P,T=P++T'
 go:∀ res,R NM (.lp k ex) (T'.map ab) res->R NM (.at (k+1)) (T.map ab) res
 rd:∃ m',Rd w V b m' T' NM BS (NS++ex.flat NS.length)
 kp:Kp SX W V
 sz:ex.size+T'.length<=T.length
theorem aSu {k:Nat}{T:List Tok}(hw:∀ t ∈ T,Wf t)(h:zG k (hd T).text=0):∀ o,(T.map ab).head?≠some (.op k o):=by
 intro o
 cases T with
 | nil=>simp
 | cons t T =>
  rcases aHu k (hw t (by simp)) with⟨-,h2⟩|⟨h1,-⟩
  ·simpa using h2 o
  ·exact absurd h h1
theorem aSj {k:Nat}{T:List Tok}(hw:∀ t ∈ T,Wf t)(h:¬zG k (hd T).text=0):∃ t T1,T=t::T1/\ab t=.op k (zG k (hd T).text):=by
 cases T with
 | nil=>exact absurd (xR (by decide)) h
 | cons t T =>
  rcases aHu k (hw t (by simp)) with⟨h1,-⟩|⟨-,h2⟩
  ·exact absurd h1 h
  ·exact⟨t,T,rfl,h2⟩
theorem aLw {w:World}{b n k:Nat}{NM:List aR}{BS:List Int}(hk7:k < 7)(hup:LV w b NM BS n (k+1)):LV w b NM BS n k:=by
 intro W m T NS hT hN h
 have HU:=aA hup
 have HW:=aA h
 have F1:=aDg
 have hk0:((k:Int)==7)=false:=by simp;omega
 clear h hup
 go_enter Tryz.func113,Tryz.ntmps113
 go_wp2_with fail
 refine wp_scope_jumps 0 (fun a' V=>∃(ex:E) (T':List Tok) (u6 u7 u8 u9 u10 u11 u12 u13 u14 u15 u16 u17 u18 u19 u20 u21 u22 u23 u24 u25 u26 u27 u28 u29 u30 u31 u32 u33 u34 u35 u36 u37 u38:Value),a'={ tmps:=#[ptr b,.int .i64 (k:Nat),undef,undef,.int .i64 0,.int .i64 (((NS.length+ex.size:Nat):Int)-1),u6,u7,u8,u9,u10,u11,u12,u13,u14,u15,u16,u17,u18,u19,u20,u21,u22,u23,u24,u25,u26,u27,u28,u29,u30,u31,u32,u33,u34,u35,u36,u37,u38],defers:=[] }/\Hid (LF w W b k T NM BS NS ex T' V)) (fun _ V=>lenAt b V) rfl ?_ ?_
 ·go_wp2_with fail
  refine(HU.o W m T NS hT hN HW.o).mono ?_
  rintro e V0 ⟨res,hres,(⟨rfl,rfl,hb⟩|⟨ex,P0,T',rfl,hsp,rfl,hR,hk⟩)⟩
  ·have HB:=aA hb
   have HN:=aA hres
   clear hb hres
   go_wp2_with fail
   try simp only[Exit.jump]
   exact⟨rfl,none,R.lv_none hk7 HN.o,.inl ⟨rfl,rfl,HB.o⟩⟩
  ·have HF:=aA (show LF w W b k T NM BS NS ex T' V0 from⟨⟨P0,hsp⟩,fun res h=>R.lv_go hk7 hres h,hR,hk,by have:=oP hres;simpa using this⟩)
   clear hres hsp hR hk HW
   go_wp2_with fail
   go_step3
   obtain⟨mL,hmL⟩:=HF.o.rd
   have HM:=aA hmL
   have hw:=aA hmL.wf
   have hsz:=HF.o.sz
   clear hmL
   have HO:=aA fun Z=>sP k (sB (hd T').text) Z
   rw[qH] at HO
   by_cases hop:zG k (hd T').text=0
   ·have HS:=aA (aSu hw.o hop)
    rw[hop] at HO
    clear hop
    go_wp2_with fail
    refine(eZ HM.o).mono ?_
    rintro e V1 ⟨rfl,hb⟩
    have HR1:=aA (HM.o.later hb)
    have HK1:=aA (HF.o.kp.trans (Kp.of_below SX hb))
    generalize sB (hd T').text=u at HO ⊢
    generalize ((hd T').pos:Int)=p
    generalize (hd T').kind=kk
    clear hb
    go_wp2_with fail
    refine(HO.o _).mono ?_
    rintro e V2 ⟨rfl,hb⟩
    have HR2:=aA (HR1.o.later hb)
    have HK2:=aA (HK1.o.trans (Kp.of_below SX hb))
    clear hb
    go_wp2_with fail
    try simp only[Exit.jump]
    go_ret
    obtain⟨P,hP⟩:=HF.o.pre
    exact⟨_,HF.o.go _ (R.lp_stop HS.o),.inr ⟨ex,P,T',rfl,hP,rfl,⟨_,HR2.o⟩,HK2.o⟩⟩
   ·obtain⟨t,T1,rfl,hab⟩:=aSj hw.o hop
    obtain⟨o,ho⟩:∃ o,zG k (hd (t::T1)).text=o:=⟨_,rfl⟩
    rw[ho] at HO hop hab
    have hoz:(o==0)=false:=by simpa using hop
    have HAB:=aA (show (t::T1).map ab=.op k o::T1.map ab by rw[List.map_cons,hab])
    rw[List.length_cons] at hsz
    clear ho hop hab hw
    go_wp2_with fail
    refine(eZ HM.o).mono ?_
    rintro e V1 ⟨rfl,hb⟩
    have HR1:=aA (HM.o.later hb)
    have HK1:=aA (HF.o.kp.trans (Kp.of_below SX hb))
    generalize sB (hd (t::T1)).text=u at HO ⊢
    generalize ((hd (t::T1)).pos:Int)=p
    generalize (hd (t::T1)).kind=kk
    clear hb
    go_wp2_with fail
    refine(HO.o _).mono ?_
    rintro e V2 ⟨rfl,hb⟩
    have HR2:=aA (HR1.o.later hb)
    have HK2:=aA (HK1.o.trans (Kp.of_below SX hb))
    clear hb
    go_wp2_with fail
    refine(dP HR2.o).mono ?_
    rintro e V3 ⟨rfl,⟨m3,hR⟩,hk⟩
    have HR3:=aA hR
    have HK3:=aA (HK2.o.trans hk)
    clear hR hk
    go_wp2_with fail
    refine(HU.o V3 m3 T1 (NS++ex.flat NS.length) (by omega) (by rw[List.length_append,E.flat_len];omega) HR3.o).mono ?_
    rintro e V4 ⟨res,hres,(⟨rfl,rfl,hb⟩|⟨e2,P4,T4,rfl,hsp,rfl,⟨m4,hR⟩,hk⟩)⟩
    ·have HB:=aA hb
     have HN:=aA hres
     clear hb hres
     go_wp2_with fail
     try simp only[Exit.jump]
     exact⟨rfl,none,HF.o.go _ (by rw[HAB.o];exact R.lp_none HN.o),.inl ⟨rfl,rfl,HB.o⟩⟩
    ·have HRES:=aA hres
     have HSP:=aA hsp
     have hl2:e2.size+T4.length<=T1.length:=by have:=oP hres;simpa using this
     rw[show (NS++ex.flat NS.length).length=NS.length+ex.size by rw[List.length_append,E.flat_len]] at hR ⊢
     have HR4:=aA hR
     have HK4:=aA (HK3.o.trans hk)
     clear hres hsp hR hk
     go_wp2_with fail
     refine(eY HR4.o ⟨o,((NS.length+ex.size:Nat):Int)-1,((NS.length+ex.size+e2.size:Nat):Int)-1,0,0,0,0,0,0⟩ (by simp[E.flat_len];omega)).mono ?_
     rintro e V5 ⟨rfl,hR,hk⟩
     rw[show NS++ex.flat NS.length++e2.flat (NS.length+ex.size)++[⟨o,((NS.length+ex.size:Nat):Int)-1,((NS.length+ex.size+e2.size:Nat):Int)-1,0,0,0,0,0,0⟩]=NS++(E.bin o ex e2).flat NS.length by simp[E.flat]] at hR
     have HR5:=aA hR
     have HK5:=aA (HK4.o.trans hk)
     rw[show (((NS++ex.flat NS.length++e2.flat (NS.length+ex.size)).length:Nat):Int)=((NS.length+(E.bin o ex e2).size:Nat):Int)-1 by simp[E.flat_len,E.size];omega]
     clear hR hk
     obtain⟨P,hP⟩:=HF.o.pre
     have HPP:=aA (show T=(P++t::P4)++T4 by rw[hP,HSP.o];simp)
     clear hP
     by_cases h3:k=3
     ·subst h3
      go_wp2_with fail
      try simp only[Exit.jump]
      go_ret
      exact⟨_,HF.o.go _ (by rw[HAB.o];exact R.lp_cmp HRES.o),.inr ⟨E.bin o ex e2,P++t::P4,T4,rfl,HPP.o,rfl,HR5.o,HK5.o⟩⟩
     ·have h3':((k:Int) != 3)=true:=by simp;omega
      have H3:=aA h3
      clear h3
      go_wp2_with fail
      go_step3
      have HF2:=aA (show LF w W b k T NM BS NS (E.bin o ex e2) T4 V5 from⟨⟨_,HPP.o⟩,fun res h=>HF.o.go _ (by rw[HAB.o];exact R.lp_go H3.o HRES.o h),HR5.o,HK5.o,by simp[E.size];omega⟩)
      exact⟨rfl,E.bin o ex e2,T4,_,_,_,_,_,_,_,_,_,_,_,_,_,_,_,_,_,_,_,_,_,_,_,_,_,_,_,_,_,_,_,_,_,rfl,HF2⟩
 ·rintro a' V ⟨ex,T',u6,u7,u8,u9,u10,u11,u12,u13,u14,u15,u16,u17,u18,u19,u20,u21,u22,u23,u24,u25,u26,u27,u28,u29,u30,u31,u32,u33,u34,u35,u36,u37,u38,rfl,HF⟩
  clear HW
  obtain⟨mL,hmL⟩:=HF.o.rd
  have HM:=aA hmL
  have hw:=aA hmL.wf
  have hsz:=HF.o.sz
  clear hmL
  have HO:=aA fun Z=>sP k (sB (hd T').text) Z
  rw[qH] at HO
  by_cases hop:zG k (hd T').text=0
  ·have HS:=aA (aSu hw.o hop)
   rw[hop] at HO
   clear hop
   go_wp2_with fail
   refine(eZ HM.o).mono ?_
   rintro e V1 ⟨rfl,hb⟩
   have HR1:=aA (HM.o.later hb)
   have HK1:=aA (HF.o.kp.trans (Kp.of_below SX hb))
   generalize sB (hd T').text=u at HO ⊢
   generalize ((hd T').pos:Int)=p
   generalize (hd T').kind=kk
   clear hb
   go_wp2_with fail
   refine(HO.o _).mono ?_
   rintro e V2 ⟨rfl,hb⟩
   have HR2:=aA (HR1.o.later hb)
   have HK2:=aA (HK1.o.trans (Kp.of_below SX hb))
   clear hb
   go_wp2_with fail
   try simp only[Exit.jump]
   go_ret
   obtain⟨P,hP⟩:=HF.o.pre
   exact⟨_,HF.o.go _ (R.lp_stop HS.o),.inr ⟨ex,P,T',rfl,hP,rfl,⟨_,HR2.o⟩,HK2.o⟩⟩
  ·obtain⟨t,T1,rfl,hab⟩:=aSj hw.o hop
   obtain⟨o,ho⟩:∃ o,zG k (hd (t::T1)).text=o:=⟨_,rfl⟩
   rw[ho] at HO hop hab
   have hoz:(o==0)=false:=by simpa using hop
   have HAB:=aA (show (t::T1).map ab=.op k o::T1.map ab by rw[List.map_cons,hab])
   rw[List.length_cons] at hsz
   clear ho hop hab hw
   go_wp2_with fail
   refine(eZ HM.o).mono ?_
   rintro e V1 ⟨rfl,hb⟩
   have HR1:=aA (HM.o.later hb)
   have HK1:=aA (HF.o.kp.trans (Kp.of_below SX hb))
   generalize sB (hd (t::T1)).text=u at HO ⊢
   generalize ((hd (t::T1)).pos:Int)=p
   generalize (hd (t::T1)).kind=kk
   clear hb
   go_wp2_with fail
   refine(HO.o _).mono ?_
   rintro e V2 ⟨rfl,hb⟩
   have HR2:=aA (HR1.o.later hb)
   have HK2:=aA (HK1.o.trans (Kp.of_below SX hb))
   clear hb
   go_wp2_with fail
   refine(dP HR2.o).mono ?_
   rintro e V3 ⟨rfl,⟨m3,hR⟩,hk⟩
   have HR3:=aA hR
   have HK3:=aA (HK2.o.trans hk)
   clear hR hk
   go_wp2_with fail
   refine(HU.o V3 m3 T1 (NS++ex.flat NS.length) (by omega) (by rw[List.length_append,E.flat_len];omega) HR3.o).mono ?_
   rintro e V4 ⟨res,hres,(⟨rfl,rfl,hb⟩|⟨e2,P4,T4,rfl,hsp,rfl,⟨m4,hR⟩,hk⟩)⟩
   ·have HB:=aA hb
    have HN:=aA hres
    clear hb hres
    go_wp2_with fail
    try simp only[Exit.jump]
    exact⟨rfl,none,HF.o.go _ (by rw[HAB.o];exact R.lp_none HN.o),.inl ⟨rfl,rfl,HB.o⟩⟩
   ·have HRES:=aA hres
    have HSP:=aA hsp
    have hl2:e2.size+T4.length<=T1.length:=by have:=oP hres;simpa using this
    rw[show (NS++ex.flat NS.length).length=NS.length+ex.size by rw[List.length_append,E.flat_len]] at hR ⊢
    have HR4:=aA hR
    have HK4:=aA (HK3.o.trans hk)
    clear hres hsp hR hk
    go_wp2_with fail
    refine(eY HR4.o ⟨o,((NS.length+ex.size:Nat):Int)-1,((NS.length+ex.size+e2.size:Nat):Int)-1,0,0,0,0,0,0⟩ (by simp[E.flat_len];omega)).mono ?_
    rintro e V5 ⟨rfl,hR,hk⟩
    rw[show NS++ex.flat NS.length++e2.flat (NS.length+ex.size)++[⟨o,((NS.length+ex.size:Nat):Int)-1,((NS.length+ex.size+e2.size:Nat):Int)-1,0,0,0,0,0,0⟩]=NS++(E.bin o ex e2).flat NS.length by simp[E.flat]] at hR
    have HR5:=aA hR
    have HK5:=aA (HK4.o.trans hk)
    rw[show (((NS++ex.flat NS.length++e2.flat (NS.length+ex.size)).length:Nat):Int)=((NS.length+(E.bin o ex e2).size:Nat):Int)-1 by simp[E.flat_len,E.size];omega]
    clear hR hk
    obtain⟨P,hP⟩:=HF.o.pre
    have HPP:=aA (show T=(P++t::P4)++T4 by rw[hP,HSP.o];simp)
    clear hP
    by_cases h3:k=3
    ·subst h3
     go_wp2_with fail
     try simp only[Exit.jump]
     go_ret
     exact⟨_,HF.o.go _ (by rw[HAB.o];exact R.lp_cmp HRES.o),.inr ⟨E.bin o ex e2,P++t::P4,T4,rfl,HPP.o,rfl,HR5.o,HK5.o⟩⟩
    ·have h3':((k:Int) != 3)=true:=by simp;omega
     have H3:=aA h3
     clear h3
     go_wp2_with fail
     go_step3
     have HF2:=aA (show LF w W b k T NM BS NS (E.bin o ex e2) T4 V5 from⟨⟨_,HPP.o⟩,fun res h=>HF.o.go _ (by rw[HAB.o];exact R.lp_go H3.o HRES.o h),HR5.o,HK5.o,by simp[E.size];omega⟩)
     refine⟨rfl,⟨E.bin o ex e2,T4,_,_,_,_,_,_,_,_,_,_,_,_,_,_,_,_,_,_,_,_,_,_,_,_,_,_,_,_,_,_,_,_,_,rfl,HF2⟩,?_⟩
     obtain⟨m5,hm5⟩:=HR5.o
     rw[hm5.lenAt,HM.o.lenAt,List.length_cons]
     omega
end Go.Proofs.YtihbhbeaihdgnaaGreat
