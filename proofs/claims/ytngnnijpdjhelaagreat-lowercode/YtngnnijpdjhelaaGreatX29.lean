import Derived.Test.YtngnnijpdjhelaaGreatX28
namespace Go.Proofs.YtngnnijpdjhelaaGreat
open Go.RowKit Go.IntWalk Lx Pz
set_option linter.unusedVariables false
set_option maxRecDepth 100000
set_option maxHeartbeats 16000000
def CH (w:World)(b:Nat)(NM:List Txt)(BS:List Int)(n:Nat):Prop:=∀(W:World) (m:Mm) (T:List Tok) (NS:List Nd),T.length < n->NS.length+T.length<=2000->Rd w W b m T NM BS NS ->
 Calls Tryz.prog 62 #[ptr b] W fun e W'=>∃ res,R NM (.at 0) (T.map ab) res/\Ok w W b T NM BS NS res e W'
theorem ari_arZ {s:Txt}(h:calO s≠0):arZ (calO s)=(ari (calO s):Int):=by
 unfold calO at h ⊢
 split
 ·rfl
 split
 ·rfl
 split
 ·rfl
 split
 ·rfl
 split
 ·rfl
 split
 ·rfl
 ·rename_i h1 h2 h3 h4 h5 h6
  rw[if_neg h1,if_neg h2,if_neg h3,if_neg h4,if_neg h5,if_neg h6] at h
  exact absurd rfl h
abbrev prt (es:List E)(s:Nat):Array Value:=#[.int .i64 (p1 es s),.int .i64 (p2 es s),.int .i64 (p3 es s)]
theorem prt_snoc {es:List E}(h:es.length < 3)(a:E)(s:Nat):(prt es s).setIfInBounds es.length (.int .i64 ((s+szL es+a.size:Nat)-1:Int))=prt (es++[a]) s:=by
 match es,h with
 | [],_=>simp[prt,p1,p2,p3,szL]
 | [b],_=>simp[prt,p1,p2,p3,szL]
 | [b,c],_=>simp[prt,p1,p2,p3,szL,Nat.add_assoc]
 | _::_::_::_,h=>simp at h;omega
theorem call_rd {w W:World}{b n:Nat}{m:Mm}{T:List Tok}{NM:List Txt}{BS:List Int}{NS:List Nd}(hch:CH w b NM BS n)(h:Rd w W b m T NM BS NS)(hT:T.length<=n)(hN:NS.length+T.length<=1999)(s:Txt)(hs:calO s≠0) :
  Calls Tryz.prog 190 #[ptr b,.int .i64 (calO s)] W fun e W'=>∃ res,R NM (.at 8) (.word s::T.map ab) res/\Ok w W b T NM BS NS res e W':=by
 have HC:=hide hch
 have HS:=hide hs
 have hw:=hide h.wf
 have HA:=hide fun V=>arity_any (calO s) V
 rw[ari_arZ hs] at HA
 have HAR:=hide (calO_ari hs)
 have HP0:=hide (Pl.begin h 158 (prt [] NS.length))
 obtain⟨o,ho⟩:∃ o,calO s=o:=⟨_,rfl⟩
 obtain⟨A,hA⟩:∃ A,ari (calO s)=A:=⟨_,rfl⟩
 have HO:=hide ho
 have HAA:=hide hA
 rw[hA] at HA HAR
 rw[ho] at HA ⊢
 have hA3:A<=3:=by have:=HAR.out;omega
 have hA1:1<=A:=by have:=HAR.out;omega
 clear h hs ho hA hch
 go_enter Tryz.func190,Tryz.ntmps190
 go_upto_region 2 with fail
 obtain⟨q,hq⟩:∃ q,W.heap.size=q:=⟨_,rfl⟩
 rw[hq] at HP0 ⊢
 generalize hV0:W.alloc (.cells (prt [] NS.length) 158)=V0 at HP0
 rw[show W.alloc (.cells #[.int .i64 0,.int .i64 0,.int .i64 0] 158)=V0 from hV0]
 clear hq hV0
 obtain⟨m0,hm0⟩:=HP0.out.rd
 have HM0:=hide hm0
 clear hm0
 by_cases hl:(T.map ab).head?=some .lp
 ·obtain⟨t1,T1,rfl,h1⟩:=hd_cons hl
  have hs1:=hide ((text_iff (hw.out t1 (by simp)) (s:=[40]) (by decide)).2 h1)
  have H1:=hide (show (t1::T1).map ab=.lp::T1.map ab by rw[List.map_cons,h1])
  rw[List.length_cons] at hT hN
  clear hl h1 hw
  go_wp2_with fail
  refine(need_yes HM0.out _ hs1.out).mono ?_
  rintro e V1 ⟨rfl,hR,hk⟩
  have HP:=hide (HP0.out.step (by decide) hR hk)
  clear hR hk HP0 HM0
  go_wp2_with fail
  refine(HA.out _).mono ?_
  rintro e V2 ⟨rfl,rfl⟩
  go_wp2_with fail
  go_loopw [11] (fun k V=>∃(i:Nat) (es:List E) (P T':List Tok),i<=A/\k=.int .i64 i/\Hid (es.length=i)/\Hid (T1=P++T')/\Hid (AR NM (T1.map ab) es (T'.map ab))/\Hid (Pl w W V b T' NM BS (NS++flL es NS.length) q 158 (prt es NS.length))) (fun k _=>A-(intOf k).toNat)
  case atStart=>exact⟨0,[],[],T1,by omega,rfl,hide rfl,hide rfl,hide AR.nil,hide (by simpa [flL] using HP.out)⟩
  case round =>
   obtain⟨i,es,P,T',hi,rfl,HL,HT,HR,HPl⟩:=hrel
   have HLn:=hide HR.out.len
   have hTl:T'.length<=T1.length:=by rw[HT.out,List.length_append];omega
   rename World=>V3
   obtain⟨m3,hm3⟩:=HPl.out.rd
   have HM3:=hide hm3
   have hw3:=hide hm3.wf
   clear hm3
   by_cases hlt:i < A
   ·have hlt3:i < 3:=by omega
    by_cases h0:i=0
    ·subst h0
     have hes:es=[]:=List.length_eq_zero_iff.1 HL.out
     have HE:=hide hes
     clear hes
     go_wp2_with fail
     refine(HC.out V3 m3 T' (NS++flL es NS.length) (by omega) (by rw[List.length_append,flL_len];have:=HLn.out;simp at this;omega) HM3.out).mono ?_
     rintro e V5 ⟨res,hres,(⟨rfl,rfl,hb⟩|⟨a,P5,T5,rfl,hsp,rfl,hR,hk⟩)⟩
     ·have HB:=hide hb
      have HN:=hide hres
      clear hb hres
      go_wp2_with fail
      exact⟨rfl,none,by rw[H1.out];exact HR.out.no_part (by rw[HAA.out,HL.out];exact hlt) (.inl ⟨HE.out,rfl⟩) HN.out,.inl ⟨rfl,rfl,HB.out⟩⟩
     ·have HRES:=hide hres
      have HSP:=hide hsp
      have HP5:=hide (HPl.out.step (by decide) hR hk)
      have e5:(NS++flL es NS.length).length=NS.length+szL es:=by rw[List.length_append,flL_len]
      rw[e5,List.append_assoc,<-flL_snoc] at HP5
      rw[e5]
      obtain⟨d0,d1,d2⟩:=facts3 HP5.out.va
      obtain⟨y0,y1,y2⟩:=free3 HP5.out.va
      have HP6:=hide (HP5.out.store (by decide) es.length (.int .i64 ((NS.length+szL es+a.size:Nat)-1:Int)))
      rw[prt_snoc (by rw[HL.out];omega),HL.out] at HP6
      generalize (((NS.length+szL es+a.size:Nat):Int)-1)=z at HP6 ⊢
      clear hR hk hres hsp e5
      go_upto_region 9 with fail
      generalize V5.setCell ⟨q,0,none⟩ (.int .i64 z)=V6 at HP6 ⊢
      clear d0 d1 d2 y0 y1 y2
      go_wp2_with fail
      go_roundw
      case rel=>exact⟨1,es++[a],P++P5,T5,by omega,rfl,hide (by simp[HL.out]),hide (by rw[HT.out,HSP.out,List.append_assoc]),hide (by rw[HE.out] at HR ⊢;rw[<-HR.out.nil_inv];exact AR.one HRES.out),HP6⟩
      case measure=>simp[intOf];omega
    ·have hpos:(0:Int) < i:=by omega
     have HNE:=hide (show es≠[] from fun e=>by have:=HL.out;rw[e] at this;simp at this;omega)
     by_cases hc:(T'.map ab).head?=some .comma
     ·obtain⟨t4,T4,rfl,h4⟩:=hd_cons hc
      have hs4:=hide ((text_iff (hw3.out t4 (by simp)) (s:=[44]) (by decide)).2 h4)
      have H4:=hide (show (t4::T4).map ab=.comma::T4.map ab by rw[List.map_cons,h4])
      rw[List.length_cons] at hTl
      clear hc h4 hw3 h0
      go_wp2_with fail
      refine(need_yes HM3.out _ hs4.out).mono ?_
      rintro e V4 ⟨rfl,hR,hk⟩
      have HP4:=hide (HPl.out.step (by decide) hR hk)
      clear hR hk HPl HM3
      obtain⟨m4,hm4⟩:=HP4.out.rd
      have HM4:=hide hm4
      clear hm4
      go_wp2_with fail
      refine(HC.out V4 m4 T4 (NS++flL es NS.length) (by omega) (by rw[List.length_append,flL_len];have:=HLn.out;simp at this;omega) HM4.out).mono ?_
      rintro e V5 ⟨res,hres,(⟨rfl,rfl,hb⟩|⟨a,P5,T5,rfl,hsp,rfl,hR,hk⟩)⟩
      ·have HB:=hide hb
       have HN:=hide hres
       clear hb hres
       go_wp2_with fail
       exact⟨rfl,none,by rw[H1.out];exact HR.out.no_part (by rw[HAA.out,HL.out];exact hlt) (.inr ⟨HNE.out,H4.out⟩) HN.out,.inl ⟨rfl,rfl,HB.out⟩⟩
      ·have HRES:=hide hres
       have HSP:=hide hsp
       have HP5:=hide (HP4.out.step (by decide) hR hk)
       have e5:(NS++flL es NS.length).length=NS.length+szL es:=by rw[List.length_append,flL_len]
       rw[e5,List.append_assoc,<-flL_snoc] at HP5
       rw[e5]
       obtain⟨d0,d1,d2⟩:=facts3 HP5.out.va
       obtain⟨y0,y1,y2⟩:=free3 HP5.out.va
       have HP6:=hide (HP5.out.store (by decide) es.length (.int .i64 ((NS.length+szL es+a.size:Nat)-1:Int)))
       rw[prt_snoc (by rw[HL.out];omega),HL.out] at HP6
       generalize (((NS.length+szL es+a.size:Nat):Int)-1)=z at HP6 ⊢
       clear hR hk hres hsp e5
       have hi0:(0:Int)<=i:=by omega
       have hi3:(i:Int) < 3:=by omega
       have hlt2:i < 3:=by omega
       have HC5:=hide HP5.out.va
       have di:∃ u,V5.cell? ⟨q,i,none⟩=some u:=by
        rcases(show i=0\/i=1\/i=2 by omega) with rfl|rfl|rfl
        ·exact⟨_,d0⟩
        ·exact⟨_,d1⟩
        ·exact⟨_,d2⟩
       obtain⟨u,di⟩:=di
       have yi:V5.frozen? ⟨q,i,none⟩=false:=HC5.out.frozen i
       clear d0 d1 d2 y0 y1 y2
       go_upto_region 9 with fail
       generalize V5.setCell ⟨q,i,none⟩ (.int .i64 z)=V6 at HP6 ⊢
       clear di yi
       go_wp2_with fail
       go_roundw
       case rel=>exact⟨i+1,es++[a],P++t4::P5,T5,by omega,by go_num,hide (by simp[HL.out]),hide (by rw[HT.out,HSP.out];simp),hide (AR.more HNE.out (by rw[<-H4.out];exact HR.out) HRES.out),HP6⟩
       case measure=>simp[intOf];omega
     ·have hs4:=hide (hd_ne (s:=[44]) hw3.out (by decide) hc)
      have HCM:=hide hc
      clear hc hw3 h0
      go_wp2_with fail
      refine(need_no HM3.out _ hs4.out).mono ?_
      rintro e V4 ⟨rfl,hb⟩
      have HB:=hide (bel HM3.out.old hb)
      clear hb
      go_wp2_with fail
      exact⟨rfl,none,by rw[H1.out];exact HR.out.no_comma (by rw[HL.out];omega) (by rw[HAA.out,HL.out];exact hlt) HCM.out,.inl ⟨rfl,rfl,HB.out⟩⟩
   ·obtain rfl:i=A:=by omega
    by_cases hr:(T'.map ab).head?=some .rp
    ·obtain⟨t8,T8,rfl,h8⟩:=hd_cons hr
     have hs8:=hide ((text_iff (hw3.out t8 (by simp)) (s:=[41]) (by decide)).2 h8)
     have H8:=hide (show (t8::T8).map ab=.rp::T8.map ab by rw[List.map_cons,h8])
     clear hr h8 hw3
     go_wp2_with fail
     refine(need_yes HM3.out _ hs8.out).mono ?_
     rintro e V8 ⟨rfl,hR,hk⟩
     have HP8:=hide (HPl.out.step (by decide) hR hk)
     clear hR hk HPl HM3
     obtain⟨m8,hm8⟩:=HP8.out.rd
     have HM8:=hide hm8
     clear hm8
     obtain⟨d0,d1,d2⟩:=facts3 HP8.out.va
     go_wp2_with fail
     refine(node_any HM8.out ⟨o,p1 es NS.length,p2 es NS.length,p3 es NS.length,0,0,0,0,0⟩ (by rw[List.length_append,flL_len];have:=HLn.out;simp at this;omega)).mono ?_
     rintro e V9 ⟨rfl,hR,hk⟩
     have hfl:=mkE_flat (o:=o) (es:=es) (by rw[HL.out];exact HAR.out) NS.length
     rw[List.append_assoc,<-hfl.1] at hR
     have HZ:=hide hfl.2
     have HR9:=hide hR
     have HK9:=hide (HP8.out.kp.trans hk)
     rw[show (NS++flL es NS.length).length=NS.length+szL es by rw[List.length_append,flL_len]]
     clear hR hk d0 d1 d2 hfl
     go_wp2_with fail
     go_ret
     refine⟨some (mkE o es,T8.map ab),?_,.inr ⟨mkE o es,t1::(P++[t8]),T8,rfl,by rw[HT.out];simp,ret_int (by rw[HZ.out];omega),HR9.out,HK9.out⟩⟩
     have:=HR.out.ends (s:=s) (by rw[HL.out];omega) (by rw[HL.out,HAA.out])
     rw[H8.out,eat_mk,HO.out] at this
     rw[H1.out]
     exact this
    ·have hs8:=hide (hd_ne (s:=[41]) hw3.out (by decide) hr)
     have HRP:=hide hr
     clear hr hw3
     go_wp2_with fail
     refine(need_no HM3.out _ hs8.out).mono ?_
     rintro e V8 ⟨rfl,hb⟩
     have HB:=hide (bel HM3.out.old hb)
     clear hb
     go_wp2_with fail
     refine⟨rfl,none,?_,.inl ⟨rfl,rfl,HB.out⟩⟩
     have:=HR.out.ends (s:=s) (by rw[HL.out];omega) (by rw[HL.out,HAA.out])
     rw[eat_no HRP.out] at this
     rw[H1.out]
     exact this
 ·have hs1:=hide (hd_ne (s:=[40]) hw.out (by decide) hl)
  have HL:=hide hl
  clear hl hw
  go_wp2_with fail
  refine(need_no HM0.out _ hs1.out).mono ?_
  rintro e V1 ⟨rfl,hb⟩
  have HB:=hide (bel HM0.out.old hb)
  clear hb
  go_wp2_with fail
  exact⟨rfl,none,R.callx HS.out HL.out,.inl ⟨rfl,rfl,HB.out⟩⟩
theorem Ok.cons {w W W1:World}{b:Nat}{t:Tok}{T:List Tok}{NM:List Txt}{BS:List Int}{NS:List Nd}{res:Option (E × List Tk)}{e:Ending}{W':World}(h:Ok w W1 b T NM BS NS res e W')(hk:Kp SX W W1):Ok w W b (t::T) NM BS NS res e W':=by
 rcases h with h|⟨ex,P,T',h1,h2,h3,h4,h5⟩
 ·exact .inl h
 ·exact .inr ⟨ex,t::P,T',h1,by rw[h2];rfl,h3,h4,hk.trans h5⟩
theorem wd_in {nm:List Txt}{s:Txt}(h:0<=inK s):wd nm s=some (.leaf (lf 2 (inK s) 0 0 0 0)):=by unfold wd;rw[if_pos h]
theorem wd_use {nm:List Txt}{s:Txt}(h:¬0<=inK s):wd nm s=if nm.contains s then some (.leaf (lf 4 (pos nm s) 0 0 0 0)) else none:=by unfold wd;rw[if_neg h]
theorem word_rd {w W:World}{b n:Nat}{m:Mm}{t:Tok}{T:List Tok}{NM:List Txt}{BS:List Int}{NS:List Nd}(hch:CH w b NM BS n)(h:Rd w W b m (t::T) NM BS NS)(hT:T.length<=n)(hN:NS.length+T.length<=1999)(s:Txt)(hs:ab t=.word s) :
  Calls Tryz.prog 177 #[ptr b] W fun e W'=>∃ res,R NM (.at 8) ((t::T).map ab) res/\Ok w W b (t::T) NM BS NS res e W':=by
 have HC:=hide hch
 have HW:=hide h
 have F1:=fldT1
 have hwf:=h.wf t (by simp)
 obtain⟨-,hw2,hts⟩:=kind2 hwf hs
 have H1:=hide (show (t::T).map ab=.word s::T.map ab by rw[List.map_cons,hs])
 rw[hts] at hw2
 have HTS:=hide hts
 have HWR:=hide hw2
 clear h hch hwf hw2 hts hs
 by_cases hp:s=wP
 ·subst hp
  go_enter Tryz.func177,Tryz.ntmps177
  go_wp2_with fail
  refine(next_cons HW.out).mono ?_
  rintro e V1 ⟨rfl,⟨m1,hR⟩,hk⟩
  have HR:=hide hR
  have HK:=hide hk
  rw[HTS.out,show sB wP=⟨#[112]⟩ from rfl]
  clear hR hk
  go_wp2_with fail
  refine(place_p HR.out (by omega)).mono ?_
  rintro e V2 hok
  have HOK:=hide (hok.cons (t:=t) HK.out)
  have HD:=hide (show R NM (.at 8) ((t::T).map ab) (plc false (T.map ab)) by rw[H1.out];exact R.place (.inl rfl))
  rcases hok with⟨-,rfl,-⟩|⟨ex,-,-,-,-,rfl,-⟩
  ·go_wp2_with fail
   exact⟨rfl,_,HD.out,HOK.out⟩
  ·go_wp2_with fail
   go_ret
   exact⟨_,HD.out,HOK.out⟩
 by_cases hq:s=wQ
 ·subst hq
  clear hp
  go_enter Tryz.func177,Tryz.ntmps177
  go_wp2_with fail
  refine(next_cons HW.out).mono ?_
  rintro e V1 ⟨rfl,⟨m1,hR⟩,hk⟩
  have HR:=hide hR
  have HK:=hide hk
  rw[HTS.out,show sB wQ=⟨#[113]⟩ from rfl]
  clear hR hk
  go_wp2_with fail
  refine(place_q HR.out (by omega)).mono ?_
  rintro e V2 hok
  have HOK:=hide (hok.cons (t:=t) HK.out)
  have HD:=hide (show R NM (.at 8) ((t::T).map ab) (plc true (T.map ab)) by rw[H1.out];exact R.place (.inr rfl))
  rcases hok with⟨-,rfl,-⟩|⟨ex,-,-,-,-,rfl,-⟩
  ·go_wp2_with fail
   exact⟨rfl,_,HD.out,HOK.out⟩
  ·go_wp2_with fail
   go_ret
   exact⟨_,HD.out,HOK.out⟩
 have kp:((sB s).toList==[112])=false:=by rw[toList_bs,bs_sB];simpa [wP] using hp
 have kq:((sB s).toList==[113])=false:=by rw[toList_bs,bs_sB];simpa [wQ] using hq
 have HP:=hide hp
 have HQ:=hide hq
 have HCa:=hide fun V=>called_any (sB s) V
 have HIn:=hide fun V=>input_any (sB s) V
 rw[bs_sB] at HCa HIn
 clear hp hq
 by_cases hc:calO s=0
 ·have HCz:=hide hc
  rw[hc] at HCa
  by_cases hi:0<=inK s
  ·have HWD:=hide (wd_in (nm:=NM) hi)
   obtain⟨k,hkk⟩:∃ k,inK s=k:=⟨_,rfl⟩
   rw[hkk] at HIn HWD hi
   clear hc hkk
   generalize hu:sB s=u at kp kq HCa HIn
   have HU:=hide hu
   clear hu
   go_enter Tryz.func177,Tryz.ntmps177
   go_wp2_with fail
   refine(next_cons HW.out).mono ?_
   rintro e V1 ⟨rfl,⟨m1,hR⟩,hk⟩
   have HR:=hide hR
   have HK:=hide hk
   rw[HTS.out,HU.out]
   clear hR hk
   go_wp2_with fail
   refine(HCa.out _).mono ?_
   rintro e V2 ⟨rfl,rfl⟩
   go_wp2_with fail
   refine(HIn.out _).mono ?_
   rintro e V2 ⟨rfl,rfl⟩
   go_wp2_with fail
   refine(node_any HR.out (lf 2 k 0 0 0 0) (by omega)).mono ?_
   rintro e V3 ⟨rfl,hR,hk⟩
   have HR3:=hide hR
   have HK3:=hide (HK.out.trans hk)
   clear hR hk
   go_wp2_with fail
   go_ret
   refine⟨some (.leaf (lf 2 k 0 0 0 0),T.map ab),?_,.inr ⟨.leaf (lf 2 k 0 0 0 0),[t],T,rfl,rfl,ret_size _ rfl,HR3.out,HK3.out⟩⟩
   have:=R.word (nm:=NM) (l:=T.map ab) HP.out HQ.out HCz.out
   rw[HWD.out] at this
   rw[H1.out];exact this
  ·have HWD:=hide (wd_use (nm:=NM) hi)
   obtain⟨k,hkk⟩:∃ k,inK s=k:=⟨_,rfl⟩
   rw[hkk] at HIn hi
   have hi':k < 0:=by omega
   clear hc hkk hi
   have HIx:=hide (show ∀(V:World) (a:Option Addr) (n cap:Nat),Tx V a n cap NM->Calls Tryz.prog 133 #[.slice a n cap,.string (sB s)] V fun e W'=>e=.returned (.int .i64 (ixZ NM s))/\W'=V from fun V a n cap hx=>by
    have:=index_any hx (sB s)
    rw[bs_sB] at this
    exact this)
   cases hct:NM.contains s with
   | true =>
    rw[hct,if_pos rfl] at HWD
    rw[show ixZ NM s=(pos NM s:Int) by unfold ixZ;rw[hct];rfl] at HIx
    generalize pos NM s=z at HWD HIx
    generalize hu:sB s=u at kp kq HCa HIn HIx
    have HU:=hide hu
    clear hu hct
    go_enter Tryz.func177,Tryz.ntmps177
    go_wp2_with fail
    refine(next_cons HW.out).mono ?_
    rintro e V1 ⟨rfl,⟨m1,hR⟩,hk⟩
    have HR:=hide hR
    have HK:=hide hk
    rw[HTS.out,HU.out]
    clear hR hk
    obtain⟨a1,cap1,hn1,hTx⟩:=Tx.of_owns HR.out.names
    have HTx:=hide hTx
    have c1:V1.cell? ⟨b,1,none⟩=some (.slice a1 NM.length cap1):=by rw[<-hn1];exact HR.out.blk.cell 1 rfl
    clear hTx hn1
    go_wp2_with fail
    refine(HCa.out _).mono ?_
    rintro e V2 ⟨rfl,rfl⟩
    go_wp2_with fail
    refine(HIn.out _).mono ?_
    rintro e V2 ⟨rfl,rfl⟩
    go_wp2_with fail
    refine(HIx.out _ _ _ _ HTx.out).mono ?_
    rintro e V2 ⟨rfl,rfl⟩
    go_wp2_with fail
    refine(node_any HR.out (lf 4 z 0 0 0 0) (by omega)).mono ?_
    rintro e V3 ⟨rfl,hR,hk⟩
    have HR3:=hide hR
    have HK3:=hide (HK.out.trans hk)
    clear hR hk
    go_wp2_with fail
    go_ret
    refine⟨some (.leaf (lf 4 z 0 0 0 0),T.map ab),?_,.inr ⟨.leaf (lf 4 z 0 0 0 0),[t],T,rfl,rfl,ret_size _ rfl,HR3.out,HK3.out⟩⟩
    have:=R.word (nm:=NM) (l:=T.map ab) HP.out HQ.out HCz.out
    rw[HWD.out] at this
    rw[H1.out];exact this
   | false =>
    rw[hct,if_neg (by decide)] at HWD
    rw[show ixZ NM s=-1 by unfold ixZ;rw[hct];rfl] at HIx
    generalize hu:sB s=u at kp kq HCa HIn HIx
    have HU:=hide hu
    clear hu hct
    go_enter Tryz.func177,Tryz.ntmps177
    go_wp2_with fail
    refine(next_cons HW.out).mono ?_
    rintro e V1 ⟨rfl,⟨m1,hR⟩,hk⟩
    have HR:=hide hR
    have HK:=hide hk
    rw[HTS.out,HU.out]
    clear hR hk
    obtain⟨a1,cap1,hn1,hTx⟩:=Tx.of_owns HR.out.names
    have HTx:=hide hTx
    have c1:V1.cell? ⟨b,1,none⟩=some (.slice a1 NM.length cap1):=by rw[<-hn1];exact HR.out.blk.cell 1 rfl
    clear hTx hn1
    go_wp2_with fail
    refine(HCa.out _).mono ?_
    rintro e V2 ⟨rfl,rfl⟩
    go_wp2_with fail
    refine(HIn.out _).mono ?_
    rintro e V2 ⟨rfl,rfl⟩
    go_wp2_with fail
    refine(HIx.out _ _ _ _ HTx.out).mono ?_
    rintro e V2 ⟨rfl,rfl⟩
    go_wp2_with fail
    refine⟨rfl,none,?_,.inl ⟨rfl,rfl,HR.out.old⟩⟩
    have:=R.word (nm:=NM) (l:=T.map ab) HP.out HQ.out HCz.out
    rw[HWD.out] at this
    rw[H1.out];exact this
 ·have HCz:=hide hc
  have HCl:=hide fun(V:World) (m:Mm) (h:Rd w V b m T NM BS NS)=>call_rd HC.out h hT hN s hc
  have hne:(calO s==0)=false:=by simpa using hc
  obtain⟨o,ho⟩:∃ o,calO s=o:=⟨_,rfl⟩
  rw[ho] at HCa HCl hne
  clear hc ho HIn
  generalize hu:sB s=u at kp kq HCa
  have HU:=hide hu
  clear hu
  go_enter Tryz.func177,Tryz.ntmps177
  go_wp2_with fail
  refine(next_cons HW.out).mono ?_
  rintro e V1 ⟨rfl,⟨m1,hR⟩,hk⟩
  have HR:=hide hR
  have HK:=hide hk
  rw[HTS.out,HU.out]
  clear hR hk
  go_wp2_with fail
  refine(HCa.out _).mono ?_
  rintro e V2 ⟨rfl,rfl⟩
  go_wp2_with fail
  refine(HCl.out _ _ HR.out).mono ?_
  rintro e V2 ⟨res,hres,hok⟩
  have HOK:=hide (hok.cons (t:=t) HK.out)
  rw[<-H1.out] at hres
  have HD:=hide hres
  clear hres
  rcases hok with⟨-,rfl,-⟩|⟨ex,-,-,-,-,rfl,-⟩
  ·go_wp2_with fail
   exact⟨rfl,_,HD.out,HOK.out⟩
  ·go_wp2_with fail
   go_ret
   exact⟨_,HD.out,HOK.out⟩
theorem begins_no {l:List Tk}(h1:∀ v,l.head?≠some (.num v))(h2:∀ s,l.head?≠some (.word s))(h3:l.head?≠some .lp)(h4:l.head?≠some (.op 5 9)):begins l=false:=by
 unfold begins
 split
 ·exact absurd rfl (h1 _)
 ·exact absurd rfl (h2 _)
 ·exact absurd rfl h3
 ·rename_i k o _
  simp only[decide_eq_false_iff_not]
  rintro⟨rfl,rfl⟩
  exact h4 rfl
 ·rfl
theorem primary_rd {w W:World}{b n:Nat}{m:Mm}{T:List Tok}{NM:List Txt}{BS:List Int}{NS:List Nd}(hch:CH w b NM BS n)(h:Rd w W b m T NM BS NS)(hT:T.length<=n)(hN:NS.length+T.length<=2000)(hm:(T.map ab).head?≠some (.op 5 9)) :
  Calls Tryz.prog 152 #[ptr b] W fun e W'=>∃ res,R NM (.at 8) (T.map ab) res/\Ok w W b T NM BS NS res e W':=by
 have HC:=hide hch
 have HW:=hide h
 have hw:=hide h.wf
 have F0:=fldT0
 have HM:=hide hm
 clear h hch hm
 by_cases h1:∃ v,(T.map ab).head?=some (.num v)
 ·obtain⟨v,h1⟩:=h1
  obtain⟨t,T1,rfl,ht⟩:=hd_cons h1
  obtain⟨hk1,-,-⟩:=kind1 (hw.out t (by simp)) ht
  have H1:=hide (show (t::T1).map ab=.num v::T1.map ab by rw[List.map_cons,ht])
  have HK1:=hide hk1
  have HV:=hide ht
  rw[List.length_cons] at hT hN
  clear h1 ht hk1 HM
  go_enter Tryz.func152,Tryz.ntmps152
  go_wp2_with fail
  refine(peek_any HW.out).mono ?_
  rintro e V1 ⟨rfl,hb⟩
  rw[show (hd (t::T1)).kind=1 from HK1.out]
  have HR:=hide (HW.out.later hb)
  have HK:=hide (Kp.of_below SX hb)
  generalize sB (hd (t::T1)).text=u
  generalize ((hd (t::T1)).pos:Int)=p
  clear hb
  go_wp2_with fail
  refine(number_rd HR.out).mono ?_
  rintro e V2 (⟨hn,rfl,hb⟩|⟨v',t2,T2,he,hv,rfl,hR,hk⟩)
  ·exact absurd (H1.out) (hn v _)
  ·obtain⟨rfl,rfl⟩:t=t2/\T1=T2:=by simpa using he
   obtain rfl:v=v':=by have:=HV.out.symm.trans hv;simpa using this
   obtain⟨m2,hm2⟩:=hR
   have HR2:=hide hm2
   have HK2:=hide (HK.out.trans hk)
   clear hm2 hk hv he
   go_wp2_with fail
   refine(node_any HR2.out (lf 1 v 0 0 0 0) (by omega)).mono ?_
   rintro e V3 ⟨rfl,hR,hk⟩
   have HR3:=hide hR
   have HK3:=hide (HK2.out.trans hk)
   clear hR hk
   go_wp2_with fail
   go_ret
   exact⟨some (.leaf (lf 1 v 0 0 0 0),T1.map ab),by rw[H1.out];exact R.num v _,.inr ⟨.leaf (lf 1 v 0 0 0 0),[t],T1,rfl,rfl,ret_size _ rfl,HR3.out,HK3.out⟩⟩
 by_cases h2:∃ s,(T.map ab).head?=some (.word s)
 ·obtain⟨s,h2⟩:=h2
  obtain⟨t,T1,rfl,ht⟩:=hd_cons h2
  obtain⟨hk1,-,-⟩:=kind2 (hw.out t (by simp)) ht
  have HK1:=hide hk1
  have HV:=hide ht
  rw[List.length_cons] at hT hN
  clear h1 h2 ht hk1 HM
  go_enter Tryz.func152,Tryz.ntmps152
  go_wp2_with fail
  refine(peek_any HW.out).mono ?_
  rintro e V1 ⟨rfl,hb⟩
  rw[show (hd (t::T1)).kind=2 from HK1.out]
  have HR:=hide (HW.out.later hb)
  have HK:=hide (Kp.of_below SX hb)
  generalize sB (hd (t::T1)).text=u
  generalize ((hd (t::T1)).pos:Int)=p
  clear hb
  go_wp2_with fail
  refine(word_rd HC.out HR.out (by omega) (by omega) s HV.out).mono ?_
  rintro e V2 ⟨res,hres,hok⟩
  have HOK:=hide (show Ok w W b (t::T1) NM BS NS res e V2 from by
   rcases hok with h|⟨ex,P,T',h1,h2,h3,h4,h5⟩
   ·exact .inl h
   ·exact .inr ⟨ex,P,T',h1,h2,h3,h4,HK.out.trans h5⟩)
  have HD:=hide hres
  clear hres
  rcases hok with⟨-,rfl,-⟩|⟨ex,-,-,-,-,rfl,-⟩
  ·go_wp2_with fail
   exact⟨rfl,_,HD.out,HOK.out⟩
  ·go_wp2_with fail
   go_ret
   exact⟨_,HD.out,HOK.out⟩
 have hk3:((hd T).kind==1)=false/\((hd T).kind==2)=false:=by
  cases T with
  | nil=>decide
  | cons t T =>
   have:t.kind=3:=kind3 (hw.out t (by simp)) (fun v e=>h1 ⟨v,by simp[e]⟩) (fun s e=>h2 ⟨s,by simp[e]⟩)
   show (t.kind==1)=false/\(t.kind==2)=false
   rw[this];decide
 obtain⟨k1,k2⟩:=hk3
 have H1:=hide h1
 have H2:=hide h2
 clear h1 h2
 by_cases hl:(T.map ab).head?=some .lp
 ·obtain⟨t1,T1,rfl,h1⟩:=hd_cons hl
  have hs1:=hide ((text_iff (hw.out t1 (by simp)) (s:=[40]) (by decide)).2 h1)
  have HE:=hide (show (t1::T1).map ab=.lp::T1.map ab by rw[List.map_cons,h1])
  rw[List.length_cons] at hT hN
  clear hl h1 hw HM
  go_enter Tryz.func152,Tryz.ntmps152
  go_wp2_with fail
  refine(peek_any HW.out).mono ?_
  rintro e V1 ⟨rfl,hb⟩
  have HR:=hide (HW.out.later hb)
  have HK:=hide (Kp.of_below SX hb)
  generalize sB (hd (t1::T1)).text=u
  generalize ((hd (t1::T1)).pos:Int)=p
  generalize (hd (t1::T1)).kind=kk at k1 k2 ⊢
  clear hb
  go_wp2_with fail
  refine(need_yes HR.out _ hs1.out).mono ?_
  rintro e V2 ⟨rfl,⟨m2,hR⟩,hk⟩
  have HR2:=hide hR
  have HK2:=hide (HK.out.trans hk)
  clear hR hk
  go_wp2_with fail
  refine(HC.out _ _ T1 NS (by omega) (by omega) HR2.out).mono ?_
  rintro e V3 ⟨res,hres,(⟨rfl,rfl,hb⟩|⟨ex,P3,T3,rfl,hsp,rfl,⟨m3,hR⟩,hk⟩)⟩
  ·have HB:=hide hb
   have HN:=hide hres
   clear hb hres
   go_wp2_with fail
   exact⟨rfl,none,by rw[HE.out];exact R.par HN.out,.inl ⟨rfl,rfl,HB.out⟩⟩
  ·have HRES:=hide hres
   have HSP:=hide hsp
   have HR3:=hide hR
   have HK3:=hide (HK2.out.trans hk)
   have hw3:=hide hR.wf
   clear hres hsp hR hk
   obtain⟨z,hz⟩:∃ z:Int,((NS.length+ex.size:Nat):Int)-1=z:=⟨_,rfl⟩
   rw[hz]
   have HZ:=hide hz
   clear hz
   by_cases hr:(T3.map ab).head?=some .rp
   ·obtain⟨t8,T8,rfl,h8⟩:=hd_cons hr
    have hs8:=hide ((text_iff (hw3.out t8 (by simp)) (s:=[41]) (by decide)).2 h8)
    have H8:=hide (show (t8::T8).map ab=.rp::T8.map ab by rw[List.map_cons,h8])
    clear hr h8 hw3
    go_wp2_with fail
    refine(need_yes HR3.out _ hs8.out).mono ?_
    rintro e V8 ⟨rfl,hR,hk⟩
    have HR8:=hide hR
    have HK8:=hide (HK3.out.trans hk)
    clear hR hk
    go_wp2_with fail
    go_ret
    refine⟨some (ex,T8.map ab),?_,.inr ⟨ex,t1::(P3++[t8]),T8,rfl,by rw[HSP.out];simp,?_,HR8.out,HK8.out⟩⟩
    ·have:=R.par HRES.out
     rw[H8.out,eat_mk] at this
     rw[HE.out];exact this
    ·exact ret_int HZ.out.symm
   ·have hs8:=hide (hd_ne (s:=[41]) hw3.out (by decide) hr)
    have HRP:=hide hr
    clear hr hw3
    go_wp2_with fail
    refine(need_no HR3.out _ hs8.out).mono ?_
    rintro e V8 ⟨rfl,hb⟩
    have HB:=hide (bel HR3.out.old hb)
    clear hb
    go_wp2_with fail
    refine⟨rfl,none,?_,.inl ⟨rfl,rfl,HB.out⟩⟩
    have:=R.par HRES.out
    rw[eat_no HRP.out] at this
    rw[HE.out];exact this
 ·have hs1:=hide (hd_ne (s:=[40]) hw.out (by decide) hl)
  have HL:=hide hl
  clear hl hw
  go_enter Tryz.func152,Tryz.ntmps152
  go_wp2_with fail
  refine(peek_any HW.out).mono ?_
  rintro e V1 ⟨rfl,hb⟩
  have HR:=hide (HW.out.later hb)
  generalize sB (hd T).text=u
  generalize ((hd T).pos:Int)=p
  generalize (hd T).kind=kk at k1 k2 ⊢
  clear hb
  go_wp2_with fail
  refine(need_no HR.out _ hs1.out).mono ?_
  rintro e V2 ⟨rfl,hb⟩
  have HB:=hide (bel HR.out.old hb)
  clear hb
  go_wp2_with fail
  exact⟨rfl,none,R.bad (begins_no (fun v e=>H1.out ⟨v,e⟩) (fun s e=>H2.out ⟨s,e⟩) HL.out HM.out),.inl ⟨rfl,rfl,HB.out⟩⟩
theorem Ok.kp {w W W1:World}{b:Nat}{T:List Tok}{NM:List Txt}{BS:List Int}{NS:List Nd}{res:Option (E × List Tk)}{e:Ending}{W':World}(h:Ok w W1 b T NM BS NS res e W')(hk:Kp SX W W1):Ok w W b T NM BS NS res e W':=by
 rcases h with h|⟨ex,P,T',h1,h2,h3,h4,h5⟩
 ·exact .inl h
 ·exact .inr ⟨ex,P,T',h1,h2,h3,h4,hk.trans h5⟩
theorem minus_rd {w:World}{b n:Nat}{NM:List Txt}{BS:List Int}(hch:CH w b NM BS n):∀(T:List Tok) (W:World) (m:Mm) (NS:List Nd),T.length<=n->NS.length+T.length<=2000->Rd w W b m T NM BS NS ->
  Calls Tryz.prog 134 #[ptr b] W fun e W'=>∃ res,R NM (.at 8) (T.map ab) res/\Ok w W b T NM BS NS res e W':=by
 intro T
 induction T with
 | nil =>
  intro W m NS hT hN h
  have HC:=hide hch
  have HW:=hide h
  clear h hch
  go_enter Tryz.func134,Tryz.ntmps134
  go_wp2_with fail
  refine(pass_no HW.out _ (by decide)).mono ?_
  rintro e V1 ⟨rfl,hb⟩
  have HR:=hide (HW.out.later hb)
  have HK:=hide (Kp.of_below SX hb)
  clear hb
  go_wp2_with fail
  refine(primary_rd HC.out HR.out hT hN (by simp)).mono ?_
  rintro e V2 ⟨res,hres,hok⟩
  have HOK:=hide (hok.kp HK.out)
  have HD:=hide hres
  clear hres
  rcases hok with⟨-,rfl,-⟩|⟨ex,-,-,-,-,rfl,-⟩
  ·go_wp2_with fail
   exact⟨rfl,_,HD.out,HOK.out⟩
  ·go_wp2_with fail
   go_ret
   exact⟨_,HD.out,HOK.out⟩
 | cons t T ih =>
  intro W m NS hT hN h
  have HC:=hide hch
  have HI:=hide ih
  have HW:=hide h
  have hw:=h.wf
  clear h hch ih
  rw[List.length_cons] at hT hN
  by_cases hm:((t::T).map ab).head?=some (.op 5 9)
  ·have ht:ab t=.op 5 9:=by simpa using hm
   have hs:=hide ((text_iff (hw t (by simp)) (s:=[45]) (by decide)).2 ht)
   have HE:=hide (show (t::T).map ab=.op 5 9::T.map ab by rw[List.map_cons,ht])
   clear hm ht hw
   go_enter Tryz.func134,Tryz.ntmps134
   go_wp2_with fail
   refine(pass_yes HW.out _ hs.out).mono ?_
   rintro e V1 ⟨rfl,⟨m1,hR⟩,hk⟩
   have HR:=hide hR
   have HK:=hide hk
   clear hR hk
   go_wp2_with fail
   refine(HI.out _ _ NS (by omega) (by omega) HR.out).mono ?_
   rintro e V2 ⟨res,hres,(⟨rfl,rfl,hb⟩|⟨ex,P3,T3,rfl,hsp,rfl,⟨m3,hR⟩,hk⟩)⟩
   ·have HB:=hide hb
    have HN:=hide hres
    clear hb hres
    go_wp2_with fail
    exact⟨rfl,none,by rw[HE.out];exact R.neg HN.out,.inl ⟨rfl,rfl,HB.out⟩⟩
   ·have HRES:=hide hres
    have HSP:=hide hsp
    have HR3:=hide hR
    have HK3:=hide (HK.out.trans hk)
    have hsz:NS.length+ex.size<=2000:=by have:=r_len hres;simp at this;omega
    clear hres hsp hR hk
    go_wp2_with fail
    refine(node_any HR3.out ⟨5,((NS.length+ex.size:Nat):Int)-1,0,0,0,0,0,0,0⟩ (by rw[List.length_append,E.flat_len];omega)).mono ?_
    rintro e V4 ⟨rfl,hR,hk⟩
    rw[List.append_assoc,show ex.flat NS.length++[⟨5,((NS.length+ex.size:Nat):Int)-1,0,0,0,0,0,0,0⟩]=(E.un 5 ex).flat NS.length from rfl] at hR
    have HR4:=hide hR
    have HK4:=hide (HK3.out.trans hk)
    rw[show (NS++ex.flat NS.length).length=NS.length+ex.size by rw[List.length_append,E.flat_len]]
    clear hR hk
    go_wp2_with fail
    go_ret
    exact⟨some (.un 5 ex,T3.map ab),by rw[HE.out];exact R.neg HRES.out,.inr ⟨.un 5 ex,t::P3,T3,rfl,by rw[HSP.out];rfl,ret_int (by simp[E.size];omega),HR4.out,HK4.out⟩⟩
  ·have hs:=hide (hd_ne (s:=[45]) hw (by decide) hm)
   have HM:=hide hm
   clear hm hw
   go_enter Tryz.func134,Tryz.ntmps134
   go_wp2_with fail
   refine(pass_no HW.out _ hs.out).mono ?_
   rintro e V1 ⟨rfl,hb⟩
   have HR:=hide (HW.out.later hb)
   have HK:=hide (Kp.of_below SX hb)
   clear hb
   go_wp2_with fail
   refine(primary_rd HC.out HR.out (by rw[List.length_cons];omega) (by rw[List.length_cons];omega) HM.out).mono ?_
   rintro e V2 ⟨res,hres,hok⟩
   have HOK:=hide (hok.kp HK.out)
   have HD:=hide hres
   clear hres
   rcases hok with⟨-,rfl,-⟩|⟨ex,-,-,-,-,rfl,-⟩
   ·go_wp2_with fail
    exact⟨rfl,_,HD.out,HOK.out⟩
   ·go_wp2_with fail
    go_ret
    exact⟨_,HD.out,HOK.out⟩
end Go.Proofs.YtngnnijpdjhelaaGreat
