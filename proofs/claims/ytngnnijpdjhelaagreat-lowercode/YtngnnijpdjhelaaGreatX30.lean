import Derived.ScopeJumps
import Derived.Test.YtngnnijpdjhelaaGreatX29
namespace Go.Proofs.YtngnnijpdjhelaaGreat
open Go.RowKit Go.IntWalk Lx Pz
set_option linter.unusedVariables false
set_option maxRecDepth 100000
set_option maxHeartbeats 16000000
def LV (w:World)(b:Nat)(NM:List Txt)(BS:List Int)(n k:Nat):Prop:=∀(W:World) (m:Mm) (T:List Tok) (NS:List Nd),T.length<=n->NS.length+T.length<=2000->Rd w W b m T NM BS NS ->
 Calls Tryz.prog 95 #[ptr b,.int .i64 (k:Nat)] W fun e W'=>∃ res,R NM (.at (k+1)) (T.map ab) res/\Ok w W b T NM BS NS res e W'
def lenAt (b:Nat)(W:World):Nat:=match W.cell? ⟨b,0,none⟩ with|some (.slice _ n _)=>n|_=>0
theorem Rd.lenAt {w W:World}{b:Nat}{m:Mm}{T:List Tok}{NM:List Txt}{BS:List Int}{NS:List Nd}(h:Rd w W b m T NM BS NS):lenAt b W=T.length:=by
 unfold Go.Proofs.YtngnnijpdjhelaaGreat.lenAt
 rw[h.blk.cell 0 rfl]
 exact h.toks.t.len.symm
structure LF (w W:World)(b k:Nat)(T:List Tok)(NM:List Txt)(BS:List Int)(NS:List Nd)(ex:E)(T':List Tok)(V:World):Prop where
 pre:∃ P,T=P++T'
 go:∀ res,R NM (.lp k ex) (T'.map ab) res->R NM (.at (k+1)) (T.map ab) res
 rd:∃ m',Rd w V b m' T' NM BS (NS++ex.flat NS.length)
 kp:Kp SX W V
 sz:ex.size+T'.length<=T.length
theorem no_op {k:Nat}{T:List Tok}(hw:∀ t ∈ T,Wf t)(h:opL k (hd T).text=0):∀ o,(T.map ab).head?≠some (.op k o):=by
 intro o
 cases T with
 | nil=>simp
 | cons t T =>
  rcases opL_tok k (hw t (by simp)) with⟨-,h2⟩|⟨h1,-⟩
  ·simpa using h2 o
  ·exact absurd h h1
theorem an_op {k:Nat}{T:List Tok}(hw:∀ t ∈ T,Wf t)(h:¬opL k (hd T).text=0):∃ t T1,T=t::T1/\ab t=.op k (opL k (hd T).text):=by
 cases T with
 | nil=>exact absurd (opL_none (by decide)) h
 | cons t T =>
  rcases opL_tok k (hw t (by simp)) with⟨h1,-⟩|⟨-,h2⟩
  ·exact absurd h1 h
  ·exact⟨t,T,rfl,h2⟩
theorem level_rd {w:World}{b n k:Nat}{NM:List Txt}{BS:List Int}(hk7:k < 7)(hup:LV w b NM BS n (k+1)):LV w b NM BS n k:=by
 intro W m T NS hT hN h
 have HU:=hide hup
 have HW:=hide h
 have F1:=fldT1
 have hk0:((k:Int)==7)=false:=by simp;omega
 clear h hup
 go_enter Tryz.func95,Tryz.ntmps95
 go_wp2_with fail
 refine wp_scope_jumps 0 (fun a' V=>∃(ex:E) (T':List Tok) (u6 u7 u8 u9 u10 u11 u12 u13 u14 u15 u16 u17 u18 u19 u20 u21 u22 u23 u24 u25 u26 u27 u28 u29 u30 u31 u32 u33 u34 u35 u36 u37 u38:Value),a'={ tmps:=#[ptr b,.int .i64 (k:Nat),undef,undef,.int .i64 0,.int .i64 (((NS.length+ex.size:Nat):Int)-1),u6,u7,u8,u9,u10,u11,u12,u13,u14,u15,u16,u17,u18,u19,u20,u21,u22,u23,u24,u25,u26,u27,u28,u29,u30,u31,u32,u33,u34,u35,u36,u37,u38],defers:=[] }/\Hid (LF w W b k T NM BS NS ex T' V)) (fun _ V=>lenAt b V) rfl ?_ ?_
 ·go_wp2_with fail
  refine(HU.out W m T NS hT hN HW.out).mono ?_
  rintro e V0 ⟨res,hres,(⟨rfl,rfl,hb⟩|⟨ex,P0,T',rfl,hsp,rfl,hR,hk⟩)⟩
  ·have HB:=hide hb
   have HN:=hide hres
   clear hb hres
   go_wp2_with fail
   try simp only[Exit.jump]
   exact⟨rfl,none,R.lv_none hk7 HN.out,.inl ⟨rfl,rfl,HB.out⟩⟩
  ·have HF:=hide (show LF w W b k T NM BS NS ex T' V0 from⟨⟨P0,hsp⟩,fun res h=>R.lv_go hk7 hres h,hR,hk,by have:=r_len hres;simpa using this⟩)
   clear hres hsp hR hk HW
   go_wp2_with fail
   go_step3
   obtain⟨mL,hmL⟩:=HF.out.rd
   have HM:=hide hmL
   have hw:=hide hmL.wf
   have hsz:=HF.out.sz
   clear hmL
   have HO:=hide fun Z=>operator_any k (sB (hd T').text) Z
   rw[bs_sB] at HO
   by_cases hop:opL k (hd T').text=0
   ·have HS:=hide (no_op hw.out hop)
    rw[hop] at HO
    clear hop
    go_wp2_with fail
    refine(peek_any HM.out).mono ?_
    rintro e V1 ⟨rfl,hb⟩
    have HR1:=hide (HM.out.later hb)
    have HK1:=hide (HF.out.kp.trans (Kp.of_below SX hb))
    generalize sB (hd T').text=u at HO ⊢
    generalize ((hd T').pos:Int)=p
    generalize (hd T').kind=kk
    clear hb
    go_wp2_with fail
    refine(HO.out _).mono ?_
    rintro e V2 ⟨rfl,hb⟩
    have HR2:=hide (HR1.out.later hb)
    have HK2:=hide (HK1.out.trans (Kp.of_below SX hb))
    clear hb
    go_wp2_with fail
    try simp only[Exit.jump]
    go_ret
    obtain⟨P,hP⟩:=HF.out.pre
    exact⟨_,HF.out.go _ (R.lp_stop HS.out),.inr ⟨ex,P,T',rfl,hP,rfl,⟨_,HR2.out⟩,HK2.out⟩⟩
   ·obtain⟨t,T1,rfl,hab⟩:=an_op hw.out hop
    obtain⟨o,ho⟩:∃ o,opL k (hd (t::T1)).text=o:=⟨_,rfl⟩
    rw[ho] at HO hop hab
    have hoz:(o==0)=false:=by simpa using hop
    have HAB:=hide (show (t::T1).map ab=.op k o::T1.map ab by rw[List.map_cons,hab])
    rw[List.length_cons] at hsz
    clear ho hop hab hw
    go_wp2_with fail
    refine(peek_any HM.out).mono ?_
    rintro e V1 ⟨rfl,hb⟩
    have HR1:=hide (HM.out.later hb)
    have HK1:=hide (HF.out.kp.trans (Kp.of_below SX hb))
    generalize sB (hd (t::T1)).text=u at HO ⊢
    generalize ((hd (t::T1)).pos:Int)=p
    generalize (hd (t::T1)).kind=kk
    clear hb
    go_wp2_with fail
    refine(HO.out _).mono ?_
    rintro e V2 ⟨rfl,hb⟩
    have HR2:=hide (HR1.out.later hb)
    have HK2:=hide (HK1.out.trans (Kp.of_below SX hb))
    clear hb
    go_wp2_with fail
    refine(next_cons HR2.out).mono ?_
    rintro e V3 ⟨rfl,⟨m3,hR⟩,hk⟩
    have HR3:=hide hR
    have HK3:=hide (HK2.out.trans hk)
    clear hR hk
    go_wp2_with fail
    refine(HU.out V3 m3 T1 (NS++ex.flat NS.length) (by omega) (by rw[List.length_append,E.flat_len];omega) HR3.out).mono ?_
    rintro e V4 ⟨res,hres,(⟨rfl,rfl,hb⟩|⟨e2,P4,T4,rfl,hsp,rfl,⟨m4,hR⟩,hk⟩)⟩
    ·have HB:=hide hb
     have HN:=hide hres
     clear hb hres
     go_wp2_with fail
     try simp only[Exit.jump]
     exact⟨rfl,none,HF.out.go _ (by rw[HAB.out];exact R.lp_none HN.out),.inl ⟨rfl,rfl,HB.out⟩⟩
    ·have HRES:=hide hres
     have HSP:=hide hsp
     have hl2:e2.size+T4.length<=T1.length:=by have:=r_len hres;simpa using this
     rw[show (NS++ex.flat NS.length).length=NS.length+ex.size by rw[List.length_append,E.flat_len]] at hR ⊢
     have HR4:=hide hR
     have HK4:=hide (HK3.out.trans hk)
     clear hres hsp hR hk
     go_wp2_with fail
     refine(node_any HR4.out ⟨o,((NS.length+ex.size:Nat):Int)-1,((NS.length+ex.size+e2.size:Nat):Int)-1,0,0,0,0,0,0⟩ (by simp[E.flat_len];omega)).mono ?_
     rintro e V5 ⟨rfl,hR,hk⟩
     rw[show NS++ex.flat NS.length++e2.flat (NS.length+ex.size)++[⟨o,((NS.length+ex.size:Nat):Int)-1,((NS.length+ex.size+e2.size:Nat):Int)-1,0,0,0,0,0,0⟩]=NS++(E.bin o ex e2).flat NS.length by simp[E.flat]] at hR
     have HR5:=hide hR
     have HK5:=hide (HK4.out.trans hk)
     rw[show (((NS++ex.flat NS.length++e2.flat (NS.length+ex.size)).length:Nat):Int)=((NS.length+(E.bin o ex e2).size:Nat):Int)-1 by simp[E.flat_len,E.size];omega]
     clear hR hk
     obtain⟨P,hP⟩:=HF.out.pre
     have HPP:=hide (show T=(P++t::P4)++T4 by rw[hP,HSP.out];simp)
     clear hP
     by_cases h3:k=3
     ·subst h3
      go_wp2_with fail
      try simp only[Exit.jump]
      go_ret
      exact⟨_,HF.out.go _ (by rw[HAB.out];exact R.lp_cmp HRES.out),.inr ⟨E.bin o ex e2,P++t::P4,T4,rfl,HPP.out,rfl,HR5.out,HK5.out⟩⟩
     ·have h3':((k:Int) != 3)=true:=by simp;omega
      have H3:=hide h3
      clear h3
      go_wp2_with fail
      go_step3
      have HF2:=hide (show LF w W b k T NM BS NS (E.bin o ex e2) T4 V5 from⟨⟨_,HPP.out⟩,fun res h=>HF.out.go _ (by rw[HAB.out];exact R.lp_go H3.out HRES.out h),HR5.out,HK5.out,by simp[E.size];omega⟩)
      exact⟨rfl,E.bin o ex e2,T4,_,_,_,_,_,_,_,_,_,_,_,_,_,_,_,_,_,_,_,_,_,_,_,_,_,_,_,_,_,_,_,_,_,rfl,HF2⟩
 ·rintro a' V ⟨ex,T',u6,u7,u8,u9,u10,u11,u12,u13,u14,u15,u16,u17,u18,u19,u20,u21,u22,u23,u24,u25,u26,u27,u28,u29,u30,u31,u32,u33,u34,u35,u36,u37,u38,rfl,HF⟩
  clear HW
  obtain⟨mL,hmL⟩:=HF.out.rd
  have HM:=hide hmL
  have hw:=hide hmL.wf
  have hsz:=HF.out.sz
  clear hmL
  have HO:=hide fun Z=>operator_any k (sB (hd T').text) Z
  rw[bs_sB] at HO
  by_cases hop:opL k (hd T').text=0
  ·have HS:=hide (no_op hw.out hop)
   rw[hop] at HO
   clear hop
   go_wp2_with fail
   refine(peek_any HM.out).mono ?_
   rintro e V1 ⟨rfl,hb⟩
   have HR1:=hide (HM.out.later hb)
   have HK1:=hide (HF.out.kp.trans (Kp.of_below SX hb))
   generalize sB (hd T').text=u at HO ⊢
   generalize ((hd T').pos:Int)=p
   generalize (hd T').kind=kk
   clear hb
   go_wp2_with fail
   refine(HO.out _).mono ?_
   rintro e V2 ⟨rfl,hb⟩
   have HR2:=hide (HR1.out.later hb)
   have HK2:=hide (HK1.out.trans (Kp.of_below SX hb))
   clear hb
   go_wp2_with fail
   try simp only[Exit.jump]
   go_ret
   obtain⟨P,hP⟩:=HF.out.pre
   exact⟨_,HF.out.go _ (R.lp_stop HS.out),.inr ⟨ex,P,T',rfl,hP,rfl,⟨_,HR2.out⟩,HK2.out⟩⟩
  ·obtain⟨t,T1,rfl,hab⟩:=an_op hw.out hop
   obtain⟨o,ho⟩:∃ o,opL k (hd (t::T1)).text=o:=⟨_,rfl⟩
   rw[ho] at HO hop hab
   have hoz:(o==0)=false:=by simpa using hop
   have HAB:=hide (show (t::T1).map ab=.op k o::T1.map ab by rw[List.map_cons,hab])
   rw[List.length_cons] at hsz
   clear ho hop hab hw
   go_wp2_with fail
   refine(peek_any HM.out).mono ?_
   rintro e V1 ⟨rfl,hb⟩
   have HR1:=hide (HM.out.later hb)
   have HK1:=hide (HF.out.kp.trans (Kp.of_below SX hb))
   generalize sB (hd (t::T1)).text=u at HO ⊢
   generalize ((hd (t::T1)).pos:Int)=p
   generalize (hd (t::T1)).kind=kk
   clear hb
   go_wp2_with fail
   refine(HO.out _).mono ?_
   rintro e V2 ⟨rfl,hb⟩
   have HR2:=hide (HR1.out.later hb)
   have HK2:=hide (HK1.out.trans (Kp.of_below SX hb))
   clear hb
   go_wp2_with fail
   refine(next_cons HR2.out).mono ?_
   rintro e V3 ⟨rfl,⟨m3,hR⟩,hk⟩
   have HR3:=hide hR
   have HK3:=hide (HK2.out.trans hk)
   clear hR hk
   go_wp2_with fail
   refine(HU.out V3 m3 T1 (NS++ex.flat NS.length) (by omega) (by rw[List.length_append,E.flat_len];omega) HR3.out).mono ?_
   rintro e V4 ⟨res,hres,(⟨rfl,rfl,hb⟩|⟨e2,P4,T4,rfl,hsp,rfl,⟨m4,hR⟩,hk⟩)⟩
   ·have HB:=hide hb
    have HN:=hide hres
    clear hb hres
    go_wp2_with fail
    try simp only[Exit.jump]
    exact⟨rfl,none,HF.out.go _ (by rw[HAB.out];exact R.lp_none HN.out),.inl ⟨rfl,rfl,HB.out⟩⟩
   ·have HRES:=hide hres
    have HSP:=hide hsp
    have hl2:e2.size+T4.length<=T1.length:=by have:=r_len hres;simpa using this
    rw[show (NS++ex.flat NS.length).length=NS.length+ex.size by rw[List.length_append,E.flat_len]] at hR ⊢
    have HR4:=hide hR
    have HK4:=hide (HK3.out.trans hk)
    clear hres hsp hR hk
    go_wp2_with fail
    refine(node_any HR4.out ⟨o,((NS.length+ex.size:Nat):Int)-1,((NS.length+ex.size+e2.size:Nat):Int)-1,0,0,0,0,0,0⟩ (by simp[E.flat_len];omega)).mono ?_
    rintro e V5 ⟨rfl,hR,hk⟩
    rw[show NS++ex.flat NS.length++e2.flat (NS.length+ex.size)++[⟨o,((NS.length+ex.size:Nat):Int)-1,((NS.length+ex.size+e2.size:Nat):Int)-1,0,0,0,0,0,0⟩]=NS++(E.bin o ex e2).flat NS.length by simp[E.flat]] at hR
    have HR5:=hide hR
    have HK5:=hide (HK4.out.trans hk)
    rw[show (((NS++ex.flat NS.length++e2.flat (NS.length+ex.size)).length:Nat):Int)=((NS.length+(E.bin o ex e2).size:Nat):Int)-1 by simp[E.flat_len,E.size];omega]
    clear hR hk
    obtain⟨P,hP⟩:=HF.out.pre
    have HPP:=hide (show T=(P++t::P4)++T4 by rw[hP,HSP.out];simp)
    clear hP
    by_cases h3:k=3
    ·subst h3
     go_wp2_with fail
     try simp only[Exit.jump]
     go_ret
     exact⟨_,HF.out.go _ (by rw[HAB.out];exact R.lp_cmp HRES.out),.inr ⟨E.bin o ex e2,P++t::P4,T4,rfl,HPP.out,rfl,HR5.out,HK5.out⟩⟩
    ·have h3':((k:Int) != 3)=true:=by simp;omega
     have H3:=hide h3
     clear h3
     go_wp2_with fail
     go_step3
     have HF2:=hide (show LF w W b k T NM BS NS (E.bin o ex e2) T4 V5 from⟨⟨_,HPP.out⟩,fun res h=>HF.out.go _ (by rw[HAB.out];exact R.lp_go H3.out HRES.out h),HR5.out,HK5.out,by simp[E.size];omega⟩)
     refine⟨rfl,⟨E.bin o ex e2,T4,_,_,_,_,_,_,_,_,_,_,_,_,_,_,_,_,_,_,_,_,_,_,_,_,_,_,_,_,_,_,_,_,_,rfl,HF2⟩,?_⟩
     obtain⟨m5,hm5⟩:=HR5.out
     rw[hm5.lenAt,HM.out.lenAt,List.length_cons]
     omega
theorem level7 {w:World}{b n:Nat}{NM:List Txt}{BS:List Int}(hch:CH w b NM BS n):LV w b NM BS n 7:=by
 intro W m T NS hT hN h
 have HC:=hide (minus_rd hch T W m NS hT hN h)
 clear h hch
 go_enter Tryz.func95,Tryz.ntmps95
 go_wp2_with fail
 go_step3
 go_wp2_with fail
 refine HC.out.mono ?_
 rintro e V2 ⟨res,hres,hok⟩
 have HOK:=hide hok
 have HD:=hide hres
 clear hres
 rcases hok with⟨-,rfl,-⟩|⟨ex,-,-,-,-,rfl,-⟩
 ·go_wp2_with fail
  try rw[Exit.noGoto_panic]
  exact⟨rfl,_,HD.out,HOK.out⟩
 ·go_wp2_with fail
  try rw[Exit.noGoto_ret]
  go_ret
  exact⟨_,HD.out,HOK.out⟩
theorem level_all {w : World} {b n : Nat} {NM : List Txt} {BS : List Int} (hch : CH w b NM BS n) : ∀ j k, k + j = 7 → LV w b NM BS n k := by
  intro j
  induction j with
  | zero => intro k hk; obtain rfl : k = 7 := by omega
            exact level7 hch
  | succ j ih => intro k hk; exact level_rd (by omega) (ih (k + 1) (by omega))
theorem choice_rd {w W:World}{b n:Nat}{m:Mm}{T:List Tok}{NM:List Txt}{BS:List Int}{NS:List Nd}(hch:CH w b NM BS n)(hT:T.length<=n)(hN:NS.length+T.length<=2000)(h:Rd w W b m T NM BS NS) :
  Calls Tryz.prog 62 #[ptr b] W fun e W'=>∃ res,R NM (.at 0) (T.map ab) res/\Ok w W b T NM BS NS res e W':=by
 have HC:=hide hch
 have HL:=hide (level_all hch 7 0 rfl W m T NS hT hN h)
 clear h hch
 go_enter Tryz.func62,Tryz.ntmps62
 go_wp2_with fail
 refine HL.out.mono ?_
 rintro e V1 ⟨res,hres,(⟨rfl,rfl,hb⟩|⟨ex,P1,T1,rfl,hsp,rfl,⟨m1,hR⟩,hk⟩)⟩
 ·have HB:=hide hb
  have HN:=hide hres
  clear hb hres
  go_wp2_with fail
  exact⟨rfl,none,R.ch_none HN.out,.inl ⟨rfl,rfl,HB.out⟩⟩
 ·have HRES:=hide hres
  have HSP:=hide hsp
  have hl1:ex.size+T1.length<=T.length:=by have:=r_len hres;simpa using this
  have hp1:=ex.size_pos
  have HR1:=hide hR
  have HK1:=hide hk
  have hw1:=hide hR.wf
  clear hres hsp hR hk HL
  by_cases hq:(T1.map ab).head?=some .ques
  ·obtain⟨t2,T2,rfl,h2⟩:=hd_cons hq
   have hs2:=hide ((text_iff (hw1.out t2 (by simp)) (s:=[63]) (by decide)).2 h2)
   have H2:=hide (show (t2::T2).map ab=.ques::T2.map ab by rw[List.map_cons,h2])
   rw[H2.out] at HRES
   rw[List.length_cons] at hl1
   clear hq h2 hw1
   go_wp2_with fail
   refine(pass_yes HR1.out _ hs2.out).mono ?_
   rintro e V2 ⟨rfl,⟨m2,hR⟩,hk⟩
   have HR2:=hide hR
   have HK2:=hide (HK1.out.trans hk)
   clear hR hk
   go_wp2_with fail
   refine(HC.out _ _ T2 (NS++ex.flat NS.length) (by omega) (by rw[List.length_append,E.flat_len];omega) HR2.out).mono ?_
   rintro e V3 ⟨res,hres,(⟨rfl,rfl,hb⟩|⟨e2,P3,T3,rfl,hsp,rfl,⟨m3,hR⟩,hk⟩)⟩
   ·have HB:=hide hb
    have HN:=hide hres
    clear hb hres
    go_wp2_with fail
    exact⟨rfl,none,R.ch_no HRES.out HN.out rfl,.inl ⟨rfl,rfl,HB.out⟩⟩
   ·have HRES2:=hide hres
    have HSP2:=hide hsp
    have hl2:e2.size+T3.length<=T2.length:=by have:=r_len hres;simpa using this
    rw[show (NS++ex.flat NS.length).length=NS.length+ex.size by rw[List.length_append,E.flat_len]] at hR ⊢
    have HR3:=hide hR
    have HK3:=hide (HK2.out.trans hk)
    have hw3:=hide hR.wf
    clear hres hsp hR hk
    by_cases hc:(T3.map ab).head?=some .colon
    ·obtain⟨t4,T4,rfl,h4⟩:=hd_cons hc
     have hs4:=hide ((text_iff (hw3.out t4 (by simp)) (s:=[58]) (by decide)).2 h4)
     have H4:=hide (show (t4::T4).map ab=.colon::T4.map ab by rw[List.map_cons,h4])
     rw[H4.out] at HRES2
     rw[List.length_cons] at hl2
     clear hc h4 hw3
     go_wp2_with fail
     refine(need_yes HR3.out _ hs4.out).mono ?_
     rintro e V4 ⟨rfl,⟨m4,hR⟩,hk⟩
     have HR4:=hide hR
     have HK4:=hide (HK3.out.trans hk)
     clear hR hk
     go_wp2_with fail
     refine(HC.out _ _ T4 (NS++ex.flat NS.length++e2.flat (NS.length+ex.size)) (by omega) (by simp[E.flat_len];omega) HR4.out).mono ?_
     rintro e V5 ⟨res,hres,(⟨rfl,rfl,hb⟩|⟨e3,P5,T5,rfl,hsp,rfl,⟨m5,hR⟩,hk⟩)⟩
     ·have HB:=hide hb
      have HN:=hide hres
      clear hb hres
      go_wp2_with fail
      exact⟨rfl,none,R.ch_sel HRES.out HRES2.out (eat_mk _ _ _) HN.out,.inl ⟨rfl,rfl,HB.out⟩⟩
     ·have HRES3:=hide hres
      have HSP3:=hide hsp
      have hl3:e3.size+T5.length<=T4.length:=by have:=r_len hres;simpa using this
      rw[show (NS++ex.flat NS.length++e2.flat (NS.length+ex.size)).length=NS.length+ex.size+e2.size by simp[E.flat_len,Nat.add_assoc]] at hR ⊢
      have HR5:=hide hR
      have HK5:=hide (HK4.out.trans hk)
      clear hres hsp hR hk
      go_wp2_with fail
      refine(node_any HR5.out ⟨28,((NS.length+ex.size:Nat):Int)-1,((NS.length+ex.size+e2.size:Nat):Int)-1,((NS.length+ex.size+e2.size+e3.size:Nat):Int)-1,0,0,0,0,0⟩ (by simp[E.flat_len];omega)).mono ?_
      rintro e V6 ⟨rfl,hR,hk⟩
      rw[show NS++ex.flat NS.length++e2.flat (NS.length+ex.size)++e3.flat (NS.length+ex.size+e2.size)++[⟨28,((NS.length+ex.size:Nat):Int)-1,((NS.length+ex.size+e2.size:Nat):Int)-1,((NS.length+ex.size+e2.size+e3.size:Nat):Int)-1,0,0,0,0,0⟩]=NS++(E.tri 28 ex e2 e3).flat NS.length by simp[E.flat]] at hR
      have HR6:=hide hR
      have HK6:=hide (HK5.out.trans hk)
      rw[show (((NS++ex.flat NS.length++e2.flat (NS.length+ex.size)++e3.flat (NS.length+ex.size+e2.size)).length:Nat):Int)=((NS.length+(E.tri 28 ex e2 e3).size:Nat):Int)-1 by simp[E.flat_len,E.size];omega]
      clear hR hk
      go_wp2_with fail
      go_ret
      exact⟨_,R.ch_sel HRES.out HRES2.out (eat_mk _ _ _) HRES3.out,.inr ⟨E.tri 28 ex e2 e3,P1++t2::(P3++t4::P5),T5,rfl,by rw[HSP.out,HSP2.out,HSP3.out];simp,rfl,HR6.out,HK6.out⟩⟩
    ·have hs4:=hide (hd_ne (s:=[58]) hw3.out (by decide) hc)
     have HCO:=hide hc
     clear hc hw3
     go_wp2_with fail
     refine(need_no HR3.out _ hs4.out).mono ?_
     rintro e V4 ⟨rfl,hb⟩
     have HB:=hide (bel HR3.out.old hb)
     clear hb
     go_wp2_with fail
     exact⟨rfl,none,R.ch_no HRES.out HRES2.out (eat_no HCO.out),.inl ⟨rfl,rfl,HB.out⟩⟩
  ·have hs2:=hide (hd_ne (s:=[63]) hw1.out (by decide) hq)
   have HQ:=hide hq
   clear hq hw1
   go_wp2_with fail
   refine(pass_no HR1.out _ hs2.out).mono ?_
   rintro e V2 ⟨rfl,hb⟩
   have HR2:=hide (HR1.out.later hb)
   have HK2:=hide (HK1.out.trans (Kp.of_below SX hb))
   clear hb
   go_wp2_with fail
   go_ret
   exact⟨_,R.ch_up HRES.out HQ.out,.inr ⟨ex,P1,T1,rfl,HSP.out,rfl,⟨_,HR2.out⟩,HK2.out⟩⟩
theorem choice_any {w:World}{b:Nat}{NM:List Txt}{BS:List Int}:∀ n,CH w b NM BS n:=by
 intro n
 induction n with
 | zero=>intro W m T NS h;omega
 | succ n ih=>intro W m T NS hT hN h;exact choice_rd ih (by omega) hN h
end Go.Proofs.YtngnnijpdjhelaaGreat
