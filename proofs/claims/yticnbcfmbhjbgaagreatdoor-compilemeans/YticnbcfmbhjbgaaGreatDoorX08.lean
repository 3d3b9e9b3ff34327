import Derived.Test.YticnbcfmbhjbgaaGreatDoorX07
set_option maxRecDepth 100000
set_option maxHeartbeats 32000000
set_option linter.unusedVariables false
namespace Go.Proofs.YticnbcfmbhjbgaaGreatDoor
section
open Go.RowKit Go.IntWalk Lx Pz
def LV (w:World)(b:Nat)(NM:List aM)(BS:List Int)(n k:Nat):Prop:=∀(W:World) (m:Mm) (T:List Tok) (NS:List Nd),T.length<=n->NS.length+T.length<=2000->Rd w W b m T NM BS NS ->
 Calls Tryz.prog 185 #[ptr b,.i (k:Nat)] W fun e W'=>∃ res,R NM (.at (k+1)) (T.map ab) res/\Ok w W b T NM BS NS res e W'
def lenAt (b:Nat)(W:World):Nat:=match W.cell? ⟨b,0,none⟩ with|some (.slice _ n _)=>n|_=>0
theorem Rd.lenAt {w W:World}{b:Nat}{m:Mm}{T:List Tok}{NM:List aM}{BS:List Int}{NS:List Nd}(h:Rd w W b m T NM BS NS):lenAt b W=T.length:=by
 unfold Go.Proofs.YticnbcfmbhjbgaaGreatDoor.lenAt
 rw[h.blk.cell 0 rfl]
 exact h.toks.t.len.symm
structure LF (w W:World)(b k:Nat)(T:List Tok)(NM:List aM)(BS:List Int)(NS:List Nd)(ex:E)(T':List Tok)(V:World):Prop where
 pre:∃ P,T=P++T'
 go:∀ res,R NM (.lp k ex) (T'.map ab) res->R NM (.at (k+1)) (T.map ab) res
 rd:∃ m',Rd w V b m' T' NM BS (NS++ex.flat NS.length)
 kp:Kp SX W V
 sz:ex.size+T'.length<=T.length
theorem aWg {k:Nat}{T:List Tok}(hw:∀ t ∈ T,Wf t)(h:opL k (hd T).text=0):∀ o,(T.map ab).head?≠some (.op k o):=by
 intro o
 cases T with
 | nil=>simp
 | cons t T =>
  rcases aJk k (hw t (by simp)) with⟨-,h2⟩|⟨h1,-⟩
  ·simpa using h2 o
  ·exact absurd h h1
theorem aV6 {k:Nat}{T:List Tok}(hw:∀ t ∈ T,Wf t)(h:¬opL k (hd T).text=0):∃ t T1,T=t::T1/\ab t=.op k (opL k (hd T).text):=by
 cases T with
 | nil=>exact absurd (zT (by decide)) h
 | cons t T =>
  rcases aJk k (hw t (by simp)) with⟨h1,-⟩|⟨-,h2⟩
  ·exact absurd h1 h
  ·exact⟨t,T,rfl,h2⟩
theorem aOn {w:World}{b n k:Nat}{NM:List aM}{BS:List Int}(hk7:k < 7)(hup:LV w b NM BS n (k+1)):LV w b NM BS n k:=by
 intro W m T NS hT hN h
 have HU:=aA hup
 have HW:=aA h
 have F1:=aEv
 have hk0:((k:Int)==7)=false:=by simp;omega
 clear h hup
 go_enter Tryz.func185,Tryz.ntmps185
 go_wp2_with fail
 refine wp_scope_jumps 0 (fun a' V=>∃(ex:E) (T':List Tok) (u6 u7 u8 u9 u10 u11 u12 u13 u14 u15 u16 u17 u18 u19 u20 u21 u22 u23 u24 u25 u26 u27 u28 u29 u30 u31 u32 u33 u34 u35 u36 u37 u38:Value),a'={ tmps:=#[ptr b,.i (k:Nat),undef,undef,.i 0,.i (((NS.length+ex.size:Nat):Int)-1),u6,u7,u8,u9,u10,u11,u12,u13,u14,u15,u16,u17,u18,u19,u20,u21,u22,u23,u24,u25,u26,u27,u28,u29,u30,u31,u32,u33,u34,u35,u36,u37,u38],defers:=[] }/\Hid (LF w W b k T NM BS NS ex T' V)) (fun _ V=>lenAt b V) rfl ?_ ?_
 ·go_wp2_with fail
  refine(HU.o W m T NS hT hN HW.o).mono ?_
  rintro e V0 ⟨res,hres,(⟨rfl,rfl,hb⟩|⟨ex,P0,T',rfl,hsp,rfl,hR,hk⟩)⟩
  ·have HB:=aA hb
   have HN:=aA hres
   clear hb hres
   go_wp2_with fail
   try simp only[Exit.jump]
   exact⟨rfl,none,R.lv_none hk7 HN.o,.inl ⟨rfl,rfl,HB.o⟩⟩
  ·have HF:=aA (show LF w W b k T NM BS NS ex T' V0 from⟨⟨P0,hsp⟩,fun res h=>R.lv_go hk7 hres h,hR,hk,by have:=qI hres;simpa using this⟩)
   clear hres hsp hR hk HW
   go_wp2_with fail
   go_step3
   obtain⟨mL,hmL⟩:=HF.o.rd
   have HM:=aA hmL
   have hw:=aA hmL.wf
   have hsz:=HF.o.sz
   clear hmL
   have HO:=aA fun Z=>uO k (sB (hd T').text) Z
   rw[iB] at HO
   by_cases hop:opL k (hd T').text=0
   ·have HS:=aA (aWg hw.o hop)
    rw[hop] at HO
    clear hop
    go_wp2_with fail
    refine(fO HM.o).mono ?_
    rintro e V1 ⟨rfl,hb⟩
    have HR1:=aA (HM.o.later hb)
    have HK1:=aA (HF.o.kp.trans (Kp.of_below SX hb))
    generalize sB (hd T').text=u at HO ⊢
    generalize ((hd T').pos:Int)=p
    generalize (hd T').kind=kk
    clear hb
    go_wp2_with fail
    refine(HO.o _).mono ?_
    rintro e V2 ⟨rfl,hb⟩
    have HR2:=aA (HR1.o.later hb)
    have HK2:=aA (HK1.o.trans (Kp.of_below SX hb))
    clear hb
    go_wp2_with fail
    try simp only[Exit.jump]
    go_ret
    obtain⟨P,hP⟩:=HF.o.pre
    exact⟨_,HF.o.go _ (R.lp_stop HS.o),.inr ⟨ex,P,T',rfl,hP,rfl,⟨_,HR2.o⟩,HK2.o⟩⟩
   ·obtain⟨t,T1,rfl,hab⟩:=aV6 hw.o hop
    obtain⟨o,ho⟩:∃ o,opL k (hd (t::T1)).text=o:=⟨_,rfl⟩
    rw[ho] at HO hop hab
    have hoz:(o==0)=false:=by simpa using hop
    have HAB:=aA (show (t::T1).map ab=.op k o::T1.map ab by rw[lMc,hab])
    rw[lLc] at hsz
    clear ho hop hab hw
    go_wp2_with fail
    refine(fO HM.o).mono ?_
    rintro e V1 ⟨rfl,hb⟩
    have HR1:=aA (HM.o.later hb)
    have HK1:=aA (HF.o.kp.trans (Kp.of_below SX hb))
    generalize sB (hd (t::T1)).text=u at HO ⊢
    generalize ((hd (t::T1)).pos:Int)=p
    generalize (hd (t::T1)).kind=kk
    clear hb
    go_wp2_with fail
    refine(HO.o _).mono ?_
    rintro e V2 ⟨rfl,hb⟩
    have HR2:=aA (HR1.o.later hb)
    have HK2:=aA (HK1.o.trans (Kp.of_below SX hb))
    clear hb
    go_wp2_with fail
    refine(eG HR2.o).mono ?_
    rintro e V3 ⟨rfl,⟨m3,hR⟩,hk⟩
    have HR3:=aA hR
    have HK3:=aA (HK2.o.trans hk)
    clear hR hk
    go_wp2_with fail
    refine(HU.o V3 m3 T1 (NS++ex.flat NS.length) (by omega) (by rw[lLa,E.flat_len];omega) HR3.o).mono ?_
    rintro e V4 ⟨res,hres,(⟨rfl,rfl,hb⟩|⟨e2,P4,T4,rfl,hsp,rfl,⟨m4,hR⟩,hk⟩)⟩
    ·have HB:=aA hb
     have HN:=aA hres
     clear hb hres
     go_wp2_with fail
     try simp only[Exit.jump]
     exact⟨rfl,none,HF.o.go _ (by rw[HAB.o];exact R.lp_none HN.o),.inl ⟨rfl,rfl,HB.o⟩⟩
    ·have HRES:=aA hres
     have HSP:=aA hsp
     have hl2:e2.size+T4.length<=T1.length:=by have:=qI hres;simpa using this
     rw[show (NS++ex.flat NS.length).length=NS.length+ex.size by rw[lLa,E.flat_len]] at hR ⊢
     have HR4:=aA hR
     have HK4:=aA (HK3.o.trans hk)
     clear hres hsp hR hk
     go_wp2_with fail
     refine(fM HR4.o ⟨o,((NS.length+ex.size:Nat):Int)-1,((NS.length+ex.size+e2.size:Nat):Int)-1,0,0,0,0,0,0⟩ (by simp[E.flat_len];omega)).mono ?_
     rintro e V5 ⟨rfl,hR,hk⟩
     rw[show NS++ex.flat NS.length++e2.flat (NS.length+ex.size)++[⟨o,((NS.length+ex.size:Nat):Int)-1,((NS.length+ex.size+e2.size:Nat):Int)-1,0,0,0,0,0,0⟩]=NS++(E.bin o ex e2).flat NS.length by simp[E.flat]] at hR
     have HR5:=aA hR
     have HK5:=aA (HK4.o.trans hk)
     rw[show (((NS++ex.flat NS.length++e2.flat (NS.length+ex.size)).length:Nat):Int)=((NS.length+(E.bin o ex e2).size:Nat):Int)-1 by simp[E.flat_len,E.size];omega]
     clear hR hk
     obtain⟨P,hP⟩:=HF.o.pre
     have HPP:=aA (show T=(P++t::P4)++T4 by rw[hP,HSP.o];simp)
     clear hP
     by_cases h3:k=3
     ·subst h3
      go_wp2_with fail
      try simp only[Exit.jump]
      go_ret
      exact⟨_,HF.o.go _ (by rw[HAB.o];exact R.lp_cmp HRES.o),.inr ⟨E.bin o ex e2,P++t::P4,T4,rfl,HPP.o,rfl,HR5.o,HK5.o⟩⟩
     ·have h3':((k:Int) != 3)=true:=by simp;omega
      have H3:=aA h3
      clear h3
      go_wp2_with fail
      go_step3
      have HF2:=aA (show LF w W b k T NM BS NS (E.bin o ex e2) T4 V5 from⟨⟨_,HPP.o⟩,fun res h=>HF.o.go _ (by rw[HAB.o];exact R.lp_go H3.o HRES.o h),HR5.o,HK5.o,by simp[E.size];omega⟩)
      exact⟨rfl,E.bin o ex e2,T4,_,_,_,_,_,_,_,_,_,_,_,_,_,_,_,_,_,_,_,_,_,_,_,_,_,_,_,_,_,_,_,_,_,rfl,HF2⟩
 ·rintro a' V ⟨ex,T',u6,u7,u8,u9,u10,u11,u12,u13,u14,u15,u16,u17,u18,u19,u20,u21,u22,u23,u24,u25,u26,u27,u28,u29,u30,u31,u32,u33,u34,u35,u36,u37,u38,rfl,HF⟩
  clear HW
  obtain⟨mL,hmL⟩:=HF.o.rd
  have HM:=aA hmL
  have hw:=aA hmL.wf
  have hsz:=HF.o.sz
  clear hmL
  have HO:=aA fun Z=>uO k (sB (hd T').text) Z
  rw[iB] at HO
  by_cases hop:opL k (hd T').text=0
  ·have HS:=aA (aWg hw.o hop)
   rw[hop] at HO
   clear hop
   go_wp2_with fail
   refine(fO HM.o).mono ?_
   rintro e V1 ⟨rfl,hb⟩
   have HR1:=aA (HM.o.later hb)
   have HK1:=aA (HF.o.kp.trans (Kp.of_below SX hb))
   generalize sB (hd T').text=u at HO ⊢
   generalize ((hd T').pos:Int)=p
   generalize (hd T').kind=kk
   clear hb
   go_wp2_with fail
   refine(HO.o _).mono ?_
   rintro e V2 ⟨rfl,hb⟩
   have HR2:=aA (HR1.o.later hb)
   have HK2:=aA (HK1.o.trans (Kp.of_below SX hb))
   clear hb
   go_wp2_with fail
   try simp only[Exit.jump]
   go_ret
   obtain⟨P,hP⟩:=HF.o.pre
   exact⟨_,HF.o.go _ (R.lp_stop HS.o),.inr ⟨ex,P,T',rfl,hP,rfl,⟨_,HR2.o⟩,HK2.o⟩⟩
  ·obtain⟨t,T1,rfl,hab⟩:=aV6 hw.o hop
   obtain⟨o,ho⟩:∃ o,opL k (hd (t::T1)).text=o:=⟨_,rfl⟩
   rw[ho] at HO hop hab
   have hoz:(o==0)=false:=by simpa using hop
   have HAB:=aA (show (t::T1).map ab=.op k o::T1.map ab by rw[lMc,hab])
   rw[lLc] at hsz
   clear ho hop hab hw
   go_wp2_with fail
   refine(fO HM.o).mono ?_
   rintro e V1 ⟨rfl,hb⟩
   have HR1:=aA (HM.o.later hb)
   have HK1:=aA (HF.o.kp.trans (Kp.of_below SX hb))
   generalize sB (hd (t::T1)).text=u at HO ⊢
   generalize ((hd (t::T1)).pos:Int)=p
   generalize (hd (t::T1)).kind=kk
   clear hb
   go_wp2_with fail
   refine(HO.o _).mono ?_
   rintro e V2 ⟨rfl,hb⟩
   have HR2:=aA (HR1.o.later hb)
   have HK2:=aA (HK1.o.trans (Kp.of_below SX hb))
   clear hb
   go_wp2_with fail
   refine(eG HR2.o).mono ?_
   rintro e V3 ⟨rfl,⟨m3,hR⟩,hk⟩
   have HR3:=aA hR
   have HK3:=aA (HK2.o.trans hk)
   clear hR hk
   go_wp2_with fail
   refine(HU.o V3 m3 T1 (NS++ex.flat NS.length) (by omega) (by rw[lLa,E.flat_len];omega) HR3.o).mono ?_
   rintro e V4 ⟨res,hres,(⟨rfl,rfl,hb⟩|⟨e2,P4,T4,rfl,hsp,rfl,⟨m4,hR⟩,hk⟩)⟩
   ·have HB:=aA hb
    have HN:=aA hres
    clear hb hres
    go_wp2_with fail
    try simp only[Exit.jump]
    exact⟨rfl,none,HF.o.go _ (by rw[HAB.o];exact R.lp_none HN.o),.inl ⟨rfl,rfl,HB.o⟩⟩
   ·have HRES:=aA hres
    have HSP:=aA hsp
    have hl2:e2.size+T4.length<=T1.length:=by have:=qI hres;simpa using this
    rw[show (NS++ex.flat NS.length).length=NS.length+ex.size by rw[lLa,E.flat_len]] at hR ⊢
    have HR4:=aA hR
    have HK4:=aA (HK3.o.trans hk)
    clear hres hsp hR hk
    go_wp2_with fail
    refine(fM HR4.o ⟨o,((NS.length+ex.size:Nat):Int)-1,((NS.length+ex.size+e2.size:Nat):Int)-1,0,0,0,0,0,0⟩ (by simp[E.flat_len];omega)).mono ?_
    rintro e V5 ⟨rfl,hR,hk⟩
    rw[show NS++ex.flat NS.length++e2.flat (NS.length+ex.size)++[⟨o,((NS.length+ex.size:Nat):Int)-1,((NS.length+ex.size+e2.size:Nat):Int)-1,0,0,0,0,0,0⟩]=NS++(E.bin o ex e2).flat NS.length by simp[E.flat]] at hR
    have HR5:=aA hR
    have HK5:=aA (HK4.o.trans hk)
    rw[show (((NS++ex.flat NS.length++e2.flat (NS.length+ex.size)).length:Nat):Int)=((NS.length+(E.bin o ex e2).size:Nat):Int)-1 by simp[E.flat_len,E.size];omega]
    clear hR hk
    obtain⟨P,hP⟩:=HF.o.pre
    have HPP:=aA (show T=(P++t::P4)++T4 by rw[hP,HSP.o];simp)
    clear hP
    by_cases h3:k=3
    ·subst h3
     go_wp2_with fail
     try simp only[Exit.jump]
     go_ret
     exact⟨_,HF.o.go _ (by rw[HAB.o];exact R.lp_cmp HRES.o),.inr ⟨E.bin o ex e2,P++t::P4,T4,rfl,HPP.o,rfl,HR5.o,HK5.o⟩⟩
    ·have h3':((k:Int) != 3)=true:=by simp;omega
     have H3:=aA h3
     clear h3
     go_wp2_with fail
     go_step3
     have HF2:=aA (show LF w W b k T NM BS NS (E.bin o ex e2) T4 V5 from⟨⟨_,HPP.o⟩,fun res h=>HF.o.go _ (by rw[HAB.o];exact R.lp_go H3.o HRES.o h),HR5.o,HK5.o,by simp[E.size];omega⟩)
     refine⟨rfl,⟨E.bin o ex e2,T4,_,_,_,_,_,_,_,_,_,_,_,_,_,_,_,_,_,_,_,_,_,_,_,_,_,_,_,_,_,_,_,_,_,rfl,HF2⟩,?_⟩
     obtain⟨m5,hm5⟩:=HR5.o
     rw[hm5.lenAt,HM.o.lenAt,lLc]
     omega
end
section
open Go.RowKit Go.IntWalk Lx Pz
variable {w:World} {b n:Nat} {BS:List Int}
theorem aXg {NM:List aM}(hch:CH w b NM BS n):LV w b NM BS n 7:=by
 intro W m T NS hT hN h
 have HC:=aA (aO0 hch T W m NS hT hN h)
 clear h hch
 go_enter Tryz.func185,Tryz.ntmps185
 go_wp2_with fail
 go_step3
 go_wp2_with fail
 refine HC.o.mono ?_
 rintro e V2 ⟨res,hres,hok⟩
 have HOK:=aA hok
 have HD:=aA hres
 clear hres
 rcases hok with⟨-,rfl,-⟩|⟨ex,-,-,-,-,rfl,-⟩
 ·go_wp2_with fail
  try rw[Exit.noGoto_panic]
  exact⟨rfl,_,HD.o,HOK.o⟩
 ·go_wp2_with fail
  try rw[Exit.noGoto_ret]
  go_ret
  exact⟨_,HD.o,HOK.o⟩
theorem aK1 {NM : List aM} (hch : CH w b NM BS n) : ∀ j k, k + j = 7 → LV w b NM BS n k := by
  intro j
  induction j with
  | zero => intro k hk; obtain rfl : k = 7 := by omega
            exact aXg hch
  | succ j ih => intro k hk; exact aOn (by omega) (ih (k + 1) (by omega))
theorem aKm {W:World}{m:Mm}{T:List Tok}{NM:List aM}{NS:List Nd}(hch:CH w b NM BS n)(hT:T.length<=n)(hN:NS.length+T.length<=2000)(h:Rd w W b m T NM BS NS) :
  Calls Tryz.prog 110 #[ptr b] W fun e W'=>∃ res,R NM (.at 0) (T.map ab) res/\Ok w W b T NM BS NS res e W':=by
 have HC:=aA hch
 have HL:=aA (aK1 hch 7 0 rfl W m T NS hT hN h)
 clear h hch
 go_enter Tryz.func110,Tryz.ntmps110
 go_wp2_with fail
 refine HL.o.mono ?_
 rintro e V1 ⟨res,hres,(⟨rfl,rfl,hb⟩|⟨ex,P1,T1,rfl,hsp,rfl,⟨m1,hR⟩,hk⟩)⟩
 ·have HB:=aA hb
  have HN:=aA hres
  clear hb hres
  go_wp2_with fail
  exact⟨rfl,none,R.ch_none HN.o,.inl ⟨rfl,rfl,HB.o⟩⟩
 ·have HRES:=aA hres
  have HSP:=aA hsp
  have hl1:ex.size+T1.length<=T.length:=by have:=qI hres;simpa using this
  have hp1:=ex.size_pos
  have HR1:=aA hR
  have HK1:=aA hk
  have hw1:=aA hR.wf
  clear hres hsp hR hk HL
  by_cases hq:(T1.map ab).head?=some .ques
  ·obtain⟨t2,T2,rfl,h2⟩:=dF hq
   have hs2:=aA ((bN (hw1.o t2 (by simp)) (s:=[63]) (by decide)).2 h2)
   have H2:=aA (show (t2::T2).map ab=.ques::T2.map ab by rw[lMc,h2])
   rw[H2.o] at HRES
   rw[lLc] at hl1
   clear hq h2 hw1
   go_wp2_with fail
   refine(lQ HR1.o _ hs2.o).mono ?_
   rintro e V2 ⟨rfl,⟨m2,hR⟩,hk⟩
   have HR2:=aA hR
   have HK2:=aA (HK1.o.trans hk)
   clear hR hk
   go_wp2_with fail
   refine(HC.o _ _ T2 (NS++ex.flat NS.length) (by omega) (by rw[lLa,E.flat_len];omega) HR2.o).mono ?_
   rintro e V3 ⟨res,hres,(⟨rfl,rfl,hb⟩|⟨e2,P3,T3,rfl,hsp,rfl,⟨m3,hR⟩,hk⟩)⟩
   ·have HB:=aA hb
    have HN:=aA hres
    clear hb hres
    go_wp2_with fail
    exact⟨rfl,none,R.ch_no HRES.o HN.o rfl,.inl ⟨rfl,rfl,HB.o⟩⟩
   ·have HRES2:=aA hres
    have HSP2:=aA hsp
    have hl2:e2.size+T3.length<=T2.length:=by have:=qI hres;simpa using this
    rw[show (NS++ex.flat NS.length).length=NS.length+ex.size by rw[lLa,E.flat_len]] at hR ⊢
    have HR3:=aA hR
    have HK3:=aA (HK2.o.trans hk)
    have hw3:=aA hR.wf
    clear hres hsp hR hk
    by_cases hc:(T3.map ab).head?=some .colon
    ·obtain⟨t4,T4,rfl,h4⟩:=dF hc
     have hs4:=aA ((bN (hw3.o t4 (by simp)) (s:=[58]) (by decide)).2 h4)
     have H4:=aA (show (t4::T4).map ab=.colon::T4.map ab by rw[lMc,h4])
     rw[H4.o] at HRES2
     rw[lLc] at hl2
     clear hc h4 hw3
     go_wp2_with fail
     refine(dY HR3.o _ hs4.o).mono ?_
     rintro e V4 ⟨rfl,⟨m4,hR⟩,hk⟩
     have HR4:=aA hR
     have HK4:=aA (HK3.o.trans hk)
     clear hR hk
     go_wp2_with fail
     refine(HC.o _ _ T4 (NS++ex.flat NS.length++e2.flat (NS.length+ex.size)) (by omega) (by simp[E.flat_len];omega) HR4.o).mono ?_
     rintro e V5 ⟨res,hres,(⟨rfl,rfl,hb⟩|⟨e3,P5,T5,rfl,hsp,rfl,⟨m5,hR⟩,hk⟩)⟩
     ·have HB:=aA hb
      have HN:=aA hres
      clear hb hres
      go_wp2_with fail
      exact⟨rfl,none,R.ch_sel HRES.o HRES2.o (dV _ _ _) HN.o,.inl ⟨rfl,rfl,HB.o⟩⟩
     ·have HRES3:=aA hres
      have HSP3:=aA hsp
      have hl3:e3.size+T5.length<=T4.length:=by have:=qI hres;simpa using this
      rw[show (NS++ex.flat NS.length++e2.flat (NS.length+ex.size)).length=NS.length+ex.size+e2.size by simp[E.flat_len,Nat.add_assoc]] at hR ⊢
      have HR5:=aA hR
      have HK5:=aA (HK4.o.trans hk)
      clear hres hsp hR hk
      go_wp2_with fail
      refine(fM HR5.o ⟨28,((NS.length+ex.size:Nat):Int)-1,((NS.length+ex.size+e2.size:Nat):Int)-1,((NS.length+ex.size+e2.size+e3.size:Nat):Int)-1,0,0,0,0,0⟩ (by simp[E.flat_len];omega)).mono ?_
      rintro e V6 ⟨rfl,hR,hk⟩
      rw[show NS++ex.flat NS.length++e2.flat (NS.length+ex.size)++e3.flat (NS.length+ex.size+e2.size)++[⟨28,((NS.length+ex.size:Nat):Int)-1,((NS.length+ex.size+e2.size:Nat):Int)-1,((NS.length+ex.size+e2.size+e3.size:Nat):Int)-1,0,0,0,0,0⟩]=NS++(E.tri 28 ex e2 e3).flat NS.length by simp[E.flat]] at hR
      have HR6:=aA hR
      have HK6:=aA (HK5.o.trans hk)
      rw[show (((NS++ex.flat NS.length++e2.flat (NS.length+ex.size)++e3.flat (NS.length+ex.size+e2.size)).length:Nat):Int)=((NS.length+(E.tri 28 ex e2 e3).size:Nat):Int)-1 by simp[E.flat_len,E.size];omega]
      clear hR hk
      go_wp2_with fail
      go_ret
      exact⟨_,R.ch_sel HRES.o HRES2.o (dV _ _ _) HRES3.o,.inr ⟨E.tri 28 ex e2 e3,P1++t2::(P3++t4::P5),T5,rfl,by rw[HSP.o,HSP2.o,HSP3.o];simp,rfl,HR6.o,HK6.o⟩⟩
    ·have hs4:=aA (iP (s:=[58]) hw3.o (by decide) hc)
     have HCO:=aA hc
     clear hc hw3
     go_wp2_with fail
     refine(fH HR3.o _ hs4.o).mono ?_
     rintro e V4 ⟨rfl,hb⟩
     have HB:=aA (bel HR3.o.old hb)
     clear hb
     go_wp2_with fail
     exact⟨rfl,none,R.ch_no HRES.o HRES2.o (uZ HCO.o),.inl ⟨rfl,rfl,HB.o⟩⟩
  ·have hs2:=aA (iP (s:=[63]) hw1.o (by decide) hq)
   have HQ:=aA hq
   clear hq hw1
   go_wp2_with fail
   refine(mI HR1.o _ hs2.o).mono ?_
   rintro e V2 ⟨rfl,hb⟩
   have HR2:=aA (HR1.o.later hb)
   have HK2:=aA (HK1.o.trans (Kp.of_below SX hb))
   clear hb
   go_wp2_with fail
   go_ret
   exact⟨_,R.ch_up HRES.o HQ.o,.inr ⟨ex,P1,T1,rfl,HSP.o,rfl,⟨_,HR2.o⟩,HK2.o⟩⟩
theorem xY {NM:List aM}:∀ n,CH w b NM BS n:=by
 intro n
 induction n with
 | zero=>intro W m T NS h;omega
 | succ n ih=>intro W m T NS hT hN h;exact aKm ih (by omega) hN h
end
open Go.RowKit Go.IntWalk Lx Pz
variable {V W w:World} {b:Nat} {v:Value} {BS:List Int}
abbrev SY:List TypeId:=[137,106,9,3]
theorem aTe:(Tryz.prog.info? 9).map (fun i=>(i.zero,i.size,i.bytes))=some (some (.string ⟨#[]⟩),1,16):=by kernel_rfl
theorem aI4:(Tryz.prog.info? 3).map (fun i=>(i.zero,i.size,i.bytes))=some (some (.i 0),1,8):=by kernel_rfl
theorem lN {t:TypeId}(h:aB W b t #[v]):∀ j u,[v][j]?=some u->W.cell? ((⟨b,0,none⟩:Addr).add j)=some u:=by
 intro j u hu
 rw[Addr.add_lit,nZa]
 exact h.cell j (by rw[<-hu];simp)
theorem aVa {m:Mm}{T:List Tok}{NM:List aM}{NS:List Nd}{ops:Array Oper}{o:Oper}{a:Act}{K:Act->World->Prop}{Q:Exit->Act->World->Prop}{E:Prop}
  (hgd:o.guard=none) (s x:Operand) (ho:o.op=.call { callee:=.builtin .append,args:=#[s,x],argTypes:=#[47,47] })
  (hs:a.eval s=m.nv) (hR:Rd w W b m T NM BS NS) (q:Nat) (n:aM) (hx:a.eval x=.slice (some ⟨q,0,none⟩) 1 1) (hc:aB W q 9 #[.string (sB n)]) (h3:NM.length<=2000000)
  (h:∀ g cap w',w'.ownsRow w.heap.size 9 1 (.slice (some ⟨g,0,none⟩) (NM.length+1) cap) (NM++[n]).length (aL0 (NM++[n]))->aB w' b 106 m.cs->Kp [9] W w'->Below w.heap.size w w'->K (a.put o.dst (.slice (some ⟨g,0,none⟩) (NM.length+1) cap)) w') :
  if Region.wanted o (yielded ops a.tmps)=true then Oper.wp Tryz.prog o a W K Q else E:=by
 obtain⟨i0,hi0,hz0,hz1,hz2⟩:=info_parts aTe
 refine step_append_lies W hgd s x 47 ho w.heap.size 9 i0 _ 1 16 Tryz.underlying47 hi0 hz0 hz1 hz2 rfl (by omega) m.nv NM.length (aL0 NM) hs hR.names ⟨q,0,none⟩ 1 1 [.string (sB n)] hx rfl (lN hc) (by simp[Value.oneCell']) (by omega) (by unfold maxLen;omega) (by omega) hR.old.size W.heap.size rfl ?_
 intro g cap w' hown hgrow hat hlt
 have hk:Kp [9] W w':=Kp.grown hgrow fun k hk=>by
  obtain⟨_,cs,fr,hb⟩:=aR hR.names k hk
  exact⟨cs,_,fr,hb,by simp⟩
 exact h g cap w' (by rw[lLa];simpa using hown) (hR.blk.kp hk (by decide)) hk (hR.old.grown hgrow hR.old.size fun k hk=>(aR hR.names k hk).1)
theorem aTn {m:Mm}{T:List Tok}{NM:List aM}{NS:List Nd}{ops:Array Oper}{rest:List Oper}{o:Oper}{a:Act}{Q:Exit->Act->World->Prop}
  (hgd:o.guard=none) (s x:Operand) (ho:o.op=.call { callee:=.builtin .append,args:=#[s,x],argTypes:=#[24,24] })
  (hs:a.eval s=m.bv) (hR:Rd w W b m T NM BS NS) (q:Nat) (n:Int) (hx:a.eval x=.slice (some ⟨q,0,none⟩) 1 1) (hc:aB W q 3 #[.i n]) (h3:BS.length<=2000000)
  (h:∀ g cap w',w'.ownsRow w.heap.size 3 1 (.slice (some ⟨g,0,none⟩) (BS.length+1) cap) (BS++[n]).length (kK (BS++[n]))->aB w' b 106 m.cs->Kp [3] W w'->Below w.heap.size w w'->wpList Tryz.prog ops Q rest (a.put o.dst (.slice (some ⟨g,0,none⟩) (BS.length+1) cap)) w') :
  wpList Tryz.prog ops Q (o::rest) a W:=by
 obtain⟨i0,hi0,hz0,hz1,hz2⟩:=info_parts aI4
 refine wpList_append_lies W hgd s x 24 ho w.heap.size 3 i0 _ 1 8 Tryz.underlying24 hi0 hz0 hz1 hz2 rfl (by omega) m.bv BS.length (kK BS) hs hR.binds ⟨q,0,none⟩ 1 1 [.i n] hx rfl (lN hc) (by simp[Value.oneCell']) (by omega) (by unfold maxLen;omega) (by omega) hR.old.size W.heap.size rfl ?_
 intro g cap w' hown hgrow hat hlt
 have hk:Kp [3] W w':=Kp.grown hgrow fun k hk=>by
  obtain⟨_,cs,fr,hb⟩:=aR hR.binds k hk
  exact⟨cs,_,fr,hb,by simp⟩
 exact h g cap w' (by rw[lLa];simpa using hown) (hR.blk.kp hk (by decide)) hk (hR.old.grown hgrow hR.old.size fun k hk=>(aR hR.binds k hk).1)
theorem aX9 {Z w1:World}{m:Mm}{T:List Tok}{NM NM':List aM}{NS:List Nd}(hR:Rd w V b m T NM BS NS)(hVZ:Below V.heap.size V Z)
  (hown:w1.ownsRow w.heap.size 9 1 v NM'.length (aL0 NM')) (hb1:aB w1 b 106 m.cs) (hk1:Kp [9] Z w1) (hold:Below w.heap.size w w1) :
  (∃ m',Rd w (w1.setCell ⟨b,1,none⟩ v) b m' T NM' BS NS)/\Kp SY V (w1.setCell ⟨b,1,none⟩ v):=by
 have ks:Kp [106] w1 (w1.setCell ⟨b,1,none⟩ v):=Kp.set hb1 (by simp) 1 v
 have hk:Kp [9,106] V (w1.setCell ⟨b,1,none⟩ v):=((Kp.of_below [9,106] hVZ).trans (hk1.mono (by decide))).trans (ks.mono (by decide))
 exact⟨⟨⟨m.la,m.ln,m.lc,v,m.bv,m.dv,m.root⟩,hb1.set 1 v,hR.base,hR.toks.kp hk (by decide),bB hown ks (by decide),bB hR.binds hk (by decide),bB hR.nodes hk (by decide),hR.wf,hold.setCell hR.base v⟩,hk.mono (by decide)⟩
theorem aWt {Z w1:World}{m:Mm}{T:List Tok}{NM:List aM}{BS':List Int}{NS:List Nd}(hR:Rd w V b m T NM BS NS)(hVZ:Below V.heap.size V Z)
  (hown:w1.ownsRow w.heap.size 3 1 v BS'.length (kK BS')) (hb1:aB w1 b 106 m.cs) (hk1:Kp [3] Z w1) (hold:Below w.heap.size w w1) :
  (∃ m',Rd w (w1.setCell ⟨b,2,none⟩ v) b m' T NM BS' NS)/\Kp SY V (w1.setCell ⟨b,2,none⟩ v):=by
 have ks:Kp [106] w1 (w1.setCell ⟨b,2,none⟩ v):=Kp.set hb1 (by simp) 2 v
 have hk:Kp [3,106] V (w1.setCell ⟨b,2,none⟩ v):=((Kp.of_below [3,106] hVZ).trans (hk1.mono (by decide))).trans (ks.mono (by decide))
 exact⟨⟨⟨m.la,m.ln,m.lc,m.nv,v,m.dv,m.root⟩,hb1.set 2 v,hR.base,hR.toks.kp hk (by decide),bB hR.names hk (by decide),bB hown ks (by decide),bB hR.nodes hk (by decide),hR.wf,hold.setCell hR.base v⟩,hk.mono (by decide)⟩
def aZ3 (w W:World)(b:Nat)(T:List Tok)(NM:List aM)(BS:List Int)(NS:List Nd)(e:Ending)(W':World):Prop :=
 (e=pan/\Below w.heap.size w W'/\(hdr NM (T.map ab)=none\/∃ s l2 res,hdr NM (T.map ab)=some (s,l2)/\R NM (.at 0) l2 res/\uB .semi res=none)) \/
 (∃ s l2 res ex P T',hdr NM (T.map ab)=some (s,l2)/\R NM (.at 0) l2 res/\uB .semi res=some (ex,T'.map ab)/\T=P++T'/\ex.size+T'.length+1<=T.length/\e=.returned (.tuple #[]) /\
  (∃ m',Rd w W' b m' T' (NM++[s]) (BS++[((NS.length+ex.size:Nat):Int)-1]) (NS++ex.flat NS.length))/\Kp SY W W')
theorem aS8 {nm:List aM}{l:List Tk}(h:∀ s,l.head?≠some (.word s)):hdr nm l=none:=by
 unfold hdr
 split
 ·exact absurd rfl (h _)
 ·rfl
theorem aI1 {nm:List aM}{s:aM}{l:List Tk}(h:(mU s || nm.contains s)=true):hdr nm (.word s::l)=none:=by
 unfold hdr
 split
 ·rename_i heq;cases heq;rw[if_pos h]
 ·rfl
theorem aS9 {nm:List aM}{s:aM}{l:List Tk}(h:l.head?≠some .eq):hdr nm (.word s::l)=none:=by
 unfold hdr
 split
 ·rename_i heq;cases heq;exact absurd rfl h
 ·rfl
theorem Pl.stepT {V':World}{T T':List Tok}{NM:List aM}{NS NS':List Nd}{q:Nat}{ty:TypeId}{cs:Array Value}(h:Pl w W V b T NM BS NS q ty cs)(ht:ty ∉ SX)
  (hr:∃ m,Rd w V' b m T' NM BS NS') (hk:Kp SX V V'):Pl w W V' b T' NM BS NS' q ty cs :=
 ⟨hr,h.kp.trans hk,h.va.kp hk ht,h.q0,h.w0⟩
theorem Tx.drew {a:Option Addr}{n cap:Nat}{L:List aM}(h:Tx W a n cap L)(q:Nat):Tx (W.drewN q) a n cap L:=⟨h.len,h.le,h.max,h.cell⟩
theorem aSg {m:Mm}{T:List Tok}{NM:List aM}{NS:List Nd}(h:Rd w W b m T NM BS NS)(hN:NS.length+T.length<=2000)(hM:NM.length<=2000)(hB:BS.length<=2000) :
  Calls Tryz.prog 109 #[ptr b] W fun e W'=>aZ3 w W b T NM BS NS e W':=by
 have HW:=aA h
 clear h
 cases T with
 | nil =>
  go_enter Tryz.func109,Tryz.ntmps109
  go_wp2_with fail
  refine(aFd HW.o).mono ?_
  rintro e V1 ⟨rfl,hb⟩
  have HB:=aA (bel HW.o.old hb)
  clear hb
  go_wp2_with fail
  exact⟨rfl,.inl ⟨rfl,HB.o,.inl rfl⟩⟩
 | cons t T =>
  have hwf:=aA (HW.o.wf t (by simp))
  rw[lLc] at hN
  by_cases hs:∃ s,ab t=.word s
  ·obtain⟨s,hs⟩:=hs
   obtain⟨hk2,hw2,hts⟩:=aOl hwf.o hs
   have HAB:=aA (show (t::T).map ab=.word s::T.map ab by rw[lMc,hs])
   have HK2:=aA hk2
   have HTS:=aA hts
   have HRs:=aA fun V=>uQ (sB s) V
   have HCt:=aA (show ∀(V:World) (a:Option Addr) (n cap:Nat),Tx V a n cap NM->Calls Tryz.prog 183 #[.slice a n cap,.string (sB s)] V fun e W'=>e=.returned (.bool (NM.contains s))/\W'=V from fun V a n cap hx=>by
    have:=aCh hx (sB s)
    rw[iB] at this
    exact this)
   rw[iB] at HRs
   clear hs hk2 hw2 hts
   go_enter Tryz.func109,Tryz.ntmps109
   go_wp2_with fail
   refine(eG HW.o).mono ?_
   rintro e V1 ⟨rfl,⟨m1,hR⟩,hk⟩
   have HP:=aA (show Pl w W (V1.alloc (.cells (tc t.kind (sB t.text) t.pos) 157)) b T NM BS NS V1.heap.size 157 (tc t.kind (sB t.text) t.pos) from⟨⟨m1,hR.later (aD _ _)⟩,hk.trans (Kp.of_below SX (aD _ _)),aB.new _ _ _,hk.size,HW.o.old.size⟩)
   rw[HK2.o,HTS.o] at HP ⊢
   clear hR hk
   go_wp2_with fail
   generalize V1.heap.size=q at HP ⊢
   generalize V1.alloc (.cells (tc 2 (sB s) t.pos) 157)=V at HP ⊢
   obtain⟨m2,hm2⟩:=HP.o.rd
   have HR:=aA hm2
   clear hm2
   obtain⟨d0,d1,d2⟩:=jA HP.o.va
   obtain⟨a1,cap1,hn1,hTx⟩:=Tx.of_owns HR.o.names
   have HTx:=aA hTx
   have c1:V.cell? ⟨b,1,none⟩=some (.slice a1 NM.length cap1):=by rw[<-hn1];exact HR.o.blk.cell 1 rfl
   clear hTx hn1
   have HBB:=aA (show ∀ nq,Below w.heap.size w (V.drewN nq) from fun nq=>bel HR.o.old (below_drewN V nq))
   cases hrs:mU s with
   | true =>
    rw[hrs] at HRs
    have HRS:=aA hrs
    go_quiet ((go_at_call 182;exact Calls.quiet_of_same (HRs.o _)))
    go_wp2_with fail
    exact⟨rfl,.inl ⟨rfl,HBB.o _,.inl (by rw[HAB.o];exact aI1 (by rw[HRS.o];rfl))⟩⟩
   | false =>
    rw[hrs] at HRs
    cases hct:NM.contains s with
    | true =>
     rw[hct] at HCt
     have HCT:=aA hct
     go_quiet ((first|(go_at_call 182;exact Calls.quiet_of_same (HRs.o _))|(go_at_call 183;exact Calls.quiet_of_same (HCt.o _ _ _ _ (HTx.o.drew _)))))
     go_wp2_with fail
     exact⟨rfl,.inl ⟨rfl,HBB.o _,.inl (by rw[HAB.o];exact aI1 (by rw[HCT.o,Bool.or_true]))⟩⟩
    | false =>
     rw[hct] at HCt
     go_quiet ((first|(go_at_call 182;exact Calls.quiet_of_same (HRs.o _))|(go_at_call 183;exact Calls.quiet_of_same (HCt.o _ _ _ _ (HTx.o.drew _)))))
     obtain⟨W2,hW2⟩:∃ W2,V.drewN nq=W2:=⟨_,rfl⟩
     have HP2:=aA (HP.o.later (below_drewN V nq))
     rw[hW2] at HP2 ⊢
     have HRS:=aA hrs
     have HCT:=aA hct
     clear hW2 c1 HTx HR d0 d1 d2 HP hrs hct HCt HRs
     obtain⟨m3,hm3⟩:=HP2.o.rd
     have HM3:=aA hm3
     have hw3:=aA hm3.wf
     clear hm3
     by_cases hq:(T.map ab).head?=some .eq
     ·obtain⟨t4,T4,rfl,h4⟩:=dF hq
      have hs4:=aA ((bN (hw3.o t4 (by simp)) (s:=[61]) (by decide)).2 h4)
      have HH:=aA (show hdr NM ((t::t4::T4).map ab)=some (s,T4.map ab) by rw[HAB.o,lMc,h4];exact aN8 HRS.o HCT.o _)
      rw[lLc] at hN
      clear hq h4 hw3
      go_wp2_with fail
      refine(dY HM3.o _ hs4.o).mono ?_
      rintro e V4 ⟨rfl,hR,hk⟩
      have HP4:=aA (HP2.o.stepT (by decide) hR hk)
      clear hR hk HP2 HM3
      obtain⟨m4,hm4⟩:=HP4.o.rd
      have HM4:=aA hm4
      clear hm4
      go_wp2_with fail
      refine(xY (T4.length+1) V4 m4 T4 NS (by omega) (by omega) HM4.o).mono ?_
      rintro e V5 ⟨res,hres,(⟨rfl,rfl,hb⟩|⟨ex,P5,T5,rfl,hsp,rfl,hR,hk⟩)⟩
      ·have HB:=aA hb
       have HN:=aA hres
       clear hb hres
       go_wp2_with fail
       exact⟨rfl,.inl ⟨rfl,HB.o,.inr ⟨s,_,none,HH.o,HN.o,rfl⟩⟩⟩
      ·have HRES:=aA hres
       have HSP:=aA hsp
       have hl5:ex.size+T5.length<=T4.length:=by have:=qI hres;simpa using this
       have HP5:=aA (HP4.o.stepT (by decide) hR hk)
       clear hres hsp hR hk HP4 HM4
       obtain⟨m5,hm5⟩:=HP5.o.rd
       have HM5:=aA hm5
       have hw5:=aA hm5.wf
       clear hm5
       obtain⟨z,hz⟩:∃ z:Int,((NS.length+ex.size:Nat):Int)-1=z:=⟨_,rfl⟩
       rw[hz]
       have HZ:=aA hz
       clear hz
       by_cases hc:(T5.map ab).head?=some .semi
       ·obtain⟨t6,T6,rfl,h6⟩:=dF hc
        have hs6:=aA ((bN (hw5.o t6 (by simp)) (s:=[59]) (by decide)).2 h6)
        have H6:=aA (show (t6::T6).map ab=.semi::T6.map ab by rw[lMc,h6])
        rw[lLc] at hl5
        clear hc h6 hw5
        go_wp2_with fail
        refine(dY HM5.o _ hs6.o).mono ?_
        rintro e V6 ⟨rfl,hR,hk⟩
        have HP6:=aA (HP5.o.stepT (by decide) hR hk)
        clear hR hk HP5 HM5
        obtain⟨m6,hm6⟩:=HP6.o.rd
        have HM6:=aA hm6
        have HK6:=aA HP6.o.kp
        have hbV:b < V6.heap.size:=hm6.blk.lt
        have hqV:q < V6.heap.size:=HP6.o.va.lt
        obtain⟨-,d1,-⟩:=jA HP6.o.va
        have d1a:∀ o:Obj,(V6.alloc o).cell? ⟨q,1,none⟩=some (.string (sB s)):=fun o=>(aZ hqV).trans d1
        obtain⟨nv,hnv⟩:∃ nv,m6.nv=nv:=⟨_,rfl⟩
        have c1:V6.cell? ⟨b,1,none⟩=some nv:=by rw[<-hnv];exact hm6.blk.cell 1 rfl
        have c1a:∀ o:Obj,(V6.alloc o).cell? ⟨b,1,none⟩=some nv:=fun o=>(aZ hbV).trans c1
        have HNV:=aA hnv
        clear hm6 hnv
        go_upto_region 6 with fail
        go_cut [] from 31 to 43 (fun wc=>Hid (∃ m',Rd w wc b m' T6 (NM++[s]) BS (NS++ex.flat NS.length))/\Hid (Kp SY W wc))
        case first =>
         go_region_law
          (first
           | (refine aVa (m:=m6) (by rfl) _ _ (by rfl) (by exact HNV.o.symm) (by first | exact(HM6.o.later (aD _ _)).later (aF _) | exact(HM6.o.later (aF V6)).later (aD _ _)) V6.heap.size s (by rfl) (by first | exact aB.new _ _ _ | exact(aB.new V6 9 #[.string (sB s)]).below (aF _)) (by omega) ?_;intro g cap w1 hown hb1 hk1 hold;have t3:=hb1.cell 1 rfl;have y3:=hb1.frozen 1))
         all_goals
          have HE:=aA (aX9 HM6.o (by first|exact bel (aD V6 _) (aF _)|exact bel (aF V6) (aD _ _)) hown hb1 hk1 hold)
          clear hown hb1 hk1 hold t3 y3 d1 d1a c1 c1a
          go_wp2_with fail
          go_meet
          exact⟨aA HE.o.1,aA ((HK6.o.mono (by decide)).trans HE.o.2)⟩
        case rest =>
         obtain⟨HR7,HK7⟩:=hcut
         clear d1 d1a c1 c1a HM6 HP6
         obtain⟨m7,hm7⟩:=HR7.o
         have HM7:=aA hm7
         have hbW:b < wc.heap.size:=hm7.blk.lt
         obtain⟨bv,hbv⟩:∃ bv,m7.bv=bv:=⟨_,rfl⟩
         have c2:wc.cell? ⟨b,2,none⟩=some bv:=by rw[<-hbv];exact hm7.blk.cell 2 rfl
         have c2a:∀ o:Obj,(wc.alloc o).cell? ⟨b,2,none⟩=some bv:=fun o=>(aZ hbW).trans c2
         have HBV:=aA hbv
         clear hm7 hbv
         go_wp2_with (at_builtin;refine aTn (m:=m7) rfl _ _ rfl HBV.o.symm (HM7.o.later (aD _ _)) wc.heap.size z rfl (aB.new _ _ _) (by omega) ?_;intro g cap w1 hown hb1 hk1 hold;have t3:=hb1.cell 2 rfl;have y3:=hb1.frozen 2;have HE:=aA (aWt HM7.o (aD wc _) hown hb1 hk1 hold);clear hown hb1 hk1 hold)
         refine bodyPost_end (results_none rfl _ _ _) rfl ?_
         exact .inr ⟨s,_,_,ex,t::t4::(P5++[t6]),T6,HH.o,HRES.o,by rw[H6.o,dV],by rw[HSP.o];simp,by simp;omega,rfl,by rw[HZ.o];exact HE.o.1,HK7.o.trans HE.o.2⟩
       ·have hs6:=aA (iP (s:=[59]) hw5.o (by decide) hc)
        have HCO:=aA hc
        clear hc hw5
        go_wp2_with fail
        refine(fH HM5.o _ hs6.o).mono ?_
        rintro e V6 ⟨rfl,hb⟩
        have HB:=aA (bel HM5.o.old hb)
        clear hb
        go_wp2_with fail
        exact⟨rfl,.inl ⟨rfl,HB.o,.inr ⟨s,_,_,HH.o,HRES.o,uZ HCO.o⟩⟩⟩
     ·have hs4:=aA (iP (s:=[61]) hw3.o (by decide) hq)
      have HQ:=aA hq
      clear hq hw3
      go_wp2_with fail
      refine(fH HM3.o _ hs4.o).mono ?_
      rintro e V4 ⟨rfl,hb⟩
      have HB:=aA (bel HM3.o.old hb)
      clear hb
      go_wp2_with fail
      exact⟨rfl,.inl ⟨rfl,HB.o,.inl (by rw[HAB.o];exact aS9 HQ.o)⟩⟩
  ·have hs':∀ s,ab t≠.word s:=fun s e=>hs ⟨s,e⟩
   have hk:(t.kind != 2)=true:=by
    rcases hwf.o with⟨h,-⟩|⟨h,h2⟩|⟨h,-⟩
    ·rw[h];decide
    ·exact absurd (nX h) (hs' _)
    ·rw[h];decide
   have HS:=aA hs'
   clear hs hs'
   go_enter Tryz.func109,Tryz.ntmps109
   go_wp2_with fail
   refine(eG HW.o).mono ?_
   rintro e V1 ⟨rfl,⟨m1,hR⟩,hk1⟩
   have HR:=aA (hR.later (aD V1 (.cells (tc t.kind (sB t.text) t.pos) 157)))
   have HN:=aA (aB.new V1 157 (tc t.kind (sB t.text) t.pos))
   clear hR hk1
   generalize t.kind=kk at hk HR HN ⊢
   generalize sB t.text=u at HR HN ⊢
   go_wp2_with fail
   generalize V1.heap.size=q at HN ⊢
   generalize V1.alloc (.cells (tc kk u t.pos) 157)=V at HR HN ⊢
   obtain⟨d0,d1,d2⟩:=jA HN.o
   have HBB:=aA (show ∀ nq,Below w.heap.size w (V.drewN nq) from fun nq=>bel HR.o.old (below_drewN V nq))
   go_quiet (fail)
   go_wp2_with fail
   exact⟨rfl,.inl ⟨rfl,HBB.o _,.inl (aS8 fun s e=>HS.o s (by simpa using e))⟩⟩
end Go.Proofs.YticnbcfmbhjbgaaGreatDoor
namespace Pz
def iA:List E->Nat->List Int
 | [],_=>[]
 | a::es,s=>(((s+a.size:Nat):Int)-1)::iA es (s+a.size)
theorem aEh:∀(es:List E) (a:E) (s:Nat),iA (es++[a]) s=iA es s++[((s+bZ es+a.size:Nat):Int)-1]
 | [],a,s=>by simp[iA,bZ]
 | b::es,a,s=>by simp[iA,bZ,aEh es a,Nat.add_assoc]
theorem eX:∀(es:List E) (s:Nat),(iA es s).length=es.length
 | [],s=>rfl
 | a::es,s=>by simp[iA,eX es]
end Pz
namespace Go.Proofs.YticnbcfmbhjbgaaGreatDoor
open Go.RowKit Go.IntWalk Lx Pz
def aZ6 (w W:World)(b:Nat)(T:List Tok)(e:Ending)(W':World):Prop :=
 ∃ res,RP [] [] (T.map ab) res/\((res=none/\e=pan/\Below w.heap.size w W') \/
  (∃ NM es ex,res=some (NM,es,ex)/\NM.length=es.length/\bZ es+ex.size<=T.length/\e=.returned (.tuple #[])/\(∃ m',Rd w W' b m' [] NM (iA es 0) (jL es 0++ex.flat (bZ es))/\m'.root=((bZ es+ex.size:Nat):Int)-1)/\Kp SY W W'))
structure PF (w W:World)(b:Nat)(T:List Tok)(NM:List aM)(es:List E)(T':List Tok)(V:World):Prop where
 go:∀ res,RP NM es (T'.map ab) res->RP [] [] (T.map ab) res
 rd:∃ m',Rd w V b m' T' NM (iA es 0) (jL es 0)
 kp:Kp SY W V
 sz:bZ es+T'.length<=T.length
 ln:NM.length=es.length
 le:es.length+T'.length<=T.length
theorem Rd.root {w W:World}{b:Nat}{m:Mm}{T:List Tok}{NM:List aM}{BS:List Int}{NS:List Nd}(h:Rd w W b m T NM BS NS)(z:Int) :
  Rd w (W.setCell ⟨b,4,none⟩ (.i z)) b ⟨m.la,m.ln,m.lc,m.nv,m.bv,m.dv,z⟩ T NM BS NS/\Kp SY W (W.setCell ⟨b,4,none⟩ (.i z)):=by
 have ks:Kp [106] W (W.setCell ⟨b,4,none⟩ (.i z)):=Kp.set h.blk (by simp) 4 _
 exact⟨⟨h.blk.set 4 _,h.base,h.toks.kp ks (by decide),bB h.names ks (by decide),bB h.binds ks (by decide),bB h.nodes ks (by decide),h.wf,h.old.setCell h.base _⟩,ks.mono (by decide)⟩
theorem aHt {w W:World}{b:Nat}{m:Mm}{T:List Tok}(h:Rd w W b m T [] [] [])(hT:T.length<=1024) :
  Calls Tryz.prog 53 #[ptr b] W fun e W'=>aZ6 w W b T e W':=by
 have HF0:=aA (show PF w W b T [] [] T W from⟨fun _ h=>h,⟨m,h⟩,Kp.refl _ _,by simp[bZ],rfl,by simp⟩)
 clear h
 go_enter Tryz.func53,Tryz.ntmps53
 go_wp2_with fail
 go_loopg [3] T.length (fun g _ V=>∃(NM:List aM) (es:List E) (T':List Tok),Hid (T'.length=g)/\Hid (PF w W b T NM es T' V))
 case atStart=>exact⟨[],[],T,aA rfl,HF0⟩
 case round =>
  obtain⟨NM,es,T',HG,HF⟩:=hrel
  rename World=>V
  obtain⟨m1,hm1⟩:=HF.o.rd
  have HM:=aA hm1
  have hw:=aA hm1.wf
  have hsz:=HF.o.sz
  have hle:=HF.o.le
  have hln:=aA HF.o.ln
  clear hm1 HF0
  by_cases hl:(T'.map ab).head?=some (.word nS)
  ·obtain⟨t1,T1,rfl,h1⟩:=dF hl
   have hs1:=aA ((aGo (hw.o t1 (by simp)) (s:=nS) (by decide)).2 h1)
   have H1:=aA (show (t1::T1).map ab=.word nS::T1.map ab by rw[lMc,h1])
   rw[lLc] at hsz hle
   clear hl h1 hw
   go_wp2_with fail
   refine(lQ HM.o _ hs1.o).mono ?_
   rintro e V1 ⟨rfl,⟨m2,hR⟩,hk⟩
   have HR:=aA hR
   have HK:=aA (HF.o.kp.trans (hk.mono (by decide)))
   clear hR hk
   go_wp2_with fail
   refine(aSg HR.o (by rw[dD];omega) (by rw[hln.o];omega) (by rw[eX];omega)).mono ?_
   rintro e V2 (⟨rfl,hb,hbad⟩|⟨s,l2,res,ex,P,T2,hh,hr,he,hsp,hl2,rfl,hR2,hk2⟩)
   ·have HB:=aA hb
    have HBad:=aA hbad
    clear hb hbad
    go_wp2_with fail
    refine⟨rfl,none,HF.o.go _ ?_,.inl ⟨rfl,rfl,HB.o⟩⟩
    rw[H1.o]
    rcases HBad.o with h|⟨s,l2,res,h1,h2,h3⟩
    ·exact RP.bad h
    ·exact RP.body h1 h2 h3
   ·have HF2:=aA (show PF w W b T (NM++[s]) (es++[ex]) T2 V2 from by
     refine⟨fun res' h=>HF.o.go _ (by rw[H1.o];exact RP.go hh hr he h),?_,HK.o.trans hk2,by rw[aGa];omega,by simp[hln.o],by have:=ex.size_pos;simp;omega⟩
     rw[aEh,uC,nZa]
     rw[dD] at hR2
     exact hR2)
    have HL2:=aA hl2
    have hgl:T2.length < T1.length+1:=by have:=ex.size_pos;omega
    have HGl:=aA hgl
    clear hh hr he hsp hl2 hR2 hk2 hgl
    go_wp2_with fail
    go_roundg T2.length
    case measure=>have:=HG.o;have:=HGl.o;simp at *;omega
    case rel=>exact⟨NM++[s],es++[ex],T2,aA rfl,HF2⟩
  ·have hs1:=aA (show (hd T').text≠[108,101,116] from by
    cases T' with
    | nil=>decide
    | cons t T' =>
     intro e
     exact hl (by simp[(aGo (hw.o t (by simp)) (s:=nS) (by decide)).1 e]))
   have HL:=aA hl
   clear hl
   go_wp2_with fail
   refine(mI HM.o _ hs1.o).mono ?_
   rintro e V1 ⟨rfl,hb⟩
   have HR:=aA (HM.o.later hb)
   have HK:=aA (HF.o.kp.trans (Kp.of_below SY hb))
   clear hb
   go_wp2_with fail
   refine(xY (T'.length+1) V1 m1 T' (jL es 0) (by omega) (by rw[dD];omega) HR.o).mono ?_
   rintro e V2 ⟨res,hres,(⟨rfl,rfl,hb⟩|⟨ex,P5,T5,rfl,hsp,rfl,⟨m5,hR⟩,hk⟩)⟩
   ·have HB:=aA hb
    have HN:=aA hres
    clear hb hres
    go_wp2_with fail
    exact⟨rfl,none,HF.o.go _ (RP.last HL.o HN.o),.inl ⟨rfl,rfl,HB.o⟩⟩
   ·have HRES:=aA hres
    have hl5:ex.size+T5.length<=T'.length:=by have:=qI hres;simpa using this
    rw[dD] at hR ⊢
    have hz:=hR.root (((bZ es+ex.size:Nat):Int)-1)
    have HR6:=aA hz.1
    have HK6:=aA ((HK.o.trans (hk.mono (by decide))).trans hz.2)
    have c4:=hR.blk.cell 4 rfl
    have y4:=hR.blk.frozen 4
    have cn:(V2.setCell ⟨b,4,none⟩ (.i (((bZ es+ex.size:Nat):Int)-1))).cell? ⟨b,0,none⟩=some (.slice m5.la m5.ln m5.lc):=hz.1.blk.cell 0 rfl
    have hln5:=aA hR.toks.t.len
    have hmx:m5.ln<=9223372036854775807:=by have:=hR.toks.t.le;have:=hR.toks.t.max;unfold maxLen at *;omega
    clear hres hsp hR hk hz
    obtain⟨z,hz⟩:∃ z:Int,((bZ es+ex.size:Nat):Int)-1=z:=⟨_,rfl⟩
    rw[hz] at HR6 HK6 cn ⊢
    have HZ:=aA hz
    clear hz
    cases T5 with
    | nil =>
     have h0:m5.ln=0:=by have:=hln5.o;simpa using this.symm
     rw[h0] at cn
     clear h0 hmx
     go_wp2_with fail
     refine bodyPost_end (results_none rfl _ _ _) rfl ?_
     exact⟨_,HF.o.go _ (RP.last HL.o HRES.o),.inr ⟨NM,es,ex,rfl,hln.o,by simp at hl5;omega,rfl,⟨_,HR6.o,HZ.o.symm⟩,HK6.o⟩⟩
    | cons t5 T5 =>
     have h0:(0:Int) < m5.ln:=by have:=hln5.o;simp at this;omega
     go_wp2_with fail
     exact⟨rfl,none,HF.o.go _ (RP.last HL.o HRES.o),.inl ⟨rfl,rfl,HR6.o.old⟩⟩
end Go.Proofs.YticnbcfmbhjbgaaGreatDoor
