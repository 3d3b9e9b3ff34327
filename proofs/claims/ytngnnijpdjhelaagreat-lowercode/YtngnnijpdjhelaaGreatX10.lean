import Derived.Test.YtngnnijpdjhelaaGreatX09
namespace Go.Proofs.YtngnnijpdjhelaaGreat.Spn
open Go.RowKit Go.IntWalk Go.Sort
set_option linter.unusedVariables false
set_option maxRecDepth 100000
set_option maxHeartbeats 16000000
def whP (p:Int × Int):Bool:=whB p.1 p.2
def smayB (op k s:Int)(L:List (Int × Int)):Bool:=decide (1<=ar op)&&decide ((L.length:Int)=ar op)&&cons op k s&&L.all whP
theorem all_take_succ' {L:List (Int × Int)}{k:Nat}{x y:Int}(hk:k < L.length)(h:(L.take k).all whP=true)(hx:L.getD k (0,0)=(x,y))(e:whB x y=true):(L.take (k+1)).all whP=true:=by
 have e1:L[k]=(x,y):=by simpa [List.getD,hk] using hx
 rw[List.take_succ_eq_append_getElem hk,List.all_append,h,e1]
 simp[whP,e]
theorem smay_any (op k s:Int)(a:Option Addr)(n cap:Nat)(L:List (Int × Int))(w:World)(h:Spans w a n cap L) :
  Calls Tryz.prog 141 #[.int .i64 op,.int .i64 k,.int .i64 s,.slice a n cap] w fun e w'=>e=.returned (.bool (smayB op k s L))/\Below w.heap.size w w':=by
 have hl:=h.len
 have hm1:n<=9223372036854775807:=by have:=h.le;have:=h.max;unfold maxLen at this;omega
 by_cases h1:ar op < 1
 ·rw[show smayB op k s L=false by simp[smayB];omega]
  clear hl h
  go_enter Tryz.func141,Tryz.ntmps141
  go_wp2_with (go_at_call 40;refine(arity_any _ _).mono ?_;rintro e w' ⟨rfl,rfl⟩)
  go_ret
  exact⟨rfl,Below.refl _ _⟩
 by_cases h2:(n:Int)=ar op
 ·have h2':((n:Int) != ar op)=false:=by simp[h2]
  cases hc:cons op k s
  ·rw[show smayB op k s L=false by simp[smayB,hc]]
   clear hl h2 h
   go_enter Tryz.func141,Tryz.ntmps141
   go_wp2_with (first|(go_at_call 40;refine(arity_any _ _).mono ?_;rintro e w' ⟨rfl,rfl⟩)|(go_at_call 69;refine(constants_any _ _ _ _).mono ?_;rintro e w' ⟨rfl,rfl⟩))
   go_ret
   exact⟨rfl,Below.refl _ _⟩
  ·rw[show smayB op k s L=L.all whP by simp[smayB,hc,hl,h2];omega]
   have HL:=hide hl
   have H:=hide h
   clear hl h2 h
   go_enter Tryz.func141,Tryz.ntmps141
   go_wp2_with (first|(go_at_call 40;refine(arity_any _ _).mono ?_;rintro e w' ⟨rfl,hw'⟩;have hq:=hw'.symm;subst hq)|(go_at_call 69;refine(constants_any _ _ _ _).mono ?_;rintro e w' ⟨rfl,hw'⟩;have hq:=hw'.symm;subst hq))
   go_loopw [31] (fun i wr=>∃ j:Nat,j<=n/\i=.int .i64 j/\(L.take j).all whP=true/\Below w.heap.size w wr) (fun i _=>n-(intOf i).toNat)
   case atStart=>exact⟨0,Nat.zero_le _,rfl,rfl,Below.refl _ _⟩
   case round =>
    rename_i wr
    obtain⟨j,hj,rfl,hA,hB⟩:=hrel
    have HA:=hide hA
    have HB:=hide hB
    clear hA hB
    by_cases hlt:j < n
    ·obtain⟨bb,off,rfl,hbb,hcell⟩:=(H.out.later HB.out).at (by omega)
     obtain⟨g1,g2⟩:=hcell j hlt
     clear hcell
     obtain⟨⟨x,y⟩,hxy⟩:∃ p,L.getD j (0,0)=p:=⟨_,rfl⟩
     rw[hxy] at g1 g2
     have HXY:=hide hxy
     clear hxy
     have hj0:(0:Int)<=(j:Int):=by omega
     have hj1:(j:Int) < (n:Int):=by omega
     have HWh:=fun w=>hide (whole_any x y w)
     cases hx:whB x y
     ·rw[hx] at HWh
      go_wp2_with fail
      refine(HWh _).out.mono ?_
      rintro e w2 ⟨rfl,hb2⟩
      have HB2:=hide (bel HB.out (bel (bel1 _ _) hb2))
      clear hb2
      go_wp2_with fail
      go_ret
      refine⟨ret_bool ?_,HB2.out⟩
      symm
      rw[List.all_eq_false]
      refine⟨(x,y),?_,by simp[whP,hx]⟩
      rw[<-HXY.out]
      simp[List.getD,HL.out,hlt]
     ·rw[hx] at HWh
      go_wp2_with fail
      refine(HWh _).out.mono ?_
      rintro e w2 ⟨rfl,hb2⟩
      have HB2:=hide (bel HB.out (bel (bel1 _ _) hb2))
      clear hb2
      go_wp2_with fail
      go_roundw
      case rel=>exact⟨j+1,by omega,by go_num,all_take_succ' (by rw[HL.out];exact hlt) HA.out HXY.out hx,HB2.out⟩
      case measure=>simp[intOf];omega
    ·go_wp2_with fail
     go_ret
     refine⟨ret_bool ?_,HB.out⟩
     have h3:=HA.out
     rw[List.take_of_length_le (by rw[HL.out];omega)] at h3
     exact h3.symm
 ·have h2':((n:Int) != ar op)=true:=by simp[h2]
  rw[show smayB op k s L=false by simp[smayB,hl,h2]]
  clear hl h2 h
  go_enter Tryz.func141,Tryz.ntmps141
  go_wp2_with (go_at_call 40;refine(arity_any _ _).mono ?_;rintro e w' ⟨rfl,rfl⟩)
  go_ret
  exact⟨rfl,Below.refl _ _⟩
def reckZ (op k s:Int)(L:List (Int × Int)):(Int × Int) × Int :=
 if op=32 then cornZ (fun u v=>valZ 10 0 0 [u,v]) (L.getD 0 (0,0)).1 (L.getD 0 (0,0)).2 k k else
 if op=31 then(bothZ (L.getD 0 (0,0)).1 (L.getD 0 (0,0)).2 k k,0) else
 if op=11\/op=12 then divZ (fun u v=>valZ op k s [u,v]) op (L.getD 0 (0,0)).1 (L.getD 0 (0,0)).2 (L.getD 1 (0,0)).1 (L.getD 1 (0,0)).2 else
 if op=10\/op=13\/op=14\/op=18\/op=19\/op=20\/op=21 then cornZ (fun u v=>valZ op k s [u,v]) (L.getD 0 (0,0)).1 (L.getD 0 (0,0)).2 (L.getD 1 (0,0)).1 (L.getD 1 (0,0)).2 else
 if op=7\/op=24\/op=25\/op=26\/op=27\/op=29\/op=30\/op=33 then endsZ (fun xs=>valZ op k s xs) L else
 (plainZ op L,0)
theorem whP_w32 {p:Int × Int}(h:whP p=true):W32 p.1/\W32 p.2:=by
 have:=whB_iff.1 h
 exact⟨by omega,by omega⟩
theorem cons_w32 {op k s:Int}(h:cons op k s=true)(ho:op=31):W32 k:=by
 subst ho
 have h':inB k 0 2147483647=true:=h
 have:=inB_iff.1 h'
 exact⟨by omega,by omega⟩
theorem reck_any (op k s:Int)(a:Option Addr)(n cap:Nat)(L:List (Int × Int))(w:World)(h:Spans w a n cap L)(hm:smayB op k s L=true) :
  Calls Tryz.prog 142 #[.int .i64 op,.int .i64 k,.int .i64 s,.slice a n cap] w fun r w'=>r=.returned (spV (reckZ op k s L))/\Below w.heap.size w w':=by
 simp only[smayB,Bool.and_eq_true,decide_eq_true_eq,List.all_eq_true] at hm
 obtain⟨⟨⟨m1,m2⟩,m3⟩,m4⟩:=hm
 have hl:=h.len
 have h3:=ar_le op
 have hle:=h.le
 by_cases he:op=7\/op=24\/op=25\/op=26\/op=27\/op=29\/op=30\/op=33
 ·rw[show reckZ op k s L=endsZ (fun xs=>valZ op k s xs) L by unfold reckZ;rw[if_neg (by omega),if_neg (by omega),if_neg (by omega),if_neg (by omega),if_pos he]]
  exact reck_ends op k s a n cap L w h (by omega) he
 obtain⟨b,off,rfl,hlt,hc⟩:=h.at (by omega)
 have hw:∀ p ∈ L,W32 p.1/\W32 p.2:=fun p hp=>whP_w32 (m4 p hp)
 match L,hl,m2,hc,hw with
 | [(x0,y0)],hl,m2,hc,hw =>
  subst hl
  have ho:=one_cases (op:=op) (by simpa using m2.symm)
  obtain⟨d0,d1⟩:=hc 0 (by simp)
  obtain⟨w0,w1⟩:=hw (x0,y0) (by simp)
  simp at d0 d1
  by_cases h32:op=32
  ·rw[show reckZ op k s [(x0,y0)]=cornZ (fun u v=>valZ 10 0 0 [u,v]) x0 y0 k k by unfold reckZ;rw[if_pos h32];rfl]
   exact reck_mulk op k s x0 y0 b off cap w hle hlt d0 d1 h32
  by_cases h31:op=31
  ·rw[show reckZ op k s [(x0,y0)]=(bothZ x0 y0 k k,0) by unfold reckZ;rw[if_neg h32,if_pos h31];rfl]
   exact reck_andk op k s x0 y0 b off cap w hle hlt d0 d1 h31 w0 w1 (cons_w32 m3 h31)
  have h56:op=5\/op=6:=by omega
  rw[show reckZ op k s [(x0,y0)]=(oneZ op x0 y0,0) by unfold reckZ;rw[if_neg h32,if_neg h31,if_neg (by omega),if_neg (by omega),if_neg he];rfl]
  exact reck_plain op k s _ 1 cap (oneZ op x0 y0) w (by omega) fun W hW=>splain_1 op x0 y0 b off cap W hle (by have:=hW.size;omega) ((hW.cell (p:=⟨b,off,none⟩) hlt).trans d0) ((hW.cell (p:=⟨b,off+1,none⟩) hlt).trans d1) w0 w1
 | [(x0,y0),(x1,y1)],hl,m2,hc,hw =>
  subst hl
  have ho:=inB_iff.1 (two_cases (op:=op) (by simpa using m2.symm))
  obtain⟨d0,d1⟩:=hc 0 (by simp)
  obtain⟨d2,d3⟩:=hc 1 (by simp)
  obtain⟨w0,w1⟩:=hw (x0,y0) (by simp)
  obtain⟨w2,w3⟩:=hw (x1,y1) (by simp)
  simp at d0 d1 d2 d3
  by_cases hd:op=11\/op=12
  ·rw[show reckZ op k s [(x0,y0),(x1,y1)]=divZ (fun u v=>valZ op k s [u,v]) op x0 y0 x1 y1 by unfold reckZ;rw[if_neg (by omega),if_neg (by omega),if_pos hd];rfl]
   exact reck_div op k s x0 y0 x1 y1 b off cap w hle hlt d0 d1 d2 d3 hd w0 w1 w2 w3
  by_cases hcn:op=10\/op=13\/op=14\/op=18\/op=19\/op=20\/op=21
  ·rw[show reckZ op k s [(x0,y0),(x1,y1)]=cornZ (fun u v=>valZ op k s [u,v]) x0 y0 x1 y1 by unfold reckZ;rw[if_neg (by omega),if_neg (by omega),if_neg hd,if_pos hcn];rfl]
   exact reck_corn op k s x0 y0 x1 y1 b off cap w hle hlt d0 d1 d2 d3 hcn
  have h2:op=8\/op=9\/op=15\/op=16\/op=17\/op=22\/op=23:=by omega
  rw[show reckZ op k s [(x0,y0),(x1,y1)]=(twoZ op x0 y0 x1 y1,0) by unfold reckZ;rw[if_neg (by omega),if_neg (by omega),if_neg hd,if_neg hcn,if_neg he];rfl]
  exact reck_plain op k s _ 2 cap (twoZ op x0 y0 x1 y1) w (by omega) fun W hW=>splain_2 op x0 y0 x1 y1 b off cap W hle (by have:=hW.size;omega) ((hW.cell (p:=⟨b,off,none⟩) hlt).trans d0) ((hW.cell (p:=⟨b,off+1,none⟩) hlt).trans d1) ((hW.cell (p:=⟨b,off+2,none⟩) hlt).trans d2) ((hW.cell (p:=⟨b,off+2+1,none⟩) hlt).trans d3) w0 w1 w2 w3 h2
 | [(x0,y0),(x1,y1),(x2,y2)],hl,m2,hc,hw =>
  subst hl
  have ho:=inB_iff.1 (three_cases (op:=op) (by simpa using m2.symm))
  obtain⟨d0,d1⟩:=hc 0 (by simp)
  obtain⟨d2,d3⟩:=hc 1 (by simp)
  obtain⟨d4,d5⟩:=hc 2 (by simp)
  simp at d0 d1 d2 d3 d4 d5
  have h28:op=28:=by omega
  rw[show reckZ op k s [(x0,y0),(x1,y1),(x2,y2)]=(selZ x0 y0 x1 y1 x2 y2,0) by unfold reckZ;rw[if_neg (by omega),if_neg (by omega),if_neg (by omega),if_neg (by omega),if_neg he];rfl]
  exact reck_plain op k s _ 3 cap (selZ x0 y0 x1 y1 x2 y2) w (by omega) fun W hW=>splain_3 op x0 y0 x1 y1 x2 y2 b off cap W hle (by have:=hW.size;omega) ((hW.cell (p:=⟨b,off,none⟩) hlt).trans d0) ((hW.cell (p:=⟨b,off+1,none⟩) hlt).trans d1) ((hW.cell (p:=⟨b,off+2,none⟩) hlt).trans d2) ((hW.cell (p:=⟨b,off+2+1,none⟩) hlt).trans d3) ((hW.cell (p:=⟨b,off+4,none⟩) hlt).trans d4) ((hW.cell (p:=⟨b,off+4+1,none⟩) hlt).trans d5)
 | [],hl,m2,hc,hw=>simp at m2;omega
 | _::_::_::_::_,hl,m2,hc,hw=>simp at m2;omega
def finZ (Z:(Int × Int) × Int):(Int × Int) × Int:=if Z.2≠0 then((0,0),Z.2) else if whB Z.1.1 Z.1.2=true then(Z.1,0) else((0,0),13)
def ofZ (op k s:Int)(L:List (Int × Int)):(Int × Int) × Int:=if smayB op k s L=true then finZ (reckZ op k s L) else((0,0),1)
theorem of_any (op k s:Int)(a:Option Addr)(n cap:Nat)(L:List (Int × Int))(w:World)(h:Spans w a n cap L) :
  Calls Tryz.prog 101 #[.int .i64 op,.int .i64 k,.int .i64 s,.slice a n cap] w fun r w'=>r=.returned (spV (ofZ op k s L))/\Below w.heap.size w w':=by
 have HR:=hide (HasC.new w 103 #[.int .i64 0,.int .i64 0])
 have HB:=hide (bel1 w (cs 0 0))
 have HM:=hide (smay_any op k s a n cap L _ (h.later HB.out))
 cases hm:smayB op k s L
 ·rw[hm] at HM
  rw[show ofZ op k s L=((0,0),1) by simp[ofZ,hm]]
  go_enter Tryz.func101,Tryz.ntmps101
  go_wp2_with fail
  refine HM.out.mono ?_
  rintro e w2 ⟨rfl,hb2⟩
  have hR:=HR.out.below hb2
  have hB:=bel HB.out hb2
  obtain⟨s1,s2,s3,s4⟩:=facts2 hR
  clear hb2
  go_wp2_with fail
  obtain⟨d0,d1,hB4⟩:=stored2 hR hB (by omega) 0 0
  exact bodyPost_ret (v:=.tuple #[.agg #[.int .i64 0,.int .i64 0],.int .i64 1]) (by simp[results,Tryz.results101,go_sem,d0,d1]) rfl ⟨rfl,hB4⟩
 ·rw[hm] at HM
  have HRk:=hide fun(W:World) (hW:Below w.heap.size w W)=>reck_any op k s a n cap L W (h.later hW) hm
  rw[show ofZ op k s L=finZ (reckZ op k s L) by simp[ofZ,hm]]
  obtain⟨⟨⟨x,y⟩,e⟩,hZ⟩:∃ Z,reckZ op k s L=Z:=⟨_,rfl⟩
  rw[hZ] at HRk ⊢
  clear hZ hm h
  by_cases he:e=0
  ·subst he
   have HWh:=fun w=>hide (whole_any x y w)
   cases hx:whB x y
   ·rw[show finZ ((x,y),0)=((0,0),13) by simp[finZ,hx]]
    rw[hx] at HWh
    go_enter Tryz.func101,Tryz.ntmps101
    go_wp2_with fail
    refine HM.out.mono ?_
    rintro e w2 ⟨rfl,hb2⟩
    have HR2:=hide (HR.out.below hb2)
    have HB2:=hide (bel HB.out hb2)
    clear hb2
    go_wp2_with fail
    refine(HRk.out _ HB2.out).mono ?_
    rintro e w3 ⟨rfl,hb3⟩
    have HR3:=hide (HR2.out.below hb3)
    have HB3:=hide (bel HB2.out hb3)
    clear hb3
    go_wp2_with fail
    refine(HWh _).out.mono ?_
    rintro e w4 ⟨rfl,hb4⟩
    have hR:=(HR3.out.alloc (cs x y)).below hb4
    have hB:=bel (bel HB3.out (bel1 _ _)) hb4
    obtain⟨s1,s2,s3,s4⟩:=facts2 hR
    clear hb4
    go_wp2_with fail
    obtain⟨d0,d1,hB4⟩:=stored2 hR hB (by omega) 0 0
    exact bodyPost_ret (v:=.tuple #[.agg #[.int .i64 0,.int .i64 0],.int .i64 13]) (by simp[results,Tryz.results101,go_sem,d0,d1]) rfl ⟨rfl,hB4⟩
   ·rw[show finZ ((x,y),0)=((x,y),0) by simp[finZ,hx]]
    rw[hx] at HWh
    go_enter Tryz.func101,Tryz.ntmps101
    go_wp2_with fail
    refine HM.out.mono ?_
    rintro e w2 ⟨rfl,hb2⟩
    have HR2:=hide (HR.out.below hb2)
    have HB2:=hide (bel HB.out hb2)
    clear hb2
    go_wp2_with fail
    refine(HRk.out _ HB2.out).mono ?_
    rintro e w3 ⟨rfl,hb3⟩
    have HR3:=hide (HR2.out.below hb3)
    have HB3:=hide (bel HB2.out hb3)
    clear hb3
    go_wp2_with fail
    refine(HWh _).out.mono ?_
    rintro e w4 ⟨rfl,hb4⟩
    have hR:=(HR3.out.alloc (cs x y)).below hb4
    have hN:=(HasC.new w3 103 #[.int .i64 x,.int .i64 y]).below hb4
    have hB:=bel (bel HB3.out (bel1 _ _)) hb4
    obtain⟨s1,s2,s3,s4⟩:=facts2 hR
    obtain⟨n1,n2,-,-⟩:=facts2 hN
    clear hb4
    go_wp2_with fail
    obtain⟨d0,d1,hB4⟩:=stored2 hR hB (by omega) x y
    exact bodyPost_ret (v:=.tuple #[.agg #[.int .i64 x,.int .i64 y],.int .i64 0]) (by simp[results,Tryz.results101,go_sem,d0,d1]) rfl ⟨rfl,hB4⟩
  ·rw[show finZ ((x,y),e)=((0,0),e) by simp[finZ,he]]
   have he':(e != 0)=true:=by simp[he]
   clear he
   go_enter Tryz.func101,Tryz.ntmps101
   go_wp2_with fail
   refine HM.out.mono ?_
   rintro e w2 ⟨rfl,hb2⟩
   have HR2:=hide (HR.out.below hb2)
   have HB2:=hide (bel HB.out hb2)
   clear hb2
   go_wp2_with fail
   refine(HRk.out _ HB2.out).mono ?_
   rintro e w3 ⟨rfl,hb3⟩
   have hR:=(HR2.out.below hb3).alloc (cs x y)
   have hB:=bel (bel HB2.out hb3) (bel1 _ (cs x y))
   obtain⟨s1,s2,s3,s4⟩:=facts2 hR
   clear hb3
   go_wp2_with fail
   obtain⟨d0,d1,hB4⟩:=stored2 hR hB (by omega) 0 0
   exact bodyPost_ret (v:=.tuple #[.agg #[.int .i64 0,.int .i64 0],.int .i64 _]) (by simp[results,Tryz.results101,go_sem,d0,d1]) rfl ⟨rfl,hB4⟩
end Go.Proofs.YtngnnijpdjhelaaGreat.Spn
namespace Go.Proofs.YtngnnijpdjhelaaGreat.Spn
open Go.RowKit Go.IntWalk
set_option linter.unusedVariables false
set_option maxRecDepth 100000
set_option maxHeartbeats 16000000
def fnE (E:Int × Int):Int × Int:=if E.2=0 then(if wd E.1=true then(E.1,0) else(0,13)) else(0,E.2)
theorem val_fnE {op k s:Int}{xs:List Int}(h:mayB op k s xs=true):valZ op k s xs=fnE (ex op k s (xs.getD 0 0) (xs.getD 1 0) (xs.getD 2 0)):=by
 unfold valZ fnE
 rw[if_pos h]
theorem fnE_ok {E:Int × Int}(h:(fnE E).2=0):E.2=0/\wd E.1=true/\(fnE E).1=E.1:=by
 unfold fnE at *
 by_cases h1:E.2=0
 ·rw[if_pos h1] at *
  by_cases h2:wd E.1=true
  ·rw[if_pos h2] at *;exact⟨h1,h2,rfl⟩
  ·rw[if_neg h2] at h;simp at h
 ·rw[if_neg h1] at *;exact absurd h h1
theorem fnE_mk {E:Int × Int}(h1:E.2=0)(h2:wd E.1=true):fnE E=(E.1,0):=by
 unfold fnE;rw[if_pos h1,if_pos h2]
theorem may1 {op k s x:Int}(ho:ar op=1)(hc:cons op k s=true)(hx:W32 x):mayB op k s [x]=true:=by
 simp[mayB,ho,hc,wd_iff];exact hx
theorem may2 {op k s x y:Int}(ho:ar op=2)(hc:cons op k s=true)(hx:W32 x)(hy:W32 y):mayB op k s [x,y]=true:=by
 simp[mayB,ho,hc,wd_iff];exact⟨hx,hy⟩
theorem may3 {op k s x y z:Int}(ho:ar op=3)(hc:cons op k s=true)(hx:W32 x)(hy:W32 y)(hz:W32 z):mayB op k s [x,y,z]=true:=by
 simp[mayB,ho,hc,wd_iff];exact⟨hx,hy,hz⟩
theorem val1 {op k s x:Int}(ho:ar op=1)(hc:cons op k s=true)(hx:W32 x):valZ op k s [x]=fnE (ex op k s x 0 0):=val_fnE (may1 ho hc hx)
theorem val2 {op k s x y:Int}(ho:ar op=2)(hc:cons op k s=true)(hx:W32 x)(hy:W32 y):valZ op k s [x,y]=fnE (ex op k s x y 0):=val_fnE (may2 ho hc hx hy)
theorem val3 {op k s x y z:Int}(ho:ar op=3)(hc:cons op k s=true)(hx:W32 x)(hy:W32 y)(hz:W32 z):valZ op k s [x,y,z]=fnE (ex op k s x y z):=val_fnE (may3 ho hc hx hy hz)
theorem cornZ_inv {f:Int->Int->Int × Int}{a b c d lo hi:Int}(h:cornZ f a b c d=((lo,hi),0)) :
  (f a c).2=0/\(f a d).2=0/\(f b c).2=0/\(f b d).2=0 /\
  lo=min (min (min (min 9223372036854775807 (f a c).1) (f a d).1) (f b c).1) (f b d).1/\hi=max (max (max (max (-9223372036854775808) (f a c).1) (f a d).1) (f b c).1) (f b d).1:=by
 have e0:cv f a b c d 0=f a c:=rfl
 have e1:cv f a b c d 1=f a d:=rfl
 have e2:cv f a b c d 2=f b c:=rfl
 have e3:cv f a b c d 3=f b d:=rfl
 unfold cornZ at h
 rw[e0,e1,e2,e3] at h
 by_cases h0:(f a c).2=0
 ·rw[if_neg (by simp[h0])] at h
  by_cases h1:(f a d).2=0
  ·rw[if_neg (by simp[h1])] at h
   by_cases h2:(f b c).2=0
   ·rw[if_neg (by simp[h2])] at h
    by_cases h3:(f b d).2=0
    ·rw[if_neg (by simp[h3])] at h
     simp only[Prod.mk.injEq,and_true] at h
     refine⟨h0,h1,h2,h3,?_,?_⟩
     ·rw[<-h.1];simp only[cLo,e0,e1,e2,e3]
     ·rw[<-h.2];simp only[cHi,e0,e1,e2,e3]
    ·rw[if_pos h3] at h;simp only[Prod.mk.injEq] at h;exact absurd h.2 h3
   ·rw[if_pos h2] at h;simp only[Prod.mk.injEq] at h;exact absurd h.2 h2
  ·rw[if_pos h1] at h;simp only[Prod.mk.injEq] at h;exact absurd h.2 h1
 ·rw[if_pos h0] at h;simp only[Prod.mk.injEq] at h;exact absurd h.2 h0
theorem cornZ_mk {f:Int->Int->Int × Int}{a b c d:Int}(h0:(f a c).2=0)(h1:(f a d).2=0)(h2:(f b c).2=0)(h3:(f b d).2=0) :
  cornZ f a b c d=((min (min (min (min 9223372036854775807 (f a c).1) (f a d).1) (f b c).1) (f b d).1,max (max (max (max (-9223372036854775808) (f a c).1) (f a d).1) (f b c).1) (f b d).1),0):=by
 have e0:cv f a b c d 0=f a c:=rfl
 have e1:cv f a b c d 1=f a d:=rfl
 have e2:cv f a b c d 2=f b c:=rfl
 have e3:cv f a b c d 3=f b d:=rfl
 unfold cornZ
 rw[e0,e1,e2,e3,if_neg (by simp[h0]),if_neg (by simp[h1]),if_neg (by simp[h2]),if_neg (by simp[h3])]
 simp only[cLo,cHi,e0,e1,e2,e3]
theorem pow_mono {m n:Nat}(h:m<=n):(2:Int) ^ m<=2 ^ n/\(1:Int)<=2 ^ m:=by
 have:=pow_bd m n h
 omega
theorem ediv_mono {x y p:Int}(hp:0 < p)(h:x<=y):x / p<=y / p:=Int.ediv_le_ediv hp h
theorem trd (p:Prop)[Decidable p]:(p/\tr (decide p)=1)\/(¬p/\tr (decide p)=0):=by
 by_cases h:p <;> simp[tr,h]
theorem corn_count {op k s a b c d lo hi:Int}(hop:op=13\/op=14)(ha:W32 a)(hb:W32 b)(hc:W32 c)(hd:W32 d)
  (h:cornZ (fun u v=>valZ op k s [u,v]) a b c d=((lo,hi),0)):0<=c/\d<=31:=by
 obtain⟨e1,e2,-,-,-,-⟩:=cornZ_inv h
 have ho:ar op=2:=by rcases hop with rfl|rfl <;> rfl
 have hco:cons op k s=true:=by rcases hop with rfl|rfl <;> rfl
 simp only[val2 ho hco ha hc,val2 ho hco ha hd] at e1 e2
 have p1:=(fnE_ok e1).1
 have p2:=(fnE_ok e2).1
 have key:∀ y,(ex op k s a y 0).2=0->inB y 0 31=true:=by
  intro y hy
  cases hi:inB y 0 31
  ·rcases hop with rfl|rfl <;> simp[ex,hi] at hy
  ·rfl
 have r1:=inB_iff.1 (key c p1)
 have r2:=inB_iff.1 (key d p2)
 omega
theorem ex33' {k s a:Int}(h:max a (-a)*k<=4611686018427387904):ex 33 k s a 0 0=(a*k / 2 ^ s.toNat,0):=by
 have e:ex 33 k s a 0 0=if 4611686018427387904 < max a (-a)*k then(0,13) else(a*k / 2 ^ s.toNat,0):=rfl
 rw[e,if_neg (by omega)]
theorem rk_corn {op k s a b c d:Int}(h:op=10\/op=13\/op=14\/op=18\/op=19\/op=20\/op=21):reckZ op k s [(a,b),(c,d)]=cornZ (fun u v=>valZ op k s [u,v]) a b c d:=by
 unfold reckZ;rw[if_neg (by omega),if_neg (by omega),if_neg (by omega),if_pos h];rfl
theorem rk_div {op k s a b c d:Int}(h:op=11\/op=12):reckZ op k s [(a,b),(c,d)]=divZ (fun u v=>valZ op k s [u,v]) op a b c d:=by
 unfold reckZ;rw[if_neg (by omega),if_neg (by omega),if_pos h];rfl
theorem rk_ends {op k s:Int}{L:List (Int × Int)}(h:op=7\/op=24\/op=25\/op=26\/op=27\/op=29\/op=30\/op=33):reckZ op k s L=endsZ (fun xs=>valZ op k s xs) L:=by
 unfold reckZ;rw[if_neg (by omega),if_neg (by omega),if_neg (by omega),if_neg (by omega),if_pos h]
theorem rk_one {op k s a b:Int}(h:op=5\/op=6):reckZ op k s [(a,b)]=(oneZ op a b,0):=by
 unfold reckZ;rw[if_neg (by omega),if_neg (by omega),if_neg (by omega),if_neg (by omega),if_neg (by omega)];rfl
theorem rk_two {op k s a b c d:Int}(h:op=8\/op=9\/op=15\/op=16\/op=17\/op=22\/op=23):reckZ op k s [(a,b),(c,d)]=(twoZ op a b c d,0):=by
 unfold reckZ;rw[if_neg (by omega),if_neg (by omega),if_neg (by omega),if_neg (by omega),if_neg (by omega)];rfl
theorem rk_three {op k s a b c d e f:Int}(h:op=28):reckZ op k s [(a,b),(c,d),(e,f)]=(selZ a b c d e f,0):=by
 unfold reckZ;rw[if_neg (by omega),if_neg (by omega),if_neg (by omega),if_neg (by omega),if_neg (by omega)];rfl
theorem rk_mulk {op k s a b:Int}(h:op=32):reckZ op k s [(a,b)]=cornZ (fun u v=>valZ 10 0 0 [u,v]) a b k k:=by
 unfold reckZ;rw[if_pos h];rfl
theorem rk_andk {op k s a b:Int}(h:op=31):reckZ op k s [(a,b)]=(bothZ a b k k,0):=by
 unfold reckZ;rw[if_neg (by omega),if_pos h];rfl
theorem two_ways {op:Int}(ho:ar op=2):(op=11\/op=12)\/(op=10\/op=13\/op=14\/op=18\/op=19\/op=20\/op=21)\/(op=24\/op=25)\/(op=8\/op=9\/op=15\/op=16\/op=17\/op=22\/op=23):=by
 have hr:=inB_iff.1 (two_cases ho)
 omega
end Go.Proofs.YtngnnijpdjhelaaGreat.Spn
namespace Go.Proofs.YtngnnijpdjhelaaGreat.Spn
open Go.RowKit Go.IntWalk Go.Sort
set_option linter.unusedVariables false
set_option maxRecDepth 100000
set_option maxHeartbeats 16000000
def Ins:List Int->List (Int × Int)->Prop
 | [],[]=>True
 | x::xs,p::L=>(p.1<=x/\x<=p.2)/\Ins xs L
 | _,_=>False
theorem smay_inv {op k s:Int}{L:List (Int × Int)}(h:smayB op k s L=true):(L.length:Int)=ar op/\1<=ar op/\cons op k s=true/\(∀ p ∈ L,whB p.1 p.2=true)/\L.length<=3:=by
 simp only[smayB,Bool.and_eq_true,decide_eq_true_eq,List.all_eq_true] at h
 obtain⟨⟨⟨m1,m2⟩,m3⟩,m4⟩:=h
 have h3:=ar_le op
 exact⟨m2,m1,m3,m4,by omega⟩
theorem info26:(Tryz.prog.info? 103).map (fun i=>(i.zero,i.size,i.bytes))=some (some (.agg #[.int .i64 0,.int .i64 0]),2,16):=by kernel_rfl
def sp64 (L:List (Int × Int)):List Value:=L.flatMap fun p=>[.int .i64 p.1,.int .i64 p.2]
theorem sp64_len (L:List (Int × Int)):(sp64 L).length=L.length*2:=by
 induction L with
 | nil=>rfl
 | cons p L ih=>simp[sp64] at *;omega
theorem sp64_snoc (L:List (Int × Int))(x y:Int):sp64 (L++[(x,y)])=sp64 L++[.int .i64 x,.int .i64 y]:=by simp[sp64]
theorem sp64_get:∀(L:List (Int × Int)) (i:Nat),i < L.length->(sp64 L)[i*2]?=some (.int .i64 (L.getD i (0,0)).1)/\(sp64 L)[i*2+1]?=some (.int .i64 (L.getD i (0,0)).2)
 | [],i,h=>by simp at h
 | p::L,0,h=>by simp[sp64]
 | p::L,i+1,h=>by
  have h':=sp64_get L i (by simpa using h)
  have e:sp64 (p::L)=.int .i64 p.1::.int .i64 p.2::sp64 L:=by simp[sp64]
  rw[e,show (i+1)*2=i*2+1+1 by omega,show i*2+1+1+1=(i*2+1)+1+1 by omega]
  simp only[List.getElem?_cons_succ]
  simpa using h'
structure Es (w W:World)(v:Value)(n:Nat)(L:List (Int × Int)):Prop where
 a:W.ownsRow w.heap.size 103 2 v n (sp64 L)
 bel:Below w.heap.size w W
theorem Es.alloc {w W:World}{v:Value}{n:Nat}{L:List (Int × Int)}(h:Es w W v n L)(o:Obj):Es w (W.alloc o) v n L:=⟨h.a.alloc o,h.bel.alloc h.bel.size o⟩
theorem Es.start (W:World):Es W W (.slice none 0 0) 0 []:=⟨⟨rfl,.inl ⟨rfl,rfl⟩⟩,Below.refl _ _⟩
theorem Spans.of_owns {w:World}{base:Nat}{v:Value}{n:Nat}{L:List (Int × Int)}(h:w.ownsRow base 103 2 v n (sp64 L))(hl:L.length=n):∃ a cap,v=.slice a n cap/\Spans w a n cap L:=by
 have hcs:=fun g hg=>h.cells (g:=g) hg
 rcases h.2 with⟨rfl,rfl⟩|⟨g,cap,cur,rfl,hb,hg,hnc,hcm,hsz,htake⟩
 ·exact⟨none,0,rfl,⟨hl,Nat.le_refl _,Nat.zero_le _,fun _=>rfl,.inl rfl⟩⟩
 ·refine⟨some ⟨g,0,none⟩,cap,rfl,⟨hl,hnc,hcm,(fun h=>by cases h),.inr ⟨g,0,rfl,fun i hi=>?_⟩⟩⟩
  obtain⟨e1,e2⟩:=sp64_get L i (by omega)
  have h1:=hcs g rfl _ _ e1
  have h2:=hcs g rfl _ _ e2
  rw[Addr.add_lit] at h1 h2
  exact⟨h1,by rw[Nat.add_assoc];exact h2⟩
theorem news_two {W:World}{b:Nat}{x y:Int}(h:HasC W b 103 #[.int .i64 x,.int .i64 y]):∀ j u,[Value.int .i64 x,.int .i64 y][j]?=some u->W.cell? ((⟨b,0,none⟩:Addr).add j)=some u:=by
 intro j u hu
 rw[Addr.add_lit]
 match j,hu with
 | 0,hu=>simp at hu;subst hu;exact h.cell 0 rfl
 | 1,hu=>simp at hu;subst hu;exact h.cell 1 rfl
 | _+2,hu=>simp at hu
theorem Es.grow {w W w':World}{v:Value}{n:Nat}{L:List (Int × Int)}(h:Es w W v n L){g cap:Nat}{x y:Int}(hl:L.length=n)
  (hown:w'.ownsRow w.heap.size 103 2 (.slice (some ⟨g,0,none⟩) (n+1) cap) (n+1) (sp64 L++[.int .i64 x,.int .i64 y])) (hgrow:W.grownBy w' v.ownBlock) :
  Es w w' (.slice (some ⟨g,0,none⟩) (n+1) cap) (n+1) (L++[(x,y)]) :=
 ⟨by rw[sp64_snoc];exact hown,h.bel.grown hgrow h.bel.size (fun k hk=>(h.a.lt k hk).1)⟩
theorem list_span {w W:World}{v:Value}{n:Nat}{L:List (Int × Int)}{ops:Array Oper}{rest:List Oper}{o:Oper}{a:Act}{Q:Exit->Act->World->Prop}
  (hgd:o.guard=none) (s x:Operand) (ho:o.op=.call { callee:=.builtin .append,args:=#[s,x],argTypes:=#[48,48] })
  (hs:a.eval s=v) (hen:Es w W v n L) (b:Nat) (p q:Int) (hx:a.eval x=.slice (some ⟨b,0,none⟩) 1 1) (hc:HasC W b 103 #[.int .i64 p,.int .i64 q]) (h3:n<=8796093022001)
  (h:∀ g cap w',Es w w' (.slice (some ⟨g,0,none⟩) (n+1) cap) (n+1) (L++[(p,q)])->W.heap.size<=w'.heap.size->wpList Tryz.prog ops Q rest (a.put o.dst (.slice (some ⟨g,0,none⟩) (n+1) cap)) w') :
  wpList Tryz.prog ops Q (o::rest) a W:=by
 obtain⟨i0,hi0,hz0,hz1,hz2⟩:=info_parts info26
 have hl:L.length=n:=by
  have:=hen.a.1
  rw[sp64_len] at this
  omega
 refine wpList_append_lies W hgd s x 48 ho w.heap.size 103 i0 _ 2 16 Tryz.underlying48 hi0 hz0 hz1 hz2 rfl (by omega) v n (sp64 L) hs hen.a ⟨b,0,none⟩ 1 1 [.int .i64 p,.int .i64 q] hx rfl (news_two hc) (by simp[Value.oneCell']) (by omega) (by unfold maxLen;omega) (by omega) hen.bel.size W.heap.size rfl ?_
 intro g cap w' hown hgrow hat hlt
 exact h g cap w' (hen.grow hl hown hgrow) hgrow.size
end Go.Proofs.YtngnnijpdjhelaaGreat.Spn
namespace Go.Proofs.YtngnnijpdjhelaaGreat.Spn
open Go.RowKit Go.IntWalk
set_option linter.unusedVariables false
set_option maxRecDepth 100000
set_option maxHeartbeats 16000000

end Go.Proofs.YtngnnijpdjhelaaGreat.Spn
