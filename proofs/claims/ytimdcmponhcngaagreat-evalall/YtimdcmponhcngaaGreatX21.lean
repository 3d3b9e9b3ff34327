import Derived.Maps.OwnIn
import Derived.DeepKeys4
import Derived.Deep.RegionWith
import Derived.Test.YtimdcmponhcngaaGreatX20
namespace Go.Proofs.YtimdcmponhcngaaGreat.Spn
open Go.RowKit Go.IntWalk Go.Sort
set_option linter.unusedVariables false
set_option maxRecDepth 100000
set_option maxHeartbeats 16000000
def whP (p:Int × Int):Bool:=whB p.1 p.2
def smayB (op k s:Int)(L:List (Int × Int)):Bool:=decide (1<=ar op)&&decide ((L.length:Int)=ar op)&&cons op k s&&L.all whP
theorem all_take_succ' {L:List (Int × Int)}{k:Nat}{x y:Int}(hk:k < L.length)(h:(L.take k).all whP=true)(hx:L.getD k (0,0)=(x,y))(e:whB x y=true):(L.take (k+1)).all whP=true:=by
 have e1:L[k]=(x,y):=by simpa [List.getD,hk] using hx
 rw[List.take_succ_eq_append_getElem hk,List.all_append,h,e1]
 simp[whP,e]
theorem smay_any (op k s:Int)(a:Option Addr)(n cap:Nat)(L:List (Int × Int))(w:World)(h:Spans w a n cap L) :
  Calls Tryz.prog 155 #[.int .i64 op,.int .i64 k,.int .i64 s,.slice a n cap] w fun e w'=>e=.returned (.bool (smayB op k s L))/\Below w.heap.size w w':=by
 have hl:=h.len
 have hm1:n<=9223372036854775807:=by have:=h.le;have:=h.max;unfold maxLen at this;omega
 by_cases h1:ar op < 1
 ·rw[show smayB op k s L=false by simp[smayB];omega]
  clear hl h
  go_enter Tryz.func155,Tryz.ntmps155
  go_wp2_with (go_at_call 57;refine(arity_any _ _).mono ?_;rintro e w' ⟨rfl,rfl⟩)
  go_ret
  exact⟨rfl,Below.refl _ _⟩
 by_cases h2:(n:Int)=ar op
 ·have h2':((n:Int) != ar op)=false:=by simp[h2]
  cases hc:cons op k s
  ·rw[show smayB op k s L=false by simp[smayB,hc]]
   clear hl h2 h
   go_enter Tryz.func155,Tryz.ntmps155
   go_wp2_with (first|(go_at_call 57;refine(arity_any _ _).mono ?_;rintro e w' ⟨rfl,rfl⟩)|(go_at_call 79;refine(constants_any _ _ _ _).mono ?_;rintro e w' ⟨rfl,rfl⟩))
   go_ret
   exact⟨rfl,Below.refl _ _⟩
  ·rw[show smayB op k s L=L.all whP by simp[smayB,hc,hl,h2];omega]
   have HL:=hide hl
   have H:=hide h
   clear hl h2 h
   go_enter Tryz.func155,Tryz.ntmps155
   go_wp2_with (first|(go_at_call 57;refine(arity_any _ _).mono ?_;rintro e w' ⟨rfl,hw'⟩;have hq:=hw'.symm;subst hq)|(go_at_call 79;refine(constants_any _ _ _ _).mono ?_;rintro e w' ⟨rfl,hw'⟩;have hq:=hw'.symm;subst hq))
   go_loopw [31] (fun i wr=>∃ j:Nat,j<=n/\i=.int .i64 j/\(L.take j).all whP=true/\Below w.heap.size w wr) (fun i _=>n-(intOf i).toNat)
   case atStart=>exact⟨0,Nat.zero_le _,rfl,rfl,Below.refl _ _⟩
   case round =>
    rename_i wr
    obtain⟨j,hj,rfl,hA,hB⟩:=hrel
    have HA:=hide hA
    have HB:=hide hB
    clear hA hB
    by_cases hlt:j < n
    ·obtain⟨bb,off,rfl,hbb,hcell⟩:=(H.out.later HB.out).at (by omega)
     obtain⟨g1,g2⟩:=hcell j hlt
     clear hcell
     obtain⟨⟨x,y⟩,hxy⟩:∃ p,L.getD j (0,0)=p:=⟨_,rfl⟩
     rw[hxy] at g1 g2
     have HXY:=hide hxy
     clear hxy
     have hj0:(0:Int)<=(j:Int):=by omega
     have hj1:(j:Int) < (n:Int):=by omega
     have HWh:=fun w=>hide (whole_any x y w)
     cases hx:whB x y
     ·rw[hx] at HWh
      go_wp2_with fail
      refine(HWh _).out.mono ?_
      rintro e w2 ⟨rfl,hb2⟩
      have HB2:=hide (bel HB.out (bel (bel1 _ _) hb2))
      clear hb2
      go_wp2_with fail
      go_ret
      refine⟨ret_bool ?_,HB2.out⟩
      symm
      rw[List.all_eq_false]
      refine⟨(x,y),?_,by simp[whP,hx]⟩
      rw[<-HXY.out]
      simp[List.getD,HL.out,hlt]
     ·rw[hx] at HWh
      go_wp2_with fail
      refine(HWh _).out.mono ?_
      rintro e w2 ⟨rfl,hb2⟩
      have HB2:=hide (bel HB.out (bel (bel1 _ _) hb2))
      clear hb2
      go_wp2_with fail
      go_roundw
      case rel=>exact⟨j+1,by omega,by go_num,all_take_succ' (by rw[HL.out];exact hlt) HA.out HXY.out hx,HB2.out⟩
      case measure=>simp[intOf];omega
    ·go_wp2_with fail
     go_ret
     refine⟨ret_bool ?_,HB.out⟩
     have h3:=HA.out
     rw[List.take_of_length_le (by rw[HL.out];omega)] at h3
     exact h3.symm
 ·have h2':((n:Int) != ar op)=true:=by simp[h2]
  rw[show smayB op k s L=false by simp[smayB,hl,h2]]
  clear hl h2 h
  go_enter Tryz.func155,Tryz.ntmps155
  go_wp2_with (go_at_call 57;refine(arity_any _ _).mono ?_;rintro e w' ⟨rfl,rfl⟩)
  go_ret
  exact⟨rfl,Below.refl _ _⟩
def reckZ (op k s:Int)(L:List (Int × Int)):(Int × Int) × Int :=
 if op=32 then cornZ (fun u v=>valZ 10 0 0 [u,v]) (L.getD 0 (0,0)).1 (L.getD 0 (0,0)).2 k k else
 if op=31 then(bothZ (L.getD 0 (0,0)).1 (L.getD 0 (0,0)).2 k k,0) else
 if op=11\/op=12 then divZ (fun u v=>valZ op k s [u,v]) op (L.getD 0 (0,0)).1 (L.getD 0 (0,0)).2 (L.getD 1 (0,0)).1 (L.getD 1 (0,0)).2 else
 if op=10\/op=13\/op=14\/op=18\/op=19\/op=20\/op=21 then cornZ (fun u v=>valZ op k s [u,v]) (L.getD 0 (0,0)).1 (L.getD 0 (0,0)).2 (L.getD 1 (0,0)).1 (L.getD 1 (0,0)).2 else
 if op=7\/op=24\/op=25\/op=26\/op=27\/op=29\/op=30\/op=33 then endsZ (fun xs=>valZ op k s xs) L else
 (plainZ op L,0)
theorem whP_w32 {p:Int × Int}(h:whP p=true):W32 p.1/\W32 p.2:=by
 have:=whB_iff.1 h
 exact⟨by omega,by omega⟩
theorem cons_w32 {op k s:Int}(h:cons op k s=true)(ho:op=31):W32 k:=by
 subst ho
 have h':inB k 0 2147483647=true:=h
 have:=inB_iff.1 h'
 exact⟨by omega,by omega⟩
theorem reck_any (op k s:Int)(a:Option Addr)(n cap:Nat)(L:List (Int × Int))(w:World)(h:Spans w a n cap L)(hm:smayB op k s L=true) :
  Calls Tryz.prog 156 #[.int .i64 op,.int .i64 k,.int .i64 s,.slice a n cap] w fun r w'=>r=.returned (spV (reckZ op k s L))/\Below w.heap.size w w':=by
 simp only[smayB,Bool.and_eq_true,decide_eq_true_eq,List.all_eq_true] at hm
 obtain⟨⟨⟨m1,m2⟩,m3⟩,m4⟩:=hm
 have hl:=h.len
 have h3:=ar_le op
 have hle:=h.le
 by_cases he:op=7\/op=24\/op=25\/op=26\/op=27\/op=29\/op=30\/op=33
 ·rw[show reckZ op k s L=endsZ (fun xs=>valZ op k s xs) L by unfold reckZ;rw[if_neg (by omega),if_neg (by omega),if_neg (by omega),if_neg (by omega),if_pos he]]
  exact reck_ends op k s a n cap L w h (by omega) he
 obtain⟨b,off,rfl,hlt,hc⟩:=h.at (by omega)
 have hw:∀ p ∈ L,W32 p.1/\W32 p.2:=fun p hp=>whP_w32 (m4 p hp)
 match L,hl,m2,hc,hw with
 | [(x0,y0)],hl,m2,hc,hw =>
  subst hl
  have ho:=one_cases (op:=op) (by simpa using m2.symm)
  obtain⟨d0,d1⟩:=hc 0 (by simp)
  obtain⟨w0,w1⟩:=hw (x0,y0) (by simp)
  simp at d0 d1
  by_cases h32:op=32
  ·rw[show reckZ op k s [(x0,y0)]=cornZ (fun u v=>valZ 10 0 0 [u,v]) x0 y0 k k by unfold reckZ;rw[if_pos h32];rfl]
   exact reck_mulk op k s x0 y0 b off cap w hle hlt d0 d1 h32
  by_cases h31:op=31
  ·rw[show reckZ op k s [(x0,y0)]=(bothZ x0 y0 k k,0) by unfold reckZ;rw[if_neg h32,if_pos h31];rfl]
   exact reck_andk op k s x0 y0 b off cap w hle hlt d0 d1 h31 w0 w1 (cons_w32 m3 h31)
  have h56:op=5\/op=6:=by omega
  rw[show reckZ op k s [(x0,y0)]=(oneZ op x0 y0,0) by unfold reckZ;rw[if_neg h32,if_neg h31,if_neg (by omega),if_neg (by omega),if_neg he];rfl]
  exact reck_plain op k s _ 1 cap (oneZ op x0 y0) w (by omega) fun W hW=>splain_1 op x0 y0 b off cap W hle (by have:=hW.size;omega) ((hW.cell (p:=⟨b,off,none⟩) hlt).trans d0) ((hW.cell (p:=⟨b,off+1,none⟩) hlt).trans d1) w0 w1
 | [(x0,y0),(x1,y1)],hl,m2,hc,hw =>
  subst hl
  have ho:=inB_iff.1 (two_cases (op:=op) (by simpa using m2.symm))
  obtain⟨d0,d1⟩:=hc 0 (by simp)
  obtain⟨d2,d3⟩:=hc 1 (by simp)
  obtain⟨w0,w1⟩:=hw (x0,y0) (by simp)
  obtain⟨w2,w3⟩:=hw (x1,y1) (by simp)
  simp at d0 d1 d2 d3
  by_cases hd:op=11\/op=12
  ·rw[show reckZ op k s [(x0,y0),(x1,y1)]=divZ (fun u v=>valZ op k s [u,v]) op x0 y0 x1 y1 by unfold reckZ;rw[if_neg (by omega),if_neg (by omega),if_pos hd];rfl]
   exact reck_div op k s x0 y0 x1 y1 b off cap w hle hlt d0 d1 d2 d3 hd w0 w1 w2 w3
  by_cases hcn:op=10\/op=13\/op=14\/op=18\/op=19\/op=20\/op=21
  ·rw[show reckZ op k s [(x0,y0),(x1,y1)]=cornZ (fun u v=>valZ op k s [u,v]) x0 y0 x1 y1 by unfold reckZ;rw[if_neg (by omega),if_neg (by omega),if_neg hd,if_pos hcn];rfl]
   exact reck_corn op k s x0 y0 x1 y1 b off cap w hle hlt d0 d1 d2 d3 hcn
  have h2:op=8\/op=9\/op=15\/op=16\/op=17\/op=22\/op=23:=by omega
  rw[show reckZ op k s [(x0,y0),(x1,y1)]=(twoZ op x0 y0 x1 y1,0) by unfold reckZ;rw[if_neg (by omega),if_neg (by omega),if_neg hd,if_neg hcn,if_neg he];rfl]
  exact reck_plain op k s _ 2 cap (twoZ op x0 y0 x1 y1) w (by omega) fun W hW=>splain_2 op x0 y0 x1 y1 b off cap W hle (by have:=hW.size;omega) ((hW.cell (p:=⟨b,off,none⟩) hlt).trans d0) ((hW.cell (p:=⟨b,off+1,none⟩) hlt).trans d1) ((hW.cell (p:=⟨b,off+2,none⟩) hlt).trans d2) ((hW.cell (p:=⟨b,off+2+1,none⟩) hlt).trans d3) w0 w1 w2 w3 h2
 | [(x0,y0),(x1,y1),(x2,y2)],hl,m2,hc,hw =>
  subst hl
  have ho:=inB_iff.1 (three_cases (op:=op) (by simpa using m2.symm))
  obtain⟨d0,d1⟩:=hc 0 (by simp)
  obtain⟨d2,d3⟩:=hc 1 (by simp)
  obtain⟨d4,d5⟩:=hc 2 (by simp)
  simp at d0 d1 d2 d3 d4 d5
  have h28:op=28:=by omega
  rw[show reckZ op k s [(x0,y0),(x1,y1),(x2,y2)]=(selZ x0 y0 x1 y1 x2 y2,0) by unfold reckZ;rw[if_neg (by omega),if_neg (by omega),if_neg (by omega),if_neg (by omega),if_neg he];rfl]
  exact reck_plain op k s _ 3 cap (selZ x0 y0 x1 y1 x2 y2) w (by omega) fun W hW=>splain_3 op x0 y0 x1 y1 x2 y2 b off cap W hle (by have:=hW.size;omega) ((hW.cell (p:=⟨b,off,none⟩) hlt).trans d0) ((hW.cell (p:=⟨b,off+1,none⟩) hlt).trans d1) ((hW.cell (p:=⟨b,off+2,none⟩) hlt).trans d2) ((hW.cell (p:=⟨b,off+2+1,none⟩) hlt).trans d3) ((hW.cell (p:=⟨b,off+4,none⟩) hlt).trans d4) ((hW.cell (p:=⟨b,off+4+1,none⟩) hlt).trans d5)
 | [],hl,m2,hc,hw=>simp at m2;omega
 | _::_::_::_::_,hl,m2,hc,hw=>simp at m2;omega
def finZ (Z:(Int × Int) × Int):(Int × Int) × Int:=if Z.2≠0 then((0,0),Z.2) else if whB Z.1.1 Z.1.2=true then(Z.1,0) else((0,0),13)
def ofZ (op k s:Int)(L:List (Int × Int)):(Int × Int) × Int:=if smayB op k s L=true then finZ (reckZ op k s L) else((0,0),1)
theorem of_any (op k s:Int)(a:Option Addr)(n cap:Nat)(L:List (Int × Int))(w:World)(h:Spans w a n cap L) :
  Calls Tryz.prog 111 #[.int .i64 op,.int .i64 k,.int .i64 s,.slice a n cap] w fun r w'=>r=.returned (spV (ofZ op k s L))/\Below w.heap.size w w':=by
 have HR:=hide (HasC.new w 58 #[.int .i64 0,.int .i64 0])
 have HB:=hide (bel1 w (cs 0 0))
 have HM:=hide (smay_any op k s a n cap L _ (h.later HB.out))
 cases hm:smayB op k s L
 ·rw[hm] at HM
  rw[show ofZ op k s L=((0,0),1) by simp[ofZ,hm]]
  go_enter Tryz.func111,Tryz.ntmps111
  go_wp2_with fail
  refine HM.out.mono ?_
  rintro e w2 ⟨rfl,hb2⟩
  have hR:=HR.out.below hb2
  have hB:=bel HB.out hb2
  obtain⟨s1,s2,s3,s4⟩:=facts2 hR
  clear hb2
  go_wp2_with fail
  obtain⟨d0,d1,hB4⟩:=stored2 hR hB (by omega) 0 0
  exact bodyPost_ret (v:=.tuple #[.agg #[.int .i64 0,.int .i64 0],.int .i64 1]) (by simp[results,Tryz.results111,go_sem,d0,d1]) rfl ⟨rfl,hB4⟩
 ·rw[hm] at HM
  have HRk:=hide fun(W:World) (hW:Below w.heap.size w W)=>reck_any op k s a n cap L W (h.later hW) hm
  rw[show ofZ op k s L=finZ (reckZ op k s L) by simp[ofZ,hm]]
  obtain⟨⟨⟨x,y⟩,e⟩,hZ⟩:∃ Z,reckZ op k s L=Z:=⟨_,rfl⟩
  rw[hZ] at HRk ⊢
  clear hZ hm h
  by_cases he:e=0
  ·subst he
   have HWh:=fun w=>hide (whole_any x y w)
   cases hx:whB x y
   ·rw[show finZ ((x,y),0)=((0,0),13) by simp[finZ,hx]]
    rw[hx] at HWh
    go_enter Tryz.func111,Tryz.ntmps111
    go_wp2_with fail
    refine HM.out.mono ?_
    rintro e w2 ⟨rfl,hb2⟩
    have HR2:=hide (HR.out.below hb2)
    have HB2:=hide (bel HB.out hb2)
    clear hb2
    go_wp2_with fail
    refine(HRk.out _ HB2.out).mono ?_
    rintro e w3 ⟨rfl,hb3⟩
    have HR3:=hide (HR2.out.below hb3)
    have HB3:=hide (bel HB2.out hb3)
    clear hb3
    go_wp2_with fail
    refine(HWh _).out.mono ?_
    rintro e w4 ⟨rfl,hb4⟩
    have hR:=(HR3.out.alloc (cs x y)).below hb4
    have hB:=bel (bel HB3.out (bel1 _ _)) hb4
    obtain⟨s1,s2,s3,s4⟩:=facts2 hR
    clear hb4
    go_wp2_with fail
    obtain⟨d0,d1,hB4⟩:=stored2 hR hB (by omega) 0 0
    exact bodyPost_ret (v:=.tuple #[.agg #[.int .i64 0,.int .i64 0],.int .i64 13]) (by simp[results,Tryz.results111,go_sem,d0,d1]) rfl ⟨rfl,hB4⟩
   ·rw[show finZ ((x,y),0)=((x,y),0) by simp[finZ,hx]]
    rw[hx] at HWh
    go_enter Tryz.func111,Tryz.ntmps111
    go_wp2_with fail
    refine HM.out.mono ?_
    rintro e w2 ⟨rfl,hb2⟩
    have HR2:=hide (HR.out.below hb2)
    have HB2:=hide (bel HB.out hb2)
    clear hb2
    go_wp2_with fail
    refine(HRk.out _ HB2.out).mono ?_
    rintro e w3 ⟨rfl,hb3⟩
    have HR3:=hide (HR2.out.below hb3)
    have HB3:=hide (bel HB2.out hb3)
    clear hb3
    go_wp2_with fail
    refine(HWh _).out.mono ?_
    rintro e w4 ⟨rfl,hb4⟩
    have hR:=(HR3.out.alloc (cs x y)).below hb4
    have hN:=(HasC.new w3 58 #[.int .i64 x,.int .i64 y]).below hb4
    have hB:=bel (bel HB3.out (bel1 _ _)) hb4
    obtain⟨s1,s2,s3,s4⟩:=facts2 hR
    obtain⟨n1,n2,-,-⟩:=facts2 hN
    clear hb4
    go_wp2_with fail
    obtain⟨d0,d1,hB4⟩:=stored2 hR hB (by omega) x y
    exact bodyPost_ret (v:=.tuple #[.agg #[.int .i64 x,.int .i64 y],.int .i64 0]) (by simp[results,Tryz.results111,go_sem,d0,d1]) rfl ⟨rfl,hB4⟩
  ·rw[show finZ ((x,y),e)=((0,0),e) by simp[finZ,he]]
   have he':(e != 0)=true:=by simp[he]
   clear he
   go_enter Tryz.func111,Tryz.ntmps111
   go_wp2_with fail
   refine HM.out.mono ?_
   rintro e w2 ⟨rfl,hb2⟩
   have HR2:=hide (HR.out.below hb2)
   have HB2:=hide (bel HB.out hb2)
   clear hb2
   go_wp2_with fail
   refine(HRk.out _ HB2.out).mono ?_
   rintro e w3 ⟨rfl,hb3⟩
   have hR:=(HR2.out.below hb3).alloc (cs x y)
   have hB:=bel (bel HB2.out hb3) (bel1 _ (cs x y))
   obtain⟨s1,s2,s3,s4⟩:=facts2 hR
   clear hb3
   go_wp2_with fail
   obtain⟨d0,d1,hB4⟩:=stored2 hR hB (by omega) 0 0
   exact bodyPost_ret (v:=.tuple #[.agg #[.int .i64 0,.int .i64 0],.int .i64 _]) (by simp[results,Tryz.results111,go_sem,d0,d1]) rfl ⟨rfl,hB4⟩
end Go.Proofs.YtimdcmponhcngaaGreat.Spn
namespace Go.Proofs.YtimdcmponhcngaaGreat.Knd
open Go.RowKit Go.Maps
set_option linter.unusedVariables false
set_option maxRecDepth 100000
set_option maxHeartbeats 16000000
theorem laidOut:laidOutB Tryz.prog=true:=by kernel_rfl
theorem row30:(65:TypeId) < Tryz.prog.types.size:=of_decide_eq_true (by kernel_rfl)
theorem wide30:(match Tryz.prog.underlying 65 with|some (.array _ _)|some (.struct _)=>true|_=>false)=true:=by rw[Tryz.underlying65]
theorem law30:Keyed Tryz.prog 65:=Keyed.of_law (deep_law_laid laidOut (m:=2) (by omega) row30 (by kernel_rfl) wide30)
theorem keyType30:Tryz.prog.keyType 65=true:=by kernel_rfl
theorem cells30:Tryz.prog.cellsOf 65=4:=by kernel_rfl
def wf64 (n:Int):Prop:=-9223372036854775808<=n/\n<=9223372036854775807
def Plc.wf (p:Plc):Prop:=wf64 p.back/\wf64 p.coords/\wf64 p.x/\wf64 p.y
theorem wf64_lit {n:Int}(h:wf64 n):(Lit.int .i64 n).wf=true:=by
 unfold wf64 at h;simp[Lit.wf,IntKind.min,IntKind.max,IntKind.bits,IntKind.signed];omega
theorem cells3:Tryz.prog.cellsOf 3=1:=by kernel_rfl
theorem lits3 (d:Nat){n:Int}(h:wf64 n):Tryz.prog.keyLits (d+1) 3 [.int .i64 n]=some [.int .i64 n]:=by
 unfold Program.keyLits
 rw[Tryz.underlying3]
 simp[wf64_lit h]
theorem lits30 (d:Nat){p:Plc}(h:p.wf):Tryz.prog.keyLits (d+1+1) 65 (pcells p).toList=some [.int .i64 p.back,.int .i64 p.coords,.int .i64 p.x,.int .i64 p.y]:=by
 obtain⟨h0,h1,h2,h3⟩:=h
 unfold Program.keyLits
 simp only[Tryz.underlying65]
 simp[pcells,cells30,cells3,lits3 d h0,lits3 d h1,lits3 d h2,lits3 d h3]
noncomputable def kl (p:Plc):Lit:=(keyOf Tryz.prog 65 (.agg (pcells p))).getD (.bool false)
theorem key_some {p:Plc}(h:p.wf):keyOf Tryz.prog 65 (.agg (pcells p))=some (kl p):=by
 have:∃ l,keyOf Tryz.prog 65 (.agg (pcells p))=some l:=by
  have hf:(Value.agg (pcells p)).formed Tryz.prog 65=true:=by
   simp only[Value.formed,Tryz.underlying65,cells30]
   rfl
  obtain⟨k,hk⟩:∃ k,Tryz.prog.types.size+1=k+1+1:=⟨Tryz.prog.types.size-1,by have h:(65:Nat) < Tryz.prog.types.size:=row30;omega⟩
  have hl:=lits30 k h
  rw[<-hk] at hl
  refine⟨.string (keyBytes [.int .i64 p.back,.int .i64 p.coords,.int .i64 p.x,.int .i64 p.y]),?_⟩
  unfold keyOf
  rw[Tryz.underlying65]
  simp only[keyType30,hf,Bool.and_self,if_true,Value.cells,hl,Option.map_some]
 obtain⟨l,hl⟩:=this
 unfold kl
 rw[hl];rfl
theorem kl_inj {p q:Plc}(hp:p.wf)(hq:q.wf)(h:kl p=kl q):p=q:=by
 have h1:=key_some hp
 have h2:=key_some hq
 rw[<-h] at h2
 have:=law30.inj h1 h2
 simp[pcells] at this
 cases p;cases q
 simp_all
theorem kl_key {p:Plc}(hp:p.wf):WideAt.IsKeyLit (kl p):=law30.key (key_some hp)
def look (L:List Plc)(pre:List (Fin 64))(p:Plc):Option Nat:=pre.foldl (fun r i=>if L.getD i.val zp=p then some i.val else r) none
theorem look_snoc (L:List Plc)(pre:List (Fin 64))(i:Fin 64)(p:Plc):look L (pre++[i]) p=if L.getD i.val zp=p then some i.val else look L pre p:=by simp[look]
def Tab (L:List Plc)(pre:List (Fin 64))(D:DataW Unit):Prop :=
 IsMap D/\∀ p:Plc,p.wf->has D (kl p)=(look L pre p).isSome/\D.atKey (kl p) (.lit (.int .i64 0))=.lit (.int .i64 (((look L pre p).getD 0:Nat):Int))
theorem Tab.nil (L:List Plc):Tab L [] (.map []):=⟨⟨_,rfl⟩,fun p _=>⟨rfl,rfl⟩⟩
theorem Tab.snoc {L:List Plc}{pre:List (Fin 64)}{D:DataW Unit}(h:Tab L pre D)(i:Fin 64)(hi:(L.getD i.val zp).wf):Tab L (pre++[i]) (D.put (kl (L.getD i.val zp)) (.lit (.int .i64 ((i.val:Nat):Int)))):=by
 refine⟨h.1.put _ _,fun p hp=>?_⟩
 rw[look_snoc]
 by_cases e:L.getD i.val zp=p
 ·rw[if_pos e,e,has_put_same h.1 (kl_key hp),atKey_put_same h.1 (kl_key hp)]
  exact⟨rfl,rfl⟩
 ·rw[if_neg e]
  have hne:kl p≠kl (L.getD i.val zp):=fun h'=>e (kl_inj hp hi h').symm
  rw[has_put_other hne,atKey_put_other hne]
  exact h.2 p hp
theorem plcs_wf (f d:Int):∀ p ∈ plcs f d,p.wf:=by
 unfold plcs
 rcases kind3 f d with⟨hm,rfl⟩|⟨hm,rfl⟩|hm
 ·have e:blks 0 d=imageB:=by simp[blks,hm]
  rw[e];unfold Plc.wf wf64;decide
 ·have e:blks 1 d=soundB:=by simp[blks,hm]
  rw[e];unfold Plc.wf wf64;decide
 ·have e:blks f d=[]:=by simp[blks,hm]
  rw[e];simp[plsAll]
theorem getD_wf (f d:Int)(i:Nat):((plcs f d).getD i zp).wf:=by
 by_cases h:i < (plcs f d).length
 ·have e:(plcs f d).getD i zp=(plcs f d)[i]:=by simp[List.getD,h]
  rw[e];exact plcs_wf f d _ (List.getElem_mem h)
 ·simp[List.getD,h,zp,Plc.wf,wf64]
end Go.Proofs.YtimdcmponhcngaaGreat.Knd
namespace Go.Proofs.YtimdcmponhcngaaGreat.Knd
open Go.RowKit Go.Shelf Go.Maps
set_option linter.unusedVariables false
set_option maxRecDepth 100000
set_option maxHeartbeats 16000000
attribute [local go_sem] Oper.semAt_some
theorem bsz {w w2:World}{o:Obj}(h:Below (w.alloc o).heap.size (w.alloc o) w2):w.heap.size < w2.heap.size:=by have:=h.size;simp at this;omega
theorem run_makeMap53 (c:Int)(w:World):(Instr.makeMap 131 (some (.int .i64 c))).run Tryz.prog w=.ok (.map (some w.heap.size)) (w.alloc (.map #[] 0)):=by
 simp[Instr.makeMap,run_underlying Tryz.underlying131,go_sem]
theorem numbers_in (m:Nat)(hm:6<=m)(f d:Int)(w:World) :
  CallsIn Fence.wide m Tryz.prog 85 #[.agg #[.int .i64 f,.int .i64 d]] w fun e w'=>∃ b D,e=.returned (.map (some b))/\w'.ownsMap Tryz.prog 65 (plainElem (H:=Unit) Tryz.prog 3) b 64 D/\Tab (plcs f d) (upto (plcs f d).length) D/\Below w.heap.size w w':=by
 have h1:1<=m:=by omega
 have hro:Fence.wide.round=none:=rfl
 have hmm:=run_makeMap53
 have hb:=bel1 w (.cells #[.int .i64 f,.int .i64 d] 23)
 refine callsIn_of_wp_marks Tryz.func85 rfl trivial ?_ hro
 simp only[Tryz.ntmps85,List.size_toArray,List.length_cons,List.length_nil,Nat.reduceAdd,Nat.reduceSub,Array.replicate_succ,Array.replicate_zero,List.push_toArray,List.append_toArray,List.nil_append,List.cons_append]
 gi_wp2_with (refine⟨trivial,?_⟩;first|(gi_at_call 52;refine(callsIn_wide.2 (all_any f d _)).mono ?_;rintro e w3 ⟨rfl,rfl⟩)|(gi_at_call 48;refine(callsIn_wide.2 (count_any f d _)).mono ?_;rintro e w2 ⟨rfl,hb2⟩;obtain⟨hc2,hf2⟩:=bcell hb2;have hz2:=bsz hb2))
 have HB2:=hide (bel hb hb2)
 have hKd:=HasC.new ((w2.alloc (.map #[] 0)).alloc (.cells #[.map (some w2.heap.size)] 131)) 23 #[.int .i64 f,.int .i64 d]
 have hLs:=(HasC.new (w2.alloc (.map #[] 0)) 131 #[.map (some w2.heap.size)]).alloc (.cells #[.int .i64 f,.int .i64 d] 23)
 have hM:=((World.ownsMap_made w2 Tryz.prog 65 (plainElem (H:=Unit) Tryz.prog 3)).alloc (.cells #[.map (some w2.heap.size)] 131)).alloc (.cells #[.int .i64 f,.int .i64 d] 23)
 have hsz:(((w2.alloc (.map #[] 0)).alloc (.cells #[.map (some w2.heap.size)] 131)).alloc (.cells #[.int .i64 f,.int .i64 d] 23)).heap.size=w2.heap.size+3:=by simp
 have hB0:Below w.heap.size w (((w2.alloc (.map #[] 0)).alloc (.cells #[.map (some w2.heap.size)] 131)).alloc (.cells #[.int .i64 f,.int .i64 d] 23)) :=
  ((HB2.out.alloc HB2.out.size _).alloc (by have:=HB2.out.size;simp;omega) _).alloc (by have:=HB2.out.size;simp;omega) _
 simp only[World.size_alloc] at hKd hLs
 obtain⟨W0,hW0⟩:∃ W0,(((w2.alloc (.map #[] 0)).alloc (.cells #[.map (some w2.heap.size)] 131)).alloc (.cells #[.int .i64 f,.int .i64 d] 23))=W0:=⟨_,rfl⟩
 rw[hW0] at hKd hLs hM hsz hB0 ⊢
 clear hW0 hc2 hf2 hb2 hb HB2
 obtain⟨Z,hZ⟩:∃ Z,w2.heap.size=Z:=⟨_,rfl⟩
 rw[hZ] at hKd hLs hM hsz hz2 ⊢
 clear hZ
 obtain⟨L,hL⟩:∃ L,L=plcs f d:=⟨_,rfl⟩
 have HL:=hide hL
 have hseq:=all_stops (m-1) (by omega) (Z+1+1) W0.heap.size f d W0 (by omega) (Nat.le_refl _) (hKd.cell 0 rfl) (hKd.cell 1 rfl)
 rw[<-hL] at hseq
 clear hL
 refine wpIn_rangeFunc_ownH hro h1 (gf:=83) (lb:=#[.pointer (some ⟨Z+1+1,0,none⟩)]) rfl trivial (enters_of Tryz.func83 (by kernel_rfl) rfl)
  hseq (fun h k=>h.trans k) keepsIn_b (Below.refl _ _) (fun _=>rfl)
  (fun pre W=>(HasC W (Z+1) 131 #[.map (some Z)]/\∃ D,W.ownsMap Tryz.prog 65 (plainElem (H:=Unit) Tryz.prog 3) Z pre.length D/\Tab L pre D)/\Below w.heap.size w W)
  (fun _ _ _=>False)
  (OwnFrom.and (OwnFrom.and (ownFrom_hasC _ _ _) (fun s X Y row hs hg hr=>by
   obtain⟨D,h1,h2⟩:=hs
   exact⟨D,h1.kept hg (fun e=>by have:=(hr _ e.symm).1;omega),h2⟩)) (ownFrom_below (Nat.le_refl _) (by omega)))
  (fun _ _ _ _ _ hs _ _=>hs)
  ⟨⟨hLs,_,hM,Tab.nil L⟩,hB0⟩
  (fun x a' W=>∃ Bx,Z+1 < Bx/\HasC W Bx 65 (pcells (L.getD x.val zp))/\a'={ tmps:=#[.agg #[.int .i64 f,.int .i64 d],.pointer (some ⟨w.heap.size,0,none⟩),.map none,.pointer (some ⟨Z+1,0,none⟩),.int .i64 (x.val:Int),.pointer (some ⟨Bx,0,none⟩),.agg #[.int .i64 f,.int .i64 d],.int .i64 (countZ f d),.map (some Z),.agg #[.int .i64 f,.int .i64 d],.func (.func 83) #[] #[.pointer (some ⟨Z+1+1,0,none⟩)],.int .i64 (x.val:Int),.agg (pcells (L.getD x.val zp)),undef,undef,undef,undef],defers:=[] })
  (fun x a' _ X Y row hs hg hr=>by obtain⟨Bx,h1,h2,h3⟩:=hs;exact⟨Bx,h1,hasC_own Bx 65 (fun(_:Unit)=>pcells (L.getD x.val zp)) () X Y row h2 hg (fun r e=>(hr r e).2),h3⟩)
  ?assign ?body ?done ?stop
 case assign =>
  rintro l pre x W K ⟨⟨hLs1,D,hM1,hT1⟩,hB1⟩ hK
  simp only[encs]
  gi_wp2
  exact hK _ _ ((KeepsOthers.alloc _ _).from _) (KeepsIn.of_below (bel1 _ _)) ⟨⟨hLs1.alloc _,D,hM1.alloc _,hT1⟩,hB1.alloc hB1.size _⟩ ⟨W.heap.size,hLs1.lt,HasC.new W 65 _,rfl⟩
 case body =>
  rintro l pre x a' W hl ⟨r,hr⟩ ⟨⟨hLs1,D,hM1,hT1⟩,hB1⟩ ⟨Bx,hBx,hX,rfl⟩ hlt
  have cL:=hLs1.cell 0 rfl
  obtain⟨p,hp0⟩:∃ p,p=L.getD x.val zp:=⟨_,rfl⟩
  have hpw:p.wf:=by rw[hp0,HL.out];exact getD_wf f d _
  rw[<-hp0] at hX ⊢
  have HP:=hide hp0
  have HT:=hide hT1
  have HM:=hide hM1
  clear hp0 hT1 hM1
  have cx0:W.cell? ⟨Bx,0,none⟩=some (.int .i64 p.back):=hX.cell 0 rfl
  have cx1:W.cell? ⟨Bx,1,none⟩=some (.int .i64 p.coords):=hX.cell 1 rfl
  have cx2:W.cell? ⟨Bx,2,none⟩=some (.int .i64 p.x):=hX.cell 2 rfl
  have cx3:W.cell? ⟨Bx,3,none⟩=some (.int .i64 p.y):=hX.cell 3 rfl
  have hl64:pre.length < 64:=by have:=(blks_bound f d).1;rw[<-HL.out] at this;omega
  gi_wp2_with (gi_at_mapUpdate;refine wpListIn_mapUpdate_own _ rfl _ _ _ 131 rfl 65 3 law30 Tryz.underlying131 _ Z pre.length _ rfl HM.out (by unfold maxLen;omega) _ _ _ rfl rfl (key_some hpw) _ [] (plainElem_int Tryz.underlying3 (wf64_lit (n:=(x.val:Int)) (by unfold wf64;omega))) ?_;intro w1 hown1 hgrow1)
  exact⟨KeepsFrom.of_grownBy hgrow1 (fun j e=>by cases e;omega),KeepsIn.of_grownBy hgrow1 (fun j e=>by cases e;exact .inl (by omega)),
   ⟨hLs1.kept hgrow1 (by simp),_,by rw[List.length_append];exact hown1,by have h:=HT.out.snoc x (by rw[<-HP.out];exact hpw);rw[<-HP.out] at h;exact h⟩,hB1.grown hgrow1 hB1.size (fun k e=>by cases e;omega)⟩
 case done =>
  rintro D0 ys W hD rfl ⟨⟨hLs1,D,hM1,hT1⟩,hB1⟩ hK
  have cL:=hLs1.cell 0 rfl
  have hle:=(blks_bound f d).1
  rw[<-HL.out] at hle
  rw[upto_len _ (by omega)] at hM1
  gi_wp2
  refine⟨by simp,.inl ⟨_,_,rfl,run_takeDeferred hK,?_⟩⟩
  refine⟨_,results_tmp rfl _ _ _,Z,D,rfl,(hM1.mono (by omega)).kept (grownBy_putObj' _ D0 _) (fun e=>by cases e;omega),by rw[<-HL.out];exact hT1,hB1.trans (belowK_b (w:=w) (Nat.le_refl _) W D0 _ _ (by omega) hK rfl rfl)⟩
 case stop =>
  rintro D c pre W _ _ h _
  exact h.elim
theorem numbers_any (f d:Int)(w:World) :
  Calls Tryz.prog 85 #[.agg #[.int .i64 f,.int .i64 d]] w fun e w'=>∃ b D,e=.returned (.map (some b))/\w'.ownsMap Tryz.prog 65 (plainElem (H:=Unit) Tryz.prog 3) b 64 D/\Tab (plcs f d) (upto (plcs f d).length) D/\Below w.heap.size w w' :=
 callsIn_wide.1 (numbers_in 6 (Nat.le_refl _) f d w)
def numZ (f d:Int)(p:Plc):Option Nat:=look (plcs f d) (upto (plcs f d).length) p
def numV (f d:Int)(p:Plc):Value:=.tuple #[.int .i64 (((numZ f d p).getD 0:Nat):Int),.bool (numZ f d p).isSome]
theorem look30 {f d:Int}{p:Plc}(hp:p.wf){w2:World}{b:Nat}{D:DataW Unit}(hM:w2.ownsMap Tryz.prog 65 (plainElem (H:=Unit) Tryz.prog 3) b 64 D)(hT:Tab (plcs f d) (upto (plcs f d).length) D) :
  ∃ c q,(Instr.lookup 131 (.map (some b)) (.agg #[.int .i64 p.back,.int .i64 p.coords,.int .i64 p.x,.int .i64 p.y]) true).run Tryz.prog w2=.ok (.tuple #[.int .i64 c,.bool q]) w2/\Hid (.tuple #[.int .i64 c,.bool q]=numV f d p):=by
 obtain⟨v,ps,hrun,hv⟩:=hM.look_ok law30 Tryz.underlying131 (Tryz.zeroValue3 w2) (plainElem_int Tryz.underlying3 (wf64_lit (n:=0) (by unfold wf64;omega))) (key_some hp)
 obtain⟨c,rfl,hc,hwc⟩:=plainElem_int_inv Tryz.underlying3 hv
 obtain⟨t1,t2⟩:=hT.2 p hp
 have hc1:D.atKey (kl p) (.lit (.int .i64 0))=.lit (.int .i64 c):=congrArg Prod.fst hc
 rw[t2] at hc1
 simp at hc1
 refine⟨_,_,hrun,?_⟩
 unfold Hid
 rw[t1,<-hc1]
 rfl
theorem number_any (f d:Int)(p:Plc)(hp:p.wf)(w:World) :
  Calls Tryz.prog 56 #[.agg #[.int .i64 f,.int .i64 d],.agg #[.int .i64 p.back,.int .i64 p.coords,.int .i64 p.x,.int .i64 p.y]] w fun e w'=>e=.returned (numV f d p)/\Below w.heap.size w w':=by
 have hb:=(bel1 w (.cells #[.int .i64 f,.int .i64 d] 23)).alloc (by simp) (.cells #[.int .i64 p.back,.int .i64 p.coords,.int .i64 p.x,.int .i64 p.y] 65)
 go_enter Tryz.func56,Tryz.ntmps56
 go_wp2
 go_region_with (go_at_call 85;refine(numbers_any _ _ _).mono ?_;rintro e w2 ⟨b,D,rfl,hM,hT,hb2⟩;obtain⟨hc2,hf2⟩:=bcell hb2;obtain⟨c,q,hrun,hv⟩:=look30 hp hM hT)
 all_goals go_simp
 all_goals go_wp2
 all_goals go_ret2
 all_goals exact⟨by rw[<-hv.out];rfl,bel hb.drew hb2⟩
end Go.Proofs.YtimdcmponhcngaaGreat.Knd
