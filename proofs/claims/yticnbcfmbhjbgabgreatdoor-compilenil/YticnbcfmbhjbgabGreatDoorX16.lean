import Derived.Test.YticnbcfmbhjbgabGreatDoorXH
import Derived.Test.YticnbcfmbhjbgabGreatDoorX15
import Derived.Test.YticnbcfmbhjbgabGreatDoorX13
set_option maxRecDepth 100000
set_option maxHeartbeats 32000000
set_option linter.unusedVariables false
namespace Go.Proofs.Spn
open Go.RowKit Go.IntWalk Go.Sort
def whP (p:Int × Int):Bool:=mM p.1 p.2
def jA (op k s:Int)(L:List (Int × Int)):Bool:=decide (1<=ar op)&&decide ((L.length:Int)=ar op)&&cons op k s&&L.all whP
theorem wM {L:List (Int × Int)}{k:Nat}{x y:Int}(hk:k < L.length)(h:(L.take k).all whP=true)(hx:L.getD k (0,0)=(x,y))(e:mM x y=true):(L.take (k+1)).all whP=true:=by
 have e1:L[k]=(x,y):=by simpa [List.getD,hk] using hx
 rw[lTs hk,List.all_append,h,e1]
 simp[whP,e]
theorem aPh (op k s:Int)(a:Option Addr)(n cap:Nat)(L:List (Int × Int))(w:World)(h:Spans w a n cap L) :
  Calls Tryz.prog 247 #[.i op,.i k,.i s,.slice a n cap] w fun e w'=>e=.returned (.bool (jA op k s L))/\Below w.heap.size w w':=by
 have hl:=h.len
 have hm1:n<=9223372036854775807:=by have:=h.le;have:=h.max;unfold maxLen at this;omega
 by_cases h1:ar op < 1
 ·rw[show jA op k s L=false by simp[jA];omega]
  clear hl h
  go_enter Tryz.func247,Tryz.ntmps247
  go_wp2_with (go_at_call 81;refine(bP _ _).mono ?_;rintro e w' ⟨rfl,rfl⟩)
  go_ret
  exact⟨rfl,Below.refl _ _⟩
 by_cases h2:(n:Int)=ar op
 ·have h2':((n:Int) != ar op)=false:=by simp[h2]
  cases hc:cons op k s
  ·rw[show jA op k s L=false by simp[jA,hc]]
   clear hl h2 h
   go_enter Tryz.func247,Tryz.ntmps247
   go_wp2_with (first|(go_at_call 81;refine(bP _ _).mono ?_;rintro e w' ⟨rfl,rfl⟩)|(go_at_call 135;refine(gL _ _ _ _).mono ?_;rintro e w' ⟨rfl,rfl⟩))
   go_ret
   exact⟨rfl,Below.refl _ _⟩
  ·rw[show jA op k s L=L.all whP by simp[jA,hc,hl,h2];omega]
   have HL:=aA hl
   have H:=aA h
   clear hl h2 h
   go_enter Tryz.func247,Tryz.ntmps247
   go_wp2_with (first|(go_at_call 81;refine(bP _ _).mono ?_;rintro e w' ⟨rfl,hw'⟩;have hq:=hw'.symm;subst hq)|(go_at_call 135;refine(gL _ _ _ _).mono ?_;rintro e w' ⟨rfl,hw'⟩;have hq:=hw'.symm;subst hq))
   go_loopw [31] (fun i wr=>∃ j:Nat,j<=n/\i=.i j/\(L.take j).all whP=true/\Below w.heap.size w wr) (fun i _=>n-(intOf i).toNat)
   case atStart=>exact⟨0,nZl _,rfl,rfl,Below.refl _ _⟩
   case round =>
    rename_i wr
    obtain⟨j,hj,rfl,hA,hB⟩:=hrel
    have HA:=aA hA
    have HB:=aA hB
    clear hA hB
    by_cases hlt:j < n
    ·obtain⟨bb,off,rfl,hbb,hcell⟩:=(H.o.later HB.o).at (by omega)
     obtain⟨g1,g2⟩:=hcell j hlt
     clear hcell
     obtain⟨⟨x,y⟩,hxy⟩:∃ p,L.getD j (0,0)=p:=⟨_,rfl⟩
     rw[hxy] at g1 g2
     have HXY:=aA hxy
     clear hxy
     have hj0:(0:Int)<=(j:Int):=by omega
     have hj1:(j:Int) < (n:Int):=by omega
     have HWh:=fun w=>aA (aBi x y w)
     cases hx:mM x y
     ·rw[hx] at HWh
      go_wp2_with fail
      refine(HWh _).o.mono ?_
      rintro e w2 ⟨rfl,hb2⟩
      have HB2:=aA (bel HB.o (bel (aD _ _) hb2))
      clear hb2
      go_wp2_with fail
      go_ret
      refine⟨aV ?_,HB2.o⟩
      symm
      rw[List.all_eq_false]
      refine⟨(x,y),?_,by simp[whP,hx]⟩
      rw[<-HXY.o]
      simp[List.getD,HL.o,hlt]
     ·rw[hx] at HWh
      go_wp2_with fail
      refine(HWh _).o.mono ?_
      rintro e w2 ⟨rfl,hb2⟩
      have HB2:=aA (bel HB.o (bel (aD _ _) hb2))
      clear hb2
      go_wp2_with fail
      go_roundw
      case rel=>exact⟨j+1,by omega,by go_num,wM (by rw[HL.o];exact hlt) HA.o HXY.o hx,HB2.o⟩
      case measure=>simp[intOf];omega
    ·go_wp2_with fail
     go_ret
     refine⟨aV ?_,HB.o⟩
     have h3:=HA.o
     rw[lTl (by rw[HL.o];omega)] at h3
     exact h3.symm
 ·have h2':((n:Int) != ar op)=true:=by simp[h2]
  rw[show jA op k s L=false by simp[jA,hl,h2]]
  clear hl h2 h
  go_enter Tryz.func247,Tryz.ntmps247
  go_wp2_with (go_at_call 81;refine(bP _ _).mono ?_;rintro e w' ⟨rfl,rfl⟩)
  go_ret
  exact⟨rfl,Below.refl _ _⟩
def bR (op k s:Int)(L:List (Int × Int)):(Int × Int) × Int :=
 if op=32 then eU (fun u v=>bO 10 0 0 [u,v]) (L.getD 0 (0,0)).1 (L.getD 0 (0,0)).2 k k else
 if op=31 then(fC (L.getD 0 (0,0)).1 (L.getD 0 (0,0)).2 k k,0) else
 if op=11\/op=12 then sH (fun u v=>bO op k s [u,v]) op (L.getD 0 (0,0)).1 (L.getD 0 (0,0)).2 (L.getD 1 (0,0)).1 (L.getD 1 (0,0)).2 else
 if op=10\/op=13\/op=14\/op=18\/op=19\/op=20\/op=21 then eU (fun u v=>bO op k s [u,v]) (L.getD 0 (0,0)).1 (L.getD 0 (0,0)).2 (L.getD 1 (0,0)).1 (L.getD 1 (0,0)).2 else
 if op=7\/op=24\/op=25\/op=26\/op=27\/op=29\/op=30\/op=33 then kF (fun xs=>bO op k s xs) L else
 (aWy op L,0)
theorem aT3 {p:Int × Int}(h:whP p=true):fA p.1/\fA p.2:=by
 have:=bE.1 h
 exact⟨by omega,by omega⟩
theorem aL9 {op k s:Int}(h:cons op k s=true)(ho:op=31):fA k:=by
 subst ho
 have h':gD k 0 2147483647=true:=h
 have:=aO.1 h'
 exact⟨by omega,by omega⟩
theorem aOx (op k s:Int)(a:Option Addr)(n cap:Nat)(L:List (Int × Int))(w:World)(h:Spans w a n cap L)(hm:jA op k s L=true) :
  Calls Tryz.prog 248 #[.i op,.i k,.i s,.slice a n cap] w fun r w'=>r=.returned (spV (bR op k s L))/\Below w.heap.size w w':=by
 simp only[jA,bAt,dEt,lAe] at hm
 obtain⟨⟨⟨m1,m2⟩,m3⟩,m4⟩:=hm
 have hl:=h.len
 have h3:=wN op
 have hle:=h.le
 by_cases he:op=7\/op=24\/op=25\/op=26\/op=27\/op=29\/op=30\/op=33
 ·rw[show bR op k s L=kF (fun xs=>bO op k s xs) L by unfold bR;rw[if_neg (by omega),if_neg (by omega),if_neg (by omega),if_neg (by omega),if_pos he]]
  exact aKm op k s a n cap L w h (by omega) he
 obtain⟨b,off,rfl,hlt,hc⟩:=h.at (by omega)
 have hw:∀ p ∈ L,fA p.1/\fA p.2:=fun p hp=>aT3 (m4 p hp)
 match L,hl,m2,hc,hw with
 | [(x0,y0)],hl,m2,hc,hw =>
  subst hl
  have ho:=uF (op:=op) (by simpa using m2.symm)
  obtain⟨d0,d1⟩:=hc 0 (by simp)
  obtain⟨w0,w1⟩:=hw (x0,y0) (by simp)
  simp at d0 d1
  by_cases h32:op=32
  ·rw[show bR op k s [(x0,y0)]=eU (fun u v=>bO 10 0 0 [u,v]) x0 y0 k k by unfold bR;rw[if_pos h32];rfl]
   exact aKn op k s x0 y0 b off cap w hle hlt d0 d1 h32
  by_cases h31:op=31
  ·rw[show bR op k s [(x0,y0)]=(fC x0 y0 k k,0) by unfold bR;rw[if_neg h32,if_pos h31];rfl]
   exact aKl op k s x0 y0 b off cap w hle hlt d0 d1 h31 w0 w1 (aL9 m3 h31)
  have h56:op=5\/op=6:=by omega
  rw[show bR op k s [(x0,y0)]=(mE op x0 y0,0) by unfold bR;rw[if_neg h32,if_neg h31,if_neg (by omega),if_neg (by omega),if_neg he];rfl]
  exact rG op k s _ 1 cap (mE op x0 y0) w (by omega) fun W hW=>aPk op x0 y0 b off cap W hle (by have:=hW.size;omega) ((hW.cell (p:=⟨b,off,none⟩) hlt).trans d0) ((hW.cell (p:=⟨b,off+1,none⟩) hlt).trans d1) w0 w1
 | [(x0,y0),(x1,y1)],hl,m2,hc,hw =>
  subst hl
  have ho:=aO.1 (qD (op:=op) (by simpa using m2.symm))
  obtain⟨d0,d1⟩:=hc 0 (by simp)
  obtain⟨d2,d3⟩:=hc 1 (by simp)
  obtain⟨w0,w1⟩:=hw (x0,y0) (by simp)
  obtain⟨w2,w3⟩:=hw (x1,y1) (by simp)
  simp at d0 d1 d2 d3
  by_cases hd:op=11\/op=12
  ·rw[show bR op k s [(x0,y0),(x1,y1)]=sH (fun u v=>bO op k s [u,v]) op x0 y0 x1 y1 by unfold bR;rw[if_neg (by omega),if_neg (by omega),if_pos hd];rfl]
   exact aOy op k s x0 y0 x1 y1 b off cap w hle hlt d0 d1 d2 d3 hd w0 w1 w2 w3
  by_cases hcn:op=10\/op=13\/op=14\/op=18\/op=19\/op=20\/op=21
  ·rw[show bR op k s [(x0,y0),(x1,y1)]=eU (fun u v=>bO op k s [u,v]) x0 y0 x1 y1 by unfold bR;rw[if_neg (by omega),if_neg (by omega),if_neg hd,if_pos hcn];rfl]
   exact aA8 op k s x0 y0 x1 y1 b off cap w hle hlt d0 d1 d2 d3 hcn
  have h2:op=8\/op=9\/op=15\/op=16\/op=17\/op=22\/op=23:=by omega
  rw[show bR op k s [(x0,y0),(x1,y1)]=(qK op x0 y0 x1 y1,0) by unfold bR;rw[if_neg (by omega),if_neg (by omega),if_neg hd,if_neg hcn,if_neg he];rfl]
  exact rG op k s _ 2 cap (qK op x0 y0 x1 y1) w (by omega) fun W hW=>aPl op x0 y0 x1 y1 b off cap W hle (by have:=hW.size;omega) ((hW.cell (p:=⟨b,off,none⟩) hlt).trans d0) ((hW.cell (p:=⟨b,off+1,none⟩) hlt).trans d1) ((hW.cell (p:=⟨b,off+2,none⟩) hlt).trans d2) ((hW.cell (p:=⟨b,off+2+1,none⟩) hlt).trans d3) w0 w1 w2 w3 h2
 | [(x0,y0),(x1,y1),(x2,y2)],hl,m2,hc,hw =>
  subst hl
  have ho:=aO.1 (lC (op:=op) (by simpa using m2.symm))
  obtain⟨d0,d1⟩:=hc 0 (by simp)
  obtain⟨d2,d3⟩:=hc 1 (by simp)
  obtain⟨d4,d5⟩:=hc 2 (by simp)
  simp at d0 d1 d2 d3 d4 d5
  have h28:op=28:=by omega
  rw[show bR op k s [(x0,y0),(x1,y1),(x2,y2)]=(rH x0 y0 x1 y1 x2 y2,0) by unfold bR;rw[if_neg (by omega),if_neg (by omega),if_neg (by omega),if_neg (by omega),if_neg he];rfl]
  exact rG op k s _ 3 cap (rH x0 y0 x1 y1 x2 y2) w (by omega) fun W hW=>aPm op x0 y0 x1 y1 x2 y2 b off cap W hle (by have:=hW.size;omega) ((hW.cell (p:=⟨b,off,none⟩) hlt).trans d0) ((hW.cell (p:=⟨b,off+1,none⟩) hlt).trans d1) ((hW.cell (p:=⟨b,off+2,none⟩) hlt).trans d2) ((hW.cell (p:=⟨b,off+2+1,none⟩) hlt).trans d3) ((hW.cell (p:=⟨b,off+4,none⟩) hlt).trans d4) ((hW.cell (p:=⟨b,off+4+1,none⟩) hlt).trans d5)
 | [],hl,m2,hc,hw=>simp at m2;omega
 | _::_::_::_::_,hl,m2,hc,hw=>simp at m2;omega
def zQ (Z:(Int × Int) × Int):(Int × Int) × Int:=if Z.2≠0 then((0,0),Z.2) else if mM Z.1.1 Z.1.2=true then(Z.1,0) else((0,0),13)
def ofZ (op k s:Int)(L:List (Int × Int)):(Int × Int) × Int:=if jA op k s L=true then zQ (bR op k s L) else((0,0),1)
theorem aN7 (op k s:Int)(a:Option Addr)(n cap:Nat)(L:List (Int × Int))(w:World)(h:Spans w a n cap L) :
  Calls Tryz.prog 192 #[.i op,.i k,.i s,.slice a n cap] w fun r w'=>r=.returned (spV (ofZ op k s L))/\Below w.heap.size w w':=by
 have HR:=aA (aB.new w 80 #[.i 0,.i 0])
 have HB:=aA (aD w (cs 0 0))
 have HM:=aA (aPh op k s a n cap L _ (h.later HB.o))
 cases hm:jA op k s L
 ·rw[hm] at HM
  rw[show ofZ op k s L=((0,0),1) by simp[ofZ,hm]]
  go_enter Tryz.func192,Tryz.ntmps192
  go_wp2_with fail
  refine HM.o.mono ?_
  rintro e w2 ⟨rfl,hb2⟩
  have hR:=HR.o.below hb2
  have hB:=bel HB.o hb2
  obtain⟨s1,s2,s3,s4⟩:=aM hR
  clear hb2
  go_wp2_with fail
  obtain⟨d0,d1,hB4⟩:=aR hR hB (by omega) 0 0
  exact bPr (v:=.tuple #[.agg #[.i 0,.i 0],.i 1]) (by simp[results,Tryz.results192,go_sem,d0,d1]) rfl ⟨rfl,hB4⟩
 ·rw[hm] at HM
  have HRk:=aA fun(W:World) (hW:Below w.heap.size w W)=>aOx op k s a n cap L W (h.later hW) hm
  rw[show ofZ op k s L=zQ (bR op k s L) by simp[ofZ,hm]]
  obtain⟨⟨⟨x,y⟩,e⟩,hZ⟩:∃ Z,bR op k s L=Z:=⟨_,rfl⟩
  rw[hZ] at HRk ⊢
  clear hZ hm h
  by_cases he:e=0
  ·subst he
   have HWh:=fun w=>aA (aBi x y w)
   cases hx:mM x y
   ·rw[show zQ ((x,y),0)=((0,0),13) by simp[zQ,hx]]
    rw[hx] at HWh
    go_enter Tryz.func192,Tryz.ntmps192
    go_wp2_with fail
    refine HM.o.mono ?_
    rintro e w2 ⟨rfl,hb2⟩
    have HR2:=aA (HR.o.below hb2)
    have HB2:=aA (bel HB.o hb2)
    clear hb2
    go_wp2_with fail
    refine(HRk.o _ HB2.o).mono ?_
    rintro e w3 ⟨rfl,hb3⟩
    have HR3:=aA (HR2.o.below hb3)
    have HB3:=aA (bel HB2.o hb3)
    clear hb3
    go_wp2_with fail
    refine(HWh _).o.mono ?_
    rintro e w4 ⟨rfl,hb4⟩
    have hR:=(HR3.o.alloc (cs x y)).below hb4
    have hB:=bel (bel HB3.o (aD _ _)) hb4
    obtain⟨s1,s2,s3,s4⟩:=aM hR
    clear hb4
    go_wp2_with fail
    obtain⟨d0,d1,hB4⟩:=aR hR hB (by omega) 0 0
    exact bPr (v:=.tuple #[.agg #[.i 0,.i 0],.i 13]) (by simp[results,Tryz.results192,go_sem,d0,d1]) rfl ⟨rfl,hB4⟩
   ·rw[show zQ ((x,y),0)=((x,y),0) by simp[zQ,hx]]
    rw[hx] at HWh
    go_enter Tryz.func192,Tryz.ntmps192
    go_wp2_with fail
    refine HM.o.mono ?_
    rintro e w2 ⟨rfl,hb2⟩
    have HR2:=aA (HR.o.below hb2)
    have HB2:=aA (bel HB.o hb2)
    clear hb2
    go_wp2_with fail
    refine(HRk.o _ HB2.o).mono ?_
    rintro e w3 ⟨rfl,hb3⟩
    have HR3:=aA (HR2.o.below hb3)
    have HB3:=aA (bel HB2.o hb3)
    clear hb3
    go_wp2_with fail
    refine(HWh _).o.mono ?_
    rintro e w4 ⟨rfl,hb4⟩
    have hR:=(HR3.o.alloc (cs x y)).below hb4
    have hN:=(aB.new w3 80 #[.i x,.i y]).below hb4
    have hB:=bel (bel HB3.o (aD _ _)) hb4
    obtain⟨s1,s2,s3,s4⟩:=aM hR
    obtain⟨n1,n2,-,-⟩:=aM hN
    clear hb4
    go_wp2_with fail
    obtain⟨d0,d1,hB4⟩:=aR hR hB (by omega) x y
    exact bPr (v:=.tuple #[.agg #[.i x,.i y],.i 0]) (by simp[results,Tryz.results192,go_sem,d0,d1]) rfl ⟨rfl,hB4⟩
  ·rw[show zQ ((x,y),e)=((0,0),e) by simp[zQ,he]]
   have he':(e != 0)=true:=by simp[he]
   clear he
   go_enter Tryz.func192,Tryz.ntmps192
   go_wp2_with fail
   refine HM.o.mono ?_
   rintro e w2 ⟨rfl,hb2⟩
   have HR2:=aA (HR.o.below hb2)
   have HB2:=aA (bel HB.o hb2)
   clear hb2
   go_wp2_with fail
   refine(HRk.o _ HB2.o).mono ?_
   rintro e w3 ⟨rfl,hb3⟩
   have hR:=(HR2.o.below hb3).alloc (cs x y)
   have hB:=bel (bel HB2.o hb3) (aD _ (cs x y))
   obtain⟨s1,s2,s3,s4⟩:=aM hR
   clear hb3
   go_wp2_with fail
   obtain⟨d0,d1,hB4⟩:=aR hR hB (by omega) 0 0
   exact bPr (v:=.tuple #[.agg #[.i 0,.i 0],.i _]) (by simp[results,Tryz.results192,go_sem,d0,d1]) rfl ⟨rfl,hB4⟩
end Go.Proofs.Spn
namespace Go.Proofs.Spn
open Go.RowKit Go.IntWalk
variable {k op s x y:Int}
def bet (p q r:Int):Prop:=(p<=q/\q<=r)\/(r<=q/\q<=p)
def fnE (E:Int × Int):Int × Int:=if E.2=0 then(if wd E.1=true then(E.1,0) else(0,13)) else(0,E.2)
theorem wJ {xs:List Int}(h:gF op k s xs=true):bO op k s xs=fnE (ex op k s (xs.getD 0 0) (xs.getD 1 0) (xs.getD 2 0)):=by
 unfold bO fnE
 rw[if_pos h]
theorem jL {E:Int × Int}(h:(fnE E).2=0):E.2=0/\wd E.1=true/\(fnE E).1=E.1:=by
 unfold fnE at *
 by_cases h1:E.2=0
 ·rw[if_pos h1] at *
  by_cases h2:wd E.1=true
  ·rw[if_pos h2] at *;exact⟨h1,h2,rfl⟩
  ·rw[if_neg h2] at h;simp at h
 ·rw[if_neg h1] at *;exact absurd h h1
theorem aVd {E:Int × Int}(h1:E.2=0)(h2:wd E.1=true):fnE E=(E.1,0):=by
 unfold fnE;rw[if_pos h1,if_pos h2]
theorem aYx (ho:ar op=1)(hc:cons op k s=true)(hx:fA x):gF op k s [x]=true:=by
 simp[gF,ho,hc,cO];exact hx
theorem aYy (ho:ar op=2)(hc:cons op k s=true)(hx:fA x)(hy:fA y):gF op k s [x,y]=true:=by
 simp[gF,ho,hc,cO];exact⟨hx,hy⟩
theorem aYz {z:Int}(ho:ar op=3)(hc:cons op k s=true)(hx:fA x)(hy:fA y)(hz:fA z):gF op k s [x,y,z]=true:=by
 simp[gF,ho,hc,cO];exact⟨hx,hy,hz⟩
theorem aZr (ho:ar op=1)(hc:cons op k s=true)(hx:fA x):bO op k s [x]=fnE (ex op k s x 0 0):=wJ (aYx ho hc hx)
theorem aFo (ho:ar op=2)(hc:cons op k s=true)(hx:fA x)(hy:fA y):bO op k s [x,y]=fnE (ex op k s x y 0):=wJ (aYy ho hc hx hy)
theorem aZs {z:Int}(ho:ar op=3)(hc:cons op k s=true)(hx:fA x)(hy:fA y)(hz:fA z):bO op k s [x,y,z]=fnE (ex op k s x y z):=wJ (aYz ho hc hx hy hz)
theorem aAj {f:Int->Int->Int × Int}{a b c d lo hi:Int}(h:eU f a b c d=((lo,hi),0)) :
  (f a c).2=0/\(f a d).2=0/\(f b c).2=0/\(f b d).2=0 /\
  lo=min (min (min (min 9223372036854775807 (f a c).1) (f a d).1) (f b c).1) (f b d).1/\hi=max (max (max (max (-9223372036854775808) (f a c).1) (f a d).1) (f b c).1) (f b d).1:=by
 have e0:cv f a b c d 0=f a c:=rfl
 have e1:cv f a b c d 1=f a d:=rfl
 have e2:cv f a b c d 2=f b c:=rfl
 have e3:cv f a b c d 3=f b d:=rfl
 unfold eU at h
 rw[e0,e1,e2,e3] at h
 by_cases h0:(f a c).2=0
 ·rw[if_neg (by simp[h0])] at h
  by_cases h1:(f a d).2=0
  ·rw[if_neg (by simp[h1])] at h
   by_cases h2:(f b c).2=0
   ·rw[if_neg (by simp[h2])] at h
    by_cases h3:(f b d).2=0
    ·rw[if_neg (by simp[h3])] at h
     simp only[Prod.mk.injEq,and_true] at h
     refine⟨h0,h1,h2,h3,?_,?_⟩
     ·rw[<-h.1];simp only[cLo,e0,e1,e2,e3]
     ·rw[<-h.2];simp only[cHi,e0,e1,e2,e3]
    ·rw[if_pos h3] at h;simp only[Prod.mk.injEq] at h;exact absurd h.2 h3
   ·rw[if_pos h2] at h;simp only[Prod.mk.injEq] at h;exact absurd h.2 h2
  ·rw[if_pos h1] at h;simp only[Prod.mk.injEq] at h;exact absurd h.2 h1
 ·rw[if_pos h0] at h;simp only[Prod.mk.injEq] at h;exact absurd h.2 h0
structure Mid (g:Int->Int->Int)(a b c d:Int):Prop where
 fst:∀ x y,a<=x->x<=b->c<=y->y<=d->bet (g a y) (g x y) (g b y)
 snd:∀ x y,a<=x->x<=b->c<=y->y<=d->bet (g x c) (g x y) (g x d)
theorem Mid.hull {g:Int->Int->Int}{a b c d:Int}(h:Mid g a b c d)(hab:a<=b)(hcd:c<=d)(h1:a<=x)(h2:x<=b)(h3:c<=y)(h4:y<=d) :
  min (min (min (g a c) (g a d)) (g b c)) (g b d)<=g x y/\g x y<=max (max (max (g a c) (g a d)) (g b c)) (g b d):=by
 have e1:=h.fst x y h1 h2 h3 h4
 have e2:=h.snd a y (iLr _) hab h3 h4
 have e3:=h.snd b y hab (iLr _) h3 h4
 unfold bet at e1 e2 e3
 omega
theorem aCm (a b c d:Int):Mid (fun x y=>x*y) a b c d:=by
 constructor
 ·intro x y h1 h2 h3 h4
  unfold bet
  rcases Int.le_total 0 y with hy|hy
  ·left
   exact⟨Int.mul_le_mul_of_nonneg_right h1 hy,Int.mul_le_mul_of_nonneg_right h2 hy⟩
  ·right
   exact⟨Int.mul_le_mul_of_nonpos_right h2 hy,Int.mul_le_mul_of_nonpos_right h1 hy⟩
 ·intro x y h1 h2 h3 h4
  unfold bet
  rcases Int.le_total 0 x with hx|hx
  ·left
   exact⟨Int.mul_le_mul_of_nonneg_left h3 hx,Int.mul_le_mul_of_nonneg_left h4 hx⟩
  ·right
   exact⟨Int.mul_le_mul_of_nonpos_left hx h4,Int.mul_le_mul_of_nonpos_left hx h3⟩
theorem iQ {m n:Nat}(h:m<=n):(2:Int) ^ m<=2 ^ n/\(1:Int)<=2 ^ m:=by
 have:=yK m n h
 omega
theorem aTf (a b c d:Int)(hc:0<=c):Mid (fun x y=>x*2 ^ y.toNat) a b c d:=by
 constructor
 ·intro x y h1 h2 h3 h4
  exact(aCm a b (2 ^ y.toNat) (2 ^ y.toNat)).fst x _ h1 h2 (iLr _) (iLr _)
 ·intro x y h1 h2 h3 h4
  exact(aCm x x (2 ^ c.toNat) (2 ^ d.toNat)).snd x _ (iLr _) (iLr _) (iQ (by omega)).1 (iQ (by omega)).1
theorem iD {p:Int}(hp:0 < p)(h:x<=y):x / p<=y / p:=Int.ediv_le_ediv hp h
theorem aTg (a b c d:Int)(hc:0<=c):Mid (fun x y=>x / 2 ^ y.toNat) a b c d:=by
 constructor
 ·intro x y h1 h2 h3 h4
  have hp:=(iQ (nLr y.toNat)).2
  exact .inl ⟨iD (by omega) h1,iD (by omega) h2⟩
 ·intro x y h1 h2 h3 h4
  have key:∀ m n:Nat,m<=n->(0<=x->x / 2 ^ n<=x / 2 ^ m)/\(x < 0->x / 2 ^ m<=x / 2 ^ n):=by
   intro m n hmn
   obtain⟨q,rfl⟩:∃ q,n=m+q:=⟨n-m,by omega⟩
   have hm:=(iQ (nLr m)).2
   have hq:=(iQ (nLr q)).2
   have e:x / 2 ^ (m+q)=x / 2 ^ m / 2 ^ q:=by rw[Int.pow_add,Int.ediv_ediv_of_nonneg (by omega)]
   rw[e]
   generalize (2:Int) ^ q=Q at *
   constructor
   ·intro hx
    have:0<=x / 2 ^ m:=Int.ediv_nonneg hx (by omega)
    exact Int.ediv_le_self _ this
   ·intro hx
    have hneg:x / 2 ^ m < 0:=Int.ediv_neg_of_neg_of_pos hx (by omega)
    generalize x / 2 ^ m=z at *
    have h1:z*Q<=z*1:=Int.mul_le_mul_of_nonpos_left (by omega) hq
    exact(Int.le_ediv_iff_mul_le (by omega)).2 (by omega)
  unfold bet
  rcases Int.lt_or_le x 0 with hx|hx
  ·exact .inl ⟨(key c.toNat y.toNat (by omega)).2 hx,(key y.toNat d.toNat (by omega)).2 hx⟩
  ·exact .inr ⟨(key y.toNat d.toNat (by omega)).1 hx,(key c.toNat y.toNat (by omega)).1 hx⟩
theorem aBe (x y:Int):x.tdiv (-y)=-(x.tdiv y):=Int.tdiv_neg x y
theorem aAz (x y:Int):(-x).tdiv y=-(x.tdiv y):=Int.neg_tdiv x y
theorem iV {x':Int}(hy:0 < y)(h:x<=x'):x.tdiv y<=x'.tdiv y:=by
 rcases Int.lt_or_le x 0 with hx|hx
 ·rcases Int.lt_or_le x' 0 with hx'|hx'
  ·have e1:x.tdiv y=-((-x) / y):=by rw[<-iTe (by omega),Int.neg_tdiv,Int.neg_neg]
   have e2:x'.tdiv y=-((-x') / y):=by rw[<-iTe (by omega),Int.neg_tdiv,Int.neg_neg]
   have:=iD hy (show -x'<=-x by omega)
   omega
  ·have e1:x.tdiv y=-((-x) / y):=by rw[<-iTe (by omega),Int.neg_tdiv,Int.neg_neg]
   have e2:x'.tdiv y=x' / y:=iTe hx'
   have h1:0<=(-x) / y:=Int.ediv_nonneg (by omega) (by omega)
   have h2:0<=x' / y:=Int.ediv_nonneg hx' (by omega)
   omega
 ·rw[iTe hx,iTe (by omega)]
  exact iD hy h
theorem bW {y':Int}(hx:0<=x)(hy:0 < y)(h:y<=y'):x.tdiv y'<=x.tdiv y:=by
 rw[iTe hx,iTe hx]
 refine(Int.le_ediv_iff_mul_le hy).2 ?_
 have h0:0<=x / y':=Int.ediv_nonneg hx (by omega)
 have h1:x / y' * y<=x / y' * y':=Int.mul_le_mul_of_nonneg_left h h0
 have h2:=Int.ediv_mul_le x (show y'≠0 by omega)
 omega
theorem aPq (a b c d:Int)(h0:¬(c<=0/\0<=d)):Mid (fun x y=>x.tdiv y) a b c d:=by
 constructor
 ·intro x y h1 h2 h3 h4
  unfold bet
  rcases(show 0 < y\/y < 0 by omega) with hy|hy
  ·exact .inl ⟨iV hy h1,iV hy h2⟩
  ·right
   have e:=fun z:Int=>aBe z (-y)
   simp only[Int.neg_neg] at e
   have h5:=iV (show 0 < -y by omega) h1
   have h6:=iV (show 0 < -y by omega) h2
   show b.tdiv y<=x.tdiv y/\x.tdiv y<=a.tdiv y
   rw[e a,e x,e b]
   omega
 ·intro x y h1 h2 h3 h4
  show bet (x.tdiv c) (x.tdiv y) (x.tdiv d)
  unfold bet
  rcases(show 0 < c\/d < 0 by omega) with hc|hd
  ·rcases Int.le_total 0 x with hx|hx
   ·exact .inr ⟨bW hx (by omega) h4,bW hx (by omega) h3⟩
   ·left
    have e:=fun z:Int=>aAz (-x) z
    simp only[Int.neg_neg] at e
    have h5:=bW (show 0<=-x by omega) (show 0 < c by omega) h3
    have h6:=bW (show 0<=-x by omega) (show 0 < y by omega) h4
    rw[e c,e y,e d]
    omega
  ·have ed:=fun z w:Int=>aBe z (-w)
   simp only[Int.neg_neg] at ed
   rw[ed x c,ed x y,ed x d]
   rcases Int.le_total 0 x with hx|hx
   ·have h5:=bW hx (show 0 < -y by omega) (show -y<=-c by omega)
    have h6:=bW hx (show 0 < -d by omega) (show -d<=-y by omega)
    omega
   ·have e:=fun z:Int=>aAz (-x) z
    simp only[Int.neg_neg] at e
    have h5:=bW (show 0<=-x by omega) (show 0 < -y by omega) (show -y<=-c by omega)
    have h6:=bW (show 0<=-x by omega) (show 0 < -d by omega) (show -d<=-y by omega)
    rw[e (-c),e (-y),e (-d)]
    omega
theorem jQ {p q:Bool}(h:p=true->q=true):tr p<=tr q:=by
 cases p <;> cases q <;> simp[tr] at *
theorem aQy (op:Int)(ho:op=18\/op=19\/op=20\/op=21)(k s a b c d:Int):Mid (fun x y=>(ex op k s x y 0).1) a b c d:=by
 rcases ho with rfl|rfl|rfl|rfl
 ·constructor
  ·intro x y h1 h2 h3 h4
   exact .inr ⟨jQ (by simp;omega),jQ (by simp;omega)⟩
  ·intro x y h1 h2 h3 h4
   exact .inl ⟨jQ (by simp;omega),jQ (by simp;omega)⟩
 ·constructor
  ·intro x y h1 h2 h3 h4
   exact .inr ⟨jQ (by simp;omega),jQ (by simp;omega)⟩
  ·intro x y h1 h2 h3 h4
   exact .inl ⟨jQ (by simp;omega),jQ (by simp;omega)⟩
 ·constructor
  ·intro x y h1 h2 h3 h4
   exact .inl ⟨jQ (by simp;omega),jQ (by simp;omega)⟩
  ·intro x y h1 h2 h3 h4
   exact .inr ⟨jQ (by simp;omega),jQ (by simp;omega)⟩
 ·constructor
  ·intro x y h1 h2 h3 h4
   exact .inl ⟨jQ (by simp;omega),jQ (by simp;omega)⟩
  ·intro x y h1 h2 h3 h4
   exact .inr ⟨jQ (by simp;omega),jQ (by simp;omega)⟩
end Go.Proofs.Spn
namespace Go.Proofs.Spn
open Go.RowKit Go.IntWalk
variable {a b hi lo:Int}
theorem trd (p:Prop)[Decidable p]:(p/\tr (decide p)=1)\/(¬p/\tr (decide p)=0):=by
 by_cases h:p <;> simp[tr,h]
theorem trb (x y:Int):(x=y/\tr (x==y)=1/\tr (x != y)=0)\/(x≠y/\tr (x==y)=0/\tr (x != y)=1):=by
 by_cases h:x=y <;> simp[tr,h]
theorem tV {f:List Int->Int × Int}{L:List (Int × Int)}(h:kF f L=((lo,hi),0)) :
  (f (rA L)).2=0/\(f (uN L)).2=0/\lo=(f (rA L)).1/\hi=(f (uN L)).1:=by
 unfold kF at h
 by_cases h0:(f (rA L)).2=0
 ·rw[if_neg (by simp[h0])] at h
  simp only[Prod.mk.injEq] at h
  exact⟨h0,h.2,h.1.1.symm,h.1.2.symm⟩
 ·rw[if_pos h0] at h
  simp only[Prod.mk.injEq] at h
  exact absurd h.2 h0
theorem aMm {Z:(Int × Int) × Int}(h:zQ Z=((lo,hi),0)):Z=((lo,hi),0)/\mM lo hi=true:=by
 obtain⟨⟨x,y⟩,e⟩:=Z
 unfold zQ at h
 simp only at h
 by_cases he:e=0
 ·rw[if_neg (by simp[he])] at h
  by_cases hw:mM x y=true
  ·rw[if_pos hw] at h
   simp only[Prod.mk.injEq] at h
   obtain⟨⟨rfl,rfl⟩,-⟩:=h
   exact⟨by rw[he],hw⟩
  ·rw[if_neg hw] at h
   simp at h
 ·rw[if_pos he] at h
  simp only[Prod.mk.injEq] at h
  exact absurd h.2 he
theorem aIg {op k s:Int}{L:List (Int × Int)}(h:ofZ op k s L=((lo,hi),0)):jA op k s L=true/\bR op k s L=((lo,hi),0)/\mM lo hi=true:=by
 unfold ofZ at h
 by_cases hm:jA op k s L=true
 ·rw[if_pos hm] at h
  have:=aMm h
  exact⟨hm,this.1,this.2⟩
 ·rw[if_neg hm] at h
  simp at h
theorem aJf (ha:0<=a/\a<=2147483647)(hb:-2147483648<=b/\b<=2147483647):0<=bw .and a b/\bw .and a b<=a:=by
 have h:=aHm (fun a b=>0<=a->0<=bw .and a b/\bw .and a b<=a) (fun _=>by decide) (fun _=>by decide) (fun _=>by omega) (fun _=>by omega) (by
  intro a b ha hb h e
  have h1:=h (by omega)
  show 0<=bw .and a b/\bw .and a b<=a
  rw[pG .and a b ha hb]
  simp only[mQ.dig]
  rcases lD a with f|f <;> rcases lD b with g|g <;> rw[f,g] <;> omega) (show -2147483648<=a/\a<=2147483647 by omega) hb
 exact h ha.1
theorem aUj (ha:0<=a/\a<=2147483647)(hb:0<=b/\b<=2147483647):a<=bw .or a b/\b<=bw .or a b/\0<=bw .xor a b:=by
 have h:=aHm (fun a b=>0<=a->0<=b->a<=bw .or a b/\b<=bw .or a b/\0<=bw .xor a b) (fun _ _=>by decide) (fun _ _=>by omega) (fun _=>by omega) (fun _=>by omega) (by
  intro a b ha hb h e f
  have h1:=h (by omega) (by omega)
  show a<=bw .or a b/\b<=bw .or a b/\0<=bw .xor a b
  rw[pG .or a b ha hb,pG .xor a b ha hb]
  simp only[mQ.dig]
  rcases lD a with f|f <;> rcases lD b with g|g <;> rw[f,g] <;> omega) (show -2147483648<=a/\a<=2147483647 by omega) (show -2147483648<=b/\b<=2147483647 by omega)
 exact h ha.1 hb.1
theorem aQn {c d:Int}(ha:fA a)(hb:fA b)(hc:fA c)(hd:fA d) :
  (-nY a b c d<=a/\a < nY a b c d)/\(-nY a b c d<=b/\b < nY a b c d)/\(-nY a b c d<=c/\c < nY a b c d)/\(-nY a b c d<=d/\d < nY a b c d):=by
 have key:∀ x,fA x->wdN x<=dK a b c d->-nY a b c d<=x/\x < nY a b c d:=by
  intro x hx hn
  have h1:=(fZ hx).2
  have h2:=(iQ hn).1
  have e:((2 ^ wdN x:Nat):Int)=(2:Int) ^ wdN x:=by simp
  unfold nY
  rw[e] at h1
  omega
 refine⟨key a ha ?_,key b hb ?_,key c hc ?_,key d hd ?_⟩ <;> (unfold dK;omega)
theorem aLy (o:mQ){c d x y:Int}(ha:fA a)(hb:fA b)(hc:fA c)(hd:fA d)(h1:a<=x)(h2:x<=b)(h3:c<=y)(h4:y<=d) :
  -nY a b c d<=bw o x y/\bw o x y<=nY a b c d-1:=by
 have h:=aQn ha hb hc hd
 have hn:=(aFw ha hb hc hd).1
 have e:((2 ^ dK a b c d:Nat):Int)=nY a b c d:=by unfold nY;simp
 have hr:=aLz o (dK a b c d) (by omega) x y (by rw[e];omega) (by rw[e];omega)
 rw[e] at hr
 omega
theorem aG6 (x y:Int)(hy:y≠0):(0<=x->0<=x.tmod y/\x.tmod y<=x)/\(x<=0->x<=x.tmod y/\x.tmod y<=0)/\(0 < y->-y < x.tmod y/\x.tmod y < y)/\(y < 0->y < x.tmod y/\x.tmod y < -y):=by
 have h1:=Int.natAbs_tmod x y
 have h2:x.natAbs % y.natAbs < y.natAbs:=Nat.mod_lt _ (by omega)
 have h3:=Nat.mod_le x.natAbs y.natAbs
 have h4:0<=x->0<=x.tmod y:=fun h=>Int.tmod_nonneg y h
 have h5:x<=0->x.tmod y<=0:=fun h=>by
  have e:(-x).tmod y=-(x.tmod y):=Int.neg_tmod x y
  have:=Int.tmod_nonneg (a:=-x) y (by omega)
  omega
 omega
end Go.Proofs.Spn
namespace Go.Proofs.Spn
open Go.RowKit Go.IntWalk
variable {a b c d e f hi k lo op s x y:Int}
theorem sG (ho:ar op=2)(hco:cons op k s=true)(ha:fA a)(hb:fA b)(hc:fA c)(hd:fA d)
  (h:eU (fun u v=>bO op k s [u,v]) a b c d=((lo,hi),0)) (g:Int->Int->Int) (hg:∀ x y,a<=x->x<=b->c<=y->y<=d->(ex op k s x y 0).2=0->(ex op k s x y 0).1=g x y) (hm:Mid g a b c d) (hab:a<=b) (hcd:c<=d)
  {x y:Int} (h1:a<=x) (h2:x<=b) (h3:c<=y) (h4:y<=d) (he:(ex op k s x y 0).2=0):lo<=(ex op k s x y 0).1/\(ex op k s x y 0).1<=hi:=by
 obtain⟨e1,e2,e3,e4,rfl,rfl⟩:=aAj h
 simp only[aFo ho hco ha hc,aFo ho hco ha hd,aFo ho hco hb hc,aFo ho hco hb hd] at *
 obtain⟨p1,w1,q1⟩:=jL e1
 obtain⟨p2,w2,q2⟩:=jL e2
 obtain⟨p3,w3,q3⟩:=jL e3
 obtain⟨p4,w4,q4⟩:=jL e4
 rw[q1,q2,q3,q4]
 have k1:=hg a c (iLr _) hab (iLr _) hcd p1
 have k2:=hg a d (iLr _) hab hcd (iLr _) p2
 have k3:=hg b c hab (iLr _) (iLr _) hcd p3
 have k4:=hg b d hab (iLr _) hcd (iLr _) p4
 have k5:=hg x y h1 h2 h3 h4 he
 have hh:=hm.hull hab hcd h1 h2 h3 h4
 rw[cO] at w1 w2 w3 w4
 rw[k1] at w1;rw[k2] at w2;rw[k3] at w3;rw[k4] at w4
 rw[k1,k2,k3,k4,k5]
 omega
theorem xB (hop:op=13\/op=14)(ha:fA a)(hb:fA b)(hc:fA c)(hd:fA d)
  (h:eU (fun u v=>bO op k s [u,v]) a b c d=((lo,hi),0)):0<=c/\d<=31:=by
 obtain⟨e1,e2,-,-,-,-⟩:=aAj h
 have ho:ar op=2:=by rcases hop with rfl|rfl <;> rfl
 have hco:cons op k s=true:=by rcases hop with rfl|rfl <;> rfl
 simp only[aFo ho hco ha hc,aFo ho hco ha hd] at e1 e2
 have p1:=(jL e1).1
 have p2:=(jL e2).1
 have key:∀ y,(ex op k s a y 0).2=0->gD y 0 31=true:=by
  intro y hy
  cases hi:gD y 0 31
  ·rcases hop with rfl|rfl <;> simp[ex,hi] at hy
  ·rfl
 have r1:=aO.1 (key c p1)
 have r2:=aO.1 (key d p2)
 omega
theorem aAs (hop:op=10\/op=13\/op=14\/op=18\/op=19\/op=20\/op=21)(hw:mM a b=true)(hw':mM c d=true)
  (h:eU (fun u v=>bO op k s [u,v]) a b c d=((lo,hi),0)) (h1:a<=x) (h2:x<=b) (h3:c<=y) (h4:y<=d) :
  (ex op k s x y 0).2=0/\lo<=(ex op k s x y 0).1/\(ex op k s x y 0).1<=hi:=by
 obtain⟨hab,A1,A2,B1,B2⟩:=bE.1 hw
 obtain⟨hcd,C1,C2,D1,D2⟩:=bE.1 hw'
 have ho:ar op=2:=by rcases hop with rfl|rfl|rfl|rfl|rfl|rfl|rfl <;> rfl
 have hco:cons op k s=true:=by rcases hop with rfl|rfl|rfl|rfl|rfl|rfl|rfl <;> rfl
 rcases hop with rfl|rfl|rfl|hop
 ·exact⟨rfl,sG ho hco ⟨A1,A2⟩ ⟨B1,B2⟩ ⟨C1,C2⟩ ⟨D1,D2⟩ h (fun x y=>x*y) (fun _ _ _ _ _ _ _=>rfl) (aCm _ _ _ _) hab hcd h1 h2 h3 h4 rfl⟩
 ·obtain⟨hc0,hd31⟩:=xB (.inl rfl) ⟨A1,A2⟩ ⟨B1,B2⟩ ⟨C1,C2⟩ ⟨D1,D2⟩ h
  have hi:∀ y,c<=y->y<=d->gD y 0 31=true:=fun y p q=>aM2 (by omega) (by omega)
  have he:∀ x y,c<=y->y<=d->ex 13 k s x y 0=(x*2 ^ y.toNat,0):=fun x y p q=>by simp[ex,hi y p q]
  have e0:(ex 13 k s x y 0).2=0:=by rw[he x y h3 h4]
  exact⟨e0,sG ho hco ⟨A1,A2⟩ ⟨B1,B2⟩ ⟨C1,C2⟩ ⟨D1,D2⟩ h (fun x y=>x*2 ^ y.toNat) (fun x y _ _ p q _=>by rw[he x y p q]) (aTf _ _ _ _ hc0) hab hcd h1 h2 h3 h4 e0⟩
 ·obtain⟨hc0,hd31⟩:=xB (.inr rfl) ⟨A1,A2⟩ ⟨B1,B2⟩ ⟨C1,C2⟩ ⟨D1,D2⟩ h
  have hi:∀ y,c<=y->y<=d->gD y 0 31=true:=fun y p q=>aM2 (by omega) (by omega)
  have he:∀ x y,c<=y->y<=d->ex 14 k s x y 0=(x / 2 ^ y.toNat,0):=fun x y p q=>by simp[ex,hi y p q]
  have e0:(ex 14 k s x y 0).2=0:=by rw[he x y h3 h4]
  exact⟨e0,sG ho hco ⟨A1,A2⟩ ⟨B1,B2⟩ ⟨C1,C2⟩ ⟨D1,D2⟩ h (fun x y=>x / 2 ^ y.toNat) (fun x y _ _ p q _=>by rw[he x y p q]) (aTg _ _ _ _ hc0) hab hcd h1 h2 h3 h4 e0⟩
 ·have e0:(ex op k s x y 0).2=0:=by rcases hop with rfl|rfl|rfl|rfl <;> rfl
  exact⟨e0,sG ho hco ⟨A1,A2⟩ ⟨B1,B2⟩ ⟨C1,C2⟩ ⟨D1,D2⟩ h (fun x y=>(ex op k s x y 0).1) (fun _ _ _ _ _ _ _=>rfl) (aQy op hop k s a b c d) hab hcd h1 h2 h3 h4 e0⟩
theorem aM0 (hop:op=11\/op=12)(hw:mM a b=true)(hw':mM c d=true)
  (h:sH (fun u v=>bO op k s [u,v]) op a b c d=((lo,hi),0)) (h1:a<=x) (h2:x<=b) (h3:c<=y) (h4:y<=d) :
  (ex op k s x y 0).2=0/\lo<=(ex op k s x y 0).1/\(ex op k s x y 0).1<=hi:=by
 obtain⟨hab,A1,A2,B1,B2⟩:=bE.1 hw
 obtain⟨hcd,C1,C2,D1,D2⟩:=bE.1 hw'
 unfold sH at h
 cases h0:hasB c d 0
 ·rw[h0] at h
  simp only[Bool.false_eq_true,if_false] at h
  have hz:¬(c<=0/\0<=d):=fun hh=>by rw[aD9.2 hh] at h0;cases h0
  have hy:y≠0:=by omega
  rcases hop with rfl|rfl
  ·simp only[if_true] at h
   have he:∀ x y,c<=y->y<=d->ex 11 k s x y 0=(x.tdiv y,0):=fun x y p q=>by simp[ex,show y≠0 by omega]
   have e0:(ex 11 k s x y 0).2=0:=by rw[he x y h3 h4]
   exact⟨e0,sG rfl rfl ⟨A1,A2⟩ ⟨B1,B2⟩ ⟨C1,C2⟩ ⟨D1,D2⟩ h (fun x y=>x.tdiv y) (fun x y _ _ p q _=>by rw[he x y p q]) (aPq _ _ _ _ hz) hab hcd h1 h2 h3 h4 e0⟩
  ·rw[if_neg (by decide)] at h
   have he:ex 12 k s x y 0=(x.tmod y,0):=by simp[ex,hy]
   rw[he]
   have hf:=aG6 x y hy
   unfold kY at h
   simp only[Prod.mk.injEq,and_true] at h
   obtain⟨rfl,rfl⟩:=h
   refine⟨rfl,?_,?_⟩
   ·show (if a < 0 then _ else _)<=x.tmod y
    split <;> omega
   ·show x.tmod y<=(if 0 < b then _ else _)
    split <;> omega
 ·rw[h0] at h
  simp at h
theorem aNw {s:Int}(hk:1<=k)(h1:a<=x)(h2:x<=b)(ha:max a (-a)*k<=4611686018427387904)(hb:max b (-b)*k<=4611686018427387904):max x (-x)*k<=4611686018427387904:=by
 rcases(show max x (-x)<=max a (-a)\/max x (-x)<=max b (-b) by omega) with h|h
 ·exact Int.le_trans (Int.mul_le_mul_of_nonneg_right h (by omega)) ha
 ·exact Int.le_trans (Int.mul_le_mul_of_nonneg_right h (by omega)) hb
theorem aYa (h:(ex 33 k s a 0 0).2=0):max a (-a)*k<=4611686018427387904:=by
 have e:ex 33 k s a 0 0=if 4611686018427387904 < max a (-a)*k then(0,13) else(a*k / 2 ^ s.toNat,0):=rfl
 rw[e] at h
 split at h
 ·simp at h
 ·omega
theorem aMk (h:max a (-a)*k<=4611686018427387904):ex 33 k s a 0 0=(a*k / 2 ^ s.toNat,0):=by
 have e:ex 33 k s a 0 0=if 4611686018427387904 < max a (-a)*k then(0,13) else(a*k / 2 ^ s.toNat,0):=rfl
 rw[e,if_neg (by omega)]
theorem mX (hop:op=7\/op=29\/op=30\/op=33)(hco:cons op k s=true)(hw:mM a b=true)
  (h:kF (fun xs=>bO op k s xs) [(a,b)]=((lo,hi),0)) (h1:a<=x) (h2:x<=b) :
  (ex op k s x 0 0).2=0/\lo<=(ex op k s x 0 0).1/\(ex op k s x 0 0).1<=hi:=by
 obtain⟨hab,A1,A2,B1,B2⟩:=bE.1 hw
 have ho:ar op=1:=by rcases hop with rfl|rfl|rfl|rfl <;> rfl
 obtain⟨e1,e2,rfl,rfl⟩:=tV h
 have f1:rA [(a,b)]=[a]:=rfl
 have f2:uN [(a,b)]=[b]:=rfl
 simp only[f1,f2,aZr ho hco ⟨A1,A2⟩,aZr ho hco ⟨B1,B2⟩] at *
 obtain⟨p1,w1,q1⟩:=jL e1
 obtain⟨p2,w2,q2⟩:=jL e2
 rw[q1,q2]
 rcases hop with rfl|rfl|rfl|rfl
 ·refine⟨rfl,?_⟩
  show tr (decide (0 < a))-tr (decide (a < 0))<=tr (decide (0 < x))-tr (decide (x < 0))/\tr (decide (0 < x))-tr (decide (x < 0))<=tr (decide (0 < b))-tr (decide (b < 0))
  have t1:=trd (0 < a)
  have t2:=trd (a < 0)
  have t3:=trd (0 < x)
  have t4:=trd (x < 0)
  have t5:=trd (0 < b)
  have t6:=trd (b < 0)
  omega
 ·refine⟨rfl,?_⟩
  have hp:=(iQ (nLr k.toNat)).2
  exact⟨Int.mul_le_mul_of_nonneg_right h1 (by omega),Int.mul_le_mul_of_nonneg_right h2 (by omega)⟩
 ·refine⟨rfl,?_⟩
  have hp:=(iQ (nLr k.toNat)).2
  exact⟨iD (by omega) h1,iD (by omega) h2⟩
 ·have hk:(gD k 1 4611686018427387904&&gD s 0 62)=true:=hco
  rw[bAt,aO,aO] at hk
  have ma:=aYa p1
  have mb:=aYa p2
  have mx:=aNw (s:=s) hk.1.1 h1 h2 ma mb
  rw[aMk ma,aMk mb,aMk mx]
  have hp:=(iQ (nLr s.toNat)).2
  exact⟨rfl,iD (by omega) (Int.mul_le_mul_of_nonneg_right h1 (by omega)),iD (by omega) (Int.mul_le_mul_of_nonneg_right h2 (by omega))⟩
theorem aGf (hop:op=24\/op=25)(hw:mM a b=true)(hw':mM c d=true)
  (h:kF (fun xs=>bO op k s xs) [(a,b),(c,d)]=((lo,hi),0)) (h1:a<=x) (h2:x<=b) (h3:c<=y) (h4:y<=d) :
  (ex op k s x y 0).2=0/\lo<=(ex op k s x y 0).1/\(ex op k s x y 0).1<=hi:=by
 obtain⟨hab,A1,A2,B1,B2⟩:=bE.1 hw
 obtain⟨hcd,C1,C2,D1,D2⟩:=bE.1 hw'
 have ho:ar op=2:=by rcases hop with rfl|rfl <;> rfl
 have hco:cons op k s=true:=by rcases hop with rfl|rfl <;> rfl
 obtain⟨e1,e2,rfl,rfl⟩:=tV h
 have f1:rA [(a,b),(c,d)]=[a,c]:=rfl
 have f2:uN [(a,b),(c,d)]=[b,d]:=rfl
 simp only[f1,f2,aFo ho hco ⟨A1,A2⟩ ⟨C1,C2⟩,aFo ho hco ⟨B1,B2⟩ ⟨D1,D2⟩] at *
 obtain⟨p1,w1,q1⟩:=jL e1
 obtain⟨p2,w2,q2⟩:=jL e2
 rw[q1,q2]
 rcases hop with rfl|rfl
 ·refine⟨rfl,?_⟩
  show min a c<=min x y/\min x y<=min b d
  omega
 ·refine⟨rfl,?_⟩
  show max a c<=max x y/\max x y<=max b d
  omega
theorem xR {z:Int}(hop:op=26\/op=27)(hw:mM a b=true)(hw':mM c d=true)(hw'':mM e f=true)
  (h:kF (fun xs=>bO op k s xs) [(a,b),(c,d),(e,f)]=((lo,hi),0)) (h1:a<=x) (h2:x<=b) (h3:c<=y) (h4:y<=d) (h5:e<=z) (h6:z<=f) :
  (ex op k s x y z).2=0/\lo<=(ex op k s x y z).1/\(ex op k s x y z).1<=hi:=by
 obtain⟨hab,A1,A2,B1,B2⟩:=bE.1 hw
 obtain⟨hcd,C1,C2,D1,D2⟩:=bE.1 hw'
 obtain⟨hef,E1,E2,F1,F2⟩:=bE.1 hw''
 have ho:ar op=3:=by rcases hop with rfl|rfl <;> rfl
 have hco:cons op k s=true:=by rcases hop with rfl|rfl <;> rfl
 obtain⟨e1,e2,rfl,rfl⟩:=tV h
 have f1:rA [(a,b),(c,d),(e,f)]=[a,c,e]:=rfl
 have f2:uN [(a,b),(c,d),(e,f)]=[b,d,f]:=rfl
 simp only[f1,f2,aZs ho hco ⟨A1,A2⟩ ⟨C1,C2⟩ ⟨E1,E2⟩,aZs ho hco ⟨B1,B2⟩ ⟨D1,D2⟩ ⟨F1,F2⟩] at *
 obtain⟨p1,w1,q1⟩:=jL e1
 obtain⟨p2,w2,q2⟩:=jL e2
 rw[q1,q2]
 rcases hop with rfl|rfl
 ·refine⟨rfl,?_⟩
  show min e (max a c)<=min z (max x y)/\min z (max x y)<=min f (max b d)
  omega
 ·refine⟨rfl,?_⟩
  show max (min a c) (min (max a c) e)<=max (min x y) (min (max x y) z)/\max (min x y) (min (max x y) z)<=max (min b d) (min (max b d) f)
  omega
theorem aAr (hw:mM a b=true)(hw':mM c d=true)(h1:a<=x)(h2:x<=b)(h3:c<=y)(h4:y<=d) :
  (fC a b c d).1<=bw .and x y/\bw .and x y<=(fC a b c d).2:=by
 obtain⟨hab,A1,A2,B1,B2⟩:=bE.1 hw
 obtain⟨hcd,C1,C2,D1,D2⟩:=bE.1 hw'
 unfold fC
 by_cases p:0<=a
 ·have q1:=aJf (a:=x) (b:=y) (by omega) (by omega)
  by_cases q:0<=c
  ·have q2:=aDt (a:=x) (b:=y) (by omega) (by omega)
   rw[if_pos ⟨p,q⟩]
   show 0<=_/\_<=min b d
   omega
  ·rw[if_neg (by omega),if_pos p]
   show 0<=_/\_<=b
   omega
 ·by_cases q:0<=c
  ·have q2:=aDt (a:=x) (b:=y) (by omega) (by omega)
   rw[if_neg (by omega),if_neg p,if_pos q]
   show 0<=_/\_<=d
   omega
  ·rw[if_neg (by omega),if_neg p,if_neg q]
   exact aLy .and ⟨A1,A2⟩ ⟨B1,B2⟩ ⟨C1,C2⟩ ⟨D1,D2⟩ h1 h2 h3 h4
theorem aS7 (h:op=10\/op=13\/op=14\/op=18\/op=19\/op=20\/op=21):bR op k s [(a,b),(c,d)]=eU (fun u v=>bO op k s [u,v]) a b c d:=by
 unfold bR;rw[if_neg (by omega),if_neg (by omega),if_neg (by omega),if_pos h];rfl
theorem aW9 (h:op=11\/op=12):bR op k s [(a,b),(c,d)]=sH (fun u v=>bO op k s [u,v]) op a b c d:=by
 unfold bR;rw[if_neg (by omega),if_neg (by omega),if_pos h];rfl
theorem nE {L:List (Int × Int)}(h:op=7\/op=24\/op=25\/op=26\/op=27\/op=29\/op=30\/op=33):bR op k s L=kF (fun xs=>bO op k s xs) L:=by
 unfold bR;rw[if_neg (by omega),if_neg (by omega),if_neg (by omega),if_neg (by omega),if_pos h]
theorem aO2 (h:op=5\/op=6):bR op k s [(a,b)]=(mE op a b,0):=by
 unfold bR;rw[if_neg (by omega),if_neg (by omega),if_neg (by omega),if_neg (by omega),if_neg (by omega)];rfl
theorem aXa (h:op=8\/op=9\/op=15\/op=16\/op=17\/op=22\/op=23):bR op k s [(a,b),(c,d)]=(qK op a b c d,0):=by
 unfold bR;rw[if_neg (by omega),if_neg (by omega),if_neg (by omega),if_neg (by omega),if_neg (by omega)];rfl
theorem aO3 (h:op=28):bR op k s [(a,b),(c,d),(e,f)]=(rH a b c d e f,0):=by
 unfold bR;rw[if_neg (by omega),if_neg (by omega),if_neg (by omega),if_neg (by omega),if_neg (by omega)];rfl
theorem aS8 (h:op=32):bR op k s [(a,b)]=eU (fun u v=>bO 10 0 0 [u,v]) a b k k:=by
 unfold bR;rw[if_pos h];rfl
theorem aS5 (h:op=31):bR op k s [(a,b)]=(fC a b k k,0):=by
 unfold bR;rw[if_neg (by omega),if_pos h];rfl
theorem aP1 (ho:ar op=2):(op=11\/op=12)\/(op=10\/op=13\/op=14\/op=18\/op=19\/op=20\/op=21)\/(op=24\/op=25)\/(op=8\/op=9\/op=15\/op=16\/op=17\/op=22\/op=23):=by
 have hr:=aO.1 (qD ho)
 omega
theorem aVh (ho:ar op=1)(hco:cons op k s=true)(hw:mM a b=true)(h:bR op k s [(a,b)]=((lo,hi),0))(h1:a<=x)(h2:x<=b) :
  (ex op k s x 0 0).2=0/\lo<=(ex op k s x 0 0).1/\(ex op k s x 0 0).1<=hi:=by
 obtain⟨hab,A1,A2,B1,B2⟩:=bE.1 hw
 rcases uF ho with rfl|rfl|rfl|rfl|rfl|rfl|rfl|rfl
 ·have h':(mE 5 a b,(0:Int))=((lo,hi),0):=by rw[<-aO2 (.inl rfl)];exact h
  simp only[mE,if_true,Prod.mk.injEq,and_true] at h'
  obtain⟨rfl,rfl⟩:=h'
  exact⟨rfl,show -b<=-x by omega,show -x<=-a by omega⟩
 ·have h':(mE 6 a b,(0:Int))=((lo,hi),0):=by rw[<-aO2 (.inr rfl)];exact h
  refine⟨rfl,?_⟩
  show lo<=max x (-x)/\max x (-x)<=hi
  simp only[mE,show (6:Int)≠5 by decide,if_false,Prod.mk.injEq,and_true] at h'
  split at h'
  ·simp only[Prod.mk.injEq] at h';omega
  ·split at h' <;> simp only[Prod.mk.injEq] at h' <;> omega
 ·rw[nE (by simp)] at h
  exact mX (.inl rfl) hco hw h h1 h2
 ·rw[nE (by simp)] at h
  exact mX (.inr (.inl rfl)) hco hw h h1 h2
 ·rw[nE (by simp)] at h
  exact mX (.inr (.inr (.inl rfl))) hco hw h h1 h2
 ·have hk:gD k 0 2147483647=true:=hco
  have hk':=aO.1 hk
  have h':(fC a b k k,(0:Int))=((lo,hi),0):=by rw[<-aS5 rfl];exact h
  have e:fC a b k k=(lo,hi):=by simpa using h'
  have hh:=aAr hw (show mM k k=true from bE.2 (by omega)) h1 h2 (iLr k) (iLr k)
  rw[e] at hh
  exact⟨rfl,hh⟩
 ·have hk:wd k=true:=hco
  have hk':=cO.1 hk
  have h':eU (fun u v=>bO 10 0 0 [u,v]) a b k k=((lo,hi),0):=by rw[<-aS8 (k:=k) (s:=s) rfl];exact h
  have hh:=aAs (op:=10) (k:=0) (s:=0) (.inl rfl) hw (show mM k k=true from bE.2 (by omega)) h' h1 h2 (iLr k) (iLr k)
  exact hh
 ·rw[nE (by simp)] at h
  exact mX (.inr (.inr (.inr rfl))) hco hw h h1 h2
theorem aVi (ho:ar op=2)(hw:mM a b=true)(hw':mM c d=true)(h:bR op k s [(a,b),(c,d)]=((lo,hi),0))(h1:a<=x)(h2:x<=b)(h3:c<=y)(h4:y<=d) :
  (ex op k s x y 0).2=0/\lo<=(ex op k s x y 0).1/\(ex op k s x y 0).1<=hi:=by
 obtain⟨hab,A1,A2,B1,B2⟩:=bE.1 hw
 obtain⟨hcd,C1,C2,D1,D2⟩:=bE.1 hw'
 rcases aP1 ho with hop|hop|hop|hop
 ·rw[aW9 hop] at h
  exact aM0 hop hw hw' h h1 h2 h3 h4
 ·rw[aS7 hop] at h
  exact aAs hop hw hw' h h1 h2 h3 h4
 ·rw[nE (by omega)] at h
  exact aGf hop hw hw' h h1 h2 h3 h4
 rw[aXa hop] at h
 rcases hop with rfl|rfl|rfl|rfl|rfl|rfl|rfl
 ·have h':((a+c,b+d),(0:Int))=((lo,hi),0):=h
  simp only[Prod.mk.injEq,and_true] at h'
  exact⟨rfl,show lo<=x+y/\x+y<=hi by omega⟩
 ·have h':((a-d,b-c),(0:Int))=((lo,hi),0):=h
  simp only[Prod.mk.injEq,and_true] at h'
  exact⟨rfl,show lo<=x-y/\x-y<=hi by omega⟩
 ·have h':(fC a b c d,(0:Int))=((lo,hi),0):=h
  have e:fC a b c d=(lo,hi):=by simpa using h'
  have hh:=aAr hw hw' h1 h2 h3 h4
  rw[e] at hh
  exact⟨rfl,hh⟩
 ·have h':(nI 16 a b c d,(0:Int))=((lo,hi),0):=h
  have hin:=aLy .or ⟨A1,A2⟩ ⟨B1,B2⟩ ⟨C1,C2⟩ ⟨D1,D2⟩ h1 h2 h3 h4
  refine⟨rfl,?_⟩
  show lo<=bw .or x y/\bw .or x y<=hi
  unfold nI at h'
  by_cases p:a < 0\/c < 0
  ·rw[if_pos p] at h'
   simp only[Prod.mk.injEq,and_true] at h'
   omega
  ·rw[if_neg p,if_pos rfl] at h'
   simp only[Prod.mk.injEq,and_true] at h'
   have:=aUj (a:=x) (b:=y) (by omega) (by omega)
   omega
 ·have h':(nI 17 a b c d,(0:Int))=((lo,hi),0):=h
  have hin:=aLy .xor ⟨A1,A2⟩ ⟨B1,B2⟩ ⟨C1,C2⟩ ⟨D1,D2⟩ h1 h2 h3 h4
  refine⟨rfl,?_⟩
  show lo<=bw .xor x y/\bw .xor x y<=hi
  unfold nI at h'
  by_cases p:a < 0\/c < 0
  ·rw[if_pos p] at h'
   simp only[Prod.mk.injEq,and_true] at h'
   omega
  ·rw[if_neg p,if_neg (by decide)] at h'
   simp only[Prod.mk.injEq,and_true] at h'
   have:=aUj (a:=x) (b:=y) (by omega) (by omega)
   omega
 ·have h':(qO a b c d,(0:Int))=((lo,hi),0):=h
  refine⟨rfl,?_⟩
  show lo<=tr (x==y)/\tr (x==y)<=hi
  have t:=trb x y
  unfold qO at h'
  split at h'
  ·simp only[Prod.mk.injEq,and_true] at h';omega
  ·split at h' <;> simp only[Prod.mk.injEq,and_true] at h' <;> omega
 ·have h':((1-(qO a b c d).2,1-(qO a b c d).1),(0:Int))=((lo,hi),0):=h
  refine⟨rfl,?_⟩
  show lo<=tr (x != y)/\tr (x != y)<=hi
  have t:=trb x y
  unfold qO at h'
  split at h'
  ·simp only[Prod.mk.injEq,and_true] at h';omega
  ·split at h' <;> simp only[Prod.mk.injEq,and_true] at h' <;> omega
theorem aVj {z:Int}(ho:ar op=3)(hw:mM a b=true)(hw':mM c d=true)(hw'':mM e f=true)(h:bR op k s [(a,b),(c,d),(e,f)]=((lo,hi),0))
  (h1:a<=x) (h2:x<=b) (h3:c<=y) (h4:y<=d) (h5:e<=z) (h6:z<=f) :
  (ex op k s x y z).2=0/\lo<=(ex op k s x y z).1/\(ex op k s x y z).1<=hi:=by
 have hr:=aO.1 (lC ho)
 rcases(show op=26\/op=27\/op=28 by omega) with rfl|rfl|rfl
 ·rw[nE (by simp)] at h
  exact xR (.inl rfl) hw hw' hw'' h h1 h2 h3 h4 h5 h6
 ·rw[nE (by simp)] at h
  exact xR (.inr rfl) hw hw' hw'' h h1 h2 h3 h4 h5 h6
 ·have h':(rH a b c d e f,(0:Int))=((lo,hi),0):=by rw[<-aO3 rfl];exact h
  refine⟨rfl,?_⟩
  show lo<=(if x=0 then z else y)/\(if x=0 then z else y)<=hi
  unfold rH at h'
  cases h0:hasB a b 0
  ·rw[h0] at h'
   have hz:¬(a<=0/\0<=b):=fun hh=>by rw[aD9.2 hh] at h0;cases h0
   simp only[Bool.false_eq_true,if_false,Prod.mk.injEq,and_true] at h'
   rw[if_neg (by omega)]
   omega
  ·rw[h0] at h'
   simp only[if_true] at h'
   split at h'
   ·simp only[Prod.mk.injEq,and_true] at h'
    rw[if_pos (by omega)]
    omega
   ·simp only[Prod.mk.injEq,and_true] at h'
    split <;> omega
end Go.Proofs.Spn
namespace Go.Proofs.Spn
open Go.RowKit Go.IntWalk Go.Sort
def Ins:List Int->List (Int × Int)->Prop
 | [],[]=>True
 | x::xs,p::L=>(p.1<=x/\x<=p.2)/\Ins xs L
 | _,_=>False
theorem aPi {op k s:Int}{L:List (Int × Int)}(h:jA op k s L=true):(L.length:Int)=ar op/\1<=ar op/\cons op k s=true/\(∀ p ∈ L,mM p.1 p.2=true)/\L.length<=3:=by
 simp only[jA,bAt,dEt,lAe] at h
 obtain⟨⟨⟨m1,m2⟩,m3⟩,m4⟩:=h
 have h3:=wN op
 exact⟨m2,m1,m3,m4,by omega⟩
theorem aM1 {op k s lo hi:Int}{L:List (Int × Int)}{xs:List Int}(hm:jA op k s L=true)(hr:bR op k s L=((lo,hi),0))(hi':Ins xs L) :
  gF op k s xs=true/\(ex op k s (xs.getD 0 0) (xs.getD 1 0) (xs.getD 2 0)).2=0/\lo<=(ex op k s (xs.getD 0 0) (xs.getD 1 0) (xs.getD 2 0)).1/\(ex op k s (xs.getD 0 0) (xs.getD 1 0) (xs.getD 2 0)).1<=hi:=by
 obtain⟨m2,m1,m3,m4,m5⟩:=aPi hm
 match L,xs,hi',m2,m4,hr with
 | [(a,b)],[x],hi',m2,m4,hr =>
  have w1:mM a b=true:=m4 (a,b) (by simp)
  obtain⟨⟨h1,h2⟩,-⟩:=hi'
  have g:=bE.1 w1
  simp only at h1 h2
  exact⟨aYx (by simpa using m2.symm) m3 (by omega),aVh (by simpa using m2.symm) m3 w1 hr h1 h2⟩
 | [(a,b),(c,d)],[x,y],hi',m2,m4,hr =>
  have w1:mM a b=true:=m4 (a,b) (by simp)
  have w2:mM c d=true:=m4 (c,d) (by simp)
  obtain⟨⟨h1,h2⟩,⟨h3,h4⟩,-⟩:=hi'
  have g:=bE.1 w1
  have g':=bE.1 w2
  simp only at h1 h2 h3 h4
  exact⟨aYy (by simpa using m2.symm) m3 (by omega) (by omega),aVi (by simpa using m2.symm) w1 w2 hr h1 h2 h3 h4⟩
 | [(a,b),(c,d),(e,f)],[x,y,z],hi',m2,m4,hr =>
  have w1:mM a b=true:=m4 (a,b) (by simp)
  have w2:mM c d=true:=m4 (c,d) (by simp)
  have w3:mM e f=true:=m4 (e,f) (by simp)
  obtain⟨⟨h1,h2⟩,⟨h3,h4⟩,⟨h5,h6⟩,-⟩:=hi'
  have g:=bE.1 w1
  have g':=bE.1 w2
  have g'':=bE.1 w3
  simp only at h1 h2 h3 h4 h5 h6
  exact⟨aYz (by simpa using m2.symm) m3 (by omega) (by omega) (by omega),aVj (by simpa using m2.symm) w1 w2 w3 hr h1 h2 h3 h4 h5 h6⟩
 | [],xs,hi',m2,m4,hr=>simp at m2;omega
 | _::_::_::_::_,xs,hi',m2,m4,hr=>simp at m5
 | [_],[],hi',_,_,_=>exact hi'.elim
 | [_],_::_::_,hi',_,_,_=>exact hi'.2.elim
 | [_,_],[],hi',_,_,_=>exact hi'.elim
 | [_,_],[_],hi',_,_,_=>exact hi'.2.elim
 | [_,_],_::_::_::_,hi',_,_,_=>exact hi'.2.2.elim
 | [_,_,_],[],hi',_,_,_=>exact hi'.elim
 | [_,_,_],[_],hi',_,_,_=>exact hi'.2.elim
 | [_,_,_],[_,_],hi',_,_,_=>exact hi'.2.2.elim
 | [_,_,_],_::_::_::_::_,hi',_,_,_=>exact hi'.2.2.2.elim
theorem aJu {op k s lo hi:Int}{L:List (Int × Int)}{xs:List Int}(h:ofZ op k s L=((lo,hi),0))(hi':Ins xs L) :
  ∃ v,bO op k s xs=(v,0)/\lo<=v/\v<=hi:=by
 obtain⟨hm,hr,hw⟩:=aIg h
 obtain⟨h1,h2,h3,h4⟩:=aM1 hm hr hi'
 have g:=bE.1 hw
 refine⟨_,?_,h3,h4⟩
 rw[wJ h1]
 exact aVd h2 (cO.2 (by omega))
end Go.Proofs.Spn
