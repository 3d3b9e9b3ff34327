import Derived.Test.YtihbhbeaihdgnaaGreatXH
import Derived.Test.YtihbhbeaihdgnaaGreatX17
import Derived.Test.YtihbhbeaihdgnaaGreatX13
set_option maxRecDepth 100000
set_option maxHeartbeats 32000000
set_option linter.unusedVariables false
namespace Go.Proofs.Spn
open Go.RowKit Go.IntWalk Go.Sort
def whP (p:Int × Int):Bool:=mW p.1 p.2
def iT (op k s:Int)(L:List (Int × Int)):Bool:=decide (1<=ar op)&&decide ((L.length:Int)=ar op)&&cons op k s&&L.all whP
theorem vY {L:List (Int × Int)}{k:Nat}{x y:Int}(hk:k < L.length)(h:(L.take k).all whP=true)(hx:L.getD k (0,0)=(x,y))(e:mW x y=true):(L.take (k+1)).all whP=true:=by
 have e1:L[k]=(x,y):=by simpa [List.getD,hk] using hx
 rw[List.take_succ_eq_append_getElem hk,List.all_append,h,e1]
 simp[whP,e]
theorem aN0 (op k s:Int)(a:Option Addr)(n cap:Nat)(L:List (Int × Int))(w:World)(h:Spans w a n cap L) :
  Calls Tryz.prog 164 #[.int .i64 op,.int .i64 k,.int .i64 s,.slice a n cap] w fun e w'=>e=.returned (.bool (iT op k s L))/\Below w.heap.size w w':=by
 have hl:=h.len
 have hm1:n<=9223372036854775807:=by have:=h.le;have:=h.max;unfold maxLen at this;omega
 by_cases h1:ar op < 1
 ·rw[show iT op k s L=false by simp[iT];omega]
  clear hl h
  go_enter Tryz.func164,Tryz.ntmps164
  go_wp2_with (go_at_call 69;refine(bI _ _).mono ?_;rintro e w' ⟨rfl,rfl⟩)
  go_ret
  exact⟨rfl,Below.refl _ _⟩
 by_cases h2:(n:Int)=ar op
 ·have h2':((n:Int) != ar op)=false:=by simp[h2]
  cases hc:cons op k s
  ·rw[show iT op k s L=false by simp[iT,hc]]
   clear hl h2 h
   go_enter Tryz.func164,Tryz.ntmps164
   go_wp2_with (first|(go_at_call 69;refine(bI _ _).mono ?_;rintro e w' ⟨rfl,rfl⟩)|(go_at_call 163;refine(gF _ _ _ _).mono ?_;rintro e w' ⟨rfl,rfl⟩))
   go_ret
   exact⟨rfl,Below.refl _ _⟩
  ·rw[show iT op k s L=L.all whP by simp[iT,hc,hl,h2];omega]
   have HL:=aA hl
   have H:=aA h
   clear hl h2 h
   go_enter Tryz.func164,Tryz.ntmps164
   go_wp2_with (first|(go_at_call 69;refine(bI _ _).mono ?_;rintro e w' ⟨rfl,hw'⟩;have hq:=hw'.symm;subst hq)|(go_at_call 163;refine(gF _ _ _ _).mono ?_;rintro e w' ⟨rfl,hw'⟩;have hq:=hw'.symm;subst hq))
   go_loopw [31] (fun i wr=>∃ j:Nat,j<=n/\i=.int .i64 j/\(L.take j).all whP=true/\Below w.heap.size w wr) (fun i _=>n-(intOf i).toNat)
   case atStart=>exact⟨0,Nat.zero_le _,rfl,rfl,Below.refl _ _⟩
   case round =>
    rename_i wr
    obtain⟨j,hj,rfl,hA,hB⟩:=hrel
    have HA:=aA hA
    have HB:=aA hB
    clear hA hB
    by_cases hlt:j < n
    ·obtain⟨bb,off,rfl,hbb,hcell⟩:=(H.o.later HB.o).at (by omega)
     obtain⟨g1,g2⟩:=hcell j hlt
     clear hcell
     obtain⟨⟨x,y⟩,hxy⟩:∃ p,L.getD j (0,0)=p:=⟨_,rfl⟩
     rw[hxy] at g1 g2
     have HXY:=aA hxy
     clear hxy
     have hj0:(0:Int)<=(j:Int):=by omega
     have hj1:(j:Int) < (n:Int):=by omega
     have HWh:=fun w=>aA (aAy x y w)
     cases hx:mW x y
     ·rw[hx] at HWh
      go_wp2_with fail
      refine(HWh _).o.mono ?_
      rintro e w2 ⟨rfl,hb2⟩
      have HB2:=aA (bel HB.o (bel (aC _ _) hb2))
      clear hb2
      go_wp2_with fail
      go_ret
      refine⟨aS ?_,HB2.o⟩
      symm
      rw[List.all_eq_false]
      refine⟨(x,y),?_,by simp[whP,hx]⟩
      rw[<-HXY.o]
      simp[List.getD,HL.o,hlt]
     ·rw[hx] at HWh
      go_wp2_with fail
      refine(HWh _).o.mono ?_
      rintro e w2 ⟨rfl,hb2⟩
      have HB2:=aA (bel HB.o (bel (aC _ _) hb2))
      clear hb2
      go_wp2_with fail
      go_roundw
      case rel=>exact⟨j+1,by omega,by go_num,vY (by rw[HL.o];exact hlt) HA.o HXY.o hx,HB2.o⟩
      case measure=>simp[intOf];omega
    ·go_wp2_with fail
     go_ret
     refine⟨aS ?_,HB.o⟩
     have h3:=HA.o
     rw[List.take_of_length_le (by rw[HL.o];omega)] at h3
     exact h3.symm
 ·have h2':((n:Int) != ar op)=true:=by simp[h2]
  rw[show iT op k s L=false by simp[iT,hl,h2]]
  clear hl h2 h
  go_enter Tryz.func164,Tryz.ntmps164
  go_wp2_with (go_at_call 69;refine(bI _ _).mono ?_;rintro e w' ⟨rfl,rfl⟩)
  go_ret
  exact⟨rfl,Below.refl _ _⟩
def bO (op k s:Int)(L:List (Int × Int)):(Int × Int) × Int :=
 if op=32 then eO (fun u v=>bK 10 0 0 [u,v]) (L.getD 0 (0,0)).1 (L.getD 0 (0,0)).2 k k else
 if op=31 then(eX (L.getD 0 (0,0)).1 (L.getD 0 (0,0)).2 k k,0) else
 if op=11\/op=12 then rY (fun u v=>bK op k s [u,v]) op (L.getD 0 (0,0)).1 (L.getD 0 (0,0)).2 (L.getD 1 (0,0)).1 (L.getD 1 (0,0)).2 else
 if op=10\/op=13\/op=14\/op=18\/op=19\/op=20\/op=21 then eO (fun u v=>bK op k s [u,v]) (L.getD 0 (0,0)).1 (L.getD 0 (0,0)).2 (L.getD 1 (0,0)).1 (L.getD 1 (0,0)).2 else
 if op=7\/op=24\/op=25\/op=26\/op=27\/op=29\/op=30\/op=33 then kK (fun xs=>bK op k s xs) L else
 (aVa op L,0)
theorem aSf {p:Int × Int}(h:whP p=true):eU p.1/\eU p.2:=by
 have:=aX.1 h
 exact⟨by omega,by omega⟩
theorem aKy {op k s:Int}(h:cons op k s=true)(ho:op=31):eU k:=by
 subst ho
 have h':gG k 0 2147483647=true:=h
 have:=aO.1 h'
 exact⟨by omega,by omega⟩
theorem aNd (op k s:Int)(a:Option Addr)(n cap:Nat)(L:List (Int × Int))(w:World)(h:Spans w a n cap L)(hm:iT op k s L=true) :
  Calls Tryz.prog 165 #[.int .i64 op,.int .i64 k,.int .i64 s,.slice a n cap] w fun r w'=>r=.returned (spV (bO op k s L))/\Below w.heap.size w w':=by
 simp only[iT,Bool.and_eq_true,decide_eq_true_eq,List.all_eq_true] at hm
 obtain⟨⟨⟨m1,m2⟩,m3⟩,m4⟩:=hm
 have hl:=h.len
 have h3:=vZ op
 have hle:=h.le
 by_cases he:op=7\/op=24\/op=25\/op=26\/op=27\/op=29\/op=30\/op=33
 ·rw[show bO op k s L=kK (fun xs=>bK op k s xs) L by unfold bO;rw[if_neg (by omega),if_neg (by omega),if_neg (by omega),if_neg (by omega),if_pos he]]
  exact aJn op k s a n cap L w h (by omega) he
 obtain⟨b,off,rfl,hlt,hc⟩:=h.at (by omega)
 have hw:∀ p ∈ L,eU p.1/\eU p.2:=fun p hp=>aSf (m4 p hp)
 match L,hl,m2,hc,hw with
 | [(x0,y0)],hl,m2,hc,hw =>
  subst hl
  have ho:=uA (op:=op) (by simpa using m2.symm)
  obtain⟨d0,d1⟩:=hc 0 (by simp)
  obtain⟨w0,w1⟩:=hw (x0,y0) (by simp)
  simp at d0 d1
  by_cases h32:op=32
  ·rw[show bO op k s [(x0,y0)]=eO (fun u v=>bK 10 0 0 [u,v]) x0 y0 k k by unfold bO;rw[if_pos h32];rfl]
   exact aJo op k s x0 y0 b off cap w hle hlt d0 d1 h32
  by_cases h31:op=31
  ·rw[show bO op k s [(x0,y0)]=(eX x0 y0 k k,0) by unfold bO;rw[if_neg h32,if_pos h31];rfl]
   exact aJm op k s x0 y0 b off cap w hle hlt d0 d1 h31 w0 w1 (aKy m3 h31)
  have h56:op=5\/op=6:=by omega
  rw[show bO op k s [(x0,y0)]=(mO op x0 y0,0) by unfold bO;rw[if_neg h32,if_neg h31,if_neg (by omega),if_neg (by omega),if_neg he];rfl]
  exact qV op k s _ 1 cap (mO op x0 y0) w (by omega) fun W hW=>aN4 op x0 y0 b off cap W hle (by have:=hW.size;omega) ((hW.cell (p:=⟨b,off,none⟩) hlt).trans d0) ((hW.cell (p:=⟨b,off+1,none⟩) hlt).trans d1) w0 w1
 | [(x0,y0),(x1,y1)],hl,m2,hc,hw =>
  subst hl
  have ho:=aO.1 (qB (op:=op) (by simpa using m2.symm))
  obtain⟨d0,d1⟩:=hc 0 (by simp)
  obtain⟨d2,d3⟩:=hc 1 (by simp)
  obtain⟨w0,w1⟩:=hw (x0,y0) (by simp)
  obtain⟨w2,w3⟩:=hw (x1,y1) (by simp)
  simp at d0 d1 d2 d3
  by_cases hd:op=11\/op=12
  ·rw[show bO op k s [(x0,y0),(x1,y1)]=rY (fun u v=>bK op k s [u,v]) op x0 y0 x1 y1 by unfold bO;rw[if_neg (by omega),if_neg (by omega),if_pos hd];rfl]
   exact aNe op k s x0 y0 x1 y1 b off cap w hle hlt d0 d1 d2 d3 hd w0 w1 w2 w3
  by_cases hcn:op=10\/op=13\/op=14\/op=18\/op=19\/op=20\/op=21
  ·rw[show bO op k s [(x0,y0),(x1,y1)]=eO (fun u v=>bK op k s [u,v]) x0 y0 x1 y1 by unfold bO;rw[if_neg (by omega),if_neg (by omega),if_neg hd,if_pos hcn];rfl]
   exact aAq op k s x0 y0 x1 y1 b off cap w hle hlt d0 d1 d2 d3 hcn
  have h2:op=8\/op=9\/op=15\/op=16\/op=17\/op=22\/op=23:=by omega
  rw[show bO op k s [(x0,y0),(x1,y1)]=(qG op x0 y0 x1 y1,0) by unfold bO;rw[if_neg (by omega),if_neg (by omega),if_neg hd,if_neg hcn,if_neg he];rfl]
  exact qV op k s _ 2 cap (qG op x0 y0 x1 y1) w (by omega) fun W hW=>aN5 op x0 y0 x1 y1 b off cap W hle (by have:=hW.size;omega) ((hW.cell (p:=⟨b,off,none⟩) hlt).trans d0) ((hW.cell (p:=⟨b,off+1,none⟩) hlt).trans d1) ((hW.cell (p:=⟨b,off+2,none⟩) hlt).trans d2) ((hW.cell (p:=⟨b,off+2+1,none⟩) hlt).trans d3) w0 w1 w2 w3 h2
 | [(x0,y0),(x1,y1),(x2,y2)],hl,m2,hc,hw =>
  subst hl
  have ho:=aO.1 (lM (op:=op) (by simpa using m2.symm))
  obtain⟨d0,d1⟩:=hc 0 (by simp)
  obtain⟨d2,d3⟩:=hc 1 (by simp)
  obtain⟨d4,d5⟩:=hc 2 (by simp)
  simp at d0 d1 d2 d3 d4 d5
  have h28:op=28:=by omega
  rw[show bO op k s [(x0,y0),(x1,y1),(x2,y2)]=(qW x0 y0 x1 y1 x2 y2,0) by unfold bO;rw[if_neg (by omega),if_neg (by omega),if_neg (by omega),if_neg (by omega),if_neg he];rfl]
  exact qV op k s _ 3 cap (qW x0 y0 x1 y1 x2 y2) w (by omega) fun W hW=>aN6 op x0 y0 x1 y1 x2 y2 b off cap W hle (by have:=hW.size;omega) ((hW.cell (p:=⟨b,off,none⟩) hlt).trans d0) ((hW.cell (p:=⟨b,off+1,none⟩) hlt).trans d1) ((hW.cell (p:=⟨b,off+2,none⟩) hlt).trans d2) ((hW.cell (p:=⟨b,off+2+1,none⟩) hlt).trans d3) ((hW.cell (p:=⟨b,off+4,none⟩) hlt).trans d4) ((hW.cell (p:=⟨b,off+4+1,none⟩) hlt).trans d5)
 | [],hl,m2,hc,hw=>simp at m2;omega
 | _::_::_::_::_,hl,m2,hc,hw=>simp at m2;omega
def yY (Z:(Int × Int) × Int):(Int × Int) × Int:=if Z.2≠0 then((0,0),Z.2) else if mW Z.1.1 Z.1.2=true then(Z.1,0) else((0,0),13)
def ofZ (op k s:Int)(L:List (Int × Int)):(Int × Int) × Int:=if iT op k s L=true then yY (bO op k s L) else((0,0),1)
theorem aMo (op k s:Int)(a:Option Addr)(n cap:Nat)(L:List (Int × Int))(w:World)(h:Spans w a n cap L) :
  Calls Tryz.prog 127 #[.int .i64 op,.int .i64 k,.int .i64 s,.slice a n cap] w fun r w'=>r=.returned (spV (ofZ op k s L))/\Below w.heap.size w w':=by
 have HR:=aA (aB.new w 74 #[.int .i64 0,.int .i64 0])
 have HB:=aA (aC w (cs 0 0))
 have HM:=aA (aN0 op k s a n cap L _ (h.later HB.o))
 cases hm:iT op k s L
 ·rw[hm] at HM
  rw[show ofZ op k s L=((0,0),1) by simp[ofZ,hm]]
  go_enter Tryz.func127,Tryz.ntmps127
  go_wp2_with fail
  refine HM.o.mono ?_
  rintro e w2 ⟨rfl,hb2⟩
  have hR:=HR.o.below hb2
  have hB:=bel HB.o hb2
  obtain⟨s1,s2,s3,s4⟩:=aG hR
  clear hb2
  go_wp2_with fail
  obtain⟨d0,d1,hB4⟩:=aI hR hB (by omega) 0 0
  exact bodyPost_ret (v:=.tuple #[.agg #[.int .i64 0,.int .i64 0],.int .i64 1]) (by simp[results,Tryz.results127,go_sem,d0,d1]) rfl ⟨rfl,hB4⟩
 ·rw[hm] at HM
  have HRk:=aA fun(W:World) (hW:Below w.heap.size w W)=>aNd op k s a n cap L W (h.later hW) hm
  rw[show ofZ op k s L=yY (bO op k s L) by simp[ofZ,hm]]
  obtain⟨⟨⟨x,y⟩,e⟩,hZ⟩:∃ Z,bO op k s L=Z:=⟨_,rfl⟩
  rw[hZ] at HRk ⊢
  clear hZ hm h
  by_cases he:e=0
  ·subst he
   have HWh:=fun w=>aA (aAy x y w)
   cases hx:mW x y
   ·rw[show yY ((x,y),0)=((0,0),13) by simp[yY,hx]]
    rw[hx] at HWh
    go_enter Tryz.func127,Tryz.ntmps127
    go_wp2_with fail
    refine HM.o.mono ?_
    rintro e w2 ⟨rfl,hb2⟩
    have HR2:=aA (HR.o.below hb2)
    have HB2:=aA (bel HB.o hb2)
    clear hb2
    go_wp2_with fail
    refine(HRk.o _ HB2.o).mono ?_
    rintro e w3 ⟨rfl,hb3⟩
    have HR3:=aA (HR2.o.below hb3)
    have HB3:=aA (bel HB2.o hb3)
    clear hb3
    go_wp2_with fail
    refine(HWh _).o.mono ?_
    rintro e w4 ⟨rfl,hb4⟩
    have hR:=(HR3.o.alloc (cs x y)).below hb4
    have hB:=bel (bel HB3.o (aC _ _)) hb4
    obtain⟨s1,s2,s3,s4⟩:=aG hR
    clear hb4
    go_wp2_with fail
    obtain⟨d0,d1,hB4⟩:=aI hR hB (by omega) 0 0
    exact bodyPost_ret (v:=.tuple #[.agg #[.int .i64 0,.int .i64 0],.int .i64 13]) (by simp[results,Tryz.results127,go_sem,d0,d1]) rfl ⟨rfl,hB4⟩
   ·rw[show yY ((x,y),0)=((x,y),0) by simp[yY,hx]]
    rw[hx] at HWh
    go_enter Tryz.func127,Tryz.ntmps127
    go_wp2_with fail
    refine HM.o.mono ?_
    rintro e w2 ⟨rfl,hb2⟩
    have HR2:=aA (HR.o.below hb2)
    have HB2:=aA (bel HB.o hb2)
    clear hb2
    go_wp2_with fail
    refine(HRk.o _ HB2.o).mono ?_
    rintro e w3 ⟨rfl,hb3⟩
    have HR3:=aA (HR2.o.below hb3)
    have HB3:=aA (bel HB2.o hb3)
    clear hb3
    go_wp2_with fail
    refine(HWh _).o.mono ?_
    rintro e w4 ⟨rfl,hb4⟩
    have hR:=(HR3.o.alloc (cs x y)).below hb4
    have hN:=(aB.new w3 74 #[.int .i64 x,.int .i64 y]).below hb4
    have hB:=bel (bel HB3.o (aC _ _)) hb4
    obtain⟨s1,s2,s3,s4⟩:=aG hR
    obtain⟨n1,n2,-,-⟩:=aG hN
    clear hb4
    go_wp2_with fail
    obtain⟨d0,d1,hB4⟩:=aI hR hB (by omega) x y
    exact bodyPost_ret (v:=.tuple #[.agg #[.int .i64 x,.int .i64 y],.int .i64 0]) (by simp[results,Tryz.results127,go_sem,d0,d1]) rfl ⟨rfl,hB4⟩
  ·rw[show yY ((x,y),e)=((0,0),e) by simp[yY,he]]
   have he':(e != 0)=true:=by simp[he]
   clear he
   go_enter Tryz.func127,Tryz.ntmps127
   go_wp2_with fail
   refine HM.o.mono ?_
   rintro e w2 ⟨rfl,hb2⟩
   have HR2:=aA (HR.o.below hb2)
   have HB2:=aA (bel HB.o hb2)
   clear hb2
   go_wp2_with fail
   refine(HRk.o _ HB2.o).mono ?_
   rintro e w3 ⟨rfl,hb3⟩
   have hR:=(HR2.o.below hb3).alloc (cs x y)
   have hB:=bel (bel HB2.o hb3) (aC _ (cs x y))
   obtain⟨s1,s2,s3,s4⟩:=aG hR
   clear hb3
   go_wp2_with fail
   obtain⟨d0,d1,hB4⟩:=aI hR hB (by omega) 0 0
   exact bodyPost_ret (v:=.tuple #[.agg #[.int .i64 0,.int .i64 0],.int .i64 _]) (by simp[results,Tryz.results127,go_sem,d0,d1]) rfl ⟨rfl,hB4⟩
end Go.Proofs.Spn
namespace Go.Proofs.Spn
open Go.RowKit Go.IntWalk
variable {k op s x y:Int}
def bet (p q r:Int):Prop:=(p<=q/\q<=r)\/(r<=q/\q<=p)
def fnE (E:Int × Int):Int × Int:=if E.2=0 then(if wd E.1=true then(E.1,0) else(0,13)) else(0,E.2)
theorem vT {xs:List Int}(h:iC op k s xs=true):bK op k s xs=fnE (ex op k s (xs.getD 0 0) (xs.getD 1 0) (xs.getD 2 0)):=by
 unfold bK fnE
 rw[if_pos h]
theorem jL {E:Int × Int}(h:(fnE E).2=0):E.2=0/\wd E.1=true/\(fnE E).1=E.1:=by
 unfold fnE at *
 by_cases h1:E.2=0
 ·rw[if_pos h1] at *
  by_cases h2:wd E.1=true
  ·rw[if_pos h2] at *;exact⟨h1,h2,rfl⟩
  ·rw[if_neg h2] at h;simp at h
 ·rw[if_neg h1] at *;exact absurd h h1
theorem aTm {E:Int × Int}(h1:E.2=0)(h2:wd E.1=true):fnE E=(E.1,0):=by
 unfold fnE;rw[if_pos h1,if_pos h2]
theorem aW4 (ho:ar op=1)(hc:cons op k s=true)(hx:eU x):iC op k s [x]=true:=by
 simp[iC,ho,hc,dE];exact hx
theorem aW5 (ho:ar op=2)(hc:cons op k s=true)(hx:eU x)(hy:eU y):iC op k s [x,y]=true:=by
 simp[iC,ho,hc,dE];exact⟨hx,hy⟩
theorem aW6 {z:Int}(ho:ar op=3)(hc:cons op k s=true)(hx:eU x)(hy:eU y)(hz:eU z):iC op k s [x,y,z]=true:=by
 simp[iC,ho,hc,dE];exact⟨hx,hy,hz⟩
theorem aXv (ho:ar op=1)(hc:cons op k s=true)(hx:eU x):bK op k s [x]=fnE (ex op k s x 0 0):=vT (aW4 ho hc hx)
theorem aE2 (ho:ar op=2)(hc:cons op k s=true)(hx:eU x)(hy:eU y):bK op k s [x,y]=fnE (ex op k s x y 0):=vT (aW5 ho hc hx hy)
theorem aXw {z:Int}(ho:ar op=3)(hc:cons op k s=true)(hx:eU x)(hy:eU y)(hz:eU z):bK op k s [x,y,z]=fnE (ex op k s x y z):=vT (aW6 ho hc hx hy hz)
theorem zV {f:Int->Int->Int × Int}{a b c d lo hi:Int}(h:eO f a b c d=((lo,hi),0)) :
  (f a c).2=0/\(f a d).2=0/\(f b c).2=0/\(f b d).2=0 /\
  lo=min (min (min (min 9223372036854775807 (f a c).1) (f a d).1) (f b c).1) (f b d).1/\hi=max (max (max (max (-9223372036854775808) (f a c).1) (f a d).1) (f b c).1) (f b d).1:=by
 have e0:cv f a b c d 0=f a c:=rfl
 have e1:cv f a b c d 1=f a d:=rfl
 have e2:cv f a b c d 2=f b c:=rfl
 have e3:cv f a b c d 3=f b d:=rfl
 unfold eO at h
 rw[e0,e1,e2,e3] at h
 by_cases h0:(f a c).2=0
 ·rw[if_neg (by simp[h0])] at h
  by_cases h1:(f a d).2=0
  ·rw[if_neg (by simp[h1])] at h
   by_cases h2:(f b c).2=0
   ·rw[if_neg (by simp[h2])] at h
    by_cases h3:(f b d).2=0
    ·rw[if_neg (by simp[h3])] at h
     simp only[Prod.mk.injEq,and_true] at h
     refine⟨h0,h1,h2,h3,?_,?_⟩
     ·rw[<-h.1];simp only[cLo,e0,e1,e2,e3]
     ·rw[<-h.2];simp only[cHi,e0,e1,e2,e3]
    ·rw[if_pos h3] at h;simp only[Prod.mk.injEq] at h;exact absurd h.2 h3
   ·rw[if_pos h2] at h;simp only[Prod.mk.injEq] at h;exact absurd h.2 h2
  ·rw[if_pos h1] at h;simp only[Prod.mk.injEq] at h;exact absurd h.2 h1
 ·rw[if_pos h0] at h;simp only[Prod.mk.injEq] at h;exact absurd h.2 h0
structure Mid (g:Int->Int->Int)(a b c d:Int):Prop where
 fst:∀ x y,a<=x->x<=b->c<=y->y<=d->bet (g a y) (g x y) (g b y)
 snd:∀ x y,a<=x->x<=b->c<=y->y<=d->bet (g x c) (g x y) (g x d)
theorem Mid.hull {g:Int->Int->Int}{a b c d:Int}(h:Mid g a b c d)(hab:a<=b)(hcd:c<=d)(h1:a<=x)(h2:x<=b)(h3:c<=y)(h4:y<=d) :
  min (min (min (g a c) (g a d)) (g b c)) (g b d)<=g x y/\g x y<=max (max (max (g a c) (g a d)) (g b c)) (g b d):=by
 have e1:=h.fst x y h1 h2 h3 h4
 have e2:=h.snd a y (Int.le_refl _) hab h3 h4
 have e3:=h.snd b y hab (Int.le_refl _) h3 h4
 unfold bet at e1 e2 e3
 omega
theorem aB0 (a b c d:Int):Mid (fun x y=>x*y) a b c d:=by
 constructor
 ·intro x y h1 h2 h3 h4
  unfold bet
  rcases Int.le_total 0 y with hy|hy
  ·left
   exact⟨Int.mul_le_mul_of_nonneg_right h1 hy,Int.mul_le_mul_of_nonneg_right h2 hy⟩
  ·right
   exact⟨Int.mul_le_mul_of_nonpos_right h2 hy,Int.mul_le_mul_of_nonpos_right h1 hy⟩
 ·intro x y h1 h2 h3 h4
  unfold bet
  rcases Int.le_total 0 x with hx|hx
  ·left
   exact⟨Int.mul_le_mul_of_nonneg_left h3 hx,Int.mul_le_mul_of_nonneg_left h4 hx⟩
  ·right
   exact⟨Int.mul_le_mul_of_nonpos_left hx h4,Int.mul_le_mul_of_nonpos_left hx h3⟩
theorem iJ {m n:Nat}(h:m<=n):(2:Int) ^ m<=2 ^ n/\(1:Int)<=2 ^ m:=by
 have:=xU m n h
 omega
theorem aRp (a b c d:Int)(hc:0<=c):Mid (fun x y=>x*2 ^ y.toNat) a b c d:=by
 constructor
 ·intro x y h1 h2 h3 h4
  exact(aB0 a b (2 ^ y.toNat) (2 ^ y.toNat)).fst x _ h1 h2 (Int.le_refl _) (Int.le_refl _)
 ·intro x y h1 h2 h3 h4
  exact(aB0 x x (2 ^ c.toNat) (2 ^ d.toNat)).snd x _ (Int.le_refl _) (Int.le_refl _) (iJ (by omega)).1 (iJ (by omega)).1
theorem gV {p:Int}(hp:0 < p)(h:x<=y):x / p<=y / p:=Int.ediv_le_ediv hp h
theorem aRq (a b c d:Int)(hc:0<=c):Mid (fun x y=>x / 2 ^ y.toNat) a b c d:=by
 constructor
 ·intro x y h1 h2 h3 h4
  have hp:=(iJ (Nat.le_refl y.toNat)).2
  exact .inl ⟨gV (by omega) h1,gV (by omega) h2⟩
 ·intro x y h1 h2 h3 h4
  have key:∀ m n:Nat,m<=n->(0<=x->x / 2 ^ n<=x / 2 ^ m)/\(x < 0->x / 2 ^ m<=x / 2 ^ n):=by
   intro m n hmn
   obtain⟨q,rfl⟩:∃ q,n=m+q:=⟨n-m,by omega⟩
   have hm:=(iJ (Nat.le_refl m)).2
   have hq:=(iJ (Nat.le_refl q)).2
   have e:x / 2 ^ (m+q)=x / 2 ^ m / 2 ^ q:=by rw[Int.pow_add,Int.ediv_ediv_of_nonneg (by omega)]
   rw[e]
   generalize (2:Int) ^ q=Q at *
   constructor
   ·intro hx
    have:0<=x / 2 ^ m:=Int.ediv_nonneg hx (by omega)
    exact Int.ediv_le_self _ this
   ·intro hx
    have hneg:x / 2 ^ m < 0:=Int.ediv_neg_of_neg_of_pos hx (by omega)
    generalize x / 2 ^ m=z at *
    have h1:z*Q<=z*1:=Int.mul_le_mul_of_nonpos_left (by omega) hq
    exact(Int.le_ediv_iff_mul_le (by omega)).2 (by omega)
  unfold bet
  rcases Int.lt_or_le x 0 with hx|hx
  ·exact .inl ⟨(key c.toNat y.toNat (by omega)).2 hx,(key y.toNat d.toNat (by omega)).2 hx⟩
  ·exact .inr ⟨(key y.toNat d.toNat (by omega)).1 hx,(key c.toNat y.toNat (by omega)).1 hx⟩
theorem aAu (x y:Int):x.tdiv (-y)=-(x.tdiv y):=Int.tdiv_neg x y
theorem aAi (x y:Int):(-x).tdiv y=-(x.tdiv y):=Int.neg_tdiv x y
theorem iO {x':Int}(hy:0 < y)(h:x<=x'):x.tdiv y<=x'.tdiv y:=by
 rcases Int.lt_or_le x 0 with hx|hx
 ·rcases Int.lt_or_le x' 0 with hx'|hx'
  ·have e1:x.tdiv y=-((-x) / y):=by rw[<-Int.tdiv_eq_ediv_of_nonneg (by omega),Int.neg_tdiv,Int.neg_neg]
   have e2:x'.tdiv y=-((-x') / y):=by rw[<-Int.tdiv_eq_ediv_of_nonneg (by omega),Int.neg_tdiv,Int.neg_neg]
   have:=gV hy (show -x'<=-x by omega)
   omega
  ·have e1:x.tdiv y=-((-x) / y):=by rw[<-Int.tdiv_eq_ediv_of_nonneg (by omega),Int.neg_tdiv,Int.neg_neg]
   have e2:x'.tdiv y=x' / y:=Int.tdiv_eq_ediv_of_nonneg hx'
   have h1:0<=(-x) / y:=Int.ediv_nonneg (by omega) (by omega)
   have h2:0<=x' / y:=Int.ediv_nonneg hx' (by omega)
   omega
 ·rw[Int.tdiv_eq_ediv_of_nonneg hx,Int.tdiv_eq_ediv_of_nonneg (by omega)]
  exact gV hy h
theorem bS {y':Int}(hx:0<=x)(hy:0 < y)(h:y<=y'):x.tdiv y'<=x.tdiv y:=by
 rw[Int.tdiv_eq_ediv_of_nonneg hx,Int.tdiv_eq_ediv_of_nonneg hx]
 refine(Int.le_ediv_iff_mul_le hy).2 ?_
 have h0:0<=x / y':=Int.ediv_nonneg hx (by omega)
 have h1:x / y' * y<=x / y' * y':=Int.mul_le_mul_of_nonneg_left h h0
 have h2:=Int.ediv_mul_le x (show y'≠0 by omega)
 omega
theorem aOa (a b c d:Int)(h0:¬(c<=0/\0<=d)):Mid (fun x y=>x.tdiv y) a b c d:=by
 constructor
 ·intro x y h1 h2 h3 h4
  unfold bet
  rcases(show 0 < y\/y < 0 by omega) with hy|hy
  ·exact .inl ⟨iO hy h1,iO hy h2⟩
  ·right
   have e:=fun z:Int=>aAu z (-y)
   simp only[Int.neg_neg] at e
   have h5:=iO (show 0 < -y by omega) h1
   have h6:=iO (show 0 < -y by omega) h2
   show b.tdiv y<=x.tdiv y/\x.tdiv y<=a.tdiv y
   rw[e a,e x,e b]
   omega
 ·intro x y h1 h2 h3 h4
  show bet (x.tdiv c) (x.tdiv y) (x.tdiv d)
  unfold bet
  rcases(show 0 < c\/d < 0 by omega) with hc|hd
  ·rcases Int.le_total 0 x with hx|hx
   ·exact .inr ⟨bS hx (by omega) h4,bS hx (by omega) h3⟩
   ·left
    have e:=fun z:Int=>aAi (-x) z
    simp only[Int.neg_neg] at e
    have h5:=bS (show 0<=-x by omega) (show 0 < c by omega) h3
    have h6:=bS (show 0<=-x by omega) (show 0 < y by omega) h4
    rw[e c,e y,e d]
    omega
  ·have ed:=fun z w:Int=>aAu z (-w)
   simp only[Int.neg_neg] at ed
   rw[ed x c,ed x y,ed x d]
   rcases Int.le_total 0 x with hx|hx
   ·have h5:=bS hx (show 0 < -y by omega) (show -y<=-c by omega)
    have h6:=bS hx (show 0 < -d by omega) (show -d<=-y by omega)
    omega
   ·have e:=fun z:Int=>aAi (-x) z
    simp only[Int.neg_neg] at e
    have h5:=bS (show 0<=-x by omega) (show 0 < -y by omega) (show -y<=-c by omega)
    have h6:=bS (show 0<=-x by omega) (show 0 < -d by omega) (show -d<=-y by omega)
    rw[e (-c),e (-y),e (-d)]
    omega
theorem jR {p q:Bool}(h:p=true->q=true):tr p<=tr q:=by
 cases p <;> cases q <;> simp[tr] at *
theorem aO9 (op:Int)(ho:op=18\/op=19\/op=20\/op=21)(k s a b c d:Int):Mid (fun x y=>(ex op k s x y 0).1) a b c d:=by
 rcases ho with rfl|rfl|rfl|rfl
 ·constructor
  ·intro x y h1 h2 h3 h4
   exact .inr ⟨jR (by simp;omega),jR (by simp;omega)⟩
  ·intro x y h1 h2 h3 h4
   exact .inl ⟨jR (by simp;omega),jR (by simp;omega)⟩
 ·constructor
  ·intro x y h1 h2 h3 h4
   exact .inr ⟨jR (by simp;omega),jR (by simp;omega)⟩
  ·intro x y h1 h2 h3 h4
   exact .inl ⟨jR (by simp;omega),jR (by simp;omega)⟩
 ·constructor
  ·intro x y h1 h2 h3 h4
   exact .inl ⟨jR (by simp;omega),jR (by simp;omega)⟩
  ·intro x y h1 h2 h3 h4
   exact .inr ⟨jR (by simp;omega),jR (by simp;omega)⟩
 ·constructor
  ·intro x y h1 h2 h3 h4
   exact .inl ⟨jR (by simp;omega),jR (by simp;omega)⟩
  ·intro x y h1 h2 h3 h4
   exact .inr ⟨jR (by simp;omega),jR (by simp;omega)⟩
end Go.Proofs.Spn
namespace Go.Proofs.Spn
open Go.RowKit Go.IntWalk
variable {a b hi lo:Int}
theorem trd (p:Prop)[Decidable p]:(p/\tr (decide p)=1)\/(¬p/\tr (decide p)=0):=by
 by_cases h:p <;> simp[tr,h]
theorem trb (x y:Int):(x=y/\tr (x==y)=1/\tr (x != y)=0)\/(x≠y/\tr (x==y)=0/\tr (x != y)=1):=by
 by_cases h:x=y <;> simp[tr,h]
theorem tT {f:List Int->Int × Int}{L:List (Int × Int)}(h:kK f L=((lo,hi),0)) :
  (f (qN L)).2=0/\(f (uJ L)).2=0/\lo=(f (qN L)).1/\hi=(f (uJ L)).1:=by
 unfold kK at h
 by_cases h0:(f (qN L)).2=0
 ·rw[if_neg (by simp[h0])] at h
  simp only[Prod.mk.injEq] at h
  exact⟨h0,h.2,h.1.1.symm,h.1.2.symm⟩
 ·rw[if_pos h0] at h
  simp only[Prod.mk.injEq] at h
  exact absurd h.2 h0
theorem aK7 {Z:(Int × Int) × Int}(h:yY Z=((lo,hi),0)):Z=((lo,hi),0)/\mW lo hi=true:=by
 obtain⟨⟨x,y⟩,e⟩:=Z
 unfold yY at h
 simp only at h
 by_cases he:e=0
 ·rw[if_neg (by simp[he])] at h
  by_cases hw:mW x y=true
  ·rw[if_pos hw] at h
   simp only[Prod.mk.injEq] at h
   obtain⟨⟨rfl,rfl⟩,-⟩:=h
   exact⟨by rw[he],hw⟩
  ·rw[if_neg hw] at h
   simp at h
 ·rw[if_pos he] at h
  simp only[Prod.mk.injEq] at h
  exact absurd h.2 he
theorem aHr {op k s:Int}{L:List (Int × Int)}(h:ofZ op k s L=((lo,hi),0)):iT op k s L=true/\bO op k s L=((lo,hi),0)/\mW lo hi=true:=by
 unfold ofZ at h
 by_cases hm:iT op k s L=true
 ·rw[if_pos hm] at h
  have:=aK7 h
  exact⟨hm,this.1,this.2⟩
 ·rw[if_neg hm] at h
  simp at h
theorem aIj (ha:0<=a/\a<=2147483647)(hb:-2147483648<=b/\b<=2147483647):0<=bw .and a b/\bw .and a b<=a:=by
 have h:=aG3 (fun a b=>0<=a->0<=bw .and a b/\bw .and a b<=a) (fun _=>by decide) (fun _=>by decide) (fun _=>by omega) (fun _=>by omega) (by
  intro a b ha hb h e
  have h1:=h (by omega)
  show 0<=bw .and a b/\bw .and a b<=a
  rw[pE .and a b ha hb]
  simp only[mY.dig]
  rcases lN a with f|f <;> rcases lN b with g|g <;> rw[f,g] <;> omega) (show -2147483648<=a/\a<=2147483647 by omega) hb
 exact h ha.1
theorem aSm (ha:0<=a/\a<=2147483647)(hb:0<=b/\b<=2147483647):a<=bw .or a b/\b<=bw .or a b/\0<=bw .xor a b:=by
 have h:=aG3 (fun a b=>0<=a->0<=b->a<=bw .or a b/\b<=bw .or a b/\0<=bw .xor a b) (fun _ _=>by decide) (fun _ _=>by omega) (fun _=>by omega) (fun _=>by omega) (by
  intro a b ha hb h e f
  have h1:=h (by omega) (by omega)
  show a<=bw .or a b/\b<=bw .or a b/\0<=bw .xor a b
  rw[pE .or a b ha hb,pE .xor a b ha hb]
  simp only[mY.dig]
  rcases lN a with f|f <;> rcases lN b with g|g <;> rw[f,g] <;> omega) (show -2147483648<=a/\a<=2147483647 by omega) (show -2147483648<=b/\b<=2147483647 by omega)
 exact h ha.1 hb.1
theorem aO0 {c d:Int}(ha:eU a)(hb:eU b)(hc:eU c)(hd:eU d) :
  (-nZ a b c d<=a/\a < nZ a b c d)/\(-nZ a b c d<=b/\b < nZ a b c d)/\(-nZ a b c d<=c/\c < nZ a b c d)/\(-nZ a b c d<=d/\d < nZ a b c d):=by
 have key:∀ x,eU x->wdN x<=bY a b c d->-nZ a b c d<=x/\x < nZ a b c d:=by
  intro x hx hn
  have h1:=(fU hx).2
  have h2:=(iJ hn).1
  have e:((2 ^ wdN x:Nat):Int)=(2:Int) ^ wdN x:=by simp
  unfold nZ
  rw[e] at h1
  omega
 refine⟨key a ha ?_,key b hb ?_,key c hc ?_,key d hd ?_⟩ <;> (unfold bY;omega)
theorem aKq (o:mY){c d x y:Int}(ha:eU a)(hb:eU b)(hc:eU c)(hd:eU d)(h1:a<=x)(h2:x<=b)(h3:c<=y)(h4:y<=d) :
  -nZ a b c d<=bw o x y/\bw o x y<=nZ a b c d-1:=by
 have h:=aO0 ha hb hc hd
 have hn:=(aE8 ha hb hc hd).1
 have e:((2 ^ bY a b c d:Nat):Int)=nZ a b c d:=by unfold nZ;simp
 have hr:=aKr o (bY a b c d) (by omega) x y (by rw[e];omega) (by rw[e];omega)
 rw[e] at hr
 omega
theorem aGn (x y:Int)(hy:y≠0):(0<=x->0<=x.tmod y/\x.tmod y<=x)/\(x<=0->x<=x.tmod y/\x.tmod y<=0)/\(0 < y->-y < x.tmod y/\x.tmod y < y)/\(y < 0->y < x.tmod y/\x.tmod y < -y):=by
 have h1:=Int.natAbs_tmod x y
 have h2:x.natAbs % y.natAbs < y.natAbs:=Nat.mod_lt _ (by omega)
 have h3:=Nat.mod_le x.natAbs y.natAbs
 have h4:0<=x->0<=x.tmod y:=fun h=>Int.tmod_nonneg y h
 have h5:x<=0->x.tmod y<=0:=fun h=>by
  have e:(-x).tmod y=-(x.tmod y):=Int.neg_tmod x y
  have:=Int.tmod_nonneg (a:=-x) y (by omega)
  omega
 omega
end Go.Proofs.Spn
