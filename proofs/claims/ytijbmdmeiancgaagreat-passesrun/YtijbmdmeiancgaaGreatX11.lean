import Derived.Test.YtijbmdmeiancgaaGreatXH
import Derived.Test.YtijbmdmeiancgaaGreatX08
import Derived.Test.YtijbmdmeiancgaaGreatX10
set_option maxRecDepth 100000
set_option maxHeartbeats 32000000
set_option linter.unusedVariables false
namespace Go.Proofs.Spn
open Go.RowKit Go.IntWalk Go.Sort
variable {x y:Int} {W w:World}
def hlo (xs:List Int):Int:=xs.foldl min (xs.getD 0 0)
def hhi (xs:List Int):Int:=xs.foldl max (xs.getD 0 0)
theorem xK {f:Int->Int->Int}{xs:List Int}{z:Int}{j:Nat}(hj:j < xs.length)(hx:xs.getD j 0=x):(xs.take (j+1)).foldl f z=f ((xs.take j).foldl f z) x:=by
 have e:xs[j]=x:=by simpa [List.getD,hj] using hx
 rw[List.take_succ_eq_append_getElem hj,e,List.foldl_append]
 rfl
structure Hu (w W:World)(x y:Int):Prop where
 r:aI W w.heap.size 81 #[.int .i64 0,.int .i64 0]
 q:aI W (w.heap.size+1) 81 #[.int .i64 x,.int .i64 y]
 bel:Below w.heap.size w W
theorem Hu.drew (h:Hu w W x y)(n:Nat):Hu w (W.drewN n) x y:=⟨h.r,h.q,oV h.bel n⟩
theorem Hu.lo (h:Hu w W x y)(x':Int):Hu w (W.setCell ⟨w.heap.size+1,0,none⟩ (.int .i64 x')) x' y :=
 ⟨h.r.other (p:=⟨w.heap.size+1,0,none⟩) (by simp) _,h.q.set 0 _,h.bel.setCell (p:=⟨w.heap.size+1,0,none⟩) (by simp) _⟩
theorem Hu.hi (h:Hu w W x y)(y':Int):Hu w (W.setCell ⟨w.heap.size+1,1,none⟩ (.int .i64 y')) x y' :=
 ⟨h.r.other (p:=⟨w.heap.size+1,1,none⟩) (by simp) _,h.q.set 1 _,h.bel.setCell (p:=⟨w.heap.size+1,1,none⟩) (by simp) _⟩
theorem lX (a:Option Addr)(n cap:Nat)(xs:List Int)(w:World)(h:Ints w a n cap xs)(hn:n≠0)(hn4:n<=4) :
  Calls Tryz.prog 112 #[.slice a n cap] w fun e w'=>e=.returned (.agg #[.int .i64 (hlo xs),.int .i64 (hhi xs)])/\Below w.heap.size w w':=by
 have hle:=h.le
 have hl:=h.len
 obtain⟨bb,off,rfl,hbb,hcell⟩:=h.at hn
 have HCL:=aC hcell
 have HL:=aC hl
 have c0:=hcell 0 (by omega)
 rw[Nat.add_zero] at c0
 obtain⟨x0,hx0⟩:∃ x,xs.getD 0 0=x:=⟨_,rfl⟩
 rw[hx0] at c0
 have HX0:=aC hx0
 have d0:=(aO (o:=cs 0 0) (i:=off) hbb).trans c0
 clear hcell hl hx0 h c0
 have hn0:(0:Int) < (n:Int):=by omega
 go_enter Tryz.func112,Tryz.ntmps112
 go_wp2_with fail
 go_region
 have hU:Hu w ((w.alloc (cs 0 0)).alloc (cs x0 x0)).drew x0 x0:=by
  have h1:=(aI.new w 81 #[.int .i64 0,.int .i64 0]).alloc (cs x0 x0)
  have h2:=aI.new (w.alloc (cs 0 0)) 81 #[.int .i64 x0,.int .i64 x0]
  simp only[World.size_alloc] at h2
  exact⟨h1,h2,(((Below.refl _ _).alloc (Nat.le_refl _) _).alloc (by simp) _).trans ⟨rfl,rfl,rfl,Nat.le_refl _,fun _ _=>rfl⟩⟩
 have HU:=aC hU
 clear hU d0
 go_wp2_with fail
 go_loopw [4] (fun i wr=>∃ j:Nat,j<=n/\i=.int .i64 j/\Hu w wr ((xs.take j).foldl min x0) ((xs.take j).foldl max x0)) (fun i _=>n-(intOf i).toNat)
 case atStart=>exact⟨0,by omega,rfl,HU.o⟩
 case round =>
  rename World=>wi
  obtain⟨j,hj,rfl,hu⟩:=hrel
  have HUJ:=aC hu
  clear hu
  by_cases hlt:j < n
  ·have hd1:decide ((j:Int) < (n:Int))=true:=by simp;omega
   have hj0:(0:Int)<=(j:Int):=by omega
   have hj1:(j:Int) < (n:Int):=by omega
   obtain⟨x,hx⟩:∃ x,xs.getD j 0=x:=⟨_,rfl⟩
   have g1:=(HUJ.o.bel.cell (p:=⟨bb,off+j,none⟩) hbb).trans (HCL.o j hlt)
   rw[hx] at g1
   have f1:=xK (f:=min) (z:=x0) (by rw[HL.o];exact hlt) hx
   have f2:=xK (f:=max) (z:=x0) (by rw[HL.o];exact hlt) hx
   obtain⟨p,hp⟩:∃ p,(xs.take j).foldl min x0=p:=⟨_,rfl⟩
   obtain⟨q,hq⟩:∃ q,(xs.take j).foldl max x0=q:=⟨_,rfl⟩
   rw[hp] at f1
   rw[hq] at f2
   rw[hp,hq] at HUJ
   have HXX:=aC hx
   have F1:=aC f1
   have F2:=aC f2
   clear f1 f2 hp hq hx
   obtain⟨r1,r2,r3,r4⟩:=aF HUJ.o.q
   have hbw:bb≠w.heap.size+1:=by omega
   by_cases hxp:x < p <;> by_cases hxq:q < x
   ·have e1:decide (x < p)=true:=by simp[hxp]
    have e2:decide (q < x)=true:=by simp[hxq]
    go_wp2_with fail
    go_quiet (fail)
    go_wp2_with fail
    have HV:=aC (HUJ.o.drew nq)
    have HV1:=aC (HV.o.lo x)
    obtain⟨W1,hW1⟩:∃ W1,(wi.drewN nq).setCell ⟨w.heap.size+1,0,none⟩ (.int .i64 x)=W1:=⟨_,rfl⟩
    rw[hW1] at HV1 ⊢
    clear hW1
    clear g1 r1 r2 r3 r4
    have g1:=(HV1.o.bel.cell (p:=⟨bb,off+j,none⟩) hbb).trans (HCL.o j hlt)
    rw[HXX.o] at g1
    obtain⟨r1,r2,r3,r4⟩:=aF HV1.o.q
    go_quiet (fail)
    go_wp2_with fail
    go_roundw
    case rel =>
     refine⟨j+1,by omega,by go_num,?_⟩
     rw[F1.o,F2.o,show min p x=x by omega,show max q x=x by omega]
     exact(HV1.o.drew _).hi x
    case measure=>simp[intOf];omega
   ·have e1:decide (x < p)=true:=by simp[hxp]
    have e2:decide (q < x)=false:=by simp;omega
    go_wp2_with fail
    go_quiet (fail)
    go_wp2_with fail
    have HV:=aC (HUJ.o.drew nq)
    have HV1:=aC (HV.o.lo x)
    obtain⟨W1,hW1⟩:∃ W1,(wi.drewN nq).setCell ⟨w.heap.size+1,0,none⟩ (.int .i64 x)=W1:=⟨_,rfl⟩
    rw[hW1] at HV1 ⊢
    clear hW1
    clear g1 r1 r2 r3 r4
    have g1:=(HV1.o.bel.cell (p:=⟨bb,off+j,none⟩) hbb).trans (HCL.o j hlt)
    rw[HXX.o] at g1
    obtain⟨r1,r2,r3,r4⟩:=aF HV1.o.q
    go_quiet (fail)
    go_wp2_with fail
    go_roundw
    case rel =>
     refine⟨j+1,by omega,by go_num,?_⟩
     rw[F1.o,F2.o,show min p x=x by omega,show max q x=q by omega]
     exact HV1.o.drew _
    case measure=>simp[intOf];omega
   ·have e1:decide (x < p)=false:=by simp;omega
    have e2:decide (q < x)=true:=by simp[hxq]
    go_wp2_with fail
    go_quiet (fail)
    go_wp2_with fail
    have HV:=aC (HUJ.o.drew nq)
    have HV1:=aC HV.o
    obtain⟨W1,hW1⟩:∃ W1,wi.drewN nq=W1:=⟨_,rfl⟩
    rw[hW1] at HV1 ⊢
    clear hW1
    clear g1 r1 r2 r3 r4
    have g1:=(HV1.o.bel.cell (p:=⟨bb,off+j,none⟩) hbb).trans (HCL.o j hlt)
    rw[HXX.o] at g1
    obtain⟨r1,r2,r3,r4⟩:=aF HV1.o.q
    go_quiet (fail)
    go_wp2_with fail
    go_roundw
    case rel =>
     refine⟨j+1,by omega,by go_num,?_⟩
     rw[F1.o,F2.o,show min p x=p by omega,show max q x=x by omega]
     exact(HV1.o.drew _).hi x
    case measure=>simp[intOf];omega
   ·have e1:decide (x < p)=false:=by simp;omega
    have e2:decide (q < x)=false:=by simp;omega
    go_wp2_with fail
    go_quiet (fail)
    go_wp2_with fail
    have HV:=aC (HUJ.o.drew nq)
    have HV1:=aC HV.o
    obtain⟨W1,hW1⟩:∃ W1,wi.drewN nq=W1:=⟨_,rfl⟩
    rw[hW1] at HV1 ⊢
    clear hW1
    clear g1 r1 r2 r3 r4
    have g1:=(HV1.o.bel.cell (p:=⟨bb,off+j,none⟩) hbb).trans (HCL.o j hlt)
    rw[HXX.o] at g1
    obtain⟨r1,r2,r3,r4⟩:=aF HV1.o.q
    go_quiet (fail)
    go_wp2_with fail
    go_roundw
    case rel =>
     refine⟨j+1,by omega,by go_num,?_⟩
     rw[F1.o,F2.o,show min p x=p by omega,show max q x=q by omega]
     exact HV1.o.drew _
    case measure=>simp[intOf];omega
  ·obtain rfl:j=n:=by omega
   have hd1:decide ((j:Int) < (j:Int))=false:=by simp
   have hu:=HUJ.o
   rw[List.take_of_length_le (by rw[HL.o];omega)] at hu
   have e1:xs.foldl min x0=hlo xs:=by unfold hlo;rw[HX0.o]
   have e2:xs.foldl max x0=hhi xs:=by unfold hhi;rw[HX0.o]
   rw[e1,e2] at hu
   obtain⟨p,hp⟩:∃ p,hlo xs=p:=⟨_,rfl⟩
   obtain⟨q,hq⟩:∃ q,hhi xs=q:=⟨_,rfl⟩
   rw[hp,hq] at hu
   have HP:=aC hp
   have HQ:=aC hq
   have HU2:=aC hu
   clear hu hp hq e1 e2
   obtain⟨r1,r2,-,-⟩:=aF HU2.o.q
   obtain⟨s1,s2,s3,s4⟩:=aF HU2.o.r
   go_wp2_with fail
   obtain⟨t0,t1,hB⟩:=aK HU2.o.r HU2.o.bel (Nat.le_refl _) p q
   exact bodyPost_ret (v:=.agg #[.int .i64 p,.int .i64 q]) (by simp[results,Tryz.results112,go_sem,t0,t1]) rfl ⟨by rw[HP.o,HQ.o],hB⟩
theorem aDz (x y:Int)(w:World)(hx:bF x)(hy:bF y):Calls Tryz.prog 139 #[.int .i64 10,.int .i64 x,.int .i64 y] w fun e w'=>e=.returned (.int .i64 (x*y))/\w'=w:=by
 have hb:=nN (a:=x) (b:=y) hx (by omega)
 go_enter Tryz.func139,Tryz.ntmps139
 go_wp2
 go_ret
 exact⟨rfl,rfl⟩
theorem aM0 (x y:Int)(w:World)(hx:bF x)(hy:bF y)(h0:y≠0):Calls Tryz.prog 139 #[.int .i64 11,.int .i64 x,.int .i64 y] w fun e w'=>e=.returned (.int .i64 (x.tdiv y))/\w'=w:=by
 have bd:=zS x y hx
 rcases(show x < 0\/0<=x by omega) with ga|ga <;> rcases(show y < 0\/0<=y by omega) with gb|gb
 ·have e:x.tdiv y=-x / -y:=by rw[<-Int.neg_tdiv_neg,Int.tdiv_eq_ediv_of_nonneg (by omega)]
  rw[e] at bd ⊢
  clear e
  have da:decide (x < 0)=true:=by simp;omega
  have db:decide (y < 0)=true:=by simp;omega
  obtain⟨A,hA⟩:∃ A,-x=A:=⟨_,rfl⟩
  obtain⟨B,hB⟩:∃ B,-y=B:=⟨_,rfl⟩
  have hA':0<=A/\A<=2147483648:=by omega
  have hB':1<=B:=by omega
  rw[hA,hB] at bd ⊢
  go_enter Tryz.func139,Tryz.ntmps139
  go_wp2
  go_ret
  exact⟨rfl,rfl⟩
 ·have e:x.tdiv y=-(-x / y):=by rw[<-Int.tdiv_eq_ediv_of_nonneg (by omega),Int.neg_tdiv,Int.neg_neg]
  rw[e] at bd ⊢
  clear e
  have da:decide (x < 0)=true:=by simp;omega
  have db:decide (y < 0)=false:=by simp;omega
  obtain⟨A,hA⟩:∃ A,-x=A:=⟨_,rfl⟩
  have hA':0<=A/\A<=2147483648:=by omega
  have hB':1<=y:=by omega
  rw[hA] at bd ⊢
  go_enter Tryz.func139,Tryz.ntmps139
  go_wp2
  go_ret
  exact⟨rfl,rfl⟩
 ·have e:x.tdiv y=-(x / -y):=by rw[<-Int.tdiv_eq_ediv_of_nonneg ga,Int.tdiv_neg,Int.neg_neg]
  rw[e] at bd ⊢
  clear e
  have da:decide (x < 0)=false:=by simp;omega
  have db:decide (y < 0)=true:=by simp;omega
  obtain⟨B,hB⟩:∃ B,-y=B:=⟨_,rfl⟩
  have hB':1<=B:=by omega
  rw[hB] at bd ⊢
  go_enter Tryz.func139,Tryz.ntmps139
  go_wp2
  go_ret
  exact⟨rfl,rfl⟩
 ·have e:x.tdiv y=x / y:=Int.tdiv_eq_ediv_of_nonneg ga
  rw[e] at bd ⊢
  clear e
  have da:decide (x < 0)=false:=by simp;omega
  have db:decide (y < 0)=false:=by simp;omega
  have hB':1<=y:=by omega
  go_enter Tryz.func139,Tryz.ntmps139
  go_wp2
  go_ret
  exact⟨rfl,rfl⟩
theorem aD6 (x y:Int)(w:World)(hx:bF x)(hy:0<=y/\y<=31):Calls Tryz.prog 139 #[.int .i64 13,.int .i64 x,.int .i64 y] w fun e w'=>e=.returned (.int .i64 (x*2 ^ y.toNat))/\w'=w:=by
 have hp:=gK y.toNat 31 (by omega)
 have hb:=nN (a:=x) (b:=2 ^ y.toNat) hx (by omega)
 have HP:=fun w=>aC (dM y w (by omega))
 obtain⟨p,hpp⟩:∃ p,(2:Int) ^ y.toNat=p:=⟨_,rfl⟩
 rw[hpp] at HP hp hb ⊢
 clear hpp
 go_enter Tryz.func139,Tryz.ntmps139
 go_wp2_with fail
 refine(HP _).o.mono ?_
 rintro e w2 ⟨rfl,hw⟩
 have hq:=hw.symm
 subst hq
 go_wp2_with fail
 go_ret
 exact⟨rfl,rfl⟩
theorem aFc (x y:Int)(w:World)(hx:bF x)(hy:0<=y/\y<=31):Calls Tryz.prog 139 #[.int .i64 14,.int .i64 x,.int .i64 y] w fun e w'=>e=.returned (.int .i64 (x / 2 ^ y.toNat))/\w'=w:=by
 have hp:=gK y.toNat 31 (by omega)
 have HP:=fun w=>aC (dM y w (by omega))
 have HF:=fun w=>aC (iZ x (2 ^ y.toNat) w (by omega) (by omega))
 obtain⟨p,hpp⟩:∃ p,(2:Int) ^ y.toNat=p:=⟨_,rfl⟩
 rw[hpp] at HP HF hp ⊢
 clear hpp
 go_enter Tryz.func139,Tryz.ntmps139
 go_wp2_with fail
 refine(HP _).o.mono ?_
 rintro e w2 ⟨rfl,hw⟩
 have hq:=hw.symm
 subst hq
 go_wp2_with fail
 refine(HF _).o.mono ?_
 rintro e w2 ⟨rfl,hw⟩
 have hq:=hw.symm
 subst hq
 go_wp2_with fail
 go_ret
 exact⟨rfl,rfl⟩
end Go.Proofs.Spn
namespace Go.Proofs.Spn
open Go.RowKit Go.IntWalk Go.Sort
theorem aDi (w:World)(t:TypeId)(x y z u:Int):Ints (w.alloc (.cells #[.int .i64 x,.int .i64 y,.int .i64 z,.int .i64 u] t)) (some ⟨w.heap.size,0,none⟩) 4 4 [x,y,z,u]:=by
 refine⟨rfl,Nat.le_refl _,by decide,(fun h=>by cases h),.inr ⟨_,_,rfl,fun i hi=>?_⟩⟩
 rcases(show i=0\/i=1\/i=2\/i=3 by omega) with rfl|rfl|rfl|rfl <;> simp
structure B3 (w W:World)(a b c d x y:Int):Prop where
 a:aI W w.heap.size 81 #[.int .i64 a,.int .i64 b]
 b:aI W (w.heap.size+1) 81 #[.int .i64 c,.int .i64 d]
 r:aI W (w.heap.size+1+1) 81 #[.int .i64 x,.int .i64 y]
 bel:Below w.heap.size w W
theorem B3.later {w W W':World}{a b c d x y:Int}(h:B3 w W a b c d x y)(hb:Below W.heap.size W W'):B3 w W' a b c d x y:=⟨h.a.below hb,h.b.below hb,h.r.below hb,h.bel.trans (hb.mono h.bel.size)⟩
theorem B3.start (w:World)(a b c d x y:Int):B3 w (((w.alloc (cs a b)).alloc (cs c d)).alloc (cs x y)) a b c d x y:=by
 obtain⟨h1,h2,h3,h4⟩:=lV (w:=w) (a:=a) (b:=b) (c:=c) (d:=d) (x:=x) (y:=y) (Below.refl _ _)
 exact⟨h1,h2,h3,h4⟩
theorem yP (op a b c d:Int)(g:Int->Int->Int)(w:World)(H:∀ x y w,(x=a\/x=b)->(y=c\/y=d)->Calls Tryz.prog 139 #[.int .i64 op,.int .i64 x,.int .i64 y] w fun e w'=>e=.returned (.int .i64 (g x y))/\w'=w) :
  Calls Tryz.prog 114 #[.int .i64 op,.agg #[.int .i64 a,.int .i64 b],.agg #[.int .i64 c,.int .i64 d]] w fun e w'=>e=.returned (.agg #[.int .i64 (hlo [g a c,g a d,g b c,g b d]),.int .i64 (hhi [g a c,g a d,g b c,g b d])])/\Below w.heap.size w w':=by
 have HB:=aC (B3.start w a b c d 0 0)
 have HW:=aC H
 clear H
 obtain⟨x,hx⟩:∃ x,hlo [g a c,g a d,g b c,g b d]=x:=⟨_,rfl⟩
 obtain⟨y,hy⟩:∃ y,hhi [g a c,g a d,g b c,g b d]=y:=⟨_,rfl⟩
 have HU:=aC fun W=>lX _ 4 4 _ _ ((aDi W 3 (g a c) (g a d) (g b c) (g b d)).later (aD _)) (by decide) (by decide)
 rw[hx,hy] at HU ⊢
 clear hx hy
 go_enter Tryz.func114,Tryz.ntmps114
 go_wp2_with fail
 obtain⟨W,hW⟩:∃ W,((w.alloc (.cells #[.int .i64 a,.int .i64 b] 81)).alloc (.cells #[.int .i64 c,.int .i64 d] 81)).alloc (.cells #[.int .i64 0,.int .i64 0] 81)=W:=⟨_,rfl⟩
 rw[hW] at HB ⊢
 clear hW
 obtain⟨d0,d1,-,-⟩:=aF HB.o.a
 obtain⟨d2,d3,-,-⟩:=aF HB.o.b
 have hl0:=HB.o.a.lt
 have hl2:=HB.o.b.lt
 go_region_held3 (fun w'=>w'.cell? ⟨w.heap.size,0,none⟩=some (.int .i64 a)/\w'.cell? ⟨w.heap.size,1,none⟩=some (.int .i64 b)/\w'.cell? ⟨w.heap.size+1,0,none⟩=some (.int .i64 c)/\w'.cell? ⟨w.heap.size+1,1,none⟩=some (.int .i64 d))
  (first|exact⟨d0,d1,d2,d3⟩|exact⟨t0,t1,t2,t3⟩|exact⟨bU (Nat.lt_succ_self _) (by omega) t0,bU (Nat.lt_succ_self _) (by omega) t1,bU (Nat.lt_succ_self _) (by omega) t2,bU (Nat.lt_succ_self _) (by omega) t3⟩|exact⟨(aO hl0).trans d0,(aO hl0).trans d1,(aO hl2).trans d2,(aO hl2).trans d3⟩|go_keep)
  ((first
   | (go_at_call 139;refine(HW.o _ _ _ (by simp) (by simp)).mono ?_;rintro e' w' ⟨rfl,hw'⟩;have hq:=hw'.symm;subst hq)
   | (go_at_call 112;refine(HU.o _).mono ?_;rintro e' w2 ⟨rfl,hb2⟩;have HB9:=aC (HB.o.later (bel (bel (aH _ _) (aD _)) hb2));obtain⟨t0,t1,-,-⟩:=aF HB9.o.a;obtain⟨t2,t3,-,-⟩:=aF HB9.o.b;obtain⟨s1,s2,s3,s4⟩:=aF HB9.o.r)))
 go_wp2_with fail
 obtain⟨e0,e1,hB4⟩:=aK HB9.o.r HB9.o.bel (by omega) x y
 exact bodyPost_ret (v:=.agg #[.int .i64 x,.int .i64 y]) (by simp[results,Tryz.results114,go_sem,e0,e1]) rfl ⟨rfl,hB4⟩
def mxw (xs:List Int)(j:Nat):Nat:=(xs.take j).foldl (fun m x=>max m (sM x)) 0
theorem aJk {xs:List Int}{j:Nat}{x:Int}(hj:j < xs.length)(hx:xs.getD j 0=x):mxw xs (j+1)=max (mxw xs j) (sM x):=by
 have e:xs[j]=x:=by simpa [List.getD,hj] using hx
 unfold mxw
 rw[List.take_succ_eq_append_getElem hj,e,List.foldl_append]
 rfl
theorem aJd {x:Int}{m:Nat}(hx:bF x)(hm:m<=31):(x<=2 ^ m-1/\-(2 ^ m)<=x)↔sM x<=m:=by
 have e:((2 ^ m:Nat):Int)=(2:Int) ^ m:=by simp
 constructor
 ·intro h
  exact aG1 (by omega) (by rw[e];omega)
 ·intro h
  have h1:=(eU hx).2
  have h2:=(fF h).1
  have e':((2 ^ sM x:Nat):Int)=(2:Int) ^ sM x:=by simp
  rw[e'] at h1
  omega
theorem uG (a:Option Addr)(n cap:Nat)(xs:List Int)(w:World)(h:Ints w a n cap xs)(hn4:n<=4)(hw:∀ x ∈ xs,bF x) :
  Calls Tryz.prog 140 #[.slice a n cap] w fun e w'=>e=.returned (.int .i64 (2 ^ mxw xs n))/\w'=w:=by
 have hl:=h.len
 have HL:=aC hl
 have H:=aC h
 have HW:=aC hw
 have hle:=h.le
 clear hl h hw
 go_enter Tryz.func140,Tryz.ntmps140
 go_wp2_with fail
 go_loop [3,4] (fun p i=>∃ j:Nat,j<=n/\i=.int .i64 j/\p=.int .i64 (2 ^ mxw xs j)/\mxw xs j<=31) (fun _ i=>n-(intOf i).toNat)
 case atStart=>exact⟨0,by omega,rfl,rfl,by simp[mxw]⟩
 case round =>
  obtain⟨j,hj,rfl,rfl,hmx⟩:=hrel
  by_cases hlt:j < n
  ·have hd1:decide ((j:Int) < (n:Int))=true:=by simp;omega
   have hj0:(0:Int)<=(j:Int):=by omega
   have hj1:(j:Int) < (n:Int):=by omega
   obtain⟨bb,off,rfl,hbb,hcell⟩:=H.o.at (by omega)
   have g1:=hcell j hlt
   clear hcell
   obtain⟨x,hx⟩:∃ x,xs.getD j 0=x:=⟨_,rfl⟩
   rw[hx] at g1
   have hwx:bF x:=HW.o x (by rw[<-hx];simp[List.getD,HL.o,hlt])
   have f1:=aJk (by rw[HL.o];exact hlt) hx
   obtain⟨M,hM⟩:∃ M,mxw xs j=M:=⟨_,rfl⟩
   rw[hM] at f1 hmx ⊢
   have hwb:=(eU hwx).1
   have F1:=aC f1
   have HWX:=aC hwx
   clear f1 hM hx hwx
   go_wp2_with fail
   go_loop [3] (fun p=>∃ m:Nat,M<=m/\m<=max M (sM x)/\p=.int .i64 (2 ^ m)) (fun p=>2147483648-(intOf p).toNat)
   case atStart=>exact⟨M,Nat.le_refl _,by omega,rfl⟩
   case round =>
    obtain⟨m,hm1,hm2,rfl⟩:=hrel
    have hfit:=aJd HWX.o (show m<=31 by omega)
    have hpb:=gK m 31 (by omega)
    obtain⟨p,hp⟩:∃ p,(2:Int) ^ m=p:=⟨_,rfl⟩
    rw[hp] at hfit hpb ⊢
    have HPP:=aC hp
    have HFT:=aC hfit
    have hxx:=HWX.o
    clear hp hfit
    by_cases hc1:p-1 < x
    ·have e1:decide (p-1 < x)=true:=by simp;omega
     go_wp2_with fail
     go_round
     case rel =>
      have hnf:¬sM x<=m:=fun hh=>by have:=HFT.o.2 hh;omega
      refine⟨m+1,by omega,by omega,?_⟩
      rw[Int.pow_succ,HPP.o]
      congr 1
      omega
     case measure=>simp[intOf];omega
    ·have e1:decide (p-1 < x)=false:=by simp;omega
     by_cases hc2:x < -p
     ·have e2:decide (x < -p)=true:=by simp;omega
      go_wp2_with fail
      go_round
      case rel =>
       have hnf:¬sM x<=m:=fun hh=>by have:=HFT.o.2 hh;omega
       refine⟨m+1,by omega,by omega,?_⟩
       rw[Int.pow_succ,HPP.o]
       congr 1
       omega
      case measure=>simp[intOf];omega
     ·have e2:decide (x < -p)=false:=by simp;omega
      have hfin:sM x<=m:=HFT.o.1 (by omega)
      go_wp2_with fail
      go_round
      case rel =>
       refine⟨j+1,by omega,by go_num,?_,by rw[F1.o];omega⟩
       rw[F1.o,show max M (sM x)=m by omega,HPP.o]
      case measure=>simp[intOf];omega
  ·obtain rfl:j=n:=by omega
   have hd1:decide ((j:Int) < (j:Int))=false:=by simp
   go_wp2_with fail
   go_ret
   exact⟨rfl,rfl⟩
theorem aP4 (a b c d:Int):(2:Int) ^ mxw [a,b,c,d] 4=iI a b c d:=by
 unfold mxw iI dG
 simp
end Go.Proofs.Spn
namespace Go.Proofs.Spn
open Go.RowKit Go.IntWalk Go.Sort
theorem aB9 (x y:Int)(w:World):(Instr.field 81 (.agg #[.int .i64 x,.int .i64 y]) 0).run Tryz.prog w=.ok (.int .i64 x) w:=by
 simp[Instr.field,asAgg,go_sem]
theorem aCt (x y:Int)(w:World):(Instr.field 81 (.agg #[.int .i64 x,.int .i64 y]) 1).run Tryz.prog w=.ok (.int .i64 y) w:=by
 simp[Instr.field,asAgg,go_sem]
attribute [local go_sem] aB9 aCt
theorem h2 (a b:Int):hlo [a,b]=min a b/\hhi [a,b]=max a b:=by
 simp[hlo,hhi]
theorem h4 (a b c d:Int):hlo [a,b,c,d]=min (min (min a b) c) d/\hhi [a,b,c,d]=max (max (max a b) c) d:=by
 simp[hlo,hhi]
theorem qJ (w:World)(a b:Int):Calls Tryz.prog 112 #[.slice (some ⟨w.heap.size,0,none⟩) 2 2] (w.alloc (.cells #[.int .i64 a,.int .i64 b] 3)) fun e w'=>e=.returned (.agg #[.int .i64 (min a b),.int .i64 (max a b)])/\Below (w.alloc (.cells #[.int .i64 a,.int .i64 b] 3)).heap.size (w.alloc (.cells #[.int .i64 a,.int .i64 b] 3)) w':=by
 have h:=lX _ 2 2 _ _ (mR w 3 a b) (by decide) (by decide)
 rw[(h2 a b).1,(h2 a b).2] at h
 exact h
theorem aD7 (w:World)(a b c d:Int):Calls Tryz.prog 112 #[.slice (some ⟨w.heap.size,0,none⟩) 4 4] (w.alloc (.cells #[.int .i64 a,.int .i64 b,.int .i64 c,.int .i64 d] 3)) fun e w'=>e=.returned (.agg #[.int .i64 (min (min (min a b) c) d),.int .i64 (max (max (max a b) c) d)])/\Below (w.alloc (.cells #[.int .i64 a,.int .i64 b,.int .i64 c,.int .i64 d] 3)).heap.size (w.alloc (.cells #[.int .i64 a,.int .i64 b,.int .i64 c,.int .i64 d] 3)) w':=by
 have h:=lX _ 4 4 _ _ (aDi w 3 a b c d) (by decide) (by decide)
 rw[(h4 a b c d).1,(h4 a b c d).2] at h
 exact h
theorem aAz (a b c d:Int)(w:World)(ha:bF a)(hb:bF b)(hc:bF c)(hd:bF d):Calls Tryz.prog 115 #[.int .i64 15,.agg #[.int .i64 a,.int .i64 b],.agg #[.int .i64 c,.int .i64 d]] w fun e w'=>e=.returned (.agg #[.int .i64 (dA a b c d).1,.int .i64 (dA a b c d).2])/\Below w.heap.size w w':=by
 have HB:=aC ((B3.start w a b c d 0 0).later (aH _ (.cells #[.int .i64 a,.int .i64 b,.int .i64 c,.int .i64 d] 3)))
 have HR0:=uG _ 4 4 _ _ (aDi (((w.alloc (cs a b)).alloc (cs c d)).alloc (cs 0 0)) 3 a b c d) (by decide) (by intro x hx;simp at hx;rcases hx with rfl|rfl|rfl|rfl <;> assumption)
 simp only[aP4,World.size_alloc] at HR0
 have HR:=aC HR0
 clear HR0
 have hP:=(rP ha hb hc hd).2
 rcases(show (0<=a/\0<=c/\d < b)\/(0<=a/\0<=c/\b<=d)\/(0<=a/\c < 0)\/(a < 0/\0<=c)\/(a < 0/\c < 0) by omega) with g|g|g|g|g
 ·have e1:decide (0<=a)=true:=by simp;omega
  have e2:decide (0<=c)=true:=by simp;omega
  have e3:decide (a < 0)=false:=by simp;omega
  have e4:decide (d < b)=true:=by simp;omega
  rw[show dA a b c d=(0,d) by unfold dA;rw[if_pos (by omega),show min b d=d by omega]]
  generalize iI a b c d=p at *
  go_enter Tryz.func115,Tryz.ntmps115
  go_wp2_with fail
  refine HR.o.mono ?_
  rintro e w2 ⟨rfl,hw2⟩
  have hq:=hw2.symm
  subst hq
  clear hw2
  have f:=fun x' y':Int=>HB.o.later (aH _ (cs x' y'))
  have q1:=fun x' y'=>(aF (f x' y').a).1
  have q2:=fun x' y'=>(aF (f x' y').a).2.1
  have r1:=fun x' y'=>(aF (f x' y').b).1
  have r2:=fun x' y'=>(aF (f x' y').b).2.1
  have s1:=fun x' y'=>(aF (f x' y').r).1
  have s2:=fun x' y'=>(aF (f x' y').r).2.1
  have s3:=fun x' y'=>(aF (f x' y').r).2.2.1
  have s4:=fun x' y'=>(aF (f x' y').r).2.2.2
  have HB2:=aC f
  clear f
  obtain⟨u1,u2,-,-⟩:=aF HB.o.a
  obtain⟨u3,u4,-,-⟩:=aF HB.o.b
  obtain⟨u5,u6,u7,u8⟩:=aF HB.o.r
  obtain⟨W,hW⟩:∃ W,((((w.alloc (.cells #[.int .i64 a,.int .i64 b] 81)).alloc (.cells #[.int .i64 c,.int .i64 d] 81)).alloc (.cells #[.int .i64 0,.int .i64 0] 81)).alloc (.cells #[.int .i64 a,.int .i64 b,.int .i64 c,.int .i64 d] 3))=W:=⟨_,rfl⟩
  rw[hW] at q1 q2 r1 r2 s1 s2 s3 s4 u1 u2 u3 u4 u5 u6 u7 u8 HB HB2 ⊢
  clear hW
  go_wp2_with fail
  obtain⟨c0,c1,hB4⟩:=aK (HB2.o _ _).r (HB2.o _ _).bel (by omega) (0) (d)
  exact bodyPost_ret (v:=.agg #[.int .i64 (0),.int .i64 (d)]) (by simp[results,Tryz.results115,go_sem,c0,c1]) rfl ⟨rfl,hB4⟩
 ·have e1:decide (0<=a)=true:=by simp;omega
  have e2:decide (0<=c)=true:=by simp;omega
  have e3:decide (a < 0)=false:=by simp;omega
  have e4:decide (d < b)=false:=by simp;omega
  rw[show dA a b c d=(0,b) by unfold dA;rw[if_pos (by omega),show min b d=b by omega]]
  generalize iI a b c d=p at *
  go_enter Tryz.func115,Tryz.ntmps115
  go_wp2_with fail
  refine HR.o.mono ?_
  rintro e w2 ⟨rfl,hw2⟩
  have hq:=hw2.symm
  subst hq
  clear hw2
  have f:=fun x' y':Int=>HB.o.later (aH _ (cs x' y'))
  have q1:=fun x' y'=>(aF (f x' y').a).1
  have q2:=fun x' y'=>(aF (f x' y').a).2.1
  have r1:=fun x' y'=>(aF (f x' y').b).1
  have r2:=fun x' y'=>(aF (f x' y').b).2.1
  have s1:=fun x' y'=>(aF (f x' y').r).1
  have s2:=fun x' y'=>(aF (f x' y').r).2.1
  have s3:=fun x' y'=>(aF (f x' y').r).2.2.1
  have s4:=fun x' y'=>(aF (f x' y').r).2.2.2
  have HB2:=aC f
  clear f
  obtain⟨u1,u2,-,-⟩:=aF HB.o.a
  obtain⟨u3,u4,-,-⟩:=aF HB.o.b
  obtain⟨u5,u6,u7,u8⟩:=aF HB.o.r
  obtain⟨W,hW⟩:∃ W,((((w.alloc (.cells #[.int .i64 a,.int .i64 b] 81)).alloc (.cells #[.int .i64 c,.int .i64 d] 81)).alloc (.cells #[.int .i64 0,.int .i64 0] 81)).alloc (.cells #[.int .i64 a,.int .i64 b,.int .i64 c,.int .i64 d] 3))=W:=⟨_,rfl⟩
  rw[hW] at q1 q2 r1 r2 s1 s2 s3 s4 u1 u2 u3 u4 u5 u6 u7 u8 HB HB2 ⊢
  clear hW
  go_wp2_with fail
  obtain⟨c0,c1,hB4⟩:=aK (HB2.o _ _).r (HB2.o _ _).bel (by omega) (0) (b)
  exact bodyPost_ret (v:=.agg #[.int .i64 (0),.int .i64 (b)]) (by simp[results,Tryz.results115,go_sem,c0,c1]) rfl ⟨rfl,hB4⟩
 ·have e1:decide (0<=a)=true:=by simp;omega
  have e2:decide (0<=c)=false:=by simp;omega
  have e3:decide (a < 0)=false:=by simp;omega
  rw[show dA a b c d=(0,b) by unfold dA;rw[if_neg (by omega),if_pos (by omega)]]
  generalize iI a b c d=p at *
  go_enter Tryz.func115,Tryz.ntmps115
  go_wp2_with fail
  refine HR.o.mono ?_
  rintro e w2 ⟨rfl,hw2⟩
  have hq:=hw2.symm
  subst hq
  clear hw2
  have f:=fun x' y':Int=>HB.o.later (aH _ (cs x' y'))
  have q1:=fun x' y'=>(aF (f x' y').a).1
  have q2:=fun x' y'=>(aF (f x' y').a).2.1
  have r1:=fun x' y'=>(aF (f x' y').b).1
  have r2:=fun x' y'=>(aF (f x' y').b).2.1
  have s1:=fun x' y'=>(aF (f x' y').r).1
  have s2:=fun x' y'=>(aF (f x' y').r).2.1
  have s3:=fun x' y'=>(aF (f x' y').r).2.2.1
  have s4:=fun x' y'=>(aF (f x' y').r).2.2.2
  have HB2:=aC f
  clear f
  obtain⟨u1,u2,-,-⟩:=aF HB.o.a
  obtain⟨u3,u4,-,-⟩:=aF HB.o.b
  obtain⟨u5,u6,u7,u8⟩:=aF HB.o.r
  obtain⟨W,hW⟩:∃ W,((((w.alloc (.cells #[.int .i64 a,.int .i64 b] 81)).alloc (.cells #[.int .i64 c,.int .i64 d] 81)).alloc (.cells #[.int .i64 0,.int .i64 0] 81)).alloc (.cells #[.int .i64 a,.int .i64 b,.int .i64 c,.int .i64 d] 3))=W:=⟨_,rfl⟩
  rw[hW] at q1 q2 r1 r2 s1 s2 s3 s4 u1 u2 u3 u4 u5 u6 u7 u8 HB HB2 ⊢
  clear hW
  go_wp2_with fail
  obtain⟨c0,c1,hB4⟩:=aK (HB2.o _ _).r (HB2.o _ _).bel (by omega) (0) (b)
  exact bodyPost_ret (v:=.agg #[.int .i64 (0),.int .i64 (b)]) (by simp[results,Tryz.results115,go_sem,c0,c1]) rfl ⟨rfl,hB4⟩
 ·have e1:decide (0<=a)=false:=by simp;omega
  have e2:decide (0<=c)=true:=by simp;omega
  have e3:decide (a < 0)=true:=by simp;omega
  rw[show dA a b c d=(0,d) by unfold dA;rw[if_neg (by omega),if_neg (by omega),if_pos (by omega)]]
  generalize iI a b c d=p at *
  go_enter Tryz.func115,Tryz.ntmps115
  go_wp2_with fail
  refine HR.o.mono ?_
  rintro e w2 ⟨rfl,hw2⟩
  have hq:=hw2.symm
  subst hq
  clear hw2
  have f:=fun x' y':Int=>HB.o.later (aH _ (cs x' y'))
  have q1:=fun x' y'=>(aF (f x' y').a).1
  have q2:=fun x' y'=>(aF (f x' y').a).2.1
  have r1:=fun x' y'=>(aF (f x' y').b).1
  have r2:=fun x' y'=>(aF (f x' y').b).2.1
  have s1:=fun x' y'=>(aF (f x' y').r).1
  have s2:=fun x' y'=>(aF (f x' y').r).2.1
  have s3:=fun x' y'=>(aF (f x' y').r).2.2.1
  have s4:=fun x' y'=>(aF (f x' y').r).2.2.2
  have HB2:=aC f
  clear f
  obtain⟨u1,u2,-,-⟩:=aF HB.o.a
  obtain⟨u3,u4,-,-⟩:=aF HB.o.b
  obtain⟨u5,u6,u7,u8⟩:=aF HB.o.r
  obtain⟨W,hW⟩:∃ W,((((w.alloc (.cells #[.int .i64 a,.int .i64 b] 81)).alloc (.cells #[.int .i64 c,.int .i64 d] 81)).alloc (.cells #[.int .i64 0,.int .i64 0] 81)).alloc (.cells #[.int .i64 a,.int .i64 b,.int .i64 c,.int .i64 d] 3))=W:=⟨_,rfl⟩
  rw[hW] at q1 q2 r1 r2 s1 s2 s3 s4 u1 u2 u3 u4 u5 u6 u7 u8 HB HB2 ⊢
  clear hW
  go_wp2_with fail
  obtain⟨c0,c1,hB4⟩:=aK (HB2.o _ _).r (HB2.o _ _).bel (by omega) (0) (d)
  exact bodyPost_ret (v:=.agg #[.int .i64 (0),.int .i64 (d)]) (by simp[results,Tryz.results115,go_sem,c0,c1]) rfl ⟨rfl,hB4⟩
 ·have e1:decide (0<=a)=false:=by simp;omega
  have e2:decide (0<=c)=false:=by simp;omega
  have e3:decide (a < 0)=true:=by simp;omega
  rw[show dA a b c d=(-iI a b c d,iI a b c d-1) by unfold dA;rw[if_neg (by omega),if_neg (by omega),if_neg (by omega)]]
  generalize iI a b c d=p at *
  go_enter Tryz.func115,Tryz.ntmps115
  go_wp2_with fail
  refine HR.o.mono ?_
  rintro e w2 ⟨rfl,hw2⟩
  have hq:=hw2.symm
  subst hq
  clear hw2
  have f:=fun x' y':Int=>HB.o.later (aH _ (cs x' y'))
  have q1:=fun x' y'=>(aF (f x' y').a).1
  have q2:=fun x' y'=>(aF (f x' y').a).2.1
  have r1:=fun x' y'=>(aF (f x' y').b).1
  have r2:=fun x' y'=>(aF (f x' y').b).2.1
  have s1:=fun x' y'=>(aF (f x' y').r).1
  have s2:=fun x' y'=>(aF (f x' y').r).2.1
  have s3:=fun x' y'=>(aF (f x' y').r).2.2.1
  have s4:=fun x' y'=>(aF (f x' y').r).2.2.2
  have HB2:=aC f
  clear f
  obtain⟨u1,u2,-,-⟩:=aF HB.o.a
  obtain⟨u3,u4,-,-⟩:=aF HB.o.b
  obtain⟨u5,u6,u7,u8⟩:=aF HB.o.r
  obtain⟨W,hW⟩:∃ W,((((w.alloc (.cells #[.int .i64 a,.int .i64 b] 81)).alloc (.cells #[.int .i64 c,.int .i64 d] 81)).alloc (.cells #[.int .i64 0,.int .i64 0] 81)).alloc (.cells #[.int .i64 a,.int .i64 b,.int .i64 c,.int .i64 d] 3))=W:=⟨_,rfl⟩
  rw[hW] at q1 q2 r1 r2 s1 s2 s3 s4 u1 u2 u3 u4 u5 u6 u7 u8 HB HB2 ⊢
  clear hW
  go_wp2_with fail
  obtain⟨c0,c1,hB4⟩:=aK (HB2.o _ _).r (HB2.o _ _).bel (by omega) (-p) (p-1)
  exact bodyPost_ret (v:=.agg #[.int .i64 (-p),.int .i64 (p-1)]) (by simp[results,Tryz.results115,go_sem,c0,c1]) rfl ⟨rfl,hB4⟩
theorem aNi (a b c d:Int)(w:World)(ha:bF a)(hb:bF b)(hc:bF c)(hd:bF d):Calls Tryz.prog 115 #[.int .i64 16,.agg #[.int .i64 a,.int .i64 b],.agg #[.int .i64 c,.int .i64 d]] w fun e w'=>e=.returned (.agg #[.int .i64 (dV 16 a b c d).1,.int .i64 (dV 16 a b c d).2])/\Below w.heap.size w w':=by
 have HB:=aC ((B3.start w a b c d 0 0).later (aH _ (.cells #[.int .i64 a,.int .i64 b,.int .i64 c,.int .i64 d] 3)))
 have HR0:=uG _ 4 4 _ _ (aDi (((w.alloc (cs a b)).alloc (cs c d)).alloc (cs 0 0)) 3 a b c d) (by decide) (by intro x hx;simp at hx;rcases hx with rfl|rfl|rfl|rfl <;> assumption)
 simp only[aP4,World.size_alloc] at HR0
 have HR:=aC HR0
 clear HR0
 have hP:=(rP ha hb hc hd).2
 rcases(show a < 0\/(0<=a/\c < 0)\/(0<=a/\0<=c) by omega) with g|g|g
 ·have e3:decide (a < 0)=true:=by simp;omega
  rw[show dV 16 a b c d=(-iI a b c d,iI a b c d-1) by unfold dV;rw[if_pos (by omega)]]
  generalize iI a b c d=p at *
  go_enter Tryz.func115,Tryz.ntmps115
  go_wp2_with fail
  refine HR.o.mono ?_
  rintro e w2 ⟨rfl,hw2⟩
  have hq:=hw2.symm
  subst hq
  clear hw2
  have f:=fun x' y':Int=>HB.o.later (aH _ (cs x' y'))
  have q1:=fun x' y'=>(aF (f x' y').a).1
  have q2:=fun x' y'=>(aF (f x' y').a).2.1
  have r1:=fun x' y'=>(aF (f x' y').b).1
  have r2:=fun x' y'=>(aF (f x' y').b).2.1
  have s1:=fun x' y'=>(aF (f x' y').r).1
  have s2:=fun x' y'=>(aF (f x' y').r).2.1
  have s3:=fun x' y'=>(aF (f x' y').r).2.2.1
  have s4:=fun x' y'=>(aF (f x' y').r).2.2.2
  have HB2:=aC f
  clear f
  obtain⟨u1,u2,-,-⟩:=aF HB.o.a
  obtain⟨u3,u4,-,-⟩:=aF HB.o.b
  obtain⟨u5,u6,u7,u8⟩:=aF HB.o.r
  obtain⟨W,hW⟩:∃ W,((((w.alloc (.cells #[.int .i64 a,.int .i64 b] 81)).alloc (.cells #[.int .i64 c,.int .i64 d] 81)).alloc (.cells #[.int .i64 0,.int .i64 0] 81)).alloc (.cells #[.int .i64 a,.int .i64 b,.int .i64 c,.int .i64 d] 3))=W:=⟨_,rfl⟩
  rw[hW] at q1 q2 r1 r2 s1 s2 s3 s4 u1 u2 u3 u4 u5 u6 u7 u8 HB HB2 ⊢
  clear hW
  clear q1 q2 r1 r2 s1 s2 s3 s4
  go_wp2_with fail
  obtain⟨c0,c1,hB4⟩:=aK HB.o.r HB.o.bel (by omega) (-p) (p-1)
  exact bodyPost_ret (v:=.agg #[.int .i64 (-p),.int .i64 (p-1)]) (by simp[results,Tryz.results115,go_sem,c0,c1]) rfl ⟨rfl,hB4⟩
 ·have e3:decide (a < 0)=false:=by simp;omega
  have e4:decide (c < 0)=true:=by simp;omega
  rw[show dV 16 a b c d=(-iI a b c d,iI a b c d-1) by unfold dV;rw[if_pos (by omega)]]
  generalize iI a b c d=p at *
  go_enter Tryz.func115,Tryz.ntmps115
  go_wp2_with fail
  refine HR.o.mono ?_
  rintro e w2 ⟨rfl,hw2⟩
  have hq:=hw2.symm
  subst hq
  clear hw2
  have f:=fun x' y':Int=>HB.o.later (aH _ (cs x' y'))
  have q1:=fun x' y'=>(aF (f x' y').a).1
  have q2:=fun x' y'=>(aF (f x' y').a).2.1
  have r1:=fun x' y'=>(aF (f x' y').b).1
  have r2:=fun x' y'=>(aF (f x' y').b).2.1
  have s1:=fun x' y'=>(aF (f x' y').r).1
  have s2:=fun x' y'=>(aF (f x' y').r).2.1
  have s3:=fun x' y'=>(aF (f x' y').r).2.2.1
  have s4:=fun x' y'=>(aF (f x' y').r).2.2.2
  have HB2:=aC f
  clear f
  obtain⟨u1,u2,-,-⟩:=aF HB.o.a
  obtain⟨u3,u4,-,-⟩:=aF HB.o.b
  obtain⟨u5,u6,u7,u8⟩:=aF HB.o.r
  obtain⟨W,hW⟩:∃ W,((((w.alloc (.cells #[.int .i64 a,.int .i64 b] 81)).alloc (.cells #[.int .i64 c,.int .i64 d] 81)).alloc (.cells #[.int .i64 0,.int .i64 0] 81)).alloc (.cells #[.int .i64 a,.int .i64 b,.int .i64 c,.int .i64 d] 3))=W:=⟨_,rfl⟩
  rw[hW] at q1 q2 r1 r2 s1 s2 s3 s4 u1 u2 u3 u4 u5 u6 u7 u8 HB HB2 ⊢
  clear hW
  clear q1 q2 r1 r2 s1 s2 s3 s4
  go_wp2_with fail
  obtain⟨c0,c1,hB4⟩:=aK HB.o.r HB.o.bel (by omega) (-p) (p-1)
  exact bodyPost_ret (v:=.agg #[.int .i64 (-p),.int .i64 (p-1)]) (by simp[results,Tryz.results115,go_sem,c0,c1]) rfl ⟨rfl,hB4⟩
 ·have e3:decide (a < 0)=false:=by simp;omega
  have e4:decide (c < 0)=false:=by simp;omega
  rw[show dV 16 a b c d=(max a c,iI a b c d-1) by unfold dV;rw[if_neg (by omega),if_pos rfl]]
  generalize iI a b c d=p at *
  go_enter Tryz.func115,Tryz.ntmps115
  go_wp2_with fail
  refine HR.o.mono ?_
  rintro e w2 ⟨rfl,hw2⟩
  have hq:=hw2.symm
  subst hq
  clear hw2
  have f:=fun x' y':Int=>HB.o.later (aH _ (cs x' y'))
  have q1:=fun x' y'=>(aF (f x' y').a).1
  have q2:=fun x' y'=>(aF (f x' y').a).2.1
  have r1:=fun x' y'=>(aF (f x' y').b).1
  have r2:=fun x' y'=>(aF (f x' y').b).2.1
  have s1:=fun x' y'=>(aF (f x' y').r).1
  have s2:=fun x' y'=>(aF (f x' y').r).2.1
  have s3:=fun x' y'=>(aF (f x' y').r).2.2.1
  have s4:=fun x' y'=>(aF (f x' y').r).2.2.2
  have HB2:=aC f
  clear f
  obtain⟨u1,u2,-,-⟩:=aF HB.o.a
  obtain⟨u3,u4,-,-⟩:=aF HB.o.b
  obtain⟨u5,u6,u7,u8⟩:=aF HB.o.r
  obtain⟨W,hW⟩:∃ W,((((w.alloc (.cells #[.int .i64 a,.int .i64 b] 81)).alloc (.cells #[.int .i64 c,.int .i64 d] 81)).alloc (.cells #[.int .i64 0,.int .i64 0] 81)).alloc (.cells #[.int .i64 a,.int .i64 b,.int .i64 c,.int .i64 d] 3))=W:=⟨_,rfl⟩
  rw[hW] at q1 q2 r1 r2 s1 s2 s3 s4 u1 u2 u3 u4 u5 u6 u7 u8 HB HB2 ⊢
  clear hW
  clear q1 q2 r1 r2 s1 s2 s3 s4
  go_wp2_with fail
  refine(qJ _ _ _).mono ?_
  rintro e w3 ⟨rfl,hb3⟩
  have HB3:=aC (HB.o.later (bel (aH _ _) hb3))
  clear hb3 u1 u2 u3 u4 u5 u6 u7 u8
  obtain⟨u5,u6,u7,u8⟩:=aF HB3.o.r
  obtain⟨x,hx⟩:∃ x,max a c=x:=⟨_,rfl⟩
  obtain⟨y,hy⟩:∃ y,min a c=y:=⟨_,rfl⟩
  rw[hx,hy]
  have HX:=aC hx
  clear hx hy
  go_wp2_with fail
  obtain⟨c0,c1,hB4⟩:=aK HB3.o.r HB3.o.bel (by omega) x (p-1)
  exact bodyPost_ret (v:=.agg #[.int .i64 x,.int .i64 (p-1)]) (by simp[results,Tryz.results115,go_sem,c0,c1]) rfl ⟨by rw[HX.o],hB4⟩
theorem aNl (a b c d:Int)(w:World)(ha:bF a)(hb:bF b)(hc:bF c)(hd:bF d):Calls Tryz.prog 115 #[.int .i64 17,.agg #[.int .i64 a,.int .i64 b],.agg #[.int .i64 c,.int .i64 d]] w fun e w'=>e=.returned (.agg #[.int .i64 (dV 17 a b c d).1,.int .i64 (dV 17 a b c d).2])/\Below w.heap.size w w':=by
 have HB:=aC ((B3.start w a b c d 0 0).later (aH _ (.cells #[.int .i64 a,.int .i64 b,.int .i64 c,.int .i64 d] 3)))
 have HR0:=uG _ 4 4 _ _ (aDi (((w.alloc (cs a b)).alloc (cs c d)).alloc (cs 0 0)) 3 a b c d) (by decide) (by intro x hx;simp at hx;rcases hx with rfl|rfl|rfl|rfl <;> assumption)
 simp only[aP4,World.size_alloc] at HR0
 have HR:=aC HR0
 clear HR0
 have hP:=(rP ha hb hc hd).2
 rcases(show a < 0\/(0<=a/\c < 0)\/(0<=a/\0<=c) by omega) with g|g|g
 ·have e3:decide (a < 0)=true:=by simp;omega
  rw[show dV 17 a b c d=(-iI a b c d,iI a b c d-1) by unfold dV;rw[if_pos (by omega)]]
  generalize iI a b c d=p at *
  go_enter Tryz.func115,Tryz.ntmps115
  go_wp2_with fail
  refine HR.o.mono ?_
  rintro e w2 ⟨rfl,hw2⟩
  have hq:=hw2.symm
  subst hq
  clear hw2
  have f:=fun x' y':Int=>HB.o.later (aH _ (cs x' y'))
  have q1:=fun x' y'=>(aF (f x' y').a).1
  have q2:=fun x' y'=>(aF (f x' y').a).2.1
  have r1:=fun x' y'=>(aF (f x' y').b).1
  have r2:=fun x' y'=>(aF (f x' y').b).2.1
  have s1:=fun x' y'=>(aF (f x' y').r).1
  have s2:=fun x' y'=>(aF (f x' y').r).2.1
  have s3:=fun x' y'=>(aF (f x' y').r).2.2.1
  have s4:=fun x' y'=>(aF (f x' y').r).2.2.2
  have HB2:=aC f
  clear f
  obtain⟨u1,u2,-,-⟩:=aF HB.o.a
  obtain⟨u3,u4,-,-⟩:=aF HB.o.b
  obtain⟨u5,u6,u7,u8⟩:=aF HB.o.r
  obtain⟨W,hW⟩:∃ W,((((w.alloc (.cells #[.int .i64 a,.int .i64 b] 81)).alloc (.cells #[.int .i64 c,.int .i64 d] 81)).alloc (.cells #[.int .i64 0,.int .i64 0] 81)).alloc (.cells #[.int .i64 a,.int .i64 b,.int .i64 c,.int .i64 d] 3))=W:=⟨_,rfl⟩
  rw[hW] at q1 q2 r1 r2 s1 s2 s3 s4 u1 u2 u3 u4 u5 u6 u7 u8 HB HB2 ⊢
  clear hW
  clear q1 q2 r1 r2 s1 s2 s3 s4
  go_wp2_with fail
  obtain⟨c0,c1,hB4⟩:=aK HB.o.r HB.o.bel (by omega) (-p) (p-1)
  exact bodyPost_ret (v:=.agg #[.int .i64 (-p),.int .i64 (p-1)]) (by simp[results,Tryz.results115,go_sem,c0,c1]) rfl ⟨rfl,hB4⟩
 ·have e3:decide (a < 0)=false:=by simp;omega
  have e4:decide (c < 0)=true:=by simp;omega
  rw[show dV 17 a b c d=(-iI a b c d,iI a b c d-1) by unfold dV;rw[if_pos (by omega)]]
  generalize iI a b c d=p at *
  go_enter Tryz.func115,Tryz.ntmps115
  go_wp2_with fail
  refine HR.o.mono ?_
  rintro e w2 ⟨rfl,hw2⟩
  have hq:=hw2.symm
  subst hq
  clear hw2
  have f:=fun x' y':Int=>HB.o.later (aH _ (cs x' y'))
  have q1:=fun x' y'=>(aF (f x' y').a).1
  have q2:=fun x' y'=>(aF (f x' y').a).2.1
  have r1:=fun x' y'=>(aF (f x' y').b).1
  have r2:=fun x' y'=>(aF (f x' y').b).2.1
  have s1:=fun x' y'=>(aF (f x' y').r).1
  have s2:=fun x' y'=>(aF (f x' y').r).2.1
  have s3:=fun x' y'=>(aF (f x' y').r).2.2.1
  have s4:=fun x' y'=>(aF (f x' y').r).2.2.2
  have HB2:=aC f
  clear f
  obtain⟨u1,u2,-,-⟩:=aF HB.o.a
  obtain⟨u3,u4,-,-⟩:=aF HB.o.b
  obtain⟨u5,u6,u7,u8⟩:=aF HB.o.r
  obtain⟨W,hW⟩:∃ W,((((w.alloc (.cells #[.int .i64 a,.int .i64 b] 81)).alloc (.cells #[.int .i64 c,.int .i64 d] 81)).alloc (.cells #[.int .i64 0,.int .i64 0] 81)).alloc (.cells #[.int .i64 a,.int .i64 b,.int .i64 c,.int .i64 d] 3))=W:=⟨_,rfl⟩
  rw[hW] at q1 q2 r1 r2 s1 s2 s3 s4 u1 u2 u3 u4 u5 u6 u7 u8 HB HB2 ⊢
  clear hW
  clear q1 q2 r1 r2 s1 s2 s3 s4
  go_wp2_with fail
  obtain⟨c0,c1,hB4⟩:=aK HB.o.r HB.o.bel (by omega) (-p) (p-1)
  exact bodyPost_ret (v:=.agg #[.int .i64 (-p),.int .i64 (p-1)]) (by simp[results,Tryz.results115,go_sem,c0,c1]) rfl ⟨rfl,hB4⟩
 ·have e3:decide (a < 0)=false:=by simp;omega
  have e4:decide (c < 0)=false:=by simp;omega
  rw[show dV 17 a b c d=(0,iI a b c d-1) by unfold dV;rw[if_neg (by omega),if_neg (by decide)]]
  generalize iI a b c d=p at *
  go_enter Tryz.func115,Tryz.ntmps115
  go_wp2_with fail
  refine HR.o.mono ?_
  rintro e w2 ⟨rfl,hw2⟩
  have hq:=hw2.symm
  subst hq
  clear hw2
  have f:=fun x' y':Int=>HB.o.later (aH _ (cs x' y'))
  have q1:=fun x' y'=>(aF (f x' y').a).1
  have q2:=fun x' y'=>(aF (f x' y').a).2.1
  have r1:=fun x' y'=>(aF (f x' y').b).1
  have r2:=fun x' y'=>(aF (f x' y').b).2.1
  have s1:=fun x' y'=>(aF (f x' y').r).1
  have s2:=fun x' y'=>(aF (f x' y').r).2.1
  have s3:=fun x' y'=>(aF (f x' y').r).2.2.1
  have s4:=fun x' y'=>(aF (f x' y').r).2.2.2
  have HB2:=aC f
  clear f
  obtain⟨u1,u2,-,-⟩:=aF HB.o.a
  obtain⟨u3,u4,-,-⟩:=aF HB.o.b
  obtain⟨u5,u6,u7,u8⟩:=aF HB.o.r
  obtain⟨W,hW⟩:∃ W,((((w.alloc (.cells #[.int .i64 a,.int .i64 b] 81)).alloc (.cells #[.int .i64 c,.int .i64 d] 81)).alloc (.cells #[.int .i64 0,.int .i64 0] 81)).alloc (.cells #[.int .i64 a,.int .i64 b,.int .i64 c,.int .i64 d] 3))=W:=⟨_,rfl⟩
  rw[hW] at q1 q2 r1 r2 s1 s2 s3 s4 u1 u2 u3 u4 u5 u6 u7 u8 HB HB2 ⊢
  clear hW
  clear q1 q2 r1 r2 s1 s2 s3 s4
  go_wp2_with fail
  obtain⟨c0,c1,hB4⟩:=aK HB.o.r HB.o.bel (by omega) (0) (p-1)
  exact bodyPost_ret (v:=.agg #[.int .i64 (0),.int .i64 (p-1)]) (by simp[results,Tryz.results115,go_sem,c0,c1]) rfl ⟨rfl,hB4⟩
end Go.Proofs.Spn
