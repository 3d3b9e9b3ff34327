import Derived.Test.YtijbmdmeiancgaaGreatXH
import Derived.Test.YtijbmdmeiancgaaGreatX08
import Derived.Test.YtijbmdmeiancgaaGreatX12
import Derived.Test.YtijbmdmeiancgaaGreatX13
set_option maxRecDepth 100000
set_option maxHeartbeats 32000000
set_option linter.unusedVariables false
namespace Go.Proofs.Spn
open Go.RowKit Go.IntWalk Go.Sort
theorem vF (op a b c d:Int)(g:Int->Int->Int)(H:∀ x y w,(x=a\/x=b)->(y=c\/y=d)->Calls Tryz.prog 139 #[.int .i64 op,.int .i64 x,.int .i64 y] w fun e w'=>e=.returned (.int .i64 (g x y))/\w'=w)(W:World) :
  Calls Tryz.prog 114 #[.int .i64 op,.agg #[.int .i64 a,.int .i64 b],.agg #[.int .i64 c,.int .i64 d]] W fun e w' =>
   e=.returned (.agg #[.int .i64 (min (min (min (g a c) (g a d)) (g b c)) (g b d),max (max (max (g a c) (g a d)) (g b c)) (g b d)).1,.int .i64 (min (min (min (g a c) (g a d)) (g b c)) (g b d),max (max (max (g a c) (g a d)) (g b c)) (g b d)).2])/\Below W.heap.size W w':=by
 have h:=yP op a b c d g W H
 rw[(h4 _ _ _ _).1,(h4 _ _ _ _).2] at h
 exact h
theorem w2 {a b x:Int}(ha:bF a)(hb:bF b)(h:x=a\/x=b):bF x:=by rcases h with rfl|rfl <;> assumption
theorem aAa (op k s a b c d:Int)(ho:ar op=2)(h1:jE a b=true)(h2:jE c d=true) :
  ∃ Z,eD Z=eD (bR op k s [(a,b),(c,d)])/\∀ W,Calls Tryz.prog 119 #[.int .i64 op,.agg #[.int .i64 a,.int .i64 b],.agg #[.int .i64 c,.int .i64 d]] W fun r w'=>r=.returned (lH Z)/\Below W.heap.size W w':=by
 obtain⟨hab,A1,A2,B1,B2⟩:=bH.1 h1
 obtain⟨hcd,C1,C2,D1,D2⟩:=bH.1 h2
 have ha:bF a:=⟨A1,A2⟩
 have hb:bF b:=⟨B1,B2⟩
 have hc:bF c:=⟨C1,C2⟩
 have hd:bF d:=⟨D1,D2⟩
 have f1:mV [(a,b),(c,d)]=[a,c]:=rfl
 have f2:nO [(a,b),(c,d)]=[b,d]:=rfl
 obtain⟨t22,t23,t15,t16,t17,t8,t9⟩:=aRf a b c d
 rcases aA8 ho with hop|hop|hop|hop
 ·rw[aHz hop]
  by_cases h0:hasB c d 0=true
  ·refine⟨((0,0),12),?_,fun W=>aDr op a b c d W hop h0⟩
   unfold oQ
   rw[if_pos h0]
  ·have h0':hasB c d 0=false:=by simpa using h0
   have hn:¬(c<=0/\0<=d):=fun hh=>h0 (mI.2 hh)
   unfold oQ
   rw[if_neg h0]
   rcases hop with rfl|rfl
   ·rw[if_pos rfl]
    refine⟨_,?_,fun W=>aJi a b c d _ W h0' (vF 11 a b c d (fun x y=>x.tdiv y) fun x y w hx hy=>aM0 x y w (w2 ha hb hx) (w2 hc hd hy) (by omega))⟩
    exact iQ (v11 ha hc (by omega)) (v11 ha hd (by omega)) (v11 hb hc (by omega)) (v11 hb hd (by omega))
   ·rw[if_neg (by decide)]
    exact⟨_,rfl,fun W=>aI0 a b c d W ha hb hc hd hcd h0'⟩
 ·rw[aFk hop]
  rcases hop with rfl|hop|hop|hop
  ·refine⟨_,?_,fun W=>gZ 10 114 a b c d _ W (.inl ⟨rfl,rfl⟩) (vF 10 a b c d (fun x y=>x*y) fun x y w hx hy=>aDz x y w (w2 ha hb hx) (w2 hc hd hy))⟩
   exact iQ (v10 ha hc) (v10 ha hd) (v10 hb hc) (v10 hb hd)
  ·subst hop
   by_cases hs:0<=c/\d<=31
   ·refine⟨_,?_,fun W=>aBl 13 a b c d _ W (.inl rfl) hs (vF 13 a b c d (fun x y=>x*2 ^ y.toNat) fun x y w hx hy=>aD6 x y w (w2 ha hb hx) (by omega))⟩
    exact iQ (v13 ha hc (by omega)) (v13 ha hd (by omega)) (v13 hb hc (by omega)) (v13 hb hd (by omega))
   ·exact⟨_,aJ5 (.inl rfl) ha hb hc hd hcd (by omega),fun W=>qP 13 a b c d W (.inl rfl) (by omega)⟩
  ·subst hop
   by_cases hs:0<=c/\d<=31
   ·refine⟨_,?_,fun W=>aBl 14 a b c d _ W (.inr rfl) hs (vF 14 a b c d (fun x y=>x / 2 ^ y.toNat) fun x y w hx hy=>aFc x y w (w2 ha hb hx) (by omega))⟩
    exact iQ (v14 ha hc (by omega)) (v14 ha hd (by omega)) (v14 hb hc (by omega)) (v14 hb hd (by omega))
   ·exact⟨_,aJ5 (.inr rfl) ha hb hc hd hcd (by omega),fun W=>qP 14 a b c d W (.inr rfl) (by omega)⟩
  ·refine⟨_,aLg hop ha hb hc hd hab hcd,?_⟩
   intro W
   refine gZ op 141 a b c d _ W (.inr (.inr ⟨rfl,by omega⟩)) fun W=>?_
   rcases hop with rfl|rfl|rfl|rfl
   ·exact aNa a b c d W
   ·exact aK7 a b c d W
   ·exact aMz a b c d W
   ·exact aMb a b c d W
 ·rw[fK (by omega)]
  rcases hop with rfl|rfl
  ·refine⟨_,?_,fun W=>aJs a b c d W⟩
   exact jN (by rw[f1,<-jO (bE.2 (by omega))];exact v24 ha hc) (by rw[f2,<-jO (bE.2 (by omega))];exact v24 hb hd)
  ·refine⟨_,?_,fun W=>aKi a b c d W⟩
   exact jN (by rw[f1,<-jO (bE.2 (by omega))];exact v25 ha hc) (by rw[f2,<-jO (bE.2 (by omega))];exact v25 hb hd)
 ·rw[aJw hop]
  rcases hop with rfl|rfl|rfl|rfl|rfl|rfl|rfl
  ·rw[t8];exact⟨_,rfl,fun W=>aLr a b c d W ha hb hc hd⟩
  ·rw[t9];exact⟨_,rfl,fun W=>aLi a b c d W ha hb hc hd⟩
  ·rw[t15];exact⟨_,rfl,fun W=>gZ 15 115 a b c d _ W (.inr (.inl ⟨rfl,by omega⟩)) fun W=>aAz a b c d W ha hb hc hd⟩
  ·rw[t16];exact⟨_,rfl,fun W=>gZ 16 115 a b c d _ W (.inr (.inl ⟨rfl,by omega⟩)) fun W=>aNi a b c d W ha hb hc hd⟩
  ·rw[t17];exact⟨_,rfl,fun W=>gZ 17 115 a b c d _ W (.inr (.inl ⟨rfl,by omega⟩)) fun W=>aNl a b c d W ha hb hc hd⟩
  ·rw[t22];exact⟨_,rfl,fun W=>gZ 22 141 a b c d _ W (.inr (.inr ⟨rfl,by omega⟩)) fun W=>aMm a b c d W⟩
  ·rw[t23];exact⟨_,rfl,fun W=>gZ 23 141 a b c d _ W (.inr (.inr ⟨rfl,by omega⟩)) fun W=>aNj a b c d W⟩
theorem aIa (op k s x y:Int)(ho:ar op=1)(hco:cons op k s=true)(hw:jE x y=true) :
  ∃ Z,eD Z=eD (bR op k s [(x,y)])/\∀(bb off cap:Nat) (w:World),1<=cap->bb < w.heap.size->w.cell? ⟨bb,off,none⟩=some (.int .i64 x)->w.cell? ⟨bb,off+1,none⟩=some (.int .i64 y) ->
   Calls Tryz.prog 83 #[.int .i64 op,.int .i64 k,.int .i64 s,.slice (some ⟨bb,off,none⟩) 1 cap] w fun r w'=>r=.returned (lH Z)/\Below w.heap.size w w':=by
 obtain⟨hxy,X1,X2,Y1,Y2⟩:=bH.1 hw
 have hx:bF x:=⟨X1,X2⟩
 have hy:bF y:=⟨Y1,Y2⟩
 have f1:mV [(x,y)]=[x]:=rfl
 have f2:nO [(x,y)]=[y]:=rfl
 rcases mG ho with rfl|rfl|rfl|rfl|rfl|rfl|rfl|rfl
 ·rw[yR (.inl rfl)]
  exact⟨_,rfl,fun bb off cap w hcap hlt c0 c1=>aIg k s x y bb off cap w hcap hlt c0 c1 hx hy⟩
 ·rw[yR (.inr rfl),<-aS1 hxy]
  exact⟨_,rfl,fun bb off cap w hcap hlt c0 c1=>aI4 k s x y bb off cap w hcap hlt c0 c1 hx hy⟩
 ·rw[fK (by simp)]
  refine⟨_,?_,fun bb off cap w hcap hlt c0 c1=>aI8 k s x y bb off cap w hcap hlt c0 c1 hx hy⟩
  have t1:=qU (0 < x)
  have t2:=qU (x < 0)
  have t3:=qU (0 < y)
  have t4:=qU (y < 0)
  rw[v7 hx,v7 hy]
  exact jN (by rw[f1,<-jO (bE.2 (by omega))];exact v7 hx) (by rw[f2,<-jO (bE.2 (by omega))];exact v7 hy)
 ·have hk:dW k 0 31=true:=hco
  have hk':=aP.1 hk
  have hkw:bF k:=⟨by omega,by omega⟩
  rw[fK (by simp)]
  refine⟨_,?_,fun bb off cap w hcap hlt c0 c1=>aGv k s x y bb off cap w hcap hlt c0 c1 hx hy _ (vF 13 x y k k (fun x y=>x*2 ^ y.toNat) fun u v w hu hv=>aD6 u v w (w2 hx hy hu) (by omega))⟩
  have hp:=(fF (Nat.le_refl k.toNat)).2
  have hle:x*2 ^ k.toNat<=y*2 ^ k.toNat:=Int.mul_le_mul_of_nonneg_right hxy (by omega)
  generalize hX:x * 2 ^ k.toNat=X at *
  generalize hY:y * 2 ^ k.toNat=Y at *
  rw[show min (min (min X X) Y) Y=X by omega,show max (max (max X X) Y) Y=Y by omega,<-hX,<-hY]
  exact jN (v29 hco hx) (v29 hco hy)
 ·have hk:dW k 0 31=true:=hco
  have hk':=aP.1 hk
  have hkw:bF k:=⟨by omega,by omega⟩
  rw[fK (by simp)]
  refine⟨_,?_,fun bb off cap w hcap hlt c0 c1=>aF4 k s x y bb off cap w hcap hlt c0 c1 hx hy _ (vF 14 x y k k (fun x y=>x / 2 ^ y.toNat) fun u v w hu hv=>aFc u v w (w2 hx hy hu) (by omega))⟩
  have hp:=(fF (Nat.le_refl k.toNat)).2
  have hle:x / 2 ^ k.toNat<=y / 2 ^ k.toNat:=gB (by omega) hxy
  generalize hX:x / 2 ^ k.toNat=X at *
  generalize hY:y / 2 ^ k.toNat=Y at *
  rw[show min (min (min X X) Y) Y=X by omega,show max (max (max X X) Y) Y=Y by omega,<-hX,<-hY]
  exact jN (v30 hco hx) (v30 hco hy)
 ·have hk:dW k 0 2147483647=true:=hco
  have hk':=aP.1 hk
  have hkw:bF k:=⟨by omega,by omega⟩
  rw[aEz rfl]
  exact⟨_,rfl,fun bb off cap w hcap hlt c0 c1=>aG4 k s x y bb off cap w hcap hlt c0 c1 hx hy _ fun W=>aAz x y k k W hx hy hkw hkw⟩
 ·have hk:wd k=true:=hco
  have hkw:bF k:=bE.1 hk
  rw[aFa rfl]
  refine⟨_,?_,fun bb off cap w hcap hlt c0 c1=>aHc k s x y bb off cap w hcap hlt c0 c1 hx hy _ (vF 10 x y k k (fun x y=>x*y) fun u v w hu hv=>aDz u v w (w2 hx hy hu) (w2 hkw hkw hv))⟩
  exact iQ (v10 hx hkw) (v10 hx hkw) (v10 hy hkw) (v10 hy hkw)
 ·have hk:(dW k 1 4611686018427387904&&dW s 0 62)=true:=hco
  rw[Bool.and_eq_true,aP,aP] at hk
  rw[fK (by simp)]
  obtain⟨M,hM⟩:∃ M,max (max (max x y) (-x)) (-y)=M:=⟨_,rfl⟩
  by_cases hbig:0 < M/\4611686018427387904 / M < k
  ·exact⟨_,aIz hco hx hy hM hbig,fun bb off cap w hcap hlt c0 c1=>wI k s x y bb off cap w hcap hlt c0 c1 hx hy M hM hk.1 hk.2 hbig⟩
  ·obtain⟨m0,m1,m2⟩:=aCx hk.1.1 hM hbig
   exact⟨_,jN (v33 hco hx m1) (v33 hco hy m2),fun bb off cap w hcap hlt c0 c1=>aFp k s x y bb off cap w hcap hlt c0 c1 hx hy M hM hk.1 hk.2 hbig (aEg hk.1.1 m1) (aEg hk.1.1 m2)⟩
theorem aCh (op k s a b c d e f:Int)(ho:ar op=3)(h1:jE a b=true)(h2:jE c d=true)(h3:jE e f=true) :
  ∃ Z,eD Z=eD (bR op k s [(a,b),(c,d),(e,f)])/\∀(bb off cap:Nat) (w:World),3<=cap->bb < w.heap.size->w.cell? ⟨bb,off,none⟩=some (.int .i64 a)->w.cell? ⟨bb,off+1,none⟩=some (.int .i64 b) ->
   w.cell? ⟨bb,off+2,none⟩=some (.int .i64 c)->w.cell? ⟨bb,off+2+1,none⟩=some (.int .i64 d)->w.cell? ⟨bb,off+4,none⟩=some (.int .i64 e)->w.cell? ⟨bb,off+4+1,none⟩=some (.int .i64 f) ->
   Calls Tryz.prog 83 #[.int .i64 op,.int .i64 k,.int .i64 s,.slice (some ⟨bb,off,none⟩) 3 cap] w fun r w'=>r=.returned (lH Z)/\Below w.heap.size w w':=by
 obtain⟨hab,A1,A2,B1,B2⟩:=bH.1 h1
 obtain⟨hcd,C1,C2,D1,D2⟩:=bH.1 h2
 obtain⟨hef,E1,E2,F1,F2⟩:=bH.1 h3
 have ha:bF a:=⟨A1,A2⟩
 have hb:bF b:=⟨B1,B2⟩
 have hc:bF c:=⟨C1,C2⟩
 have hd:bF d:=⟨D1,D2⟩
 have he:bF e:=⟨E1,E2⟩
 have hf:bF f:=⟨F1,F2⟩
 have f1:mV [(a,b),(c,d),(e,f)]=[a,c,e]:=rfl
 have f2:nO [(a,b),(c,d),(e,f)]=[b,d,f]:=rfl
 have hr:=aP.1 (iB ho)
 rcases(show op=26\/op=27\/op=28 by omega) with rfl|rfl|rfl
 ·rw[fK (by simp)]
  refine⟨_,?_,fun bb off cap w hcap hlt c0 c1 c2 c3 c4 c5=>aFr k s a b c d e f bb off cap w hcap hlt c0 c1 c2 c3 c4 c5⟩
  rw[v26 ha hc he,v26 hb hd hf]
  exact jN (by rw[f1,<-jO (bE.2 (by omega))];exact v26 ha hc he) (by rw[f2,<-jO (bE.2 (by omega))];exact v26 hb hd hf)
 ·rw[fK (by simp)]
  refine⟨_,?_,fun bb off cap w hcap hlt c0 c1 c2 c3 c4 c5=>aHh k s a b c d e f bb off cap w hcap hlt c0 c1 c2 c3 c4 c5⟩
  rw[v27 ha hc he,v27 hb hd hf]
  exact jN (by rw[f1,<-jO (bE.2 (by omega))];exact v27 ha hc he) (by rw[f2,<-jO (bE.2 (by omega))];exact v27 hb hd hf)
 ·rw[aBe rfl,<-aRt hcd hef]
  exact⟨_,rfl,fun bb off cap w hcap hlt c0 c1 c2 c3 c4 c5=>aGm k s a b c d e f bb off cap w hcap hlt c0 c1 c2 c3 c4 c5⟩
theorem aDs (op k s:Int)(a:Option Addr)(n cap:Nat)(L:List (Int × Int))(hm:dU op k s L=true) :
  ∃ Z,eD Z=eD (bR op k s L)/\∀ W,Spans W a n cap L->Calls Tryz.prog 83 #[.int .i64 op,.int .i64 k,.int .i64 s,.slice a n cap] W fun r w'=>r=.returned (lH Z)/\Below W.heap.size W w':=by
 obtain⟨m2,m1,m3,m4,m5⟩:=aAc hm
 match L,m2,m4 with
 | [(x,y)],m2,m4 =>
  obtain⟨Z,hZ,hP⟩:=aIa op k s x y (by simpa using m2.symm) m3 (m4 (x,y) (by simp))
  refine⟨Z,hZ,fun W h=>?_⟩
  have hl:1=n:=h.len
  subst hl
  obtain⟨b,off,rfl,hlt,hc⟩:=h.at (by omega)
  obtain⟨d0,d1⟩:=hc 0 (by simp)
  simp at d0 d1
  exact hP b off cap W h.le hlt d0 d1
 | [(x0,y0),(x1,y1)],m2,m4 =>
  have ho:ar op=2:=by simpa using m2.symm
  obtain⟨Z,hZ,hP⟩:=aAa op k s x0 y0 x1 y1 ho (m4 (x0,y0) (by simp)) (m4 (x1,y1) (by simp))
  refine⟨Z,hZ,fun W h=>?_⟩
  have hl:2=n:=h.len
  subst hl
  obtain⟨b,off,rfl,hlt,hc⟩:=h.at (by omega)
  obtain⟨d0,d1⟩:=hc 0 (by simp)
  obtain⟨d2,d3⟩:=hc 1 (by simp)
  simp at d0 d1 d2 d3
  exact aC0 k s x0 y0 x1 y1 b off cap W h.le hlt d0 d1 d2 d3 op Z (aP.1 (kC ho)) hP
 | [(x0,y0),(x1,y1),(x2,y2)],m2,m4 =>
  obtain⟨Z,hZ,hP⟩:=aCh op k s x0 y0 x1 y1 x2 y2 (by simpa using m2.symm) (m4 (x0,y0) (by simp)) (m4 (x1,y1) (by simp)) (m4 (x2,y2) (by simp))
  refine⟨Z,hZ,fun W h=>?_⟩
  have hl:3=n:=h.len
  subst hl
  obtain⟨b,off,rfl,hlt,hc⟩:=h.at (by omega)
  obtain⟨d0,d1⟩:=hc 0 (by simp)
  obtain⟨d2,d3⟩:=hc 1 (by simp)
  obtain⟨d4,d5⟩:=hc 2 (by simp)
  simp at d0 d1 d2 d3 d4 d5
  exact hP b off cap W h.le hlt d0 d1 d2 d3 d4 d5
 | [],m2,m4=>simp at m2;omega
 | _::_::_::_::_,m2,m4=>simp at m5
theorem aJb (op k s:Int)(a:Option Addr)(n cap:Nat)(L:List (Int × Int))(w:World)(h:Spans w a n cap L)
  (HP:dU op k s L=true->∃ Z,eD Z=eD (bR op k s L)/\∀ W,Spans W a n cap L->Calls Tryz.prog 83 #[.int .i64 op,.int .i64 k,.int .i64 s,.slice a n cap] W fun r w'=>r=.returned (lH Z)/\Below W.heap.size W w') :
  Calls Tryz.prog 48 #[.int .i64 op,.int .i64 k,.int .i64 s,.slice a n cap] w fun r w'=>r=.returned (lH (rV op k s L))/\Below w.heap.size w w':=by
 have HR:=aC (aI.new w 81 #[.int .i64 0,.int .i64 0])
 have HB:=aC (aH w (cs 0 0))
 have hl:=h.len
 have hm1:n<=9223372036854775807:=by have:=h.le;have:=h.max;unfold maxLen at this;omega
 by_cases h1:ar op < 1
 ·have hm:dU op k s L=false:=by simp[dU];omega
  rw[show rV op k s L=((0,0),1) by simp[rV,hm]]
  clear hl h HP hm
  obtain⟨s1,s2,s3,s4⟩:=aF HR.o
  go_enter Tryz.func48,Tryz.ntmps48
  go_wp2_with (first|(go_at_call 54;refine(bZ _ _).mono ?_;rintro e' w' ⟨rfl,rfl⟩)|(go_at_call 81;refine(dR _ _ _ _).mono ?_;rintro e' w' ⟨rfl,rfl⟩))
  exact bodyPost_ret (v:=.tuple #[.agg #[.int .i64 0,.int .i64 0],.int .i64 1]) (by simp[results,Tryz.results48,go_sem,s1,s2]) rfl ⟨rfl,HB.o⟩
 by_cases h2:(n:Int)=ar op
 ·have h2':((n:Int) != ar op)=false:=by simp[h2]
  cases hc:cons op k s
  ·have hm:dU op k s L=false:=by simp[dU,hc]
   rw[show rV op k s L=((0,0),1) by simp[rV,hm]]
   clear h2
   clear hl h HP hm
   obtain⟨s1,s2,s3,s4⟩:=aF HR.o
   go_enter Tryz.func48,Tryz.ntmps48
   go_wp2_with (first|(go_at_call 54;refine(bZ _ _).mono ?_;rintro e' w' ⟨rfl,rfl⟩)|(go_at_call 81;refine(dR _ _ _ _).mono ?_;rintro e' w' ⟨rfl,rfl⟩))
   exact bodyPost_ret (v:=.tuple #[.agg #[.int .i64 0,.int .i64 0],.int .i64 1]) (by simp[results,Tryz.results48,go_sem,s1,s2]) rfl ⟨rfl,HB.o⟩
  ·have HMay:Hid (dU op k s L=L.all zW):=aC (by simp[dU,hc,hl,h2];omega)
   have HL:=aC hl
   have H:=aC h
   have HPl:=aC HP
   clear hl h2 h HP
   go_enter Tryz.func48,Tryz.ntmps48
   go_wp2_with (first|(go_at_call 54;refine(bZ _ _).mono ?_;rintro e' w' ⟨rfl,rfl⟩)|(go_at_call 81;refine(dR _ _ _ _).mono ?_;rintro e' w' ⟨rfl,rfl⟩))
   have HR0:=aC HR.o
   have HB0:=aC HB.o
   go_loopw [10] (fun i wr=>∃ j:Nat,j<=n/\i=.int .i64 j/\(L.take j).all zW=true/\aI wr w.heap.size 81 #[.int .i64 0,.int .i64 0]/\Below w.heap.size w wr) (fun i _=>n-(intOf i).toNat)
   case atStart=>exact⟨0,Nat.zero_le _,rfl,rfl,HR0.o,HB0.o⟩
   case round =>
    rename_i wr
    obtain⟨j,hj,rfl,hA,hR,hB⟩:=hrel
    have HA:=aC hA
    have HR:=aC hR
    have HB:=aC hB
    clear hA hB hR HR0 HB0
    by_cases hlt:j < n
    ·obtain⟨bb,off,rfl,hbb,hcell⟩:=(H.o.later HB.o).at (by omega)
     obtain⟨g1,g2⟩:=hcell j hlt
     clear hcell
     obtain⟨⟨x,y⟩,hxy⟩:∃ p,L.getD j (0,0)=p:=⟨_,rfl⟩
     rw[hxy] at g1 g2
     have HXY:=aC hxy
     clear hxy
     have hj0:(0:Int)<=(j:Int):=by omega
     have hj1:(j:Int) < (n:Int):=by omega
     have HWh:=fun w=>aC (vU x y w)
     cases hx:jE x y
     ·rw[hx] at HWh
      have hm:dU op k s L=false:=by
       rw[HMay.o,List.all_eq_false]
       refine⟨(x,y),?_,by simp[zW,hx]⟩
       rw[<-HXY.o]
       simp[List.getD,HL.o,hlt]
      have HO:Hid (rV op k s L=((0,0),1)):=aC (by simp[rV,hm])
      clear hm
      go_wp2_with fail
      refine(HWh _).o.mono ?_
      rintro e w2 ⟨rfl,hb2⟩
      have hR2:=HR.o.below hb2
      have hB2:=bel HB.o hb2
      obtain⟨s1,s2,s3,s4⟩:=aF hR2
      clear hb2
      go_wp2_with fail
      obtain⟨d0,d1,hB4⟩:=aK hR2 hB2 (by omega) 0 0
      exact bodyPost_ret (v:=.tuple #[.agg #[.int .i64 0,.int .i64 0],.int .i64 1]) (by simp[results,Tryz.results48,go_sem,d0,d1]) rfl ⟨by rw[HO.o],hB4⟩
     ·rw[hx] at HWh
      go_wp2_with fail
      refine(HWh _).o.mono ?_
      rintro e w2 ⟨rfl,hb2⟩
      have HR2:=aC (HR.o.below hb2)
      have HB2:=aC (bel HB.o hb2)
      clear hb2
      go_wp2_with fail
      go_roundw
      case rel=>exact⟨j+1,by omega,by go_num,nK (by rw[HL.o];exact hlt) HA.o HXY.o hx,HR2.o,HB2.o⟩
      case measure=>simp[intOf];omega
    ·have hA:=HA.o
     rw[List.take_of_length_le (by rw[HL.o];omega)] at hA
     have hm:dU op k s L=true:=by rw[HMay.o];exact hA
     obtain⟨⟨⟨x,y⟩,e⟩,hZ,hP⟩:=HPl.o hm
     have HO0:rV op k s L=eD ((x,y),e):=by rw[hZ];simp[rV,hm]
     have HPw:=aC (hP wr (H.o.later HB.o))
     clear hP hZ hm hA HPl HMay HL H
     by_cases he:e=0
     ·subst he
      have HWh:=fun w=>aC (vU x y w)
      cases hx:jE x y
      ·have HO:=aC (HO0.trans (show eD ((x,y),0)=((0,0),13) by simp[eD,hx]))
       clear HO0
       rw[hx] at HWh
       go_wp2_with fail
       refine HPw.o.mono ?_
       rintro e w3 ⟨rfl,hb3⟩
       have HR3:=aC (HR.o.below hb3)
       have HB3:=aC (bel HB.o hb3)
       clear hb3
       go_wp2_with fail
       refine(HWh _).o.mono ?_
       rintro e w4 ⟨rfl,hb4⟩
       have hR:=(HR3.o.alloc (cs x y)).below hb4
       have hB:=bel (bel HB3.o (aH _ _)) hb4
       obtain⟨s1,s2,s3,s4⟩:=aF hR
       clear hb4
       go_wp2_with fail
       obtain⟨d0,d1,hB4⟩:=aK hR hB (by omega) 0 0
       exact bodyPost_ret (v:=.tuple #[.agg #[.int .i64 0,.int .i64 0],.int .i64 13]) (by simp[results,Tryz.results48,go_sem,d0,d1]) rfl ⟨by rw[HO.o],hB4⟩
      ·have HO:=aC (HO0.trans (show eD ((x,y),0)=((x,y),0) by simp[eD,hx]))
       clear HO0
       rw[hx] at HWh
       go_wp2_with fail
       refine HPw.o.mono ?_
       rintro e w3 ⟨rfl,hb3⟩
       have HR3:=aC (HR.o.below hb3)
       have HB3:=aC (bel HB.o hb3)
       clear hb3
       go_wp2_with fail
       refine(HWh _).o.mono ?_
       rintro e w4 ⟨rfl,hb4⟩
       have hR:=(HR3.o.alloc (cs x y)).below hb4
       have hN:=(aI.new w3 81 #[.int .i64 x,.int .i64 y]).below hb4
       have hB:=bel (bel HB3.o (aH _ _)) hb4
       obtain⟨s1,s2,s3,s4⟩:=aF hR
       obtain⟨n1,n2,-,-⟩:=aF hN
       clear hb4
       go_wp2_with fail
       obtain⟨d0,d1,hB4⟩:=aK hR hB (by omega) x y
       exact bodyPost_ret (v:=.tuple #[.agg #[.int .i64 x,.int .i64 y],.int .i64 0]) (by simp[results,Tryz.results48,go_sem,d0,d1]) rfl ⟨by rw[HO.o],hB4⟩
     ·have HO:=aC (HO0.trans (show eD ((x,y),e)=((0,0),e) by simp[eD,he]))
      clear HO0
      have he':(e != 0)=true:=by simp[he]
      clear he
      go_wp2_with fail
      refine HPw.o.mono ?_
      rintro e' w3 ⟨rfl,hb3⟩
      have hR:=(HR.o.below hb3).alloc (cs x y)
      have hB:=bel (bel HB.o hb3) (aH _ (cs x y))
      obtain⟨s1,s2,s3,s4⟩:=aF hR
      clear hb3
      go_wp2_with fail
      obtain⟨d0,d1,hB4⟩:=aK hR hB (by omega) 0 0
      exact bodyPost_ret (v:=.tuple #[.agg #[.int .i64 0,.int .i64 0],.int .i64 e]) (by simp[results,Tryz.results48,go_sem,d0,d1]) rfl ⟨by rw[HO.o],hB4⟩
 ·have h2':((n:Int) != ar op)=true:=by simp[h2]
  have hm:dU op k s L=false:=by simp[dU,hl,h2]
  rw[show rV op k s L=((0,0),1) by simp[rV,hm]]
  clear h2
  clear hl h HP hm
  obtain⟨s1,s2,s3,s4⟩:=aF HR.o
  go_enter Tryz.func48,Tryz.ntmps48
  go_wp2_with (first|(go_at_call 54;refine(bZ _ _).mono ?_;rintro e' w' ⟨rfl,rfl⟩)|(go_at_call 81;refine(dR _ _ _ _).mono ?_;rintro e' w' ⟨rfl,rfl⟩))
  exact bodyPost_ret (v:=.tuple #[.agg #[.int .i64 0,.int .i64 0],.int .i64 1]) (by simp[results,Tryz.results48,go_sem,s1,s2]) rfl ⟨rfl,HB.o⟩
theorem aM8 (op k s:Int)(a:Option Addr)(n cap:Nat)(L:List (Int × Int))(w:World)(h:Spans w a n cap L) :
  Calls Tryz.prog 48 #[.int .i64 op,.int .i64 k,.int .i64 s,.slice a n cap] w fun r w'=>r=.returned (lH (rV op k s L))/\Below w.heap.size w w' :=
 aJb op k s a n cap L w h fun hm=>aDs op k s a n cap L hm
end Go.Proofs.Spn
