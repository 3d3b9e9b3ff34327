import Derived.Test.YtijbmdmeiancgaaGreatXH
import Derived.Test.YtijbmdmeiancgaaGreatX11
set_option maxRecDepth 100000
set_option maxHeartbeats 32000000
set_option linter.unusedVariables false
namespace Go.Proofs.Spn
open Go.RowKit Go.IntWalk Go.Sort
theorem aMm (a b c d:Int)(w:World):Calls Tryz.prog 141 #[.int .i64 22,.agg #[.int .i64 a,.int .i64 b],.agg #[.int .i64 c,.int .i64 d]] w fun e w'=>e=.returned (.agg #[.int .i64 (fH a b c d).1,.int .i64 (fH a b c d).2])/\Below w.heap.size w w':=by
 have HB:=aC (B3.start w a b c d 0 0)
 rcases(show (b < c/\a≠b)\/(b < c/\(a=b/\c≠d))\/(b < c/\(a=b/\c=d/\a≠c))\/((c<=b/\d < a)/\a≠b)\/((c<=b/\d < a)/\(a=b/\c≠d))\/((c<=b/\d < a)/\(a=b/\c=d/\a≠c))\/((c<=b/\a<=d)/\a≠b)\/((c<=b/\a<=d)/\(a=b/\c≠d))\/((c<=b/\a<=d)/\(a=b/\c=d/\a=c)) by omega) with g|g|g|g|g|g|g|g|g
 ·have e1:decide (b < c)=true:=by simp;omega
  have e3:(a==b)=false:=by simp;omega
  rw[show fH a b c d=(0,0) by unfold fH;rw[if_pos (by omega)]]
  clear g
  go_enter Tryz.func141,Tryz.ntmps141
  go_wp2
  exact bodyPost_ret (v:=.agg #[.int .i64 0,.int .i64 0]) (by simp[results,Tryz.results141,go_sem]) rfl ⟨rfl,fV _ _ _ _ _⟩
 ·have e1:decide (b < c)=true:=by simp;omega
  have e3:(a==b)=true:=by simp;omega
  have e4:(c==d)=false:=by simp;omega
  rw[show fH a b c d=(0,0) by unfold fH;rw[if_pos (by omega)]]
  clear g
  go_enter Tryz.func141,Tryz.ntmps141
  go_wp2
  exact bodyPost_ret (v:=.agg #[.int .i64 0,.int .i64 0]) (by simp[results,Tryz.results141,go_sem]) rfl ⟨rfl,fV _ _ _ _ _⟩
 ·have e1:decide (b < c)=true:=by simp;omega
  have e3:(a==b)=true:=by simp;omega
  have e4:(c==d)=true:=by simp;omega
  have e5:(a==c)=false:=by simp;omega
  rw[show fH a b c d=(0,0) by unfold fH;rw[if_pos (by omega)]]
  clear g
  go_enter Tryz.func141,Tryz.ntmps141
  go_wp2
  exact bodyPost_ret (v:=.agg #[.int .i64 0,.int .i64 0]) (by simp[results,Tryz.results141,go_sem]) rfl ⟨rfl,fV _ _ _ _ _⟩
 ·have e1:decide (b < c)=false:=by simp;omega
  have e2:decide (d < a)=true:=by simp;omega
  have e3:(a==b)=false:=by simp;omega
  rw[show fH a b c d=(0,0) by unfold fH;rw[if_pos (by omega)]]
  clear g
  go_enter Tryz.func141,Tryz.ntmps141
  go_wp2
  exact bodyPost_ret (v:=.agg #[.int .i64 0,.int .i64 0]) (by simp[results,Tryz.results141,go_sem]) rfl ⟨rfl,fV _ _ _ _ _⟩
 ·have e1:decide (b < c)=false:=by simp;omega
  have e2:decide (d < a)=true:=by simp;omega
  have e3:(a==b)=true:=by simp;omega
  have e4:(c==d)=false:=by simp;omega
  rw[show fH a b c d=(0,0) by unfold fH;rw[if_pos (by omega)]]
  clear g
  go_enter Tryz.func141,Tryz.ntmps141
  go_wp2
  exact bodyPost_ret (v:=.agg #[.int .i64 0,.int .i64 0]) (by simp[results,Tryz.results141,go_sem]) rfl ⟨rfl,fV _ _ _ _ _⟩
 ·have e1:decide (b < c)=false:=by simp;omega
  have e2:decide (d < a)=true:=by simp;omega
  have e3:(a==b)=true:=by simp;omega
  have e4:(c==d)=true:=by simp;omega
  have e5:(a==c)=false:=by simp;omega
  rw[show fH a b c d=(0,0) by unfold fH;rw[if_pos (by omega)]]
  clear g
  go_enter Tryz.func141,Tryz.ntmps141
  go_wp2
  exact bodyPost_ret (v:=.agg #[.int .i64 0,.int .i64 0]) (by simp[results,Tryz.results141,go_sem]) rfl ⟨rfl,fV _ _ _ _ _⟩
 ·have e1:decide (b < c)=false:=by simp;omega
  have e2:decide (d < a)=false:=by simp;omega
  have e3:(a==b)=false:=by simp;omega
  rw[show fH a b c d=(0,1) by unfold fH;rw[if_neg (by omega),if_neg (by omega)]]
  clear g
  go_enter Tryz.func141,Tryz.ntmps141
  go_wp2
  exact bodyPost_ret (v:=.agg #[.int .i64 0,.int .i64 1]) (by simp[results,Tryz.results141,go_sem]) rfl ⟨rfl,fV _ _ _ _ _⟩
 ·have e1:decide (b < c)=false:=by simp;omega
  have e2:decide (d < a)=false:=by simp;omega
  have e3:(a==b)=true:=by simp;omega
  have e4:(c==d)=false:=by simp;omega
  rw[show fH a b c d=(0,1) by unfold fH;rw[if_neg (by omega),if_neg (by omega)]]
  clear g
  go_enter Tryz.func141,Tryz.ntmps141
  go_wp2
  exact bodyPost_ret (v:=.agg #[.int .i64 0,.int .i64 1]) (by simp[results,Tryz.results141,go_sem]) rfl ⟨rfl,fV _ _ _ _ _⟩
 ·have e1:decide (b < c)=false:=by simp;omega
  have e2:decide (d < a)=false:=by simp;omega
  have e3:(a==b)=true:=by simp;omega
  have e4:(c==d)=true:=by simp;omega
  have e5:(a==c)=true:=by simp;omega
  rw[show fH a b c d=(1,1) by unfold fH;rw[if_neg (by omega),if_pos (by omega)]]
  clear g
  go_enter Tryz.func141,Tryz.ntmps141
  go_wp2
  exact bodyPost_ret (v:=.agg #[.int .i64 1,.int .i64 1]) (by simp[results,Tryz.results141,go_sem]) rfl ⟨rfl,fV _ _ _ _ _⟩
theorem aNj (a b c d:Int)(w:World):Calls Tryz.prog 141 #[.int .i64 23,.agg #[.int .i64 a,.int .i64 b],.agg #[.int .i64 c,.int .i64 d]] w fun e w'=>e=.returned (.agg #[.int .i64 (1-(fH a b c d).2),.int .i64 (1-(fH a b c d).1)])/\Below w.heap.size w w':=by
 have HB:=aC (B3.start w a b c d 0 0)
 rcases(show (b < c/\a≠b)\/(b < c/\(a=b/\c≠d))\/(b < c/\(a=b/\c=d/\a≠c))\/((c<=b/\d < a)/\a≠b)\/((c<=b/\d < a)/\(a=b/\c≠d))\/((c<=b/\d < a)/\(a=b/\c=d/\a≠c))\/((c<=b/\a<=d)/\a≠b)\/((c<=b/\a<=d)/\(a=b/\c≠d))\/((c<=b/\a<=d)/\(a=b/\c=d/\a=c)) by omega) with g|g|g|g|g|g|g|g|g
 ·have e1:decide (b < c)=true:=by simp;omega
  have e3:(a==b)=false:=by simp;omega
  rw[show fH a b c d=(0,0) by unfold fH;rw[if_pos (by omega)]]
  clear g
  go_enter Tryz.func141,Tryz.ntmps141
  go_wp2
  exact bodyPost_ret (v:=.agg #[.int .i64 1,.int .i64 1]) (by simp[results,Tryz.results141,go_sem]) rfl ⟨rfl,fV _ _ _ _ _⟩
 ·have e1:decide (b < c)=true:=by simp;omega
  have e3:(a==b)=true:=by simp;omega
  have e4:(c==d)=false:=by simp;omega
  rw[show fH a b c d=(0,0) by unfold fH;rw[if_pos (by omega)]]
  clear g
  go_enter Tryz.func141,Tryz.ntmps141
  go_wp2
  exact bodyPost_ret (v:=.agg #[.int .i64 1,.int .i64 1]) (by simp[results,Tryz.results141,go_sem]) rfl ⟨rfl,fV _ _ _ _ _⟩
 ·have e1:decide (b < c)=true:=by simp;omega
  have e3:(a==b)=true:=by simp;omega
  have e4:(c==d)=true:=by simp;omega
  have e5:(a==c)=false:=by simp;omega
  rw[show fH a b c d=(0,0) by unfold fH;rw[if_pos (by omega)]]
  clear g
  go_enter Tryz.func141,Tryz.ntmps141
  go_wp2
  exact bodyPost_ret (v:=.agg #[.int .i64 1,.int .i64 1]) (by simp[results,Tryz.results141,go_sem]) rfl ⟨rfl,fV _ _ _ _ _⟩
 ·have e1:decide (b < c)=false:=by simp;omega
  have e2:decide (d < a)=true:=by simp;omega
  have e3:(a==b)=false:=by simp;omega
  rw[show fH a b c d=(0,0) by unfold fH;rw[if_pos (by omega)]]
  clear g
  go_enter Tryz.func141,Tryz.ntmps141
  go_wp2
  exact bodyPost_ret (v:=.agg #[.int .i64 1,.int .i64 1]) (by simp[results,Tryz.results141,go_sem]) rfl ⟨rfl,fV _ _ _ _ _⟩
 ·have e1:decide (b < c)=false:=by simp;omega
  have e2:decide (d < a)=true:=by simp;omega
  have e3:(a==b)=true:=by simp;omega
  have e4:(c==d)=false:=by simp;omega
  rw[show fH a b c d=(0,0) by unfold fH;rw[if_pos (by omega)]]
  clear g
  go_enter Tryz.func141,Tryz.ntmps141
  go_wp2
  exact bodyPost_ret (v:=.agg #[.int .i64 1,.int .i64 1]) (by simp[results,Tryz.results141,go_sem]) rfl ⟨rfl,fV _ _ _ _ _⟩
 ·have e1:decide (b < c)=false:=by simp;omega
  have e2:decide (d < a)=true:=by simp;omega
  have e3:(a==b)=true:=by simp;omega
  have e4:(c==d)=true:=by simp;omega
  have e5:(a==c)=false:=by simp;omega
  rw[show fH a b c d=(0,0) by unfold fH;rw[if_pos (by omega)]]
  clear g
  go_enter Tryz.func141,Tryz.ntmps141
  go_wp2
  exact bodyPost_ret (v:=.agg #[.int .i64 1,.int .i64 1]) (by simp[results,Tryz.results141,go_sem]) rfl ⟨rfl,fV _ _ _ _ _⟩
 ·have e1:decide (b < c)=false:=by simp;omega
  have e2:decide (d < a)=false:=by simp;omega
  have e3:(a==b)=false:=by simp;omega
  rw[show fH a b c d=(0,1) by unfold fH;rw[if_neg (by omega),if_neg (by omega)]]
  clear g
  go_enter Tryz.func141,Tryz.ntmps141
  go_wp2
  exact bodyPost_ret (v:=.agg #[.int .i64 0,.int .i64 1]) (by simp[results,Tryz.results141,go_sem]) rfl ⟨rfl,fV _ _ _ _ _⟩
 ·have e1:decide (b < c)=false:=by simp;omega
  have e2:decide (d < a)=false:=by simp;omega
  have e3:(a==b)=true:=by simp;omega
  have e4:(c==d)=false:=by simp;omega
  rw[show fH a b c d=(0,1) by unfold fH;rw[if_neg (by omega),if_neg (by omega)]]
  clear g
  go_enter Tryz.func141,Tryz.ntmps141
  go_wp2
  exact bodyPost_ret (v:=.agg #[.int .i64 0,.int .i64 1]) (by simp[results,Tryz.results141,go_sem]) rfl ⟨rfl,fV _ _ _ _ _⟩
 ·have e1:decide (b < c)=false:=by simp;omega
  have e2:decide (d < a)=false:=by simp;omega
  have e3:(a==b)=true:=by simp;omega
  have e4:(c==d)=true:=by simp;omega
  have e5:(a==c)=true:=by simp;omega
  rw[show fH a b c d=(1,1) by unfold fH;rw[if_neg (by omega),if_pos (by omega)]]
  clear g
  go_enter Tryz.func141,Tryz.ntmps141
  go_wp2
  exact bodyPost_ret (v:=.agg #[.int .i64 0,.int .i64 0]) (by simp[results,Tryz.results141,go_sem]) rfl ⟨rfl,fV _ _ _ _ _⟩
theorem aNa (a b c d:Int)(w:World):Calls Tryz.prog 141 #[.int .i64 18,.agg #[.int .i64 a,.int .i64 b],.agg #[.int .i64 c,.int .i64 d]] w fun e w'=>e=.returned (.agg #[.int .i64 (min (aR 18 0 0 [a,d]).1 (aR 18 0 0 [b,c]).1),.int .i64 (max (aR 18 0 0 [a,d]).1 (aR 18 0 0 [b,c]).1)])/\Below w.heap.size w w':=by
 have HB:=aC (B3.start w a b c d 0 0)
 have V10:=dF 18 0 0 _ 2 2 _ _ (mR (((w.alloc (cs a b)).alloc (cs c d)).alloc (cs 0 0)) 3 a d)
 simp only[World.size_alloc] at V10
 have V1:=aC V10
 clear V10
 have V2:=fun W=>aC (dF 18 0 0 _ 2 2 _ _ (mR W 3 b c))
 obtain⟨⟨v1,e1⟩,h1⟩:∃ Z,aR 18 0 0 [a,d]=Z:=⟨_,rfl⟩
 obtain⟨⟨v2,e2⟩,h2⟩:∃ Z,aR 18 0 0 [b,c]=Z:=⟨_,rfl⟩
 rw[h1] at V1 ⊢
 rw[h2] at V2 ⊢
 clear h1 h2
 go_enter Tryz.func141,Tryz.ntmps141
 go_wp2_with fail
 refine V1.o.mono ?_
 rintro e w2 ⟨rfl,hw2⟩
 have hq:=hw2.symm
 subst hq
 clear hw2
 have HB2:=aC (HB.o.later (aH _ (.cells #[.int .i64 a,.int .i64 d] 3)))
 obtain⟨W,hW⟩:∃ W,((((w.alloc (.cells #[.int .i64 a,.int .i64 b] 81)).alloc (.cells #[.int .i64 c,.int .i64 d] 81)).alloc (.cells #[.int .i64 0,.int .i64 0] 81)).alloc (.cells #[.int .i64 a,.int .i64 d] 3))=W:=⟨_,rfl⟩
 rw[hW] at HB2 ⊢
 clear hW HB
 obtain⟨u1,u2,-,-⟩:=aF HB2.o.a
 obtain⟨u3,u4,-,-⟩:=aF HB2.o.b
 go_wp2_with fail
 refine(V2 _).o.mono ?_
 rintro e w2 ⟨rfl,hw2⟩
 have hq:=hw2.symm
 subst hq
 clear hw2
 have HB3:=aC (HB2.o.later (aH _ (.cells #[.int .i64 b,.int .i64 c] 3)))
 obtain⟨W2,hW2⟩:∃ W2,W.alloc (.cells #[.int .i64 b,.int .i64 c] 3)=W2:=⟨_,rfl⟩
 rw[hW2] at HB3 ⊢
 clear hW2 HB2 u1 u2 u3 u4
 go_wp2_with fail
 refine(qJ _ _ _).mono ?_
 rintro e w3 ⟨rfl,hb3⟩
 have HB4:=aC (HB3.o.later (bel (aH _ _) hb3))
 clear hb3 HB3
 obtain⟨u5,u6,u7,u8⟩:=aF HB4.o.r
 obtain⟨x,hx⟩:∃ x,min v1 v2=x:=⟨_,rfl⟩
 obtain⟨y,hy⟩:∃ y,max v1 v2=y:=⟨_,rfl⟩
 rw[hx,hy]
 have HX:=aC hx
 have HY:=aC hy
 clear hx hy
 go_wp2_with fail
 obtain⟨c0,c1,hB4⟩:=aK HB4.o.r HB4.o.bel (by omega) x y
 exact bodyPost_ret (v:=.agg #[.int .i64 x,.int .i64 y]) (by simp[results,Tryz.results141,go_sem,c0,c1]) rfl ⟨by rw[HX.o,HY.o],hB4⟩
theorem aK7 (a b c d:Int)(w:World):Calls Tryz.prog 141 #[.int .i64 19,.agg #[.int .i64 a,.int .i64 b],.agg #[.int .i64 c,.int .i64 d]] w fun e w'=>e=.returned (.agg #[.int .i64 (min (aR 19 0 0 [a,d]).1 (aR 19 0 0 [b,c]).1),.int .i64 (max (aR 19 0 0 [a,d]).1 (aR 19 0 0 [b,c]).1)])/\Below w.heap.size w w':=by
 have HB:=aC (B3.start w a b c d 0 0)
 have V10:=dF 19 0 0 _ 2 2 _ _ (mR (((w.alloc (cs a b)).alloc (cs c d)).alloc (cs 0 0)) 3 a d)
 simp only[World.size_alloc] at V10
 have V1:=aC V10
 clear V10
 have V2:=fun W=>aC (dF 19 0 0 _ 2 2 _ _ (mR W 3 b c))
 obtain⟨⟨v1,e1⟩,h1⟩:∃ Z,aR 19 0 0 [a,d]=Z:=⟨_,rfl⟩
 obtain⟨⟨v2,e2⟩,h2⟩:∃ Z,aR 19 0 0 [b,c]=Z:=⟨_,rfl⟩
 rw[h1] at V1 ⊢
 rw[h2] at V2 ⊢
 clear h1 h2
 go_enter Tryz.func141,Tryz.ntmps141
 go_wp2_with fail
 refine V1.o.mono ?_
 rintro e w2 ⟨rfl,hw2⟩
 have hq:=hw2.symm
 subst hq
 clear hw2
 have HB2:=aC (HB.o.later (aH _ (.cells #[.int .i64 a,.int .i64 d] 3)))
 obtain⟨W,hW⟩:∃ W,((((w.alloc (.cells #[.int .i64 a,.int .i64 b] 81)).alloc (.cells #[.int .i64 c,.int .i64 d] 81)).alloc (.cells #[.int .i64 0,.int .i64 0] 81)).alloc (.cells #[.int .i64 a,.int .i64 d] 3))=W:=⟨_,rfl⟩
 rw[hW] at HB2 ⊢
 clear hW HB
 obtain⟨u1,u2,-,-⟩:=aF HB2.o.a
 obtain⟨u3,u4,-,-⟩:=aF HB2.o.b
 go_wp2_with fail
 refine(V2 _).o.mono ?_
 rintro e w2 ⟨rfl,hw2⟩
 have hq:=hw2.symm
 subst hq
 clear hw2
 have HB3:=aC (HB2.o.later (aH _ (.cells #[.int .i64 b,.int .i64 c] 3)))
 obtain⟨W2,hW2⟩:∃ W2,W.alloc (.cells #[.int .i64 b,.int .i64 c] 3)=W2:=⟨_,rfl⟩
 rw[hW2] at HB3 ⊢
 clear hW2 HB2 u1 u2 u3 u4
 go_wp2_with fail
 refine(qJ _ _ _).mono ?_
 rintro e w3 ⟨rfl,hb3⟩
 have HB4:=aC (HB3.o.later (bel (aH _ _) hb3))
 clear hb3 HB3
 obtain⟨u5,u6,u7,u8⟩:=aF HB4.o.r
 obtain⟨x,hx⟩:∃ x,min v1 v2=x:=⟨_,rfl⟩
 obtain⟨y,hy⟩:∃ y,max v1 v2=y:=⟨_,rfl⟩
 rw[hx,hy]
 have HX:=aC hx
 have HY:=aC hy
 clear hx hy
 go_wp2_with fail
 obtain⟨c0,c1,hB4⟩:=aK HB4.o.r HB4.o.bel (by omega) x y
 exact bodyPost_ret (v:=.agg #[.int .i64 x,.int .i64 y]) (by simp[results,Tryz.results141,go_sem,c0,c1]) rfl ⟨by rw[HX.o,HY.o],hB4⟩
theorem aMz (a b c d:Int)(w:World):Calls Tryz.prog 141 #[.int .i64 20,.agg #[.int .i64 a,.int .i64 b],.agg #[.int .i64 c,.int .i64 d]] w fun e w'=>e=.returned (.agg #[.int .i64 (min (aR 20 0 0 [a,d]).1 (aR 20 0 0 [b,c]).1),.int .i64 (max (aR 20 0 0 [a,d]).1 (aR 20 0 0 [b,c]).1)])/\Below w.heap.size w w':=by
 have HB:=aC (B3.start w a b c d 0 0)
 have V10:=dF 20 0 0 _ 2 2 _ _ (mR (((w.alloc (cs a b)).alloc (cs c d)).alloc (cs 0 0)) 3 a d)
 simp only[World.size_alloc] at V10
 have V1:=aC V10
 clear V10
 have V2:=fun W=>aC (dF 20 0 0 _ 2 2 _ _ (mR W 3 b c))
 obtain⟨⟨v1,e1⟩,h1⟩:∃ Z,aR 20 0 0 [a,d]=Z:=⟨_,rfl⟩
 obtain⟨⟨v2,e2⟩,h2⟩:∃ Z,aR 20 0 0 [b,c]=Z:=⟨_,rfl⟩
 rw[h1] at V1 ⊢
 rw[h2] at V2 ⊢
 clear h1 h2
 go_enter Tryz.func141,Tryz.ntmps141
 go_wp2_with fail
 refine V1.o.mono ?_
 rintro e w2 ⟨rfl,hw2⟩
 have hq:=hw2.symm
 subst hq
 clear hw2
 have HB2:=aC (HB.o.later (aH _ (.cells #[.int .i64 a,.int .i64 d] 3)))
 obtain⟨W,hW⟩:∃ W,((((w.alloc (.cells #[.int .i64 a,.int .i64 b] 81)).alloc (.cells #[.int .i64 c,.int .i64 d] 81)).alloc (.cells #[.int .i64 0,.int .i64 0] 81)).alloc (.cells #[.int .i64 a,.int .i64 d] 3))=W:=⟨_,rfl⟩
 rw[hW] at HB2 ⊢
 clear hW HB
 obtain⟨u1,u2,-,-⟩:=aF HB2.o.a
 obtain⟨u3,u4,-,-⟩:=aF HB2.o.b
 go_wp2_with fail
 refine(V2 _).o.mono ?_
 rintro e w2 ⟨rfl,hw2⟩
 have hq:=hw2.symm
 subst hq
 clear hw2
 have HB3:=aC (HB2.o.later (aH _ (.cells #[.int .i64 b,.int .i64 c] 3)))
 obtain⟨W2,hW2⟩:∃ W2,W.alloc (.cells #[.int .i64 b,.int .i64 c] 3)=W2:=⟨_,rfl⟩
 rw[hW2] at HB3 ⊢
 clear hW2 HB2 u1 u2 u3 u4
 go_wp2_with fail
 refine(qJ _ _ _).mono ?_
 rintro e w3 ⟨rfl,hb3⟩
 have HB4:=aC (HB3.o.later (bel (aH _ _) hb3))
 clear hb3 HB3
 obtain⟨u5,u6,u7,u8⟩:=aF HB4.o.r
 obtain⟨x,hx⟩:∃ x,min v1 v2=x:=⟨_,rfl⟩
 obtain⟨y,hy⟩:∃ y,max v1 v2=y:=⟨_,rfl⟩
 rw[hx,hy]
 have HX:=aC hx
 have HY:=aC hy
 clear hx hy
 go_wp2_with fail
 obtain⟨c0,c1,hB4⟩:=aK HB4.o.r HB4.o.bel (by omega) x y
 exact bodyPost_ret (v:=.agg #[.int .i64 x,.int .i64 y]) (by simp[results,Tryz.results141,go_sem,c0,c1]) rfl ⟨by rw[HX.o,HY.o],hB4⟩
theorem aMb (a b c d:Int)(w:World):Calls Tryz.prog 141 #[.int .i64 21,.agg #[.int .i64 a,.int .i64 b],.agg #[.int .i64 c,.int .i64 d]] w fun e w'=>e=.returned (.agg #[.int .i64 (min (aR 21 0 0 [a,d]).1 (aR 21 0 0 [b,c]).1),.int .i64 (max (aR 21 0 0 [a,d]).1 (aR 21 0 0 [b,c]).1)])/\Below w.heap.size w w':=by
 have HB:=aC (B3.start w a b c d 0 0)
 have V10:=dF 21 0 0 _ 2 2 _ _ (mR (((w.alloc (cs a b)).alloc (cs c d)).alloc (cs 0 0)) 3 a d)
 simp only[World.size_alloc] at V10
 have V1:=aC V10
 clear V10
 have V2:=fun W=>aC (dF 21 0 0 _ 2 2 _ _ (mR W 3 b c))
 obtain⟨⟨v1,e1⟩,h1⟩:∃ Z,aR 21 0 0 [a,d]=Z:=⟨_,rfl⟩
 obtain⟨⟨v2,e2⟩,h2⟩:∃ Z,aR 21 0 0 [b,c]=Z:=⟨_,rfl⟩
 rw[h1] at V1 ⊢
 rw[h2] at V2 ⊢
 clear h1 h2
 go_enter Tryz.func141,Tryz.ntmps141
 go_wp2_with fail
 refine V1.o.mono ?_
 rintro e w2 ⟨rfl,hw2⟩
 have hq:=hw2.symm
 subst hq
 clear hw2
 have HB2:=aC (HB.o.later (aH _ (.cells #[.int .i64 a,.int .i64 d] 3)))
 obtain⟨W,hW⟩:∃ W,((((w.alloc (.cells #[.int .i64 a,.int .i64 b] 81)).alloc (.cells #[.int .i64 c,.int .i64 d] 81)).alloc (.cells #[.int .i64 0,.int .i64 0] 81)).alloc (.cells #[.int .i64 a,.int .i64 d] 3))=W:=⟨_,rfl⟩
 rw[hW] at HB2 ⊢
 clear hW HB
 obtain⟨u1,u2,-,-⟩:=aF HB2.o.a
 obtain⟨u3,u4,-,-⟩:=aF HB2.o.b
 go_wp2_with fail
 refine(V2 _).o.mono ?_
 rintro e w2 ⟨rfl,hw2⟩
 have hq:=hw2.symm
 subst hq
 clear hw2
 have HB3:=aC (HB2.o.later (aH _ (.cells #[.int .i64 b,.int .i64 c] 3)))
 obtain⟨W2,hW2⟩:∃ W2,W.alloc (.cells #[.int .i64 b,.int .i64 c] 3)=W2:=⟨_,rfl⟩
 rw[hW2] at HB3 ⊢
 clear hW2 HB2 u1 u2 u3 u4
 go_wp2_with fail
 refine(qJ _ _ _).mono ?_
 rintro e w3 ⟨rfl,hb3⟩
 have HB4:=aC (HB3.o.later (bel (aH _ _) hb3))
 clear hb3 HB3
 obtain⟨u5,u6,u7,u8⟩:=aF HB4.o.r
 obtain⟨x,hx⟩:∃ x,min v1 v2=x:=⟨_,rfl⟩
 obtain⟨y,hy⟩:∃ y,max v1 v2=y:=⟨_,rfl⟩
 rw[hx,hy]
 have HX:=aC hx
 have HY:=aC hy
 clear hx hy
 go_wp2_with fail
 obtain⟨c0,c1,hB4⟩:=aK HB4.o.r HB4.o.bel (by omega) x y
 exact bodyPost_ret (v:=.agg #[.int .i64 x,.int .i64 y]) (by simp[results,Tryz.results141,go_sem,c0,c1]) rfl ⟨by rw[HX.o,HY.o],hB4⟩
end Go.Proofs.Spn
namespace Go.Proofs.Spn
open Go.RowKit Go.IntWalk Go.Sort
attribute [local go_sem] aB9 aCt
theorem gZ (op:Int)(fn:FuncId)(a b c d:Int)(Z:Int × Int)(w:World)(hop:(fn=114/\op=10)\/(fn=115/\(op=15\/op=16\/op=17))\/(fn=141/\(op=18\/op=19\/op=20\/op=21\/op=22\/op=23)))
  (H:∀ W,Calls Tryz.prog fn #[.int .i64 op,.agg #[.int .i64 a,.int .i64 b],.agg #[.int .i64 c,.int .i64 d]] W fun e w'=>e=.returned (.agg #[.int .i64 Z.1,.int .i64 Z.2])/\Below W.heap.size W w') :
  Calls Tryz.prog 119 #[.int .i64 op,.agg #[.int .i64 a,.int .i64 b],.agg #[.int .i64 c,.int .i64 d]] w fun e w'=>e=.returned (lH (Z,0))/\Below w.heap.size w w':=by
 have HB:=aC (B3.start w a b c d 0 0)
 have HC:=fun W=>aC (H W)
 clear H
 obtain⟨x,y⟩:=Z
 rcases hop with⟨rfl,rfl⟩|⟨rfl,rfl|rfl|rfl⟩|⟨rfl,rfl|rfl|rfl|rfl|rfl|rfl⟩ <;>
 ·go_enter Tryz.func119,Tryz.ntmps119
  go_wp2_with fail
  refine(HC _).o.mono ?_
  rintro e w2 ⟨rfl,hb2⟩
  have HB2:=aC (HB.o.later hb2)
  clear hb2
  obtain⟨u5,u6,u7,u8⟩:=aF HB2.o.r
  go_wp2_with fail
  obtain⟨c0,c1,hB4⟩:=aK HB2.o.r HB2.o.bel (by omega) x y
  exact bodyPost_ret (v:=.tuple #[.agg #[.int .i64 x,.int .i64 y],.int .i64 0]) (by simp[results,Tryz.results119,go_sem,c0,c1]) rfl ⟨rfl,hB4⟩
theorem aLr (a b c d:Int)(w:World)(ha:bF a)(hb:bF b)(hc:bF c)(hd:bF d):Calls Tryz.prog 119 #[.int .i64 8,.agg #[.int .i64 a,.int .i64 b],.agg #[.int .i64 c,.int .i64 d]] w fun e w'=>e=.returned (lH ((a+c,b+d),0))/\Below w.heap.size w w':=by
 go_enter Tryz.func119,Tryz.ntmps119
 go_wp2
 exact bodyPost_ret (v:=.tuple #[.agg #[.int .i64 (a+c),.int .i64 (b+d)],.int .i64 0]) (by simp[results,Tryz.results119,go_sem]) rfl ⟨rfl,fV _ _ _ _ _⟩
theorem aLi (a b c d:Int)(w:World)(ha:bF a)(hb:bF b)(hc:bF c)(hd:bF d):Calls Tryz.prog 119 #[.int .i64 9,.agg #[.int .i64 a,.int .i64 b],.agg #[.int .i64 c,.int .i64 d]] w fun e w'=>e=.returned (lH ((a-d,b-c),0))/\Below w.heap.size w w':=by
 go_enter Tryz.func119,Tryz.ntmps119
 go_wp2
 exact bodyPost_ret (v:=.tuple #[.agg #[.int .i64 (a-d),.int .i64 (b-c)],.int .i64 0]) (by simp[results,Tryz.results119,go_sem]) rfl ⟨rfl,fV _ _ _ _ _⟩
theorem aDr (op a b c d:Int)(w:World)(ho:op=11\/op=12)(h0:hasB c d 0=true):Calls Tryz.prog 119 #[.int .i64 op,.agg #[.int .i64 a,.int .i64 b],.agg #[.int .i64 c,.int .i64 d]] w fun e w'=>e=.returned (lH ((0,0),12))/\Below w.heap.size w w':=by
 have HB:=aC (B3.start w a b c d 0 0)
 have HH:=fun w=>aC (nU c d 0 w)
 rw[h0] at HH
 rcases ho with rfl|rfl <;>
 ·go_enter Tryz.func119,Tryz.ntmps119
  go_wp2_with fail
  refine(HH _).o.mono ?_
  rintro e w2 ⟨rfl,hb2⟩
  have HB2:=aC (HB.o.later hb2)
  clear hb2
  obtain⟨u5,u6,u7,u8⟩:=aF HB2.o.r
  go_wp2_with fail
  obtain⟨c0,c1,hB4⟩:=aK HB2.o.r HB2.o.bel (by omega) 0 0
  exact bodyPost_ret (v:=.tuple #[.agg #[.int .i64 0,.int .i64 0],.int .i64 12]) (by simp[results,Tryz.results119,go_sem,c0,c1]) rfl ⟨rfl,hB4⟩
theorem aJi (a b c d:Int)(Z:Int × Int)(w:World)(h0:hasB c d 0=false)
  (H:∀ W,Calls Tryz.prog 114 #[.int .i64 11,.agg #[.int .i64 a,.int .i64 b],.agg #[.int .i64 c,.int .i64 d]] W fun e w'=>e=.returned (.agg #[.int .i64 Z.1,.int .i64 Z.2])/\Below W.heap.size W w') :
  Calls Tryz.prog 119 #[.int .i64 11,.agg #[.int .i64 a,.int .i64 b],.agg #[.int .i64 c,.int .i64 d]] w fun e w'=>e=.returned (lH (Z,0))/\Below w.heap.size w w':=by
 have HB:=aC (B3.start w a b c d 0 0)
 have HC:=fun W=>aC (H W)
 have HH:=fun w=>aC (nU c d 0 w)
 rw[h0] at HH
 clear H
 obtain⟨x,y⟩:=Z
 go_enter Tryz.func119,Tryz.ntmps119
 go_wp2_with fail
 refine(HH _).o.mono ?_
 rintro e w2 ⟨rfl,hb2⟩
 have HB2:=aC (HB.o.later hb2)
 clear hb2
 obtain⟨u1,u2,-,-⟩:=aF HB2.o.a
 obtain⟨u3,u4,-,-⟩:=aF HB2.o.b
 go_wp2_with fail
 refine(HC _).o.mono ?_
 rintro e w3 ⟨rfl,hb3⟩
 have HB3:=aC (HB2.o.later hb3)
 clear hb3
 obtain⟨u5,u6,u7,u8⟩:=aF HB3.o.r
 go_wp2_with fail
 obtain⟨c0,c1,hB4⟩:=aK HB3.o.r HB3.o.bel (by omega) x y
 exact bodyPost_ret (v:=.tuple #[.agg #[.int .i64 x,.int .i64 y],.int .i64 0]) (by simp[results,Tryz.results119,go_sem,c0,c1]) rfl ⟨rfl,hB4⟩
theorem qP (op a b c d:Int)(w:World)(ho:op=13\/op=14)(h0:c < 0\/31 < d):Calls Tryz.prog 119 #[.int .i64 op,.agg #[.int .i64 a,.int .i64 b],.agg #[.int .i64 c,.int .i64 d]] w fun e w'=>e=.returned (lH ((0,0),13))/\Below w.heap.size w w':=by
 rcases(show c < 0\/(0<=c/\31 < d) by omega) with g|g
 ·have e1:decide (c < 0)=true:=by simp;omega
  rcases ho with rfl|rfl <;>
  ·go_enter Tryz.func119,Tryz.ntmps119
   go_wp2
   exact bodyPost_ret (v:=.tuple #[.agg #[.int .i64 0,.int .i64 0],.int .i64 13]) (by simp[results,Tryz.results119,go_sem]) rfl ⟨rfl,fV _ _ _ _ _⟩
 ·have e1:decide (c < 0)=false:=by simp;omega
  have e2:decide (31 < d)=true:=by simp;omega
  rcases ho with rfl|rfl <;>
  ·go_enter Tryz.func119,Tryz.ntmps119
   go_wp2
   exact bodyPost_ret (v:=.tuple #[.agg #[.int .i64 0,.int .i64 0],.int .i64 13]) (by simp[results,Tryz.results119,go_sem]) rfl ⟨rfl,fV _ _ _ _ _⟩
theorem aBl (op a b c d:Int)(Z:Int × Int)(w:World)(ho:op=13\/op=14)(h0:0<=c/\d<=31)
  (H:∀ W,Calls Tryz.prog 114 #[.int .i64 op,.agg #[.int .i64 a,.int .i64 b],.agg #[.int .i64 c,.int .i64 d]] W fun e w'=>e=.returned (.agg #[.int .i64 Z.1,.int .i64 Z.2])/\Below W.heap.size W w') :
  Calls Tryz.prog 119 #[.int .i64 op,.agg #[.int .i64 a,.int .i64 b],.agg #[.int .i64 c,.int .i64 d]] w fun e w'=>e=.returned (lH (Z,0))/\Below w.heap.size w w':=by
 have HB:=aC (B3.start w a b c d 0 0)
 have HC:=fun W=>aC (H W)
 clear H
 obtain⟨x,y⟩:=Z
 have e1:decide (c < 0)=false:=by simp;omega
 have e2:decide (31 < d)=false:=by simp;omega
 rcases ho with rfl|rfl <;>
 ·go_enter Tryz.func119,Tryz.ntmps119
  go_wp2_with fail
  refine(HC _).o.mono ?_
  rintro e w3 ⟨rfl,hb3⟩
  have HB3:=aC (HB.o.later hb3)
  clear hb3
  obtain⟨u5,u6,u7,u8⟩:=aF HB3.o.r
  go_wp2_with fail
  obtain⟨c0,c1,hB4⟩:=aK HB3.o.r HB3.o.bel (by omega) x y
  exact bodyPost_ret (v:=.tuple #[.agg #[.int .i64 x,.int .i64 y],.int .i64 0]) (by simp[results,Tryz.results119,go_sem,c0,c1]) rfl ⟨rfl,hB4⟩
end Go.Proofs.Spn
namespace Go.Proofs.Spn
open Go.RowKit Go.IntWalk Go.Sort
variable {W w:World} {g:Nat} {a b c d x y:Int}
attribute [local go_sem] aB9 aCt
structure B4 (w W:World)(g:Nat)(a b c d x y:Int):Prop where
 b:B3 w W a b c d 0 0
 o:aI W g 81 #[.int .i64 x,.int .i64 y]
 lt:w.heap.size+1+1 < g
theorem B4.later {w W W':World}{g:Nat}{a b c d x y:Int}(h:B4 w W g a b c d x y)(hb:Below W.heap.size W W'):B4 w W' g a b c d x y:=⟨h.b.later hb,h.o.below hb,h.lt⟩
theorem B4.set0 (h:B4 w W g a b c d x y)(x':Int):B4 w (W.setCell ⟨g,0,none⟩ (.int .i64 x')) g a b c d x' y:=by
 have hl:=h.lt
 have o:=fun {n:Nat} {t:TypeId} {cs:Array Value} (hn:n≠g) (hh:aI W n t cs)=>hh.other (p:=⟨g,0,none⟩) hn (.int .i64 x')
 exact⟨⟨o (by omega) h.b.a,o (by omega) h.b.b,o (by omega) h.b.r,h.b.bel.setCell (p:=⟨g,0,none⟩) (by simp;omega) _⟩,h.o.set 0 _,hl⟩
theorem B4.set1 (h:B4 w W g a b c d x y)(y':Int):B4 w (W.setCell ⟨g,1,none⟩ (.int .i64 y')) g a b c d x y':=by
 have hl:=h.lt
 have o:=fun {n:Nat} {t:TypeId} {cs:Array Value} (hn:n≠g) (hh:aI W n t cs)=>hh.other (p:=⟨g,1,none⟩) hn (.int .i64 y')
 exact⟨⟨o (by omega) h.b.a,o (by omega) h.b.b,o (by omega) h.b.r,h.b.bel.setCell (p:=⟨g,1,none⟩) (by simp;omega) _⟩,h.o.set 1 _,hl⟩
theorem aI0 (a b c d:Int)(w:World)(ha:bF a)(hb:bF b)(hc:bF c)(hd:bF d)(hcd:c<=d)(h0:hasB c d 0=false) :
  Calls Tryz.prog 119 #[.int .i64 12,.agg #[.int .i64 a,.int .i64 b],.agg #[.int .i64 c,.int .i64 d]] w fun e w'=>e=.returned (lH (jP a b c d,0))/\Below w.heap.size w w':=by
 have HB:=aC (B3.start w a b c d 0 0)
 have HH:=fun w=>aC (nU c d 0 w)
 rw[h0] at HH
 have hz:¬(c<=0/\0<=d):=fun hh=>by rw[mI.2 hh] at h0;cases h0
 clear h0
 have hmm:max (max (max c d) (-c)) (-d)=max (-c) d:=by omega
 have HU:=fun W=>aC (aD7 W c d (-c) (-d))
 rw[hmm] at HU
 obtain⟨m0,hm0⟩:∃ m,max (-c) d=m:=⟨_,rfl⟩
 have hmb:1<=m0/\m0<=2147483648:=by omega
 rw[hm0] at HU
 obtain⟨mi,hmi⟩:∃ m,min (min (min c d) (-c)) (-d)=m:=⟨_,rfl⟩
 rw[hmi] at HU
 have hl:jP a b c d=(if a < 0 then max a (-(m0-1)) else 0,if 0 < b then min b (m0-1) else 0):=by unfold jP;rw[hm0]
 rw[hl]
 clear hl hmm hmi hz hcd
 have HM:=aC hm0
 clear hm0
 by_cases p:a < 0 <;> by_cases q:0 < b
 ·rw[if_pos p,if_pos q]
  have e1:decide (a < 0)=true:=by simp;omega
  have e2:decide (0 < b)=true:=by simp;omega
  go_enter Tryz.func119,Tryz.ntmps119
  go_wp2_with fail
  refine(HH _).o.mono ?_
  rintro e w2 ⟨rfl,hb2⟩
  have HB2:=aC (HB.o.later hb2)
  clear hb2
  obtain⟨u1,u2,-,-⟩:=aF HB2.o.a
  obtain⟨u3,u4,-,-⟩:=aF HB2.o.b
  go_wp2_with fail
  refine(HU _).o.mono ?_
  rintro e w3 ⟨rfl,hb3⟩
  have HB3:=aC (⟨(HB2.o.later (bel (aH _ _) hb3)).later (aH _ (cs 0 0)),aI.new w3 81 #[.int .i64 0,.int .i64 0],by have:=(HB2.o.later (bel (aH _ _) hb3)).r.lt;omega⟩:B4 w (w3.alloc (cs 0 0)) w3.heap.size a b c d 0 0)
  clear hb3 HB2 u1 u2 u3 u4
  obtain⟨u1,u2,-,-⟩:=aF HB3.o.b.a
  obtain⟨u5,u6,u7,u8⟩:=aF HB3.o.b.r
  have HU50:=qJ (w3.alloc (cs 0 0)) a (-(m0-1))
  simp only[World.size_alloc] at HU50
  have HU5:=aC HU50
  clear HU50
  go_wp2_with fail
  refine HU5.o.mono ?_
  rintro e w5 ⟨rfl,hb5⟩
  have HB5:=aC (HB3.o.later (bel (aH _ (.cells #[.int .i64 a,.int .i64 (-(m0-1))] 3)) (by simpa using hb5)))
  clear hb5 HB3 u1 u2 u5 u6 u7 u8
  obtain⟨u1,u2,-,-⟩:=aF HB5.o.b.a
  obtain⟨u5,u6,u7,u8⟩:=aF HB5.o.b.r
  obtain⟨o1,o2,o3,o4⟩:=aF HB5.o.o
  have hl5:=HB5.o.lt
  have ka5:w.heap.size≠w3.heap.size:=by omega
  have kb5:w.heap.size+1+1≠w3.heap.size:=by omega
  have kc5:w3.heap.size≠w.heap.size:=by omega
  have kd5:w3.heap.size≠w.heap.size+1+1:=by omega
  obtain⟨X,hX⟩:∃ z,max a (-(m0-1))=z:=⟨_,rfl⟩
  obtain⟨X',hX'⟩:∃ z,min a (-(m0-1))=z:=⟨_,rfl⟩
  rw[hX,hX']
  have HX:=aC hX
  clear hX hX'
  have HB6:=aC (HB5.o.set0 X)
  have HU70:=qJ (w5.setCell ⟨w3.heap.size,0,none⟩ (.int .i64 X)) b (m0-1)
  simp only[World.size_alloc,World.size_setCell] at HU70
  have HU7:=aC HU70
  clear HU70
  go_wp2_with fail
  refine HU7.o.mono ?_
  rintro e w7 ⟨rfl,hb7⟩
  have HB7:=aC (HB6.o.later (bel (aH _ (.cells #[.int .i64 b,.int .i64 (m0-1)] 3)) (by simpa using hb7)))
  clear hb7 HB6 u1 u2 u5 u6 u7 u8 o1 o2 o3 o4
  obtain⟨u1,u2,-,-⟩:=aF HB7.o.b.a
  obtain⟨u5,u6,u7,u8⟩:=aF HB7.o.b.r
  obtain⟨o1,o2,o3,o4⟩:=aF HB7.o.o
  have hl7:=HB7.o.lt
  have ka7:w.heap.size≠w3.heap.size:=by omega
  have kb7:w.heap.size+1+1≠w3.heap.size:=by omega
  have kc7:w3.heap.size≠w.heap.size:=by omega
  have kd7:w3.heap.size≠w.heap.size+1+1:=by omega
  obtain⟨Y,hY⟩:∃ z,min b (m0-1)=z:=⟨_,rfl⟩
  obtain⟨Y',hY'⟩:∃ z,max b (m0-1)=z:=⟨_,rfl⟩
  rw[hY,hY']
  have HY:=aC hY
  clear hY hY'
  go_wp2_with fail
  have HB8:=aC (HB7.o.set1 Y)
  obtain⟨c0,c1,hB4⟩:=aK HB8.o.b.r HB8.o.b.bel (by omega) X Y
  exact bodyPost_ret (v:=.tuple #[.agg #[.int .i64 X,.int .i64 Y],.int .i64 0]) (by simp[results,Tryz.results119,go_sem,c0,c1]) rfl ⟨by rw[<-HX.o,<-HY.o],hB4⟩
 ·rw[if_pos p,if_neg q]
  have e1:decide (a < 0)=true:=by simp;omega
  have e2:decide (0 < b)=false:=by simp;omega
  go_enter Tryz.func119,Tryz.ntmps119
  go_wp2_with fail
  refine(HH _).o.mono ?_
  rintro e w2 ⟨rfl,hb2⟩
  have HB2:=aC (HB.o.later hb2)
  clear hb2
  obtain⟨u1,u2,-,-⟩:=aF HB2.o.a
  obtain⟨u3,u4,-,-⟩:=aF HB2.o.b
  go_wp2_with fail
  refine(HU _).o.mono ?_
  rintro e w3 ⟨rfl,hb3⟩
  have HB3:=aC (⟨(HB2.o.later (bel (aH _ _) hb3)).later (aH _ (cs 0 0)),aI.new w3 81 #[.int .i64 0,.int .i64 0],by have:=(HB2.o.later (bel (aH _ _) hb3)).r.lt;omega⟩:B4 w (w3.alloc (cs 0 0)) w3.heap.size a b c d 0 0)
  clear hb3 HB2 u1 u2 u3 u4
  obtain⟨u1,u2,-,-⟩:=aF HB3.o.b.a
  obtain⟨u5,u6,u7,u8⟩:=aF HB3.o.b.r
  have HU50:=qJ (w3.alloc (cs 0 0)) a (-(m0-1))
  simp only[World.size_alloc] at HU50
  have HU5:=aC HU50
  clear HU50
  go_wp2_with fail
  refine HU5.o.mono ?_
  rintro e w5 ⟨rfl,hb5⟩
  have HB5:=aC (HB3.o.later (bel (aH _ (.cells #[.int .i64 a,.int .i64 (-(m0-1))] 3)) (by simpa using hb5)))
  clear hb5 HB3 u1 u2 u5 u6 u7 u8
  obtain⟨u1,u2,-,-⟩:=aF HB5.o.b.a
  obtain⟨u5,u6,u7,u8⟩:=aF HB5.o.b.r
  obtain⟨o1,o2,o3,o4⟩:=aF HB5.o.o
  have hl5:=HB5.o.lt
  have ka5:w.heap.size≠w3.heap.size:=by omega
  have kb5:w.heap.size+1+1≠w3.heap.size:=by omega
  have kc5:w3.heap.size≠w.heap.size:=by omega
  have kd5:w3.heap.size≠w.heap.size+1+1:=by omega
  obtain⟨X,hX⟩:∃ z,max a (-(m0-1))=z:=⟨_,rfl⟩
  obtain⟨X',hX'⟩:∃ z,min a (-(m0-1))=z:=⟨_,rfl⟩
  rw[hX,hX']
  have HX:=aC hX
  clear hX hX'
  go_wp2_with fail
  have HB6:=aC (HB5.o.set0 X)
  obtain⟨c0,c1,hB4⟩:=aK HB6.o.b.r HB6.o.b.bel (by omega) X 0
  exact bodyPost_ret (v:=.tuple #[.agg #[.int .i64 X,.int .i64 0],.int .i64 0]) (by simp[results,Tryz.results119,go_sem,c0,c1]) rfl ⟨by rw[<-HX.o],hB4⟩
 ·rw[if_neg p,if_pos q]
  have e1:decide (a < 0)=false:=by simp;omega
  have e2:decide (0 < b)=true:=by simp;omega
  go_enter Tryz.func119,Tryz.ntmps119
  go_wp2_with fail
  refine(HH _).o.mono ?_
  rintro e w2 ⟨rfl,hb2⟩
  have HB2:=aC (HB.o.later hb2)
  clear hb2
  obtain⟨u1,u2,-,-⟩:=aF HB2.o.a
  obtain⟨u3,u4,-,-⟩:=aF HB2.o.b
  go_wp2_with fail
  refine(HU _).o.mono ?_
  rintro e w3 ⟨rfl,hb3⟩
  have HB3:=aC (⟨(HB2.o.later (bel (aH _ _) hb3)).later (aH _ (cs 0 0)),aI.new w3 81 #[.int .i64 0,.int .i64 0],by have:=(HB2.o.later (bel (aH _ _) hb3)).r.lt;omega⟩:B4 w (w3.alloc (cs 0 0)) w3.heap.size a b c d 0 0)
  clear hb3 HB2 u1 u2 u3 u4
  obtain⟨u1,u2,-,-⟩:=aF HB3.o.b.a
  obtain⟨u5,u6,u7,u8⟩:=aF HB3.o.b.r
  have HU50:=qJ (w3.alloc (cs 0 0)) b (m0-1)
  simp only[World.size_alloc] at HU50
  have HU5:=aC HU50
  clear HU50
  go_wp2_with fail
  refine HU5.o.mono ?_
  rintro e w5 ⟨rfl,hb5⟩
  have HB5:=aC (HB3.o.later (bel (aH _ (.cells #[.int .i64 b,.int .i64 (m0-1)] 3)) (by simpa using hb5)))
  clear hb5 HB3 u1 u2 u5 u6 u7 u8
  obtain⟨u1,u2,-,-⟩:=aF HB5.o.b.a
  obtain⟨u5,u6,u7,u8⟩:=aF HB5.o.b.r
  obtain⟨o1,o2,o3,o4⟩:=aF HB5.o.o
  have hl5:=HB5.o.lt
  have ka5:w.heap.size≠w3.heap.size:=by omega
  have kb5:w.heap.size+1+1≠w3.heap.size:=by omega
  have kc5:w3.heap.size≠w.heap.size:=by omega
  have kd5:w3.heap.size≠w.heap.size+1+1:=by omega
  obtain⟨Y,hY⟩:∃ z,min b (m0-1)=z:=⟨_,rfl⟩
  obtain⟨Y',hY'⟩:∃ z,max b (m0-1)=z:=⟨_,rfl⟩
  rw[hY,hY']
  have HY:=aC hY
  clear hY hY'
  go_wp2_with fail
  have HB6:=aC (HB5.o.set1 Y)
  obtain⟨c0,c1,hB4⟩:=aK HB6.o.b.r HB6.o.b.bel (by omega) 0 Y
  exact bodyPost_ret (v:=.tuple #[.agg #[.int .i64 0,.int .i64 Y],.int .i64 0]) (by simp[results,Tryz.results119,go_sem,c0,c1]) rfl ⟨by rw[<-HY.o],hB4⟩
 ·rw[if_neg p,if_neg q]
  have e1:decide (a < 0)=false:=by simp;omega
  have e2:decide (0 < b)=false:=by simp;omega
  go_enter Tryz.func119,Tryz.ntmps119
  go_wp2_with fail
  refine(HH _).o.mono ?_
  rintro e w2 ⟨rfl,hb2⟩
  have HB2:=aC (HB.o.later hb2)
  clear hb2
  obtain⟨u1,u2,-,-⟩:=aF HB2.o.a
  obtain⟨u3,u4,-,-⟩:=aF HB2.o.b
  go_wp2_with fail
  refine(HU _).o.mono ?_
  rintro e w3 ⟨rfl,hb3⟩
  have HB3:=aC (⟨(HB2.o.later (bel (aH _ _) hb3)).later (aH _ (cs 0 0)),aI.new w3 81 #[.int .i64 0,.int .i64 0],by have:=(HB2.o.later (bel (aH _ _) hb3)).r.lt;omega⟩:B4 w (w3.alloc (cs 0 0)) w3.heap.size a b c d 0 0)
  clear hb3 HB2 u1 u2 u3 u4
  obtain⟨u1,u2,-,-⟩:=aF HB3.o.b.a
  obtain⟨u5,u6,u7,u8⟩:=aF HB3.o.b.r
  go_wp2_with fail
  obtain⟨c0,c1,hB4⟩:=aK HB3.o.b.r HB3.o.b.bel (by omega) 0 0
  exact bodyPost_ret (v:=.tuple #[.agg #[.int .i64 0,.int .i64 0],.int .i64 0]) (by simp[results,Tryz.results119,go_sem,c0,c1]) rfl ⟨rfl,hB4⟩
end Go.Proofs.Spn
namespace Go.Proofs.Spn
open Go.RowKit Go.IntWalk Go.Sort
attribute [local go_sem] aB9 aCt
theorem zG (p:Option Addr)(x y:Int)(w:World)(h:Ints w p 2 2 [x,y]):Calls Tryz.prog 112 #[.slice p 2 2] w fun e w'=>e=.returned (.agg #[.int .i64 (min x y),.int .i64 (max x y)])/\Below w.heap.size w w':=by
 have h':=lX _ 2 2 _ _ h (by decide) (by decide)
 rw[(h2 x y).1,(h2 x y).2] at h'
 exact h'
theorem aEb (W:World)(o:Obj)(x y:Int):Ints ((W.alloc o).alloc (.cells #[.int .i64 x,.int .i64 y] 3)) (some ⟨W.heap.size+1,0,none⟩) 2 2 [x,y]:=by
 have h:=mR (W.alloc o) 3 x y
 simpa only [World.size_alloc] using h
theorem iC {W:World}{o o':Obj}{b i:Nat}(h:b < W.heap.size):((W.alloc o).alloc o').cell? ⟨b,i,none⟩=W.cell? ⟨b,i,none⟩:=(bel (aH W o) (aH _ o')).cell (p:=⟨b,i,none⟩) h
theorem aJs (a b c d:Int)(w:World):Calls Tryz.prog 119 #[.int .i64 24,.agg #[.int .i64 a,.int .i64 b],.agg #[.int .i64 c,.int .i64 d]] w fun e w'=>e=.returned (lH ((min a c,min b d),0))/\Below w.heap.size w w':=by
 have HB:=aC (B3.start w a b c d 0 0)
 go_enter Tryz.func119,Tryz.ntmps119
 go_wp2_with fail
 obtain⟨W,hW⟩:∃ W,((w.alloc (.cells #[.int .i64 a,.int .i64 b] 81)).alloc (.cells #[.int .i64 c,.int .i64 d] 81)).alloc (.cells #[.int .i64 0,.int .i64 0] 81)=W:=⟨_,rfl⟩
 rw[hW] at HB ⊢
 clear hW
 obtain⟨d0,d1,-,-⟩:=aF HB.o.a
 obtain⟨d2,d3,-,-⟩:=aF HB.o.b
 have hl0:=HB.o.a.lt
 have hl2:=HB.o.b.lt
 have hl3:=HB.o.r.lt
 go_region_held3 (fun w'=>w'.cell? ⟨w.heap.size,0,none⟩=some (.int .i64 a)/\w'.cell? ⟨w.heap.size,1,none⟩=some (.int .i64 b)/\w'.cell? ⟨w.heap.size+1,0,none⟩=some (.int .i64 c)/\w'.cell? ⟨w.heap.size+1,1,none⟩=some (.int .i64 d))
  (first|exact⟨d0,d1,d2,d3⟩|exact⟨v0,v1,v2,v3⟩|exact⟨t0,t1,t2,t3⟩|exact⟨(aO hl0).trans d0,(aO hl0).trans d1,(aO hl2).trans d2,(aO hl2).trans d3⟩|exact⟨(aO kl0).trans t0,(aO kl0).trans t1,(aO kl2).trans t2,(aO kl2).trans t3⟩|exact⟨(iC hl0).trans d0,(iC hl0).trans d1,(iC hl2).trans d2,(iC hl2).trans d3⟩|exact⟨bU (Nat.lt_succ_self _) (by omega) v0,bU (Nat.lt_succ_self _) (by omega) v1,bU (Nat.lt_succ_self _) (by omega) v2,bU (Nat.lt_succ_self _) (by omega) v3⟩|go_keep)
  (first
   | (go_at_call 112;refine(zG _ a c _ ?_).mono ?_;(first | exact(mR W 3 a c).later (aD _) | exact((mR W 3 a c).later (aH _ _)).later (aD _) | exact(aEb W _ a c).later (aD _));rintro e' w2 ⟨rfl,hb2⟩;have HB9:=aC ((by first | exact HB.o.later (bel (bel (aH _ _) (aD _)) hb2) | exact HB.o.later (bel (bel (bel (aH _ _) (aH _ _)) (aD _)) hb2):B3 w w2 a b c d 0 0));obtain⟨t0,t1,-,-⟩:=aF HB9.o.a;obtain⟨t2,t3,-,-⟩:=aF HB9.o.b;have kl0:=HB9.o.a.lt;have kl2:=HB9.o.b.lt)
   | (go_at_call 112;refine(zG _ b d _ ?_).mono ?_;(first | exact mR _ 3 b d | exact(((mR W 3 b d).later (aH _ _)).later (aD _)).later hb2 | exact((aEb W _ b d).later (aD _)).later hb2);rintro e' w3 ⟨rfl,hb3⟩;have HB10:=aC ((by first | exact HB9.o.later hb3 | exact HB9.o.later (bel (aH _ _) hb3):B3 w w3 a b c d 0 0));obtain⟨v0,v1,-,-⟩:=aF HB10.o.a;obtain⟨v2,v3,-,-⟩:=aF HB10.o.b;obtain⟨s1,s2,s3,s4⟩:=aF HB10.o.r))
 all_goals
  go_wp2_with fail
  obtain⟨e0,e1,hB4⟩:=aK HB10.o.r HB10.o.bel (by omega) (min a c) (min b d)
  exact bodyPost_ret (v:=.tuple #[.agg #[.int .i64 (min a c),.int .i64 (min b d)],.int .i64 0]) (by simp[results,Tryz.results119,go_sem,e0,e1]) rfl ⟨rfl,hB4⟩
theorem aKi (a b c d:Int)(w:World):Calls Tryz.prog 119 #[.int .i64 25,.agg #[.int .i64 a,.int .i64 b],.agg #[.int .i64 c,.int .i64 d]] w fun e w'=>e=.returned (lH ((max a c,max b d),0))/\Below w.heap.size w w':=by
 have HB:=aC (B3.start w a b c d 0 0)
 go_enter Tryz.func119,Tryz.ntmps119
 go_wp2_with fail
 obtain⟨W,hW⟩:∃ W,((w.alloc (.cells #[.int .i64 a,.int .i64 b] 81)).alloc (.cells #[.int .i64 c,.int .i64 d] 81)).alloc (.cells #[.int .i64 0,.int .i64 0] 81)=W:=⟨_,rfl⟩
 rw[hW] at HB ⊢
 clear hW
 obtain⟨d0,d1,-,-⟩:=aF HB.o.a
 obtain⟨d2,d3,-,-⟩:=aF HB.o.b
 have hl0:=HB.o.a.lt
 have hl2:=HB.o.b.lt
 have hl3:=HB.o.r.lt
 go_region_held3 (fun w'=>w'.cell? ⟨w.heap.size,0,none⟩=some (.int .i64 a)/\w'.cell? ⟨w.heap.size,1,none⟩=some (.int .i64 b)/\w'.cell? ⟨w.heap.size+1,0,none⟩=some (.int .i64 c)/\w'.cell? ⟨w.heap.size+1,1,none⟩=some (.int .i64 d))
  (first|exact⟨d0,d1,d2,d3⟩|exact⟨v0,v1,v2,v3⟩|exact⟨t0,t1,t2,t3⟩|exact⟨(aO hl0).trans d0,(aO hl0).trans d1,(aO hl2).trans d2,(aO hl2).trans d3⟩|exact⟨(aO kl0).trans t0,(aO kl0).trans t1,(aO kl2).trans t2,(aO kl2).trans t3⟩|exact⟨(iC hl0).trans d0,(iC hl0).trans d1,(iC hl2).trans d2,(iC hl2).trans d3⟩|exact⟨bU (Nat.lt_succ_self _) (by omega) v0,bU (Nat.lt_succ_self _) (by omega) v1,bU (Nat.lt_succ_self _) (by omega) v2,bU (Nat.lt_succ_self _) (by omega) v3⟩|go_keep)
  (first
   | (go_at_call 112;refine(zG _ a c _ ?_).mono ?_;(first | exact(mR W 3 a c).later (aD _) | exact((mR W 3 a c).later (aH _ _)).later (aD _) | exact(aEb W _ a c).later (aD _));rintro e' w2 ⟨rfl,hb2⟩;have HB9:=aC ((by first | exact HB.o.later (bel (bel (aH _ _) (aD _)) hb2) | exact HB.o.later (bel (bel (bel (aH _ _) (aH _ _)) (aD _)) hb2):B3 w w2 a b c d 0 0));obtain⟨t0,t1,-,-⟩:=aF HB9.o.a;obtain⟨t2,t3,-,-⟩:=aF HB9.o.b;have kl0:=HB9.o.a.lt;have kl2:=HB9.o.b.lt)
   | (go_at_call 112;refine(zG _ b d _ ?_).mono ?_;(first | exact mR _ 3 b d | exact(((mR W 3 b d).later (aH _ _)).later (aD _)).later hb2 | exact((aEb W _ b d).later (aD _)).later hb2);rintro e' w3 ⟨rfl,hb3⟩;have HB10:=aC ((by first | exact HB9.o.later hb3 | exact HB9.o.later (bel (aH _ _) hb3):B3 w w3 a b c d 0 0));obtain⟨v0,v1,-,-⟩:=aF HB10.o.a;obtain⟨v2,v3,-,-⟩:=aF HB10.o.b;obtain⟨s1,s2,s3,s4⟩:=aF HB10.o.r))
 all_goals
  go_wp2_with fail
  obtain⟨e0,e1,hB4⟩:=aK HB10.o.r HB10.o.bel (by omega) (max a c) (max b d)
  exact bodyPost_ret (v:=.tuple #[.agg #[.int .i64 (max a c),.int .i64 (max b d)],.int .i64 0]) (by simp[results,Tryz.results119,go_sem,e0,e1]) rfl ⟨rfl,hB4⟩
end Go.Proofs.Spn
