import Derived.Test.YtimdcmponhcngaaGreatX18
namespace Go.Proofs.YtimdcmponhcngaaGreat.Spn
open Go.RowKit Go.IntWalk Go.Sort
set_option linter.unusedVariables false
set_option maxRecDepth 100000
set_option maxHeartbeats 16000000
theorem qcmp_22 (a b c d:Int)(w:World):Calls Tryz.prog 162 #[.int .i64 22,.agg #[.int .i64 a,.int .i64 b],.agg #[.int .i64 c,.int .i64 d]] w fun e w'=>e=.returned (.agg #[.int .i64 (eqZ a b c d).1,.int .i64 (eqZ a b c d).2])/\Below w.heap.size w w':=by
 have HB:=hide (B3.start w a b c d 0 0)
 rcases(show (b < c/\a≠b)\/(b < c/\(a=b/\c≠d))\/(b < c/\(a=b/\c=d/\a≠c))\/((c<=b/\d < a)/\a≠b)\/((c<=b/\d < a)/\(a=b/\c≠d))\/((c<=b/\d < a)/\(a=b/\c=d/\a≠c))\/((c<=b/\a<=d)/\a≠b)\/((c<=b/\a<=d)/\(a=b/\c≠d))\/((c<=b/\a<=d)/\(a=b/\c=d/\a=c)) by omega) with g|g|g|g|g|g|g|g|g
 ·have e1:decide (b < c)=true:=by simp;omega
  have e3:(a==b)=false:=by simp;omega
  rw[show eqZ a b c d=(0,0) by unfold eqZ;rw[if_pos (by omega)]]
  clear g
  go_enter Tryz.func162,Tryz.ntmps162
  go_wp2
  exact bodyPost_ret (v:=.agg #[.int .i64 0,.int .i64 0]) (by simp[results,Tryz.results162,go_sem]) rfl ⟨rfl,bel3 _ _ _ _ _⟩
 ·have e1:decide (b < c)=true:=by simp;omega
  have e3:(a==b)=true:=by simp;omega
  have e4:(c==d)=false:=by simp;omega
  rw[show eqZ a b c d=(0,0) by unfold eqZ;rw[if_pos (by omega)]]
  clear g
  go_enter Tryz.func162,Tryz.ntmps162
  go_wp2
  exact bodyPost_ret (v:=.agg #[.int .i64 0,.int .i64 0]) (by simp[results,Tryz.results162,go_sem]) rfl ⟨rfl,bel3 _ _ _ _ _⟩
 ·have e1:decide (b < c)=true:=by simp;omega
  have e3:(a==b)=true:=by simp;omega
  have e4:(c==d)=true:=by simp;omega
  have e5:(a==c)=false:=by simp;omega
  rw[show eqZ a b c d=(0,0) by unfold eqZ;rw[if_pos (by omega)]]
  clear g
  go_enter Tryz.func162,Tryz.ntmps162
  go_wp2
  exact bodyPost_ret (v:=.agg #[.int .i64 0,.int .i64 0]) (by simp[results,Tryz.results162,go_sem]) rfl ⟨rfl,bel3 _ _ _ _ _⟩
 ·have e1:decide (b < c)=false:=by simp;omega
  have e2:decide (d < a)=true:=by simp;omega
  have e3:(a==b)=false:=by simp;omega
  rw[show eqZ a b c d=(0,0) by unfold eqZ;rw[if_pos (by omega)]]
  clear g
  go_enter Tryz.func162,Tryz.ntmps162
  go_wp2
  exact bodyPost_ret (v:=.agg #[.int .i64 0,.int .i64 0]) (by simp[results,Tryz.results162,go_sem]) rfl ⟨rfl,bel3 _ _ _ _ _⟩
 ·have e1:decide (b < c)=false:=by simp;omega
  have e2:decide (d < a)=true:=by simp;omega
  have e3:(a==b)=true:=by simp;omega
  have e4:(c==d)=false:=by simp;omega
  rw[show eqZ a b c d=(0,0) by unfold eqZ;rw[if_pos (by omega)]]
  clear g
  go_enter Tryz.func162,Tryz.ntmps162
  go_wp2
  exact bodyPost_ret (v:=.agg #[.int .i64 0,.int .i64 0]) (by simp[results,Tryz.results162,go_sem]) rfl ⟨rfl,bel3 _ _ _ _ _⟩
 ·have e1:decide (b < c)=false:=by simp;omega
  have e2:decide (d < a)=true:=by simp;omega
  have e3:(a==b)=true:=by simp;omega
  have e4:(c==d)=true:=by simp;omega
  have e5:(a==c)=false:=by simp;omega
  rw[show eqZ a b c d=(0,0) by unfold eqZ;rw[if_pos (by omega)]]
  clear g
  go_enter Tryz.func162,Tryz.ntmps162
  go_wp2
  exact bodyPost_ret (v:=.agg #[.int .i64 0,.int .i64 0]) (by simp[results,Tryz.results162,go_sem]) rfl ⟨rfl,bel3 _ _ _ _ _⟩
 ·have e1:decide (b < c)=false:=by simp;omega
  have e2:decide (d < a)=false:=by simp;omega
  have e3:(a==b)=false:=by simp;omega
  rw[show eqZ a b c d=(0,1) by unfold eqZ;rw[if_neg (by omega),if_neg (by omega)]]
  clear g
  go_enter Tryz.func162,Tryz.ntmps162
  go_wp2
  exact bodyPost_ret (v:=.agg #[.int .i64 0,.int .i64 1]) (by simp[results,Tryz.results162,go_sem]) rfl ⟨rfl,bel3 _ _ _ _ _⟩
 ·have e1:decide (b < c)=false:=by simp;omega
  have e2:decide (d < a)=false:=by simp;omega
  have e3:(a==b)=true:=by simp;omega
  have e4:(c==d)=false:=by simp;omega
  rw[show eqZ a b c d=(0,1) by unfold eqZ;rw[if_neg (by omega),if_neg (by omega)]]
  clear g
  go_enter Tryz.func162,Tryz.ntmps162
  go_wp2
  exact bodyPost_ret (v:=.agg #[.int .i64 0,.int .i64 1]) (by simp[results,Tryz.results162,go_sem]) rfl ⟨rfl,bel3 _ _ _ _ _⟩
 ·have e1:decide (b < c)=false:=by simp;omega
  have e2:decide (d < a)=false:=by simp;omega
  have e3:(a==b)=true:=by simp;omega
  have e4:(c==d)=true:=by simp;omega
  have e5:(a==c)=true:=by simp;omega
  rw[show eqZ a b c d=(1,1) by unfold eqZ;rw[if_neg (by omega),if_pos (by omega)]]
  clear g
  go_enter Tryz.func162,Tryz.ntmps162
  go_wp2
  exact bodyPost_ret (v:=.agg #[.int .i64 1,.int .i64 1]) (by simp[results,Tryz.results162,go_sem]) rfl ⟨rfl,bel3 _ _ _ _ _⟩
theorem qcmp_23 (a b c d:Int)(w:World):Calls Tryz.prog 162 #[.int .i64 23,.agg #[.int .i64 a,.int .i64 b],.agg #[.int .i64 c,.int .i64 d]] w fun e w'=>e=.returned (.agg #[.int .i64 (1-(eqZ a b c d).2),.int .i64 (1-(eqZ a b c d).1)])/\Below w.heap.size w w':=by
 have HB:=hide (B3.start w a b c d 0 0)
 rcases(show (b < c/\a≠b)\/(b < c/\(a=b/\c≠d))\/(b < c/\(a=b/\c=d/\a≠c))\/((c<=b/\d < a)/\a≠b)\/((c<=b/\d < a)/\(a=b/\c≠d))\/((c<=b/\d < a)/\(a=b/\c=d/\a≠c))\/((c<=b/\a<=d)/\a≠b)\/((c<=b/\a<=d)/\(a=b/\c≠d))\/((c<=b/\a<=d)/\(a=b/\c=d/\a=c)) by omega) with g|g|g|g|g|g|g|g|g
 ·have e1:decide (b < c)=true:=by simp;omega
  have e3:(a==b)=false:=by simp;omega
  rw[show eqZ a b c d=(0,0) by unfold eqZ;rw[if_pos (by omega)]]
  clear g
  go_enter Tryz.func162,Tryz.ntmps162
  go_wp2
  exact bodyPost_ret (v:=.agg #[.int .i64 1,.int .i64 1]) (by simp[results,Tryz.results162,go_sem]) rfl ⟨rfl,bel3 _ _ _ _ _⟩
 ·have e1:decide (b < c)=true:=by simp;omega
  have e3:(a==b)=true:=by simp;omega
  have e4:(c==d)=false:=by simp;omega
  rw[show eqZ a b c d=(0,0) by unfold eqZ;rw[if_pos (by omega)]]
  clear g
  go_enter Tryz.func162,Tryz.ntmps162
  go_wp2
  exact bodyPost_ret (v:=.agg #[.int .i64 1,.int .i64 1]) (by simp[results,Tryz.results162,go_sem]) rfl ⟨rfl,bel3 _ _ _ _ _⟩
 ·have e1:decide (b < c)=true:=by simp;omega
  have e3:(a==b)=true:=by simp;omega
  have e4:(c==d)=true:=by simp;omega
  have e5:(a==c)=false:=by simp;omega
  rw[show eqZ a b c d=(0,0) by unfold eqZ;rw[if_pos (by omega)]]
  clear g
  go_enter Tryz.func162,Tryz.ntmps162
  go_wp2
  exact bodyPost_ret (v:=.agg #[.int .i64 1,.int .i64 1]) (by simp[results,Tryz.results162,go_sem]) rfl ⟨rfl,bel3 _ _ _ _ _⟩
 ·have e1:decide (b < c)=false:=by simp;omega
  have e2:decide (d < a)=true:=by simp;omega
  have e3:(a==b)=false:=by simp;omega
  rw[show eqZ a b c d=(0,0) by unfold eqZ;rw[if_pos (by omega)]]
  clear g
  go_enter Tryz.func162,Tryz.ntmps162
  go_wp2
  exact bodyPost_ret (v:=.agg #[.int .i64 1,.int .i64 1]) (by simp[results,Tryz.results162,go_sem]) rfl ⟨rfl,bel3 _ _ _ _ _⟩
 ·have e1:decide (b < c)=false:=by simp;omega
  have e2:decide (d < a)=true:=by simp;omega
  have e3:(a==b)=true:=by simp;omega
  have e4:(c==d)=false:=by simp;omega
  rw[show eqZ a b c d=(0,0) by unfold eqZ;rw[if_pos (by omega)]]
  clear g
  go_enter Tryz.func162,Tryz.ntmps162
  go_wp2
  exact bodyPost_ret (v:=.agg #[.int .i64 1,.int .i64 1]) (by simp[results,Tryz.results162,go_sem]) rfl ⟨rfl,bel3 _ _ _ _ _⟩
 ·have e1:decide (b < c)=false:=by simp;omega
  have e2:decide (d < a)=true:=by simp;omega
  have e3:(a==b)=true:=by simp;omega
  have e4:(c==d)=true:=by simp;omega
  have e5:(a==c)=false:=by simp;omega
  rw[show eqZ a b c d=(0,0) by unfold eqZ;rw[if_pos (by omega)]]
  clear g
  go_enter Tryz.func162,Tryz.ntmps162
  go_wp2
  exact bodyPost_ret (v:=.agg #[.int .i64 1,.int .i64 1]) (by simp[results,Tryz.results162,go_sem]) rfl ⟨rfl,bel3 _ _ _ _ _⟩
 ·have e1:decide (b < c)=false:=by simp;omega
  have e2:decide (d < a)=false:=by simp;omega
  have e3:(a==b)=false:=by simp;omega
  rw[show eqZ a b c d=(0,1) by unfold eqZ;rw[if_neg (by omega),if_neg (by omega)]]
  clear g
  go_enter Tryz.func162,Tryz.ntmps162
  go_wp2
  exact bodyPost_ret (v:=.agg #[.int .i64 0,.int .i64 1]) (by simp[results,Tryz.results162,go_sem]) rfl ⟨rfl,bel3 _ _ _ _ _⟩
 ·have e1:decide (b < c)=false:=by simp;omega
  have e2:decide (d < a)=false:=by simp;omega
  have e3:(a==b)=true:=by simp;omega
  have e4:(c==d)=false:=by simp;omega
  rw[show eqZ a b c d=(0,1) by unfold eqZ;rw[if_neg (by omega),if_neg (by omega)]]
  clear g
  go_enter Tryz.func162,Tryz.ntmps162
  go_wp2
  exact bodyPost_ret (v:=.agg #[.int .i64 0,.int .i64 1]) (by simp[results,Tryz.results162,go_sem]) rfl ⟨rfl,bel3 _ _ _ _ _⟩
 ·have e1:decide (b < c)=false:=by simp;omega
  have e2:decide (d < a)=false:=by simp;omega
  have e3:(a==b)=true:=by simp;omega
  have e4:(c==d)=true:=by simp;omega
  have e5:(a==c)=true:=by simp;omega
  rw[show eqZ a b c d=(1,1) by unfold eqZ;rw[if_neg (by omega),if_pos (by omega)]]
  clear g
  go_enter Tryz.func162,Tryz.ntmps162
  go_wp2
  exact bodyPost_ret (v:=.agg #[.int .i64 0,.int .i64 0]) (by simp[results,Tryz.results162,go_sem]) rfl ⟨rfl,bel3 _ _ _ _ _⟩
theorem qcmp_18 (a b c d:Int)(w:World):Calls Tryz.prog 162 #[.int .i64 18,.agg #[.int .i64 a,.int .i64 b],.agg #[.int .i64 c,.int .i64 d]] w fun e w'=>e=.returned (.agg #[.int .i64 (min (valZ 18 0 0 [a,d]).1 (valZ 18 0 0 [b,c]).1),.int .i64 (max (valZ 18 0 0 [a,d]).1 (valZ 18 0 0 [b,c]).1)])/\Below w.heap.size w w':=by
 have HB:=hide (B3.start w a b c d 0 0)
 have V10:=rvalue_any 18 0 0 _ 2 2 _ _ (lit2 (((w.alloc (cs a b)).alloc (cs c d)).alloc (cs 0 0)) 3 a d)
 simp only[World.size_alloc] at V10
 have V1:=hide V10
 clear V10
 have V2:=fun W=>hide (rvalue_any 18 0 0 _ 2 2 _ _ (lit2 W 3 b c))
 obtain⟨⟨v1,e1⟩,h1⟩:∃ Z,valZ 18 0 0 [a,d]=Z:=⟨_,rfl⟩
 obtain⟨⟨v2,e2⟩,h2⟩:∃ Z,valZ 18 0 0 [b,c]=Z:=⟨_,rfl⟩
 rw[h1] at V1 ⊢
 rw[h2] at V2 ⊢
 clear h1 h2
 go_enter Tryz.func162,Tryz.ntmps162
 go_wp2_with fail
 refine V1.out.mono ?_
 rintro e w2 ⟨rfl,hw2⟩
 have hq:=hw2.symm
 subst hq
 clear hw2
 have HB2:=hide (HB.out.later (bel1 _ (.cells #[.int .i64 a,.int .i64 d] 3)))
 obtain⟨W,hW⟩:∃ W,((((w.alloc (.cells #[.int .i64 a,.int .i64 b] 58)).alloc (.cells #[.int .i64 c,.int .i64 d] 58)).alloc (.cells #[.int .i64 0,.int .i64 0] 58)).alloc (.cells #[.int .i64 a,.int .i64 d] 3))=W:=⟨_,rfl⟩
 rw[hW] at HB2 ⊢
 clear hW HB
 obtain⟨u1,u2,-,-⟩:=facts2 HB2.out.a
 obtain⟨u3,u4,-,-⟩:=facts2 HB2.out.b
 go_wp2_with fail
 refine(V2 _).out.mono ?_
 rintro e w2 ⟨rfl,hw2⟩
 have hq:=hw2.symm
 subst hq
 clear hw2
 have HB3:=hide (HB2.out.later (bel1 _ (.cells #[.int .i64 b,.int .i64 c] 3)))
 obtain⟨W2,hW2⟩:∃ W2,W.alloc (.cells #[.int .i64 b,.int .i64 c] 3)=W2:=⟨_,rfl⟩
 rw[hW2] at HB3 ⊢
 clear hW2 HB2 u1 u2 u3 u4
 go_wp2_with fail
 refine(hull2 _ _ _).mono ?_
 rintro e w3 ⟨rfl,hb3⟩
 have HB4:=hide (HB3.out.later (bel (bel1 _ _) hb3))
 clear hb3 HB3
 obtain⟨u5,u6,u7,u8⟩:=facts2 HB4.out.r
 obtain⟨x,hx⟩:∃ x,min v1 v2=x:=⟨_,rfl⟩
 obtain⟨y,hy⟩:∃ y,max v1 v2=y:=⟨_,rfl⟩
 rw[hx,hy]
 have HX:=hide hx
 have HY:=hide hy
 clear hx hy
 go_wp2_with fail
 obtain⟨c0,c1,hB4⟩:=stored2 HB4.out.r HB4.out.bel (by omega) x y
 exact bodyPost_ret (v:=.agg #[.int .i64 x,.int .i64 y]) (by simp[results,Tryz.results162,go_sem,c0,c1]) rfl ⟨by rw[HX.out,HY.out],hB4⟩
theorem qcmp_19 (a b c d:Int)(w:World):Calls Tryz.prog 162 #[.int .i64 19,.agg #[.int .i64 a,.int .i64 b],.agg #[.int .i64 c,.int .i64 d]] w fun e w'=>e=.returned (.agg #[.int .i64 (min (valZ 19 0 0 [a,d]).1 (valZ 19 0 0 [b,c]).1),.int .i64 (max (valZ 19 0 0 [a,d]).1 (valZ 19 0 0 [b,c]).1)])/\Below w.heap.size w w':=by
 have HB:=hide (B3.start w a b c d 0 0)
 have V10:=rvalue_any 19 0 0 _ 2 2 _ _ (lit2 (((w.alloc (cs a b)).alloc (cs c d)).alloc (cs 0 0)) 3 a d)
 simp only[World.size_alloc] at V10
 have V1:=hide V10
 clear V10
 have V2:=fun W=>hide (rvalue_any 19 0 0 _ 2 2 _ _ (lit2 W 3 b c))
 obtain⟨⟨v1,e1⟩,h1⟩:∃ Z,valZ 19 0 0 [a,d]=Z:=⟨_,rfl⟩
 obtain⟨⟨v2,e2⟩,h2⟩:∃ Z,valZ 19 0 0 [b,c]=Z:=⟨_,rfl⟩
 rw[h1] at V1 ⊢
 rw[h2] at V2 ⊢
 clear h1 h2
 go_enter Tryz.func162,Tryz.ntmps162
 go_wp2_with fail
 refine V1.out.mono ?_
 rintro e w2 ⟨rfl,hw2⟩
 have hq:=hw2.symm
 subst hq
 clear hw2
 have HB2:=hide (HB.out.later (bel1 _ (.cells #[.int .i64 a,.int .i64 d] 3)))
 obtain⟨W,hW⟩:∃ W,((((w.alloc (.cells #[.int .i64 a,.int .i64 b] 58)).alloc (.cells #[.int .i64 c,.int .i64 d] 58)).alloc (.cells #[.int .i64 0,.int .i64 0] 58)).alloc (.cells #[.int .i64 a,.int .i64 d] 3))=W:=⟨_,rfl⟩
 rw[hW] at HB2 ⊢
 clear hW HB
 obtain⟨u1,u2,-,-⟩:=facts2 HB2.out.a
 obtain⟨u3,u4,-,-⟩:=facts2 HB2.out.b
 go_wp2_with fail
 refine(V2 _).out.mono ?_
 rintro e w2 ⟨rfl,hw2⟩
 have hq:=hw2.symm
 subst hq
 clear hw2
 have HB3:=hide (HB2.out.later (bel1 _ (.cells #[.int .i64 b,.int .i64 c] 3)))
 obtain⟨W2,hW2⟩:∃ W2,W.alloc (.cells #[.int .i64 b,.int .i64 c] 3)=W2:=⟨_,rfl⟩
 rw[hW2] at HB3 ⊢
 clear hW2 HB2 u1 u2 u3 u4
 go_wp2_with fail
 refine(hull2 _ _ _).mono ?_
 rintro e w3 ⟨rfl,hb3⟩
 have HB4:=hide (HB3.out.later (bel (bel1 _ _) hb3))
 clear hb3 HB3
 obtain⟨u5,u6,u7,u8⟩:=facts2 HB4.out.r
 obtain⟨x,hx⟩:∃ x,min v1 v2=x:=⟨_,rfl⟩
 obtain⟨y,hy⟩:∃ y,max v1 v2=y:=⟨_,rfl⟩
 rw[hx,hy]
 have HX:=hide hx
 have HY:=hide hy
 clear hx hy
 go_wp2_with fail
 obtain⟨c0,c1,hB4⟩:=stored2 HB4.out.r HB4.out.bel (by omega) x y
 exact bodyPost_ret (v:=.agg #[.int .i64 x,.int .i64 y]) (by simp[results,Tryz.results162,go_sem,c0,c1]) rfl ⟨by rw[HX.out,HY.out],hB4⟩
theorem qcmp_20 (a b c d:Int)(w:World):Calls Tryz.prog 162 #[.int .i64 20,.agg #[.int .i64 a,.int .i64 b],.agg #[.int .i64 c,.int .i64 d]] w fun e w'=>e=.returned (.agg #[.int .i64 (min (valZ 20 0 0 [a,d]).1 (valZ 20 0 0 [b,c]).1),.int .i64 (max (valZ 20 0 0 [a,d]).1 (valZ 20 0 0 [b,c]).1)])/\Below w.heap.size w w':=by
 have HB:=hide (B3.start w a b c d 0 0)
 have V10:=rvalue_any 20 0 0 _ 2 2 _ _ (lit2 (((w.alloc (cs a b)).alloc (cs c d)).alloc (cs 0 0)) 3 a d)
 simp only[World.size_alloc] at V10
 have V1:=hide V10
 clear V10
 have V2:=fun W=>hide (rvalue_any 20 0 0 _ 2 2 _ _ (lit2 W 3 b c))
 obtain⟨⟨v1,e1⟩,h1⟩:∃ Z,valZ 20 0 0 [a,d]=Z:=⟨_,rfl⟩
 obtain⟨⟨v2,e2⟩,h2⟩:∃ Z,valZ 20 0 0 [b,c]=Z:=⟨_,rfl⟩
 rw[h1] at V1 ⊢
 rw[h2] at V2 ⊢
 clear h1 h2
 go_enter Tryz.func162,Tryz.ntmps162
 go_wp2_with fail
 refine V1.out.mono ?_
 rintro e w2 ⟨rfl,hw2⟩
 have hq:=hw2.symm
 subst hq
 clear hw2
 have HB2:=hide (HB.out.later (bel1 _ (.cells #[.int .i64 a,.int .i64 d] 3)))
 obtain⟨W,hW⟩:∃ W,((((w.alloc (.cells #[.int .i64 a,.int .i64 b] 58)).alloc (.cells #[.int .i64 c,.int .i64 d] 58)).alloc (.cells #[.int .i64 0,.int .i64 0] 58)).alloc (.cells #[.int .i64 a,.int .i64 d] 3))=W:=⟨_,rfl⟩
 rw[hW] at HB2 ⊢
 clear hW HB
 obtain⟨u1,u2,-,-⟩:=facts2 HB2.out.a
 obtain⟨u3,u4,-,-⟩:=facts2 HB2.out.b
 go_wp2_with fail
 refine(V2 _).out.mono ?_
 rintro e w2 ⟨rfl,hw2⟩
 have hq:=hw2.symm
 subst hq
 clear hw2
 have HB3:=hide (HB2.out.later (bel1 _ (.cells #[.int .i64 b,.int .i64 c] 3)))
 obtain⟨W2,hW2⟩:∃ W2,W.alloc (.cells #[.int .i64 b,.int .i64 c] 3)=W2:=⟨_,rfl⟩
 rw[hW2] at HB3 ⊢
 clear hW2 HB2 u1 u2 u3 u4
 go_wp2_with fail
 refine(hull2 _ _ _).mono ?_
 rintro e w3 ⟨rfl,hb3⟩
 have HB4:=hide (HB3.out.later (bel (bel1 _ _) hb3))
 clear hb3 HB3
 obtain⟨u5,u6,u7,u8⟩:=facts2 HB4.out.r
 obtain⟨x,hx⟩:∃ x,min v1 v2=x:=⟨_,rfl⟩
 obtain⟨y,hy⟩:∃ y,max v1 v2=y:=⟨_,rfl⟩
 rw[hx,hy]
 have HX:=hide hx
 have HY:=hide hy
 clear hx hy
 go_wp2_with fail
 obtain⟨c0,c1,hB4⟩:=stored2 HB4.out.r HB4.out.bel (by omega) x y
 exact bodyPost_ret (v:=.agg #[.int .i64 x,.int .i64 y]) (by simp[results,Tryz.results162,go_sem,c0,c1]) rfl ⟨by rw[HX.out,HY.out],hB4⟩
theorem qcmp_21 (a b c d:Int)(w:World):Calls Tryz.prog 162 #[.int .i64 21,.agg #[.int .i64 a,.int .i64 b],.agg #[.int .i64 c,.int .i64 d]] w fun e w'=>e=.returned (.agg #[.int .i64 (min (valZ 21 0 0 [a,d]).1 (valZ 21 0 0 [b,c]).1),.int .i64 (max (valZ 21 0 0 [a,d]).1 (valZ 21 0 0 [b,c]).1)])/\Below w.heap.size w w':=by
 have HB:=hide (B3.start w a b c d 0 0)
 have V10:=rvalue_any 21 0 0 _ 2 2 _ _ (lit2 (((w.alloc (cs a b)).alloc (cs c d)).alloc (cs 0 0)) 3 a d)
 simp only[World.size_alloc] at V10
 have V1:=hide V10
 clear V10
 have V2:=fun W=>hide (rvalue_any 21 0 0 _ 2 2 _ _ (lit2 W 3 b c))
 obtain⟨⟨v1,e1⟩,h1⟩:∃ Z,valZ 21 0 0 [a,d]=Z:=⟨_,rfl⟩
 obtain⟨⟨v2,e2⟩,h2⟩:∃ Z,valZ 21 0 0 [b,c]=Z:=⟨_,rfl⟩
 rw[h1] at V1 ⊢
 rw[h2] at V2 ⊢
 clear h1 h2
 go_enter Tryz.func162,Tryz.ntmps162
 go_wp2_with fail
 refine V1.out.mono ?_
 rintro e w2 ⟨rfl,hw2⟩
 have hq:=hw2.symm
 subst hq
 clear hw2
 have HB2:=hide (HB.out.later (bel1 _ (.cells #[.int .i64 a,.int .i64 d] 3)))
 obtain⟨W,hW⟩:∃ W,((((w.alloc (.cells #[.int .i64 a,.int .i64 b] 58)).alloc (.cells #[.int .i64 c,.int .i64 d] 58)).alloc (.cells #[.int .i64 0,.int .i64 0] 58)).alloc (.cells #[.int .i64 a,.int .i64 d] 3))=W:=⟨_,rfl⟩
 rw[hW] at HB2 ⊢
 clear hW HB
 obtain⟨u1,u2,-,-⟩:=facts2 HB2.out.a
 obtain⟨u3,u4,-,-⟩:=facts2 HB2.out.b
 go_wp2_with fail
 refine(V2 _).out.mono ?_
 rintro e w2 ⟨rfl,hw2⟩
 have hq:=hw2.symm
 subst hq
 clear hw2
 have HB3:=hide (HB2.out.later (bel1 _ (.cells #[.int .i64 b,.int .i64 c] 3)))
 obtain⟨W2,hW2⟩:∃ W2,W.alloc (.cells #[.int .i64 b,.int .i64 c] 3)=W2:=⟨_,rfl⟩
 rw[hW2] at HB3 ⊢
 clear hW2 HB2 u1 u2 u3 u4
 go_wp2_with fail
 refine(hull2 _ _ _).mono ?_
 rintro e w3 ⟨rfl,hb3⟩
 have HB4:=hide (HB3.out.later (bel (bel1 _ _) hb3))
 clear hb3 HB3
 obtain⟨u5,u6,u7,u8⟩:=facts2 HB4.out.r
 obtain⟨x,hx⟩:∃ x,min v1 v2=x:=⟨_,rfl⟩
 obtain⟨y,hy⟩:∃ y,max v1 v2=y:=⟨_,rfl⟩
 rw[hx,hy]
 have HX:=hide hx
 have HY:=hide hy
 clear hx hy
 go_wp2_with fail
 obtain⟨c0,c1,hB4⟩:=stored2 HB4.out.r HB4.out.bel (by omega) x y
 exact bodyPost_ret (v:=.agg #[.int .i64 x,.int .i64 y]) (by simp[results,Tryz.results162,go_sem,c0,c1]) rfl ⟨by rw[HX.out,HY.out],hB4⟩
end Go.Proofs.YtimdcmponhcngaaGreat.Spn
namespace Go.Proofs.YtimdcmponhcngaaGreat.Spn
open Go.RowKit Go.IntWalk Go.Sort
set_option linter.unusedVariables false
set_option maxRecDepth 100000
set_option maxHeartbeats 16000000
attribute [local go_sem] fld0 fld1
theorem qpair_call (op:Int)(fn:FuncId)(a b c d:Int)(Z:Int × Int)(w:World)(hop:(fn=127/\op=10)\/(fn=128/\(op=15\/op=16\/op=17))\/(fn=162/\(op=18\/op=19\/op=20\/op=21\/op=22\/op=23)))
  (H:∀ W,Calls Tryz.prog fn #[.int .i64 op,.agg #[.int .i64 a,.int .i64 b],.agg #[.int .i64 c,.int .i64 d]] W fun e w'=>e=.returned (.agg #[.int .i64 Z.1,.int .i64 Z.2])/\Below W.heap.size W w') :
  Calls Tryz.prog 132 #[.int .i64 op,.agg #[.int .i64 a,.int .i64 b],.agg #[.int .i64 c,.int .i64 d]] w fun e w'=>e=.returned (spV (Z,0))/\Below w.heap.size w w':=by
 have HB:=hide (B3.start w a b c d 0 0)
 have HC:=fun W=>hide (H W)
 clear H
 obtain⟨x,y⟩:=Z
 rcases hop with⟨rfl,rfl⟩|⟨rfl,rfl|rfl|rfl⟩|⟨rfl,rfl|rfl|rfl|rfl|rfl|rfl⟩ <;>
 ·go_enter Tryz.func132,Tryz.ntmps132
  go_wp2_with fail
  refine(HC _).out.mono ?_
  rintro e w2 ⟨rfl,hb2⟩
  have HB2:=hide (HB.out.later hb2)
  clear hb2
  obtain⟨u5,u6,u7,u8⟩:=facts2 HB2.out.r
  go_wp2_with fail
  obtain⟨c0,c1,hB4⟩:=stored2 HB2.out.r HB2.out.bel (by omega) x y
  exact bodyPost_ret (v:=.tuple #[.agg #[.int .i64 x,.int .i64 y],.int .i64 0]) (by simp[results,Tryz.results132,go_sem,c0,c1]) rfl ⟨rfl,hB4⟩
theorem qpair_8 (a b c d:Int)(w:World)(ha:W32 a)(hb:W32 b)(hc:W32 c)(hd:W32 d):Calls Tryz.prog 132 #[.int .i64 8,.agg #[.int .i64 a,.int .i64 b],.agg #[.int .i64 c,.int .i64 d]] w fun e w'=>e=.returned (spV ((a+c,b+d),0))/\Below w.heap.size w w':=by
 go_enter Tryz.func132,Tryz.ntmps132
 go_wp2
 exact bodyPost_ret (v:=.tuple #[.agg #[.int .i64 (a+c),.int .i64 (b+d)],.int .i64 0]) (by simp[results,Tryz.results132,go_sem]) rfl ⟨rfl,bel3 _ _ _ _ _⟩
theorem qpair_9 (a b c d:Int)(w:World)(ha:W32 a)(hb:W32 b)(hc:W32 c)(hd:W32 d):Calls Tryz.prog 132 #[.int .i64 9,.agg #[.int .i64 a,.int .i64 b],.agg #[.int .i64 c,.int .i64 d]] w fun e w'=>e=.returned (spV ((a-d,b-c),0))/\Below w.heap.size w w':=by
 go_enter Tryz.func132,Tryz.ntmps132
 go_wp2
 exact bodyPost_ret (v:=.tuple #[.agg #[.int .i64 (a-d),.int .i64 (b-c)],.int .i64 0]) (by simp[results,Tryz.results132,go_sem]) rfl ⟨rfl,bel3 _ _ _ _ _⟩
theorem qpair_zero (op a b c d:Int)(w:World)(ho:op=11\/op=12)(h0:hasB c d 0=true):Calls Tryz.prog 132 #[.int .i64 op,.agg #[.int .i64 a,.int .i64 b],.agg #[.int .i64 c,.int .i64 d]] w fun e w'=>e=.returned (spV ((0,0),12))/\Below w.heap.size w w':=by
 have HB:=hide (B3.start w a b c d 0 0)
 have HH:=fun w=>hide (rhas_any c d 0 w)
 rw[h0] at HH
 rcases ho with rfl|rfl <;>
 ·go_enter Tryz.func132,Tryz.ntmps132
  go_wp2_with fail
  refine(HH _).out.mono ?_
  rintro e w2 ⟨rfl,hb2⟩
  have HB2:=hide (HB.out.later hb2)
  clear hb2
  obtain⟨u5,u6,u7,u8⟩:=facts2 HB2.out.r
  go_wp2_with fail
  obtain⟨c0,c1,hB4⟩:=stored2 HB2.out.r HB2.out.bel (by omega) 0 0
  exact bodyPost_ret (v:=.tuple #[.agg #[.int .i64 0,.int .i64 0],.int .i64 12]) (by simp[results,Tryz.results132,go_sem,c0,c1]) rfl ⟨rfl,hB4⟩
theorem qpair_11 (a b c d:Int)(Z:Int × Int)(w:World)(h0:hasB c d 0=false)
  (H:∀ W,Calls Tryz.prog 127 #[.int .i64 11,.agg #[.int .i64 a,.int .i64 b],.agg #[.int .i64 c,.int .i64 d]] W fun e w'=>e=.returned (.agg #[.int .i64 Z.1,.int .i64 Z.2])/\Below W.heap.size W w') :
  Calls Tryz.prog 132 #[.int .i64 11,.agg #[.int .i64 a,.int .i64 b],.agg #[.int .i64 c,.int .i64 d]] w fun e w'=>e=.returned (spV (Z,0))/\Below w.heap.size w w':=by
 have HB:=hide (B3.start w a b c d 0 0)
 have HC:=fun W=>hide (H W)
 have HH:=fun w=>hide (rhas_any c d 0 w)
 rw[h0] at HH
 clear H
 obtain⟨x,y⟩:=Z
 go_enter Tryz.func132,Tryz.ntmps132
 go_wp2_with fail
 refine(HH _).out.mono ?_
 rintro e w2 ⟨rfl,hb2⟩
 have HB2:=hide (HB.out.later hb2)
 clear hb2
 obtain⟨u1,u2,-,-⟩:=facts2 HB2.out.a
 obtain⟨u3,u4,-,-⟩:=facts2 HB2.out.b
 go_wp2_with fail
 refine(HC _).out.mono ?_
 rintro e w3 ⟨rfl,hb3⟩
 have HB3:=hide (HB2.out.later hb3)
 clear hb3
 obtain⟨u5,u6,u7,u8⟩:=facts2 HB3.out.r
 go_wp2_with fail
 obtain⟨c0,c1,hB4⟩:=stored2 HB3.out.r HB3.out.bel (by omega) x y
 exact bodyPost_ret (v:=.tuple #[.agg #[.int .i64 x,.int .i64 y],.int .i64 0]) (by simp[results,Tryz.results132,go_sem,c0,c1]) rfl ⟨rfl,hB4⟩
theorem qpair_sh_bad (op a b c d:Int)(w:World)(ho:op=13\/op=14)(h0:c < 0\/31 < d):Calls Tryz.prog 132 #[.int .i64 op,.agg #[.int .i64 a,.int .i64 b],.agg #[.int .i64 c,.int .i64 d]] w fun e w'=>e=.returned (spV ((0,0),13))/\Below w.heap.size w w':=by
 rcases(show c < 0\/(0<=c/\31 < d) by omega) with g|g
 ·have e1:decide (c < 0)=true:=by simp;omega
  rcases ho with rfl|rfl <;>
  ·go_enter Tryz.func132,Tryz.ntmps132
   go_wp2
   exact bodyPost_ret (v:=.tuple #[.agg #[.int .i64 0,.int .i64 0],.int .i64 13]) (by simp[results,Tryz.results132,go_sem]) rfl ⟨rfl,bel3 _ _ _ _ _⟩
 ·have e1:decide (c < 0)=false:=by simp;omega
  have e2:decide (31 < d)=true:=by simp;omega
  rcases ho with rfl|rfl <;>
  ·go_enter Tryz.func132,Tryz.ntmps132
   go_wp2
   exact bodyPost_ret (v:=.tuple #[.agg #[.int .i64 0,.int .i64 0],.int .i64 13]) (by simp[results,Tryz.results132,go_sem]) rfl ⟨rfl,bel3 _ _ _ _ _⟩
theorem qpair_sh (op a b c d:Int)(Z:Int × Int)(w:World)(ho:op=13\/op=14)(h0:0<=c/\d<=31)
  (H:∀ W,Calls Tryz.prog 127 #[.int .i64 op,.agg #[.int .i64 a,.int .i64 b],.agg #[.int .i64 c,.int .i64 d]] W fun e w'=>e=.returned (.agg #[.int .i64 Z.1,.int .i64 Z.2])/\Below W.heap.size W w') :
  Calls Tryz.prog 132 #[.int .i64 op,.agg #[.int .i64 a,.int .i64 b],.agg #[.int .i64 c,.int .i64 d]] w fun e w'=>e=.returned (spV (Z,0))/\Below w.heap.size w w':=by
 have HB:=hide (B3.start w a b c d 0 0)
 have HC:=fun W=>hide (H W)
 clear H
 obtain⟨x,y⟩:=Z
 have e1:decide (c < 0)=false:=by simp;omega
 have e2:decide (31 < d)=false:=by simp;omega
 rcases ho with rfl|rfl <;>
 ·go_enter Tryz.func132,Tryz.ntmps132
  go_wp2_with fail
  refine(HC _).out.mono ?_
  rintro e w3 ⟨rfl,hb3⟩
  have HB3:=hide (HB.out.later hb3)
  clear hb3
  obtain⟨u5,u6,u7,u8⟩:=facts2 HB3.out.r
  go_wp2_with fail
  obtain⟨c0,c1,hB4⟩:=stored2 HB3.out.r HB3.out.bel (by omega) x y
  exact bodyPost_ret (v:=.tuple #[.agg #[.int .i64 x,.int .i64 y],.int .i64 0]) (by simp[results,Tryz.results132,go_sem,c0,c1]) rfl ⟨rfl,hB4⟩
end Go.Proofs.YtimdcmponhcngaaGreat.Spn
namespace Go.Proofs.YtimdcmponhcngaaGreat.Spn
open Go.RowKit Go.IntWalk Go.Sort
set_option linter.unusedVariables false
set_option maxRecDepth 100000
set_option maxHeartbeats 16000000
attribute [local go_sem] fld0 fld1
structure B4 (w W:World)(g:Nat)(a b c d x y:Int):Prop where
 b:B3 w W a b c d 0 0
 o:HasC W g 58 #[.int .i64 x,.int .i64 y]
 lt:w.heap.size+1+1 < g
theorem B4.later {w W W':World}{g:Nat}{a b c d x y:Int}(h:B4 w W g a b c d x y)(hb:Below W.heap.size W W'):B4 w W' g a b c d x y:=⟨h.b.later hb,h.o.below hb,h.lt⟩
theorem B4.set0 {w W:World}{g:Nat}{a b c d x y:Int}(h:B4 w W g a b c d x y)(x':Int):B4 w (W.setCell ⟨g,0,none⟩ (.int .i64 x')) g a b c d x' y:=by
 have hl:=h.lt
 have o:=fun {n:Nat} {t:TypeId} {cs:Array Value} (hn:n≠g) (hh:HasC W n t cs)=>hh.other (p:=⟨g,0,none⟩) hn (.int .i64 x')
 exact⟨⟨o (by omega) h.b.a,o (by omega) h.b.b,o (by omega) h.b.r,h.b.bel.setCell (p:=⟨g,0,none⟩) (by simp;omega) _⟩,h.o.set 0 _,hl⟩
theorem B4.set1 {w W:World}{g:Nat}{a b c d x y:Int}(h:B4 w W g a b c d x y)(y':Int):B4 w (W.setCell ⟨g,1,none⟩ (.int .i64 y')) g a b c d x y':=by
 have hl:=h.lt
 have o:=fun {n:Nat} {t:TypeId} {cs:Array Value} (hn:n≠g) (hh:HasC W n t cs)=>hh.other (p:=⟨g,1,none⟩) hn (.int .i64 y')
 exact⟨⟨o (by omega) h.b.a,o (by omega) h.b.b,o (by omega) h.b.r,h.b.bel.setCell (p:=⟨g,1,none⟩) (by simp;omega) _⟩,h.o.set 1 _,hl⟩
theorem qpair_12 (a b c d:Int)(w:World)(ha:W32 a)(hb:W32 b)(hc:W32 c)(hd:W32 d)(hcd:c<=d)(h0:hasB c d 0=false) :
  Calls Tryz.prog 132 #[.int .i64 12,.agg #[.int .i64 a,.int .i64 b],.agg #[.int .i64 c,.int .i64 d]] w fun e w'=>e=.returned (spV (leftZ a b c d,0))/\Below w.heap.size w w':=by
 have HB:=hide (B3.start w a b c d 0 0)
 have HH:=fun w=>hide (rhas_any c d 0 w)
 rw[h0] at HH
 have hz:¬(c<=0/\0<=d):=fun hh=>by rw[hasB_iff.2 hh] at h0;cases h0
 clear h0
 have hmm:max (max (max c d) (-c)) (-d)=max (-c) d:=by omega
 have HU:=fun W=>hide (hull4 W c d (-c) (-d))
 rw[hmm] at HU
 obtain⟨m0,hm0⟩:∃ m,max (-c) d=m:=⟨_,rfl⟩
 have hmb:1<=m0/\m0<=2147483648:=by omega
 rw[hm0] at HU
 obtain⟨mi,hmi⟩:∃ m,min (min (min c d) (-c)) (-d)=m:=⟨_,rfl⟩
 rw[hmi] at HU
 have hl:leftZ a b c d=(if a < 0 then max a (-(m0-1)) else 0,if 0 < b then min b (m0-1) else 0):=by unfold leftZ;rw[hm0]
 rw[hl]
 clear hl hmm hmi hz hcd
 have HM:=hide hm0
 clear hm0
 by_cases p:a < 0 <;> by_cases q:0 < b
 ·rw[if_pos p,if_pos q]
  have e1:decide (a < 0)=true:=by simp;omega
  have e2:decide (0 < b)=true:=by simp;omega
  go_enter Tryz.func132,Tryz.ntmps132
  go_wp2_with fail
  refine(HH _).out.mono ?_
  rintro e w2 ⟨rfl,hb2⟩
  have HB2:=hide (HB.out.later hb2)
  clear hb2
  obtain⟨u1,u2,-,-⟩:=facts2 HB2.out.a
  obtain⟨u3,u4,-,-⟩:=facts2 HB2.out.b
  go_wp2_with fail
  refine(HU _).out.mono ?_
  rintro e w3 ⟨rfl,hb3⟩
  have HB3:=hide (⟨(HB2.out.later (bel (bel1 _ _) hb3)).later (bel1 _ (cs 0 0)),HasC.new w3 58 #[.int .i64 0,.int .i64 0],by have:=(HB2.out.later (bel (bel1 _ _) hb3)).r.lt;omega⟩:B4 w (w3.alloc (cs 0 0)) w3.heap.size a b c d 0 0)
  clear hb3 HB2 u1 u2 u3 u4
  obtain⟨u1,u2,-,-⟩:=facts2 HB3.out.b.a
  obtain⟨u5,u6,u7,u8⟩:=facts2 HB3.out.b.r
  have HU50:=hull2 (w3.alloc (cs 0 0)) a (-(m0-1))
  simp only[World.size_alloc] at HU50
  have HU5:=hide HU50
  clear HU50
  go_wp2_with fail
  refine HU5.out.mono ?_
  rintro e w5 ⟨rfl,hb5⟩
  have HB5:=hide (HB3.out.later (bel (bel1 _ (.cells #[.int .i64 a,.int .i64 (-(m0-1))] 3)) (by simpa using hb5)))
  clear hb5 HB3 u1 u2 u5 u6 u7 u8
  obtain⟨u1,u2,-,-⟩:=facts2 HB5.out.b.a
  obtain⟨u5,u6,u7,u8⟩:=facts2 HB5.out.b.r
  obtain⟨o1,o2,o3,o4⟩:=facts2 HB5.out.o
  have hl5:=HB5.out.lt
  have ka5:w.heap.size≠w3.heap.size:=by omega
  have kb5:w.heap.size+1+1≠w3.heap.size:=by omega
  have kc5:w3.heap.size≠w.heap.size:=by omega
  have kd5:w3.heap.size≠w.heap.size+1+1:=by omega
  obtain⟨X,hX⟩:∃ z,max a (-(m0-1))=z:=⟨_,rfl⟩
  obtain⟨X',hX'⟩:∃ z,min a (-(m0-1))=z:=⟨_,rfl⟩
  rw[hX,hX']
  have HX:=hide hX
  clear hX hX'
  have HB6:=hide (HB5.out.set0 X)
  have HU70:=hull2 (w5.setCell ⟨w3.heap.size,0,none⟩ (.int .i64 X)) b (m0-1)
  simp only[World.size_alloc,World.size_setCell] at HU70
  have HU7:=hide HU70
  clear HU70
  go_wp2_with fail
  refine HU7.out.mono ?_
  rintro e w7 ⟨rfl,hb7⟩
  have HB7:=hide (HB6.out.later (bel (bel1 _ (.cells #[.int .i64 b,.int .i64 (m0-1)] 3)) (by simpa using hb7)))
  clear hb7 HB6 u1 u2 u5 u6 u7 u8 o1 o2 o3 o4
  obtain⟨u1,u2,-,-⟩:=facts2 HB7.out.b.a
  obtain⟨u5,u6,u7,u8⟩:=facts2 HB7.out.b.r
  obtain⟨o1,o2,o3,o4⟩:=facts2 HB7.out.o
  have hl7:=HB7.out.lt
  have ka7:w.heap.size≠w3.heap.size:=by omega
  have kb7:w.heap.size+1+1≠w3.heap.size:=by omega
  have kc7:w3.heap.size≠w.heap.size:=by omega
  have kd7:w3.heap.size≠w.heap.size+1+1:=by omega
  obtain⟨Y,hY⟩:∃ z,min b (m0-1)=z:=⟨_,rfl⟩
  obtain⟨Y',hY'⟩:∃ z,max b (m0-1)=z:=⟨_,rfl⟩
  rw[hY,hY']
  have HY:=hide hY
  clear hY hY'
  go_wp2_with fail
  have HB8:=hide (HB7.out.set1 Y)
  obtain⟨c0,c1,hB4⟩:=stored2 HB8.out.b.r HB8.out.b.bel (by omega) X Y
  exact bodyPost_ret (v:=.tuple #[.agg #[.int .i64 X,.int .i64 Y],.int .i64 0]) (by simp[results,Tryz.results132,go_sem,c0,c1]) rfl ⟨by rw[<-HX.out,<-HY.out],hB4⟩
 ·rw[if_pos p,if_neg q]
  have e1:decide (a < 0)=true:=by simp;omega
  have e2:decide (0 < b)=false:=by simp;omega
  go_enter Tryz.func132,Tryz.ntmps132
  go_wp2_with fail
  refine(HH _).out.mono ?_
  rintro e w2 ⟨rfl,hb2⟩
  have HB2:=hide (HB.out.later hb2)
  clear hb2
  obtain⟨u1,u2,-,-⟩:=facts2 HB2.out.a
  obtain⟨u3,u4,-,-⟩:=facts2 HB2.out.b
  go_wp2_with fail
  refine(HU _).out.mono ?_
  rintro e w3 ⟨rfl,hb3⟩
  have HB3:=hide (⟨(HB2.out.later (bel (bel1 _ _) hb3)).later (bel1 _ (cs 0 0)),HasC.new w3 58 #[.int .i64 0,.int .i64 0],by have:=(HB2.out.later (bel (bel1 _ _) hb3)).r.lt;omega⟩:B4 w (w3.alloc (cs 0 0)) w3.heap.size a b c d 0 0)
  clear hb3 HB2 u1 u2 u3 u4
  obtain⟨u1,u2,-,-⟩:=facts2 HB3.out.b.a
  obtain⟨u5,u6,u7,u8⟩:=facts2 HB3.out.b.r
  have HU50:=hull2 (w3.alloc (cs 0 0)) a (-(m0-1))
  simp only[World.size_alloc] at HU50
  have HU5:=hide HU50
  clear HU50
  go_wp2_with fail
  refine HU5.out.mono ?_
  rintro e w5 ⟨rfl,hb5⟩
  have HB5:=hide (HB3.out.later (bel (bel1 _ (.cells #[.int .i64 a,.int .i64 (-(m0-1))] 3)) (by simpa using hb5)))
  clear hb5 HB3 u1 u2 u5 u6 u7 u8
  obtain⟨u1,u2,-,-⟩:=facts2 HB5.out.b.a
  obtain⟨u5,u6,u7,u8⟩:=facts2 HB5.out.b.r
  obtain⟨o1,o2,o3,o4⟩:=facts2 HB5.out.o
  have hl5:=HB5.out.lt
  have ka5:w.heap.size≠w3.heap.size:=by omega
  have kb5:w.heap.size+1+1≠w3.heap.size:=by omega
  have kc5:w3.heap.size≠w.heap.size:=by omega
  have kd5:w3.heap.size≠w.heap.size+1+1:=by omega
  obtain⟨X,hX⟩:∃ z,max a (-(m0-1))=z:=⟨_,rfl⟩
  obtain⟨X',hX'⟩:∃ z,min a (-(m0-1))=z:=⟨_,rfl⟩
  rw[hX,hX']
  have HX:=hide hX
  clear hX hX'
  go_wp2_with fail
  have HB6:=hide (HB5.out.set0 X)
  obtain⟨c0,c1,hB4⟩:=stored2 HB6.out.b.r HB6.out.b.bel (by omega) X 0
  exact bodyPost_ret (v:=.tuple #[.agg #[.int .i64 X,.int .i64 0],.int .i64 0]) (by simp[results,Tryz.results132,go_sem,c0,c1]) rfl ⟨by rw[<-HX.out],hB4⟩
 ·rw[if_neg p,if_pos q]
  have e1:decide (a < 0)=false:=by simp;omega
  have e2:decide (0 < b)=true:=by simp;omega
  go_enter Tryz.func132,Tryz.ntmps132
  go_wp2_with fail
  refine(HH _).out.mono ?_
  rintro e w2 ⟨rfl,hb2⟩
  have HB2:=hide (HB.out.later hb2)
  clear hb2
  obtain⟨u1,u2,-,-⟩:=facts2 HB2.out.a
  obtain⟨u3,u4,-,-⟩:=facts2 HB2.out.b
  go_wp2_with fail
  refine(HU _).out.mono ?_
  rintro e w3 ⟨rfl,hb3⟩
  have HB3:=hide (⟨(HB2.out.later (bel (bel1 _ _) hb3)).later (bel1 _ (cs 0 0)),HasC.new w3 58 #[.int .i64 0,.int .i64 0],by have:=(HB2.out.later (bel (bel1 _ _) hb3)).r.lt;omega⟩:B4 w (w3.alloc (cs 0 0)) w3.heap.size a b c d 0 0)
  clear hb3 HB2 u1 u2 u3 u4
  obtain⟨u1,u2,-,-⟩:=facts2 HB3.out.b.a
  obtain⟨u5,u6,u7,u8⟩:=facts2 HB3.out.b.r
  have HU50:=hull2 (w3.alloc (cs 0 0)) b (m0-1)
  simp only[World.size_alloc] at HU50
  have HU5:=hide HU50
  clear HU50
  go_wp2_with fail
  refine HU5.out.mono ?_
  rintro e w5 ⟨rfl,hb5⟩
  have HB5:=hide (HB3.out.later (bel (bel1 _ (.cells #[.int .i64 b,.int .i64 (m0-1)] 3)) (by simpa using hb5)))
  clear hb5 HB3 u1 u2 u5 u6 u7 u8
  obtain⟨u1,u2,-,-⟩:=facts2 HB5.out.b.a
  obtain⟨u5,u6,u7,u8⟩:=facts2 HB5.out.b.r
  obtain⟨o1,o2,o3,o4⟩:=facts2 HB5.out.o
  have hl5:=HB5.out.lt
  have ka5:w.heap.size≠w3.heap.size:=by omega
  have kb5:w.heap.size+1+1≠w3.heap.size:=by omega
  have kc5:w3.heap.size≠w.heap.size:=by omega
  have kd5:w3.heap.size≠w.heap.size+1+1:=by omega
  obtain⟨Y,hY⟩:∃ z,min b (m0-1)=z:=⟨_,rfl⟩
  obtain⟨Y',hY'⟩:∃ z,max b (m0-1)=z:=⟨_,rfl⟩
  rw[hY,hY']
  have HY:=hide hY
  clear hY hY'
  go_wp2_with fail
  have HB6:=hide (HB5.out.set1 Y)
  obtain⟨c0,c1,hB4⟩:=stored2 HB6.out.b.r HB6.out.b.bel (by omega) 0 Y
  exact bodyPost_ret (v:=.tuple #[.agg #[.int .i64 0,.int .i64 Y],.int .i64 0]) (by simp[results,Tryz.results132,go_sem,c0,c1]) rfl ⟨by rw[<-HY.out],hB4⟩
 ·rw[if_neg p,if_neg q]
  have e1:decide (a < 0)=false:=by simp;omega
  have e2:decide (0 < b)=false:=by simp;omega
  go_enter Tryz.func132,Tryz.ntmps132
  go_wp2_with fail
  refine(HH _).out.mono ?_
  rintro e w2 ⟨rfl,hb2⟩
  have HB2:=hide (HB.out.later hb2)
  clear hb2
  obtain⟨u1,u2,-,-⟩:=facts2 HB2.out.a
  obtain⟨u3,u4,-,-⟩:=facts2 HB2.out.b
  go_wp2_with fail
  refine(HU _).out.mono ?_
  rintro e w3 ⟨rfl,hb3⟩
  have HB3:=hide (⟨(HB2.out.later (bel (bel1 _ _) hb3)).later (bel1 _ (cs 0 0)),HasC.new w3 58 #[.int .i64 0,.int .i64 0],by have:=(HB2.out.later (bel (bel1 _ _) hb3)).r.lt;omega⟩:B4 w (w3.alloc (cs 0 0)) w3.heap.size a b c d 0 0)
  clear hb3 HB2 u1 u2 u3 u4
  obtain⟨u1,u2,-,-⟩:=facts2 HB3.out.b.a
  obtain⟨u5,u6,u7,u8⟩:=facts2 HB3.out.b.r
  go_wp2_with fail
  obtain⟨c0,c1,hB4⟩:=stored2 HB3.out.b.r HB3.out.b.bel (by omega) 0 0
  exact bodyPost_ret (v:=.tuple #[.agg #[.int .i64 0,.int .i64 0],.int .i64 0]) (by simp[results,Tryz.results132,go_sem,c0,c1]) rfl ⟨rfl,hB4⟩
end Go.Proofs.YtimdcmponhcngaaGreat.Spn
