import Derived.Test.YtimdcmponhcngaaGreatX19
namespace Go.Proofs.YtimdcmponhcngaaGreat.Spn
open Go.RowKit Go.IntWalk Go.Sort
set_option linter.unusedVariables false
set_option maxRecDepth 100000
set_option maxHeartbeats 16000000
attribute [local go_sem] fld0 fld1
theorem hullI2 (p:Option Addr)(x y:Int)(w:World)(h:Ints w p 2 2 [x,y]):Calls Tryz.prog 125 #[.slice p 2 2] w fun e w'=>e=.returned (.agg #[.int .i64 (min x y),.int .i64 (max x y)])/\Below w.heap.size w w':=by
 have h':=hull_any _ 2 2 _ _ h (by decide) (by decide)
 rw[(h2 x y).1,(h2 x y).2] at h'
 exact h'
theorem lit2s (W:World)(o:Obj)(x y:Int):Ints ((W.alloc o).alloc (.cells #[.int .i64 x,.int .i64 y] 3)) (some ⟨W.heap.size+1,0,none⟩) 2 2 [x,y]:=by
 have h:=lit2 (W.alloc o) 3 x y
 simpa only [World.size_alloc] using h
theorem cell_old2 {W:World}{o o':Obj}{b i:Nat}(h:b < W.heap.size):((W.alloc o).alloc o').cell? ⟨b,i,none⟩=W.cell? ⟨b,i,none⟩:=(bel (bel1 W o) (bel1 _ o')).cell (p:=⟨b,i,none⟩) h
theorem qpair_24 (a b c d:Int)(w:World):Calls Tryz.prog 132 #[.int .i64 24,.agg #[.int .i64 a,.int .i64 b],.agg #[.int .i64 c,.int .i64 d]] w fun e w'=>e=.returned (spV ((min a c,min b d),0))/\Below w.heap.size w w':=by
 have HB:=hide (B3.start w a b c d 0 0)
 go_enter Tryz.func132,Tryz.ntmps132
 go_wp2_with fail
 obtain⟨W,hW⟩:∃ W,((w.alloc (.cells #[.int .i64 a,.int .i64 b] 58)).alloc (.cells #[.int .i64 c,.int .i64 d] 58)).alloc (.cells #[.int .i64 0,.int .i64 0] 58)=W:=⟨_,rfl⟩
 rw[hW] at HB ⊢
 clear hW
 obtain⟨d0,d1,-,-⟩:=facts2 HB.out.a
 obtain⟨d2,d3,-,-⟩:=facts2 HB.out.b
 have hl0:=HB.out.a.lt
 have hl2:=HB.out.b.lt
 have hl3:=HB.out.r.lt
 go_region_held3 (fun w'=>w'.cell? ⟨w.heap.size,0,none⟩=some (.int .i64 a)/\w'.cell? ⟨w.heap.size,1,none⟩=some (.int .i64 b)/\w'.cell? ⟨w.heap.size+1,0,none⟩=some (.int .i64 c)/\w'.cell? ⟨w.heap.size+1,1,none⟩=some (.int .i64 d))
  (first|exact⟨d0,d1,d2,d3⟩|exact⟨v0,v1,v2,v3⟩|exact⟨t0,t1,t2,t3⟩|exact⟨(cell_old hl0).trans d0,(cell_old hl0).trans d1,(cell_old hl2).trans d2,(cell_old hl2).trans d3⟩|exact⟨(cell_old kl0).trans t0,(cell_old kl0).trans t1,(cell_old kl2).trans t2,(cell_old kl2).trans t3⟩|exact⟨(cell_old2 hl0).trans d0,(cell_old2 hl0).trans d1,(cell_old2 hl2).trans d2,(cell_old2 hl2).trans d3⟩|exact⟨far2 (Nat.lt_succ_self _) (by omega) v0,far2 (Nat.lt_succ_self _) (by omega) v1,far2 (Nat.lt_succ_self _) (by omega) v2,far2 (Nat.lt_succ_self _) (by omega) v3⟩|go_keep)
  (first
   | (go_at_call 125;refine(hullI2 _ a c _ ?_).mono ?_;(first | exact(lit2 W 3 a c).later (below_drew _) | exact((lit2 W 3 a c).later (bel1 _ _)).later (below_drew _) | exact(lit2s W _ a c).later (below_drew _));rintro e' w2 ⟨rfl,hb2⟩;have HB9:=hide ((by first | exact HB.out.later (bel (bel (bel1 _ _) (below_drew _)) hb2) | exact HB.out.later (bel (bel (bel (bel1 _ _) (bel1 _ _)) (below_drew _)) hb2):B3 w w2 a b c d 0 0));obtain⟨t0,t1,-,-⟩:=facts2 HB9.out.a;obtain⟨t2,t3,-,-⟩:=facts2 HB9.out.b;have kl0:=HB9.out.a.lt;have kl2:=HB9.out.b.lt)
   | (go_at_call 125;refine(hullI2 _ b d _ ?_).mono ?_;(first | exact lit2 _ 3 b d | exact(((lit2 W 3 b d).later (bel1 _ _)).later (below_drew _)).later hb2 | exact((lit2s W _ b d).later (below_drew _)).later hb2);rintro e' w3 ⟨rfl,hb3⟩;have HB10:=hide ((by first | exact HB9.out.later hb3 | exact HB9.out.later (bel (bel1 _ _) hb3):B3 w w3 a b c d 0 0));obtain⟨v0,v1,-,-⟩:=facts2 HB10.out.a;obtain⟨v2,v3,-,-⟩:=facts2 HB10.out.b;obtain⟨s1,s2,s3,s4⟩:=facts2 HB10.out.r))
 all_goals
  go_wp2_with fail
  obtain⟨e0,e1,hB4⟩:=stored2 HB10.out.r HB10.out.bel (by omega) (min a c) (min b d)
  exact bodyPost_ret (v:=.tuple #[.agg #[.int .i64 (min a c),.int .i64 (min b d)],.int .i64 0]) (by simp[results,Tryz.results132,go_sem,e0,e1]) rfl ⟨rfl,hB4⟩
theorem qpair_25 (a b c d:Int)(w:World):Calls Tryz.prog 132 #[.int .i64 25,.agg #[.int .i64 a,.int .i64 b],.agg #[.int .i64 c,.int .i64 d]] w fun e w'=>e=.returned (spV ((max a c,max b d),0))/\Below w.heap.size w w':=by
 have HB:=hide (B3.start w a b c d 0 0)
 go_enter Tryz.func132,Tryz.ntmps132
 go_wp2_with fail
 obtain⟨W,hW⟩:∃ W,((w.alloc (.cells #[.int .i64 a,.int .i64 b] 58)).alloc (.cells #[.int .i64 c,.int .i64 d] 58)).alloc (.cells #[.int .i64 0,.int .i64 0] 58)=W:=⟨_,rfl⟩
 rw[hW] at HB ⊢
 clear hW
 obtain⟨d0,d1,-,-⟩:=facts2 HB.out.a
 obtain⟨d2,d3,-,-⟩:=facts2 HB.out.b
 have hl0:=HB.out.a.lt
 have hl2:=HB.out.b.lt
 have hl3:=HB.out.r.lt
 go_region_held3 (fun w'=>w'.cell? ⟨w.heap.size,0,none⟩=some (.int .i64 a)/\w'.cell? ⟨w.heap.size,1,none⟩=some (.int .i64 b)/\w'.cell? ⟨w.heap.size+1,0,none⟩=some (.int .i64 c)/\w'.cell? ⟨w.heap.size+1,1,none⟩=some (.int .i64 d))
  (first|exact⟨d0,d1,d2,d3⟩|exact⟨v0,v1,v2,v3⟩|exact⟨t0,t1,t2,t3⟩|exact⟨(cell_old hl0).trans d0,(cell_old hl0).trans d1,(cell_old hl2).trans d2,(cell_old hl2).trans d3⟩|exact⟨(cell_old kl0).trans t0,(cell_old kl0).trans t1,(cell_old kl2).trans t2,(cell_old kl2).trans t3⟩|exact⟨(cell_old2 hl0).trans d0,(cell_old2 hl0).trans d1,(cell_old2 hl2).trans d2,(cell_old2 hl2).trans d3⟩|exact⟨far2 (Nat.lt_succ_self _) (by omega) v0,far2 (Nat.lt_succ_self _) (by omega) v1,far2 (Nat.lt_succ_self _) (by omega) v2,far2 (Nat.lt_succ_self _) (by omega) v3⟩|go_keep)
  (first
   | (go_at_call 125;refine(hullI2 _ a c _ ?_).mono ?_;(first | exact(lit2 W 3 a c).later (below_drew _) | exact((lit2 W 3 a c).later (bel1 _ _)).later (below_drew _) | exact(lit2s W _ a c).later (below_drew _));rintro e' w2 ⟨rfl,hb2⟩;have HB9:=hide ((by first | exact HB.out.later (bel (bel (bel1 _ _) (below_drew _)) hb2) | exact HB.out.later (bel (bel (bel (bel1 _ _) (bel1 _ _)) (below_drew _)) hb2):B3 w w2 a b c d 0 0));obtain⟨t0,t1,-,-⟩:=facts2 HB9.out.a;obtain⟨t2,t3,-,-⟩:=facts2 HB9.out.b;have kl0:=HB9.out.a.lt;have kl2:=HB9.out.b.lt)
   | (go_at_call 125;refine(hullI2 _ b d _ ?_).mono ?_;(first | exact lit2 _ 3 b d | exact(((lit2 W 3 b d).later (bel1 _ _)).later (below_drew _)).later hb2 | exact((lit2s W _ b d).later (below_drew _)).later hb2);rintro e' w3 ⟨rfl,hb3⟩;have HB10:=hide ((by first | exact HB9.out.later hb3 | exact HB9.out.later (bel (bel1 _ _) hb3):B3 w w3 a b c d 0 0));obtain⟨v0,v1,-,-⟩:=facts2 HB10.out.a;obtain⟨v2,v3,-,-⟩:=facts2 HB10.out.b;obtain⟨s1,s2,s3,s4⟩:=facts2 HB10.out.r))
 all_goals
  go_wp2_with fail
  obtain⟨e0,e1,hB4⟩:=stored2 HB10.out.r HB10.out.bel (by omega) (max a c) (max b d)
  exact bodyPost_ret (v:=.tuple #[.agg #[.int .i64 (max a c),.int .i64 (max b d)],.int .i64 0]) (by simp[results,Tryz.results132,go_sem,e0,e1]) rfl ⟨rfl,hB4⟩
end Go.Proofs.YtimdcmponhcngaaGreat.Spn
namespace Go.Proofs.YtimdcmponhcngaaGreat.Spn
open Go.RowKit Go.IntWalk Go.Sort
set_option linter.unusedVariables false
set_option maxRecDepth 100000
set_option maxHeartbeats 16000000
attribute [local go_sem] fld0 fld1
theorem qplain_5 (k s a b:Int)(bb off cap:Nat)(w:World)(hcap:1<=cap)(hlt:bb < w.heap.size)(c0:w.cell? ⟨bb,off,none⟩=some (.int .i64 a))(c1:w.cell? ⟨bb,off+1,none⟩=some (.int .i64 b))(ha:W32 a)(hb:W32 b) :
  Calls Tryz.prog 93 #[.int .i64 5,.int .i64 k,.int .i64 s,.slice (some ⟨bb,off,none⟩) 1 cap] w fun e w'=>e=.returned (spV ((-b,-a),0))/\Below w.heap.size w w':=by
 have d0:=(cell_old (o:=cs 0 0) (i:=off) hlt).trans c0
 have d1:=(cell_old (o:=cs 0 0) (i:=off+1) hlt).trans c1
 have HB:=hide (B3.start w 0 0 a b k k)
 clear c0 c1
 go_enter Tryz.func93,Tryz.ntmps93
 go_wp2_with fail
 exact bodyPost_ret (v:=.tuple #[.agg #[.int .i64 (-b),.int .i64 (-a)],.int .i64 0]) (by simp[results,Tryz.results93,go_sem]) rfl ⟨rfl,bel3 _ _ _ _ _⟩
theorem qplain_6 (k s a b:Int)(bb off cap:Nat)(w:World)(hcap:1<=cap)(hlt:bb < w.heap.size)(c0:w.cell? ⟨bb,off,none⟩=some (.int .i64 a))(c1:w.cell? ⟨bb,off+1,none⟩=some (.int .i64 b))(ha:W32 a)(hb:W32 b) :
  Calls Tryz.prog 93 #[.int .i64 6,.int .i64 k,.int .i64 s,.slice (some ⟨bb,off,none⟩) 1 cap] w fun e w'=>e=.returned (spV (if hasB a b 0=true then(0,max (max (max a b) (-a)) (-b)) else if 0 < a then(a,b) else(-b,-a),0))/\Below w.heap.size w w':=by
 have d0:=(cell_old (o:=cs 0 0) (i:=off) hlt).trans c0
 have d1:=(cell_old (o:=cs 0 0) (i:=off+1) hlt).trans c1
 have HB:=hide (B3.start w 0 0 a b k k)
 clear c0 c1
 have HH:=fun w=>hide (rhas_any a b 0 w)
 have HU0:=hull4 (((w.alloc (.cells #[.int .i64 0,.int .i64 0] 58)).alloc (.cells #[.int .i64 a,.int .i64 b] 58)).alloc (.cells #[.int .i64 k,.int .i64 k] 58)) a b (-a) (-b)
 simp only[World.size_alloc] at HU0
 have HU:=hide HU0
 clear HU0
 obtain⟨M,hM⟩:∃ M,max (max (max a b) (-a)) (-b)=M:=⟨_,rfl⟩
 obtain⟨M',hM'⟩:∃ M,min (min (min a b) (-a)) (-b)=M:=⟨_,rfl⟩
 rw[hM,hM'] at HU
 rw[hM]
 clear hM hM'
 cases h0:hasB a b 0
 ·rw[h0] at HH
  rw[if_neg (by simp)]
  by_cases h1:0 < a
  ·rw[if_pos h1]
   have e1:decide (0 < a)=true:=by simp;omega
   go_enter Tryz.func93,Tryz.ntmps93
   go_wp2_with fail
   refine HU.out.mono ?_
   rintro e w2 ⟨rfl,hb2⟩
   have HB2:=hide (HB.out.later (bel (bel1 _ (.cells #[.int .i64 a,.int .i64 b,.int .i64 (-a),.int .i64 (-b)] 3)) (by simpa using hb2)))
   clear hb2
   obtain⟨u1,u2,-,-⟩:=facts2 HB2.out.b
   go_wp2_with fail
   refine(HH _).out.mono ?_
   rintro e w3 ⟨rfl,hb3⟩
   have HB3:=hide (HB2.out.later hb3)
   clear hb3 u1 u2
   obtain⟨u1,u2,-,-⟩:=facts2 HB3.out.b
   obtain⟨u5,u6,u7,u8⟩:=facts2 HB3.out.a
   go_wp2_with fail
   obtain⟨f0,f1,hB4⟩:=stored2 HB3.out.a HB3.out.bel (Nat.le_refl _) a b
   exact bodyPost_ret (v:=.tuple #[.agg #[.int .i64 a,.int .i64 b],.int .i64 0]) (by simp[results,Tryz.results93,go_sem,f0,f1]) rfl ⟨rfl,hB4⟩
  ·rw[if_neg h1]
   have e1:decide (0 < a)=false:=by simp;omega
   go_enter Tryz.func93,Tryz.ntmps93
   go_wp2_with fail
   refine HU.out.mono ?_
   rintro e w2 ⟨rfl,hb2⟩
   have HB2:=hide (HB.out.later (bel (bel1 _ (.cells #[.int .i64 a,.int .i64 b,.int .i64 (-a),.int .i64 (-b)] 3)) (by simpa using hb2)))
   clear hb2
   obtain⟨u1,u2,-,-⟩:=facts2 HB2.out.b
   go_wp2_with fail
   refine(HH _).out.mono ?_
   rintro e w3 ⟨rfl,hb3⟩
   have HB3:=hide (HB2.out.later hb3)
   clear hb3 u1 u2
   obtain⟨u1,u2,-,-⟩:=facts2 HB3.out.b
   obtain⟨u5,u6,u7,u8⟩:=facts2 HB3.out.a
   go_wp2_with fail
   obtain⟨f0,f1,hB4⟩:=stored2 HB3.out.a HB3.out.bel (Nat.le_refl _) (-b) (-a)
   exact bodyPost_ret (v:=.tuple #[.agg #[.int .i64 (-b),.int .i64 (-a)],.int .i64 0]) (by simp[results,Tryz.results93,go_sem,f0,f1]) rfl ⟨rfl,hB4⟩
 ·rw[h0] at HH
  rw[if_pos rfl]
  go_enter Tryz.func93,Tryz.ntmps93
  go_wp2_with fail
  refine HU.out.mono ?_
  rintro e w2 ⟨rfl,hb2⟩
  have HB2:=hide (HB.out.later (bel (bel1 _ (.cells #[.int .i64 a,.int .i64 b,.int .i64 (-a),.int .i64 (-b)] 3)) (by simpa using hb2)))
  clear hb2
  obtain⟨u1,u2,-,-⟩:=facts2 HB2.out.b
  go_wp2_with fail
  refine(HH _).out.mono ?_
  rintro e w3 ⟨rfl,hb3⟩
  have HB3:=hide (HB2.out.later hb3)
  clear hb3 u1 u2
  obtain⟨u1,u2,-,-⟩:=facts2 HB3.out.b
  obtain⟨u5,u6,u7,u8⟩:=facts2 HB3.out.a
  go_wp2_with fail
  obtain⟨f0,f1,hB4⟩:=stored2 HB3.out.a HB3.out.bel (Nat.le_refl _) 0 M
  exact bodyPost_ret (v:=.tuple #[.agg #[.int .i64 0,.int .i64 M],.int .i64 0]) (by simp[results,Tryz.results93,go_sem,f0,f1]) rfl ⟨rfl,hB4⟩
theorem lit1' (w:World)(t:TypeId)(x:Int):Ints (w.alloc (.cells #[.int .i64 x] t)) (some ⟨w.heap.size,0,none⟩) 1 1 [x]:=by
 refine⟨rfl,Nat.le_refl _,by decide,(fun h=>by cases h),.inr ⟨_,_,rfl,fun i hi=>?_⟩⟩
 obtain rfl:i=0:=by omega
 simp
theorem qplain_7 (k s a b:Int)(bb off cap:Nat)(w:World)(hcap:1<=cap)(hlt:bb < w.heap.size)(c0:w.cell? ⟨bb,off,none⟩=some (.int .i64 a))(c1:w.cell? ⟨bb,off+1,none⟩=some (.int .i64 b))(ha:W32 a)(hb:W32 b) :
  Calls Tryz.prog 93 #[.int .i64 7,.int .i64 k,.int .i64 s,.slice (some ⟨bb,off,none⟩) 1 cap] w fun e w'=>e=.returned (spV (((valZ 7 0 0 [a]).1,(valZ 7 0 0 [b]).1),0))/\Below w.heap.size w w':=by
 have d0:=(cell_old (o:=cs 0 0) (i:=off) hlt).trans c0
 have d1:=(cell_old (o:=cs 0 0) (i:=off+1) hlt).trans c1
 have HB:=hide (B3.start w 0 0 a b k k)
 clear c0 c1
 have V10:=rvalue_any 7 0 0 _ 1 1 _ _ (lit1' (((w.alloc (.cells #[.int .i64 0,.int .i64 0] 58)).alloc (.cells #[.int .i64 a,.int .i64 b] 58)).alloc (.cells #[.int .i64 k,.int .i64 k] 58)) 3 a)
 simp only[World.size_alloc] at V10
 have V1:=hide V10
 clear V10
 have V2:=fun W=>hide (rvalue_any 7 0 0 _ 1 1 _ _ (lit1' W 3 b))
 obtain⟨⟨z1,e1⟩,hz1⟩:∃ Z,valZ 7 0 0 [a]=Z:=⟨_,rfl⟩
 obtain⟨⟨z2,e2⟩,hz2⟩:∃ Z,valZ 7 0 0 [b]=Z:=⟨_,rfl⟩
 rw[hz1] at V1
 rw[hz2] at V2
 rw[hz1,hz2]
 clear hz1 hz2
 go_enter Tryz.func93,Tryz.ntmps93
 go_wp2_with fail
 refine V1.out.mono ?_
 rintro e w2 ⟨rfl,hw2⟩
 have HB2:=hide (HB.out.later (bel1 _ (.cells #[.int .i64 a] 3)))
 rw[<-hw2] at HB2
 clear hw2
 obtain⟨u1,u2,-,-⟩:=facts2 HB2.out.b
 go_wp2_with fail
 refine(V2 _).out.mono ?_
 rintro e w3 ⟨rfl,hw3⟩
 have HB3:=hide (HB2.out.later (bel1 _ (.cells #[.int .i64 b] 3)))
 rw[<-hw3] at HB3
 clear hw3
 obtain⟨u5,u6,u7,u8⟩:=facts2 HB3.out.a
 go_wp2_with fail
 obtain⟨f0,f1,hB4⟩:=stored2 HB3.out.a HB3.out.bel (Nat.le_refl _) z1 z2
 exact bodyPost_ret (v:=.tuple #[.agg #[.int .i64 z1,.int .i64 z2],.int .i64 0]) (by simp[results,Tryz.results93,go_sem,f0,f1]) rfl ⟨rfl,hB4⟩
theorem qplain_29 (k s a b:Int)(bb off cap:Nat)(w:World)(hcap:1<=cap)(hlt:bb < w.heap.size)(c0:w.cell? ⟨bb,off,none⟩=some (.int .i64 a))(c1:w.cell? ⟨bb,off+1,none⟩=some (.int .i64 b))(ha:W32 a)(hb:W32 b)(Z:Int × Int)
  (H:∀ W,Calls Tryz.prog 127 #[.int .i64 13,.agg #[.int .i64 a,.int .i64 b],.agg #[.int .i64 k,.int .i64 k]] W fun e w'=>e=.returned (.agg #[.int .i64 Z.1,.int .i64 Z.2])/\Below W.heap.size W w') :
  Calls Tryz.prog 93 #[.int .i64 29,.int .i64 k,.int .i64 s,.slice (some ⟨bb,off,none⟩) 1 cap] w fun e w'=>e=.returned (spV (Z,0))/\Below w.heap.size w w':=by
 have d0:=(cell_old (o:=cs 0 0) (i:=off) hlt).trans c0
 have d1:=(cell_old (o:=cs 0 0) (i:=off+1) hlt).trans c1
 have HB:=hide (B3.start w 0 0 a b k k)
 clear c0 c1
 have HC:=fun W=>hide (H W)
 clear H
 obtain⟨x,y⟩:=Z
 go_enter Tryz.func93,Tryz.ntmps93
 go_wp2_with fail
 refine(HC _).out.mono ?_
 rintro e w2 ⟨rfl,hb2⟩
 have HB2:=hide (HB.out.later hb2)
 clear hb2
 obtain⟨u5,u6,u7,u8⟩:=facts2 HB2.out.a
 go_wp2_with fail
 obtain⟨f0,f1,hB4⟩:=stored2 HB2.out.a HB2.out.bel (Nat.le_refl _) x y
 exact bodyPost_ret (v:=.tuple #[.agg #[.int .i64 x,.int .i64 y],.int .i64 0]) (by simp[results,Tryz.results93,go_sem,f0,f1]) rfl ⟨rfl,hB4⟩
theorem qplain_30 (k s a b:Int)(bb off cap:Nat)(w:World)(hcap:1<=cap)(hlt:bb < w.heap.size)(c0:w.cell? ⟨bb,off,none⟩=some (.int .i64 a))(c1:w.cell? ⟨bb,off+1,none⟩=some (.int .i64 b))(ha:W32 a)(hb:W32 b)(Z:Int × Int)
  (H:∀ W,Calls Tryz.prog 127 #[.int .i64 14,.agg #[.int .i64 a,.int .i64 b],.agg #[.int .i64 k,.int .i64 k]] W fun e w'=>e=.returned (.agg #[.int .i64 Z.1,.int .i64 Z.2])/\Below W.heap.size W w') :
  Calls Tryz.prog 93 #[.int .i64 30,.int .i64 k,.int .i64 s,.slice (some ⟨bb,off,none⟩) 1 cap] w fun e w'=>e=.returned (spV (Z,0))/\Below w.heap.size w w':=by
 have d0:=(cell_old (o:=cs 0 0) (i:=off) hlt).trans c0
 have d1:=(cell_old (o:=cs 0 0) (i:=off+1) hlt).trans c1
 have HB:=hide (B3.start w 0 0 a b k k)
 clear c0 c1
 have HC:=fun W=>hide (H W)
 clear H
 obtain⟨x,y⟩:=Z
 go_enter Tryz.func93,Tryz.ntmps93
 go_wp2_with fail
 refine(HC _).out.mono ?_
 rintro e w2 ⟨rfl,hb2⟩
 have HB2:=hide (HB.out.later hb2)
 clear hb2
 obtain⟨u5,u6,u7,u8⟩:=facts2 HB2.out.a
 go_wp2_with fail
 obtain⟨f0,f1,hB4⟩:=stored2 HB2.out.a HB2.out.bel (Nat.le_refl _) x y
 exact bodyPost_ret (v:=.tuple #[.agg #[.int .i64 x,.int .i64 y],.int .i64 0]) (by simp[results,Tryz.results93,go_sem,f0,f1]) rfl ⟨rfl,hB4⟩
theorem qplain_31 (k s a b:Int)(bb off cap:Nat)(w:World)(hcap:1<=cap)(hlt:bb < w.heap.size)(c0:w.cell? ⟨bb,off,none⟩=some (.int .i64 a))(c1:w.cell? ⟨bb,off+1,none⟩=some (.int .i64 b))(ha:W32 a)(hb:W32 b)(Z:Int × Int)
  (H:∀ W,Calls Tryz.prog 128 #[.int .i64 15,.agg #[.int .i64 a,.int .i64 b],.agg #[.int .i64 k,.int .i64 k]] W fun e w'=>e=.returned (.agg #[.int .i64 Z.1,.int .i64 Z.2])/\Below W.heap.size W w') :
  Calls Tryz.prog 93 #[.int .i64 31,.int .i64 k,.int .i64 s,.slice (some ⟨bb,off,none⟩) 1 cap] w fun e w'=>e=.returned (spV (Z,0))/\Below w.heap.size w w':=by
 have d0:=(cell_old (o:=cs 0 0) (i:=off) hlt).trans c0
 have d1:=(cell_old (o:=cs 0 0) (i:=off+1) hlt).trans c1
 have HB:=hide (B3.start w 0 0 a b k k)
 clear c0 c1
 have HC:=fun W=>hide (H W)
 clear H
 obtain⟨x,y⟩:=Z
 go_enter Tryz.func93,Tryz.ntmps93
 go_wp2_with fail
 refine(HC _).out.mono ?_
 rintro e w2 ⟨rfl,hb2⟩
 have HB2:=hide (HB.out.later hb2)
 clear hb2
 obtain⟨u5,u6,u7,u8⟩:=facts2 HB2.out.a
 go_wp2_with fail
 obtain⟨f0,f1,hB4⟩:=stored2 HB2.out.a HB2.out.bel (Nat.le_refl _) x y
 exact bodyPost_ret (v:=.tuple #[.agg #[.int .i64 x,.int .i64 y],.int .i64 0]) (by simp[results,Tryz.results93,go_sem,f0,f1]) rfl ⟨rfl,hB4⟩
theorem qplain_32 (k s a b:Int)(bb off cap:Nat)(w:World)(hcap:1<=cap)(hlt:bb < w.heap.size)(c0:w.cell? ⟨bb,off,none⟩=some (.int .i64 a))(c1:w.cell? ⟨bb,off+1,none⟩=some (.int .i64 b))(ha:W32 a)(hb:W32 b)(Z:Int × Int)
  (H:∀ W,Calls Tryz.prog 127 #[.int .i64 10,.agg #[.int .i64 a,.int .i64 b],.agg #[.int .i64 k,.int .i64 k]] W fun e w'=>e=.returned (.agg #[.int .i64 Z.1,.int .i64 Z.2])/\Below W.heap.size W w') :
  Calls Tryz.prog 93 #[.int .i64 32,.int .i64 k,.int .i64 s,.slice (some ⟨bb,off,none⟩) 1 cap] w fun e w'=>e=.returned (spV (Z,0))/\Below w.heap.size w w':=by
 have d0:=(cell_old (o:=cs 0 0) (i:=off) hlt).trans c0
 have d1:=(cell_old (o:=cs 0 0) (i:=off+1) hlt).trans c1
 have HB:=hide (B3.start w 0 0 a b k k)
 clear c0 c1
 have HC:=fun W=>hide (H W)
 clear H
 obtain⟨x,y⟩:=Z
 go_enter Tryz.func93,Tryz.ntmps93
 go_wp2_with fail
 refine(HC _).out.mono ?_
 rintro e w2 ⟨rfl,hb2⟩
 have HB2:=hide (HB.out.later hb2)
 clear hb2
 obtain⟨u5,u6,u7,u8⟩:=facts2 HB2.out.a
 go_wp2_with fail
 obtain⟨f0,f1,hB4⟩:=stored2 HB2.out.a HB2.out.bel (Nat.le_refl _) x y
 exact bodyPost_ret (v:=.tuple #[.agg #[.int .i64 x,.int .i64 y],.int .i64 0]) (by simp[results,Tryz.results93,go_sem,f0,f1]) rfl ⟨rfl,hB4⟩
end Go.Proofs.YtimdcmponhcngaaGreat.Spn
namespace Go.Proofs.YtimdcmponhcngaaGreat.Spn
open Go.RowKit Go.IntWalk Go.Sort
set_option linter.unusedVariables false
set_option maxRecDepth 100000
set_option maxHeartbeats 16000000
structure E1 (w W:World):Prop where
 r:HasC W w.heap.size 58 #[.int .i64 0,.int .i64 0]
 bel:Below w.heap.size w W
theorem E1.later {w W W':World}(h:E1 w W)(hb:Below W.heap.size W W'):E1 w W':=⟨h.r.below hb,h.bel.trans (hb.mono h.bel.size)⟩
theorem E1.start (w:World):E1 w (w.alloc (cs 0 0)):=⟨HasC.new w 58 #[.int .i64 0,.int .i64 0],bel1 _ _⟩
theorem qends_any (op x0 y0 x1 y1 x2 y2:Int)(bb off cap:Nat)(w:World)(hcap:3<=cap)(hlt:bb < w.heap.size)
  (c0:w.cell? ⟨bb,off,none⟩=some (.int .i64 x0)) (c1:w.cell? ⟨bb,off+1,none⟩=some (.int .i64 y0))
  (c2:w.cell? ⟨bb,off+2,none⟩=some (.int .i64 x1)) (c3:w.cell? ⟨bb,off+2+1,none⟩=some (.int .i64 y1))
  (c4:w.cell? ⟨bb,off+4,none⟩=some (.int .i64 x2)) (c5:w.cell? ⟨bb,off+4+1,none⟩=some (.int .i64 y2)) :
  Calls Tryz.prog 131 #[.int .i64 op,.slice (some ⟨bb,off,none⟩) 3 cap] w fun e w'=>e=.returned (.agg #[.int .i64 (valZ op 0 0 [x0,x1,x2]).1,.int .i64 (valZ op 0 0 [y0,y1,y2]).1])/\Below w.heap.size w w':=by
 have HE:=hide (E1.start w)
 have HV1:=hide fun W=>rvalue_any op 0 0 _ 3 3 _ _ ((lit3 W 3 x0 x1 x2).later (below_drew _))
 have HV2:=hide fun W=>rvalue_any op 0 0 _ 3 3 _ _ ((lit3 W 3 y0 y1 y2).later (below_drew _))
 obtain⟨⟨z1,e1⟩,hz1⟩:∃ Z,valZ op 0 0 [x0,x1,x2]=Z:=⟨_,rfl⟩
 obtain⟨⟨z2,e2⟩,hz2⟩:∃ Z,valZ op 0 0 [y0,y1,y2]=Z:=⟨_,rfl⟩
 rw[hz1] at HV1
 rw[hz2] at HV2
 rw[hz1,hz2]
 clear hz1 hz2
 have hkeep:∀ W,E1 w W->W.cell? ⟨bb,off,none⟩=some (.int .i64 x0)/\W.cell? ⟨bb,off+1,none⟩=some (.int .i64 y0)/\W.cell? ⟨bb,off+2,none⟩=some (.int .i64 x1)/\W.cell? ⟨bb,off+2+1,none⟩=some (.int .i64 y1)/\W.cell? ⟨bb,off+4,none⟩=some (.int .i64 x2)/\W.cell? ⟨bb,off+4+1,none⟩=some (.int .i64 y2):=fun W h =>
  ⟨(h.bel.cell (p:=⟨bb,off,none⟩) hlt).trans c0,(h.bel.cell (p:=⟨bb,off+1,none⟩) hlt).trans c1,(h.bel.cell (p:=⟨bb,off+2,none⟩) hlt).trans c2,(h.bel.cell (p:=⟨bb,off+2+1,none⟩) hlt).trans c3,(h.bel.cell (p:=⟨bb,off+4,none⟩) hlt).trans c4,(h.bel.cell (p:=⟨bb,off+4+1,none⟩) hlt).trans c5⟩
 have HK:=hide hkeep
 clear hkeep c0 c1 c2 c3 c4 c5
 go_enter Tryz.func131,Tryz.ntmps131
 go_wp2_with fail
 obtain⟨W,hW⟩:∃ W,w.alloc (.cells #[.int .i64 0,.int .i64 0] 58)=W:=⟨_,rfl⟩
 rw[hW] at HE ⊢
 clear hW
 obtain⟨d0,d1,d2,d3,d4,d5⟩:=HK.out _ HE.out
 go_region_held3 (fun w'=>w'.cell? ⟨bb,off,none⟩=some (.int .i64 x0)/\w'.cell? ⟨bb,off+1,none⟩=some (.int .i64 y0)/\w'.cell? ⟨bb,off+2,none⟩=some (.int .i64 x1)/\w'.cell? ⟨bb,off+2+1,none⟩=some (.int .i64 y1)/\w'.cell? ⟨bb,off+4,none⟩=some (.int .i64 x2)/\w'.cell? ⟨bb,off+4+1,none⟩=some (.int .i64 y2))
  (first|exact⟨d0,d1,d2,d3,d4,d5⟩|exact HK.out _ (HE.out.later (bel1 _ _))|exact HK.out _ (HE.out.later (bel (bel1 _ _) (below_drew _)))|go_keep)
  ((go_at_call 69;refine(HV1.out _).mono ?_;rintro e' w2 ⟨rfl,hw2⟩;have hq:=hw2.symm;subst hq))
 have HE2:=hide (HE.out.later (bel (bel1 _ (.cells #[.int .i64 x0,.int .i64 x1,.int .i64 x2] 3)) (below_drew _)))
 obtain⟨W2,hW2⟩:∃ W2,(W.alloc (.cells #[.int .i64 x0,.int .i64 x1,.int .i64 x2] 3)).drew=W2:=⟨_,rfl⟩
 rw[hW2] at HE2 ⊢
 clear hw2 hW2 d0 d1 d2 d3 d4 d5 HE
 rename_i hHeld
 clear hHeld
 obtain⟨f0,f1,f2,f3,f4,f5⟩:=HK.out _ HE2.out
 go_wp2_with fail
 go_region_held3 (fun w'=>w'.cell? ⟨bb,off,none⟩=some (.int .i64 x0)/\w'.cell? ⟨bb,off+1,none⟩=some (.int .i64 y0)/\w'.cell? ⟨bb,off+2,none⟩=some (.int .i64 x1)/\w'.cell? ⟨bb,off+2+1,none⟩=some (.int .i64 y1)/\w'.cell? ⟨bb,off+4,none⟩=some (.int .i64 x2)/\w'.cell? ⟨bb,off+4+1,none⟩=some (.int .i64 y2))
  (first|exact⟨f0,f1,f2,f3,f4,f5⟩|exact HK.out _ (HE2.out.later (bel1 _ _))|exact HK.out _ (HE2.out.later (bel (bel1 _ _) (below_drew _)))|go_keep)
  ((go_at_call 69;refine(HV2.out _).mono ?_;rintro e' w2 ⟨rfl,hw2⟩;have hq:=hw2.symm;subst hq))
 have HE3:=hide (HE2.out.later (bel (bel1 _ (.cells #[.int .i64 y0,.int .i64 y1,.int .i64 y2] 3)) (below_drew _)))
 obtain⟨W3,hW3⟩:∃ W3,(W2.alloc (.cells #[.int .i64 y0,.int .i64 y1,.int .i64 y2] 3)).drew=W3:=⟨_,rfl⟩
 rw[hW3] at HE3 ⊢
 rename_i hHeld
 clear hHeld
 clear hw2 hW3 f0 f1 f2 f3 f4 f5 HE2
 obtain⟨s1,s2,s3,s4⟩:=facts2 HE3.out.r
 go_wp2_with fail
 obtain⟨g0,g1,hB4⟩:=stored2 HE3.out.r HE3.out.bel (by omega) z1 z2
 exact bodyPost_ret (v:=.agg #[.int .i64 z1,.int .i64 z2]) (by simp[results,Tryz.results131,go_sem,g0,g1]) rfl ⟨rfl,hB4⟩
end Go.Proofs.YtimdcmponhcngaaGreat.Spn
namespace Go.Proofs.YtimdcmponhcngaaGreat.Spn
open Go.RowKit Go.IntWalk Go.Sort
set_option linter.unusedVariables false
set_option maxRecDepth 100000
set_option maxHeartbeats 16000000
attribute [local go_sem] fld0 fld1
theorem wrap62 {z:Int}(h:-4611686018427387904<=z/\z<=4611686018427387904):IntKind.i64.wrap z=z:=by
 rw[IntKind.wrap_i64]
 omega
theorem far1 {W:World}{n i:Nat}{u v x:Value}(hc:W.cell? ⟨n+1,i,none⟩=some x):((W.setCell ⟨n,0,none⟩ u).setCell ⟨n,1,none⟩ v).cell? ⟨n+1,i,none⟩=some x:=by
 rw[World.cell?_setCell_far _ _ _ _ (by simp),World.cell?_setCell_far _ _ _ _ (by simp)]
 exact hc
theorem qplain_33_big (k s a b:Int)(bb off cap:Nat)(w:World)(hcap:1<=cap)(hlt:bb < w.heap.size)(c0:w.cell? ⟨bb,off,none⟩=some (.int .i64 a))(c1:w.cell? ⟨bb,off+1,none⟩=some (.int .i64 b))(ha:W32 a)(hb:W32 b)
  (M:Int) (hM:max (max (max a b) (-a)) (-b)=M) (hk:1<=k/\k<=4611686018427387904) (hs:0<=s/\s<=62) (hbig:0 < M/\4611686018427387904 / M < k) :
  Calls Tryz.prog 93 #[.int .i64 33,.int .i64 k,.int .i64 s,.slice (some ⟨bb,off,none⟩) 1 cap] w fun e w'=>e=.returned (spV ((0,0),13))/\Below w.heap.size w w':=by
 have d0:=(cell_old (o:=cs 0 0) (i:=off) hlt).trans c0
 have d1:=(cell_old (o:=cs 0 0) (i:=off+1) hlt).trans c1
 have HB:=hide (B3.start w 0 0 a b k k)
 clear c0 c1
 have HU0:=hull4 (((w.alloc (.cells #[.int .i64 0,.int .i64 0] 58)).alloc (.cells #[.int .i64 a,.int .i64 b] 58)).alloc (.cells #[.int .i64 k,.int .i64 k] 58)) a b (-a) (-b)
 simp only[World.size_alloc] at HU0
 have HU:=hide HU0
 clear HU0
 obtain⟨M',hM'⟩:∃ M,min (min (min a b) (-a)) (-b)=M:=⟨_,rfl⟩
 rw[hM,hM'] at HU
 have hMb:0<=M/\M<=2147483648:=by omega
 clear hM hM'
 obtain⟨hM1,hk1⟩:=hbig
 have e1:decide (0 < M)=true:=by simp;omega
 have e2:decide (4611686018427387904 / M < k)=true:=by simp;omega
 go_enter Tryz.func93,Tryz.ntmps93
 go_wp2_with fail
 refine HU.out.mono ?_
 rintro e w2 ⟨rfl,hb2⟩
 have HB2:=hide (HB.out.later (bel (bel1 _ (.cells #[.int .i64 a,.int .i64 b,.int .i64 (-a),.int .i64 (-b)] 3)) (by simpa using hb2)))
 clear hb2 d0 d1
 obtain⟨u1,u2,-,-⟩:=facts2 HB2.out.b
 obtain⟨u5,u6,u7,u8⟩:=facts2 HB2.out.a
 go_wp2_with fail
 obtain⟨f0,f1,hB4⟩:=stored2 HB2.out.a HB2.out.bel (Nat.le_refl _) 0 0
 exact bodyPost_ret (v:=.tuple #[.agg #[.int .i64 0,.int .i64 0],.int .i64 13]) (by simp[results,Tryz.results93,go_sem,f0,f1]) rfl ⟨rfl,hB4⟩
theorem qplain_33 (k s a b:Int)(bb off cap:Nat)(w:World)(hcap:1<=cap)(hlt:bb < w.heap.size)(c0:w.cell? ⟨bb,off,none⟩=some (.int .i64 a))(c1:w.cell? ⟨bb,off+1,none⟩=some (.int .i64 b))(ha:W32 a)(hb:W32 b)
  (M:Int) (hM:max (max (max a b) (-a)) (-b)=M) (hk:1<=k/\k<=4611686018427387904) (hs:0<=s/\s<=62) (hbig:¬(0 < M/\4611686018427387904 / M < k)) (hpa:-4611686018427387904<=a*k/\a*k<=4611686018427387904) (hpb:-4611686018427387904<=b*k/\b*k<=4611686018427387904) :
  Calls Tryz.prog 93 #[.int .i64 33,.int .i64 k,.int .i64 s,.slice (some ⟨bb,off,none⟩) 1 cap] w fun e w'=>e=.returned (spV ((a*k / 2 ^ s.toNat,b*k / 2 ^ s.toNat),0))/\Below w.heap.size w w':=by
 have d0:=(cell_old (o:=cs 0 0) (i:=off) hlt).trans c0
 have d1:=(cell_old (o:=cs 0 0) (i:=off+1) hlt).trans c1
 have HB:=hide (B3.start w 0 0 a b k k)
 clear c0 c1
 have HU0:=hull4 (((w.alloc (.cells #[.int .i64 0,.int .i64 0] 58)).alloc (.cells #[.int .i64 a,.int .i64 b] 58)).alloc (.cells #[.int .i64 k,.int .i64 k] 58)) a b (-a) (-b)
 simp only[World.size_alloc] at HU0
 have HU:=hide HU0
 clear HU0
 obtain⟨M',hM'⟩:∃ M,min (min (min a b) (-a)) (-b)=M:=⟨_,rfl⟩
 rw[hM,hM'] at HU
 have hMb:0<=M/\M<=2147483648:=by omega
 clear hM hM'
 have hp:=pow_bd s.toNat 62 (by omega)
 have HP:=fun w=>hide (rpower_any s w (by omega))
 have wa:IntKind.i64.wrap (a*k)=a*k:=wrap62 hpa
 have wb:IntKind.i64.wrap (b*k)=b*k:=wrap62 hpb
 have HF:=hide fun(z:Int) (W:World) (hz:z=IntKind.i64.wrap (a*k)\/z=IntKind.i64.wrap (b*k))=>rfloor_any z (2 ^ s.toNat) W (by rcases hz with rfl|rfl <;> first|(rw[wa];assumption)|(rw[wb];assumption)) (by omega)
 have WA:=hide wa
 have WB:=hide wb
 clear wa wb
 obtain⟨p,hpp⟩:∃ p,(2:Int) ^ s.toNat=p:=⟨_,rfl⟩
 rw[hpp] at HP HF hp ⊢
 clear hpp
 rcases(show M=0\/(1<=M/\k<=4611686018427387904 / M) by omega) with rfl|⟨hM1,hk1⟩
 ·clear hbig hMb
  go_enter Tryz.func93,Tryz.ntmps93
  go_wp2_with fail
  refine HU.out.mono ?_
  rintro e w2 ⟨rfl,hb2⟩
  have HB2:=hide (HB.out.later (bel (bel1 _ (.cells #[.int .i64 a,.int .i64 b,.int .i64 (-a),.int .i64 (-b)] 3)) (by simpa using hb2)))
  clear hb2 d0 d1
  obtain⟨u1,u2,-,-⟩:=facts2 HB2.out.b
  obtain⟨u5,u6,u7,u8⟩:=facts2 HB2.out.a
  go_wp2_with fail
  go_region_held3 (fun w'=>w'.cell? ⟨w.heap.size+1,0,none⟩=some (.int .i64 a)/\w'.cell? ⟨w.heap.size+1,1,none⟩=some (.int .i64 b))
   (first|exact⟨u1,u2⟩|exact⟨far1 u1,far1 u2⟩|go_keep)
   ((first
    | (go_at_call 130;refine(HP _).out.mono ?_;rintro e' w' ⟨rfl,hw'⟩;have hq:=hw'.symm;subst hq)
    | (go_at_call 129;refine(HF.out _ _ (by first | exact .inl rfl | exact .inr rfl)).mono ?_;rintro e' w' ⟨rfl,hw'⟩;have hq:=hw'.symm;subst hq)))
  all_goals
   rename_i hHeld
   clear hHeld
   rw[WA.out,WB.out]
   go_wp2_with fail
   obtain⟨f0,f1,hB4⟩:=stored2 HB2.out.a HB2.out.bel (Nat.le_refl _) (a*k / p) (b*k / p)
   exact bodyPost_ret (v:=.tuple #[.agg #[.int .i64 (a*k / p),.int .i64 (b*k / p)],.int .i64 0]) (by simp[results,Tryz.results93,go_sem,f0,f1]) rfl ⟨rfl,bel hB4 (below_drew _)⟩
 ·have e1:decide (0 < M)=true:=by simp;omega
  have e2:decide (4611686018427387904 / M < k)=false:=by simp;omega
  clear hbig
  go_enter Tryz.func93,Tryz.ntmps93
  go_wp2_with fail
  refine HU.out.mono ?_
  rintro e w2 ⟨rfl,hb2⟩
  have HB2:=hide (HB.out.later (bel (bel1 _ (.cells #[.int .i64 a,.int .i64 b,.int .i64 (-a),.int .i64 (-b)] 3)) (by simpa using hb2)))
  clear hb2 d0 d1
  obtain⟨u1,u2,-,-⟩:=facts2 HB2.out.b
  obtain⟨u5,u6,u7,u8⟩:=facts2 HB2.out.a
  go_wp2_with fail
  go_region_held3 (fun w'=>w'.cell? ⟨w.heap.size+1,0,none⟩=some (.int .i64 a)/\w'.cell? ⟨w.heap.size+1,1,none⟩=some (.int .i64 b))
   (first|exact⟨u1,u2⟩|exact⟨far1 u1,far1 u2⟩|go_keep)
   ((first
    | (go_at_call 130;refine(HP _).out.mono ?_;rintro e' w' ⟨rfl,hw'⟩;have hq:=hw'.symm;subst hq)
    | (go_at_call 129;refine(HF.out _ _ (by first | exact .inl rfl | exact .inr rfl)).mono ?_;rintro e' w' ⟨rfl,hw'⟩;have hq:=hw'.symm;subst hq)))
  all_goals
   rename_i hHeld
   clear hHeld
   rw[WA.out,WB.out]
   go_wp2_with fail
   obtain⟨f0,f1,hB4⟩:=stored2 HB2.out.a HB2.out.bel (Nat.le_refl _) (a*k / p) (b*k / p)
   exact bodyPost_ret (v:=.tuple #[.agg #[.int .i64 (a*k / p),.int .i64 (b*k / p)],.int .i64 0]) (by simp[results,Tryz.results93,go_sem,f0,f1]) rfl ⟨rfl,bel hB4 (below_drew _)⟩
end Go.Proofs.YtimdcmponhcngaaGreat.Spn
