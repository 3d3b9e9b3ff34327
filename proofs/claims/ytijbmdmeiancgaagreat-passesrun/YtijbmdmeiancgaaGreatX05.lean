import Derived.Test.YtijbmdmeiancgaaGreatXH
import Derived.Test.YtijbmdmeiancgaaGreatX04
set_option maxRecDepth 100000
set_option maxHeartbeats 32000000
set_option linter.unusedVariables false
namespace Go.Proofs.Spn
open Go.RowKit Go.IntWalk Go.Sort
def mV (L:List (Int × Int)):List Int:=L.map (·.1)
def nO (L:List (Int × Int)):List Int:=L.map (·.2)
theorem aG2 {L:List (Int × Int)}{j:Nat}{x y:Int}(hj:j < L.length)(h:L.getD j (0,0)=(x,y)):mV (L.take (j+1))=mV (L.take j)++[x]/\nO (L.take (j+1))=nO (L.take j)++[y]:=by
 have e:L[j]=(x,y):=by simpa [List.getD,hj] using h
 rw[List.take_succ_eq_append_getElem hj,e]
 simp[mV,nO]
def iP (f:List Int->Int × Int)(L:List (Int × Int)):(Int × Int) × Int :=
 if (f (mV L)).2≠0 then((0,0),(f (mV L)).2) else(((f (mV L)).1,(f (nO L)).1),(f (nO L)).2)
def aEx (f:List Int->Int × Int)(L:List (Int × Int)):Value:=.tuple #[.agg #[.int .i64 (iP f L).1.1,.int .i64 (iP f L).1.2],.int .i64 (iP f L).2]
theorem aO {W:World}{o:Obj}{b i:Nat}(h:b < W.heap.size):(W.alloc o).cell? ⟨b,i,none⟩=W.cell? ⟨b,i,none⟩:=(aH W o).cell (p:=⟨b,i,none⟩) h
theorem c3 (W:World)(x y p q:Int) :
  (((W.alloc (cs x y)).alloc (.cells #[.int .i64 p] 3)).alloc (.cells #[.int .i64 q] 3)).cell? ⟨W.heap.size,0,none⟩=some (.int .i64 x) /\
  (((W.alloc (cs x y)).alloc (.cells #[.int .i64 p] 3)).alloc (.cells #[.int .i64 q] 3)).cell? ⟨W.heap.size,1,none⟩=some (.int .i64 y) /\
  (((W.alloc (cs x y)).alloc (.cells #[.int .i64 p] 3)).alloc (.cells #[.int .i64 q] 3)).cell? ⟨W.heap.size+1,0,none⟩=some (.int .i64 p) /\
  (((W.alloc (cs x y)).alloc (.cells #[.int .i64 p] 3)).alloc (.cells #[.int .i64 q] 3)).cell? ⟨W.heap.size+1+1,0,none⟩=some (.int .i64 q):=by
 have h1:=((aI.new W 81 #[.int .i64 x,.int .i64 y]).alloc (.cells #[.int .i64 p] 3)).alloc (.cells #[.int .i64 q] 3)
 have h2:=(aI.new (W.alloc (cs x y)) 3 #[.int .i64 p]).alloc (.cells #[.int .i64 q] 3)
 have h3:=aI.new ((W.alloc (cs x y)).alloc (.cells #[.int .i64 p] 3)) 3 #[.int .i64 q]
 simp only[World.size_alloc] at h2 h3
 exact⟨h1.cell 0 rfl,h1.cell 1 rfl,h2.cell 0 rfl,h3.cell 0 rfl⟩
theorem aIh (op k s:Int)(b1 b2 b3:Nat)(a:Option Addr)(n cap:Nat)(L:List (Int × Int))(w:World)(hc:Cap w b1 b2 b3 op k s)(h:Spans w a n cap L)(hn3:n<=3)(f:List Int->Int × Int)(hf:∀ xs,aR op k s xs=f xs) :
  Calls Tryz.prog 147 #[.slice a n cap,.func (.func 142) #[] #[ptr b1,ptr b2,ptr b3]] w fun e w'=>e=.returned (aEx f L)/\Below w.heap.size w w':=by
 have hl:=h.len
 have HC:=aC hc
 have H:=aC h
 have HL:=aC hl
 have HF:=aC hf
 clear hl hc h hf
 have R0:=aI.new w 81 #[.int .i64 0,.int .i64 0]
 have B0:=aH w (cs 0 0)
 have hs0:(w.alloc (cs 0 0)).heap.size=w.heap.size+1:=by simp
 obtain⟨w0,hw0⟩:∃ w0,w.alloc (cs 0 0)=w0:=⟨_,rfl⟩
 rw[hw0] at R0 B0 hs0
 have HR0:=aC R0
 have HB0:=aC B0
 have HW0:=aC hw0
 clear R0 B0 hw0
 have hE0:En w0 w0 (.slice none 0 0) (.slice none 0 0) 0 0 [] []:=by
  refine⟨⟨rfl,.inl ⟨rfl,rfl⟩⟩,⟨rfl,.inl ⟨rfl,rfl⟩⟩,?_,Below.refl _ _⟩
  intro g hg
  simp[Value.ownBlock] at hg
 have HE0:=aC hE0
 clear hE0
 go_enter Tryz.func147,Tryz.ntmps147
 go_wp2_with fail
 rw[show w.alloc (.cells #[.int .i64 0,.int .i64 0] 81)=w0 from HW0.o]
 go_loopw [6,7,15] (fun v1 v2 i wr=>∃ j:Nat,j<=n/\i=.int .i64 j/\En w0 wr v1 v2 j j (mV (L.take j)) (nO (L.take j))) (fun _ _ i _=>n-(intOf i).toNat)
 case atStart=>exact⟨0,by omega,rfl,HE0.o⟩
 case round =>
  rename_i wr
  obtain⟨j,hj,rfl,hen⟩:=hrel
  have HEN:=aC hen
  clear hen
  have HBW:=aC (bel HB0.o HEN.o.bel)
  by_cases hlt:j < n
  ·obtain⟨bb,off,rfl,hbb,hcell⟩:=(H.o.later HBW.o).at (by omega)
   obtain⟨g1,g2⟩:=hcell j hlt
   clear hcell
   obtain⟨⟨x,y⟩,hxy⟩:∃ p,L.getD j (0,0)=p:=⟨_,rfl⟩
   rw[hxy] at g1 g2
   have HXY:=aC hxy
   clear hxy
   have hj0:(0:Int)<=(j:Int):=by omega
   have hj1:(j:Int) < (n:Int):=by omega
   have hv1:∀ g,u6.ownBlock=some g->g < wr.heap.size:=fun g hg=>(HEN.o.a.lt g hg).2
   have HV1:=aC hv1
   clear hv1
   have hv2:∀ g,u7.ownBlock=some g->g < wr.heap.size:=fun g hg=>(HEN.o.b.lt g hg).2
   have HV2:=aC hv2
   clear hv2
   go_wp2_with fail
   go_region_held3 (fun w'=>w'.cell? ⟨wr.heap.size,0,none⟩=some (.int .i64 x)/\w'.cell? ⟨wr.heap.size,1,none⟩=some (.int .i64 y))
    (first|exact⟨t1,t2⟩|exact⟨t3,t4⟩|go_keep)
    (first
     | (refine aKm (by rfl) _ _ (by rfl) (by rfl) (by first | exact((HEN.o.alloc _).alloc _).drew | exact(((HEN.o.alloc _).alloc _).alloc _).drew) _ x (by rfl) (by first | (simp;done) | exact(c3 wr x y x y).2.2.1 | exact(c3 wr x y y x).2.2.2) (by omega) ?_;intro g cap1 w1 hen1 hk1 hsz1;have t1:w1.cell? ⟨wr.heap.size,0,none⟩=some (.int .i64 x):=(by rw[hk1 _ (by simp;omega) (fun h=>by have:=HV1.o _ h;simp at this)];first | (simp;done) | exact(c3 wr x y x y).1 | exact(c3 wr x y y x).1);have t2:w1.cell? ⟨wr.heap.size,1,none⟩=some (.int .i64 y):=(by rw[hk1 _ (by simp;omega) (fun h=>by have:=HV1.o _ h;simp at this)];first | (simp;done) | exact(c3 wr x y x y).2.1 | exact(c3 wr x y y x).2.1);have hl1:wr.heap.size < w1.heap.size:=World.block_lt_of_cell? w1 _ t1)
     | (refine aO0 (by rfl) _ _ (by rfl) (by rfl) (by first | exact hen1 | exact hen1.alloc _) _ y (by rfl) (by first | (simp;done) | (rw[hk1 _ (by simp) (fun h=>by have:=HV1.o _ h;simp at this;omega)];first | exact(c3 wr x y x y).2.2.2 | exact(c3 wr x y y x).2.2.1)) (by omega) ?_;intro gb cap2 w2 hen2 hk2 hsz2;have t3:w2.cell? ⟨wr.heap.size,0,none⟩=some (.int .i64 x):=(by rw[hk2 _ (by first | exact hl1 | (simp;omega)) (fun h=>by have:=HV2.o _ h;simp at this)];first | exact t1 | exact(aO hl1).trans t1);have t4:w2.cell? ⟨wr.heap.size,1,none⟩=some (.int .i64 y):=(by rw[hk2 _ (by first | exact hl1 | (simp;omega)) (fun h=>by have:=HV2.o _ h;simp at this)];first | exact t2 | exact(aO hl1).trans t2)))
   all_goals
    clear hk1 hk2 t1 t2 t3 t4 hl1 hsz1 hsz2 hen1 g1 g2 HEN HV1 HV2 HBW hbb
    have HEN2:=aC hen2
    clear hen2
    go_wp2_with fail
    go_roundw
    case rel =>
     refine⟨j+1,by omega,by go_num,?_⟩
     have hs:=aG2 (by rw[HL.o];exact hlt) HXY.o
     rw[hs.1,hs.2]
     exact HEN2.o
    case measure=>simp[intOf];omega
  ·obtain rfl:j=n:=by omega
   have he:=HEN.o
   rw[List.take_of_length_le (by rw[HL.o];omega)] at he
   obtain⟨a1,c1,rfl,hI1,-⟩:=Ints.of_owns he.a
   obtain⟨a2,c2,rfl,hI2,-⟩:=Ints.of_owns he.b
   have HI2:=aC hI2
   have CA:=yX op k s b1 b2 b3 a1 j c1 (mV L) wr hI1 (HC.o.later HBW.o)
   have HR:=aC (HR0.o.below HEN.o.bel)
   clear he hI1 hI2 HEN
   rw[HF.o] at CA
   obtain⟨⟨z1,e1⟩,hZ1⟩:∃ Z,f (mV L)=Z:=⟨_,rfl⟩
   rw[hZ1] at CA
   have HZ1:=aC hZ1
   have HCA:=aC CA
   clear hZ1 CA
   go_wp2_with fail
   refine HCA.o.mono ?_
   rintro e' w2 ⟨rfl,hb2⟩
   have HB2:=aC (bel HBW.o hb2)
   have HR2:=aC (HR.o.below hb2)
   have HI22:=aC (HI2.o.later hb2)
   clear hb2 HBW HR HI2 HCA
   by_cases he1:e1=0
   ·subst he1
    have CB:=yX op k s b1 b2 b3 a2 j c2 (nO L) w2 HI22.o (HC.o.later HB2.o)
    rw[HF.o] at CB
    obtain⟨⟨z2,e2⟩,hZ2⟩:∃ Z,f (nO L)=Z:=⟨_,rfl⟩
    rw[hZ2] at CB
    have HZ2:=aC hZ2
    have HCB:=aC CB
    clear hZ2 CB
    go_wp2_with fail
    refine HCB.o.mono ?_
    rintro e' w3 ⟨rfl,hb3⟩
    have HB3:=aC (bel HB2.o hb3)
    have HR3:=aC (HR2.o.below hb3)
    clear hb3 HB2 HR2 HCB
    obtain⟨s1,s2,s3,s4⟩:=aF HR3.o
    go_wp2_with fail
    obtain⟨d0,d1,hB2⟩:=aK HR3.o HB3.o (by omega) z1 z2
    exact bodyPost_ret (v:=.tuple #[.agg #[.int .i64 z1,.int .i64 z2],.int .i64 e2]) (by simp[results,Tryz.results147,go_sem,d0,d1]) rfl ⟨by simp[aEx,iP,HZ1.o,HZ2.o],hB2⟩
   ·have he':(e1 != 0)=true:=by simp[he1]
    have HE1:=aC he1
    clear he1
    obtain⟨s1,s2,s3,s4⟩:=aF HR2.o
    go_wp2_with fail
    obtain⟨d0,d1,hB2⟩:=aK HR2.o HB2.o (by omega) 0 0
    exact bodyPost_ret (v:=.tuple #[.agg #[.int .i64 0,.int .i64 0],.int .i64 e1]) (by simp[results,Tryz.results147,go_sem,d0,d1]) rfl ⟨by simp[aEx,iP,HZ1.o,HE1.o],hB2⟩
abbrev lH (Z:(Int × Int) × Int):Value:=.tuple #[.agg #[.int .i64 Z.1.1,.int .i64 Z.1.2],.int .i64 Z.2]
def oQ (f:Int->Int->Int × Int)(op a b c d:Int):(Int × Int) × Int :=
 if hasB c d 0=true then((0,0),12) else if op=11 then dC f a b c d else(jP a b c d,0)
theorem yQ (op k s a b c d:Int)(b1 b2 b3:Nat)(w:World)(hc:Cap w b1 b2 b3 op k s)(f:Int->Int->Int × Int)(hf:∀ u v,aR op k s [u,v]=f u v)
  (ho:op=11\/op=12) (ha:bF a) (hb:bF b) (hc':bF c) (hd:bF d) :
  Calls Tryz.prog 145 #[.int .i64 op,.agg #[.int .i64 a,.int .i64 b],.agg #[.int .i64 c,.int .i64 d],.func (.func 142) #[] #[ptr b1,ptr b2,ptr b3]] w fun e w' =>
   e=.returned (lH (oQ f op a b c d))/\Below w.heap.size w w':=by
 have HH:=fun w=>aC (aD3 c d 0 w)
 have HC:=aC hc
 have HF:=aC hf
 clear hc hf
 cases h0:hasB c d 0
 ·rw[h0] at HH
  rcases ho with rfl|rfl
  ·rw[show oQ f 11 a b c d=dC f a b c d by simp[oQ,h0]]
   clear h0
   go_enter Tryz.func145,Tryz.ntmps145
   go_wp2_with fail
   refine(HH _).o.mono ?_
   rintro e w2 ⟨rfl,hb2⟩
   obtain⟨k1,k2,k3,hB⟩:=lV hb2
   obtain⟨q1,q2,-,-⟩:=aF k1
   obtain⟨r1,r2,-,-⟩:=aF k2
   have HK3:=aC k3
   have HB2:=aC hB
   have CC:=aC (sP 11 k s a b c d b1 b2 b3 w2 (HC.o.later hB) f HF.o)
   clear hb2 k1 k2 k3 hB
   unfold uV at CC
   obtain⟨⟨⟨x,y⟩,e⟩,hZ⟩:∃ Z,dC f a b c d=Z:=⟨_,rfl⟩
   rw[hZ] at CC
   have HZ:=aC hZ
   clear hZ
   go_wp2_with fail
   refine CC.o.mono ?_
   rintro e' w3 ⟨rfl,hb3⟩
   have hR:=HK3.o.below hb3
   have hB3:=bel HB2.o hb3
   obtain⟨s1,s2,s3,s4⟩:=aF hR
   clear hb3
   go_wp2_with fail
   obtain⟨d0,d1,hB4⟩:=aK hR hB3 (by omega) x y
   exact bodyPost_ret (v:=.tuple #[.agg #[.int .i64 x,.int .i64 y],.int .i64 e]) (by simp[results,Tryz.results145,go_sem,d0,d1]) rfl ⟨by rw[HZ.o],hB4⟩
  ·rw[show oQ f 12 a b c d=(jP a b c d,0) by simp[oQ,h0]]
   clear h0
   have HLf:=fun w=>aC (aJ6 a b c d w ha hb hc' hd)
   generalize jP a b c d=Z at *
   obtain⟨x,y⟩:=Z
   go_enter Tryz.func145,Tryz.ntmps145
   go_wp2_with fail
   refine(HH _).o.mono ?_
   rintro e w2 ⟨rfl,hb2⟩
   obtain⟨k1,k2,k3,hB⟩:=lV hb2
   obtain⟨q1,q2,-,-⟩:=aF k1
   obtain⟨r1,r2,-,-⟩:=aF k2
   have HK3:=aC k3
   have HB2:=aC hB
   clear hb2 k1 k2 k3 hB
   go_wp2_with fail
   refine(HLf _).o.mono ?_
   rintro e' w3 ⟨rfl,hb3⟩
   have hR:=HK3.o.below hb3
   have hB3:=bel HB2.o hb3
   obtain⟨s1,s2,s3,s4⟩:=aF hR
   clear hb3
   go_wp2_with fail
   obtain⟨d0,d1,hB4⟩:=aK hR hB3 (by omega) x y
   exact bodyPost_ret (v:=.tuple #[.agg #[.int .i64 x,.int .i64 y],.int .i64 0]) (by simp[results,Tryz.results145,go_sem,d0,d1]) rfl ⟨rfl,hB4⟩
 ·rw[show oQ f op a b c d=((0,0),12) by simp[oQ,h0]]
  rw[h0] at HH
  clear h0 ho
  go_enter Tryz.func145,Tryz.ntmps145
  go_wp2_with fail
  refine(HH _).o.mono ?_
  rintro e w2 ⟨rfl,hb2⟩
  obtain⟨-,-,k3,hB⟩:=lV hb2
  obtain⟨s1,s2,s3,s4⟩:=aF k3
  clear hb2
  go_wp2_with fail
  obtain⟨d0,d1,hB4⟩:=aK k3 hB (by omega) 0 0
  exact bodyPost_ret (v:=.tuple #[.agg #[.int .i64 0,.int .i64 0],.int .i64 12]) (by simp[results,Tryz.results145,go_sem,d0,d1]) rfl ⟨rfl,hB4⟩
def aP9 (op:Int)(L:List (Int × Int)):Int × Int :=
 if L.length=1 then kI op (L.getD 0 (0,0)).1 (L.getD 0 (0,0)).2 else if L.length=2 then jY op (L.getD 0 (0,0)).1 (L.getD 0 (0,0)).2 (L.getD 1 (0,0)).1 (L.getD 1 (0,0)).2
 else nZ (L.getD 0 (0,0)).1 (L.getD 0 (0,0)).2 (L.getD 1 (0,0)).1 (L.getD 1 (0,0)).2 (L.getD 2 (0,0)).1 (L.getD 2 (0,0)).2
theorem aKh (op a b:Int)(bb off cap:Nat)(w:World)(hcap:1<=cap)(hlt:bb < w.heap.size)(c0:w.cell? ⟨bb,off,none⟩=some (.int .i64 a))(c1:w.cell? ⟨bb,off+1,none⟩=some (.int .i64 b))(ha:bF a)(hb:bF b) :
  Calls Tryz.prog 148 #[.int .i64 op,.slice (some ⟨bb,off,none⟩) 1 cap] w fun e w'=>e=.returned (.agg #[.int .i64 (kI op a b).1,.int .i64 (kI op a b).2])/\Below w.heap.size w w':=by
 have HA:=fun w=>aC (aDp op a b w ha hb)
 generalize kI op a b=Z at *
 obtain⟨x,y⟩:=Z
 have d0:=(aO (o:=cs 0 0) (i:=off) hlt).trans c0
 have d1:=(aO (o:=cs 0 0) (i:=off+1) hlt).trans c1
 have HR:=aC (aI.new w 81 #[.int .i64 0,.int .i64 0])
 have HB:=aC (aH w (cs 0 0))
 clear c0 c1
 go_enter Tryz.func148,Tryz.ntmps148
 go_wp2_with fail
 refine(HA _).o.mono ?_
 rintro e w2 ⟨rfl,hb2⟩
 have hR:=HR.o.below hb2
 have hB:=bel HB.o hb2
 obtain⟨s1,s2,s3,s4⟩:=aF hR
 clear hb2
 go_wp2_with fail
 obtain⟨d0,d1,hB4⟩:=aK hR hB (by omega) x y
 exact bodyPost_ret (v:=.agg #[.int .i64 x,.int .i64 y]) (by simp[results,Tryz.results148,go_sem,d0,d1]) rfl ⟨rfl,hB4⟩
theorem aJx (op a b c d:Int)(bb off cap:Nat)(w:World)(hcap:2<=cap)(hlt:bb < w.heap.size)(c0:w.cell? ⟨bb,off,none⟩=some (.int .i64 a))(c1:w.cell? ⟨bb,off+1,none⟩=some (.int .i64 b))
  (c2:w.cell? ⟨bb,off+2,none⟩=some (.int .i64 c)) (c3:w.cell? ⟨bb,off+2+1,none⟩=some (.int .i64 d)) (ha:bF a) (hb:bF b) (hc:bF c) (hd:bF d) (ho:op=8\/op=9\/op=15\/op=16\/op=17\/op=22\/op=23) :
  Calls Tryz.prog 148 #[.int .i64 op,.slice (some ⟨bb,off,none⟩) 2 cap] w fun e w'=>e=.returned (.agg #[.int .i64 (jY op a b c d).1,.int .i64 (jY op a b c d).2])/\Below w.heap.size w w':=by
 have HA:=fun w=>aC (aCa op a b c d w ha hb hc hd ho)
 generalize jY op a b c d=Z at *
 obtain⟨x,y⟩:=Z
 have d0:=(aO (o:=cs 0 0) (i:=off) hlt).trans c0
 have d1:=(aO (o:=cs 0 0) (i:=off+1) hlt).trans c1
 have d2:=(aO (o:=cs 0 0) (i:=off+2) hlt).trans c2
 have d3:=(aO (o:=cs 0 0) (i:=off+2+1) hlt).trans c3
 have HR:=aC (aI.new w 81 #[.int .i64 0,.int .i64 0])
 have HB:=aC (aH w (cs 0 0))
 have HO:=aC ho
 clear c0 c1 c2 c3 ho
 go_enter Tryz.func148,Tryz.ntmps148
 go_wp2_with fail
 have e0:=cell_regrown d0
 have e1:=cell_regrown d1
 have e2:=cell_regrown d2
 have e3:=cell_regrown d3
 refine eF (hf:=(List.dropLast_concat_getLast (by simp)).symm) mixed (by kernel_rfl) rfl (by kernel_rfl) (by kernel_rfl) (by kernel_rfl) (by kernel_rfl) (by kernel_rfl) ?_
 simp only[List.dropLast_cons_cons,List.dropLast_singleton,List.getLast_cons_cons,List.getLast_singleton]
 repeat (go_big_quiet_step ((go_at_call 173;exact Calls.regrown_of (HA _).o)))
 refine wpQuiet_nil ?_
 intro _ hw'
 obtain⟨pq,hw''⟩:=hw'
 subst hw''
 have hb2:=below_regrown (w.alloc (cs 0 0)) pq.d pq.os
 have hR:=HR.o.below hb2
 have hB:=bel HB.o hb2
 clear hb2 d0 d1 d2 d3 e0 e1 e2 e3
 generalize grow (redrawn (w.alloc (.cells #[.int .i64 0,.int .i64 0] 81)) pq.d) pq.os=G at *
 obtain⟨s1,s2,s3,s4⟩:=aF hR
 go_wp2_with fail
 obtain⟨d0,d1,hB4⟩:=aK hR hB (by omega) x y
 exact bodyPost_ret (v:=.agg #[.int .i64 x,.int .i64 y]) (by simp[results,Tryz.results148,go_sem,d0,d1]) rfl ⟨rfl,hB4⟩
theorem aH4 (op a b c d e f:Int)(bb off cap:Nat)(w:World)(hcap:3<=cap)(hlt:bb < w.heap.size)(c0:w.cell? ⟨bb,off,none⟩=some (.int .i64 a))(c1:w.cell? ⟨bb,off+1,none⟩=some (.int .i64 b))
  (c2:w.cell? ⟨bb,off+2,none⟩=some (.int .i64 c)) (c3:w.cell? ⟨bb,off+2+1,none⟩=some (.int .i64 d)) (c4:w.cell? ⟨bb,off+4,none⟩=some (.int .i64 e)) (c5:w.cell? ⟨bb,off+4+1,none⟩=some (.int .i64 f)) :
  Calls Tryz.prog 148 #[.int .i64 op,.slice (some ⟨bb,off,none⟩) 3 cap] w fun r w'=>r=.returned (.agg #[.int .i64 (nZ a b c d e f).1,.int .i64 (nZ a b c d e f).2])/\Below w.heap.size w w':=by
 have HA:=fun w=>aC (aAi a b c d e f w)
 generalize nZ a b c d e f=Z at *
 obtain⟨x,y⟩:=Z
 have d0:=(aO (o:=cs 0 0) (i:=off) hlt).trans c0
 have d1:=(aO (o:=cs 0 0) (i:=off+1) hlt).trans c1
 have d2:=(aO (o:=cs 0 0) (i:=off+2) hlt).trans c2
 have d3:=(aO (o:=cs 0 0) (i:=off+2+1) hlt).trans c3
 have d4:=(aO (o:=cs 0 0) (i:=off+4) hlt).trans c4
 have d5:=(aO (o:=cs 0 0) (i:=off+4+1) hlt).trans c5
 have HR:=aC (aI.new w 81 #[.int .i64 0,.int .i64 0])
 have HB:=aC (aH w (cs 0 0))
 clear c0 c1 c2 c3 c4 c5
 go_enter Tryz.func148,Tryz.ntmps148
 go_wp2_with fail
 have e0:=cell_regrown d0
 have e1:=cell_regrown d1
 have e2:=cell_regrown d2
 have e3:=cell_regrown d3
 have e4:=cell_regrown d4
 have e5:=cell_regrown d5
 refine eF (hf:=(List.dropLast_concat_getLast (by simp)).symm) mixed (by kernel_rfl) rfl (by kernel_rfl) (by kernel_rfl) (by kernel_rfl) (by kernel_rfl) (by kernel_rfl) ?_
 simp only[List.dropLast_cons_cons,List.dropLast_singleton,List.getLast_cons_cons,List.getLast_singleton]
 repeat (go_big_quiet_step ((go_at_call 174;exact Calls.regrown_of (HA _).o)))
 refine wpQuiet_nil ?_
 intro _ hw'
 obtain⟨pq,hw''⟩:=hw'
 subst hw''
 have hb2:=below_regrown (w.alloc (cs 0 0)) pq.d pq.os
 have hR:=HR.o.below hb2
 have hB:=bel HB.o hb2
 clear hb2 d0 d1 d2 d3 d4 d5 e0 e1 e2 e3 e4 e5
 generalize grow (redrawn (w.alloc (.cells #[.int .i64 0,.int .i64 0] 81)) pq.d) pq.os=G at *
 obtain⟨s1,s2,s3,s4⟩:=aF hR
 go_wp2_with fail
 obtain⟨d0,d1,hB4⟩:=aK hR hB (by omega) x y
 exact bodyPost_ret (v:=.agg #[.int .i64 x,.int .i64 y]) (by simp[results,Tryz.results148,go_sem,d0,d1]) rfl ⟨rfl,hB4⟩
end Go.Proofs.Spn
