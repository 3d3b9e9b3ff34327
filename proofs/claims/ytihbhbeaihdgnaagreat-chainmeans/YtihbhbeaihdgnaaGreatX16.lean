import Derived.Test.YtihbhbeaihdgnaaGreatXH
import Derived.Test.YtihbhbeaihdgnaaGreatX15
set_option maxRecDepth 100000
set_option maxHeartbeats 32000000
set_option linter.unusedVariables false
namespace Go.Proofs.Spn
open Go.RowKit Go.IntWalk Go.Sort
abbrev spV (Z:(Int × Int) × Int):Value:=.tuple #[.agg #[.int .i64 Z.1.1,.int .i64 Z.1.2],.int .i64 Z.2]
def rY (f:Int->Int->Int × Int)(op a b c d:Int):(Int × Int) × Int :=
 if hasB c d 0=true then((0,0),12) else if op=11 then eO f a b c d else(lI a b c d,0)
theorem aCh (op k s a b c d:Int)(b1 b2 b3:Nat)(w:World)(hc:Cap w b1 b2 b3 op k s)(f:Int->Int->Int × Int)(hf:∀ u v,bK op k s [u,v]=f u v)
  (ho:op=11\/op=12) (ha:eU a) (hb:eU b) (hc':eU c) (hd:eU d) :
  Calls Tryz.prog 192 #[.int .i64 op,.agg #[.int .i64 a,.int .i64 b],.agg #[.int .i64 c,.int .i64 d],.func (.func 189) #[] #[ptr b1,ptr b2,ptr b3]] w fun e w' =>
   e=.returned (spV (rY f op a b c d))/\Below w.heap.size w w':=by
 have HH:=fun w=>aA (aHe c d 0 w)
 have HC:=aA hc
 have HF:=aA hf
 clear hc hf
 cases h0:hasB c d 0
 ·rw[h0] at HH
  rcases ho with rfl|rfl
  ·rw[show rY f 11 a b c d=eO f a b c d by simp[rY,h0]]
   clear h0
   go_enter Tryz.func192,Tryz.ntmps192
   go_wp2_with fail
   refine(HH _).o.mono ?_
   rintro e w2 ⟨rfl,hb2⟩
   obtain⟨k1,k2,k3,hB⟩:=nC hb2
   obtain⟨q1,q2,-,-⟩:=aG k1
   obtain⟨r1,r2,-,-⟩:=aG k2
   have HK3:=aA k3
   have HB2:=aA hB
   have CC:=aA (uQ 11 k s a b c d b1 b2 b3 w2 (HC.o.later hB) f HF.o)
   clear hb2 k1 k2 k3 hB
   unfold wI at CC
   obtain⟨⟨⟨x,y⟩,e⟩,hZ⟩:∃ Z,eO f a b c d=Z:=⟨_,rfl⟩
   rw[hZ] at CC
   have HZ:=aA hZ
   clear hZ
   go_wp2_with fail
   refine CC.o.mono ?_
   rintro e' w3 ⟨rfl,hb3⟩
   have hR:=HK3.o.below hb3
   have hB3:=bel HB2.o hb3
   obtain⟨s1,s2,s3,s4⟩:=aG hR
   clear hb3
   go_wp2_with fail
   obtain⟨d0,d1,hB4⟩:=aI hR hB3 (by omega) x y
   exact bodyPost_ret (v:=.tuple #[.agg #[.int .i64 x,.int .i64 y],.int .i64 e]) (by simp[results,Tryz.results192,go_sem,d0,d1]) rfl ⟨by rw[HZ.o],hB4⟩
  ·rw[show rY f 12 a b c d=(lI a b c d,0) by simp[rY,h0]]
   clear h0
   have HLf:=fun w=>aA (aLv a b c d w ha hb hc' hd)
   generalize lI a b c d=Z at *
   obtain⟨x,y⟩:=Z
   go_enter Tryz.func192,Tryz.ntmps192
   go_wp2_with fail
   refine(HH _).o.mono ?_
   rintro e w2 ⟨rfl,hb2⟩
   obtain⟨k1,k2,k3,hB⟩:=nC hb2
   obtain⟨q1,q2,-,-⟩:=aG k1
   obtain⟨r1,r2,-,-⟩:=aG k2
   have HK3:=aA k3
   have HB2:=aA hB
   clear hb2 k1 k2 k3 hB
   go_wp2_with fail
   refine(HLf _).o.mono ?_
   rintro e' w3 ⟨rfl,hb3⟩
   have hR:=HK3.o.below hb3
   have hB3:=bel HB2.o hb3
   obtain⟨s1,s2,s3,s4⟩:=aG hR
   clear hb3
   go_wp2_with fail
   obtain⟨d0,d1,hB4⟩:=aI hR hB3 (by omega) x y
   exact bodyPost_ret (v:=.tuple #[.agg #[.int .i64 x,.int .i64 y],.int .i64 0]) (by simp[results,Tryz.results192,go_sem,d0,d1]) rfl ⟨rfl,hB4⟩
 ·rw[show rY f op a b c d=((0,0),12) by simp[rY,h0]]
  rw[h0] at HH
  clear h0 ho
  go_enter Tryz.func192,Tryz.ntmps192
  go_wp2_with fail
  refine(HH _).o.mono ?_
  rintro e w2 ⟨rfl,hb2⟩
  obtain⟨-,-,k3,hB⟩:=nC hb2
  obtain⟨s1,s2,s3,s4⟩:=aG k3
  clear hb2
  go_wp2_with fail
  obtain⟨d0,d1,hB4⟩:=aI k3 hB (by omega) 0 0
  exact bodyPost_ret (v:=.tuple #[.agg #[.int .i64 0,.int .i64 0],.int .i64 12]) (by simp[results,Tryz.results192,go_sem,d0,d1]) rfl ⟨rfl,hB4⟩
def aVa (op:Int)(L:List (Int × Int)):Int × Int :=
 if L.length=1 then mO op (L.getD 0 (0,0)).1 (L.getD 0 (0,0)).2 else if L.length=2 then qG op (L.getD 0 (0,0)).1 (L.getD 0 (0,0)).2 (L.getD 1 (0,0)).1 (L.getD 1 (0,0)).2
 else qW (L.getD 0 (0,0)).1 (L.getD 0 (0,0)).2 (L.getD 1 (0,0)).1 (L.getD 1 (0,0)).2 (L.getD 2 (0,0)).1 (L.getD 2 (0,0)).2
theorem aN4 (op a b:Int)(bb off cap:Nat)(w:World)(hcap:1<=cap)(hlt:bb < w.heap.size)(c0:w.cell? ⟨bb,off,none⟩=some (.int .i64 a))(c1:w.cell? ⟨bb,off+1,none⟩=some (.int .i64 b))(ha:eU a)(hb:eU b) :
  Calls Tryz.prog 195 #[.int .i64 op,.slice (some ⟨bb,off,none⟩) 1 cap] w fun e w'=>e=.returned (.agg #[.int .i64 (mO op a b).1,.int .i64 (mO op a b).2])/\Below w.heap.size w w':=by
 have HA:=fun w=>aA (aGi op a b w ha hb)
 generalize mO op a b=Z at *
 obtain⟨x,y⟩:=Z
 have d0:=(aV (o:=cs 0 0) (i:=off) hlt).trans c0
 have d1:=(aV (o:=cs 0 0) (i:=off+1) hlt).trans c1
 have HR:=aA (aB.new w 74 #[.int .i64 0,.int .i64 0])
 have HB:=aA (aC w (cs 0 0))
 clear c0 c1
 go_enter Tryz.func195,Tryz.ntmps195
 go_wp2_with fail
 refine(HA _).o.mono ?_
 rintro e w2 ⟨rfl,hb2⟩
 have hR:=HR.o.below hb2
 have hB:=bel HB.o hb2
 obtain⟨s1,s2,s3,s4⟩:=aG hR
 clear hb2
 go_wp2_with fail
 obtain⟨d0,d1,hB4⟩:=aI hR hB (by omega) x y
 exact bodyPost_ret (v:=.agg #[.int .i64 x,.int .i64 y]) (by simp[results,Tryz.results195,go_sem,d0,d1]) rfl ⟨rfl,hB4⟩
theorem aN5 (op a b c d:Int)(bb off cap:Nat)(w:World)(hcap:2<=cap)(hlt:bb < w.heap.size)(c0:w.cell? ⟨bb,off,none⟩=some (.int .i64 a))(c1:w.cell? ⟨bb,off+1,none⟩=some (.int .i64 b))
  (c2:w.cell? ⟨bb,off+2,none⟩=some (.int .i64 c)) (c3:w.cell? ⟨bb,off+2+1,none⟩=some (.int .i64 d)) (ha:eU a) (hb:eU b) (hc:eU c) (hd:eU d) (ho:op=8\/op=9\/op=15\/op=16\/op=17\/op=22\/op=23) :
  Calls Tryz.prog 195 #[.int .i64 op,.slice (some ⟨bb,off,none⟩) 2 cap] w fun e w'=>e=.returned (.agg #[.int .i64 (qG op a b c d).1,.int .i64 (qG op a b c d).2])/\Below w.heap.size w w':=by
 have HA:=fun w=>aA (aGj op a b c d w ha hb hc hd ho)
 generalize qG op a b c d=Z at *
 obtain⟨x,y⟩:=Z
 have d0:=(aV (o:=cs 0 0) (i:=off) hlt).trans c0
 have d1:=(aV (o:=cs 0 0) (i:=off+1) hlt).trans c1
 have d2:=(aV (o:=cs 0 0) (i:=off+2) hlt).trans c2
 have d3:=(aV (o:=cs 0 0) (i:=off+2+1) hlt).trans c3
 have HR:=aA (aB.new w 74 #[.int .i64 0,.int .i64 0])
 have HB:=aA (aC w (cs 0 0))
 have HO:=aA ho
 clear c0 c1 c2 c3 ho
 go_enter Tryz.func195,Tryz.ntmps195
 go_wp2_with fail
 have e0:=cell_regrown d0
 have e1:=cell_regrown d1
 have e2:=cell_regrown d2
 have e3:=cell_regrown d3
 refine dW (hf:=(List.dropLast_concat_getLast (by simp)).symm) mixed (by kernel_rfl) rfl (by kernel_rfl) (by kernel_rfl) (by kernel_rfl) (by kernel_rfl) (by kernel_rfl) ?_
 simp only[List.dropLast_cons_cons,List.dropLast_singleton,List.getLast_cons_cons,List.getLast_singleton]
 repeat (go_big_quiet_step ((go_at_call 227;exact Calls.regrown_of (HA _).o)))
 refine wpQuiet_nil ?_
 intro _ hw'
 obtain⟨pq,hw''⟩:=hw'
 subst hw''
 have hb2:=below_regrown (w.alloc (cs 0 0)) pq.d pq.os
 have hR:=HR.o.below hb2
 have hB:=bel HB.o hb2
 clear hb2 d0 d1 d2 d3 e0 e1 e2 e3
 generalize grow (redrawn (w.alloc (.cells #[.int .i64 0,.int .i64 0] 74)) pq.d) pq.os=G at *
 obtain⟨s1,s2,s3,s4⟩:=aG hR
 go_wp2_with fail
 obtain⟨d0,d1,hB4⟩:=aI hR hB (by omega) x y
 exact bodyPost_ret (v:=.agg #[.int .i64 x,.int .i64 y]) (by simp[results,Tryz.results195,go_sem,d0,d1]) rfl ⟨rfl,hB4⟩
theorem aN6 (op a b c d e f:Int)(bb off cap:Nat)(w:World)(hcap:3<=cap)(hlt:bb < w.heap.size)(c0:w.cell? ⟨bb,off,none⟩=some (.int .i64 a))(c1:w.cell? ⟨bb,off+1,none⟩=some (.int .i64 b))
  (c2:w.cell? ⟨bb,off+2,none⟩=some (.int .i64 c)) (c3:w.cell? ⟨bb,off+2+1,none⟩=some (.int .i64 d)) (c4:w.cell? ⟨bb,off+4,none⟩=some (.int .i64 e)) (c5:w.cell? ⟨bb,off+4+1,none⟩=some (.int .i64 f)) :
  Calls Tryz.prog 195 #[.int .i64 op,.slice (some ⟨bb,off,none⟩) 3 cap] w fun r w'=>r=.returned (.agg #[.int .i64 (qW a b c d e f).1,.int .i64 (qW a b c d e f).2])/\Below w.heap.size w w':=by
 have HA:=fun w=>aA (aEn a b c d e f w)
 generalize qW a b c d e f=Z at *
 obtain⟨x,y⟩:=Z
 have d0:=(aV (o:=cs 0 0) (i:=off) hlt).trans c0
 have d1:=(aV (o:=cs 0 0) (i:=off+1) hlt).trans c1
 have d2:=(aV (o:=cs 0 0) (i:=off+2) hlt).trans c2
 have d3:=(aV (o:=cs 0 0) (i:=off+2+1) hlt).trans c3
 have d4:=(aV (o:=cs 0 0) (i:=off+4) hlt).trans c4
 have d5:=(aV (o:=cs 0 0) (i:=off+4+1) hlt).trans c5
 have HR:=aA (aB.new w 74 #[.int .i64 0,.int .i64 0])
 have HB:=aA (aC w (cs 0 0))
 clear c0 c1 c2 c3 c4 c5
 go_enter Tryz.func195,Tryz.ntmps195
 go_wp2_with fail
 have e0:=cell_regrown d0
 have e1:=cell_regrown d1
 have e2:=cell_regrown d2
 have e3:=cell_regrown d3
 have e4:=cell_regrown d4
 have e5:=cell_regrown d5
 refine dW (hf:=(List.dropLast_concat_getLast (by simp)).symm) mixed (by kernel_rfl) rfl (by kernel_rfl) (by kernel_rfl) (by kernel_rfl) (by kernel_rfl) (by kernel_rfl) ?_
 simp only[List.dropLast_cons_cons,List.dropLast_singleton,List.getLast_cons_cons,List.getLast_singleton]
 repeat (go_big_quiet_step ((go_at_call 228;exact Calls.regrown_of (HA _).o)))
 refine wpQuiet_nil ?_
 intro _ hw'
 obtain⟨pq,hw''⟩:=hw'
 subst hw''
 have hb2:=below_regrown (w.alloc (cs 0 0)) pq.d pq.os
 have hR:=HR.o.below hb2
 have hB:=bel HB.o hb2
 clear hb2 d0 d1 d2 d3 d4 d5 e0 e1 e2 e3 e4 e5
 generalize grow (redrawn (w.alloc (.cells #[.int .i64 0,.int .i64 0] 74)) pq.d) pq.os=G at *
 obtain⟨s1,s2,s3,s4⟩:=aG hR
 go_wp2_with fail
 obtain⟨d0,d1,hB4⟩:=aI hR hB (by omega) x y
 exact bodyPost_ret (v:=.agg #[.int .i64 x,.int .i64 y]) (by simp[results,Tryz.results195,go_sem,d0,d1]) rfl ⟨rfl,hB4⟩
end Go.Proofs.Spn
