import Derived.Test.YtihbhbeaihdgnaaGreatXH
import Derived.Test.YtihbhbeaihdgnaaGreatX16
set_option maxRecDepth 100000
set_option maxHeartbeats 32000000
set_option linter.unusedVariables false
namespace Go.Proofs.Spn
open Go.RowKit Go.IntWalk Go.Sort
abbrev c1 (x:Int):Obj:=.cells #[.int .i64 x] 3
structure Rk (w W:World)(op k s:Int):Prop where
 cap:Cap W w.heap.size (w.heap.size+1) (w.heap.size+1+1) op k s
 r:aB W (w.heap.size+1+1+1) 74 #[.int .i64 0,.int .i64 0]
 bel:Below w.heap.size w W
theorem Rk.later {w W W':World}{op k s:Int}(h:Rk w W op k s)(hb:Below W.heap.size W W'):Rk w W' op k s:=⟨h.cap.later hb,h.r.below hb,h.bel.trans (hb.mono h.bel.size)⟩
theorem aF (W:World):Below W.heap.size W W.drew:=⟨rfl,rfl,rfl,Nat.le_refl _,fun _ _=>rfl⟩
theorem Rk.drew {w W:World}{op k s:Int}(h:Rk w W op k s):Rk w W.drew op k s:=h.later (aF W)
theorem Rk.start (w:World)(op k s:Int):Rk w ((((w.alloc (c1 op)).alloc (c1 k)).alloc (c1 s)).alloc (cs 0 0)) op k s:=by
 have h1:=(((aB.new w 3 #[.int .i64 op]).alloc (c1 k)).alloc (c1 s)).alloc (cs 0 0)
 have h2:=((aB.new (w.alloc (c1 op)) 3 #[.int .i64 k]).alloc (c1 s)).alloc (cs 0 0)
 have h3:=(aB.new ((w.alloc (c1 op)).alloc (c1 k)) 3 #[.int .i64 s]).alloc (cs 0 0)
 have h4:=aB.new (((w.alloc (c1 op)).alloc (c1 k)).alloc (c1 s)) 74 #[.int .i64 0,.int .i64 0]
 simp only[World.size_alloc] at h2 h3 h4
 exact⟨⟨h1,h2,h3⟩,h4,((((Below.refl _ _).alloc (Nat.le_refl _) _).alloc (by simp) _).alloc (by simp;omega) _).alloc (by simp;omega) _⟩
theorem dQ {W:World}{B g b i:Nat}{u v x:Value}(hb:b < B)(hg:B<=g)(hc:W.cell? ⟨b,i,none⟩=some x):((W.setCell ⟨g,0,none⟩ u).setCell ⟨g,1,none⟩ v).cell? ⟨b,i,none⟩=some x :=
 ((((Below.refl B W).setCell (p:=⟨g,0,none⟩) hg u).setCell (p:=⟨g,1,none⟩) hg v).cell (p:=⟨b,i,none⟩) hb).trans hc
theorem aAq (op k s a b c d:Int)(bb off cap:Nat)(w:World)(hcap:2<=cap)(hlt:bb < w.heap.size)(c0:w.cell? ⟨bb,off,none⟩=some (.int .i64 a))(c1:w.cell? ⟨bb,off+1,none⟩=some (.int .i64 b))(c2:w.cell? ⟨bb,off+2,none⟩=some (.int .i64 c))(c3:w.cell? ⟨bb,off+2+1,none⟩=some (.int .i64 d))(ho:op=10\/op=13\/op=14\/op=18\/op=19\/op=20\/op=21) :
  Calls Tryz.prog 165 #[.int .i64 op,.int .i64 k,.int .i64 s,.slice (some ⟨bb,off,none⟩) 2 cap] w fun r w'=>r=.returned (spV (eO (fun u v=>bK op k s [u,v]) a b c d))/\Below w.heap.size w w':=by
 have R0:=Rk.start w op k s
 have d0:=(R0.bel.cell (p:=⟨bb,off,none⟩) hlt).trans c0
 have d1:=(R0.bel.cell (p:=⟨bb,off+1,none⟩) hlt).trans c1
 have d2:=(R0.bel.cell (p:=⟨bb,off+2,none⟩) hlt).trans c2
 have d3:=(R0.bel.cell (p:=⟨bb,off+2+1,none⟩) hlt).trans c3
 have HR:=aA R0
 clear R0 c0 c1 c2 c3
 have HC:=aA fun(W':World) (hW':Rk w W' op k s)=>uQ op k s a b c d _ _ _ W' hW'.cap (fun u v=>bK op k s [u,v]) (fun _ _=>rfl)
 unfold wI at HC
 obtain⟨⟨⟨x,y⟩,e⟩,hZ⟩:∃ Z,eO (fun u v=>bK op k s [u,v]) a b c d=Z:=⟨_,rfl⟩
 rw[hZ] at HC ⊢
 clear hZ
 rcases ho with rfl|rfl|rfl|rfl|rfl|rfl|rfl
 ·go_enter Tryz.func165,Tryz.ntmps165
  go_wp2_with fail
  obtain⟨W,hW⟩:∃ W,((((w.alloc (.cells #[.int .i64 10] 3)).alloc (.cells #[.int .i64 k] 3)).alloc (.cells #[.int .i64 s] 3)).alloc (.cells #[.int .i64 0,.int .i64 0] 74))=W:=⟨_,rfl⟩
  rw[hW] at HR d0 d1 d2 d3 ⊢
  clear hW
  have hlW:=World.block_lt_of_cell? W _ d0
  go_region_held3 (fun w'=>w'.cell? ⟨bb,off,none⟩=some (.int .i64 a)/\w'.cell? ⟨bb,off+1,none⟩=some (.int .i64 b)/\w'.cell? ⟨bb,off+2,none⟩=some (.int .i64 c)/\w'.cell? ⟨bb,off+2+1,none⟩=some (.int .i64 d))
   (first|exact⟨t0,t1,t2,t3⟩|exact⟨dQ hlt (by omega) t0,dQ hlt (by omega) t1,dQ hlt (by omega) t2,dQ hlt (by omega) t3⟩|go_keep)
   ((go_at_call 193;refine(HC.o _ HR.o.drew).mono ?_;rintro e' w2 ⟨rfl,hb2⟩;have t0:=(hb2.cell (p:=⟨bb,off,none⟩) hlW).trans d0;have t1:=(hb2.cell (p:=⟨bb,off+1,none⟩) hlW).trans d1;have t2:=(hb2.cell (p:=⟨bb,off+2,none⟩) hlW).trans d2;have t3:=(hb2.cell (p:=⟨bb,off+2+1,none⟩) hlW).trans d3;have HR9:=aA (HR.o.drew.later hb2);obtain⟨s1,s2,s3,s4⟩:=aG HR9.o.r))
  go_wp2_with fail
  obtain⟨d0,d1,hB4⟩:=aI HR9.o.r HR9.o.bel (by omega) x y
  exact bodyPost_ret (v:=.tuple #[.agg #[.int .i64 x,.int .i64 y],.int .i64 e]) (by simp[results,Tryz.results165,go_sem,d0,d1]) rfl ⟨rfl,hB4⟩
 ·go_enter Tryz.func165,Tryz.ntmps165
  go_wp2_with fail
  obtain⟨W,hW⟩:∃ W,((((w.alloc (.cells #[.int .i64 13] 3)).alloc (.cells #[.int .i64 k] 3)).alloc (.cells #[.int .i64 s] 3)).alloc (.cells #[.int .i64 0,.int .i64 0] 74))=W:=⟨_,rfl⟩
  rw[hW] at HR d0 d1 d2 d3 ⊢
  clear hW
  have hlW:=World.block_lt_of_cell? W _ d0
  go_region_held3 (fun w'=>w'.cell? ⟨bb,off,none⟩=some (.int .i64 a)/\w'.cell? ⟨bb,off+1,none⟩=some (.int .i64 b)/\w'.cell? ⟨bb,off+2,none⟩=some (.int .i64 c)/\w'.cell? ⟨bb,off+2+1,none⟩=some (.int .i64 d))
   (first|exact⟨t0,t1,t2,t3⟩|exact⟨dQ hlt (by omega) t0,dQ hlt (by omega) t1,dQ hlt (by omega) t2,dQ hlt (by omega) t3⟩|go_keep)
   ((go_at_call 193;refine(HC.o _ HR.o.drew).mono ?_;rintro e' w2 ⟨rfl,hb2⟩;have t0:=(hb2.cell (p:=⟨bb,off,none⟩) hlW).trans d0;have t1:=(hb2.cell (p:=⟨bb,off+1,none⟩) hlW).trans d1;have t2:=(hb2.cell (p:=⟨bb,off+2,none⟩) hlW).trans d2;have t3:=(hb2.cell (p:=⟨bb,off+2+1,none⟩) hlW).trans d3;have HR9:=aA (HR.o.drew.later hb2);obtain⟨s1,s2,s3,s4⟩:=aG HR9.o.r))
  go_wp2_with fail
  obtain⟨d0,d1,hB4⟩:=aI HR9.o.r HR9.o.bel (by omega) x y
  exact bodyPost_ret (v:=.tuple #[.agg #[.int .i64 x,.int .i64 y],.int .i64 e]) (by simp[results,Tryz.results165,go_sem,d0,d1]) rfl ⟨rfl,hB4⟩
 ·go_enter Tryz.func165,Tryz.ntmps165
  go_wp2_with fail
  obtain⟨W,hW⟩:∃ W,((((w.alloc (.cells #[.int .i64 14] 3)).alloc (.cells #[.int .i64 k] 3)).alloc (.cells #[.int .i64 s] 3)).alloc (.cells #[.int .i64 0,.int .i64 0] 74))=W:=⟨_,rfl⟩
  rw[hW] at HR d0 d1 d2 d3 ⊢
  clear hW
  have hlW:=World.block_lt_of_cell? W _ d0
  go_region_held3 (fun w'=>w'.cell? ⟨bb,off,none⟩=some (.int .i64 a)/\w'.cell? ⟨bb,off+1,none⟩=some (.int .i64 b)/\w'.cell? ⟨bb,off+2,none⟩=some (.int .i64 c)/\w'.cell? ⟨bb,off+2+1,none⟩=some (.int .i64 d))
   (first|exact⟨t0,t1,t2,t3⟩|exact⟨dQ hlt (by omega) t0,dQ hlt (by omega) t1,dQ hlt (by omega) t2,dQ hlt (by omega) t3⟩|go_keep)
   ((go_at_call 193;refine(HC.o _ HR.o.drew).mono ?_;rintro e' w2 ⟨rfl,hb2⟩;have t0:=(hb2.cell (p:=⟨bb,off,none⟩) hlW).trans d0;have t1:=(hb2.cell (p:=⟨bb,off+1,none⟩) hlW).trans d1;have t2:=(hb2.cell (p:=⟨bb,off+2,none⟩) hlW).trans d2;have t3:=(hb2.cell (p:=⟨bb,off+2+1,none⟩) hlW).trans d3;have HR9:=aA (HR.o.drew.later hb2);obtain⟨s1,s2,s3,s4⟩:=aG HR9.o.r))
  go_wp2_with fail
  obtain⟨d0,d1,hB4⟩:=aI HR9.o.r HR9.o.bel (by omega) x y
  exact bodyPost_ret (v:=.tuple #[.agg #[.int .i64 x,.int .i64 y],.int .i64 e]) (by simp[results,Tryz.results165,go_sem,d0,d1]) rfl ⟨rfl,hB4⟩
 ·go_enter Tryz.func165,Tryz.ntmps165
  go_wp2_with fail
  obtain⟨W,hW⟩:∃ W,((((w.alloc (.cells #[.int .i64 18] 3)).alloc (.cells #[.int .i64 k] 3)).alloc (.cells #[.int .i64 s] 3)).alloc (.cells #[.int .i64 0,.int .i64 0] 74))=W:=⟨_,rfl⟩
  rw[hW] at HR d0 d1 d2 d3 ⊢
  clear hW
  have hlW:=World.block_lt_of_cell? W _ d0
  go_region_held3 (fun w'=>w'.cell? ⟨bb,off,none⟩=some (.int .i64 a)/\w'.cell? ⟨bb,off+1,none⟩=some (.int .i64 b)/\w'.cell? ⟨bb,off+2,none⟩=some (.int .i64 c)/\w'.cell? ⟨bb,off+2+1,none⟩=some (.int .i64 d))
   (first|exact⟨t0,t1,t2,t3⟩|exact⟨dQ hlt (by omega) t0,dQ hlt (by omega) t1,dQ hlt (by omega) t2,dQ hlt (by omega) t3⟩|go_keep)
   ((go_at_call 193;refine(HC.o _ HR.o.drew).mono ?_;rintro e' w2 ⟨rfl,hb2⟩;have t0:=(hb2.cell (p:=⟨bb,off,none⟩) hlW).trans d0;have t1:=(hb2.cell (p:=⟨bb,off+1,none⟩) hlW).trans d1;have t2:=(hb2.cell (p:=⟨bb,off+2,none⟩) hlW).trans d2;have t3:=(hb2.cell (p:=⟨bb,off+2+1,none⟩) hlW).trans d3;have HR9:=aA (HR.o.drew.later hb2);obtain⟨s1,s2,s3,s4⟩:=aG HR9.o.r))
  go_wp2_with fail
  obtain⟨d0,d1,hB4⟩:=aI HR9.o.r HR9.o.bel (by omega) x y
  exact bodyPost_ret (v:=.tuple #[.agg #[.int .i64 x,.int .i64 y],.int .i64 e]) (by simp[results,Tryz.results165,go_sem,d0,d1]) rfl ⟨rfl,hB4⟩
 ·go_enter Tryz.func165,Tryz.ntmps165
  go_wp2_with fail
  obtain⟨W,hW⟩:∃ W,((((w.alloc (.cells #[.int .i64 19] 3)).alloc (.cells #[.int .i64 k] 3)).alloc (.cells #[.int .i64 s] 3)).alloc (.cells #[.int .i64 0,.int .i64 0] 74))=W:=⟨_,rfl⟩
  rw[hW] at HR d0 d1 d2 d3 ⊢
  clear hW
  have hlW:=World.block_lt_of_cell? W _ d0
  go_region_held3 (fun w'=>w'.cell? ⟨bb,off,none⟩=some (.int .i64 a)/\w'.cell? ⟨bb,off+1,none⟩=some (.int .i64 b)/\w'.cell? ⟨bb,off+2,none⟩=some (.int .i64 c)/\w'.cell? ⟨bb,off+2+1,none⟩=some (.int .i64 d))
   (first|exact⟨t0,t1,t2,t3⟩|exact⟨dQ hlt (by omega) t0,dQ hlt (by omega) t1,dQ hlt (by omega) t2,dQ hlt (by omega) t3⟩|go_keep)
   ((go_at_call 193;refine(HC.o _ HR.o.drew).mono ?_;rintro e' w2 ⟨rfl,hb2⟩;have t0:=(hb2.cell (p:=⟨bb,off,none⟩) hlW).trans d0;have t1:=(hb2.cell (p:=⟨bb,off+1,none⟩) hlW).trans d1;have t2:=(hb2.cell (p:=⟨bb,off+2,none⟩) hlW).trans d2;have t3:=(hb2.cell (p:=⟨bb,off+2+1,none⟩) hlW).trans d3;have HR9:=aA (HR.o.drew.later hb2);obtain⟨s1,s2,s3,s4⟩:=aG HR9.o.r))
  go_wp2_with fail
  obtain⟨d0,d1,hB4⟩:=aI HR9.o.r HR9.o.bel (by omega) x y
  exact bodyPost_ret (v:=.tuple #[.agg #[.int .i64 x,.int .i64 y],.int .i64 e]) (by simp[results,Tryz.results165,go_sem,d0,d1]) rfl ⟨rfl,hB4⟩
 ·go_enter Tryz.func165,Tryz.ntmps165
  go_wp2_with fail
  obtain⟨W,hW⟩:∃ W,((((w.alloc (.cells #[.int .i64 20] 3)).alloc (.cells #[.int .i64 k] 3)).alloc (.cells #[.int .i64 s] 3)).alloc (.cells #[.int .i64 0,.int .i64 0] 74))=W:=⟨_,rfl⟩
  rw[hW] at HR d0 d1 d2 d3 ⊢
  clear hW
  have hlW:=World.block_lt_of_cell? W _ d0
  go_region_held3 (fun w'=>w'.cell? ⟨bb,off,none⟩=some (.int .i64 a)/\w'.cell? ⟨bb,off+1,none⟩=some (.int .i64 b)/\w'.cell? ⟨bb,off+2,none⟩=some (.int .i64 c)/\w'.cell? ⟨bb,off+2+1,none⟩=some (.int .i64 d))
   (first|exact⟨t0,t1,t2,t3⟩|exact⟨dQ hlt (by omega) t0,dQ hlt (by omega) t1,dQ hlt (by omega) t2,dQ hlt (by omega) t3⟩|go_keep)
   ((go_at_call 193;refine(HC.o _ HR.o.drew).mono ?_;rintro e' w2 ⟨rfl,hb2⟩;have t0:=(hb2.cell (p:=⟨bb,off,none⟩) hlW).trans d0;have t1:=(hb2.cell (p:=⟨bb,off+1,none⟩) hlW).trans d1;have t2:=(hb2.cell (p:=⟨bb,off+2,none⟩) hlW).trans d2;have t3:=(hb2.cell (p:=⟨bb,off+2+1,none⟩) hlW).trans d3;have HR9:=aA (HR.o.drew.later hb2);obtain⟨s1,s2,s3,s4⟩:=aG HR9.o.r))
  go_wp2_with fail
  obtain⟨d0,d1,hB4⟩:=aI HR9.o.r HR9.o.bel (by omega) x y
  exact bodyPost_ret (v:=.tuple #[.agg #[.int .i64 x,.int .i64 y],.int .i64 e]) (by simp[results,Tryz.results165,go_sem,d0,d1]) rfl ⟨rfl,hB4⟩
 ·go_enter Tryz.func165,Tryz.ntmps165
  go_wp2_with fail
  obtain⟨W,hW⟩:∃ W,((((w.alloc (.cells #[.int .i64 21] 3)).alloc (.cells #[.int .i64 k] 3)).alloc (.cells #[.int .i64 s] 3)).alloc (.cells #[.int .i64 0,.int .i64 0] 74))=W:=⟨_,rfl⟩
  rw[hW] at HR d0 d1 d2 d3 ⊢
  clear hW
  have hlW:=World.block_lt_of_cell? W _ d0
  go_region_held3 (fun w'=>w'.cell? ⟨bb,off,none⟩=some (.int .i64 a)/\w'.cell? ⟨bb,off+1,none⟩=some (.int .i64 b)/\w'.cell? ⟨bb,off+2,none⟩=some (.int .i64 c)/\w'.cell? ⟨bb,off+2+1,none⟩=some (.int .i64 d))
   (first|exact⟨t0,t1,t2,t3⟩|exact⟨dQ hlt (by omega) t0,dQ hlt (by omega) t1,dQ hlt (by omega) t2,dQ hlt (by omega) t3⟩|go_keep)
   ((go_at_call 193;refine(HC.o _ HR.o.drew).mono ?_;rintro e' w2 ⟨rfl,hb2⟩;have t0:=(hb2.cell (p:=⟨bb,off,none⟩) hlW).trans d0;have t1:=(hb2.cell (p:=⟨bb,off+1,none⟩) hlW).trans d1;have t2:=(hb2.cell (p:=⟨bb,off+2,none⟩) hlW).trans d2;have t3:=(hb2.cell (p:=⟨bb,off+2+1,none⟩) hlW).trans d3;have HR9:=aA (HR.o.drew.later hb2);obtain⟨s1,s2,s3,s4⟩:=aG HR9.o.r))
  go_wp2_with fail
  obtain⟨d0,d1,hB4⟩:=aI HR9.o.r HR9.o.bel (by omega) x y
  exact bodyPost_ret (v:=.tuple #[.agg #[.int .i64 x,.int .i64 y],.int .i64 e]) (by simp[results,Tryz.results165,go_sem,d0,d1]) rfl ⟨rfl,hB4⟩
theorem aNe (op k s a b c d:Int)(bb off cap:Nat)(w:World)(hcap:2<=cap)(hlt:bb < w.heap.size)(c0:w.cell? ⟨bb,off,none⟩=some (.int .i64 a))(c1:w.cell? ⟨bb,off+1,none⟩=some (.int .i64 b))(c2:w.cell? ⟨bb,off+2,none⟩=some (.int .i64 c))(c3:w.cell? ⟨bb,off+2+1,none⟩=some (.int .i64 d))(ho:op=11\/op=12)(ha:eU a)(hb:eU b)(hc:eU c)(hd:eU d) :
  Calls Tryz.prog 165 #[.int .i64 op,.int .i64 k,.int .i64 s,.slice (some ⟨bb,off,none⟩) 2 cap] w fun r w'=>r=.returned (spV (rY (fun u v=>bK op k s [u,v]) op a b c d))/\Below w.heap.size w w':=by
 have R0:=Rk.start w op k s
 have d0:=(R0.bel.cell (p:=⟨bb,off,none⟩) hlt).trans c0
 have d1:=(R0.bel.cell (p:=⟨bb,off+1,none⟩) hlt).trans c1
 have d2:=(R0.bel.cell (p:=⟨bb,off+2,none⟩) hlt).trans c2
 have d3:=(R0.bel.cell (p:=⟨bb,off+2+1,none⟩) hlt).trans c3
 have HR:=aA R0
 clear R0 c0 c1 c2 c3
 have HC:=aA fun(W':World) (hW':Rk w W' op k s)=>aCh op k s a b c d _ _ _ W' hW'.cap (fun u v=>bK op k s [u,v]) (fun _ _=>rfl) ho ha hb hc hd
 obtain⟨⟨⟨x,y⟩,e⟩,hZ⟩:∃ Z,rY (fun u v=>bK op k s [u,v]) op a b c d=Z:=⟨_,rfl⟩
 rw[hZ] at HC ⊢
 clear hZ
 rcases ho with rfl|rfl
 ·go_enter Tryz.func165,Tryz.ntmps165
  go_wp2_with fail
  obtain⟨W,hW⟩:∃ W,((((w.alloc (.cells #[.int .i64 11] 3)).alloc (.cells #[.int .i64 k] 3)).alloc (.cells #[.int .i64 s] 3)).alloc (.cells #[.int .i64 0,.int .i64 0] 74))=W:=⟨_,rfl⟩
  rw[hW] at HR d0 d1 d2 d3 ⊢
  clear hW
  have hlW:=World.block_lt_of_cell? W _ d0
  have d4:=HR.o.cap.o.cell 0 rfl
  go_region_held3 (fun w'=>w'.cell? ⟨bb,off,none⟩=some (.int .i64 a)/\w'.cell? ⟨bb,off+1,none⟩=some (.int .i64 b)/\w'.cell? ⟨bb,off+2,none⟩=some (.int .i64 c)/\w'.cell? ⟨bb,off+2+1,none⟩=some (.int .i64 d)/\w'.cell? ⟨w.heap.size,0,none⟩=some (.int .i64 11))
   (first|exact⟨t0,t1,t2,t3,t4⟩|exact⟨dQ hlt (by omega) t0,dQ hlt (by omega) t1,dQ hlt (by omega) t2,dQ hlt (by omega) t3,dQ (Nat.lt_succ_self _) (by omega) t4⟩|go_keep)
   ((go_at_call 192;refine(HC.o _ HR.o.drew).mono ?_;rintro e' w2 ⟨rfl,hb2⟩;have t0:=(hb2.cell (p:=⟨bb,off,none⟩) hlW).trans d0;have t1:=(hb2.cell (p:=⟨bb,off+1,none⟩) hlW).trans d1;have t2:=(hb2.cell (p:=⟨bb,off+2,none⟩) hlW).trans d2;have t3:=(hb2.cell (p:=⟨bb,off+2+1,none⟩) hlW).trans d3;have HR9:=aA (HR.o.drew.later hb2);have t4:=HR9.o.cap.o.cell 0 rfl;obtain⟨s1,s2,s3,s4⟩:=aG HR9.o.r))
  go_wp2_with fail
  obtain⟨d0,d1,hB4⟩:=aI HR9.o.r HR9.o.bel (by omega) x y
  exact bodyPost_ret (v:=.tuple #[.agg #[.int .i64 x,.int .i64 y],.int .i64 e]) (by simp[results,Tryz.results165,go_sem,d0,d1]) rfl ⟨rfl,hB4⟩
 ·go_enter Tryz.func165,Tryz.ntmps165
  go_wp2_with fail
  obtain⟨W,hW⟩:∃ W,((((w.alloc (.cells #[.int .i64 12] 3)).alloc (.cells #[.int .i64 k] 3)).alloc (.cells #[.int .i64 s] 3)).alloc (.cells #[.int .i64 0,.int .i64 0] 74))=W:=⟨_,rfl⟩
  rw[hW] at HR d0 d1 d2 d3 ⊢
  clear hW
  have hlW:=World.block_lt_of_cell? W _ d0
  have d4:=HR.o.cap.o.cell 0 rfl
  go_region_held3 (fun w'=>w'.cell? ⟨bb,off,none⟩=some (.int .i64 a)/\w'.cell? ⟨bb,off+1,none⟩=some (.int .i64 b)/\w'.cell? ⟨bb,off+2,none⟩=some (.int .i64 c)/\w'.cell? ⟨bb,off+2+1,none⟩=some (.int .i64 d)/\w'.cell? ⟨w.heap.size,0,none⟩=some (.int .i64 12))
   (first|exact⟨t0,t1,t2,t3,t4⟩|exact⟨dQ hlt (by omega) t0,dQ hlt (by omega) t1,dQ hlt (by omega) t2,dQ hlt (by omega) t3,dQ (Nat.lt_succ_self _) (by omega) t4⟩|go_keep)
   ((go_at_call 192;refine(HC.o _ HR.o.drew).mono ?_;rintro e' w2 ⟨rfl,hb2⟩;have t0:=(hb2.cell (p:=⟨bb,off,none⟩) hlW).trans d0;have t1:=(hb2.cell (p:=⟨bb,off+1,none⟩) hlW).trans d1;have t2:=(hb2.cell (p:=⟨bb,off+2,none⟩) hlW).trans d2;have t3:=(hb2.cell (p:=⟨bb,off+2+1,none⟩) hlW).trans d3;have HR9:=aA (HR.o.drew.later hb2);have t4:=HR9.o.cap.o.cell 0 rfl;obtain⟨s1,s2,s3,s4⟩:=aG HR9.o.r))
  go_wp2_with fail
  obtain⟨d0,d1,hB4⟩:=aI HR9.o.r HR9.o.bel (by omega) x y
  exact bodyPost_ret (v:=.tuple #[.agg #[.int .i64 x,.int .i64 y],.int .i64 e]) (by simp[results,Tryz.results165,go_sem,d0,d1]) rfl ⟨rfl,hB4⟩
theorem aJn (op k s:Int)(a:Option Addr)(n cap:Nat)(L:List (Int × Int))(w:World)(h:Spans w a n cap L)(hn:n<=3)(ho:op=7\/op=24\/op=25\/op=26\/op=27\/op=29\/op=30\/op=33) :
  Calls Tryz.prog 165 #[.int .i64 op,.int .i64 k,.int .i64 s,.slice a n cap] w fun r w'=>r=.returned (spV (kK (fun xs=>bK op k s xs) L))/\Below w.heap.size w w':=by
 have HR:=aA (Rk.start w op k s)
 have HC:=aA fun(W':World) (hW':Rk w W' op k s)=>wO op k s _ _ _ a n cap L W' hW'.cap (h.later hW'.bel) hn (fun xs=>bK op k s xs) (fun _=>rfl)
 unfold aHa at HC
 obtain⟨⟨⟨x,y⟩,e⟩,hZ⟩:∃ Z,kK (fun xs=>bK op k s xs) L=Z:=⟨_,rfl⟩
 rw[hZ] at HC ⊢
 clear hZ h
 rcases ho with rfl|rfl|rfl|rfl|rfl|rfl|rfl|rfl
 ·go_enter Tryz.func165,Tryz.ntmps165
  go_wp2_with fail
  obtain⟨W,hW⟩:∃ W,((((w.alloc (.cells #[.int .i64 7] 3)).alloc (.cells #[.int .i64 k] 3)).alloc (.cells #[.int .i64 s] 3)).alloc (.cells #[.int .i64 0,.int .i64 0] 74))=W:=⟨_,rfl⟩
  rw[hW] at HR ⊢
  clear hW
  refine(HC.o _ HR.o).mono ?_
  rintro e' w2 ⟨rfl,hb2⟩
  have HR9:=aA (HR.o.later hb2)
  obtain⟨s1,s2,s3,s4⟩:=aG HR9.o.r
  clear hb2
  go_wp2_with fail
  obtain⟨d0,d1,hB4⟩:=aI HR9.o.r HR9.o.bel (by omega) x y
  exact bodyPost_ret (v:=.tuple #[.agg #[.int .i64 x,.int .i64 y],.int .i64 e]) (by simp[results,Tryz.results165,go_sem,d0,d1]) rfl ⟨rfl,hB4⟩
 ·go_enter Tryz.func165,Tryz.ntmps165
  go_wp2_with fail
  obtain⟨W,hW⟩:∃ W,((((w.alloc (.cells #[.int .i64 24] 3)).alloc (.cells #[.int .i64 k] 3)).alloc (.cells #[.int .i64 s] 3)).alloc (.cells #[.int .i64 0,.int .i64 0] 74))=W:=⟨_,rfl⟩
  rw[hW] at HR ⊢
  clear hW
  refine(HC.o _ HR.o).mono ?_
  rintro e' w2 ⟨rfl,hb2⟩
  have HR9:=aA (HR.o.later hb2)
  obtain⟨s1,s2,s3,s4⟩:=aG HR9.o.r
  clear hb2
  go_wp2_with fail
  obtain⟨d0,d1,hB4⟩:=aI HR9.o.r HR9.o.bel (by omega) x y
  exact bodyPost_ret (v:=.tuple #[.agg #[.int .i64 x,.int .i64 y],.int .i64 e]) (by simp[results,Tryz.results165,go_sem,d0,d1]) rfl ⟨rfl,hB4⟩
 ·go_enter Tryz.func165,Tryz.ntmps165
  go_wp2_with fail
  obtain⟨W,hW⟩:∃ W,((((w.alloc (.cells #[.int .i64 25] 3)).alloc (.cells #[.int .i64 k] 3)).alloc (.cells #[.int .i64 s] 3)).alloc (.cells #[.int .i64 0,.int .i64 0] 74))=W:=⟨_,rfl⟩
  rw[hW] at HR ⊢
  clear hW
  refine(HC.o _ HR.o).mono ?_
  rintro e' w2 ⟨rfl,hb2⟩
  have HR9:=aA (HR.o.later hb2)
  obtain⟨s1,s2,s3,s4⟩:=aG HR9.o.r
  clear hb2
  go_wp2_with fail
  obtain⟨d0,d1,hB4⟩:=aI HR9.o.r HR9.o.bel (by omega) x y
  exact bodyPost_ret (v:=.tuple #[.agg #[.int .i64 x,.int .i64 y],.int .i64 e]) (by simp[results,Tryz.results165,go_sem,d0,d1]) rfl ⟨rfl,hB4⟩
 ·go_enter Tryz.func165,Tryz.ntmps165
  go_wp2_with fail
  obtain⟨W,hW⟩:∃ W,((((w.alloc (.cells #[.int .i64 26] 3)).alloc (.cells #[.int .i64 k] 3)).alloc (.cells #[.int .i64 s] 3)).alloc (.cells #[.int .i64 0,.int .i64 0] 74))=W:=⟨_,rfl⟩
  rw[hW] at HR ⊢
  clear hW
  refine(HC.o _ HR.o).mono ?_
  rintro e' w2 ⟨rfl,hb2⟩
  have HR9:=aA (HR.o.later hb2)
  obtain⟨s1,s2,s3,s4⟩:=aG HR9.o.r
  clear hb2
  go_wp2_with fail
  obtain⟨d0,d1,hB4⟩:=aI HR9.o.r HR9.o.bel (by omega) x y
  exact bodyPost_ret (v:=.tuple #[.agg #[.int .i64 x,.int .i64 y],.int .i64 e]) (by simp[results,Tryz.results165,go_sem,d0,d1]) rfl ⟨rfl,hB4⟩
 ·go_enter Tryz.func165,Tryz.ntmps165
  go_wp2_with fail
  obtain⟨W,hW⟩:∃ W,((((w.alloc (.cells #[.int .i64 27] 3)).alloc (.cells #[.int .i64 k] 3)).alloc (.cells #[.int .i64 s] 3)).alloc (.cells #[.int .i64 0,.int .i64 0] 74))=W:=⟨_,rfl⟩
  rw[hW] at HR ⊢
  clear hW
  refine(HC.o _ HR.o).mono ?_
  rintro e' w2 ⟨rfl,hb2⟩
  have HR9:=aA (HR.o.later hb2)
  obtain⟨s1,s2,s3,s4⟩:=aG HR9.o.r
  clear hb2
  go_wp2_with fail
  obtain⟨d0,d1,hB4⟩:=aI HR9.o.r HR9.o.bel (by omega) x y
  exact bodyPost_ret (v:=.tuple #[.agg #[.int .i64 x,.int .i64 y],.int .i64 e]) (by simp[results,Tryz.results165,go_sem,d0,d1]) rfl ⟨rfl,hB4⟩
 ·go_enter Tryz.func165,Tryz.ntmps165
  go_wp2_with fail
  obtain⟨W,hW⟩:∃ W,((((w.alloc (.cells #[.int .i64 29] 3)).alloc (.cells #[.int .i64 k] 3)).alloc (.cells #[.int .i64 s] 3)).alloc (.cells #[.int .i64 0,.int .i64 0] 74))=W:=⟨_,rfl⟩
  rw[hW] at HR ⊢
  clear hW
  refine(HC.o _ HR.o).mono ?_
  rintro e' w2 ⟨rfl,hb2⟩
  have HR9:=aA (HR.o.later hb2)
  obtain⟨s1,s2,s3,s4⟩:=aG HR9.o.r
  clear hb2
  go_wp2_with fail
  obtain⟨d0,d1,hB4⟩:=aI HR9.o.r HR9.o.bel (by omega) x y
  exact bodyPost_ret (v:=.tuple #[.agg #[.int .i64 x,.int .i64 y],.int .i64 e]) (by simp[results,Tryz.results165,go_sem,d0,d1]) rfl ⟨rfl,hB4⟩
 ·go_enter Tryz.func165,Tryz.ntmps165
  go_wp2_with fail
  obtain⟨W,hW⟩:∃ W,((((w.alloc (.cells #[.int .i64 30] 3)).alloc (.cells #[.int .i64 k] 3)).alloc (.cells #[.int .i64 s] 3)).alloc (.cells #[.int .i64 0,.int .i64 0] 74))=W:=⟨_,rfl⟩
  rw[hW] at HR ⊢
  clear hW
  refine(HC.o _ HR.o).mono ?_
  rintro e' w2 ⟨rfl,hb2⟩
  have HR9:=aA (HR.o.later hb2)
  obtain⟨s1,s2,s3,s4⟩:=aG HR9.o.r
  clear hb2
  go_wp2_with fail
  obtain⟨d0,d1,hB4⟩:=aI HR9.o.r HR9.o.bel (by omega) x y
  exact bodyPost_ret (v:=.tuple #[.agg #[.int .i64 x,.int .i64 y],.int .i64 e]) (by simp[results,Tryz.results165,go_sem,d0,d1]) rfl ⟨rfl,hB4⟩
 ·go_enter Tryz.func165,Tryz.ntmps165
  go_wp2_with fail
  obtain⟨W,hW⟩:∃ W,((((w.alloc (.cells #[.int .i64 33] 3)).alloc (.cells #[.int .i64 k] 3)).alloc (.cells #[.int .i64 s] 3)).alloc (.cells #[.int .i64 0,.int .i64 0] 74))=W:=⟨_,rfl⟩
  rw[hW] at HR ⊢
  clear hW
  refine(HC.o _ HR.o).mono ?_
  rintro e' w2 ⟨rfl,hb2⟩
  have HR9:=aA (HR.o.later hb2)
  obtain⟨s1,s2,s3,s4⟩:=aG HR9.o.r
  clear hb2
  go_wp2_with fail
  obtain⟨d0,d1,hB4⟩:=aI HR9.o.r HR9.o.bel (by omega) x y
  exact bodyPost_ret (v:=.tuple #[.agg #[.int .i64 x,.int .i64 y],.int .i64 e]) (by simp[results,Tryz.results165,go_sem,d0,d1]) rfl ⟨rfl,hB4⟩
theorem qV (op k s:Int)(a:Option Addr)(n cap:Nat)(Z:Int × Int)(w:World)(ho:op=5\/op=6\/op=8\/op=9\/op=15\/op=16\/op=17\/op=22\/op=23\/op=28)
  (hp:∀ W,Below w.heap.size w W->Calls Tryz.prog 195 #[.int .i64 op,.slice a n cap] W fun r w'=>r=.returned (.agg #[.int .i64 Z.1,.int .i64 Z.2])/\Below W.heap.size W w') :
  Calls Tryz.prog 165 #[.int .i64 op,.int .i64 k,.int .i64 s,.slice a n cap] w fun r w'=>r=.returned (spV (Z,0))/\Below w.heap.size w w':=by
 have HR:=aA (Rk.start w op k s)
 have HC:=aA fun(W':World) (hW':Rk w W' op k s)=>hp W' hW'.bel
 clear hp
 obtain⟨x,y⟩:=Z
 rcases ho with rfl|rfl|rfl|rfl|rfl|rfl|rfl|rfl|rfl|rfl
 ·go_enter Tryz.func165,Tryz.ntmps165
  go_wp2_with fail
  obtain⟨W,hW⟩:∃ W,((((w.alloc (.cells #[.int .i64 5] 3)).alloc (.cells #[.int .i64 k] 3)).alloc (.cells #[.int .i64 s] 3)).alloc (.cells #[.int .i64 0,.int .i64 0] 74))=W:=⟨_,rfl⟩
  rw[hW] at HR ⊢
  clear hW
  have o4:=HR.o.cap.o.cell 0 rfl
  refine(HC.o _ HR.o).mono ?_
  rintro e' w2 ⟨rfl,hb2⟩
  have HR9:=aA (HR.o.later hb2)
  obtain⟨s1,s2,s3,s4⟩:=aG HR9.o.r
  clear hb2
  go_wp2_with fail
  obtain⟨d0,d1,hB4⟩:=aI HR9.o.r HR9.o.bel (by omega) x y
  exact bodyPost_ret (v:=.tuple #[.agg #[.int .i64 x,.int .i64 y],.int .i64 0]) (by simp[results,Tryz.results165,go_sem,d0,d1]) rfl ⟨rfl,hB4⟩
 ·go_enter Tryz.func165,Tryz.ntmps165
  go_wp2_with fail
  obtain⟨W,hW⟩:∃ W,((((w.alloc (.cells #[.int .i64 6] 3)).alloc (.cells #[.int .i64 k] 3)).alloc (.cells #[.int .i64 s] 3)).alloc (.cells #[.int .i64 0,.int .i64 0] 74))=W:=⟨_,rfl⟩
  rw[hW] at HR ⊢
  clear hW
  have o4:=HR.o.cap.o.cell 0 rfl
  refine(HC.o _ HR.o).mono ?_
  rintro e' w2 ⟨rfl,hb2⟩
  have HR9:=aA (HR.o.later hb2)
  obtain⟨s1,s2,s3,s4⟩:=aG HR9.o.r
  clear hb2
  go_wp2_with fail
  obtain⟨d0,d1,hB4⟩:=aI HR9.o.r HR9.o.bel (by omega) x y
  exact bodyPost_ret (v:=.tuple #[.agg #[.int .i64 x,.int .i64 y],.int .i64 0]) (by simp[results,Tryz.results165,go_sem,d0,d1]) rfl ⟨rfl,hB4⟩
 ·go_enter Tryz.func165,Tryz.ntmps165
  go_wp2_with fail
  obtain⟨W,hW⟩:∃ W,((((w.alloc (.cells #[.int .i64 8] 3)).alloc (.cells #[.int .i64 k] 3)).alloc (.cells #[.int .i64 s] 3)).alloc (.cells #[.int .i64 0,.int .i64 0] 74))=W:=⟨_,rfl⟩
  rw[hW] at HR ⊢
  clear hW
  have o4:=HR.o.cap.o.cell 0 rfl
  refine(HC.o _ HR.o).mono ?_
  rintro e' w2 ⟨rfl,hb2⟩
  have HR9:=aA (HR.o.later hb2)
  obtain⟨s1,s2,s3,s4⟩:=aG HR9.o.r
  clear hb2
  go_wp2_with fail
  obtain⟨d0,d1,hB4⟩:=aI HR9.o.r HR9.o.bel (by omega) x y
  exact bodyPost_ret (v:=.tuple #[.agg #[.int .i64 x,.int .i64 y],.int .i64 0]) (by simp[results,Tryz.results165,go_sem,d0,d1]) rfl ⟨rfl,hB4⟩
 ·go_enter Tryz.func165,Tryz.ntmps165
  go_wp2_with fail
  obtain⟨W,hW⟩:∃ W,((((w.alloc (.cells #[.int .i64 9] 3)).alloc (.cells #[.int .i64 k] 3)).alloc (.cells #[.int .i64 s] 3)).alloc (.cells #[.int .i64 0,.int .i64 0] 74))=W:=⟨_,rfl⟩
  rw[hW] at HR ⊢
  clear hW
  have o4:=HR.o.cap.o.cell 0 rfl
  refine(HC.o _ HR.o).mono ?_
  rintro e' w2 ⟨rfl,hb2⟩
  have HR9:=aA (HR.o.later hb2)
  obtain⟨s1,s2,s3,s4⟩:=aG HR9.o.r
  clear hb2
  go_wp2_with fail
  obtain⟨d0,d1,hB4⟩:=aI HR9.o.r HR9.o.bel (by omega) x y
  exact bodyPost_ret (v:=.tuple #[.agg #[.int .i64 x,.int .i64 y],.int .i64 0]) (by simp[results,Tryz.results165,go_sem,d0,d1]) rfl ⟨rfl,hB4⟩
 ·go_enter Tryz.func165,Tryz.ntmps165
  go_wp2_with fail
  obtain⟨W,hW⟩:∃ W,((((w.alloc (.cells #[.int .i64 15] 3)).alloc (.cells #[.int .i64 k] 3)).alloc (.cells #[.int .i64 s] 3)).alloc (.cells #[.int .i64 0,.int .i64 0] 74))=W:=⟨_,rfl⟩
  rw[hW] at HR ⊢
  clear hW
  have o4:=HR.o.cap.o.cell 0 rfl
  refine(HC.o _ HR.o).mono ?_
  rintro e' w2 ⟨rfl,hb2⟩
  have HR9:=aA (HR.o.later hb2)
  obtain⟨s1,s2,s3,s4⟩:=aG HR9.o.r
  clear hb2
  go_wp2_with fail
  obtain⟨d0,d1,hB4⟩:=aI HR9.o.r HR9.o.bel (by omega) x y
  exact bodyPost_ret (v:=.tuple #[.agg #[.int .i64 x,.int .i64 y],.int .i64 0]) (by simp[results,Tryz.results165,go_sem,d0,d1]) rfl ⟨rfl,hB4⟩
 ·go_enter Tryz.func165,Tryz.ntmps165
  go_wp2_with fail
  obtain⟨W,hW⟩:∃ W,((((w.alloc (.cells #[.int .i64 16] 3)).alloc (.cells #[.int .i64 k] 3)).alloc (.cells #[.int .i64 s] 3)).alloc (.cells #[.int .i64 0,.int .i64 0] 74))=W:=⟨_,rfl⟩
  rw[hW] at HR ⊢
  clear hW
  have o4:=HR.o.cap.o.cell 0 rfl
  refine(HC.o _ HR.o).mono ?_
  rintro e' w2 ⟨rfl,hb2⟩
  have HR9:=aA (HR.o.later hb2)
  obtain⟨s1,s2,s3,s4⟩:=aG HR9.o.r
  clear hb2
  go_wp2_with fail
  obtain⟨d0,d1,hB4⟩:=aI HR9.o.r HR9.o.bel (by omega) x y
  exact bodyPost_ret (v:=.tuple #[.agg #[.int .i64 x,.int .i64 y],.int .i64 0]) (by simp[results,Tryz.results165,go_sem,d0,d1]) rfl ⟨rfl,hB4⟩
 ·go_enter Tryz.func165,Tryz.ntmps165
  go_wp2_with fail
  obtain⟨W,hW⟩:∃ W,((((w.alloc (.cells #[.int .i64 17] 3)).alloc (.cells #[.int .i64 k] 3)).alloc (.cells #[.int .i64 s] 3)).alloc (.cells #[.int .i64 0,.int .i64 0] 74))=W:=⟨_,rfl⟩
  rw[hW] at HR ⊢
  clear hW
  have o4:=HR.o.cap.o.cell 0 rfl
  refine(HC.o _ HR.o).mono ?_
  rintro e' w2 ⟨rfl,hb2⟩
  have HR9:=aA (HR.o.later hb2)
  obtain⟨s1,s2,s3,s4⟩:=aG HR9.o.r
  clear hb2
  go_wp2_with fail
  obtain⟨d0,d1,hB4⟩:=aI HR9.o.r HR9.o.bel (by omega) x y
  exact bodyPost_ret (v:=.tuple #[.agg #[.int .i64 x,.int .i64 y],.int .i64 0]) (by simp[results,Tryz.results165,go_sem,d0,d1]) rfl ⟨rfl,hB4⟩
 ·go_enter Tryz.func165,Tryz.ntmps165
  go_wp2_with fail
  obtain⟨W,hW⟩:∃ W,((((w.alloc (.cells #[.int .i64 22] 3)).alloc (.cells #[.int .i64 k] 3)).alloc (.cells #[.int .i64 s] 3)).alloc (.cells #[.int .i64 0,.int .i64 0] 74))=W:=⟨_,rfl⟩
  rw[hW] at HR ⊢
  clear hW
  have o4:=HR.o.cap.o.cell 0 rfl
  refine(HC.o _ HR.o).mono ?_
  rintro e' w2 ⟨rfl,hb2⟩
  have HR9:=aA (HR.o.later hb2)
  obtain⟨s1,s2,s3,s4⟩:=aG HR9.o.r
  clear hb2
  go_wp2_with fail
  obtain⟨d0,d1,hB4⟩:=aI HR9.o.r HR9.o.bel (by omega) x y
  exact bodyPost_ret (v:=.tuple #[.agg #[.int .i64 x,.int .i64 y],.int .i64 0]) (by simp[results,Tryz.results165,go_sem,d0,d1]) rfl ⟨rfl,hB4⟩
 ·go_enter Tryz.func165,Tryz.ntmps165
  go_wp2_with fail
  obtain⟨W,hW⟩:∃ W,((((w.alloc (.cells #[.int .i64 23] 3)).alloc (.cells #[.int .i64 k] 3)).alloc (.cells #[.int .i64 s] 3)).alloc (.cells #[.int .i64 0,.int .i64 0] 74))=W:=⟨_,rfl⟩
  rw[hW] at HR ⊢
  clear hW
  have o4:=HR.o.cap.o.cell 0 rfl
  refine(HC.o _ HR.o).mono ?_
  rintro e' w2 ⟨rfl,hb2⟩
  have HR9:=aA (HR.o.later hb2)
  obtain⟨s1,s2,s3,s4⟩:=aG HR9.o.r
  clear hb2
  go_wp2_with fail
  obtain⟨d0,d1,hB4⟩:=aI HR9.o.r HR9.o.bel (by omega) x y
  exact bodyPost_ret (v:=.tuple #[.agg #[.int .i64 x,.int .i64 y],.int .i64 0]) (by simp[results,Tryz.results165,go_sem,d0,d1]) rfl ⟨rfl,hB4⟩
 ·go_enter Tryz.func165,Tryz.ntmps165
  go_wp2_with fail
  obtain⟨W,hW⟩:∃ W,((((w.alloc (.cells #[.int .i64 28] 3)).alloc (.cells #[.int .i64 k] 3)).alloc (.cells #[.int .i64 s] 3)).alloc (.cells #[.int .i64 0,.int .i64 0] 74))=W:=⟨_,rfl⟩
  rw[hW] at HR ⊢
  clear hW
  have o4:=HR.o.cap.o.cell 0 rfl
  refine(HC.o _ HR.o).mono ?_
  rintro e' w2 ⟨rfl,hb2⟩
  have HR9:=aA (HR.o.later hb2)
  obtain⟨s1,s2,s3,s4⟩:=aG HR9.o.r
  clear hb2
  go_wp2_with fail
  obtain⟨d0,d1,hB4⟩:=aI HR9.o.r HR9.o.bel (by omega) x y
  exact bodyPost_ret (v:=.tuple #[.agg #[.int .i64 x,.int .i64 y],.int .i64 0]) (by simp[results,Tryz.results165,go_sem,d0,d1]) rfl ⟨rfl,hB4⟩
theorem aJm (op k s a b:Int)(bb off cap:Nat)(w:World)(hcap:1<=cap)(hlt:bb < w.heap.size)(c0:w.cell? ⟨bb,off,none⟩=some (.int .i64 a))(c1:w.cell? ⟨bb,off+1,none⟩=some (.int .i64 b))(ho:op=31)(ha:eU a)(hb:eU b)(hk:eU k) :
  Calls Tryz.prog 165 #[.int .i64 op,.int .i64 k,.int .i64 s,.slice (some ⟨bb,off,none⟩) 1 cap] w fun r w'=>r=.returned (spV (eX a b k k,0))/\Below w.heap.size w w':=by
 have R0:=Rk.start w op k s
 have d0:=(R0.bel.cell (p:=⟨bb,off,none⟩) hlt).trans c0
 have d1:=(R0.bel.cell (p:=⟨bb,off+1,none⟩) hlt).trans c1
 have HR:=aA R0
 clear R0 c0 c1
 have HC:=aA fun(W':World)=>aC4 a b k k W' ha hb hk hk
 generalize eX a b k k=Z at *
 obtain⟨x,y⟩:=Z
 subst ho
 go_enter Tryz.func165,Tryz.ntmps165
 go_wp2_with fail
 obtain⟨W,hW⟩:∃ W,((((w.alloc (.cells #[.int .i64 31] 3)).alloc (.cells #[.int .i64 k] 3)).alloc (.cells #[.int .i64 s] 3)).alloc (.cells #[.int .i64 0,.int .i64 0] 74))=W:=⟨_,rfl⟩
 rw[hW] at HR d0 d1 ⊢
 clear hW
 have hlW:=World.block_lt_of_cell? W _ d0
 have d4:=HR.o.cap.k.cell 0 rfl
 go_region_held3 (fun w'=>w'.cell? ⟨bb,off,none⟩=some (.int .i64 a)/\w'.cell? ⟨bb,off+1,none⟩=some (.int .i64 b)/\w'.cell? ⟨w.heap.size+1,0,none⟩=some (.int .i64 k))
  (first|exact⟨t0,t1,t4⟩|exact⟨u0,u1,u4⟩|exact⟨dQ hlt (by omega) u0,dQ hlt (by omega) u1,dQ (Nat.lt_succ_self _) (by omega) u4⟩|go_keep)
  ((first
   | (go_at_call 190;refine(dF _ _).mono ?_;rintro e' w2 ⟨rfl,hb2⟩;have t0:=(hb2.cell (p:=⟨bb,off,none⟩) hlW).trans d0;have t1:=(hb2.cell (p:=⟨bb,off+1,none⟩) hlW).trans d1;have HR2:=aA (HR.o.drew.later hb2);have t4:=HR2.o.cap.k.cell 0 rfl;have hl2:=World.block_lt_of_cell? w2 _ t0)
   | (go_at_call 191;refine(HC.o _).mono ?_;rintro e' w3 ⟨rfl,hb3⟩;have u0:=(hb3.cell (p:=⟨bb,off,none⟩) hl2).trans t0;have u1:=(hb3.cell (p:=⟨bb,off+1,none⟩) hl2).trans t1;have HR9:=aA (HR2.o.later hb3);have u4:=HR9.o.cap.k.cell 0 rfl;obtain⟨s1,s2,s3,s4⟩:=aG HR9.o.r)))
 go_wp2_with fail
 obtain⟨d0,d1,hB4⟩:=aI HR9.o.r HR9.o.bel (by omega) x y
 exact bodyPost_ret (v:=.tuple #[.agg #[.int .i64 x,.int .i64 y],.int .i64 0]) (by simp[results,Tryz.results165,go_sem,d0,d1]) rfl ⟨rfl,hB4⟩
theorem aA9 (W:World)(a b c d:Int):(W.alloc (.cells #[.int .i64 a,.int .i64 b,.int .i64 c,.int .i64 d] 74)).cell? ⟨W.heap.size,0,none⟩=some (.int .i64 a)/\(W.alloc (.cells #[.int .i64 a,.int .i64 b,.int .i64 c,.int .i64 d] 74)).cell? ⟨W.heap.size,0+1,none⟩=some (.int .i64 b) /\
  (W.alloc (.cells #[.int .i64 a,.int .i64 b,.int .i64 c,.int .i64 d] 74)).cell? ⟨W.heap.size,0+2,none⟩=some (.int .i64 c)/\(W.alloc (.cells #[.int .i64 a,.int .i64 b,.int .i64 c,.int .i64 d] 74)).cell? ⟨W.heap.size,0+2+1,none⟩=some (.int .i64 d):=by
 have h:=aB.new W 74 #[.int .i64 a,.int .i64 b,.int .i64 c,.int .i64 d]
 exact⟨h.cell 0 rfl,h.cell 1 rfl,h.cell 2 rfl,h.cell 3 rfl⟩
theorem aJo (op k s a b:Int)(bb off cap:Nat)(w:World)(hcap:1<=cap)(hlt:bb < w.heap.size)(c0:w.cell? ⟨bb,off,none⟩=some (.int .i64 a))(c1:w.cell? ⟨bb,off+1,none⟩=some (.int .i64 b))(ho:op=32) :
  Calls Tryz.prog 165 #[.int .i64 op,.int .i64 k,.int .i64 s,.slice (some ⟨bb,off,none⟩) 1 cap] w fun r w'=>r=.returned (spV (eO (fun u v=>bK 10 0 0 [u,v]) a b k k))/\Below w.heap.size w w':=by
 have R0:=Rk.start w op k s
 have d0:=(R0.bel.cell (p:=⟨bb,off,none⟩) hlt).trans c0
 have d1:=(R0.bel.cell (p:=⟨bb,off+1,none⟩) hlt).trans c1
 have HR:=aA R0
 clear R0 c0 c1
 have HC:=aA fun(W':World)=>aAq 10 0 0 a b k k W'.heap.size 0 2 (W'.alloc (.cells #[.int .i64 a,.int .i64 b,.int .i64 k,.int .i64 k] 74)) (Nat.le_refl _) (by simp) (aA9 W' a b k k).1 (aA9 W' a b k k).2.1 (aA9 W' a b k k).2.2.1 (aA9 W' a b k k).2.2.2 (.inl rfl)
 obtain⟨⟨⟨x,y⟩,e⟩,hZ⟩:∃ Z,eO (fun u v=>bK 10 0 0 [u,v]) a b k k=Z:=⟨_,rfl⟩
 rw[hZ] at HC ⊢
 clear hZ
 subst ho
 go_enter Tryz.func165,Tryz.ntmps165
 go_wp2_with fail
 obtain⟨W,hW⟩:∃ W,((((w.alloc (.cells #[.int .i64 32] 3)).alloc (.cells #[.int .i64 k] 3)).alloc (.cells #[.int .i64 s] 3)).alloc (.cells #[.int .i64 0,.int .i64 0] 74))=W:=⟨_,rfl⟩
 rw[hW] at HR d0 d1 ⊢
 clear hW
 have hlW:=World.block_lt_of_cell? W _ d0
 have d4:=HR.o.cap.k.cell 0 rfl
 go_region_held3 (fun w'=>w'.cell? ⟨bb,off,none⟩=some (.int .i64 a)/\w'.cell? ⟨bb,off+1,none⟩=some (.int .i64 b)/\w'.cell? ⟨w.heap.size+1,0,none⟩=some (.int .i64 k))
  (first|exact⟨t0,t1,t4⟩|exact⟨u0,u1,u4⟩|exact⟨(aV hl2).trans t0,(aV hl2).trans t1,(aV hl4).trans t4⟩|exact⟨dQ hlt (by omega) u0,dQ hlt (by omega) u1,dQ (Nat.lt_succ_self _) (by omega) u4⟩|go_keep)
  ((first
   | (go_at_call 190;refine(dF _ _).mono ?_;rintro e' w2 ⟨rfl,hb2⟩;have t0:=(hb2.cell (p:=⟨bb,off,none⟩) hlW).trans d0;have t1:=(hb2.cell (p:=⟨bb,off+1,none⟩) hlW).trans d1;have HR2:=aA (HR.o.drew.later hb2);have t4:=HR2.o.cap.k.cell 0 rfl;have hl2:=World.block_lt_of_cell? w2 _ t0;have hl4:=World.block_lt_of_cell? w2 _ t4)
   | (go_at_call 165;refine(HC.o _).mono ?_;rintro e' w3 ⟨rfl,hb3⟩;have hb4:=bel (aC _ _) hb3;have u0:=(hb4.cell (p:=⟨bb,off,none⟩) hl2).trans t0;have u1:=(hb4.cell (p:=⟨bb,off+1,none⟩) hl2).trans t1;have HR9:=aA (HR2.o.later hb4);have u4:=HR9.o.cap.k.cell 0 rfl;obtain⟨s1,s2,s3,s4⟩:=aG HR9.o.r)))
 go_wp2_with fail
 obtain⟨d0,d1,hB4⟩:=aI HR9.o.r HR9.o.bel (by omega) x y
 exact bodyPost_ret (v:=.tuple #[.agg #[.int .i64 x,.int .i64 y],.int .i64 e]) (by simp[results,Tryz.results165,go_sem,d0,d1]) rfl ⟨rfl,hB4⟩
end Go.Proofs.Spn
