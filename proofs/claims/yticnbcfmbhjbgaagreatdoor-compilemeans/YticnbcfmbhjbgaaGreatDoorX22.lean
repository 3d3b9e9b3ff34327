import Derived.Deep.CutRange
import Derived.Test.YticnbcfmbhjbgaaGreatDoorX21
set_option maxRecDepth 100000
set_option maxHeartbeats 32000000
set_option linter.unusedVariables false
namespace Go.Proofs.Fld
section
open Go.RowKit Go.IntWalk Knd
open Cde (In i0 ia kd cd Ins sI aH aJ bE aF)
open YticnbcfmbhjbgaaGreatDoor (aB)
variable {M:List In} {m:In}
theorem tY {V V':World}{g o:Nat}{v:Value}(hb:Below V.heap.size V V')(h:V.cell? ⟨g,o,none⟩=some v)(hg:g < V.heap.size):V'.cell? ⟨g,o,none⟩=some v:=(hb.cell (p:=⟨g,o,none⟩) hg).trans h
theorem aX4:Tryz.prog.follows .mixedOrders=true:=by kernel_rfl
theorem bCp (h:m.op=8\/m.op=17):mO M m=[(isN M m.a 0,m.b),(isN M m.b 0,m.a)]:=by unfold mO;rw[if_pos h]
theorem bCq (h:m.op=10):mO M m=[(isN M m.a 1,m.b),(isN M m.b 1,m.a)]:=by unfold mO;rw[if_neg (by omega),if_pos h]
theorem bCr (h:m.op=16):mO M m=[(m.a==m.b,m.a),(isN M m.a 0,m.b),(isN M m.b 0,m.a)]:=by unfold mO;rw[if_neg (by omega),if_neg (by omega),if_pos h]
theorem bCs (h:m.op=15):mO M m=[(m.a==m.b,m.a),(isN M m.a (-1),m.b),(isN M m.b (-1),m.a)]:=by unfold mO;rw[if_neg (by omega),if_neg (by omega),if_neg (by omega),if_pos h]
theorem bCt (h:m.op=24\/m.op=25):mO M m=[(m.a==m.b,m.a)]:=by unfold mO;rw[if_neg (by omega),if_neg (by omega),if_neg (by omega),if_neg (by omega),if_pos h]
theorem bCu (h:m.op=9\/m.op=13\/m.op=14):mO M m=[(isN M m.b 0,m.a)]:=by unfold mO;rw[if_neg (by omega),if_neg (by omega),if_neg (by omega),if_neg (by omega),if_neg (by omega),if_pos h]
theorem bCv (h:m.op=11):mO M m=[(isN M m.b 1,m.a)]:=by unfold mO;rw[if_neg (by omega),if_neg (by omega),if_neg (by omega),if_neg (by omega),if_neg (by omega),if_neg (by omega),if_pos h]
theorem bCw (h:m.op=29\/m.op=30):mO M m=[(m.k==0,m.a)]:=by unfold mO;rw[if_neg (by omega),if_neg (by omega),if_neg (by omega),if_neg (by omega),if_neg (by omega),if_neg (by omega),if_neg (by omega),if_pos h]
theorem bCx (h:m.op=32):mO M m=[(m.k==1,m.a)]:=by unfold mO;rw[if_neg (by omega),if_neg (by omega),if_neg (by omega),if_neg (by omega),if_neg (by omega),if_neg (by omega),if_neg (by omega),if_neg (by omega),if_pos h]
theorem bCy (h:m.op=5):mO M m=[((rg M m.a).op==5,(rg M m.a).a)]:=by unfold mO;rw[if_neg (by omega),if_neg (by omega),if_neg (by omega),if_neg (by omega),if_neg (by omega),if_neg (by omega),if_neg (by omega),if_neg (by omega),if_neg (by omega),if_pos h]
theorem bAz (h:m.op=6):mO M m=[((rg M m.a).op==6,m.a)]:=by unfold mO;rw[if_neg (by omega),if_neg (by omega),if_neg (by omega),if_neg (by omega),if_neg (by omega),if_neg (by omega),if_neg (by omega),if_neg (by omega),if_neg (by omega),if_neg (by omega),if_pos h]
theorem bA0 (h:m.op=28):mO M m=[(isN M m.a 0,m.c),((rg M m.a).op==1,m.b),(m.b==m.c,m.b)]:=by unfold mO;rw[if_neg (by omega),if_neg (by omega),if_neg (by omega),if_neg (by omega),if_neg (by omega),if_neg (by omega),if_neg (by omega),if_neg (by omega),if_neg (by omega),if_neg (by omega),if_neg (by omega),if_pos h]
theorem bA1 (h:m.op=27):mO M m=[(m.a==m.b || m.a==m.c,m.a),(m.b==m.c,m.b)]:=by unfold mO;rw[if_neg (by omega),if_neg (by omega),if_neg (by omega),if_neg (by omega),if_neg (by omega),if_neg (by omega),if_neg (by omega),if_neg (by omega),if_neg (by omega),if_neg (by omega),if_neg (by omega),if_neg (by omega),if_pos h]
theorem bA2 (h:m.op=26):mO M m=[(m.b==m.c,m.b)]:=by unfold mO;rw[if_neg (by omega),if_neg (by omega),if_neg (by omega),if_neg (by omega),if_neg (by omega),if_neg (by omega),if_neg (by omega),if_neg (by omega),if_neg (by omega),if_neg (by omega),if_neg (by omega),if_neg (by omega),if_neg (by omega),if_pos h]
theorem aS3 (m:In)(own:Int){va:Option Addr}{vn vc:Nat}{W:World}(hM:Ins W va vn vc M)(ho:bE m vn=true) :
  Calls Tryz.prog 356 #[.slice va vn vc,.agg (ia m),.i own] W fun e W'=>e=.returned (.i (fsZ own (mO M m)))/\Below W.heap.size W W':=by
 have hb1:=aD W (.cells (ia m) 132)
 have HB:=aA hb1
 have HM:=aA (hM.later hb1)
 have hs:=hM.short
 have hin:=fun r=>nK ho (r:=r)
 have HN:=aA (aB.new W 132 (ia m))
 clear hM ho hb1
 obtain⟨R,hR⟩:∃ R,fsZ own (mO M m)=R:=⟨_,rfl⟩
 rw[hR]
 go_enter Tryz.func356,Tryz.ntmps356
 go_wp2_with fail
 obtain⟨V,hV⟩:∃ V,W.alloc (.cells (ia m) 132)=V:=⟨_,rfl⟩
 rw[hV] at HB HN HM ⊢
 obtain⟨e0,e1,e2,e3,e4,e5⟩:=aH HN.o
 have y1:=cell_regrown e1
 have y2:=cell_regrown e2
 have y3:=cell_regrown e3
 refine wp_region_quiet_below aX4 (by kernel_rfl) ?_
 repeat (go_big_quiet_step (fail))
 refine wpQuiet_nil ?_
 intro V2 hw'
 obtain⟨⟨dq,osq⟩,hw''⟩:=hw'
 have hb:=below_regrown V dq osq
 simp only at hw''
 rw[<-hw''] at hb
 clear hw'' y1 y2 y3 e0 e1 e2 e3 e4 e5 hV
 have HB2:=aA (bel HB.o hb)
 have HN2:=aA (HN.o.below hb)
 have HM2:=aA (HM.o.later hb)
 have HI:=aA fun r k (h:eD r vn)=>aIx r k HM2.o h
 clear hb HB HN HM
 by_cases h0:m.op=8\/m.op=17
 ·rw[bCp h0] at hR
  have ha:ar m.op=2:=by rcases h0 with e|e <;> rw[e] <;> decide
  have ia:=hin m.a (by rw[jI ha];simp)
  have ib:=hin m.b (by rw[jI ha];simp)
  obtain⟨op,a,b,c,k,s⟩:=m
  dsimp only at h0 ha ia ib HN2 hR ⊢
  obtain⟨e0,e1,e2,e3,e4,e5⟩:=aH HN2.o
  clear hin  ha
  have HJ1:=aA (HI.o a 0 ia)
  generalize isN M a 0=x0 at *
  have HJ2:=aA (HI.o b 0 ib)
  generalize isN M b 0=x1 at *
  have HR:=aA hR
  clear hR
  rcases h0 with rfl|rfl 
  all_goals
   go_wp2_with fail
   refine HJ1.o.mono ?_
   rintro e w' ⟨rfl,rfl⟩
   go_wp2_with fail
   refine HJ2.o.mono ?_
   rintro e w' ⟨rfl,rfl⟩
   go_wp2_with fail
   refine(bT own (n:=2) (L:=[(x0,b),(x1,a)]) (aB.new _ _ _) rfl (by decide)).mono ?_
   rintro e V3 ⟨rfl,hb⟩
   have HB3:=aA (bel (bel HB2.o (aD _ _)) hb)
   clear hb
   go_wp2_with fail
   go_ret
   exact⟨aO HR.o,HB3.o⟩
 by_cases h1:m.op=10
 ·rw[bCq h1] at hR
  have ha:ar m.op=2:=by rw[h1];decide
  have ia:=hin m.a (by rw[jI ha];simp)
  have ib:=hin m.b (by rw[jI ha];simp)
  obtain⟨op,a,b,c,k,s⟩:=m
  dsimp only at h1 ha ia ib HN2 hR ⊢
  obtain⟨e0,e1,e2,e3,e4,e5⟩:=aH HN2.o
  clear hin h0 ha
  have HJ1:=aA (HI.o a 1 ia)
  generalize isN M a 1=x0 at *
  have HJ2:=aA (HI.o b 1 ib)
  generalize isN M b 1=x1 at *
  have HR:=aA hR
  clear hR
  subst h1
  go_wp2_with fail
  refine HJ1.o.mono ?_
  rintro e w' ⟨rfl,rfl⟩
  go_wp2_with fail
  refine HJ2.o.mono ?_
  rintro e w' ⟨rfl,rfl⟩
  go_wp2_with fail
  refine(bT own (n:=2) (L:=[(x0,b),(x1,a)]) (aB.new _ _ _) rfl (by decide)).mono ?_
  rintro e V3 ⟨rfl,hb⟩
  have HB3:=aA (bel (bel HB2.o (aD _ _)) hb)
  clear hb
  go_wp2_with fail
  go_ret
  exact⟨aO HR.o,HB3.o⟩
 by_cases h2:m.op=16
 ·rw[bCr h2] at hR
  have ha:ar m.op=2:=by rw[h2];decide
  have ia:=hin m.a (by rw[jI ha];simp)
  have ib:=hin m.b (by rw[jI ha];simp)
  obtain⟨op,a,b,c,k,s⟩:=m
  dsimp only at h2 ha ia ib HN2 hR ⊢
  obtain⟨e0,e1,e2,e3,e4,e5⟩:=aH HN2.o
  clear hin h0 h1 ha
  have HJ1:=aA (HI.o a 0 ia)
  generalize isN M a 0=x0 at *
  have HJ2:=aA (HI.o b 0 ib)
  generalize isN M b 0=x1 at *
  have HR:=aA hR
  clear hR
  subst h2
  go_wp2_with fail
  refine HJ1.o.mono ?_
  rintro e w' ⟨rfl,rfl⟩
  go_wp2_with fail
  refine HJ2.o.mono ?_
  rintro e w' ⟨rfl,rfl⟩
  go_wp2_with fail
  refine(bT own (n:=3) (L:=[(a==b,a),(x0,b),(x1,a)]) (aB.new _ _ _) rfl (by decide)).mono ?_
  rintro e V3 ⟨rfl,hb⟩
  have HB3:=aA (bel (bel HB2.o (aD _ _)) hb)
  clear hb
  go_wp2_with fail
  go_ret
  exact⟨aO HR.o,HB3.o⟩
 by_cases h3:m.op=15
 ·rw[bCs h3] at hR
  have ha:ar m.op=2:=by rw[h3];decide
  have ia:=hin m.a (by rw[jI ha];simp)
  have ib:=hin m.b (by rw[jI ha];simp)
  obtain⟨op,a,b,c,k,s⟩:=m
  dsimp only at h3 ha ia ib HN2 hR ⊢
  obtain⟨e0,e1,e2,e3,e4,e5⟩:=aH HN2.o
  clear hin h0 h1 h2 ha
  have HJ1:=aA (HI.o a (-1) ia)
  generalize isN M a (-1)=x0 at *
  have HJ2:=aA (HI.o b (-1) ib)
  generalize isN M b (-1)=x1 at *
  have HR:=aA hR
  clear hR
  subst h3
  go_wp2_with fail
  refine HJ1.o.mono ?_
  rintro e w' ⟨rfl,rfl⟩
  go_wp2_with fail
  refine HJ2.o.mono ?_
  rintro e w' ⟨rfl,rfl⟩
  go_wp2_with fail
  refine(bT own (n:=3) (L:=[(a==b,a),(x0,b),(x1,a)]) (aB.new _ _ _) rfl (by decide)).mono ?_
  rintro e V3 ⟨rfl,hb⟩
  have HB3:=aA (bel (bel HB2.o (aD _ _)) hb)
  clear hb
  go_wp2_with fail
  go_ret
  exact⟨aO HR.o,HB3.o⟩
 by_cases h4:m.op=24\/m.op=25
 ·rw[bCt h4] at hR
  have ha:ar m.op=2:=by rcases h4 with e|e <;> rw[e] <;> decide
  have ia:=hin m.a (by rw[jI ha];simp)
  have ib:=hin m.b (by rw[jI ha];simp)
  obtain⟨op,a,b,c,k,s⟩:=m
  dsimp only at h4 ha ia ib HN2 hR ⊢
  obtain⟨e0,e1,e2,e3,e4,e5⟩:=aH HN2.o
  clear hin h0 h1 h2 h3 ha
  have HR:=aA hR
  clear hR
  rcases h4 with rfl|rfl 
  all_goals
   go_wp2_with fail
   refine(bT own (n:=1) (L:=[(a==b,a)]) (aB.new _ _ _) rfl (by decide)).mono ?_
   rintro e V3 ⟨rfl,hb⟩
   have HB3:=aA (bel (bel HB2.o (aD _ _)) hb)
   clear hb
   go_wp2_with fail
   go_ret
   exact⟨aO HR.o,HB3.o⟩
 by_cases h5:m.op=9\/m.op=13\/m.op=14
 ·rw[bCu h5] at hR
  have ha:ar m.op=2:=by rcases h5 with e|e|e <;> rw[e] <;> decide
  have ia:=hin m.a (by rw[jI ha];simp)
  have ib:=hin m.b (by rw[jI ha];simp)
  obtain⟨op,a,b,c,k,s⟩:=m
  dsimp only at h5 ha ia ib HN2 hR ⊢
  obtain⟨e0,e1,e2,e3,e4,e5⟩:=aH HN2.o
  clear hin h0 h1 h2 h3 h4 ha
  have HJ1:=aA (HI.o b 0 ib)
  generalize isN M b 0=x0 at *
  have HR:=aA hR
  clear hR
  rcases h5 with rfl|rfl|rfl 
  all_goals
   go_wp2_with fail
   refine HJ1.o.mono ?_
   rintro e w' ⟨rfl,rfl⟩
   go_wp2_with fail
   refine(bT own (n:=1) (L:=[(x0,a)]) (aB.new _ _ _) rfl (by decide)).mono ?_
   rintro e V3 ⟨rfl,hb⟩
   have HB3:=aA (bel (bel HB2.o (aD _ _)) hb)
   clear hb
   go_wp2_with fail
   go_ret
   exact⟨aO HR.o,HB3.o⟩
 by_cases h6:m.op=11
 ·rw[bCv h6] at hR
  have ha:ar m.op=2:=by rw[h6];decide
  have ia:=hin m.a (by rw[jI ha];simp)
  have ib:=hin m.b (by rw[jI ha];simp)
  obtain⟨op,a,b,c,k,s⟩:=m
  dsimp only at h6 ha ia ib HN2 hR ⊢
  obtain⟨e0,e1,e2,e3,e4,e5⟩:=aH HN2.o
  clear hin h0 h1 h2 h3 h4 h5 ha
  have HJ1:=aA (HI.o b 1 ib)
  generalize isN M b 1=x0 at *
  have HR:=aA hR
  clear hR
  subst h6
  go_wp2_with fail
  refine HJ1.o.mono ?_
  rintro e w' ⟨rfl,rfl⟩
  go_wp2_with fail
  refine(bT own (n:=1) (L:=[(x0,a)]) (aB.new _ _ _) rfl (by decide)).mono ?_
  rintro e V3 ⟨rfl,hb⟩
  have HB3:=aA (bel (bel HB2.o (aD _ _)) hb)
  clear hb
  go_wp2_with fail
  go_ret
  exact⟨aO HR.o,HB3.o⟩
 by_cases h7:m.op=29\/m.op=30
 ·rw[bCw h7] at hR
  have ha:ar m.op=1:=by rcases h7 with e|e <;> rw[e] <;> decide
  have ia:=hin m.a (by rw[xP ha];simp)
  obtain⟨op,a,b,c,k,s⟩:=m
  dsimp only at h7 ha ia HN2 hR ⊢
  obtain⟨e0,e1,e2,e3,e4,e5⟩:=aH HN2.o
  clear hin h0 h1 h2 h3 h4 h5 h6 ha
  have HR:=aA hR
  clear hR
  rcases h7 with rfl|rfl 
  all_goals
   go_wp2_with fail
   refine(bT own (n:=1) (L:=[(k==0,a)]) (aB.new _ _ _) rfl (by decide)).mono ?_
   rintro e V3 ⟨rfl,hb⟩
   have HB3:=aA (bel (bel HB2.o (aD _ _)) hb)
   clear hb
   go_wp2_with fail
   go_ret
   exact⟨aO HR.o,HB3.o⟩
 by_cases h8:m.op=32
 ·rw[bCx h8] at hR
  have ha:ar m.op=1:=by rw[h8];decide
  have ia:=hin m.a (by rw[xP ha];simp)
  obtain⟨op,a,b,c,k,s⟩:=m
  dsimp only at h8 ha ia HN2 hR ⊢
  obtain⟨e0,e1,e2,e3,e4,e5⟩:=aH HN2.o
  clear hin h0 h1 h2 h3 h4 h5 h6 h7 ha
  have HR:=aA hR
  clear hR
  subst h8
  go_wp2_with fail
  refine(bT own (n:=1) (L:=[(k==1,a)]) (aB.new _ _ _) rfl (by decide)).mono ?_
  rintro e V3 ⟨rfl,hb⟩
  have HB3:=aA (bel (bel HB2.o (aD _ _)) hb)
  clear hb
  go_wp2_with fail
  go_ret
  exact⟨aO HR.o,HB3.o⟩
 by_cases h9:m.op=5
 ·rw[bCy h9] at hR
  have ha:ar m.op=1:=by rw[h9];decide
  have ia:=hin m.a (by rw[xP ha];simp)
  obtain⟨ja,hja⟩:∃ k:Nat,m.a=k:=⟨m.a.toNat,by have:=ia.1;omega⟩
  have hj:ja < vn:=by have:=ia.2;omega
  obtain⟨g,off,rfl,hgl,hat⟩:=HM2.o.at (by omega)
  obtain⟨c0,c1,-,-,-,-⟩:=hat ja hj
  obtain⟨op,a,b,c,k,s⟩:=m
  dsimp only at h9 ha ia HN2 hR ⊢
  dsimp only at hja
  subst hja
  unfold rg at hR
  rw[iTn] at hR
  obtain⟨e0,e1,e2,e3,e4,e5⟩:=aH HN2.o
  clear hin h0 h1 h2 h3 h4 h5 h6 h7 h8 ha
  have HR:=aA hR
  clear hR
  subst h9
  have i0':(0:Int)<=ja:=by omega
  have i1':(ja:Int) < vn:=by omega
  generalize M.getD ja i0=z at *
  clear hat ia
  go_wp2_with fail
  have HF:=aA (bT own (n:=1) (g:=V2.heap.size) (W:=((V2.alloc (.cells #[.bool (z.op==5),.i z.a] 385)).drew)) (L:=[(z.op==5,z.a)]) ((aB.new V2 385 #[.bool (z.op==5),.i z.a]).below (aF _)) rfl (by decide))
  have hbx:Below V2.heap.size V2 ((V2.alloc (.cells #[.bool (z.op==5),.i z.a] 385)).drew):=bel (aD V2 _) (aF _)
  have HK0:=aA fun V3 (hb:Below ((V2.alloc (.cells #[.bool (z.op==5),.i z.a] 385)).drew).heap.size ((V2.alloc (.cells #[.bool (z.op==5),.i z.a] 385)).drew) V3)=>tY (bel hbx hb) c0 hgl
  have HK1:=aA fun V3 (hb:Below ((V2.alloc (.cells #[.bool (z.op==5),.i z.a] 385)).drew).heap.size ((V2.alloc (.cells #[.bool (z.op==5),.i z.a] 385)).drew) V3)=>tY (bel hbx hb) c1 hgl
  have HK2:=aA fun V3 (hb:Below ((V2.alloc (.cells #[.bool (z.op==5),.i z.a] 385)).drew).heap.size ((V2.alloc (.cells #[.bool (z.op==5),.i z.a] 385)).drew) V3)=>aA (bel HB2.o (bel hbx hb))
  clear hbx
  go_region_held3 (fun w'=>w'.cell? ⟨g,off+ja*6,none⟩=some (.i z.op)/\w'.cell? ⟨g,off+ja*6+1,none⟩=some (.i z.a))
   (first|exact⟨c0,c1⟩|exact⟨k0,k1⟩|go_keep)
   ((first
    | (go_at_call 374;refine HF.o.mono ?_;rintro e V3 ⟨rfl,hb⟩;have k0:=HK0.o V3 hb;have k1:=HK1.o V3 hb;have HB3:=HK2.o V3 hb)))
  all_goals
   clear k0 k1 hb
   go_wp2_with fail
   go_ret
   exact⟨aO HR.o,HB3.o⟩
 by_cases h10:m.op=6
 ·rw[bAz h10] at hR
  have ha:ar m.op=1:=by rw[h10];decide
  have ia:=hin m.a (by rw[xP ha];simp)
  obtain⟨ja,hja⟩:∃ k:Nat,m.a=k:=⟨m.a.toNat,by have:=ia.1;omega⟩
  have hj:ja < vn:=by have:=ia.2;omega
  obtain⟨g,off,rfl,hgl,hat⟩:=HM2.o.at (by omega)
  obtain⟨c0,c1,-,-,-,-⟩:=hat ja hj
  obtain⟨op,a,b,c,k,s⟩:=m
  dsimp only at h10 ha ia HN2 hR ⊢
  dsimp only at hja
  subst hja
  unfold rg at hR
  rw[iTn] at hR
  obtain⟨e0,e1,e2,e3,e4,e5⟩:=aH HN2.o
  clear hin h0 h1 h2 h3 h4 h5 h6 h7 h8 h9 ha
  have HR:=aA hR
  clear hR
  subst h10
  have i0':(0:Int)<=ja:=by omega
  have i1':(ja:Int) < vn:=by omega
  generalize M.getD ja i0=z at *
  clear hat ia
  go_wp2_with fail
  refine(bT own (n:=1) (L:=[(z.op==6,(ja:Int))]) (aB.new _ _ _) rfl (by decide)).mono ?_
  rintro e V3 ⟨rfl,hb⟩
  have HB3:=aA (bel (bel HB2.o (aD _ _)) hb)
  clear hb
  go_wp2_with fail
  go_ret
  exact⟨aO HR.o,HB3.o⟩
 by_cases h11:m.op=28
 ·rw[bA0 h11] at hR
  have ha:ar m.op=3:=by rw[h11];decide
  have ia:=hin m.a (by rw[oV ha];simp)
  have ib:=hin m.b (by rw[oV ha];simp)
  have ic:=hin m.c (by rw[oV ha];simp)
  obtain⟨ja,hja⟩:∃ k:Nat,m.a=k:=⟨m.a.toNat,by have:=ia.1;omega⟩
  have hj:ja < vn:=by have:=ia.2;omega
  obtain⟨g,off,rfl,hgl,hat⟩:=HM2.o.at (by omega)
  obtain⟨c0,-,-,-,c4,-⟩:=hat ja hj
  obtain⟨op,a,b,c,k,s⟩:=m
  dsimp only at h11 ha ia ib ic HN2 hR ⊢
  dsimp only at hja
  subst hja
  unfold isN rg at hR
  rw[iTn] at hR
  obtain⟨e0,e1,e2,e3,e4,e5⟩:=aH HN2.o
  clear hin h0 h1 h2 h3 h4 h5 h6 h7 h8 h9 h10 ha
  have HR:=aA hR
  clear hR
  subst h11
  have i0':(0:Int)<=ja:=by omega
  have i1':(ja:Int) < vn:=by omega
  generalize M.getD ja i0=z at *
  clear hat ia
  go_wp2_with fail
  have HF:=aA (bT own (n:=3) (g:=V2.heap.size) (W:=((V2.alloc (.cells #[.bool (z.op==1&&z.k==0),.i c,.bool (z.op==1),.i b,.bool (b==c),.i b] 385)).drew)) (L:=[(z.op==1&&z.k==0,c),(z.op==1,b),(b==c,b)]) ((aB.new V2 385 #[.bool (z.op==1&&z.k==0),.i c,.bool (z.op==1),.i b,.bool (b==c),.i b]).below (aF _)) rfl (by decide))
  have hbx:Below V2.heap.size V2 ((V2.alloc (.cells #[.bool (z.op==1&&z.k==0),.i c,.bool (z.op==1),.i b,.bool (b==c),.i b] 385)).drew):=bel (aD V2 _) (aF _)
  have HK0:=aA fun V3 (hb:Below ((V2.alloc (.cells #[.bool (z.op==1&&z.k==0),.i c,.bool (z.op==1),.i b,.bool (b==c),.i b] 385)).drew).heap.size ((V2.alloc (.cells #[.bool (z.op==1&&z.k==0),.i c,.bool (z.op==1),.i b,.bool (b==c),.i b] 385)).drew) V3)=>tY (bel hbx hb) c0 hgl
  have HK1:=aA fun V3 (hb:Below ((V2.alloc (.cells #[.bool (z.op==1&&z.k==0),.i c,.bool (z.op==1),.i b,.bool (b==c),.i b] 385)).drew).heap.size ((V2.alloc (.cells #[.bool (z.op==1&&z.k==0),.i c,.bool (z.op==1),.i b,.bool (b==c),.i b] 385)).drew) V3)=>tY (bel hbx hb) c4 hgl
  have HK2:=aA fun V3 (hb:Below ((V2.alloc (.cells #[.bool (z.op==1&&z.k==0),.i c,.bool (z.op==1),.i b,.bool (b==c),.i b] 385)).drew).heap.size ((V2.alloc (.cells #[.bool (z.op==1&&z.k==0),.i c,.bool (z.op==1),.i b,.bool (b==c),.i b] 385)).drew) V3)=>aA (bel HB2.o (bel hbx hb))
  clear hbx
  go_region_held3 (fun w'=>w'.cell? ⟨g,off+ja*6,none⟩=some (.i z.op)/\w'.cell? ⟨g,off+ja*6+4,none⟩=some (.i z.k))
   (first|exact⟨c0,c4⟩|exact⟨k0,k1⟩|go_keep)
   ((first
    | (go_at_call 375;refine(aEt 0 hj (by first | exact c0 | go_keep) (by first | exact c4 | go_keep) hs).mono ?_;rintro e w2 ⟨rfl,rfl⟩)
    | (go_at_call 374;refine HF.o.mono ?_;rintro e V3 ⟨rfl,hb⟩;have k0:=HK0.o V3 hb;have k1:=HK1.o V3 hb;have HB3:=HK2.o V3 hb)))
  all_goals
   clear k0 k1 hb
   go_wp2_with fail
   go_ret
   exact⟨aO HR.o,HB3.o⟩
 by_cases h12:m.op=27
 ·rw[bA1 h12] at hR
  have ha:ar m.op=3:=by rw[h12];decide
  have ia:=hin m.a (by rw[oV ha];simp)
  have ib:=hin m.b (by rw[oV ha];simp)
  have ic:=hin m.c (by rw[oV ha];simp)
  obtain⟨op,a,b,c,k,s⟩:=m
  dsimp only at h12 ha ia ib ic HN2 hR ⊢
  obtain⟨e0,e1,e2,e3,e4,e5⟩:=aH HN2.o
  clear hin h0 h1 h2 h3 h4 h5 h6 h7 h8 h9 h10 h11 ha
  have HR:=aA hR
  clear hR
  subst h12
  cases hx:(a==b)
  ·go_wp2_with fail
   refine(bT own (n:=2) (L:=[(a==c,a),(b==c,b)]) (aB.new _ _ _) rfl (by decide)).mono ?_
   rintro e V3 ⟨rfl,hb⟩
   have HB3:=aA (bel (bel HB2.o (aD _ _)) hb)
   clear hb
   go_wp2_with fail
   go_ret
   exact⟨aO (by have:=HR.o;rw[hx] at this;exact this),HB3.o⟩
  ·go_wp2_with fail
   refine(bT own (n:=2) (L:=[(true,a),(b==c,b)]) (aB.new _ _ _) rfl (by decide)).mono ?_
   rintro e V3 ⟨rfl,hb⟩
   have HB3:=aA (bel (bel HB2.o (aD _ _)) hb)
   clear hb
   go_wp2_with fail
   go_ret
   exact⟨aO (by have:=HR.o;rw[hx] at this;exact this),HB3.o⟩
 by_cases h13:m.op=26
 ·rw[bA2 h13] at hR
  have ha:ar m.op=3:=by rw[h13];decide
  have ia:=hin m.a (by rw[oV ha];simp)
  have ib:=hin m.b (by rw[oV ha];simp)
  have ic:=hin m.c (by rw[oV ha];simp)
  obtain⟨op,a,b,c,k,s⟩:=m
  dsimp only at h13 ha ia ib ic HN2 hR ⊢
  obtain⟨e0,e1,e2,e3,e4,e5⟩:=aH HN2.o
  clear hin h0 h1 h2 h3 h4 h5 h6 h7 h8 h9 h10 h11 h12 ha
  have HR:=aA hR
  clear hR
  subst h13
  go_wp2_with fail
  refine(bT own (n:=1) (L:=[(b==c,b)]) (aB.new _ _ _) rfl (by decide)).mono ?_
  rintro e V3 ⟨rfl,hb⟩
  have HB3:=aA (bel (bel HB2.o (aD _ _)) hb)
  clear hb
  go_wp2_with fail
  go_ret
  exact⟨aO HR.o,HB3.o⟩
 ·rw[show mO M m=[] by unfold mO;rw[if_neg h0,if_neg h1,if_neg h2,if_neg h3,if_neg h4,if_neg h5,if_neg h6,if_neg h7,if_neg h8,if_neg h9,if_neg h10,if_neg h11,if_neg h12,if_neg h13]] at hR
  obtain⟨op,a,b,c,k,s⟩:=m
  dsimp only at *
  have q5:(op==5)=false:=by simp;omega
  have q6:(op==6)=false:=by simp;omega
  have q8:(op==8)=false:=by simp;omega
  have q9:(op==9)=false:=by simp;omega
  have q10:(op==10)=false:=by simp;omega
  have q11:(op==11)=false:=by simp;omega
  have q13:(op==13)=false:=by simp;omega
  have q14:(op==14)=false:=by simp;omega
  have q15:(op==15)=false:=by simp;omega
  have q16:(op==16)=false:=by simp;omega
  have q17:(op==17)=false:=by simp;omega
  have q24:(op==24)=false:=by simp;omega
  have q25:(op==25)=false:=by simp;omega
  have q26:(op==26)=false:=by simp;omega
  have q27:(op==27)=false:=by simp;omega
  have q28:(op==28)=false:=by simp;omega
  have q29:(op==29)=false:=by simp;omega
  have q30:(op==30)=false:=by simp;omega
  have q32:(op==32)=false:=by simp;omega
  obtain⟨e0,e1,e2,e3,e4,e5⟩:=aH HN2.o
  clear hin HI h0 h1 h2 h3 h4 h5 h6 h7 h8 h9 h10 h11 h12 h13
  go_wp2_with fail
  go_ret
  exact⟨aO hR,HB2.o⟩
end
section
open Go.RowKit Go.IntWalk Knd
open Cde (In i0 ia kd cd Ins sI aH aC aP aJ bE eH aF dL i6 zA aG)
open YticnbcfmbhjbgaaGreatDoor (aB)
variable {L M:List In} {V W w w':World} {b base c n size:Nat} {mv tv v:Value} {a:Option Addr} {e t:TypeId} {xs:List Value} {cs cv:Array Value} {T:List Int}
theorem aSx (f d:Int)(m:In){va:Option Addr}{vn vc:Nat}(hM:Ins W va vn vc M)(ho:bE m vn=true) :
  Calls Tryz.prog 355 #[.slice va vn vc,.agg (kd f d),.agg (ia m)] W fun e W'=>e=.returned (.tuple #[.i (knZ f d M m).1,.bool (knZ f d M m).2])/\Below W.heap.size W W':=by
 have hb2:=bel (aD W (.cells (kd f d) 23)) (aD (W.alloc (.cells (kd f d) 23)) (.cells (ia m) 132))
 have HB:=aA hb2
 have HM:=aA (hM.later hb2)
 have HN:=aA (aJ W (.cells (kd f d) 23) 132 (ia m))
 have HBn:=aA fun V=>aG2 f d m V
 have HRk:=aA fun V (h:Ins V va vn vc M)=>aS0 m h ho
 have HSe:=aA fun V (h:Ins V va vn vc M)=>aS2 m h ho
 unfold knZ
 generalize bnZ f d m=X at *
 generalize rkZ M m=Y at *
 generalize stZ M m=Z at *
 obtain⟨X1,X2⟩:=X
 obtain⟨Y1,Y2⟩:=Y
 obtain⟨Z1,Z2⟩:=Z
 clear hM ho hb2
 dsimp only at *
 cases X2
 ·rw[if_neg (by decide)]
  cases Y2
  ·rw[if_neg (by decide)]
   go_enter Tryz.func355,Tryz.ntmps355
   go_wp2_with fail
   refine(HBn.o _).mono ?_
   rintro e V1 ⟨rfl,hb⟩
   have HB1:=aA (bel HB.o hb)
   have HM1:=aA (HM.o.later hb)
   have HN1:=aA (HN.o.below hb)
   obtain⟨e0,e1,e2,e3,e4,e5⟩:=aH HN1.o
   clear hb
   go_wp2_with fail
   refine(HRk.o _ HM1.o).mono ?_
   rintro e V2 ⟨rfl,hb⟩
   have HB2:=aA (bel HB1.o hb)
   have HM2:=aA (HM1.o.later hb)
   have HN2:=aA (HN1.o.below hb)
   clear hb e0 e1 e2 e3 e4 e5
   obtain⟨e0,e1,e2,e3,e4,e5⟩:=aH HN2.o
   go_wp2_with fail
   refine(HSe.o _ HM2.o).mono ?_
   rintro e V3 ⟨rfl,hb⟩
   have HB3:=aA (bel HB2.o hb)
   clear hb e0 e1 e2 e3 e4 e5
   go_wp2_with fail
   exact bPr (v:=.tuple #[.i Z1,.bool Z2]) (by simp[results,Tryz.results355,go_sem]) rfl ⟨rfl,HB3.o⟩
  ·rw[if_pos rfl]
   go_enter Tryz.func355,Tryz.ntmps355
   go_wp2_with fail
   refine(HBn.o _).mono ?_
   rintro e V1 ⟨rfl,hb⟩
   have HB1:=aA (bel HB.o hb)
   have HM1:=aA (HM.o.later hb)
   have HN1:=aA (HN.o.below hb)
   obtain⟨e0,e1,e2,e3,e4,e5⟩:=aH HN1.o
   clear hb
   go_wp2_with fail
   refine(HRk.o _ HM1.o).mono ?_
   rintro e V2 ⟨rfl,hb⟩
   have HB2:=aA (bel HB1.o hb)
   clear hb e0 e1 e2 e3 e4 e5
   go_wp2_with fail
   exact bPr (v:=.tuple #[.i Y1,.bool true]) (by simp[results,Tryz.results355,go_sem]) rfl ⟨rfl,HB2.o⟩
 ·rw[if_pos rfl]
  go_enter Tryz.func355,Tryz.ntmps355
  go_wp2_with fail
  refine(HBn.o _).mono ?_
  rintro e V1 ⟨rfl,hb⟩
  have HB1:=aA (bel HB.o hb)
  clear hb
  go_wp2_with fail
  exact bPr (v:=.tuple #[.i X1,.bool true]) (by simp[results,Tryz.results355,go_sem]) rfl ⟨rfl,HB1.o⟩
theorem oN:(Tryz.prog.info? 132).map (fun i=>(i.zero,i.size,i.bytes))=some (some (.agg (ia i0)),6,48):=by kernel_rfl
theorem oH {n:In}(h:aB W b 132 (ia n)):∀ j u,(i6 n)[j]?=some u->W.cell? ((⟨b,0,none⟩:Addr).add j)=some u:=by
 intro j u hu
 rw[Addr.add_lit,nZa]
 exact h.cell j (by rw[<-hu];simp[ia,i6])
theorem lG {ops:Array Oper}{rest:List Oper}{o:Oper}{a:Act}{Q:Exit->Act->World->Prop}
  (hgd:o.guard=none) (s x:Operand) (ho:o.op=.call { callee:=.builtin .append,args:=#[s,x],argTypes:=#[372,372] })
  (hs:a.eval s=v) (hen:V.ownsRow base 132 6 v L.length (dL L)) (hbase:base<=V.heap.size) (b:Nat) (n:In) (hx:a.eval x=.slice (some ⟨b,0,none⟩) 1 1) (hc:aB V b 132 (ia n)) (h3:L.length<=2000000)
  (h:∀ g cap w',w'.ownsRow base 132 6 (.slice (some ⟨g,0,none⟩) (L.length+1) cap) (L++[n]).length (dL (L++[n]))->V.grownBy w' v.ownBlock->wpList Tryz.prog ops Q rest (a.put o.dst (.slice (some ⟨g,0,none⟩) (L.length+1) cap)) w') :
  wpList Tryz.prog ops Q (o::rest) a V:=by
 obtain⟨i0',hi0,hz0,hz1,hz2⟩:=Spn.info_parts oN
 refine wpList_append_lies V hgd s x 372 ho base 132 i0' _ 6 48 Tryz.underlying372 hi0 hz0 hz1 hz2 rfl (by omega) v L.length (dL L) hs hen ⟨b,0,none⟩ 1 1 (i6 n) hx rfl (oH hc) (by simp[Value.oneCell',i6]) (by omega) (by unfold maxLen;omega) (by omega) hbase V.heap.size rfl ?_
 intro g cap w' hown hgrow hat hlt
 refine h g cap w' ?_ hgrow
 rw[Cde.uE,lLa]
 exact hown
theorem iE {L:List Int}{ops:Array Oper}{rest:List Oper}{o:Oper}{a:Act}{Q:Exit->Act->World->Prop}
  (hgd:o.guard=none) (s x:Operand) (ho:o.op=.call { callee:=.builtin .append,args:=#[s,x],argTypes:=#[24,24] })
  (hs:a.eval s=v) (hen:V.ownsRow base 3 1 v L.length (iD L)) (hbase:base<=V.heap.size) (b:Nat) (p:Int) (hx:a.eval x=.slice (some ⟨b,0,none⟩) 1 1) (hc:aB V b 3 #[.i p]) (h3:L.length<=2000000)
  (h:∀ g cap w',w'.ownsRow base 3 1 (.slice (some ⟨g,0,none⟩) (L.length+1) cap) (L++[p]).length (iD (L++[p]))->V.grownBy w' v.ownBlock->wpList Tryz.prog ops Q rest (a.put o.dst (.slice (some ⟨g,0,none⟩) (L.length+1) cap)) w') :
  wpList Tryz.prog ops Q (o::rest) a V:=by
 obtain⟨i0',hi0,hz0,hz1,hz2⟩:=info_parts info3
 refine wpList_append_lies V hgd s x 24 ho base 3 i0' _ 1 8 Tryz.underlying24 hi0 hz0 hz1 hz2 rfl (by omega) v L.length (iD L) hs hen ⟨b,0,none⟩ 1 1 [.i p] hx rfl (Cde.lN hc) (by simp[Value.oneCell']) (by omega) (by unfold maxLen;omega) (by omega) hbase V.heap.size rfl ?_
 intro g cap w' hown hgrow hat hlt
 exact h g cap w' (by rw[lLa];simpa using hown) hgrow
theorem aM7 (h:Ins w none n c L):n=0/\c=0/\L=[]:=by
 have h1:=h.nil rfl
 have h2:=h.le
 have h3:=h.len
 exact⟨by omega,h1,List.eq_nil_of_length_eq_zero (by omega)⟩
theorem fE (hb:Ins w a n c L)(hn:n<=2000000)(hn0:0 < n) :
  Calls Tryz.prog 70 #[.slice a n c] w fun e w'=>∃ a' c',e=.returned (.slice a' n c')/\w'.ownsRow w.heap.size 132 6 (.slice a' n c') n (dL L)/\Below w.heap.size w w':=by
 obtain⟨i0',hi,hz0,hz1,hz2⟩:=Spn.info_parts oN
 have heq:∀(w:World) (a:Option Addr) (n c:Nat),(binOp .eql 31 (.slice a n c) (.slice none 0 0)).run Tryz.prog w=.ok (.bool a.isNone) w:=fun w a n c=>Lib.run_eql_slice_nil w 31 132 a n c 0 0 Tryz.underlying31
 cases a with
 | none =>
  obtain⟨rfl,-,-⟩:=aM7 hb
  omega
 | some ad =>
  have hl:(dL L).length=n*6:=by rw[Cde.aCx,hb.len]
  have hbel:Below w.heap.size w (w.alloc (.cells #[] 132)):=aD _ _
  have HBel:=aA hbel
  have HN:=aA ((hb.later hbel).news ad rfl)
  have HO:Hid ((w.alloc (.cells #[] 132)).ownsRow w.heap.size 132 6 (.slice (some ⟨w.heap.size,0,none⟩) 0 0) 0 []):=aA ⟨rfl,.inr ⟨w.heap.size,0,#[],rfl,nLr _,heap_alloc_new w _,nLr _,nZl _,rfl,rfl⟩⟩
  have HL:=aA hl
  clear hb hbel hl
  go_enter Tryz.func70,Tryz.ntmps70
  go_wp2_with (at_builtin;refine wpList_append_lies _ rfl _ _ 31 rfl w.heap.size 132 i0' _ 6 48 Tryz.underlying31 hi hz0 hz1 hz2 rfl (by omega) (.slice (some ⟨w.heap.size,0,none⟩) 0 0) 0 [] rfl HO.o ad n c (dL L) rfl HL.o HN.o (Cde.aTf L) hn0 (by unfold maxLen;omega) (by omega) (by simp) _ rfl ?_;intro g cap w2 hown hgr hat hlt)
  rw[nZa,List.nil_append] at hown
  have HO2:=aA hown
  have HB2:=aA (HBel.o.grown hgr HBel.o.size (fun k h=>by cases h;exact nLr _))
  clear hown hgr hat hlt
  go_wp2_with fail
  go_ret
  exact⟨_,_,rfl,HO2.o,HB2.o⟩
theorem own_ne (h:W.ownsRow base e size v n xs)(hb:aB W b t cs)(ht:t≠e):v.ownBlock≠some b:=by
 intro hk
 obtain⟨-,cs',fr,h2⟩:=Cde.aR h b hk
 rw[hb] at h2
 cases h2
 exact ht rfl
theorem aU (h:V.ownsRow base e size v n xs)(hg:V.grownBy w' v.ownBlock)(hb:aB V b t cs)(ht:t≠e):aB w' b t cs :=
 hb.kept hg fun he=>own_ne h hb ht he.symm
theorem kQ {base':Nat}{e':TypeId}{size' n':Nat}{v':Value}{xs':List Value}(h:V.ownsRow base e size v n xs)(h':V.ownsRow base' e' size' v' n' xs')(ht:e≠e')(hg:V.grownBy w' v.ownBlock):w'.ownsRow base' e' size' v' n' xs':=by
 refine h'.kept hg ?_
 cases hv:v'.ownBlock with
 | none=>exact .inl rfl
 | some q =>
  right
  intro hq
  obtain⟨-,cs,fr,h1⟩:=Cde.aR h q hq.symm
  obtain⟨-,cs',fr',h2⟩:=Cde.aR h' q hv
  rw[h1] at h2
  cases h2
  exact ht rfl
abbrev cO:Array Value:=#[.i 0,.i 0,.slice none 0 0,.i 0]
structure Fb (W V:World)(cv:Array Value)(mv tv:Value)(M:List In)(T:List Int):Prop where
 c:aB V W.heap.size 33 cv
 o:aB V (W.heap.size+1) 33 cO
 m:V.ownsRow W.heap.size 132 6 mv M.length (dL M)
 t:V.ownsRow W.heap.size 3 1 tv T.length (iD T)
 lo:Below W.heap.size W V
theorem Fb.below {W V V':World}{cv:Array Value}{mv tv:Value}{M:List In}{T:List Int}(h:Fb W V cv mv tv M T)(hb:Below V.heap.size V V'):Fb W V' cv mv tv M T :=
 ⟨h.c.below hb,h.o.below hb,Cde.bI h.m hb,Cde.bI h.t hb,bel h.lo hb⟩
theorem Fb.growM {mv':Value}{M':List In}(h:Fb W V cv mv tv M T)(hg:V.grownBy w' mv.ownBlock)(hO:w'.ownsRow W.heap.size 132 6 mv' M'.length (dL M')):Fb W w' cv mv' tv M' T :=
 ⟨aU h.m hg h.c (by decide),aU h.m hg h.o (by decide),hO,kQ h.m h.t (by decide) hg,h.lo.grown hg h.lo.size fun k hk=>(Cde.aR h.m k hk).1⟩
theorem Fb.growT {tv':Value}{T':List Int}(h:Fb W V cv mv tv M T)(hg:V.grownBy w' tv.ownBlock)(hO:w'.ownsRow W.heap.size 3 1 tv' T'.length (iD T')):Fb W w' cv mv tv' M T' :=
 ⟨aU h.t hg h.c (by decide),aU h.t hg h.o (by decide),kQ h.t h.m (by decide) hg,hO,h.lo.grown hg h.lo.size fun k hk=>(Cde.aR h.t k hk).1⟩
abbrev s6 (w:World)(b:Nat)(n:In):World :=
 (((((w.setCell ⟨b,0,none⟩ (.i n.op)).setCell ⟨b,1,none⟩ (.i n.a)).setCell ⟨b,2,none⟩ (.i n.b)).setCell ⟨b,3,none⟩ (.i n.c)).setCell ⟨b,4,none⟩ (.i n.k)).setCell ⟨b,5,none⟩ (.i n.s)
theorem aY6 {n m:In}(h:aB w b 132 (ia n)):aB (s6 w b m) b 132 (ia m):=(((((h.set 0 _).set 1 _).set 2 _).set 3 _).set 4 _).set 5 _
theorem aQg {q:Nat}(h:aB w q t cs)(hq:q≠b)(m:In):aB (s6 w b m) q t cs :=
 (((((h.other (p:=⟨b,0,none⟩) hq _).other (p:=⟨b,1,none⟩) hq _).other (p:=⟨b,2,none⟩) hq _).other (p:=⟨b,3,none⟩) hq _).other (p:=⟨b,4,none⟩) hq _).other (p:=⟨b,5,none⟩) hq _
theorem aQh (h:w.ownsRow base e size v n xs)(hq:v.ownBlock≠some b)(m:In):(s6 w b m).ownsRow base e size v n xs :=
 ownsRow_setCell_other (ownsRow_setCell_other (ownsRow_setCell_other (ownsRow_setCell_other (ownsRow_setCell_other (ownsRow_setCell_other h (a:=⟨b,0,none⟩) hq _) (a:=⟨b,1,none⟩) hq _) (a:=⟨b,2,none⟩) hq _) (a:=⟨b,3,none⟩) hq _) (a:=⟨b,4,none⟩) hq _) (a:=⟨b,5,none⟩) hq _
theorem aY5 (h:Below w.heap.size w V)(hb:w.heap.size<=b)(m:In):Below w.heap.size w (s6 V b m) :=
 (((((h.setCell (p:=⟨b,0,none⟩) hb _).setCell (p:=⟨b,1,none⟩) hb _).setCell (p:=⟨b,2,none⟩) hb _).setCell (p:=⟨b,3,none⟩) hb _).setCell (p:=⟨b,4,none⟩) hb _).setCell (p:=⟨b,5,none⟩) hb _
structure Fc (W V:World)(cv:Array Value)(mv tv:Value)(M:List In)(T:List Int)(b:Nat)(n:In):Prop where
 f:Fb W V cv mv tv M T
 n:aB V b 132 (ia n)
 hb:W.heap.size+1 < b
 hm:mv.ownBlock≠some b
theorem Fc.below {W V V':World}{cv:Array Value}{mv tv:Value}{M:List In}{T:List Int}{b:Nat}{n:In}(h:Fc W V cv mv tv M T b n)(hb:Below V.heap.size V V'):Fc W V' cv mv tv M T b n:=⟨h.f.below hb,h.n.below hb,h.hb,h.hm⟩
theorem Fc.put {n:In}(h:Fc W V cv mv tv M T b n)(m:In):Fc W (s6 V b m) cv mv tv M T b m :=
 have hb:=h.hb
 ⟨⟨aQg h.f.c (by omega) m,aQg h.f.o (by omega) m,aQh h.f.m h.hm m,aQh h.f.t (own_ne h.f.t h.n (by decide)) m,aY5 h.f.lo (by omega) m⟩,aY6 h.n,hb,h.hm⟩
theorem Fb.with (h:Fb W V cv mv tv M T)(n:In):Fc W (V.alloc (.cells (ia n) 132)) cv mv tv M T V.heap.size n :=
 ⟨h.below (aD _ _),aB.new V 132 (ia n),h.o.lt,fun hk=>by
  obtain⟨-,cs,fr,h1⟩:=Cde.aR h.m _ hk
  have:=(aGs.1 h1).1
  omega⟩
theorem Fb.ints {k:Nat}(h:Fb W V cv mv (.slice a k c) M T)(hk:T.length=k):Ints V a k c T:=by
 obtain⟨a',c',e,hi,-⟩:=Ints.of_owns h.t
 cases e
 rw[hk] at hi
 exact hi
theorem Fb.ins {k:Nat}(h:Fb W V cv (.slice a k c) tv M T)(hk:M.length=k):Ins V a k c M:=by
 obtain⟨a',c',e,hi,-⟩:=Ins.of_owns h.m
 cases e
 rw[hk] at hi
 exact hi
theorem aDv {n:In}(h:aB W b t (ia n)):W.frozen? ⟨b,0,none⟩=false/\W.frozen? ⟨b,1,none⟩=false/\W.frozen? ⟨b,2,none⟩=false/\W.frozen? ⟨b,3,none⟩=false/\W.frozen? ⟨b,4,none⟩=false/\W.frozen? ⟨b,5,none⟩=false :=
 ⟨h.frozen 0,h.frozen 1,h.frozen 2,h.frozen 3,h.frozen 4,h.frozen 5⟩
theorem aC4 (n:Nat)(h:n<=1024):∃ cs:Array Value,cs.size=n*6/\∀ w:World,(Instr.makeSlice 372 (.i 0) (.i n)).run Tryz.prog w=.ok (.slice (some ⟨w.heap.size,0,none⟩) 0 n) (w.alloc (.cells cs 132)):=by
 obtain⟨i0',hi,hz0,hz1,hz2⟩:=Spn.info_parts oN
 refine⟨madeCells (Value.agg (ia i0)).cells (n*6),size_madeCells _ _,fun w=>?_⟩
 have:=run_make w 372 132 i0' _ Tryz.underlying372 hi hz0 .i64 .i64 0 n (by omega) (by omega) (by rw[hz2];omega) (by omega)
 rw[hz1] at this
 simp only[iTn] at this
 exact this
theorem aC6 (n:Nat)(h:n<=1024):∃ cs:Array Value,cs.size=n*1/\∀ w:World,(Instr.makeSlice 24 (.i 0) (.i n)).run Tryz.prog w=.ok (.slice (some ⟨w.heap.size,0,none⟩) 0 n) (w.alloc (.cells cs 3)):=by
 obtain⟨i0',hi,hz0,hz1,hz2⟩:=info_parts info3
 refine⟨madeCells (Value.int .i64 0).cells (n*1),size_madeCells _ _,fun w=>?_⟩
 have:=run_make w 24 3 i0' _ Tryz.underlying24 hi hz0 .i64 .i64 0 n (by omega) (by omega) (by rw[hz2];omega) (by omega)
 rw[hz1] at this
 simp only[iTn] at this
 exact this
theorem jQ (h:aB V b e cs)(hs:cs.size=n*size)(hb:W.heap.size<=b)(hn:n<=1024):V.ownsRow W.heap.size e size (.slice (some ⟨b,0,none⟩) 0 n) 0 [] :=
 ⟨by simp,.inr ⟨b,n,cs,rfl,hb,h,nZl _,by unfold maxLen;omega,hs,by simp⟩⟩
end
section
open Go.RowKit Go.IntWalk Knd
open YticnbcfmbhjbgaaGreatDoor (Wd dQ Fits inpV)
open Cde (In i0 eF dC bE eH kM eU jK cZ tK nA fZ gW nE tJ tH mV)
open Vfy (pI aW aI w32 eZ iL)
variable {d f out:Int} {L:List In} {k:Nat}
def wd0 (f d:Int):Wd:=⟨0,0,0,List.replicate (bX f d).toNat (bL f d)⟩
theorem aAl (hm:May f d):Fits f d (wd0 f d):=by
 have e0:gL f d 0=some (0,nZ f-1):=by unfold gL;rw[if_neg (by simpa using hm)];rfl
 have e1:gL f d 1=some (0,oK f-1):=by unfold gL;rw[if_neg (by simpa using hm)];rfl
 have e2:gL f d 2=some (0,3):=by unfold gL;rw[if_neg (by simpa using hm)];rfl
 have hc:1<=nZ f/\1<=oK f:=by unfold nZ oK;constructor <;> split <;> omega
 have hn:0<=bX f d:=by
  unfold bX
  repeat' split
  all_goals omega
 have hb:fG f d<=bL f d/\bL f d<=cK f d:=by
  rcases lI f d with⟨h,rfl⟩|⟨h,rfl⟩|h
  ·have:=mJ (d-1) (by have:=h.2.2;omega)
   obtain⟨a,b,c,-⟩:=zs0 h
   rw[a,b,c];omega
  ·have:=mJ (d-1) (by have:=h.2.2;omega)
   obtain⟨a,b,c,-⟩:=zs1 h
   rw[a,b,c];omega
  ·exact absurd hm h
 refine⟨⟨⟨⟨0,nZ f-1,e0,iLr _,by show (0:Int)<=_;omega⟩,⟨0,oK f-1,e1,iLr _,by show (0:Int)<=_;omega⟩⟩,⟨0,3,e2,iLr _,by show (0:Int)<=_;omega⟩⟩,?_,?_⟩
 ·show ((List.replicate (bX f d).toNat (bL f d)).length:Int)=bX f d
  rw[List.length_replicate];omega
 ·intro z hz
  rw[List.eq_of_mem_replicate hz];exact hb
structure Fi (f d:Int)(v:Wd)(L:List In)(k:Nat)(V:List Int):Prop where
 val:nA f d v (L.take k)=(0,V)
 rv:Rv f d v (oZ f d (L.take k)).1 V
 st:St V (oZ f d (L.take k)).2 k
 new:nA f d v (oZ f d (L.take k)).1=(0,V)
theorem aSz {v:Wd}{V:List Int}(h:Fi f d v L k V)(hk:k < L.length)(ho:bE (L.getD k i0) k=true){x:Int}(hx:cZ f d v V (L.getD k i0)=(x,0))(hw:w32 x):Fi f d v L (k+1) (V++[x]):=by
 have hl:=(xB f d L k (by omega)).1
 have hst:=h.st
 rw[show k=(oZ f d (L.take k)).1.length from hl.symm] at hst
 obtain⟨h1,h2,h3⟩:=aT5 h.rv (n:=L.getD k i0) (by rw[hl];rw[hl] at hst;exact hst) (by rw[hl];exact ho) hx hw
 have e:oZ f d (L.take (k+1))=foS f d (oZ f d (L.take k)) (L.getD k i0):=by rw[Cde.aG i0 hk,yN]
 refine⟨?_,?_,?_,?_⟩
 ·rw[Cde.aG i0 hk,Cde.dZ,h.val,tK,if_pos rfl,hx,if_pos rfl]
 ·rw[e];exact h.rv.snoc h1 h2
 ·rw[e]
  refine h.st.snoc ?_
  rw[hl] at h3
  show nwT f d (oZ f d (L.take k)).1 (dH (L.getD k i0) (oZ f d (L.take k)).2) ((oZ f d (L.take k)).1.length)=_\/_
  rw[hl];exact h3
 ·rw[e]
  show nA f d v ((oZ f d (L.take k)).1++[_])=_
  rw[Cde.dZ,h.new,tK,if_pos rfl,h2,if_pos rfl]
theorem aCo {f d:Int}{v:Wd}{L:List In}{out:Int}(h:aW f d L out=0)(hF:Fits f d v):∀ k,k<=L.length->∃ V,Fi f d v L k V
 | 0,_=>⟨[],rfl,Rv.nil f d v,⟨rfl,rfl,fun i hi=>absurd hi (Nat.not_lt_zero _)⟩,rfl⟩
 | k+1,hk=>by
  obtain⟨V,hV⟩:=aCo h hF k (by omega)
  obtain⟨m,ha,⟨S,hS,-,-⟩,-,-,-⟩:=aI h
  obtain⟨hm,-,-,-,-,hok⟩:=Cde.aQ m
  obtain⟨V2,S2,g1,g2,g3⟩:=Vfy.qO hm hF hok ha (by rw[hS]) (k+1) hk
  have ho:=Cde.dE hok (show k < L.length by omega)
  rw[Cde.aG i0 (by omega),Cde.dZ,hV.val,tK,if_pos rfl] at g1
  have hlV:=hV.st.vl
  by_cases hz:(cZ f d v V (L.getD k i0)).2=0
  ·rw[if_pos hz] at g1
   cases g1
   have hw:w32 (cZ f d v V (L.getD k i0)).1:=by
    have:=(g3.2 k (by rw[<-g3.1];simp[hlV])).2.2
    rw[show (V++[(cZ f d v V (L.getD k i0)).1]).getD k 0=(cZ f d v V (L.getD k i0)).1 by rw[<-hlV];exact bR _ _] at this
    exact this
   exact⟨_,aSz hV (by omega) ho (Prod.ext rfl hz) hw⟩
  ·rw[if_neg hz] at g1
   exact absurd (congrArg Prod.fst g1) hz
theorem aEw (f d:Int)(hk:k < L.length):oZ f d (L.take (k+1))=foS f d (oZ f d (L.take k)) (L.getD k i0):=by rw[Cde.aG i0 hk,yN]
theorem bAk (h:aW f d L out=0)(hk:k < L.length):bE (dH (L.getD k i0) (oZ f d (L.take k)).2) k=true:=by
 obtain⟨m,-⟩:=aI h
 obtain⟨hm,-,-,-,-,hok⟩:=Cde.aQ m
 obtain⟨V,hV⟩:=aCo h (aAl hm) k (by omega)
 exact aGb hV.st (Cde.dE hok hk)
theorem bBg (f d:Int)(M:List In)(m:In):(nwI f d M m).op=1\/nwI f d M m=m:=by
 unfold nwI
 split
 ·exact .inl rfl
 ·exact .inr rfl
theorem aIy {f d:Int}{L:List In}(hok:eH L L.length=true):∀ k,k<=L.length->eU (oZ f d (L.take k)).1<=eU (L.take k)
 | 0,_=>by simp[oZ,eU]
 | k+1,hk=>by
  have ih:=aIy (f:=f) (d:=d) hok k (by omega)
  rw[aEw f d (by omega),Cde.aG i0 (by omega),Cde.gG,foS,Cde.gG]
  have hp:=Vfy.aNd (Cde.dE hok (show k < L.length by omega))
  rcases bBg f d (oZ f d (L.take k)).1 (dH (L.getD k i0) (oZ f d (L.take k)).2) with e|e
  ·rw[e]
   have:jK 1=1:=rfl
   omega
  ·rw[e]
   have:(dH (L.getD k i0) (oZ f d (L.take k)).2).op=(L.getD k i0).op:=rfl
   rw[this]
   omega
theorem aNs (h:aW f d L out=0):aW f d (fdL f d L out) (fdO f d L out)=0/\(fdL f d L out).length=L.length/\eU (fdL f d L out)<=eU L /\
  ∀ v,Fits f d v->∃ V,fZ f d v L out=(0,V)/\fZ f d v (fdL f d L out) (fdO f d L out)=(0,V)/\V.length=L.length/\0<=fdO f d L out/\(fdO f d L out).toNat < L.length/\V.getD (fdO f d L out).toNat 0=V.getD out.toNat 0:=by
 obtain⟨m,ha,⟨S,hS,-,-⟩,-,-,-⟩:=aI h
 obtain⟨hm,-,-,ho0,ho1,hok⟩:=Cde.aQ m
 obtain⟨-,-,hH⟩:=Vfy.qN h
 have hlen:=(xB f d L L.length (nLr _)).1
 rw[lTg] at hlen
 unfold fdL fdO
 by_cases hn:aW f d (oZ f d L).1 (foO f d L out)=0
 ·rw[if_pos hn,if_pos hn]
  have hc:=aIy (f:=f) (d:=d) hok L.length (nLr _)
  rw[lTg] at hc
  refine⟨hn,hlen,hc,fun v hF=>?_⟩
  obtain⟨V,hV⟩:=aCo h hF L.length (nLr _)
  have h1:=hV.val
  have h2:=hV.new
  have h3:=hV.st
  rw[lTg] at h1 h2 h3
  obtain⟨m2,-⟩:=aI hn
  obtain⟨a1,a2,a3⟩:=h3.at' out.toNat (by omega)
  refine⟨V,by rw[fZ,if_pos m,if_pos hF];exact h1,by rw[fZ,if_pos m2,if_pos hF];exact h2,h3.vl,a1,by show ((oZ f d L).2.getD out.toNat 0).toNat < _;omega,a3⟩
 ·rw[if_neg hn,if_neg hn]
  refine⟨h,rfl,iLr _,fun v hF=>?_⟩
  obtain⟨V,hV,hI⟩:=hH v hF
  obtain⟨V',hV'⟩:=aCo h hF L.length (nLr _)
  have h1:=hV'.val
  have h3:=hV'.st.vl
  rw[lTg] at h1
  have hV2:=hV
  rw[fZ,if_pos m,if_pos hF,h1] at hV
  cases hV
  exact⟨_,hV2,hV2,h3,ho0,by omega,rfl⟩
end
open Go.RowKit Go.IntWalk Knd
open Cde (In i0 ia kd cd Ins sI aH aC aP aJ bE eH aF dL i6 zA aG)
open Vfy (aW)
open YticnbcfmbhjbgaaGreatDoor (aB)
theorem aSy {f d:Int}{M:List In}{T:List Int}{n:In}{k:Nat}{x:Int}(hM:M.length=k)(h:knZ f d M (dH n T)=(x,true)):foS f d (M,T) n=(M++[nuI x],T++[(k:Int)]):=by
 simp[foS,nwI,nwT,h,hM]
theorem aW4 {f d:Int}{M:List In}{T:List Int}{n:In}{k:Nat}{x:Int}(hM:M.length=k)(h:knZ f d M (dH n T)=(x,false)):foS f d (M,T) n=(M++[dH n T],T++[fsZ k (mO M (dH n T))]):=by
 simp[foS,nwI,nwT,h,hM]
theorem aEs (f d out:Int){a:Option Addr}{n cap:Nat}{L:List In}{W:World}(hL:Ins W a n cap L)(h:aW f d L out=0) :
  Calls Tryz.prog 326 #[.agg (cd f d a n cap out)] W fun e W'=>∃ a' c',e=.returned (.agg (cd f d a' n c' (foO f d L out)))/\W'.ownsRow W.heap.size 132 6 (.slice a' n c') n (dL (oZ f d L).1)/\Below W.heap.size W W':=by
 obtain⟨mc,-⟩:=Vfy.aI h
 obtain⟨-,m1,m2,o0,o1,-⟩:=Cde.aQ mc
 rw[hL.len] at m1 m2 o1
 obtain⟨o,rfl⟩:∃ o:Nat,out=o:=⟨out.toNat,by omega⟩
 obtain⟨cs1,hs1,hmk1⟩:=aC4 n (by omega)
 obtain⟨cs2,hs2,hmk2⟩:=aC6 n (by omega)
 have HLI:=aA hL
 have HLn:=aA hL.len
 have HOk:=aA fun k (hk:k < n)=>bAk h (k:=k) (by rw[hL.len];exact hk)
 have HSu:=aA fun k (hk:k < n)=>aEw f d (L:=L) (k:=k) (by rw[hL.len];exact hk)
 have HF0:Hid (Fb W ((((W.alloc (.cells (cd f d a n cap (o:Int)) 33)).alloc (.cells cO 33)).alloc (.cells cs1 132)).alloc (.cells cs2 3)) (cd f d a n cap (o:Int)) (.slice (some ⟨W.heap.size+1+1,0,none⟩) 0 n) (.slice (some ⟨W.heap.size+1+1+1,0,none⟩) 0 n) [] []):=by
  have b1:=aD W (.cells (cd f d a n cap (o:Int)) 33)
  have b2:=bel b1 (aD _ (.cells cO 33))
  have b3:=bel b2 (aD _ (.cells cs1 132))
  have b4:=bel b3 (aD _ (.cells cs2 3))
  have h1:=((aB.new W 33 (cd f d a n cap (o:Int))).alloc (.cells cO 33)).alloc (.cells cs1 132)
  have h2:=((aJ W (.cells (cd f d a n cap (o:Int)) 33) 33 cO).alloc (.cells cs1 132))
  have h3:=aB.new ((W.alloc (.cells (cd f d a n cap (o:Int)) 33)).alloc (.cells cO 33)) 132 cs1
  have h4:=aB.new (((W.alloc (.cells (cd f d a n cap (o:Int)) 33)).alloc (.cells cO 33)).alloc (.cells cs1 132)) 3 cs2
  rw[wSa,wSa] at h3
  rw[wSa,wSa,wSa] at h4
  exact⟨h1.alloc _,h2.alloc _,jQ (h3.alloc _) hs1 (by omega) (by omega),jQ h4 hs2 (by omega) (by omega),b4⟩
 clear hL h mc hs1 hs2
 go_enter Tryz.func326,Tryz.ntmps326
 go_wp2_with fail
 clear hmk1 hmk2
 go_loopw [3,4,21] (fun mv tv i wr=>∃(k gm cm gt ct:Nat) (M:List In) (T:List Int),k<=n/\i=.i k/\mv=.slice (some ⟨gm,0,none⟩) k cm/\tv=.slice (some ⟨gt,0,none⟩) k ct/\Hid (oZ f d (L.take k)=(M,T))/\Hid (M.length=k)/\Hid (T.length=k)/\Hid (Fb W wr (cd f d a n cap (o:Int)) (.slice (some ⟨gm,0,none⟩) k cm) (.slice (some ⟨gt,0,none⟩) k ct) M T)) (fun _ _ i _=>n-(intOf i).toNat)
 case atStart=>exact⟨0,_,_,_,_,[],[],nZl _,rfl,rfl,rfl,aA rfl,aA rfl,aA rfl,HF0⟩
 case round =>
  obtain⟨k,gm,cm,gt,ct,M,T,hk,rfl,rfl,rfl,HM,HMl,HTl,HF⟩:=hrel
  rename World=>V
  clear HF0
  by_cases hlt:k < n
  ·obtain⟨b,off,rfl,-,hat⟩:=(HLI.o.later HF.o.lo).at (by omega)
   obtain⟨e0,e1,e2,e3,e4,e5⟩:=hat k hlt
   clear hat
   have hi0:(0:Int)<=k:=by omega
   have hi1:(k:Int) < n:=by omega
   have hOk:=HOk.o k hlt
   have hSu:=HSu.o k hlt
   rw[HM.o] at hOk hSu
   have HOk2:=aA hOk
   generalize L.getD k i0=q at *
   have HY:=aA fun x (h:knZ f d M (dH q T)=(x,true))=>hSu.trans (aSy HMl.o h)
   have HNo:=aA fun x (h:knZ f d M (dH q T)=(x,false))=>hSu.trans (aW4 HMl.o h)
   have HC0:=aA (HF.o.with q)
   have HTh:=aA (gP q (HC0.o.f.ints HTl.o))
   clear hOk hSu
   go_wp2_with fail
   refine HTh.o.mono ?_
   rintro e V1 ⟨rfl,hb⟩
   have HC1:=aA (HC0.o.below hb)
   clear hb HC0 HTh e0 e1 e2 e3 e4 e5
   generalize dH q T=m at *
   generalize hgb:V.heap.size=gb at *
   have hb0:=HC1.o.hb
   have hb1:W.heap.size < gb:=by omega
   obtain⟨e0,e1,e2,e3,e4,e5⟩:=aH HC1.o.n
   obtain⟨r0,r1,r2,r3,r4,r5⟩:=aDv HC1.o.n
   obtain⟨c0,c1,c2,c3⟩:=aC HC1.o.f.c
   have HC2:=aA (HC1.o.put m)
   have HKn:=aA (aSx f d m (HC2.o.f.ins HMl.o) HOk2.o)
   obtain⟨⟨x,kb⟩,hX⟩:∃ X,knZ f d M m=X:=⟨_,rfl⟩
   rw[hX] at HKn
   have HX:=aA hX
   clear hX
   go_wp2_with fail
   refine HKn.o.mono ?_
   rintro e V2 ⟨rfl,hb⟩
   have HC3:=aA (HC2.o.below hb)
   clear hb HC2 HKn e0 e1 e2 e3 e4 e5 r0 r1 r2 r3 r4 r5 c0 c1 c2 c3
   obtain⟨e0,e1,e2,e3,e4,e5⟩:=aH HC3.o.n
   obtain⟨r0,r1,r2,r3,r4,r5⟩:=aDv HC3.o.n
   obtain⟨c0,c1,c2,c3⟩:=aC HC3.o.f.c
   cases kb
   ·have HZ:=aA (HNo.o x HX.o)
    have HSf:=aA (aS3 m (k:Int) (HC3.o.f.ins HMl.o) HOk2.o)
    generalize fsZ (k:Int) (mO M m)=z at *
    clear HY HNo HX
    go_wp2_with fail
    refine HSf.o.mono ?_
    rintro e V3 ⟨rfl,hb⟩
    have HC4:=aA (HC3.o.below hb)
    clear hb HSf e0 e1 e2 e3 e4 e5 r0 r1 r2 r3 r4 r5 c0 c1 c2 c3
    obtain⟨e0,e1,e2,e3,e4,e5⟩:=aH HC4.o.n
    have HN5:=aA (aB.new V3 132 (ia m))
    have HF5:=aA (HC4.o.f.below (aD V3 (.cells (ia m) 132)))
    go_wp2_with (first
     | (at_builtin;refine lG rfl _ _ rfl rfl HF5.o.m HF5.o.lo.size _ m rfl HN5.o (by rw[HMl.o];omega) ?_;intro g cap' w2 hown hgr;have HF6:=aA (HF5.o.growM hgr hown);have HF7:=aA (HF6.o.below (aD w2 (.cells #[.i z] 3)));have HN7:=aA (aB.new w2 3 #[.i z]);clear hown hgr e0 e1 e2 e3 e4 e5)
     | (at_builtin;refine iE rfl _ _ rfl rfl HF7.o.t HF7.o.lo.size _ z rfl HN7.o (by rw[HTl.o];omega) ?_;intro g2 cap2 w3 hown2 hgr2))
    have HF8:=aA (HF7.o.growT hgr2 hown2)
    clear hown2 hgr2
    rw[HMl.o,HTl.o] at HF8 ⊢
    go_wp2_with fail
    go_roundw
    case rel=>exact⟨k+1,_,_,_,_,M++[m],T++[z],by omega,by go_num,rfl,rfl,HZ,aA (by simp[HMl.o]),aA (by simp[HTl.o]),HF8⟩
    case measure=>simp[intOf];omega
   ·have HZ:=aA (HY.o x HX.o)
    clear HY HNo HX
    obtain⟨V4,hV4⟩:∃ V4,(((((V2.setCell ⟨gb,0,none⟩ (.i 1)).setCell ⟨gb,1,none⟩ (.i 0)).setCell ⟨gb,2,none⟩ (.i 0)).setCell ⟨gb,3,none⟩ (.i 0)).setCell ⟨gb,4,none⟩ (.i x)).setCell ⟨gb,5,none⟩ (.i 0)=V4:=⟨_,rfl⟩
    have HC4:Hid (Fc W V4 (cd f d (some ⟨b,off,none⟩) n cap (o:Int)) (.slice (some ⟨gm,0,none⟩) k cm) (.slice (some ⟨gt,0,none⟩) k ct) M T gb (nuI x)):=aA (by rw[<-hV4];exact HC3.o.put (nuI x))
    have HN5:Hid (aB (V4.alloc (.cells #[.i 1,.i 0,.i 0,.i 0,.i x,.i 0] 132)) V4.heap.size 132 (ia (nuI x))):=aA (aB.new V4 132 (ia (nuI x)))
    have HF5:Hid (Fb W (V4.alloc (.cells #[.i 1,.i 0,.i 0,.i 0,.i x,.i 0] 132)) (cd f d (some ⟨b,off,none⟩) n cap (o:Int)) (.slice (some ⟨gm,0,none⟩) k cm) (.slice (some ⟨gt,0,none⟩) k ct) M T):=aA (HC4.o.f.below (aD V4 (.cells (ia (nuI x)) 132)))
    go_upto_region 12 with fail
    clear hV4 HC3 e0 e1 e2 e3 e4 e5 r0 r1 r2 r3 r4 r5 c0 c1 c2 c3
    obtain⟨e0,e1,e2,e3,e4,e5⟩:=aH HC4.o.n
    dsimp only [nuI] at e0 e1 e2 e3 e4 e5
    go_wp2_with (first
     | (at_builtin;refine lG rfl _ _ rfl rfl HF5.o.m HF5.o.lo.size _ (nuI x) rfl HN5.o (by rw[HMl.o];omega) ?_;intro g cap' w2 hown hgr;have HF6:=aA (HF5.o.growM hgr hown);have HF7:=aA (HF6.o.below (aD w2 (.cells #[.i (k:Int)] 3)));have HN7:=aA (aB.new w2 3 #[.i (k:Int)]);clear hown hgr e0 e1 e2 e3 e4 e5)
     | (at_builtin;refine iE rfl _ _ rfl rfl HF7.o.t HF7.o.lo.size _ (k:Int) rfl HN7.o (by rw[HTl.o];omega) ?_;intro g2 cap2 w3 hown2 hgr2))
    have HF8:=aA (HF7.o.growT hgr2 hown2)
    clear hown2 hgr2
    rw[HMl.o,HTl.o] at HF8 ⊢
    go_wp2_with fail
    go_roundw
    case rel=>exact⟨k+1,_,_,_,_,M++[(nuI x)],T++[(k:Int)],by omega,by go_num,rfl,rfl,HZ,aA (by simp[HMl.o]),aA (by simp[HTl.o]),HF8⟩
    case measure=>simp[intOf];omega
  ·obtain rfl:k=n:=by omega
   have hM:=HM.o
   rw[lTl (by rw[HLn.o];exact nLr _)] at hM
   have HM2:=aA hM
   obtain⟨c0,c1,c2,c3⟩:=aC HF.o.c
   have hf0:=HF.o.o.frozen 0
   have hf1:=HF.o.o.frozen 1
   have hf2:=HF.o.o.frozen 2
   have hf3:=HF.o.o.frozen 3
   obtain⟨p0,p1,p2,p3⟩:=aC HF.o.o
   obtain⟨b2,o2,e2',-,hat⟩:=(HF.o.ints HTl.o).at (by omega)
   cases e2'
   have t0:=hat o (by omega)
   rw[nZa] at t0
   have hw0:W.heap.size < V.heap.size:=HF.o.c.lt
   have hw1:W.heap.size+1 < V.heap.size:=HF.o.o.lt
   have i0':(0:Int)<=o:=by omega
   have i1':(o:Int) < k:=by omega
   clear hat hM HM HOk HSu
   obtain⟨z,hz⟩:∃ z,T.getD o 0=z:=⟨_,rfl⟩
   rw[hz] at t0
   have HZ:=aA hz
   clear hz
   go_wp2_with fail
   go_region
   have hq:(Value.slice (some ⟨gm,0,none⟩) k cm).ownBlock≠some (W.heap.size+1):=own_ne HF.o.m HF.o.o (by decide)
   have HO5:=aA (((((HF.o.o.set 0 (.i f)).set 1 (.i d)).set 2 (.slice (some ⟨gm,0,none⟩) k cm)).set 3 (.i z)).below (aF _))
   have HM5:=aA ((ownsRow_setCell_other (ownsRow_setCell_other (ownsRow_setCell_other (ownsRow_setCell_other HF.o.m (a:=⟨W.heap.size+1,0,none⟩) hq (.i f)) (a:=⟨W.heap.size+1,1,none⟩) hq (.i d)) (a:=⟨W.heap.size+1,2,none⟩) hq (.slice (some ⟨gm,0,none⟩) k cm)) (a:=⟨W.heap.size+1,3,none⟩) hq (.i z)).drew)
   have HB5:=aA (((((HF.o.lo.setCell (p:=⟨W.heap.size+1,0,none⟩) (by simp) (.i f)).setCell (p:=⟨W.heap.size+1,1,none⟩) (by simp) (.i d)).setCell (p:=⟨W.heap.size+1,2,none⟩) (by simp) (.slice (some ⟨gm,0,none⟩) k cm)).setCell (p:=⟨W.heap.size+1,3,none⟩) (by simp) (.i z)).drew)
   obtain⟨V5,hV5⟩:∃ V5,((((V.setCell ⟨W.heap.size+1,0,none⟩ (.i f)).setCell ⟨W.heap.size+1,1,none⟩ (.i d)).setCell ⟨W.heap.size+1,2,none⟩ (.slice (some ⟨gm,0,none⟩) k cm)).setCell ⟨W.heap.size+1,3,none⟩ (.i z)).drew=V5:=⟨_,rfl⟩
   rw[hV5] at HO5 HM5 HB5 ⊢
   obtain⟨x0,x1,x2,x3⟩:=aC HO5.o
   rw[HMl.o] at HM5
   clear hV5 c0 c1 c2 c3 p0 p1 p2 p3 hf0 hf1 hf2 hf3 t0 hq
   go_wp2_with fail
   have HR:Hid ((oZ f d L).1=M/\foO f d L (o:Int)=z):=aA (by rw[foO,HM2.o];exact⟨rfl,HZ.o⟩)
   exact bPr (v:=.agg (cd f d (some ⟨gm,0,none⟩) k cm z)) (by simp[results,Tryz.results326,go_sem,x0,x1,x2,x3]) rfl ⟨_,_,by rw[HR.o.2],by rw[HR.o.1];exact HM5.o,HB5.o⟩
end Go.Proofs.Fld
