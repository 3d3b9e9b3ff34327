import Derived.Test.YticnbcfmbhjbgabGreatDoorXH
import Derived.Deep.RegionHeld3
import Derived.Deep.AppendLies
import Derived.Lib.SliceRun
import Derived.Test.YticnbcfmbhjbgabGreatDoorX22
set_option maxRecDepth 100000
set_option maxHeartbeats 32000000
set_option linter.unusedVariables false
namespace Go.Proofs.Fld
open Go.RowKit Go.IntWalk Knd
open Cde (In i0 ia kd cd Ins qW aH aI bG aF)
open YticnbcfmbhjbgabGreatDoor (aB)
variable {M:List In} {m:In}
theorem sD {V V':World}{g o:Nat}{v:Value}(hb:Below V.heap.size V V')(h:V.cell? ⟨g,o,none⟩=some v)(hg:g < V.heap.size):V'.cell? ⟨g,o,none⟩=some v:=(hb.cell (p:=⟨g,o,none⟩) hg).trans h
theorem aWe:Tryz.prog.follows .mixedOrders=true:=by kernel_rfl
theorem bAf (h:m.op=8\/m.op=17):lI M m=[(isN M m.a 0,m.b),(isN M m.b 0,m.a)]:=by unfold lI;rw[if_pos h]
theorem bAg (h:m.op=10):lI M m=[(isN M m.a 1,m.b),(isN M m.b 1,m.a)]:=by unfold lI;rw[if_neg (by omega),if_pos h]
theorem bAh (h:m.op=16):lI M m=[(m.a==m.b,m.a),(isN M m.a 0,m.b),(isN M m.b 0,m.a)]:=by unfold lI;rw[if_neg (by omega),if_neg (by omega),if_pos h]
theorem bAi (h:m.op=15):lI M m=[(m.a==m.b,m.a),(isN M m.a (-1),m.b),(isN M m.b (-1),m.a)]:=by unfold lI;rw[if_neg (by omega),if_neg (by omega),if_neg (by omega),if_pos h]
theorem bAj (h:m.op=24\/m.op=25):lI M m=[(m.a==m.b,m.a)]:=by unfold lI;rw[if_neg (by omega),if_neg (by omega),if_neg (by omega),if_neg (by omega),if_pos h]
theorem bAk (h:m.op=9\/m.op=13\/m.op=14):lI M m=[(isN M m.b 0,m.a)]:=by unfold lI;rw[if_neg (by omega),if_neg (by omega),if_neg (by omega),if_neg (by omega),if_neg (by omega),if_pos h]
theorem bAl (h:m.op=11):lI M m=[(isN M m.b 1,m.a)]:=by unfold lI;rw[if_neg (by omega),if_neg (by omega),if_neg (by omega),if_neg (by omega),if_neg (by omega),if_neg (by omega),if_pos h]
theorem bAm (h:m.op=29\/m.op=30):lI M m=[(m.k==0,m.a)]:=by unfold lI;rw[if_neg (by omega),if_neg (by omega),if_neg (by omega),if_neg (by omega),if_neg (by omega),if_neg (by omega),if_neg (by omega),if_pos h]
theorem bAn (h:m.op=32):lI M m=[(m.k==1,m.a)]:=by unfold lI;rw[if_neg (by omega),if_neg (by omega),if_neg (by omega),if_neg (by omega),if_neg (by omega),if_neg (by omega),if_neg (by omega),if_neg (by omega),if_pos h]
theorem bAo (h:m.op=5):lI M m=[((rg M m.a).op==5,(rg M m.a).a)]:=by unfold lI;rw[if_neg (by omega),if_neg (by omega),if_neg (by omega),if_neg (by omega),if_neg (by omega),if_neg (by omega),if_neg (by omega),if_neg (by omega),if_neg (by omega),if_pos h]
theorem aYq (h:m.op=6):lI M m=[((rg M m.a).op==6,m.a)]:=by unfold lI;rw[if_neg (by omega),if_neg (by omega),if_neg (by omega),if_neg (by omega),if_neg (by omega),if_neg (by omega),if_neg (by omega),if_neg (by omega),if_neg (by omega),if_neg (by omega),if_pos h]
theorem aYr (h:m.op=28):lI M m=[(isN M m.a 0,m.c),((rg M m.a).op==1,m.b),(m.b==m.c,m.b)]:=by unfold lI;rw[if_neg (by omega),if_neg (by omega),if_neg (by omega),if_neg (by omega),if_neg (by omega),if_neg (by omega),if_neg (by omega),if_neg (by omega),if_neg (by omega),if_neg (by omega),if_neg (by omega),if_pos h]
theorem aYs (h:m.op=27):lI M m=[(m.a==m.b || m.a==m.c,m.a),(m.b==m.c,m.b)]:=by unfold lI;rw[if_neg (by omega),if_neg (by omega),if_neg (by omega),if_neg (by omega),if_neg (by omega),if_neg (by omega),if_neg (by omega),if_neg (by omega),if_neg (by omega),if_neg (by omega),if_neg (by omega),if_neg (by omega),if_pos h]
theorem aYt (h:m.op=26):lI M m=[(m.b==m.c,m.b)]:=by unfold lI;rw[if_neg (by omega),if_neg (by omega),if_neg (by omega),if_neg (by omega),if_neg (by omega),if_neg (by omega),if_neg (by omega),if_neg (by omega),if_neg (by omega),if_neg (by omega),if_neg (by omega),if_neg (by omega),if_neg (by omega),if_pos h]
theorem aRk (m:In)(own:Int){va:Option Addr}{vn vc:Nat}{W:World}(hM:Ins W va vn vc M)(ho:bG m vn=true) :
  Calls Tryz.prog 297 #[.slice va vn vc,.agg (ia m),.i own] W fun e W'=>e=.returned (.i (zR own (lI M m)))/\Below W.heap.size W W':=by
 have hb1:=aD W (.cells (ia m) 76)
 have HB:=aA hb1
 have HM:=aA (hM.later hb1)
 have hs:=hM.short
 have hin:=fun r=>mD ho (r:=r)
 have HN:=aA (aB.new W 76 (ia m))
 clear hM ho hb1
 obtain⟨R,hR⟩:∃ R,zR own (lI M m)=R:=⟨_,rfl⟩
 rw[hR]
 go_enter Tryz.func297,Tryz.ntmps297
 go_wp2_with fail
 obtain⟨V,hV⟩:∃ V,W.alloc (.cells (ia m) 76)=V:=⟨_,rfl⟩
 rw[hV] at HB HN HM ⊢
 obtain⟨e0,e1,e2,e3,e4,e5⟩:=aH HN.o
 have y1:=cell_regrown e1
 have y2:=cell_regrown e2
 have y3:=cell_regrown e3
 refine wp_region_quiet_below aWe (by kernel_rfl) ?_
 repeat (go_big_quiet_step (fail))
 refine wpQuiet_nil ?_
 intro V2 hw'
 obtain⟨⟨dq,osq⟩,hw''⟩:=hw'
 have hb:=below_regrown V dq osq
 simp only at hw''
 rw[<-hw''] at hb
 clear hw'' y1 y2 y3 e0 e1 e2 e3 e4 e5 hV
 have HB2:=aA (bel HB.o hb)
 have HN2:=aA (HN.o.below hb)
 have HM2:=aA (HM.o.later hb)
 have HI:=aA fun r k (h:dU r vn)=>aHw r k HM2.o h
 clear hb HB HN HM
 by_cases h0:m.op=8\/m.op=17
 ·rw[bAf h0] at hR
  have ha:ar m.op=2:=by rcases h0 with e|e <;> rw[e] <;> decide
  have ia:=hin m.a (by rw[iW ha];simp)
  have ib:=hin m.b (by rw[iW ha];simp)
  obtain⟨op,a,b,c,k,s⟩:=m
  dsimp only at h0 ha ia ib HN2 hR ⊢
  obtain⟨e0,e1,e2,e3,e4,e5⟩:=aH HN2.o
  clear hin  ha
  have HJ1:=aA (HI.o a 0 ia)
  generalize isN M a 0=x0 at *
  have HJ2:=aA (HI.o b 0 ib)
  generalize isN M b 0=x1 at *
  have HR:=aA hR
  clear hR
  rcases h0 with rfl|rfl 
  all_goals
   go_wp2_with fail
   refine HJ1.o.mono ?_
   rintro e w' ⟨rfl,rfl⟩
   go_wp2_with fail
   refine HJ2.o.mono ?_
   rintro e w' ⟨rfl,rfl⟩
   go_wp2_with fail
   refine(bN own (n:=2) (L:=[(x0,b),(x1,a)]) (aB.new _ _ _) rfl (by decide)).mono ?_
   rintro e V3 ⟨rfl,hb⟩
   have HB3:=aA (bel (bel HB2.o (aD _ _)) hb)
   clear hb
   go_wp2_with fail
   go_ret
   exact⟨aN HR.o,HB3.o⟩
 by_cases h1:m.op=10
 ·rw[bAg h1] at hR
  have ha:ar m.op=2:=by rw[h1];decide
  have ia:=hin m.a (by rw[iW ha];simp)
  have ib:=hin m.b (by rw[iW ha];simp)
  obtain⟨op,a,b,c,k,s⟩:=m
  dsimp only at h1 ha ia ib HN2 hR ⊢
  obtain⟨e0,e1,e2,e3,e4,e5⟩:=aH HN2.o
  clear hin h0 ha
  have HJ1:=aA (HI.o a 1 ia)
  generalize isN M a 1=x0 at *
  have HJ2:=aA (HI.o b 1 ib)
  generalize isN M b 1=x1 at *
  have HR:=aA hR
  clear hR
  subst h1
  go_wp2_with fail
  refine HJ1.o.mono ?_
  rintro e w' ⟨rfl,rfl⟩
  go_wp2_with fail
  refine HJ2.o.mono ?_
  rintro e w' ⟨rfl,rfl⟩
  go_wp2_with fail
  refine(bN own (n:=2) (L:=[(x0,b),(x1,a)]) (aB.new _ _ _) rfl (by decide)).mono ?_
  rintro e V3 ⟨rfl,hb⟩
  have HB3:=aA (bel (bel HB2.o (aD _ _)) hb)
  clear hb
  go_wp2_with fail
  go_ret
  exact⟨aN HR.o,HB3.o⟩
 by_cases h2:m.op=16
 ·rw[bAh h2] at hR
  have ha:ar m.op=2:=by rw[h2];decide
  have ia:=hin m.a (by rw[iW ha];simp)
  have ib:=hin m.b (by rw[iW ha];simp)
  obtain⟨op,a,b,c,k,s⟩:=m
  dsimp only at h2 ha ia ib HN2 hR ⊢
  obtain⟨e0,e1,e2,e3,e4,e5⟩:=aH HN2.o
  clear hin h0 h1 ha
  have HJ1:=aA (HI.o a 0 ia)
  generalize isN M a 0=x0 at *
  have HJ2:=aA (HI.o b 0 ib)
  generalize isN M b 0=x1 at *
  have HR:=aA hR
  clear hR
  subst h2
  go_wp2_with fail
  refine HJ1.o.mono ?_
  rintro e w' ⟨rfl,rfl⟩
  go_wp2_with fail
  refine HJ2.o.mono ?_
  rintro e w' ⟨rfl,rfl⟩
  go_wp2_with fail
  refine(bN own (n:=3) (L:=[(a==b,a),(x0,b),(x1,a)]) (aB.new _ _ _) rfl (by decide)).mono ?_
  rintro e V3 ⟨rfl,hb⟩
  have HB3:=aA (bel (bel HB2.o (aD _ _)) hb)
  clear hb
  go_wp2_with fail
  go_ret
  exact⟨aN HR.o,HB3.o⟩
 by_cases h3:m.op=15
 ·rw[bAi h3] at hR
  have ha:ar m.op=2:=by rw[h3];decide
  have ia:=hin m.a (by rw[iW ha];simp)
  have ib:=hin m.b (by rw[iW ha];simp)
  obtain⟨op,a,b,c,k,s⟩:=m
  dsimp only at h3 ha ia ib HN2 hR ⊢
  obtain⟨e0,e1,e2,e3,e4,e5⟩:=aH HN2.o
  clear hin h0 h1 h2 ha
  have HJ1:=aA (HI.o a (-1) ia)
  generalize isN M a (-1)=x0 at *
  have HJ2:=aA (HI.o b (-1) ib)
  generalize isN M b (-1)=x1 at *
  have HR:=aA hR
  clear hR
  subst h3
  go_wp2_with fail
  refine HJ1.o.mono ?_
  rintro e w' ⟨rfl,rfl⟩
  go_wp2_with fail
  refine HJ2.o.mono ?_
  rintro e w' ⟨rfl,rfl⟩
  go_wp2_with fail
  refine(bN own (n:=3) (L:=[(a==b,a),(x0,b),(x1,a)]) (aB.new _ _ _) rfl (by decide)).mono ?_
  rintro e V3 ⟨rfl,hb⟩
  have HB3:=aA (bel (bel HB2.o (aD _ _)) hb)
  clear hb
  go_wp2_with fail
  go_ret
  exact⟨aN HR.o,HB3.o⟩
 by_cases h4:m.op=24\/m.op=25
 ·rw[bAj h4] at hR
  have ha:ar m.op=2:=by rcases h4 with e|e <;> rw[e] <;> decide
  have ia:=hin m.a (by rw[iW ha];simp)
  have ib:=hin m.b (by rw[iW ha];simp)
  obtain⟨op,a,b,c,k,s⟩:=m
  dsimp only at h4 ha ia ib HN2 hR ⊢
  obtain⟨e0,e1,e2,e3,e4,e5⟩:=aH HN2.o
  clear hin h0 h1 h2 h3 ha
  have HR:=aA hR
  clear hR
  rcases h4 with rfl|rfl 
  all_goals
   go_wp2_with fail
   refine(bN own (n:=1) (L:=[(a==b,a)]) (aB.new _ _ _) rfl (by decide)).mono ?_
   rintro e V3 ⟨rfl,hb⟩
   have HB3:=aA (bel (bel HB2.o (aD _ _)) hb)
   clear hb
   go_wp2_with fail
   go_ret
   exact⟨aN HR.o,HB3.o⟩
 by_cases h5:m.op=9\/m.op=13\/m.op=14
 ·rw[bAk h5] at hR
  have ha:ar m.op=2:=by rcases h5 with e|e|e <;> rw[e] <;> decide
  have ia:=hin m.a (by rw[iW ha];simp)
  have ib:=hin m.b (by rw[iW ha];simp)
  obtain⟨op,a,b,c,k,s⟩:=m
  dsimp only at h5 ha ia ib HN2 hR ⊢
  obtain⟨e0,e1,e2,e3,e4,e5⟩:=aH HN2.o
  clear hin h0 h1 h2 h3 h4 ha
  have HJ1:=aA (HI.o b 0 ib)
  generalize isN M b 0=x0 at *
  have HR:=aA hR
  clear hR
  rcases h5 with rfl|rfl|rfl 
  all_goals
   go_wp2_with fail
   refine HJ1.o.mono ?_
   rintro e w' ⟨rfl,rfl⟩
   go_wp2_with fail
   refine(bN own (n:=1) (L:=[(x0,a)]) (aB.new _ _ _) rfl (by decide)).mono ?_
   rintro e V3 ⟨rfl,hb⟩
   have HB3:=aA (bel (bel HB2.o (aD _ _)) hb)
   clear hb
   go_wp2_with fail
   go_ret
   exact⟨aN HR.o,HB3.o⟩
 by_cases h6:m.op=11
 ·rw[bAl h6] at hR
  have ha:ar m.op=2:=by rw[h6];decide
  have ia:=hin m.a (by rw[iW ha];simp)
  have ib:=hin m.b (by rw[iW ha];simp)
  obtain⟨op,a,b,c,k,s⟩:=m
  dsimp only at h6 ha ia ib HN2 hR ⊢
  obtain⟨e0,e1,e2,e3,e4,e5⟩:=aH HN2.o
  clear hin h0 h1 h2 h3 h4 h5 ha
  have HJ1:=aA (HI.o b 1 ib)
  generalize isN M b 1=x0 at *
  have HR:=aA hR
  clear hR
  subst h6
  go_wp2_with fail
  refine HJ1.o.mono ?_
  rintro e w' ⟨rfl,rfl⟩
  go_wp2_with fail
  refine(bN own (n:=1) (L:=[(x0,a)]) (aB.new _ _ _) rfl (by decide)).mono ?_
  rintro e V3 ⟨rfl,hb⟩
  have HB3:=aA (bel (bel HB2.o (aD _ _)) hb)
  clear hb
  go_wp2_with fail
  go_ret
  exact⟨aN HR.o,HB3.o⟩
 by_cases h7:m.op=29\/m.op=30
 ·rw[bAm h7] at hR
  have ha:ar m.op=1:=by rcases h7 with e|e <;> rw[e] <;> decide
  have ia:=hin m.a (by rw[wK ha];simp)
  obtain⟨op,a,b,c,k,s⟩:=m
  dsimp only at h7 ha ia HN2 hR ⊢
  obtain⟨e0,e1,e2,e3,e4,e5⟩:=aH HN2.o
  clear hin h0 h1 h2 h3 h4 h5 h6 ha
  have HR:=aA hR
  clear hR
  rcases h7 with rfl|rfl 
  all_goals
   go_wp2_with fail
   refine(bN own (n:=1) (L:=[(k==0,a)]) (aB.new _ _ _) rfl (by decide)).mono ?_
   rintro e V3 ⟨rfl,hb⟩
   have HB3:=aA (bel (bel HB2.o (aD _ _)) hb)
   clear hb
   go_wp2_with fail
   go_ret
   exact⟨aN HR.o,HB3.o⟩
 by_cases h8:m.op=32
 ·rw[bAn h8] at hR
  have ha:ar m.op=1:=by rw[h8];decide
  have ia:=hin m.a (by rw[wK ha];simp)
  obtain⟨op,a,b,c,k,s⟩:=m
  dsimp only at h8 ha ia HN2 hR ⊢
  obtain⟨e0,e1,e2,e3,e4,e5⟩:=aH HN2.o
  clear hin h0 h1 h2 h3 h4 h5 h6 h7 ha
  have HR:=aA hR
  clear hR
  subst h8
  go_wp2_with fail
  refine(bN own (n:=1) (L:=[(k==1,a)]) (aB.new _ _ _) rfl (by decide)).mono ?_
  rintro e V3 ⟨rfl,hb⟩
  have HB3:=aA (bel (bel HB2.o (aD _ _)) hb)
  clear hb
  go_wp2_with fail
  go_ret
  exact⟨aN HR.o,HB3.o⟩
 by_cases h9:m.op=5
 ·rw[bAo h9] at hR
  have ha:ar m.op=1:=by rw[h9];decide
  have ia:=hin m.a (by rw[wK ha];simp)
  obtain⟨ja,hja⟩:∃ k:Nat,m.a=k:=⟨m.a.toNat,by have:=ia.1;omega⟩
  have hj:ja < vn:=by have:=ia.2;omega
  obtain⟨g,off,rfl,hgl,hat⟩:=HM2.o.at (by omega)
  obtain⟨c0,c1,-,-,-,-⟩:=hat ja hj
  obtain⟨op,a,b,c,k,s⟩:=m
  dsimp only at h9 ha ia HN2 hR ⊢
  dsimp only at hja
  subst hja
  unfold rg at hR
  rw[iTn] at hR
  obtain⟨e0,e1,e2,e3,e4,e5⟩:=aH HN2.o
  clear hin h0 h1 h2 h3 h4 h5 h6 h7 h8 ha
  have HR:=aA hR
  clear hR
  subst h9
  have i0':(0:Int)<=ja:=by omega
  have i1':(ja:Int) < vn:=by omega
  generalize M.getD ja i0=z at *
  clear hat ia
  go_wp2_with fail
  have HF:=aA (bN own (n:=1) (g:=V2.heap.size) (W:=((V2.alloc (.cells #[.bool (z.op==5),.i z.a] 344)).drew)) (L:=[(z.op==5,z.a)]) ((aB.new V2 344 #[.bool (z.op==5),.i z.a]).below (aF _)) rfl (by decide))
  have hbx:Below V2.heap.size V2 ((V2.alloc (.cells #[.bool (z.op==5),.i z.a] 344)).drew):=bel (aD V2 _) (aF _)
  have HK0:=aA fun V3 (hb:Below ((V2.alloc (.cells #[.bool (z.op==5),.i z.a] 344)).drew).heap.size ((V2.alloc (.cells #[.bool (z.op==5),.i z.a] 344)).drew) V3)=>sD (bel hbx hb) c0 hgl
  have HK1:=aA fun V3 (hb:Below ((V2.alloc (.cells #[.bool (z.op==5),.i z.a] 344)).drew).heap.size ((V2.alloc (.cells #[.bool (z.op==5),.i z.a] 344)).drew) V3)=>sD (bel hbx hb) c1 hgl
  have HK2:=aA fun V3 (hb:Below ((V2.alloc (.cells #[.bool (z.op==5),.i z.a] 344)).drew).heap.size ((V2.alloc (.cells #[.bool (z.op==5),.i z.a] 344)).drew) V3)=>aA (bel HB2.o (bel hbx hb))
  clear hbx
  go_region_held3 (fun w'=>w'.cell? ⟨g,off+ja*6,none⟩=some (.i z.op)/\w'.cell? ⟨g,off+ja*6+1,none⟩=some (.i z.a))
   (first|exact⟨c0,c1⟩|exact⟨k0,k1⟩|go_keep)
   ((first
    | (go_at_call 316;refine HF.o.mono ?_;rintro e V3 ⟨rfl,hb⟩;have k0:=HK0.o V3 hb;have k1:=HK1.o V3 hb;have HB3:=HK2.o V3 hb)))
  all_goals
   clear k0 k1 hb
   go_wp2_with fail
   go_ret
   exact⟨aN HR.o,HB3.o⟩
 by_cases h10:m.op=6
 ·rw[aYq h10] at hR
  have ha:ar m.op=1:=by rw[h10];decide
  have ia:=hin m.a (by rw[wK ha];simp)
  obtain⟨ja,hja⟩:∃ k:Nat,m.a=k:=⟨m.a.toNat,by have:=ia.1;omega⟩
  have hj:ja < vn:=by have:=ia.2;omega
  obtain⟨g,off,rfl,hgl,hat⟩:=HM2.o.at (by omega)
  obtain⟨c0,c1,-,-,-,-⟩:=hat ja hj
  obtain⟨op,a,b,c,k,s⟩:=m
  dsimp only at h10 ha ia HN2 hR ⊢
  dsimp only at hja
  subst hja
  unfold rg at hR
  rw[iTn] at hR
  obtain⟨e0,e1,e2,e3,e4,e5⟩:=aH HN2.o
  clear hin h0 h1 h2 h3 h4 h5 h6 h7 h8 h9 ha
  have HR:=aA hR
  clear hR
  subst h10
  have i0':(0:Int)<=ja:=by omega
  have i1':(ja:Int) < vn:=by omega
  generalize M.getD ja i0=z at *
  clear hat ia
  go_wp2_with fail
  refine(bN own (n:=1) (L:=[(z.op==6,(ja:Int))]) (aB.new _ _ _) rfl (by decide)).mono ?_
  rintro e V3 ⟨rfl,hb⟩
  have HB3:=aA (bel (bel HB2.o (aD _ _)) hb)
  clear hb
  go_wp2_with fail
  go_ret
  exact⟨aN HR.o,HB3.o⟩
 by_cases h11:m.op=28
 ·rw[aYr h11] at hR
  have ha:ar m.op=3:=by rw[h11];decide
  have ia:=hin m.a (by rw[nO ha];simp)
  have ib:=hin m.b (by rw[nO ha];simp)
  have ic:=hin m.c (by rw[nO ha];simp)
  obtain⟨ja,hja⟩:∃ k:Nat,m.a=k:=⟨m.a.toNat,by have:=ia.1;omega⟩
  have hj:ja < vn:=by have:=ia.2;omega
  obtain⟨g,off,rfl,hgl,hat⟩:=HM2.o.at (by omega)
  obtain⟨c0,-,-,-,c4,-⟩:=hat ja hj
  obtain⟨op,a,b,c,k,s⟩:=m
  dsimp only at h11 ha ia ib ic HN2 hR ⊢
  dsimp only at hja
  subst hja
  unfold isN rg at hR
  rw[iTn] at hR
  obtain⟨e0,e1,e2,e3,e4,e5⟩:=aH HN2.o
  clear hin h0 h1 h2 h3 h4 h5 h6 h7 h8 h9 h10 ha
  have HR:=aA hR
  clear hR
  subst h11
  have i0':(0:Int)<=ja:=by omega
  have i1':(ja:Int) < vn:=by omega
  generalize M.getD ja i0=z at *
  clear hat ia
  go_wp2_with fail
  have HF:=aA (bN own (n:=3) (g:=V2.heap.size) (W:=((V2.alloc (.cells #[.bool (z.op==1&&z.k==0),.i c,.bool (z.op==1),.i b,.bool (b==c),.i b] 344)).drew)) (L:=[(z.op==1&&z.k==0,c),(z.op==1,b),(b==c,b)]) ((aB.new V2 344 #[.bool (z.op==1&&z.k==0),.i c,.bool (z.op==1),.i b,.bool (b==c),.i b]).below (aF _)) rfl (by decide))
  have hbx:Below V2.heap.size V2 ((V2.alloc (.cells #[.bool (z.op==1&&z.k==0),.i c,.bool (z.op==1),.i b,.bool (b==c),.i b] 344)).drew):=bel (aD V2 _) (aF _)
  have HK0:=aA fun V3 (hb:Below ((V2.alloc (.cells #[.bool (z.op==1&&z.k==0),.i c,.bool (z.op==1),.i b,.bool (b==c),.i b] 344)).drew).heap.size ((V2.alloc (.cells #[.bool (z.op==1&&z.k==0),.i c,.bool (z.op==1),.i b,.bool (b==c),.i b] 344)).drew) V3)=>sD (bel hbx hb) c0 hgl
  have HK1:=aA fun V3 (hb:Below ((V2.alloc (.cells #[.bool (z.op==1&&z.k==0),.i c,.bool (z.op==1),.i b,.bool (b==c),.i b] 344)).drew).heap.size ((V2.alloc (.cells #[.bool (z.op==1&&z.k==0),.i c,.bool (z.op==1),.i b,.bool (b==c),.i b] 344)).drew) V3)=>sD (bel hbx hb) c4 hgl
  have HK2:=aA fun V3 (hb:Below ((V2.alloc (.cells #[.bool (z.op==1&&z.k==0),.i c,.bool (z.op==1),.i b,.bool (b==c),.i b] 344)).drew).heap.size ((V2.alloc (.cells #[.bool (z.op==1&&z.k==0),.i c,.bool (z.op==1),.i b,.bool (b==c),.i b] 344)).drew) V3)=>aA (bel HB2.o (bel hbx hb))
  clear hbx
  go_region_held3 (fun w'=>w'.cell? ⟨g,off+ja*6,none⟩=some (.i z.op)/\w'.cell? ⟨g,off+ja*6+4,none⟩=some (.i z.k))
   (first|exact⟨c0,c4⟩|exact⟨k0,k1⟩|go_keep)
   ((first
    | (go_at_call 317;refine(aD2 0 hj (by first | exact c0 | go_keep) (by first | exact c4 | go_keep) hs).mono ?_;rintro e w2 ⟨rfl,rfl⟩)
    | (go_at_call 316;refine HF.o.mono ?_;rintro e V3 ⟨rfl,hb⟩;have k0:=HK0.o V3 hb;have k1:=HK1.o V3 hb;have HB3:=HK2.o V3 hb)))
  all_goals
   clear k0 k1 hb
   go_wp2_with fail
   go_ret
   exact⟨aN HR.o,HB3.o⟩
 by_cases h12:m.op=27
 ·rw[aYs h12] at hR
  have ha:ar m.op=3:=by rw[h12];decide
  have ia:=hin m.a (by rw[nO ha];simp)
  have ib:=hin m.b (by rw[nO ha];simp)
  have ic:=hin m.c (by rw[nO ha];simp)
  obtain⟨op,a,b,c,k,s⟩:=m
  dsimp only at h12 ha ia ib ic HN2 hR ⊢
  obtain⟨e0,e1,e2,e3,e4,e5⟩:=aH HN2.o
  clear hin h0 h1 h2 h3 h4 h5 h6 h7 h8 h9 h10 h11 ha
  have HR:=aA hR
  clear hR
  subst h12
  cases hx:(a==b)
  ·go_wp2_with fail
   refine(bN own (n:=2) (L:=[(a==c,a),(b==c,b)]) (aB.new _ _ _) rfl (by decide)).mono ?_
   rintro e V3 ⟨rfl,hb⟩
   have HB3:=aA (bel (bel HB2.o (aD _ _)) hb)
   clear hb
   go_wp2_with fail
   go_ret
   exact⟨aN (by have:=HR.o;rw[hx] at this;exact this),HB3.o⟩
  ·go_wp2_with fail
   refine(bN own (n:=2) (L:=[(true,a),(b==c,b)]) (aB.new _ _ _) rfl (by decide)).mono ?_
   rintro e V3 ⟨rfl,hb⟩
   have HB3:=aA (bel (bel HB2.o (aD _ _)) hb)
   clear hb
   go_wp2_with fail
   go_ret
   exact⟨aN (by have:=HR.o;rw[hx] at this;exact this),HB3.o⟩
 by_cases h13:m.op=26
 ·rw[aYt h13] at hR
  have ha:ar m.op=3:=by rw[h13];decide
  have ia:=hin m.a (by rw[nO ha];simp)
  have ib:=hin m.b (by rw[nO ha];simp)
  have ic:=hin m.c (by rw[nO ha];simp)
  obtain⟨op,a,b,c,k,s⟩:=m
  dsimp only at h13 ha ia ib ic HN2 hR ⊢
  obtain⟨e0,e1,e2,e3,e4,e5⟩:=aH HN2.o
  clear hin h0 h1 h2 h3 h4 h5 h6 h7 h8 h9 h10 h11 h12 ha
  have HR:=aA hR
  clear hR
  subst h13
  go_wp2_with fail
  refine(bN own (n:=1) (L:=[(b==c,b)]) (aB.new _ _ _) rfl (by decide)).mono ?_
  rintro e V3 ⟨rfl,hb⟩
  have HB3:=aA (bel (bel HB2.o (aD _ _)) hb)
  clear hb
  go_wp2_with fail
  go_ret
  exact⟨aN HR.o,HB3.o⟩
 ·rw[show lI M m=[] by unfold lI;rw[if_neg h0,if_neg h1,if_neg h2,if_neg h3,if_neg h4,if_neg h5,if_neg h6,if_neg h7,if_neg h8,if_neg h9,if_neg h10,if_neg h11,if_neg h12,if_neg h13]] at hR
  obtain⟨op,a,b,c,k,s⟩:=m
  dsimp only at *
  have q5:(op==5)=false:=by simp;omega
  have q6:(op==6)=false:=by simp;omega
  have q8:(op==8)=false:=by simp;omega
  have q9:(op==9)=false:=by simp;omega
  have q10:(op==10)=false:=by simp;omega
  have q11:(op==11)=false:=by simp;omega
  have q13:(op==13)=false:=by simp;omega
  have q14:(op==14)=false:=by simp;omega
  have q15:(op==15)=false:=by simp;omega
  have q16:(op==16)=false:=by simp;omega
  have q17:(op==17)=false:=by simp;omega
  have q24:(op==24)=false:=by simp;omega
  have q25:(op==25)=false:=by simp;omega
  have q26:(op==26)=false:=by simp;omega
  have q27:(op==27)=false:=by simp;omega
  have q28:(op==28)=false:=by simp;omega
  have q29:(op==29)=false:=by simp;omega
  have q30:(op==30)=false:=by simp;omega
  have q32:(op==32)=false:=by simp;omega
  obtain⟨e0,e1,e2,e3,e4,e5⟩:=aH HN2.o
  clear hin HI h0 h1 h2 h3 h4 h5 h6 h7 h8 h9 h10 h11 h12 h13
  go_wp2_with fail
  go_ret
  exact⟨aN hR,HB2.o⟩
end Go.Proofs.Fld
namespace Go.Proofs.Fld
open Go.RowKit Go.IntWalk Knd
open Cde (In i0 ia kd cd Ins qW aH aC aP aI bG dY aF cZ i6 zA aG)
open YticnbcfmbhjbgabGreatDoor (aB)
variable {L M:List In} {V W w w':World} {b base c n size:Nat} {mv tv v:Value} {a:Option Addr} {e t:TypeId} {xs:List Value} {cs cv:Array Value} {T:List Int}
theorem aRe (f d:Int)(m:In){va:Option Addr}{vn vc:Nat}(hM:Ins W va vn vc M)(ho:bG m vn=true) :
  Calls Tryz.prog 296 #[.slice va vn vc,.agg (kd f d),.agg (ia m)] W fun e W'=>e=.returned (.tuple #[.i (knZ f d M m).1,.bool (knZ f d M m).2])/\Below W.heap.size W W':=by
 have hb2:=bel (aD W (.cells (kd f d) 35)) (aD (W.alloc (.cells (kd f d) 35)) (.cells (ia m) 76))
 have HB:=aA hb2
 have HM:=aA (hM.later hb2)
 have HN:=aA (aI W (.cells (kd f d) 35) 76 (ia m))
 have HBn:=aA fun V=>aF6 f d m V
 have HRk:=aA fun V (h:Ins V va vn vc M)=>aRh m h ho
 have HSe:=aA fun V (h:Ins V va vn vc M)=>aRj m h ho
 unfold knZ
 generalize bnZ f d m=X at *
 generalize rkZ M m=Y at *
 generalize stZ M m=Z at *
 obtain⟨X1,X2⟩:=X
 obtain⟨Y1,Y2⟩:=Y
 obtain⟨Z1,Z2⟩:=Z
 clear hM ho hb2
 dsimp only at *
 cases X2
 ·rw[if_neg (by decide)]
  cases Y2
  ·rw[if_neg (by decide)]
   go_enter Tryz.func296,Tryz.ntmps296
   go_wp2_with fail
   refine(HBn.o _).mono ?_
   rintro e V1 ⟨rfl,hb⟩
   have HB1:=aA (bel HB.o hb)
   have HM1:=aA (HM.o.later hb)
   have HN1:=aA (HN.o.below hb)
   obtain⟨e0,e1,e2,e3,e4,e5⟩:=aH HN1.o
   clear hb
   go_wp2_with fail
   refine(HRk.o _ HM1.o).mono ?_
   rintro e V2 ⟨rfl,hb⟩
   have HB2:=aA (bel HB1.o hb)
   have HM2:=aA (HM1.o.later hb)
   have HN2:=aA (HN1.o.below hb)
   clear hb e0 e1 e2 e3 e4 e5
   obtain⟨e0,e1,e2,e3,e4,e5⟩:=aH HN2.o
   go_wp2_with fail
   refine(HSe.o _ HM2.o).mono ?_
   rintro e V3 ⟨rfl,hb⟩
   have HB3:=aA (bel HB2.o hb)
   clear hb e0 e1 e2 e3 e4 e5
   go_wp2_with fail
   exact bPr (v:=.tuple #[.i Z1,.bool Z2]) (by simp[results,Tryz.results296,go_sem]) rfl ⟨rfl,HB3.o⟩
  ·rw[if_pos rfl]
   go_enter Tryz.func296,Tryz.ntmps296
   go_wp2_with fail
   refine(HBn.o _).mono ?_
   rintro e V1 ⟨rfl,hb⟩
   have HB1:=aA (bel HB.o hb)
   have HM1:=aA (HM.o.later hb)
   have HN1:=aA (HN.o.below hb)
   obtain⟨e0,e1,e2,e3,e4,e5⟩:=aH HN1.o
   clear hb
   go_wp2_with fail
   refine(HRk.o _ HM1.o).mono ?_
   rintro e V2 ⟨rfl,hb⟩
   have HB2:=aA (bel HB1.o hb)
   clear hb e0 e1 e2 e3 e4 e5
   go_wp2_with fail
   exact bPr (v:=.tuple #[.i Y1,.bool true]) (by simp[results,Tryz.results296,go_sem]) rfl ⟨rfl,HB2.o⟩
 ·rw[if_pos rfl]
  go_enter Tryz.func296,Tryz.ntmps296
  go_wp2_with fail
  refine(HBn.o _).mono ?_
  rintro e V1 ⟨rfl,hb⟩
  have HB1:=aA (bel HB.o hb)
  clear hb
  go_wp2_with fail
  exact bPr (v:=.tuple #[.i X1,.bool true]) (by simp[results,Tryz.results296,go_sem]) rfl ⟨rfl,HB1.o⟩
theorem nJ:(Tryz.prog.info? 76).map (fun i=>(i.zero,i.size,i.bytes))=some (some (.agg (ia i0)),6,48):=by kernel_rfl
theorem nA {n:In}(h:aB W b 76 (ia n)):∀ j u,(i6 n)[j]?=some u->W.cell? ((⟨b,0,none⟩:Addr).add j)=some u:=by
 intro j u hu
 rw[Addr.add_lit,nZa]
 exact h.cell j (by rw[<-hu];simp[ia,i6])
theorem kG {ops:Array Oper}{rest:List Oper}{o:Oper}{a:Act}{Q:Exit->Act->World->Prop}
  (hgd:o.guard=none) (s x:Operand) (ho:o.op=.call { callee:=.builtin .append,args:=#[s,x],argTypes:=#[323,323] })
  (hs:a.eval s=v) (hen:V.ownsRow base 76 6 v L.length (cZ L)) (hbase:base<=V.heap.size) (b:Nat) (n:In) (hx:a.eval x=.slice (some ⟨b,0,none⟩) 1 1) (hc:aB V b 76 (ia n)) (h3:L.length<=2000000)
  (h:∀ g cap w',w'.ownsRow base 76 6 (.slice (some ⟨g,0,none⟩) (L.length+1) cap) (L++[n]).length (cZ (L++[n]))->V.grownBy w' v.ownBlock->wpList Tryz.prog ops Q rest (a.put o.dst (.slice (some ⟨g,0,none⟩) (L.length+1) cap)) w') :
  wpList Tryz.prog ops Q (o::rest) a V:=by
 obtain⟨i0',hi0,hz0,hz1,hz2⟩:=Spn.info_parts nJ
 refine wpList_append_lies V hgd s x 323 ho base 76 i0' _ 6 48 Tryz.underlying323 hi0 hz0 hz1 hz2 rfl (by omega) v L.length (cZ L) hs hen ⟨b,0,none⟩ 1 1 (i6 n) hx rfl (nA hc) (by simp[Value.oneCell',i6]) (by omega) (by unfold maxLen;omega) (by omega) hbase V.heap.size rfl ?_
 intro g cap w' hown hgrow hat hlt
 refine h g cap w' ?_ hgrow
 rw[Cde.sN,lLa]
 exact hown
theorem gM {L:List Int}{ops:Array Oper}{rest:List Oper}{o:Oper}{a:Act}{Q:Exit->Act->World->Prop}
  (hgd:o.guard=none) (s x:Operand) (ho:o.op=.call { callee:=.builtin .append,args:=#[s,x],argTypes:=#[22,22] })
  (hs:a.eval s=v) (hen:V.ownsRow base 3 1 v L.length (gW L)) (hbase:base<=V.heap.size) (b:Nat) (p:Int) (hx:a.eval x=.slice (some ⟨b,0,none⟩) 1 1) (hc:aB V b 3 #[.i p]) (h3:L.length<=2000000)
  (h:∀ g cap w',w'.ownsRow base 3 1 (.slice (some ⟨g,0,none⟩) (L.length+1) cap) (L++[p]).length (gW (L++[p]))->V.grownBy w' v.ownBlock->wpList Tryz.prog ops Q rest (a.put o.dst (.slice (some ⟨g,0,none⟩) (L.length+1) cap)) w') :
  wpList Tryz.prog ops Q (o::rest) a V:=by
 obtain⟨i0',hi0,hz0,hz1,hz2⟩:=info_parts info3
 refine wpList_append_lies V hgd s x 22 ho base 3 i0' _ 1 8 Tryz.underlying22 hi0 hz0 hz1 hz2 rfl (by omega) v L.length (gW L) hs hen ⟨b,0,none⟩ 1 1 [.i p] hx rfl (Cde.oM hc) (by simp[Value.oneCell']) (by omega) (by unfold maxLen;omega) (by omega) hbase V.heap.size rfl ?_
 intro g cap w' hown hgrow hat hlt
 exact h g cap w' (by rw[lLa];simpa using hown) hgrow
theorem aL1 (h:Ins w none n c L):n=0/\c=0/\L=[]:=by
 have h1:=h.nil rfl
 have h2:=h.le
 have h3:=h.len
 exact⟨by omega,h1,List.eq_nil_of_length_eq_zero (by omega)⟩
theorem eY (hb:Ins w a n c L)(hn:n<=2000000)(hn0:0 < n) :
  Calls Tryz.prog 48 #[.slice a n c] w fun e w'=>∃ a' c',e=.returned (.slice a' n c')/\w'.ownsRow w.heap.size 76 6 (.slice a' n c') n (cZ L)/\Below w.heap.size w w':=by
 obtain⟨i0',hi,hz0,hz1,hz2⟩:=Spn.info_parts nJ
 have heq:∀(w:World) (a:Option Addr) (n c:Nat),(binOp .eql 37 (.slice a n c) (.slice none 0 0)).run Tryz.prog w=.ok (.bool a.isNone) w:=fun w a n c=>Lib.run_eql_slice_nil w 37 76 a n c 0 0 Tryz.underlying37
 cases a with
 | none =>
  obtain⟨rfl,-,-⟩:=aL1 hb
  omega
 | some ad =>
  have hl:(cZ L).length=n*6:=by rw[Cde.aCd,hb.len]
  have hbel:Below w.heap.size w (w.alloc (.cells #[] 76)):=aD _ _
  have HBel:=aA hbel
  have HN:=aA ((hb.later hbel).news ad rfl)
  have HO:Hid ((w.alloc (.cells #[] 76)).ownsRow w.heap.size 76 6 (.slice (some ⟨w.heap.size,0,none⟩) 0 0) 0 []):=aA ⟨rfl,.inr ⟨w.heap.size,0,#[],rfl,nLr _,heap_alloc_new w _,nLr _,nZl _,rfl,rfl⟩⟩
  have HL:=aA hl
  clear hb hbel hl
  go_enter Tryz.func48,Tryz.ntmps48
  go_wp2_with (at_builtin;refine wpList_append_lies _ rfl _ _ 37 rfl w.heap.size 76 i0' _ 6 48 Tryz.underlying37 hi hz0 hz1 hz2 rfl (by omega) (.slice (some ⟨w.heap.size,0,none⟩) 0 0) 0 [] rfl HO.o ad n c (cZ L) rfl HL.o HN.o (Cde.aRv L) hn0 (by unfold maxLen;omega) (by omega) (by simp) _ rfl ?_;intro g cap w2 hown hgr hat hlt)
  rw[nZa,List.nil_append] at hown
  have HO2:=aA hown
  have HB2:=aA (HBel.o.grown hgr HBel.o.size (fun k h=>by cases h;exact nLr _))
  clear hown hgr hat hlt
  go_wp2_with fail
  go_ret
  exact⟨_,_,rfl,HO2.o,HB2.o⟩
theorem own_ne (h:W.ownsRow base e size v n xs)(hb:aB W b t cs)(ht:t≠e):v.ownBlock≠some b:=by
 intro hk
 obtain⟨-,cs',fr,h2⟩:=Cde.aQ h b hk
 rw[hb] at h2
 cases h2
 exact ht rfl
theorem aU (h:V.ownsRow base e size v n xs)(hg:V.grownBy w' v.ownBlock)(hb:aB V b t cs)(ht:t≠e):aB w' b t cs :=
 hb.kept hg fun he=>own_ne h hb ht he.symm
theorem jW {base':Nat}{e':TypeId}{size' n':Nat}{v':Value}{xs':List Value}(h:V.ownsRow base e size v n xs)(h':V.ownsRow base' e' size' v' n' xs')(ht:e≠e')(hg:V.grownBy w' v.ownBlock):w'.ownsRow base' e' size' v' n' xs':=by
 refine h'.kept hg ?_
 cases hv:v'.ownBlock with
 | none=>exact .inl rfl
 | some q =>
  right
  intro hq
  obtain⟨-,cs,fr,h1⟩:=Cde.aQ h q hq.symm
  obtain⟨-,cs',fr',h2⟩:=Cde.aQ h' q hv
  rw[h1] at h2
  cases h2
  exact ht rfl
abbrev bV:Array Value:=#[.i 0,.i 0,.slice none 0 0,.i 0]
structure Fb (W V:World)(cv:Array Value)(mv tv:Value)(M:List In)(T:List Int):Prop where
 c:aB V W.heap.size 39 cv
 o:aB V (W.heap.size+1) 39 bV
 m:V.ownsRow W.heap.size 76 6 mv M.length (cZ M)
 t:V.ownsRow W.heap.size 3 1 tv T.length (gW T)
 lo:Below W.heap.size W V
theorem Fb.below {W V V':World}{cv:Array Value}{mv tv:Value}{M:List In}{T:List Int}(h:Fb W V cv mv tv M T)(hb:Below V.heap.size V V'):Fb W V' cv mv tv M T :=
 ⟨h.c.below hb,h.o.below hb,Cde.bH h.m hb,Cde.bH h.t hb,bel h.lo hb⟩
theorem Fb.growM {mv':Value}{M':List In}(h:Fb W V cv mv tv M T)(hg:V.grownBy w' mv.ownBlock)(hO:w'.ownsRow W.heap.size 76 6 mv' M'.length (cZ M')):Fb W w' cv mv' tv M' T :=
 ⟨aU h.m hg h.c (by decide),aU h.m hg h.o (by decide),hO,jW h.m h.t (by decide) hg,h.lo.grown hg h.lo.size fun k hk=>(Cde.aQ h.m k hk).1⟩
theorem Fb.growT {tv':Value}{T':List Int}(h:Fb W V cv mv tv M T)(hg:V.grownBy w' tv.ownBlock)(hO:w'.ownsRow W.heap.size 3 1 tv' T'.length (gW T')):Fb W w' cv mv tv' M T' :=
 ⟨aU h.t hg h.c (by decide),aU h.t hg h.o (by decide),jW h.t h.m (by decide) hg,hO,h.lo.grown hg h.lo.size fun k hk=>(Cde.aQ h.t k hk).1⟩
abbrev s6 (w:World)(b:Nat)(n:In):World :=
 (((((w.setCell ⟨b,0,none⟩ (.i n.op)).setCell ⟨b,1,none⟩ (.i n.a)).setCell ⟨b,2,none⟩ (.i n.b)).setCell ⟨b,3,none⟩ (.i n.c)).setCell ⟨b,4,none⟩ (.i n.k)).setCell ⟨b,5,none⟩ (.i n.s)
theorem aXf {n m:In}(h:aB w b 76 (ia n)):aB (s6 w b m) b 76 (ia m):=(((((h.set 0 _).set 1 _).set 2 _).set 3 _).set 4 _).set 5 _
theorem aO7 {q:Nat}(h:aB w q t cs)(hq:q≠b)(m:In):aB (s6 w b m) q t cs :=
 (((((h.other (p:=⟨b,0,none⟩) hq _).other (p:=⟨b,1,none⟩) hq _).other (p:=⟨b,2,none⟩) hq _).other (p:=⟨b,3,none⟩) hq _).other (p:=⟨b,4,none⟩) hq _).other (p:=⟨b,5,none⟩) hq _
theorem aO8 (h:w.ownsRow base e size v n xs)(hq:v.ownBlock≠some b)(m:In):(s6 w b m).ownsRow base e size v n xs :=
 ownsRow_setCell_other (ownsRow_setCell_other (ownsRow_setCell_other (ownsRow_setCell_other (ownsRow_setCell_other (ownsRow_setCell_other h (a:=⟨b,0,none⟩) hq _) (a:=⟨b,1,none⟩) hq _) (a:=⟨b,2,none⟩) hq _) (a:=⟨b,3,none⟩) hq _) (a:=⟨b,4,none⟩) hq _) (a:=⟨b,5,none⟩) hq _
theorem aXe (h:Below w.heap.size w V)(hb:w.heap.size<=b)(m:In):Below w.heap.size w (s6 V b m) :=
 (((((h.setCell (p:=⟨b,0,none⟩) hb _).setCell (p:=⟨b,1,none⟩) hb _).setCell (p:=⟨b,2,none⟩) hb _).setCell (p:=⟨b,3,none⟩) hb _).setCell (p:=⟨b,4,none⟩) hb _).setCell (p:=⟨b,5,none⟩) hb _
structure Fc (W V:World)(cv:Array Value)(mv tv:Value)(M:List In)(T:List Int)(b:Nat)(n:In):Prop where
 f:Fb W V cv mv tv M T
 n:aB V b 76 (ia n)
 hb:W.heap.size+1 < b
 hm:mv.ownBlock≠some b
theorem Fc.below {W V V':World}{cv:Array Value}{mv tv:Value}{M:List In}{T:List Int}{b:Nat}{n:In}(h:Fc W V cv mv tv M T b n)(hb:Below V.heap.size V V'):Fc W V' cv mv tv M T b n:=⟨h.f.below hb,h.n.below hb,h.hb,h.hm⟩
theorem Fc.put {n:In}(h:Fc W V cv mv tv M T b n)(m:In):Fc W (s6 V b m) cv mv tv M T b m :=
 have hb:=h.hb
 ⟨⟨aO7 h.f.c (by omega) m,aO7 h.f.o (by omega) m,aO8 h.f.m h.hm m,aO8 h.f.t (own_ne h.f.t h.n (by decide)) m,aXe h.f.lo (by omega) m⟩,aXf h.n,hb,h.hm⟩
theorem Fb.with (h:Fb W V cv mv tv M T)(n:In):Fc W (V.alloc (.cells (ia n) 76)) cv mv tv M T V.heap.size n :=
 ⟨h.below (aD _ _),aB.new V 76 (ia n),h.o.lt,fun hk=>by
  obtain⟨-,cs,fr,h1⟩:=Cde.aQ h.m _ hk
  have:=(aGs.1 h1).1
  omega⟩
theorem Fb.ints {k:Nat}(h:Fb W V cv mv (.slice a k c) M T)(hk:T.length=k):Ints V a k c T:=by
 obtain⟨a',c',e,hi,-⟩:=Ints.of_owns h.t
 cases e
 rw[hk] at hi
 exact hi
theorem Fb.ins {k:Nat}(h:Fb W V cv (.slice a k c) tv M T)(hk:M.length=k):Ins V a k c M:=by
 obtain⟨a',c',e,hi,-⟩:=Ins.of_owns h.m
 cases e
 rw[hk] at hi
 exact hi
theorem aC5 {n:In}(h:aB W b t (ia n)):W.frozen? ⟨b,0,none⟩=false/\W.frozen? ⟨b,1,none⟩=false/\W.frozen? ⟨b,2,none⟩=false/\W.frozen? ⟨b,3,none⟩=false/\W.frozen? ⟨b,4,none⟩=false/\W.frozen? ⟨b,5,none⟩=false :=
 ⟨h.frozen 0,h.frozen 1,h.frozen 2,h.frozen 3,h.frozen 4,h.frozen 5⟩
theorem aCi (n:Nat)(h:n<=1024):∃ cs:Array Value,cs.size=n*6/\∀ w:World,(Instr.makeSlice 323 (.i 0) (.i n)).run Tryz.prog w=.ok (.slice (some ⟨w.heap.size,0,none⟩) 0 n) (w.alloc (.cells cs 76)):=by
 obtain⟨i0',hi,hz0,hz1,hz2⟩:=Spn.info_parts nJ
 refine⟨madeCells (Value.agg (ia i0)).cells (n*6),size_madeCells _ _,fun w=>?_⟩
 have:=run_make w 323 76 i0' _ Tryz.underlying323 hi hz0 .i64 .i64 0 n (by omega) (by omega) (by rw[hz2];omega) (by omega)
 rw[hz1] at this
 simp only[iTn] at this
 exact this
theorem aCk (n:Nat)(h:n<=1024):∃ cs:Array Value,cs.size=n*1/\∀ w:World,(Instr.makeSlice 22 (.i 0) (.i n)).run Tryz.prog w=.ok (.slice (some ⟨w.heap.size,0,none⟩) 0 n) (w.alloc (.cells cs 3)):=by
 obtain⟨i0',hi,hz0,hz1,hz2⟩:=info_parts info3
 refine⟨madeCells (Value.int .i64 0).cells (n*1),size_madeCells _ _,fun w=>?_⟩
 have:=run_make w 22 3 i0' _ Tryz.underlying22 hi hz0 .i64 .i64 0 n (by omega) (by omega) (by rw[hz2];omega) (by omega)
 rw[hz1] at this
 simp only[iTn] at this
 exact this
theorem jC (h:aB V b e cs)(hs:cs.size=n*size)(hb:W.heap.size<=b)(hn:n<=1024):V.ownsRow W.heap.size e size (.slice (some ⟨b,0,none⟩) 0 n) 0 [] :=
 ⟨by simp,.inr ⟨b,n,cs,rfl,hb,h,nZl _,by unfold maxLen;omega,hs,by simp⟩⟩
end Go.Proofs.Fld
namespace Go.Proofs.Fld
open Go.RowKit Go.IntWalk Knd
open YticnbcfmbhjbgabGreatDoor (Wd lF Fits inpV)
open Cde (In i0 dV dK bG dY kC eQ jH dH uQ qL kQ iY nQ rT rR pY)
open Vfy (nV bB aJ w32 eO gY)
variable {d f out:Int} {L:List In} {k:Nat}
def wd0 (f d:Int):Wd:=⟨0,0,0,List.replicate (dF f d).toNat (bT f d)⟩
theorem zF (hm:May f d):Fits f d (wd0 f d):=by
 have e0:jJ f d 0=some (0,nP f-1):=by unfold jJ;rw[if_neg (by simpa using hm)];rfl
 have e1:jJ f d 1=some (0,nU f-1):=by unfold jJ;rw[if_neg (by simpa using hm)];rfl
 have e2:jJ f d 2=some (0,3):=by unfold jJ;rw[if_neg (by simpa using hm)];rfl
 have hc:1<=nP f/\1<=nU f:=by unfold nP nU;constructor <;> split <;> omega
 have hn:0<=dF f d:=by
  unfold dF
  repeat' split
  all_goals omega
 have hb:gX f d<=bT f d/\bT f d<=dR f d:=by
  rcases kW f d with⟨h,rfl⟩|⟨h,rfl⟩|h
  ·have:=nL (d-1) (by have:=h.2.2;omega)
   obtain⟨a,b,c,-⟩:=zs0 h
   rw[a,b,c];omega
  ·have:=nL (d-1) (by have:=h.2.2;omega)
   obtain⟨a,b,c,-⟩:=zs1 h
   rw[a,b,c];omega
  ·exact absurd hm h
 refine⟨⟨⟨⟨0,nP f-1,e0,iLr _,by show (0:Int)<=_;omega⟩,⟨0,nU f-1,e1,iLr _,by show (0:Int)<=_;omega⟩⟩,⟨0,3,e2,iLr _,by show (0:Int)<=_;omega⟩⟩,?_,?_⟩
 ·show ((List.replicate (dF f d).toNat (bT f d)).length:Int)=dF f d
  rw[List.length_replicate];omega
 ·intro z hz
  rw[List.eq_of_mem_replicate hz];exact hb
structure Fi (f d:Int)(v:Wd)(L:List In)(k:Nat)(V:List Int):Prop where
 val:qL f d v (L.take k)=(0,V)
 rv:Rv f d v (nR f d (L.take k)).1 V
 st:St V (nR f d (L.take k)).2 k
 new:qL f d v (nR f d (L.take k)).1=(0,V)
theorem aRg {v:Wd}{V:List Int}(h:Fi f d v L k V)(hk:k < L.length)(ho:bG (L.getD k i0) k=true){x:Int}(hx:dH f d v V (L.getD k i0)=(x,0))(hw:w32 x):Fi f d v L (k+1) (V++[x]):=by
 have hl:=(aB3 f d L k (by omega)).1
 have hst:=h.st
 rw[show k=(nR f d (L.take k)).1.length from hl.symm] at hst
 obtain⟨h1,h2,h3⟩:=aSk h.rv (n:=L.getD k i0) (by rw[hl];rw[hl] at hst;exact hst) (by rw[hl];exact ho) hx hw
 have e:nR f d (L.take (k+1))=foS f d (nR f d (L.take k)) (L.getD k i0):=by rw[Cde.aG i0 hk,xI]
 refine⟨?_,?_,?_,?_⟩
 ·rw[Cde.aG i0 hk,Cde.fG,h.val,uQ,if_pos rfl,hx,if_pos rfl]
 ·rw[e];exact h.rv.snoc h1 h2
 ·rw[e]
  refine h.st.snoc ?_
  rw[hl] at h3
  show nwT f d (nR f d (L.take k)).1 (bZ (L.getD k i0) (nR f d (L.take k)).2) ((nR f d (L.take k)).1.length)=_\/_
  rw[hl];exact h3
 ·rw[e]
  show qL f d v ((nR f d (L.take k)).1++[_])=_
  rw[Cde.fG,h.new,uQ,if_pos rfl,h2,if_pos rfl]
theorem aB4 {f d:Int}{v:Wd}{L:List In}{out:Int}(h:bB f d L out=0)(hF:Fits f d v):∀ k,k<=L.length->∃ V,Fi f d v L k V
 | 0,_=>⟨[],rfl,Rv.nil f d v,⟨rfl,rfl,fun i hi=>absurd hi (Nat.not_lt_zero _)⟩,rfl⟩
 | k+1,hk=>by
  obtain⟨V,hV⟩:=aB4 h hF k (by omega)
  obtain⟨m,ha,⟨S,hS,-,-⟩,-,-,-⟩:=aJ h
  obtain⟨hm,-,-,-,-,hok⟩:=Cde.aS m
  obtain⟨V2,S2,g1,g2,g3⟩:=Vfy.rO hm hF hok ha (by rw[hS]) (k+1) hk
  have ho:=Cde.dG hok (show k < L.length by omega)
  rw[Cde.aG i0 (by omega),Cde.fG,hV.val,uQ,if_pos rfl] at g1
  have hlV:=hV.st.vl
  by_cases hz:(dH f d v V (L.getD k i0)).2=0
  ·rw[if_pos hz] at g1
   cases g1
   have hw:w32 (dH f d v V (L.getD k i0)).1:=by
    have:=(g3.2 k (by rw[<-g3.1];simp[hlV])).2.2
    rw[show (V++[(dH f d v V (L.getD k i0)).1]).getD k 0=(dH f d v V (L.getD k i0)).1 by rw[<-hlV];exact bM _ _] at this
    exact this
   exact⟨_,aRg hV (by omega) ho (Prod.ext rfl hz) hw⟩
  ·rw[if_neg hz] at g1
   exact absurd (congrArg Prod.fst g1) hz
theorem aD4 (f d:Int)(hk:k < L.length):nR f d (L.take (k+1))=foS f d (nR f d (L.take k)) (L.getD k i0):=by rw[Cde.aG i0 hk,xI]
theorem aYc (h:bB f d L out=0)(hk:k < L.length):bG (bZ (L.getD k i0) (nR f d (L.take k)).2) k=true:=by
 obtain⟨m,-⟩:=aJ h
 obtain⟨hm,-,-,-,-,hok⟩:=Cde.aS m
 obtain⟨V,hV⟩:=aB4 h (zF hm) k (by omega)
 exact aFi hV.st (Cde.dG hok hk)
theorem aY7 (f d:Int)(M:List In)(m:In):(nwI f d M m).op=1\/nwI f d M m=m:=by
 unfold nwI
 split
 ·exact .inl rfl
 ·exact .inr rfl
theorem aHx {f d:Int}{L:List In}(hok:dY L L.length=true):∀ k,k<=L.length->eQ (nR f d (L.take k)).1<=eQ (L.take k)
 | 0,_=>by simp[nR,eQ]
 | k+1,hk=>by
  have ih:=aHx (f:=f) (d:=d) hok k (by omega)
  rw[aD4 f d (by omega),Cde.aG i0 (by omega),Cde.gK,foS,Cde.gK]
  have hp:=Vfy.aL6 (Cde.dG hok (show k < L.length by omega))
  rcases aY7 f d (nR f d (L.take k)).1 (bZ (L.getD k i0) (nR f d (L.take k)).2) with e|e
  ·rw[e]
   have:jH 1=1:=rfl
   omega
  ·rw[e]
   have:(bZ (L.getD k i0) (nR f d (L.take k)).2).op=(L.getD k i0).op:=rfl
   rw[this]
   omega
theorem aD0 (h:bB f d L out=0):bB f d (fdL f d L out) (fdO f d L out)=0/\(fdL f d L out).length=L.length/\eQ (fdL f d L out)<=eQ L /\
  ∀ v,Fits f d v->∃ V,kQ f d v L out=(0,V)/\kQ f d v (fdL f d L out) (fdO f d L out)=(0,V)/\V.length=L.length/\0<=fdO f d L out/\(fdO f d L out).toNat < L.length/\V.getD (fdO f d L out).toNat 0=V.getD out.toNat 0:=by
 obtain⟨m,ha,⟨S,hS,-,-⟩,-,-,-⟩:=aJ h
 obtain⟨hm,-,-,ho0,ho1,hok⟩:=Cde.aS m
 obtain⟨-,-,hH⟩:=Vfy.oZ h
 have hlen:=(aB3 f d L L.length (nLr _)).1
 rw[lTg] at hlen
 unfold fdL fdO
 by_cases hn:bB f d (nR f d L).1 (foO f d L out)=0
 ·rw[if_pos hn,if_pos hn]
  have hc:=aHx (f:=f) (d:=d) hok L.length (nLr _)
  rw[lTg] at hc
  refine⟨hn,hlen,hc,fun v hF=>?_⟩
  obtain⟨V,hV⟩:=aB4 h hF L.length (nLr _)
  have h1:=hV.val
  have h2:=hV.new
  have h3:=hV.st
  rw[lTg] at h1 h2 h3
  obtain⟨m2,-⟩:=aJ hn
  obtain⟨a1,a2,a3⟩:=h3.at' out.toNat (by omega)
  refine⟨V,by rw[kQ,if_pos m,if_pos hF];exact h1,by rw[kQ,if_pos m2,if_pos hF];exact h2,h3.vl,a1,by show ((nR f d L).2.getD out.toNat 0).toNat < _;omega,a3⟩
 ·rw[if_neg hn,if_neg hn]
  refine⟨h,rfl,iLr _,fun v hF=>?_⟩
  obtain⟨V,hV,hI⟩:=hH v hF
  obtain⟨V',hV'⟩:=aB4 h hF L.length (nLr _)
  have h1:=hV'.val
  have h3:=hV'.st.vl
  rw[lTg] at h1
  have hV2:=hV
  rw[kQ,if_pos m,if_pos hF,h1] at hV
  cases hV
  exact⟨_,hV2,hV2,h3,ho0,by omega,rfl⟩
end Go.Proofs.Fld
