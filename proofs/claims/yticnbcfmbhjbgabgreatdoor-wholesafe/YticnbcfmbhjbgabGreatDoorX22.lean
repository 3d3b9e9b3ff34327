import Derived.Test.YticnbcfmbhjbgabGreatDoorXH
import Derived.Deep.RegionHeld3
import Derived.Deep.AppendLies
import Derived.Lib.SliceRun
import Derived.Deep.CutRange
import Derived.Test.YticnbcfmbhjbgabGreatDoorX21
set_option maxRecDepth 100000
set_option maxHeartbeats 32000000
set_option linter.unusedVariables false
namespace Go.Proofs.Fld
open Go.RowKit Go.IntWalk Knd
open Cde (In i0 ia kd cd Ins rM aH aJ bE aF)
open YticnbcfmbhjbgabGreatDoor (aB)
variable {M:List In} {m:In}
theorem tN {V V':World}{g o:Nat}{v:Value}(hb:Below V.heap.size V V')(h:V.cell? ⟨g,o,none⟩=some v)(hg:g < V.heap.size):V'.cell? ⟨g,o,none⟩=some v:=(hb.cell (p:=⟨g,o,none⟩) hg).trans h
theorem aXr:Tryz.prog.follows .mixedOrders=true:=by kernel_rfl
theorem bB5 (h:m.op=8\/m.op=17):mI M m=[(isN M m.a 0,m.b),(isN M m.b 0,m.a)]:=by unfold mI;rw[if_pos h]
theorem bB6 (h:m.op=10):mI M m=[(isN M m.a 1,m.b),(isN M m.b 1,m.a)]:=by unfold mI;rw[if_neg (by omega),if_pos h]
theorem bB7 (h:m.op=16):mI M m=[(m.a==m.b,m.a),(isN M m.a 0,m.b),(isN M m.b 0,m.a)]:=by unfold mI;rw[if_neg (by omega),if_neg (by omega),if_pos h]
theorem bB8 (h:m.op=15):mI M m=[(m.a==m.b,m.a),(isN M m.a (-1),m.b),(isN M m.b (-1),m.a)]:=by unfold mI;rw[if_neg (by omega),if_neg (by omega),if_neg (by omega),if_pos h]
theorem bB9 (h:m.op=24\/m.op=25):mI M m=[(m.a==m.b,m.a)]:=by unfold mI;rw[if_neg (by omega),if_neg (by omega),if_neg (by omega),if_neg (by omega),if_pos h]
theorem bCa (h:m.op=9\/m.op=13\/m.op=14):mI M m=[(isN M m.b 0,m.a)]:=by unfold mI;rw[if_neg (by omega),if_neg (by omega),if_neg (by omega),if_neg (by omega),if_neg (by omega),if_pos h]
theorem bCb (h:m.op=11):mI M m=[(isN M m.b 1,m.a)]:=by unfold mI;rw[if_neg (by omega),if_neg (by omega),if_neg (by omega),if_neg (by omega),if_neg (by omega),if_neg (by omega),if_pos h]
theorem bCc (h:m.op=29\/m.op=30):mI M m=[(m.k==0,m.a)]:=by unfold mI;rw[if_neg (by omega),if_neg (by omega),if_neg (by omega),if_neg (by omega),if_neg (by omega),if_neg (by omega),if_neg (by omega),if_pos h]
theorem bCd (h:m.op=32):mI M m=[(m.k==1,m.a)]:=by unfold mI;rw[if_neg (by omega),if_neg (by omega),if_neg (by omega),if_neg (by omega),if_neg (by omega),if_neg (by omega),if_neg (by omega),if_neg (by omega),if_pos h]
theorem bCe (h:m.op=5):mI M m=[((rg M m.a).op==5,(rg M m.a).a)]:=by unfold mI;rw[if_neg (by omega),if_neg (by omega),if_neg (by omega),if_neg (by omega),if_neg (by omega),if_neg (by omega),if_neg (by omega),if_neg (by omega),if_neg (by omega),if_pos h]
theorem bAc (h:m.op=6):mI M m=[((rg M m.a).op==6,m.a)]:=by unfold mI;rw[if_neg (by omega),if_neg (by omega),if_neg (by omega),if_neg (by omega),if_neg (by omega),if_neg (by omega),if_neg (by omega),if_neg (by omega),if_neg (by omega),if_neg (by omega),if_pos h]
theorem bAd (h:m.op=28):mI M m=[(isN M m.a 0,m.c),((rg M m.a).op==1,m.b),(m.b==m.c,m.b)]:=by unfold mI;rw[if_neg (by omega),if_neg (by omega),if_neg (by omega),if_neg (by omega),if_neg (by omega),if_neg (by omega),if_neg (by omega),if_neg (by omega),if_neg (by omega),if_neg (by omega),if_neg (by omega),if_pos h]
theorem bAe (h:m.op=27):mI M m=[(m.a==m.b || m.a==m.c,m.a),(m.b==m.c,m.b)]:=by unfold mI;rw[if_neg (by omega),if_neg (by omega),if_neg (by omega),if_neg (by omega),if_neg (by omega),if_neg (by omega),if_neg (by omega),if_neg (by omega),if_neg (by omega),if_neg (by omega),if_neg (by omega),if_neg (by omega),if_pos h]
theorem bAf (h:m.op=26):mI M m=[(m.b==m.c,m.b)]:=by unfold mI;rw[if_neg (by omega),if_neg (by omega),if_neg (by omega),if_neg (by omega),if_neg (by omega),if_neg (by omega),if_neg (by omega),if_neg (by omega),if_neg (by omega),if_neg (by omega),if_neg (by omega),if_neg (by omega),if_neg (by omega),if_pos h]
theorem aSn (m:In)(own:Int){va:Option Addr}{vn vc:Nat}{W:World}(hM:Ins W va vn vc M)(ho:bE m vn=true) :
  Calls Tryz.prog 297 #[.slice va vn vc,.agg (ia m),.i own] W fun e W'=>e=.returned (.i (fsZ own (mI M m)))/\Below W.heap.size W W':=by
 have hb1:=aD W (.cells (ia m) 76)
 have HB:=aA hb1
 have HM:=aA (hM.later hb1)
 have hs:=hM.short
 have hin:=fun r=>nC ho (r:=r)
 have HN:=aA (aB.new W 76 (ia m))
 clear hM ho hb1
 obtain⟨R,hR⟩:∃ R,fsZ own (mI M m)=R:=⟨_,rfl⟩
 rw[hR]
 go_enter Tryz.func297,Tryz.ntmps297
 go_wp2_with fail
 obtain⟨V,hV⟩:∃ V,W.alloc (.cells (ia m) 76)=V:=⟨_,rfl⟩
 rw[hV] at HB HN HM ⊢
 obtain⟨e0,e1,e2,e3,e4,e5⟩:=aH HN.o
 have y1:=cell_regrown e1
 have y2:=cell_regrown e2
 have y3:=cell_regrown e3
 refine wp_region_quiet_below aXr (by kernel_rfl) ?_
 repeat (go_big_quiet_step (fail))
 refine wpQuiet_nil ?_
 intro V2 hw'
 obtain⟨⟨dq,osq⟩,hw''⟩:=hw'
 have hb:=below_regrown V dq osq
 simp only at hw''
 rw[<-hw''] at hb
 clear hw'' y1 y2 y3 e0 e1 e2 e3 e4 e5 hV
 have HB2:=aA (bel HB.o hb)
 have HN2:=aA (HN.o.below hb)
 have HM2:=aA (HM.o.later hb)
 have HI:=aA fun r k (h:dW r vn)=>aIq r k HM2.o h
 clear hb HB HN HM
 by_cases h0:m.op=8\/m.op=17
 ·rw[bB5 h0] at hR
  have ha:ar m.op=2:=by rcases h0 with e|e <;> rw[e] <;> decide
  have ia:=hin m.a (by rw[jF ha];simp)
  have ib:=hin m.b (by rw[jF ha];simp)
  obtain⟨op,a,b,c,k,s⟩:=m
  dsimp only at h0 ha ia ib HN2 hR ⊢
  obtain⟨e0,e1,e2,e3,e4,e5⟩:=aH HN2.o
  clear hin  ha
  have HJ1:=aA (HI.o a 0 ia)
  generalize isN M a 0=x0 at *
  have HJ2:=aA (HI.o b 0 ib)
  generalize isN M b 0=x1 at *
  have HR:=aA hR
  clear hR
  rcases h0 with rfl|rfl 
  all_goals
   go_wp2_with fail
   refine HJ1.o.mono ?_
   rintro e w' ⟨rfl,rfl⟩
   go_wp2_with fail
   refine HJ2.o.mono ?_
   rintro e w' ⟨rfl,rfl⟩
   go_wp2_with fail
   refine(bQ own (n:=2) (L:=[(x0,b),(x1,a)]) (aB.new _ _ _) rfl (by decide)).mono ?_
   rintro e V3 ⟨rfl,hb⟩
   have HB3:=aA (bel (bel HB2.o (aD _ _)) hb)
   clear hb
   go_wp2_with fail
   go_ret
   exact⟨aO HR.o,HB3.o⟩
 by_cases h1:m.op=10
 ·rw[bB6 h1] at hR
  have ha:ar m.op=2:=by rw[h1];decide
  have ia:=hin m.a (by rw[jF ha];simp)
  have ib:=hin m.b (by rw[jF ha];simp)
  obtain⟨op,a,b,c,k,s⟩:=m
  dsimp only at h1 ha ia ib HN2 hR ⊢
  obtain⟨e0,e1,e2,e3,e4,e5⟩:=aH HN2.o
  clear hin h0 ha
  have HJ1:=aA (HI.o a 1 ia)
  generalize isN M a 1=x0 at *
  have HJ2:=aA (HI.o b 1 ib)
  generalize isN M b 1=x1 at *
  have HR:=aA hR
  clear hR
  subst h1
  go_wp2_with fail
  refine HJ1.o.mono ?_
  rintro e w' ⟨rfl,rfl⟩
  go_wp2_with fail
  refine HJ2.o.mono ?_
  rintro e w' ⟨rfl,rfl⟩
  go_wp2_with fail
  refine(bQ own (n:=2) (L:=[(x0,b),(x1,a)]) (aB.new _ _ _) rfl (by decide)).mono ?_
  rintro e V3 ⟨rfl,hb⟩
  have HB3:=aA (bel (bel HB2.o (aD _ _)) hb)
  clear hb
  go_wp2_with fail
  go_ret
  exact⟨aO HR.o,HB3.o⟩
 by_cases h2:m.op=16
 ·rw[bB7 h2] at hR
  have ha:ar m.op=2:=by rw[h2];decide
  have ia:=hin m.a (by rw[jF ha];simp)
  have ib:=hin m.b (by rw[jF ha];simp)
  obtain⟨op,a,b,c,k,s⟩:=m
  dsimp only at h2 ha ia ib HN2 hR ⊢
  obtain⟨e0,e1,e2,e3,e4,e5⟩:=aH HN2.o
  clear hin h0 h1 ha
  have HJ1:=aA (HI.o a 0 ia)
  generalize isN M a 0=x0 at *
  have HJ2:=aA (HI.o b 0 ib)
  generalize isN M b 0=x1 at *
  have HR:=aA hR
  clear hR
  subst h2
  go_wp2_with fail
  refine HJ1.o.mono ?_
  rintro e w' ⟨rfl,rfl⟩
  go_wp2_with fail
  refine HJ2.o.mono ?_
  rintro e w' ⟨rfl,rfl⟩
  go_wp2_with fail
  refine(bQ own (n:=3) (L:=[(a==b,a),(x0,b),(x1,a)]) (aB.new _ _ _) rfl (by decide)).mono ?_
  rintro e V3 ⟨rfl,hb⟩
  have HB3:=aA (bel (bel HB2.o (aD _ _)) hb)
  clear hb
  go_wp2_with fail
  go_ret
  exact⟨aO HR.o,HB3.o⟩
 by_cases h3:m.op=15
 ·rw[bB8 h3] at hR
  have ha:ar m.op=2:=by rw[h3];decide
  have ia:=hin m.a (by rw[jF ha];simp)
  have ib:=hin m.b (by rw[jF ha];simp)
  obtain⟨op,a,b,c,k,s⟩:=m
  dsimp only at h3 ha ia ib HN2 hR ⊢
  obtain⟨e0,e1,e2,e3,e4,e5⟩:=aH HN2.o
  clear hin h0 h1 h2 ha
  have HJ1:=aA (HI.o a (-1) ia)
  generalize isN M a (-1)=x0 at *
  have HJ2:=aA (HI.o b (-1) ib)
  generalize isN M b (-1)=x1 at *
  have HR:=aA hR
  clear hR
  subst h3
  go_wp2_with fail
  refine HJ1.o.mono ?_
  rintro e w' ⟨rfl,rfl⟩
  go_wp2_with fail
  refine HJ2.o.mono ?_
  rintro e w' ⟨rfl,rfl⟩
  go_wp2_with fail
  refine(bQ own (n:=3) (L:=[(a==b,a),(x0,b),(x1,a)]) (aB.new _ _ _) rfl (by decide)).mono ?_
  rintro e V3 ⟨rfl,hb⟩
  have HB3:=aA (bel (bel HB2.o (aD _ _)) hb)
  clear hb
  go_wp2_with fail
  go_ret
  exact⟨aO HR.o,HB3.o⟩
 by_cases h4:m.op=24\/m.op=25
 ·rw[bB9 h4] at hR
  have ha:ar m.op=2:=by rcases h4 with e|e <;> rw[e] <;> decide
  have ia:=hin m.a (by rw[jF ha];simp)
  have ib:=hin m.b (by rw[jF ha];simp)
  obtain⟨op,a,b,c,k,s⟩:=m
  dsimp only at h4 ha ia ib HN2 hR ⊢
  obtain⟨e0,e1,e2,e3,e4,e5⟩:=aH HN2.o
  clear hin h0 h1 h2 h3 ha
  have HR:=aA hR
  clear hR
  rcases h4 with rfl|rfl 
  all_goals
   go_wp2_with fail
   refine(bQ own (n:=1) (L:=[(a==b,a)]) (aB.new _ _ _) rfl (by decide)).mono ?_
   rintro e V3 ⟨rfl,hb⟩
   have HB3:=aA (bel (bel HB2.o (aD _ _)) hb)
   clear hb
   go_wp2_with fail
   go_ret
   exact⟨aO HR.o,HB3.o⟩
 by_cases h5:m.op=9\/m.op=13\/m.op=14
 ·rw[bCa h5] at hR
  have ha:ar m.op=2:=by rcases h5 with e|e|e <;> rw[e] <;> decide
  have ia:=hin m.a (by rw[jF ha];simp)
  have ib:=hin m.b (by rw[jF ha];simp)
  obtain⟨op,a,b,c,k,s⟩:=m
  dsimp only at h5 ha ia ib HN2 hR ⊢
  obtain⟨e0,e1,e2,e3,e4,e5⟩:=aH HN2.o
  clear hin h0 h1 h2 h3 h4 ha
  have HJ1:=aA (HI.o b 0 ib)
  generalize isN M b 0=x0 at *
  have HR:=aA hR
  clear hR
  rcases h5 with rfl|rfl|rfl 
  all_goals
   go_wp2_with fail
   refine HJ1.o.mono ?_
   rintro e w' ⟨rfl,rfl⟩
   go_wp2_with fail
   refine(bQ own (n:=1) (L:=[(x0,a)]) (aB.new _ _ _) rfl (by decide)).mono ?_
   rintro e V3 ⟨rfl,hb⟩
   have HB3:=aA (bel (bel HB2.o (aD _ _)) hb)
   clear hb
   go_wp2_with fail
   go_ret
   exact⟨aO HR.o,HB3.o⟩
 by_cases h6:m.op=11
 ·rw[bCb h6] at hR
  have ha:ar m.op=2:=by rw[h6];decide
  have ia:=hin m.a (by rw[jF ha];simp)
  have ib:=hin m.b (by rw[jF ha];simp)
  obtain⟨op,a,b,c,k,s⟩:=m
  dsimp only at h6 ha ia ib HN2 hR ⊢
  obtain⟨e0,e1,e2,e3,e4,e5⟩:=aH HN2.o
  clear hin h0 h1 h2 h3 h4 h5 ha
  have HJ1:=aA (HI.o b 1 ib)
  generalize isN M b 1=x0 at *
  have HR:=aA hR
  clear hR
  subst h6
  go_wp2_with fail
  refine HJ1.o.mono ?_
  rintro e w' ⟨rfl,rfl⟩
  go_wp2_with fail
  refine(bQ own (n:=1) (L:=[(x0,a)]) (aB.new _ _ _) rfl (by decide)).mono ?_
  rintro e V3 ⟨rfl,hb⟩
  have HB3:=aA (bel (bel HB2.o (aD _ _)) hb)
  clear hb
  go_wp2_with fail
  go_ret
  exact⟨aO HR.o,HB3.o⟩
 by_cases h7:m.op=29\/m.op=30
 ·rw[bCc h7] at hR
  have ha:ar m.op=1:=by rcases h7 with e|e <;> rw[e] <;> decide
  have ia:=hin m.a (by rw[xP ha];simp)
  obtain⟨op,a,b,c,k,s⟩:=m
  dsimp only at h7 ha ia HN2 hR ⊢
  obtain⟨e0,e1,e2,e3,e4,e5⟩:=aH HN2.o
  clear hin h0 h1 h2 h3 h4 h5 h6 ha
  have HR:=aA hR
  clear hR
  rcases h7 with rfl|rfl 
  all_goals
   go_wp2_with fail
   refine(bQ own (n:=1) (L:=[(k==0,a)]) (aB.new _ _ _) rfl (by decide)).mono ?_
   rintro e V3 ⟨rfl,hb⟩
   have HB3:=aA (bel (bel HB2.o (aD _ _)) hb)
   clear hb
   go_wp2_with fail
   go_ret
   exact⟨aO HR.o,HB3.o⟩
 by_cases h8:m.op=32
 ·rw[bCd h8] at hR
  have ha:ar m.op=1:=by rw[h8];decide
  have ia:=hin m.a (by rw[xP ha];simp)
  obtain⟨op,a,b,c,k,s⟩:=m
  dsimp only at h8 ha ia HN2 hR ⊢
  obtain⟨e0,e1,e2,e3,e4,e5⟩:=aH HN2.o
  clear hin h0 h1 h2 h3 h4 h5 h6 h7 ha
  have HR:=aA hR
  clear hR
  subst h8
  go_wp2_with fail
  refine(bQ own (n:=1) (L:=[(k==1,a)]) (aB.new _ _ _) rfl (by decide)).mono ?_
  rintro e V3 ⟨rfl,hb⟩
  have HB3:=aA (bel (bel HB2.o (aD _ _)) hb)
  clear hb
  go_wp2_with fail
  go_ret
  exact⟨aO HR.o,HB3.o⟩
 by_cases h9:m.op=5
 ·rw[bCe h9] at hR
  have ha:ar m.op=1:=by rw[h9];decide
  have ia:=hin m.a (by rw[xP ha];simp)
  obtain⟨ja,hja⟩:∃ k:Nat,m.a=k:=⟨m.a.toNat,by have:=ia.1;omega⟩
  have hj:ja < vn:=by have:=ia.2;omega
  obtain⟨g,off,rfl,hgl,hat⟩:=HM2.o.at (by omega)
  obtain⟨c0,c1,-,-,-,-⟩:=hat ja hj
  obtain⟨op,a,b,c,k,s⟩:=m
  dsimp only at h9 ha ia HN2 hR ⊢
  dsimp only at hja
  subst hja
  unfold rg at hR
  rw[iTn] at hR
  obtain⟨e0,e1,e2,e3,e4,e5⟩:=aH HN2.o
  clear hin h0 h1 h2 h3 h4 h5 h6 h7 h8 ha
  have HR:=aA hR
  clear hR
  subst h9
  have i0':(0:Int)<=ja:=by omega
  have i1':(ja:Int) < vn:=by omega
  generalize M.getD ja i0=z at *
  clear hat ia
  go_wp2_with fail
  have HF:=aA (bQ own (n:=1) (g:=V2.heap.size) (W:=((V2.alloc (.cells #[.bool (z.op==5),.i z.a] 344)).drew)) (L:=[(z.op==5,z.a)]) ((aB.new V2 344 #[.bool (z.op==5),.i z.a]).below (aF _)) rfl (by decide))
  have hbx:Below V2.heap.size V2 ((V2.alloc (.cells #[.bool (z.op==5),.i z.a] 344)).drew):=bel (aD V2 _) (aF _)
  have HK0:=aA fun V3 (hb:Below ((V2.alloc (.cells #[.bool (z.op==5),.i z.a] 344)).drew).heap.size ((V2.alloc (.cells #[.bool (z.op==5),.i z.a] 344)).drew) V3)=>tN (bel hbx hb) c0 hgl
  have HK1:=aA fun V3 (hb:Below ((V2.alloc (.cells #[.bool (z.op==5),.i z.a] 344)).drew).heap.size ((V2.alloc (.cells #[.bool (z.op==5),.i z.a] 344)).drew) V3)=>tN (bel hbx hb) c1 hgl
  have HK2:=aA fun V3 (hb:Below ((V2.alloc (.cells #[.bool (z.op==5),.i z.a] 344)).drew).heap.size ((V2.alloc (.cells #[.bool (z.op==5),.i z.a] 344)).drew) V3)=>aA (bel HB2.o (bel hbx hb))
  clear hbx
  go_region_held3 (fun w'=>w'.cell? ⟨g,off+ja*6,none⟩=some (.i z.op)/\w'.cell? ⟨g,off+ja*6+1,none⟩=some (.i z.a))
   (first|exact⟨c0,c1⟩|exact⟨k0,k1⟩|go_keep)
   ((first
    | (go_at_call 316;refine HF.o.mono ?_;rintro e V3 ⟨rfl,hb⟩;have k0:=HK0.o V3 hb;have k1:=HK1.o V3 hb;have HB3:=HK2.o V3 hb)))
  all_goals
   clear k0 k1 hb
   go_wp2_with fail
   go_ret
   exact⟨aO HR.o,HB3.o⟩
 by_cases h10:m.op=6
 ·rw[bAc h10] at hR
  have ha:ar m.op=1:=by rw[h10];decide
  have ia:=hin m.a (by rw[xP ha];simp)
  obtain⟨ja,hja⟩:∃ k:Nat,m.a=k:=⟨m.a.toNat,by have:=ia.1;omega⟩
  have hj:ja < vn:=by have:=ia.2;omega
  obtain⟨g,off,rfl,hgl,hat⟩:=HM2.o.at (by omega)
  obtain⟨c0,c1,-,-,-,-⟩:=hat ja hj
  obtain⟨op,a,b,c,k,s⟩:=m
  dsimp only at h10 ha ia HN2 hR ⊢
  dsimp only at hja
  subst hja
  unfold rg at hR
  rw[iTn] at hR
  obtain⟨e0,e1,e2,e3,e4,e5⟩:=aH HN2.o
  clear hin h0 h1 h2 h3 h4 h5 h6 h7 h8 h9 ha
  have HR:=aA hR
  clear hR
  subst h10
  have i0':(0:Int)<=ja:=by omega
  have i1':(ja:Int) < vn:=by omega
  generalize M.getD ja i0=z at *
  clear hat ia
  go_wp2_with fail
  refine(bQ own (n:=1) (L:=[(z.op==6,(ja:Int))]) (aB.new _ _ _) rfl (by decide)).mono ?_
  rintro e V3 ⟨rfl,hb⟩
  have HB3:=aA (bel (bel HB2.o (aD _ _)) hb)
  clear hb
  go_wp2_with fail
  go_ret
  exact⟨aO HR.o,HB3.o⟩
 by_cases h11:m.op=28
 ·rw[bAd h11] at hR
  have ha:ar m.op=3:=by rw[h11];decide
  have ia:=hin m.a (by rw[oV ha];simp)
  have ib:=hin m.b (by rw[oV ha];simp)
  have ic:=hin m.c (by rw[oV ha];simp)
  obtain⟨ja,hja⟩:∃ k:Nat,m.a=k:=⟨m.a.toNat,by have:=ia.1;omega⟩
  have hj:ja < vn:=by have:=ia.2;omega
  obtain⟨g,off,rfl,hgl,hat⟩:=HM2.o.at (by omega)
  obtain⟨c0,-,-,-,c4,-⟩:=hat ja hj
  obtain⟨op,a,b,c,k,s⟩:=m
  dsimp only at h11 ha ia ib ic HN2 hR ⊢
  dsimp only at hja
  subst hja
  unfold isN rg at hR
  rw[iTn] at hR
  obtain⟨e0,e1,e2,e3,e4,e5⟩:=aH HN2.o
  clear hin h0 h1 h2 h3 h4 h5 h6 h7 h8 h9 h10 ha
  have HR:=aA hR
  clear hR
  subst h11
  have i0':(0:Int)<=ja:=by omega
  have i1':(ja:Int) < vn:=by omega
  generalize M.getD ja i0=z at *
  clear hat ia
  go_wp2_with fail
  have HF:=aA (bQ own (n:=3) (g:=V2.heap.size) (W:=((V2.alloc (.cells #[.bool (z.op==1&&z.k==0),.i c,.bool (z.op==1),.i b,.bool (b==c),.i b] 344)).drew)) (L:=[(z.op==1&&z.k==0,c),(z.op==1,b),(b==c,b)]) ((aB.new V2 344 #[.bool (z.op==1&&z.k==0),.i c,.bool (z.op==1),.i b,.bool (b==c),.i b]).below (aF _)) rfl (by decide))
  have hbx:Below V2.heap.size V2 ((V2.alloc (.cells #[.bool (z.op==1&&z.k==0),.i c,.bool (z.op==1),.i b,.bool (b==c),.i b] 344)).drew):=bel (aD V2 _) (aF _)
  have HK0:=aA fun V3 (hb:Below ((V2.alloc (.cells #[.bool (z.op==1&&z.k==0),.i c,.bool (z.op==1),.i b,.bool (b==c),.i b] 344)).drew).heap.size ((V2.alloc (.cells #[.bool (z.op==1&&z.k==0),.i c,.bool (z.op==1),.i b,.bool (b==c),.i b] 344)).drew) V3)=>tN (bel hbx hb) c0 hgl
  have HK1:=aA fun V3 (hb:Below ((V2.alloc (.cells #[.bool (z.op==1&&z.k==0),.i c,.bool (z.op==1),.i b,.bool (b==c),.i b] 344)).drew).heap.size ((V2.alloc (.cells #[.bool (z.op==1&&z.k==0),.i c,.bool (z.op==1),.i b,.bool (b==c),.i b] 344)).drew) V3)=>tN (bel hbx hb) c4 hgl
  have HK2:=aA fun V3 (hb:Below ((V2.alloc (.cells #[.bool (z.op==1&&z.k==0),.i c,.bool (z.op==1),.i b,.bool (b==c),.i b] 344)).drew).heap.size ((V2.alloc (.cells #[.bool (z.op==1&&z.k==0),.i c,.bool (z.op==1),.i b,.bool (b==c),.i b] 344)).drew) V3)=>aA (bel HB2.o (bel hbx hb))
  clear hbx
  go_region_held3 (fun w'=>w'.cell? ⟨g,off+ja*6,none⟩=some (.i z.op)/\w'.cell? ⟨g,off+ja*6+4,none⟩=some (.i z.k))
   (first|exact⟨c0,c4⟩|exact⟨k0,k1⟩|go_keep)
   ((first
    | (go_at_call 317;refine(aEn 0 hj (by first | exact c0 | go_keep) (by first | exact c4 | go_keep) hs).mono ?_;rintro e w2 ⟨rfl,rfl⟩)
    | (go_at_call 316;refine HF.o.mono ?_;rintro e V3 ⟨rfl,hb⟩;have k0:=HK0.o V3 hb;have k1:=HK1.o V3 hb;have HB3:=HK2.o V3 hb)))
  all_goals
   clear k0 k1 hb
   go_wp2_with fail
   go_ret
   exact⟨aO HR.o,HB3.o⟩
 by_cases h12:m.op=27
 ·rw[bAe h12] at hR
  have ha:ar m.op=3:=by rw[h12];decide
  have ia:=hin m.a (by rw[oV ha];simp)
  have ib:=hin m.b (by rw[oV ha];simp)
  have ic:=hin m.c (by rw[oV ha];simp)
  obtain⟨op,a,b,c,k,s⟩:=m
  dsimp only at h12 ha ia ib ic HN2 hR ⊢
  obtain⟨e0,e1,e2,e3,e4,e5⟩:=aH HN2.o
  clear hin h0 h1 h2 h3 h4 h5 h6 h7 h8 h9 h10 h11 ha
  have HR:=aA hR
  clear hR
  subst h12
  cases hx:(a==b)
  ·go_wp2_with fail
   refine(bQ own (n:=2) (L:=[(a==c,a),(b==c,b)]) (aB.new _ _ _) rfl (by decide)).mono ?_
   rintro e V3 ⟨rfl,hb⟩
   have HB3:=aA (bel (bel HB2.o (aD _ _)) hb)
   clear hb
   go_wp2_with fail
   go_ret
   exact⟨aO (by have:=HR.o;rw[hx] at this;exact this),HB3.o⟩
  ·go_wp2_with fail
   refine(bQ own (n:=2) (L:=[(true,a),(b==c,b)]) (aB.new _ _ _) rfl (by decide)).mono ?_
   rintro e V3 ⟨rfl,hb⟩
   have HB3:=aA (bel (bel HB2.o (aD _ _)) hb)
   clear hb
   go_wp2_with fail
   go_ret
   exact⟨aO (by have:=HR.o;rw[hx] at this;exact this),HB3.o⟩
 by_cases h13:m.op=26
 ·rw[bAf h13] at hR
  have ha:ar m.op=3:=by rw[h13];decide
  have ia:=hin m.a (by rw[oV ha];simp)
  have ib:=hin m.b (by rw[oV ha];simp)
  have ic:=hin m.c (by rw[oV ha];simp)
  obtain⟨op,a,b,c,k,s⟩:=m
  dsimp only at h13 ha ia ib ic HN2 hR ⊢
  obtain⟨e0,e1,e2,e3,e4,e5⟩:=aH HN2.o
  clear hin h0 h1 h2 h3 h4 h5 h6 h7 h8 h9 h10 h11 h12 ha
  have HR:=aA hR
  clear hR
  subst h13
  go_wp2_with fail
  refine(bQ own (n:=1) (L:=[(b==c,b)]) (aB.new _ _ _) rfl (by decide)).mono ?_
  rintro e V3 ⟨rfl,hb⟩
  have HB3:=aA (bel (bel HB2.o (aD _ _)) hb)
  clear hb
  go_wp2_with fail
  go_ret
  exact⟨aO HR.o,HB3.o⟩
 ·rw[show mI M m=[] by unfold mI;rw[if_neg h0,if_neg h1,if_neg h2,if_neg h3,if_neg h4,if_neg h5,if_neg h6,if_neg h7,if_neg h8,if_neg h9,if_neg h10,if_neg h11,if_neg h12,if_neg h13]] at hR
  obtain⟨op,a,b,c,k,s⟩:=m
  dsimp only at *
  have q5:(op==5)=false:=by simp;omega
  have q6:(op==6)=false:=by simp;omega
  have q8:(op==8)=false:=by simp;omega
  have q9:(op==9)=false:=by simp;omega
  have q10:(op==10)=false:=by simp;omega
  have q11:(op==11)=false:=by simp;omega
  have q13:(op==13)=false:=by simp;omega
  have q14:(op==14)=false:=by simp;omega
  have q15:(op==15)=false:=by simp;omega
  have q16:(op==16)=false:=by simp;omega
  have q17:(op==17)=false:=by simp;omega
  have q24:(op==24)=false:=by simp;omega
  have q25:(op==25)=false:=by simp;omega
  have q26:(op==26)=false:=by simp;omega
  have q27:(op==27)=false:=by simp;omega
  have q28:(op==28)=false:=by simp;omega
  have q29:(op==29)=false:=by simp;omega
  have q30:(op==30)=false:=by simp;omega
  have q32:(op==32)=false:=by simp;omega
  obtain⟨e0,e1,e2,e3,e4,e5⟩:=aH HN2.o
  clear hin HI h0 h1 h2 h3 h4 h5 h6 h7 h8 h9 h10 h11 h12 h13
  go_wp2_with fail
  go_ret
  exact⟨aO hR,HB2.o⟩
end Go.Proofs.Fld
namespace Go.Proofs.Fld
open Go.RowKit Go.IntWalk Knd
open Cde (In i0 ia kd cd Ins rM aH aC aQ aJ bE eG aF dE i6 zA aG)
open YticnbcfmbhjbgabGreatDoor (aB)
variable {L M:List In} {V W w w':World} {b base c n size:Nat} {mv tv v:Value} {a:Option Addr} {e t:TypeId} {xs:List Value} {cs cv:Array Value} {T:List Int}
theorem aSh (f d:Int)(m:In){va:Option Addr}{vn vc:Nat}(hM:Ins W va vn vc M)(ho:bE m vn=true) :
  Calls Tryz.prog 296 #[.slice va vn vc,.agg (kd f d),.agg (ia m)] W fun e W'=>e=.returned (.tuple #[.i (knZ f d M m).1,.bool (knZ f d M m).2])/\Below W.heap.size W W':=by
 have hb2:=bel (aD W (.cells (kd f d) 35)) (aD (W.alloc (.cells (kd f d) 35)) (.cells (ia m) 76))
 have HB:=aA hb2
 have HM:=aA (hM.later hb2)
 have HN:=aA (aJ W (.cells (kd f d) 35) 76 (ia m))
 have HBn:=aA fun V=>aGt f d m V
 have HRk:=aA fun V (h:Ins V va vn vc M)=>aSk m h ho
 have HSe:=aA fun V (h:Ins V va vn vc M)=>aSm m h ho
 unfold knZ
 generalize bnZ f d m=X at *
 generalize rkZ M m=Y at *
 generalize stZ M m=Z at *
 obtain⟨X1,X2⟩:=X
 obtain⟨Y1,Y2⟩:=Y
 obtain⟨Z1,Z2⟩:=Z
 clear hM ho hb2
 dsimp only at *
 cases X2
 ·rw[if_neg (by decide)]
  cases Y2
  ·rw[if_neg (by decide)]
   go_enter Tryz.func296,Tryz.ntmps296
   go_wp2_with fail
   refine(HBn.o _).mono ?_
   rintro e V1 ⟨rfl,hb⟩
   have HB1:=aA (bel HB.o hb)
   have HM1:=aA (HM.o.later hb)
   have HN1:=aA (HN.o.below hb)
   obtain⟨e0,e1,e2,e3,e4,e5⟩:=aH HN1.o
   clear hb
   go_wp2_with fail
   refine(HRk.o _ HM1.o).mono ?_
   rintro e V2 ⟨rfl,hb⟩
   have HB2:=aA (bel HB1.o hb)
   have HM2:=aA (HM1.o.later hb)
   have HN2:=aA (HN1.o.below hb)
   clear hb e0 e1 e2 e3 e4 e5
   obtain⟨e0,e1,e2,e3,e4,e5⟩:=aH HN2.o
   go_wp2_with fail
   refine(HSe.o _ HM2.o).mono ?_
   rintro e V3 ⟨rfl,hb⟩
   have HB3:=aA (bel HB2.o hb)
   clear hb e0 e1 e2 e3 e4 e5
   go_wp2_with fail
   exact bPr (v:=.tuple #[.i Z1,.bool Z2]) (by simp[results,Tryz.results296,go_sem]) rfl ⟨rfl,HB3.o⟩
  ·rw[if_pos rfl]
   go_enter Tryz.func296,Tryz.ntmps296
   go_wp2_with fail
   refine(HBn.o _).mono ?_
   rintro e V1 ⟨rfl,hb⟩
   have HB1:=aA (bel HB.o hb)
   have HM1:=aA (HM.o.later hb)
   have HN1:=aA (HN.o.below hb)
   obtain⟨e0,e1,e2,e3,e4,e5⟩:=aH HN1.o
   clear hb
   go_wp2_with fail
   refine(HRk.o _ HM1.o).mono ?_
   rintro e V2 ⟨rfl,hb⟩
   have HB2:=aA (bel HB1.o hb)
   clear hb e0 e1 e2 e3 e4 e5
   go_wp2_with fail
   exact bPr (v:=.tuple #[.i Y1,.bool true]) (by simp[results,Tryz.results296,go_sem]) rfl ⟨rfl,HB2.o⟩
 ·rw[if_pos rfl]
  go_enter Tryz.func296,Tryz.ntmps296
  go_wp2_with fail
  refine(HBn.o _).mono ?_
  rintro e V1 ⟨rfl,hb⟩
  have HB1:=aA (bel HB.o hb)
  clear hb
  go_wp2_with fail
  exact bPr (v:=.tuple #[.i X1,.bool true]) (by simp[results,Tryz.results296,go_sem]) rfl ⟨rfl,HB1.o⟩
theorem oN:(Tryz.prog.info? 76).map (fun i=>(i.zero,i.size,i.bytes))=some (some (.agg (ia i0)),6,48):=by kernel_rfl
theorem oF {n:In}(h:aB W b 76 (ia n)):∀ j u,(i6 n)[j]?=some u->W.cell? ((⟨b,0,none⟩:Addr).add j)=some u:=by
 intro j u hu
 rw[Addr.add_lit,nZa]
 exact h.cell j (by rw[<-hu];simp[ia,i6])
theorem kY {ops:Array Oper}{rest:List Oper}{o:Oper}{a:Act}{Q:Exit->Act->World->Prop}
  (hgd:o.guard=none) (s x:Operand) (ho:o.op=.call { callee:=.builtin .append,args:=#[s,x],argTypes:=#[323,323] })
  (hs:a.eval s=v) (hen:V.ownsRow base 76 6 v L.length (dE L)) (hbase:base<=V.heap.size) (b:Nat) (n:In) (hx:a.eval x=.slice (some ⟨b,0,none⟩) 1 1) (hc:aB V b 76 (ia n)) (h3:L.length<=2000000)
  (h:∀ g cap w',w'.ownsRow base 76 6 (.slice (some ⟨g,0,none⟩) (L.length+1) cap) (L++[n]).length (dE (L++[n]))->V.grownBy w' v.ownBlock->wpList Tryz.prog ops Q rest (a.put o.dst (.slice (some ⟨g,0,none⟩) (L.length+1) cap)) w') :
  wpList Tryz.prog ops Q (o::rest) a V:=by
 obtain⟨i0',hi0,hz0,hz1,hz2⟩:=Spn.info_parts oN
 refine wpList_append_lies V hgd s x 323 ho base 76 i0' _ 6 48 Tryz.underlying323 hi0 hz0 hz1 hz2 rfl (by omega) v L.length (dE L) hs hen ⟨b,0,none⟩ 1 1 (i6 n) hx rfl (oF hc) (by simp[Value.oneCell',i6]) (by omega) (by unfold maxLen;omega) (by omega) hbase V.heap.size rfl ?_
 intro g cap w' hown hgrow hat hlt
 refine h g cap w' ?_ hgrow
 rw[Cde.uA,lLa]
 exact hown
theorem iB {L:List Int}{ops:Array Oper}{rest:List Oper}{o:Oper}{a:Act}{Q:Exit->Act->World->Prop}
  (hgd:o.guard=none) (s x:Operand) (ho:o.op=.call { callee:=.builtin .append,args:=#[s,x],argTypes:=#[22,22] })
  (hs:a.eval s=v) (hen:V.ownsRow base 3 1 v L.length (gV L)) (hbase:base<=V.heap.size) (b:Nat) (p:Int) (hx:a.eval x=.slice (some ⟨b,0,none⟩) 1 1) (hc:aB V b 3 #[.i p]) (h3:L.length<=2000000)
  (h:∀ g cap w',w'.ownsRow base 3 1 (.slice (some ⟨g,0,none⟩) (L.length+1) cap) (L++[p]).length (gV (L++[p]))->V.grownBy w' v.ownBlock->wpList Tryz.prog ops Q rest (a.put o.dst (.slice (some ⟨g,0,none⟩) (L.length+1) cap)) w') :
  wpList Tryz.prog ops Q (o::rest) a V:=by
 obtain⟨i0',hi0,hz0,hz1,hz2⟩:=info_parts info3
 refine wpList_append_lies V hgd s x 22 ho base 3 i0' _ 1 8 Tryz.underlying22 hi0 hz0 hz1 hz2 rfl (by omega) v L.length (gV L) hs hen ⟨b,0,none⟩ 1 1 [.i p] hx rfl (Cde.lF hc) (by simp[Value.oneCell']) (by omega) (by unfold maxLen;omega) (by omega) hbase V.heap.size rfl ?_
 intro g cap w' hown hgrow hat hlt
 exact h g cap w' (by rw[lLa];simpa using hown) hgrow
theorem aMz (h:Ins w none n c L):n=0/\c=0/\L=[]:=by
 have h1:=h.nil rfl
 have h2:=h.le
 have h3:=h.len
 exact⟨by omega,h1,List.eq_nil_of_length_eq_zero (by omega)⟩
theorem fF (hb:Ins w a n c L)(hn:n<=2000000)(hn0:0 < n) :
  Calls Tryz.prog 48 #[.slice a n c] w fun e w'=>∃ a' c',e=.returned (.slice a' n c')/\w'.ownsRow w.heap.size 76 6 (.slice a' n c') n (dE L)/\Below w.heap.size w w':=by
 obtain⟨i0',hi,hz0,hz1,hz2⟩:=Spn.info_parts oN
 have heq:∀(w:World) (a:Option Addr) (n c:Nat),(binOp .eql 37 (.slice a n c) (.slice none 0 0)).run Tryz.prog w=.ok (.bool a.isNone) w:=fun w a n c=>Lib.run_eql_slice_nil w 37 76 a n c 0 0 Tryz.underlying37
 cases a with
 | none =>
  obtain⟨rfl,-,-⟩:=aMz hb
  omega
 | some ad =>
  have hl:(dE L).length=n*6:=by rw[Cde.aCx,hb.len]
  have hbel:Below w.heap.size w (w.alloc (.cells #[] 76)):=aD _ _
  have HBel:=aA hbel
  have HN:=aA ((hb.later hbel).news ad rfl)
  have HO:Hid ((w.alloc (.cells #[] 76)).ownsRow w.heap.size 76 6 (.slice (some ⟨w.heap.size,0,none⟩) 0 0) 0 []):=aA ⟨rfl,.inr ⟨w.heap.size,0,#[],rfl,nLr _,heap_alloc_new w _,nLr _,nZl _,rfl,rfl⟩⟩
  have HL:=aA hl
  clear hb hbel hl
  go_enter Tryz.func48,Tryz.ntmps48
  go_wp2_with (at_builtin;refine wpList_append_lies _ rfl _ _ 37 rfl w.heap.size 76 i0' _ 6 48 Tryz.underlying37 hi hz0 hz1 hz2 rfl (by omega) (.slice (some ⟨w.heap.size,0,none⟩) 0 0) 0 [] rfl HO.o ad n c (dE L) rfl HL.o HN.o (Cde.aSz L) hn0 (by unfold maxLen;omega) (by omega) (by simp) _ rfl ?_;intro g cap w2 hown hgr hat hlt)
  rw[nZa,List.nil_append] at hown
  have HO2:=aA hown
  have HB2:=aA (HBel.o.grown hgr HBel.o.size (fun k h=>by cases h;exact nLr _))
  clear hown hgr hat hlt
  go_wp2_with fail
  go_ret
  exact⟨_,_,rfl,HO2.o,HB2.o⟩
theorem own_ne (h:W.ownsRow base e size v n xs)(hb:aB W b t cs)(ht:t≠e):v.ownBlock≠some b:=by
 intro hk
 obtain⟨-,cs',fr,h2⟩:=Cde.aR h b hk
 rw[hb] at h2
 cases h2
 exact ht rfl
theorem aU (h:V.ownsRow base e size v n xs)(hg:V.grownBy w' v.ownBlock)(hb:aB V b t cs)(ht:t≠e):aB w' b t cs :=
 hb.kept hg fun he=>own_ne h hb ht he.symm
theorem kL {base':Nat}{e':TypeId}{size' n':Nat}{v':Value}{xs':List Value}(h:V.ownsRow base e size v n xs)(h':V.ownsRow base' e' size' v' n' xs')(ht:e≠e')(hg:V.grownBy w' v.ownBlock):w'.ownsRow base' e' size' v' n' xs':=by
 refine h'.kept hg ?_
 cases hv:v'.ownBlock with
 | none=>exact .inl rfl
 | some q =>
  right
  intro hq
  obtain⟨-,cs,fr,h1⟩:=Cde.aR h q hq.symm
  obtain⟨-,cs',fr',h2⟩:=Cde.aR h' q hv
  rw[h1] at h2
  cases h2
  exact ht rfl
abbrev cK:Array Value:=#[.i 0,.i 0,.slice none 0 0,.i 0]
structure Fb (W V:World)(cv:Array Value)(mv tv:Value)(M:List In)(T:List Int):Prop where
 c:aB V W.heap.size 39 cv
 o:aB V (W.heap.size+1) 39 cK
 m:V.ownsRow W.heap.size 76 6 mv M.length (dE M)
 t:V.ownsRow W.heap.size 3 1 tv T.length (gV T)
 lo:Below W.heap.size W V
theorem Fb.below {W V V':World}{cv:Array Value}{mv tv:Value}{M:List In}{T:List Int}(h:Fb W V cv mv tv M T)(hb:Below V.heap.size V V'):Fb W V' cv mv tv M T :=
 ⟨h.c.below hb,h.o.below hb,Cde.bI h.m hb,Cde.bI h.t hb,bel h.lo hb⟩
theorem Fb.growM {mv':Value}{M':List In}(h:Fb W V cv mv tv M T)(hg:V.grownBy w' mv.ownBlock)(hO:w'.ownsRow W.heap.size 76 6 mv' M'.length (dE M')):Fb W w' cv mv' tv M' T :=
 ⟨aU h.m hg h.c (by decide),aU h.m hg h.o (by decide),hO,kL h.m h.t (by decide) hg,h.lo.grown hg h.lo.size fun k hk=>(Cde.aR h.m k hk).1⟩
theorem Fb.growT {tv':Value}{T':List Int}(h:Fb W V cv mv tv M T)(hg:V.grownBy w' tv.ownBlock)(hO:w'.ownsRow W.heap.size 3 1 tv' T'.length (gV T')):Fb W w' cv mv tv' M T' :=
 ⟨aU h.t hg h.c (by decide),aU h.t hg h.o (by decide),kL h.t h.m (by decide) hg,hO,h.lo.grown hg h.lo.size fun k hk=>(Cde.aR h.t k hk).1⟩
abbrev s6 (w:World)(b:Nat)(n:In):World :=
 (((((w.setCell ⟨b,0,none⟩ (.i n.op)).setCell ⟨b,1,none⟩ (.i n.a)).setCell ⟨b,2,none⟩ (.i n.b)).setCell ⟨b,3,none⟩ (.i n.c)).setCell ⟨b,4,none⟩ (.i n.k)).setCell ⟨b,5,none⟩ (.i n.s)
theorem aYs {n m:In}(h:aB w b 76 (ia n)):aB (s6 w b m) b 76 (ia m):=(((((h.set 0 _).set 1 _).set 2 _).set 3 _).set 4 _).set 5 _
theorem aP4 {q:Nat}(h:aB w q t cs)(hq:q≠b)(m:In):aB (s6 w b m) q t cs :=
 (((((h.other (p:=⟨b,0,none⟩) hq _).other (p:=⟨b,1,none⟩) hq _).other (p:=⟨b,2,none⟩) hq _).other (p:=⟨b,3,none⟩) hq _).other (p:=⟨b,4,none⟩) hq _).other (p:=⟨b,5,none⟩) hq _
theorem aP5 (h:w.ownsRow base e size v n xs)(hq:v.ownBlock≠some b)(m:In):(s6 w b m).ownsRow base e size v n xs :=
 ownsRow_setCell_other (ownsRow_setCell_other (ownsRow_setCell_other (ownsRow_setCell_other (ownsRow_setCell_other (ownsRow_setCell_other h (a:=⟨b,0,none⟩) hq _) (a:=⟨b,1,none⟩) hq _) (a:=⟨b,2,none⟩) hq _) (a:=⟨b,3,none⟩) hq _) (a:=⟨b,4,none⟩) hq _) (a:=⟨b,5,none⟩) hq _
theorem aYr (h:Below w.heap.size w V)(hb:w.heap.size<=b)(m:In):Below w.heap.size w (s6 V b m) :=
 (((((h.setCell (p:=⟨b,0,none⟩) hb _).setCell (p:=⟨b,1,none⟩) hb _).setCell (p:=⟨b,2,none⟩) hb _).setCell (p:=⟨b,3,none⟩) hb _).setCell (p:=⟨b,4,none⟩) hb _).setCell (p:=⟨b,5,none⟩) hb _
structure Fc (W V:World)(cv:Array Value)(mv tv:Value)(M:List In)(T:List Int)(b:Nat)(n:In):Prop where
 f:Fb W V cv mv tv M T
 n:aB V b 76 (ia n)
 hb:W.heap.size+1 < b
 hm:mv.ownBlock≠some b
theorem Fc.below {W V V':World}{cv:Array Value}{mv tv:Value}{M:List In}{T:List Int}{b:Nat}{n:In}(h:Fc W V cv mv tv M T b n)(hb:Below V.heap.size V V'):Fc W V' cv mv tv M T b n:=⟨h.f.below hb,h.n.below hb,h.hb,h.hm⟩
theorem Fc.put {n:In}(h:Fc W V cv mv tv M T b n)(m:In):Fc W (s6 V b m) cv mv tv M T b m :=
 have hb:=h.hb
 ⟨⟨aP4 h.f.c (by omega) m,aP4 h.f.o (by omega) m,aP5 h.f.m h.hm m,aP5 h.f.t (own_ne h.f.t h.n (by decide)) m,aYr h.f.lo (by omega) m⟩,aYs h.n,hb,h.hm⟩
theorem Fb.with (h:Fb W V cv mv tv M T)(n:In):Fc W (V.alloc (.cells (ia n) 76)) cv mv tv M T V.heap.size n :=
 ⟨h.below (aD _ _),aB.new V 76 (ia n),h.o.lt,fun hk=>by
  obtain⟨-,cs,fr,h1⟩:=Cde.aR h.m _ hk
  have:=(aGs.1 h1).1
  omega⟩
theorem Fb.ints {k:Nat}(h:Fb W V cv mv (.slice a k c) M T)(hk:T.length=k):Ints V a k c T:=by
 obtain⟨a',c',e,hi,-⟩:=Ints.of_owns h.t
 cases e
 rw[hk] at hi
 exact hi
theorem Fb.ins {k:Nat}(h:Fb W V cv (.slice a k c) tv M T)(hk:M.length=k):Ins V a k c M:=by
 obtain⟨a',c',e,hi,-⟩:=Ins.of_owns h.m
 cases e
 rw[hk] at hi
 exact hi
theorem aDr {n:In}(h:aB W b t (ia n)):W.frozen? ⟨b,0,none⟩=false/\W.frozen? ⟨b,1,none⟩=false/\W.frozen? ⟨b,2,none⟩=false/\W.frozen? ⟨b,3,none⟩=false/\W.frozen? ⟨b,4,none⟩=false/\W.frozen? ⟨b,5,none⟩=false :=
 ⟨h.frozen 0,h.frozen 1,h.frozen 2,h.frozen 3,h.frozen 4,h.frozen 5⟩
theorem aC3 (n:Nat)(h:n<=1024):∃ cs:Array Value,cs.size=n*6/\∀ w:World,(Instr.makeSlice 323 (.i 0) (.i n)).run Tryz.prog w=.ok (.slice (some ⟨w.heap.size,0,none⟩) 0 n) (w.alloc (.cells cs 76)):=by
 obtain⟨i0',hi,hz0,hz1,hz2⟩:=Spn.info_parts oN
 refine⟨madeCells (Value.agg (ia i0)).cells (n*6),size_madeCells _ _,fun w=>?_⟩
 have:=run_make w 323 76 i0' _ Tryz.underlying323 hi hz0 .i64 .i64 0 n (by omega) (by omega) (by rw[hz2];omega) (by omega)
 rw[hz1] at this
 simp only[iTn] at this
 exact this
theorem aC5 (n:Nat)(h:n<=1024):∃ cs:Array Value,cs.size=n*1/\∀ w:World,(Instr.makeSlice 22 (.i 0) (.i n)).run Tryz.prog w=.ok (.slice (some ⟨w.heap.size,0,none⟩) 0 n) (w.alloc (.cells cs 3)):=by
 obtain⟨i0',hi,hz0,hz1,hz2⟩:=info_parts info3
 refine⟨madeCells (Value.int .i64 0).cells (n*1),size_madeCells _ _,fun w=>?_⟩
 have:=run_make w 22 3 i0' _ Tryz.underlying22 hi hz0 .i64 .i64 0 n (by omega) (by omega) (by rw[hz2];omega) (by omega)
 rw[hz1] at this
 simp only[iTn] at this
 exact this
theorem jM (h:aB V b e cs)(hs:cs.size=n*size)(hb:W.heap.size<=b)(hn:n<=1024):V.ownsRow W.heap.size e size (.slice (some ⟨b,0,none⟩) 0 n) 0 [] :=
 ⟨by simp,.inr ⟨b,n,cs,rfl,hb,h,nZl _,by unfold maxLen;omega,hs,by simp⟩⟩
end Go.Proofs.Fld
namespace Go.Proofs.Fld
open Go.RowKit Go.IntWalk Knd
open YticnbcfmbhjbgabGreatDoor (Wd eZ Fits inpV)
open Cde (In i0 dY bZ bE eG kR eQ jT bV rX jQ fQ gK mG sZ sW lL)
open Vfy (pI aW aI w32 eX iI)
variable {d f out:Int} {L:List In} {k:Nat}
def wd0 (f d:Int):Wd:=⟨0,0,0,List.replicate (bW f d).toNat (bU f d)⟩
theorem aAm (hm:May f d):Fits f d (wd0 f d):=by
 have e0:jK f d 0=some (0,oW f-1):=by unfold jK;rw[if_neg (by simpa using hm)];rfl
 have e1:jK f d 1=some (0,pF f-1):=by unfold jK;rw[if_neg (by simpa using hm)];rfl
 have e2:jK f d 2=some (0,3):=by unfold jK;rw[if_neg (by simpa using hm)];rfl
 have hc:1<=oW f/\1<=pF f:=by unfold oW pF;constructor <;> split <;> omega
 have hn:0<=bW f d:=by
  unfold bW
  repeat' split
  all_goals omega
 have hb:gD f d<=bU f d/\bU f d<=dD f d:=by
  rcases lX f d with⟨h,rfl⟩|⟨h,rfl⟩|h
  ·have:=oO (d-1) (by have:=h.2.2;omega)
   obtain⟨a,b,c,-⟩:=zs0 h
   rw[a,b,c];omega
  ·have:=oO (d-1) (by have:=h.2.2;omega)
   obtain⟨a,b,c,-⟩:=zs1 h
   rw[a,b,c];omega
  ·exact absurd hm h
 refine⟨⟨⟨⟨0,oW f-1,e0,iLr _,by show (0:Int)<=_;omega⟩,⟨0,pF f-1,e1,iLr _,by show (0:Int)<=_;omega⟩⟩,⟨0,3,e2,iLr _,by show (0:Int)<=_;omega⟩⟩,?_,?_⟩
 ·show ((List.replicate (bW f d).toNat (bU f d)).length:Int)=bW f d
  rw[List.length_replicate];omega
 ·intro z hz
  rw[List.eq_of_mem_replicate hz];exact hb
structure Fi (f d:Int)(v:Wd)(L:List In)(k:Nat)(V:List Int):Prop where
 val:jQ f d v (L.take k)=(0,V)
 rv:Rv f d v (oZ f d (L.take k)).1 V
 st:St V (oZ f d (L.take k)).2 k
 new:jQ f d v (oZ f d (L.take k)).1=(0,V)
theorem aSj {v:Wd}{V:List Int}(h:Fi f d v L k V)(hk:k < L.length)(ho:bE (L.getD k i0) k=true){x:Int}(hx:bV f d v V (L.getD k i0)=(x,0))(hw:w32 x):Fi f d v L (k+1) (V++[x]):=by
 have hl:=(aCm f d L k (by omega)).1
 have hst:=h.st
 rw[show k=(oZ f d (L.take k)).1.length from hl.symm] at hst
 obtain⟨h1,h2,h3⟩:=aTr h.rv (n:=L.getD k i0) (by rw[hl];rw[hl] at hst;exact hst) (by rw[hl];exact ho) hx hw
 have e:oZ f d (L.take (k+1))=foS f d (oZ f d (L.take k)) (L.getD k i0):=by rw[Cde.aG i0 hk,yM]
 refine⟨?_,?_,?_,?_⟩
 ·rw[Cde.aG i0 hk,Cde.dG,h.val,rX,if_pos rfl,hx,if_pos rfl]
 ·rw[e];exact h.rv.snoc h1 h2
 ·rw[e]
  refine h.st.snoc ?_
  rw[hl] at h3
  show nwT f d (oZ f d (L.take k)).1 (dB (L.getD k i0) (oZ f d (L.take k)).2) ((oZ f d (L.take k)).1.length)=_\/_
  rw[hl];exact h3
 ·rw[e]
  show jQ f d v ((oZ f d (L.take k)).1++[_])=_
  rw[Cde.dG,h.new,rX,if_pos rfl,h2,if_pos rfl]
theorem aCn {f d:Int}{v:Wd}{L:List In}{out:Int}(h:aW f d L out=0)(hF:Fits f d v):∀ k,k<=L.length->∃ V,Fi f d v L k V
 | 0,_=>⟨[],rfl,Rv.nil f d v,⟨rfl,rfl,fun i hi=>absurd hi (Nat.not_lt_zero _)⟩,rfl⟩
 | k+1,hk=>by
  obtain⟨V,hV⟩:=aCn h hF k (by omega)
  obtain⟨m,ha,⟨S,hS,-,-⟩,-,-,-⟩:=aI h
  obtain⟨hm,-,-,-,-,hok⟩:=Cde.aP m
  obtain⟨V2,S2,g1,g2,g3⟩:=Vfy.qM hm hF hok ha (by rw[hS]) (k+1) hk
  have ho:=Cde.dF hok (show k < L.length by omega)
  rw[Cde.aG i0 (by omega),Cde.dG,hV.val,rX,if_pos rfl] at g1
  have hlV:=hV.st.vl
  by_cases hz:(bV f d v V (L.getD k i0)).2=0
  ·rw[if_pos hz] at g1
   cases g1
   have hw:w32 (bV f d v V (L.getD k i0)).1:=by
    have:=(g3.2 k (by rw[<-g3.1];simp[hlV])).2.2
    rw[show (V++[(bV f d v V (L.getD k i0)).1]).getD k 0=(bV f d v V (L.getD k i0)).1 by rw[<-hlV];exact bO _ _] at this
    exact this
   exact⟨_,aSj hV (by omega) ho (Prod.ext rfl hz) hw⟩
  ·rw[if_neg hz] at g1
   exact absurd (congrArg Prod.fst g1) hz
theorem aEp (f d:Int)(hk:k < L.length):oZ f d (L.take (k+1))=foS f d (oZ f d (L.take k)) (L.getD k i0):=by rw[Cde.aG i0 hk,yM]
theorem aZy (h:aW f d L out=0)(hk:k < L.length):bE (dB (L.getD k i0) (oZ f d (L.take k)).2) k=true:=by
 obtain⟨m,-⟩:=aI h
 obtain⟨hm,-,-,-,-,hok⟩:=Cde.aP m
 obtain⟨V,hV⟩:=aCn h (aAm hm) k (by omega)
 exact aF4 hV.st (Cde.dF hok hk)
theorem bAw (f d:Int)(M:List In)(m:In):(nwI f d M m).op=1\/nwI f d M m=m:=by
 unfold nwI
 split
 ·exact .inl rfl
 ·exact .inr rfl
theorem aIr {f d:Int}{L:List In}(hok:eG L L.length=true):∀ k,k<=L.length->eQ (oZ f d (L.take k)).1<=eQ (L.take k)
 | 0,_=>by simp[oZ,eQ]
 | k+1,hk=>by
  have ih:=aIr (f:=f) (d:=d) hok k (by omega)
  rw[aEp f d (by omega),Cde.aG i0 (by omega),Cde.gZ,foS,Cde.gZ]
  have hp:=Vfy.aM4 (Cde.dF hok (show k < L.length by omega))
  rcases bAw f d (oZ f d (L.take k)).1 (dB (L.getD k i0) (oZ f d (L.take k)).2) with e|e
  ·rw[e]
   have:jT 1=1:=rfl
   omega
  ·rw[e]
   have:(dB (L.getD k i0) (oZ f d (L.take k)).2).op=(L.getD k i0).op:=rfl
   rw[this]
   omega
theorem aEl (h:aW f d L out=0):aW f d (fdL f d L out) (fdO f d L out)=0/\(fdL f d L out).length=L.length/\eQ (fdL f d L out)<=eQ L /\
  ∀ v,Fits f d v->∃ V,fQ f d v L out=(0,V)/\fQ f d v (fdL f d L out) (fdO f d L out)=(0,V)/\V.length=L.length/\0<=fdO f d L out/\(fdO f d L out).toNat < L.length/\V.getD (fdO f d L out).toNat 0=V.getD out.toNat 0:=by
 obtain⟨m,ha,⟨S,hS,-,-⟩,-,-,-⟩:=aI h
 obtain⟨hm,-,-,ho0,ho1,hok⟩:=Cde.aP m
 obtain⟨-,-,hH⟩:=Vfy.gJ h
 have hlen:=(aCm f d L L.length (nLr _)).1
 rw[lTg] at hlen
 unfold fdL fdO
 by_cases hn:aW f d (oZ f d L).1 (foO f d L out)=0
 ·rw[if_pos hn,if_pos hn]
  have hc:=aIr (f:=f) (d:=d) hok L.length (nLr _)
  rw[lTg] at hc
  refine⟨hn,hlen,hc,fun v hF=>?_⟩
  obtain⟨V,hV⟩:=aCn h hF L.length (nLr _)
  have h1:=hV.val
  have h2:=hV.new
  have h3:=hV.st
  rw[lTg] at h1 h2 h3
  obtain⟨m2,-⟩:=aI hn
  obtain⟨a1,a2,a3⟩:=h3.at' out.toNat (by omega)
  refine⟨V,by rw[fQ,if_pos m,if_pos hF];exact h1,by rw[fQ,if_pos m2,if_pos hF];exact h2,h3.vl,a1,by show ((oZ f d L).2.getD out.toNat 0).toNat < _;omega,a3⟩
 ·rw[if_neg hn,if_neg hn]
  refine⟨h,rfl,iLr _,fun v hF=>?_⟩
  obtain⟨V,hV,hI⟩:=hH v hF
  obtain⟨V',hV'⟩:=aCn h hF L.length (nLr _)
  have h1:=hV'.val
  have h3:=hV'.st.vl
  rw[lTg] at h1
  have hV2:=hV
  rw[fQ,if_pos m,if_pos hF,h1] at hV
  cases hV
  exact⟨_,hV2,hV2,h3,ho0,by omega,rfl⟩
end Go.Proofs.Fld
namespace Go.Proofs.Fld
open Go.RowKit Go.IntWalk Knd
open Cde (In i0 ia kd cd Ins rM aH aC aQ aJ bE eG aF dE i6 zA aG)
open Vfy (aW)
open YticnbcfmbhjbgabGreatDoor (aB)
theorem aSi {f d:Int}{M:List In}{T:List Int}{n:In}{k:Nat}{x:Int}(hM:M.length=k)(h:knZ f d M (dB n T)=(x,true)):foS f d (M,T) n=(M++[nuI x],T++[(k:Int)]):=by
 simp[foS,nwI,nwT,h,hM]
theorem aWr {f d:Int}{M:List In}{T:List Int}{n:In}{k:Nat}{x:Int}(hM:M.length=k)(h:knZ f d M (dB n T)=(x,false)):foS f d (M,T) n=(M++[dB n T],T++[fsZ k (mI M (dB n T))]):=by
 simp[foS,nwI,nwT,h,hM]
theorem aEm (f d out:Int){a:Option Addr}{n cap:Nat}{L:List In}{W:World}(hL:Ins W a n cap L)(h:aW f d L out=0) :
  Calls Tryz.prog 263 #[.agg (cd f d a n cap out)] W fun e W'=>∃ a' c',e=.returned (.agg (cd f d a' n c' (foO f d L out)))/\W'.ownsRow W.heap.size 76 6 (.slice a' n c') n (dE (oZ f d L).1)/\Below W.heap.size W W':=by
 obtain⟨mc,-⟩:=Vfy.aI h
 obtain⟨-,m1,m2,o0,o1,-⟩:=Cde.aP mc
 rw[hL.len] at m1 m2 o1
 obtain⟨o,rfl⟩:∃ o:Nat,out=o:=⟨out.toNat,by omega⟩
 obtain⟨cs1,hs1,hmk1⟩:=aC3 n (by omega)
 obtain⟨cs2,hs2,hmk2⟩:=aC5 n (by omega)
 have HLI:=aA hL
 have HLn:=aA hL.len
 have HOk:=aA fun k (hk:k < n)=>aZy h (k:=k) (by rw[hL.len];exact hk)
 have HSu:=aA fun k (hk:k < n)=>aEp f d (L:=L) (k:=k) (by rw[hL.len];exact hk)
 have HF0:Hid (Fb W ((((W.alloc (.cells (cd f d a n cap (o:Int)) 39)).alloc (.cells cK 39)).alloc (.cells cs1 76)).alloc (.cells cs2 3)) (cd f d a n cap (o:Int)) (.slice (some ⟨W.heap.size+1+1,0,none⟩) 0 n) (.slice (some ⟨W.heap.size+1+1+1,0,none⟩) 0 n) [] []):=by
  have b1:=aD W (.cells (cd f d a n cap (o:Int)) 39)
  have b2:=bel b1 (aD _ (.cells cK 39))
  have b3:=bel b2 (aD _ (.cells cs1 76))
  have b4:=bel b3 (aD _ (.cells cs2 3))
  have h1:=((aB.new W 39 (cd f d a n cap (o:Int))).alloc (.cells cK 39)).alloc (.cells cs1 76)
  have h2:=((aJ W (.cells (cd f d a n cap (o:Int)) 39) 39 cK).alloc (.cells cs1 76))
  have h3:=aB.new ((W.alloc (.cells (cd f d a n cap (o:Int)) 39)).alloc (.cells cK 39)) 76 cs1
  have h4:=aB.new (((W.alloc (.cells (cd f d a n cap (o:Int)) 39)).alloc (.cells cK 39)).alloc (.cells cs1 76)) 3 cs2
  rw[wSa,wSa] at h3
  rw[wSa,wSa,wSa] at h4
  exact⟨h1.alloc _,h2.alloc _,jM (h3.alloc _) hs1 (by omega) (by omega),jM h4 hs2 (by omega) (by omega),b4⟩
 clear hL h mc hs1 hs2
 go_enter Tryz.func263,Tryz.ntmps263
 go_wp2_with fail
 clear hmk1 hmk2
 go_loopw [3,4,21] (fun mv tv i wr=>∃(k gm cm gt ct:Nat) (M:List In) (T:List Int),k<=n/\i=.i k/\mv=.slice (some ⟨gm,0,none⟩) k cm/\tv=.slice (some ⟨gt,0,none⟩) k ct/\Hid (oZ f d (L.take k)=(M,T))/\Hid (M.length=k)/\Hid (T.length=k)/\Hid (Fb W wr (cd f d a n cap (o:Int)) (.slice (some ⟨gm,0,none⟩) k cm) (.slice (some ⟨gt,0,none⟩) k ct) M T)) (fun _ _ i _=>n-(intOf i).toNat)
 case atStart=>exact⟨0,_,_,_,_,[],[],nZl _,rfl,rfl,rfl,aA rfl,aA rfl,aA rfl,HF0⟩
 case round =>
  obtain⟨k,gm,cm,gt,ct,M,T,hk,rfl,rfl,rfl,HM,HMl,HTl,HF⟩:=hrel
  rename World=>V
  clear HF0
  by_cases hlt:k < n
  ·obtain⟨b,off,rfl,-,hat⟩:=(HLI.o.later HF.o.lo).at (by omega)
   obtain⟨e0,e1,e2,e3,e4,e5⟩:=hat k hlt
   clear hat
   have hi0:(0:Int)<=k:=by omega
   have hi1:(k:Int) < n:=by omega
   have hOk:=HOk.o k hlt
   have hSu:=HSu.o k hlt
   rw[HM.o] at hOk hSu
   have HOk2:=aA hOk
   generalize L.getD k i0=q at *
   have HY:=aA fun x (h:knZ f d M (dB q T)=(x,true))=>hSu.trans (aSi HMl.o h)
   have HNo:=aA fun x (h:knZ f d M (dB q T)=(x,false))=>hSu.trans (aWr HMl.o h)
   have HC0:=aA (HF.o.with q)
   have HTh:=aA (gM q (HC0.o.f.ints HTl.o))
   clear hOk hSu
   go_wp2_with fail
   refine HTh.o.mono ?_
   rintro e V1 ⟨rfl,hb⟩
   have HC1:=aA (HC0.o.below hb)
   clear hb HC0 HTh e0 e1 e2 e3 e4 e5
   generalize dB q T=m at *
   generalize hgb:V.heap.size=gb at *
   have hb0:=HC1.o.hb
   have hb1:W.heap.size < gb:=by omega
   obtain⟨e0,e1,e2,e3,e4,e5⟩:=aH HC1.o.n
   obtain⟨r0,r1,r2,r3,r4,r5⟩:=aDr HC1.o.n
   obtain⟨c0,c1,c2,c3⟩:=aC HC1.o.f.c
   have HC2:=aA (HC1.o.put m)
   have HKn:=aA (aSh f d m (HC2.o.f.ins HMl.o) HOk2.o)
   obtain⟨⟨x,kb⟩,hX⟩:∃ X,knZ f d M m=X:=⟨_,rfl⟩
   rw[hX] at HKn
   have HX:=aA hX
   clear hX
   go_wp2_with fail
   refine HKn.o.mono ?_
   rintro e V2 ⟨rfl,hb⟩
   have HC3:=aA (HC2.o.below hb)
   clear hb HC2 HKn e0 e1 e2 e3 e4 e5 r0 r1 r2 r3 r4 r5 c0 c1 c2 c3
   obtain⟨e0,e1,e2,e3,e4,e5⟩:=aH HC3.o.n
   obtain⟨r0,r1,r2,r3,r4,r5⟩:=aDr HC3.o.n
   obtain⟨c0,c1,c2,c3⟩:=aC HC3.o.f.c
   cases kb
   ·have HZ:=aA (HNo.o x HX.o)
    have HSf:=aA (aSn m (k:Int) (HC3.o.f.ins HMl.o) HOk2.o)
    generalize fsZ (k:Int) (mI M m)=z at *
    clear HY HNo HX
    go_wp2_with fail
    refine HSf.o.mono ?_
    rintro e V3 ⟨rfl,hb⟩
    have HC4:=aA (HC3.o.below hb)
    clear hb HSf e0 e1 e2 e3 e4 e5 r0 r1 r2 r3 r4 r5 c0 c1 c2 c3
    obtain⟨e0,e1,e2,e3,e4,e5⟩:=aH HC4.o.n
    have HN5:=aA (aB.new V3 76 (ia m))
    have HF5:=aA (HC4.o.f.below (aD V3 (.cells (ia m) 76)))
    go_wp2_with (first
     | (at_builtin;refine kY rfl _ _ rfl rfl HF5.o.m HF5.o.lo.size _ m rfl HN5.o (by rw[HMl.o];omega) ?_;intro g cap' w2 hown hgr;have HF6:=aA (HF5.o.growM hgr hown);have HF7:=aA (HF6.o.below (aD w2 (.cells #[.i z] 3)));have HN7:=aA (aB.new w2 3 #[.i z]);clear hown hgr e0 e1 e2 e3 e4 e5)
     | (at_builtin;refine iB rfl _ _ rfl rfl HF7.o.t HF7.o.lo.size _ z rfl HN7.o (by rw[HTl.o];omega) ?_;intro g2 cap2 w3 hown2 hgr2))
    have HF8:=aA (HF7.o.growT hgr2 hown2)
    clear hown2 hgr2
    rw[HMl.o,HTl.o] at HF8 ⊢
    go_wp2_with fail
    go_roundw
    case rel=>exact⟨k+1,_,_,_,_,M++[m],T++[z],by omega,by go_num,rfl,rfl,HZ,aA (by simp[HMl.o]),aA (by simp[HTl.o]),HF8⟩
    case measure=>simp[intOf];omega
   ·have HZ:=aA (HY.o x HX.o)
    clear HY HNo HX
    obtain⟨V4,hV4⟩:∃ V4,(((((V2.setCell ⟨gb,0,none⟩ (.i 1)).setCell ⟨gb,1,none⟩ (.i 0)).setCell ⟨gb,2,none⟩ (.i 0)).setCell ⟨gb,3,none⟩ (.i 0)).setCell ⟨gb,4,none⟩ (.i x)).setCell ⟨gb,5,none⟩ (.i 0)=V4:=⟨_,rfl⟩
    have HC4:Hid (Fc W V4 (cd f d (some ⟨b,off,none⟩) n cap (o:Int)) (.slice (some ⟨gm,0,none⟩) k cm) (.slice (some ⟨gt,0,none⟩) k ct) M T gb (nuI x)):=aA (by rw[<-hV4];exact HC3.o.put (nuI x))
    have HN5:Hid (aB (V4.alloc (.cells #[.i 1,.i 0,.i 0,.i 0,.i x,.i 0] 76)) V4.heap.size 76 (ia (nuI x))):=aA (aB.new V4 76 (ia (nuI x)))
    have HF5:Hid (Fb W (V4.alloc (.cells #[.i 1,.i 0,.i 0,.i 0,.i x,.i 0] 76)) (cd f d (some ⟨b,off,none⟩) n cap (o:Int)) (.slice (some ⟨gm,0,none⟩) k cm) (.slice (some ⟨gt,0,none⟩) k ct) M T):=aA (HC4.o.f.below (aD V4 (.cells (ia (nuI x)) 76)))
    go_upto_region 12 with fail
    clear hV4 HC3 e0 e1 e2 e3 e4 e5 r0 r1 r2 r3 r4 r5 c0 c1 c2 c3
    obtain⟨e0,e1,e2,e3,e4,e5⟩:=aH HC4.o.n
    dsimp only [nuI] at e0 e1 e2 e3 e4 e5
    go_wp2_with (first
     | (at_builtin;refine kY rfl _ _ rfl rfl HF5.o.m HF5.o.lo.size _ (nuI x) rfl HN5.o (by rw[HMl.o];omega) ?_;intro g cap' w2 hown hgr;have HF6:=aA (HF5.o.growM hgr hown);have HF7:=aA (HF6.o.below (aD w2 (.cells #[.i (k:Int)] 3)));have HN7:=aA (aB.new w2 3 #[.i (k:Int)]);clear hown hgr e0 e1 e2 e3 e4 e5)
     | (at_builtin;refine iB rfl _ _ rfl rfl HF7.o.t HF7.o.lo.size _ (k:Int) rfl HN7.o (by rw[HTl.o];omega) ?_;intro g2 cap2 w3 hown2 hgr2))
    have HF8:=aA (HF7.o.growT hgr2 hown2)
    clear hown2 hgr2
    rw[HMl.o,HTl.o] at HF8 ⊢
    go_wp2_with fail
    go_roundw
    case rel=>exact⟨k+1,_,_,_,_,M++[(nuI x)],T++[(k:Int)],by omega,by go_num,rfl,rfl,HZ,aA (by simp[HMl.o]),aA (by simp[HTl.o]),HF8⟩
    case measure=>simp[intOf];omega
  ·obtain rfl:k=n:=by omega
   have hM:=HM.o
   rw[lTl (by rw[HLn.o];exact nLr _)] at hM
   have HM2:=aA hM
   obtain⟨c0,c1,c2,c3⟩:=aC HF.o.c
   have hf0:=HF.o.o.frozen 0
   have hf1:=HF.o.o.frozen 1
   have hf2:=HF.o.o.frozen 2
   have hf3:=HF.o.o.frozen 3
   obtain⟨p0,p1,p2,p3⟩:=aC HF.o.o
   obtain⟨b2,o2,e2',-,hat⟩:=(HF.o.ints HTl.o).at (by omega)
   cases e2'
   have t0:=hat o (by omega)
   rw[nZa] at t0
   have hw0:W.heap.size < V.heap.size:=HF.o.c.lt
   have hw1:W.heap.size+1 < V.heap.size:=HF.o.o.lt
   have i0':(0:Int)<=o:=by omega
   have i1':(o:Int) < k:=by omega
   clear hat hM HM HOk HSu
   obtain⟨z,hz⟩:∃ z,T.getD o 0=z:=⟨_,rfl⟩
   rw[hz] at t0
   have HZ:=aA hz
   clear hz
   go_wp2_with fail
   go_region
   have hq:(Value.slice (some ⟨gm,0,none⟩) k cm).ownBlock≠some (W.heap.size+1):=own_ne HF.o.m HF.o.o (by decide)
   have HO5:=aA (((((HF.o.o.set 0 (.i f)).set 1 (.i d)).set 2 (.slice (some ⟨gm,0,none⟩) k cm)).set 3 (.i z)).below (aF _))
   have HM5:=aA ((ownsRow_setCell_other (ownsRow_setCell_other (ownsRow_setCell_other (ownsRow_setCell_other HF.o.m (a:=⟨W.heap.size+1,0,none⟩) hq (.i f)) (a:=⟨W.heap.size+1,1,none⟩) hq (.i d)) (a:=⟨W.heap.size+1,2,none⟩) hq (.slice (some ⟨gm,0,none⟩) k cm)) (a:=⟨W.heap.size+1,3,none⟩) hq (.i z)).drew)
   have HB5:=aA (((((HF.o.lo.setCell (p:=⟨W.heap.size+1,0,none⟩) (by simp) (.i f)).setCell (p:=⟨W.heap.size+1,1,none⟩) (by simp) (.i d)).setCell (p:=⟨W.heap.size+1,2,none⟩) (by simp) (.slice (some ⟨gm,0,none⟩) k cm)).setCell (p:=⟨W.heap.size+1,3,none⟩) (by simp) (.i z)).drew)
   obtain⟨V5,hV5⟩:∃ V5,((((V.setCell ⟨W.heap.size+1,0,none⟩ (.i f)).setCell ⟨W.heap.size+1,1,none⟩ (.i d)).setCell ⟨W.heap.size+1,2,none⟩ (.slice (some ⟨gm,0,none⟩) k cm)).setCell ⟨W.heap.size+1,3,none⟩ (.i z)).drew=V5:=⟨_,rfl⟩
   rw[hV5] at HO5 HM5 HB5 ⊢
   obtain⟨x0,x1,x2,x3⟩:=aC HO5.o
   rw[HMl.o] at HM5
   clear hV5 c0 c1 c2 c3 p0 p1 p2 p3 hf0 hf1 hf2 hf3 t0 hq
   go_wp2_with fail
   have HR:Hid ((oZ f d L).1=M/\foO f d L (o:Int)=z):=aA (by rw[foO,HM2.o];exact⟨rfl,HZ.o⟩)
   exact bPr (v:=.agg (cd f d (some ⟨gm,0,none⟩) k cm z)) (by simp[results,Tryz.results263,go_sem,x0,x1,x2,x3]) rfl ⟨_,_,by rw[HR.o.2],by rw[HR.o.1];exact HM5.o,HB5.o⟩
end Go.Proofs.Fld
