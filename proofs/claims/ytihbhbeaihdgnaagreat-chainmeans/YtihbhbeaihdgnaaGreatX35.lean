import Derived.Test.YtihbhbeaihdgnaaGreatXH
import Derived.Deep.RegionHeld3
import Derived.Deep.AppendLies
import Derived.Lib.SliceRun
import Derived.Test.YtihbhbeaihdgnaaGreatX34
set_option maxRecDepth 100000
set_option maxHeartbeats 32000000
set_option linter.unusedVariables false
namespace Go.Proofs.Fld
open Go.RowKit Go.IntWalk Knd
open Cde (In i0 ia kd cd Ins tO aJ aK bB aF)
variable {M:List In} {m:In}
theorem rU {V V':World}{g o:Nat}{v:Value}(hb:Below V.heap.size V V')(h:V.cell? ⟨g,o,none⟩=some v)(hg:g < V.heap.size):V'.cell? ⟨g,o,none⟩=some v:=(hb.cell (p:=⟨g,o,none⟩) hg).trans h
theorem aUs:Tryz.prog.follows .mixedOrders=true:=by kernel_rfl
theorem aYd (h:m.op=8\/m.op=17):lU M m=[(isN M m.a 0,m.b),(isN M m.b 0,m.a)]:=by unfold lU;rw[if_pos h]
theorem aYe (h:m.op=10):lU M m=[(isN M m.a 1,m.b),(isN M m.b 1,m.a)]:=by unfold lU;rw[if_neg (by omega),if_pos h]
theorem aYf (h:m.op=16):lU M m=[(m.a==m.b,m.a),(isN M m.a 0,m.b),(isN M m.b 0,m.a)]:=by unfold lU;rw[if_neg (by omega),if_neg (by omega),if_pos h]
theorem aYg (h:m.op=15):lU M m=[(m.a==m.b,m.a),(isN M m.a (-1),m.b),(isN M m.b (-1),m.a)]:=by unfold lU;rw[if_neg (by omega),if_neg (by omega),if_neg (by omega),if_pos h]
theorem aYh (h:m.op=24\/m.op=25):lU M m=[(m.a==m.b,m.a)]:=by unfold lU;rw[if_neg (by omega),if_neg (by omega),if_neg (by omega),if_neg (by omega),if_pos h]
theorem aYi (h:m.op=9\/m.op=13\/m.op=14):lU M m=[(isN M m.b 0,m.a)]:=by unfold lU;rw[if_neg (by omega),if_neg (by omega),if_neg (by omega),if_neg (by omega),if_neg (by omega),if_pos h]
theorem aYj (h:m.op=11):lU M m=[(isN M m.b 1,m.a)]:=by unfold lU;rw[if_neg (by omega),if_neg (by omega),if_neg (by omega),if_neg (by omega),if_neg (by omega),if_neg (by omega),if_pos h]
theorem aYk (h:m.op=29\/m.op=30):lU M m=[(m.k==0,m.a)]:=by unfold lU;rw[if_neg (by omega),if_neg (by omega),if_neg (by omega),if_neg (by omega),if_neg (by omega),if_neg (by omega),if_neg (by omega),if_pos h]
theorem aYl (h:m.op=32):lU M m=[(m.k==1,m.a)]:=by unfold lU;rw[if_neg (by omega),if_neg (by omega),if_neg (by omega),if_neg (by omega),if_neg (by omega),if_neg (by omega),if_neg (by omega),if_neg (by omega),if_pos h]
theorem aYm (h:m.op=5):lU M m=[((rg M m.a).op==5,(rg M m.a).a)]:=by unfold lU;rw[if_neg (by omega),if_neg (by omega),if_neg (by omega),if_neg (by omega),if_neg (by omega),if_neg (by omega),if_neg (by omega),if_neg (by omega),if_neg (by omega),if_pos h]
theorem aWx (h:m.op=6):lU M m=[((rg M m.a).op==6,m.a)]:=by unfold lU;rw[if_neg (by omega),if_neg (by omega),if_neg (by omega),if_neg (by omega),if_neg (by omega),if_neg (by omega),if_neg (by omega),if_neg (by omega),if_neg (by omega),if_neg (by omega),if_pos h]
theorem aWy (h:m.op=28):lU M m=[(isN M m.a 0,m.c),((rg M m.a).op==1,m.b),(m.b==m.c,m.b)]:=by unfold lU;rw[if_neg (by omega),if_neg (by omega),if_neg (by omega),if_neg (by omega),if_neg (by omega),if_neg (by omega),if_neg (by omega),if_neg (by omega),if_neg (by omega),if_neg (by omega),if_neg (by omega),if_pos h]
theorem aWz (h:m.op=27):lU M m=[(m.a==m.b || m.a==m.c,m.a),(m.b==m.c,m.b)]:=by unfold lU;rw[if_neg (by omega),if_neg (by omega),if_neg (by omega),if_neg (by omega),if_neg (by omega),if_neg (by omega),if_neg (by omega),if_neg (by omega),if_neg (by omega),if_neg (by omega),if_neg (by omega),if_neg (by omega),if_pos h]
theorem aW0 (h:m.op=26):lU M m=[(m.b==m.c,m.b)]:=by unfold lU;rw[if_neg (by omega),if_neg (by omega),if_neg (by omega),if_neg (by omega),if_neg (by omega),if_neg (by omega),if_neg (by omega),if_neg (by omega),if_neg (by omega),if_neg (by omega),if_neg (by omega),if_neg (by omega),if_neg (by omega),if_pos h]
theorem aPt (m:In)(own:Int){va:Option Addr}{vn vc:Nat}{W:World}(hM:Ins W va vn vc M)(ho:bB m vn=true) :
  Calls Tryz.prog 184 #[.slice va vn vc,.agg (ia m),.int .i64 own] W fun e W'=>e=.returned (.int .i64 (yZ own (lU M m)))/\Below W.heap.size W W':=by
 have hb1:=aC W (.cells (ia m) 41)
 have HB:=aA hb1
 have HM:=aA (hM.later hb1)
 have hs:=hM.short
 have hin:=fun r=>mM ho (r:=r)
 have HN:=aA (aB.new W 41 (ia m))
 clear hM ho hb1
 obtain⟨R,hR⟩:∃ R,yZ own (lU M m)=R:=⟨_,rfl⟩
 rw[hR]
 go_enter Tryz.func184,Tryz.ntmps184
 go_wp2_with fail
 obtain⟨V,hV⟩:∃ V,W.alloc (.cells (ia m) 41)=V:=⟨_,rfl⟩
 rw[hV] at HB HN HM ⊢
 obtain⟨e0,e1,e2,e3,e4,e5⟩:=aJ HN.o
 have y1:=cell_regrown e1
 have y2:=cell_regrown e2
 have y3:=cell_regrown e3
 refine wp_region_quiet_below aUs (by kernel_rfl) ?_
 repeat (go_big_quiet_step (fail))
 refine wpQuiet_nil ?_
 intro V2 hw'
 obtain⟨⟨dq,osq⟩,hw''⟩:=hw'
 have hb:=below_regrown V dq osq
 simp only at hw''
 rw[<-hw''] at hb
 clear hw'' y1 y2 y3 e0 e1 e2 e3 e4 e5 hV
 have HB2:=aA (bel HB.o hb)
 have HN2:=aA (HN.o.below hb)
 have HM2:=aA (HM.o.later hb)
 have HI:=aA fun r k (h:dL r vn)=>aHb r k HM2.o h
 clear hb HB HN HM
 by_cases h0:m.op=8\/m.op=17
 ·rw[aYd h0] at hR
  have ha:ar m.op=2:=by rcases h0 with e|e <;> rw[e] <;> decide
  have ia:=hin m.a (by rw[iQ ha];simp)
  have ib:=hin m.b (by rw[iQ ha];simp)
  obtain⟨op,a,b,c,k,s⟩:=m
  dsimp only at h0 ha ia ib HN2 hR ⊢
  obtain⟨e0,e1,e2,e3,e4,e5⟩:=aJ HN2.o
  clear hin  ha
  have HJ1:=aA (HI.o a 0 ia)
  generalize isN M a 0=x0 at *
  have HJ2:=aA (HI.o b 0 ib)
  generalize isN M b 0=x1 at *
  have HR:=aA hR
  clear hR
  rcases h0 with rfl|rfl 
  all_goals
   go_wp2_with fail
   refine HJ1.o.mono ?_
   rintro e w' ⟨rfl,rfl⟩
   go_wp2_with fail
   refine HJ2.o.mono ?_
   rintro e w' ⟨rfl,rfl⟩
   go_wp2_with fail
   refine(bM own (n:=2) (L:=[(x0,b),(x1,a)]) (aB.new _ _ _) rfl (by decide)).mono ?_
   rintro e V3 ⟨rfl,hb⟩
   have HB3:=aA (bel (bel HB2.o (aC _ _)) hb)
   clear hb
   go_wp2_with fail
   go_ret
   exact⟨aN HR.o,HB3.o⟩
 by_cases h1:m.op=10
 ·rw[aYe h1] at hR
  have ha:ar m.op=2:=by rw[h1];decide
  have ia:=hin m.a (by rw[iQ ha];simp)
  have ib:=hin m.b (by rw[iQ ha];simp)
  obtain⟨op,a,b,c,k,s⟩:=m
  dsimp only at h1 ha ia ib HN2 hR ⊢
  obtain⟨e0,e1,e2,e3,e4,e5⟩:=aJ HN2.o
  clear hin h0 ha
  have HJ1:=aA (HI.o a 1 ia)
  generalize isN M a 1=x0 at *
  have HJ2:=aA (HI.o b 1 ib)
  generalize isN M b 1=x1 at *
  have HR:=aA hR
  clear hR
  subst h1
  go_wp2_with fail
  refine HJ1.o.mono ?_
  rintro e w' ⟨rfl,rfl⟩
  go_wp2_with fail
  refine HJ2.o.mono ?_
  rintro e w' ⟨rfl,rfl⟩
  go_wp2_with fail
  refine(bM own (n:=2) (L:=[(x0,b),(x1,a)]) (aB.new _ _ _) rfl (by decide)).mono ?_
  rintro e V3 ⟨rfl,hb⟩
  have HB3:=aA (bel (bel HB2.o (aC _ _)) hb)
  clear hb
  go_wp2_with fail
  go_ret
  exact⟨aN HR.o,HB3.o⟩
 by_cases h2:m.op=16
 ·rw[aYf h2] at hR
  have ha:ar m.op=2:=by rw[h2];decide
  have ia:=hin m.a (by rw[iQ ha];simp)
  have ib:=hin m.b (by rw[iQ ha];simp)
  obtain⟨op,a,b,c,k,s⟩:=m
  dsimp only at h2 ha ia ib HN2 hR ⊢
  obtain⟨e0,e1,e2,e3,e4,e5⟩:=aJ HN2.o
  clear hin h0 h1 ha
  have HJ1:=aA (HI.o a 0 ia)
  generalize isN M a 0=x0 at *
  have HJ2:=aA (HI.o b 0 ib)
  generalize isN M b 0=x1 at *
  have HR:=aA hR
  clear hR
  subst h2
  go_wp2_with fail
  refine HJ1.o.mono ?_
  rintro e w' ⟨rfl,rfl⟩
  go_wp2_with fail
  refine HJ2.o.mono ?_
  rintro e w' ⟨rfl,rfl⟩
  go_wp2_with fail
  refine(bM own (n:=3) (L:=[(a==b,a),(x0,b),(x1,a)]) (aB.new _ _ _) rfl (by decide)).mono ?_
  rintro e V3 ⟨rfl,hb⟩
  have HB3:=aA (bel (bel HB2.o (aC _ _)) hb)
  clear hb
  go_wp2_with fail
  go_ret
  exact⟨aN HR.o,HB3.o⟩
 by_cases h3:m.op=15
 ·rw[aYg h3] at hR
  have ha:ar m.op=2:=by rw[h3];decide
  have ia:=hin m.a (by rw[iQ ha];simp)
  have ib:=hin m.b (by rw[iQ ha];simp)
  obtain⟨op,a,b,c,k,s⟩:=m
  dsimp only at h3 ha ia ib HN2 hR ⊢
  obtain⟨e0,e1,e2,e3,e4,e5⟩:=aJ HN2.o
  clear hin h0 h1 h2 ha
  have HJ1:=aA (HI.o a (-1) ia)
  generalize isN M a (-1)=x0 at *
  have HJ2:=aA (HI.o b (-1) ib)
  generalize isN M b (-1)=x1 at *
  have HR:=aA hR
  clear hR
  subst h3
  go_wp2_with fail
  refine HJ1.o.mono ?_
  rintro e w' ⟨rfl,rfl⟩
  go_wp2_with fail
  refine HJ2.o.mono ?_
  rintro e w' ⟨rfl,rfl⟩
  go_wp2_with fail
  refine(bM own (n:=3) (L:=[(a==b,a),(x0,b),(x1,a)]) (aB.new _ _ _) rfl (by decide)).mono ?_
  rintro e V3 ⟨rfl,hb⟩
  have HB3:=aA (bel (bel HB2.o (aC _ _)) hb)
  clear hb
  go_wp2_with fail
  go_ret
  exact⟨aN HR.o,HB3.o⟩
 by_cases h4:m.op=24\/m.op=25
 ·rw[aYh h4] at hR
  have ha:ar m.op=2:=by rcases h4 with e|e <;> rw[e] <;> decide
  have ia:=hin m.a (by rw[iQ ha];simp)
  have ib:=hin m.b (by rw[iQ ha];simp)
  obtain⟨op,a,b,c,k,s⟩:=m
  dsimp only at h4 ha ia ib HN2 hR ⊢
  obtain⟨e0,e1,e2,e3,e4,e5⟩:=aJ HN2.o
  clear hin h0 h1 h2 h3 ha
  have HR:=aA hR
  clear hR
  rcases h4 with rfl|rfl 
  all_goals
   go_wp2_with fail
   refine(bM own (n:=1) (L:=[(a==b,a)]) (aB.new _ _ _) rfl (by decide)).mono ?_
   rintro e V3 ⟨rfl,hb⟩
   have HB3:=aA (bel (bel HB2.o (aC _ _)) hb)
   clear hb
   go_wp2_with fail
   go_ret
   exact⟨aN HR.o,HB3.o⟩
 by_cases h5:m.op=9\/m.op=13\/m.op=14
 ·rw[aYi h5] at hR
  have ha:ar m.op=2:=by rcases h5 with e|e|e <;> rw[e] <;> decide
  have ia:=hin m.a (by rw[iQ ha];simp)
  have ib:=hin m.b (by rw[iQ ha];simp)
  obtain⟨op,a,b,c,k,s⟩:=m
  dsimp only at h5 ha ia ib HN2 hR ⊢
  obtain⟨e0,e1,e2,e3,e4,e5⟩:=aJ HN2.o
  clear hin h0 h1 h2 h3 h4 ha
  have HJ1:=aA (HI.o b 0 ib)
  generalize isN M b 0=x0 at *
  have HR:=aA hR
  clear hR
  rcases h5 with rfl|rfl|rfl 
  all_goals
   go_wp2_with fail
   refine HJ1.o.mono ?_
   rintro e w' ⟨rfl,rfl⟩
   go_wp2_with fail
   refine(bM own (n:=1) (L:=[(x0,a)]) (aB.new _ _ _) rfl (by decide)).mono ?_
   rintro e V3 ⟨rfl,hb⟩
   have HB3:=aA (bel (bel HB2.o (aC _ _)) hb)
   clear hb
   go_wp2_with fail
   go_ret
   exact⟨aN HR.o,HB3.o⟩
 by_cases h6:m.op=11
 ·rw[aYj h6] at hR
  have ha:ar m.op=2:=by rw[h6];decide
  have ia:=hin m.a (by rw[iQ ha];simp)
  have ib:=hin m.b (by rw[iQ ha];simp)
  obtain⟨op,a,b,c,k,s⟩:=m
  dsimp only at h6 ha ia ib HN2 hR ⊢
  obtain⟨e0,e1,e2,e3,e4,e5⟩:=aJ HN2.o
  clear hin h0 h1 h2 h3 h4 h5 ha
  have HJ1:=aA (HI.o b 1 ib)
  generalize isN M b 1=x0 at *
  have HR:=aA hR
  clear hR
  subst h6
  go_wp2_with fail
  refine HJ1.o.mono ?_
  rintro e w' ⟨rfl,rfl⟩
  go_wp2_with fail
  refine(bM own (n:=1) (L:=[(x0,a)]) (aB.new _ _ _) rfl (by decide)).mono ?_
  rintro e V3 ⟨rfl,hb⟩
  have HB3:=aA (bel (bel HB2.o (aC _ _)) hb)
  clear hb
  go_wp2_with fail
  go_ret
  exact⟨aN HR.o,HB3.o⟩
 by_cases h7:m.op=29\/m.op=30
 ·rw[aYk h7] at hR
  have ha:ar m.op=1:=by rcases h7 with e|e <;> rw[e] <;> decide
  have ia:=hin m.a (by rw[vW ha];simp)
  obtain⟨op,a,b,c,k,s⟩:=m
  dsimp only at h7 ha ia HN2 hR ⊢
  obtain⟨e0,e1,e2,e3,e4,e5⟩:=aJ HN2.o
  clear hin h0 h1 h2 h3 h4 h5 h6 ha
  have HR:=aA hR
  clear hR
  rcases h7 with rfl|rfl 
  all_goals
   go_wp2_with fail
   refine(bM own (n:=1) (L:=[(k==0,a)]) (aB.new _ _ _) rfl (by decide)).mono ?_
   rintro e V3 ⟨rfl,hb⟩
   have HB3:=aA (bel (bel HB2.o (aC _ _)) hb)
   clear hb
   go_wp2_with fail
   go_ret
   exact⟨aN HR.o,HB3.o⟩
 by_cases h8:m.op=32
 ·rw[aYl h8] at hR
  have ha:ar m.op=1:=by rw[h8];decide
  have ia:=hin m.a (by rw[vW ha];simp)
  obtain⟨op,a,b,c,k,s⟩:=m
  dsimp only at h8 ha ia HN2 hR ⊢
  obtain⟨e0,e1,e2,e3,e4,e5⟩:=aJ HN2.o
  clear hin h0 h1 h2 h3 h4 h5 h6 h7 ha
  have HR:=aA hR
  clear hR
  subst h8
  go_wp2_with fail
  refine(bM own (n:=1) (L:=[(k==1,a)]) (aB.new _ _ _) rfl (by decide)).mono ?_
  rintro e V3 ⟨rfl,hb⟩
  have HB3:=aA (bel (bel HB2.o (aC _ _)) hb)
  clear hb
  go_wp2_with fail
  go_ret
  exact⟨aN HR.o,HB3.o⟩
 by_cases h9:m.op=5
 ·rw[aYm h9] at hR
  have ha:ar m.op=1:=by rw[h9];decide
  have ia:=hin m.a (by rw[vW ha];simp)
  obtain⟨ja,hja⟩:∃ k:Nat,m.a=k:=⟨m.a.toNat,by have:=ia.1;omega⟩
  have hj:ja < vn:=by have:=ia.2;omega
  obtain⟨g,off,rfl,hgl,hat⟩:=HM2.o.at (by omega)
  obtain⟨c0,c1,-,-,-,-⟩:=hat ja hj
  obtain⟨op,a,b,c,k,s⟩:=m
  dsimp only at h9 ha ia HN2 hR ⊢
  dsimp only at hja
  subst hja
  unfold rg at hR
  rw[Int.toNat_natCast] at hR
  obtain⟨e0,e1,e2,e3,e4,e5⟩:=aJ HN2.o
  clear hin h0 h1 h2 h3 h4 h5 h6 h7 h8 ha
  have HR:=aA hR
  clear hR
  subst h9
  have i0':(0:Int)<=ja:=by omega
  have i1':(ja:Int) < vn:=by omega
  generalize M.getD ja i0=z at *
  clear hat ia
  go_wp2_with fail
  have HF:=aA (bM own (n:=1) (g:=V2.heap.size) (W:=((V2.alloc (.cells #[.bool (z.op==5),.int .i64 z.a] 228)).drew)) (L:=[(z.op==5,z.a)]) ((aB.new V2 228 #[.bool (z.op==5),.int .i64 z.a]).below (aF _)) rfl (by decide))
  have hbx:Below V2.heap.size V2 ((V2.alloc (.cells #[.bool (z.op==5),.int .i64 z.a] 228)).drew):=bel (aC V2 _) (aF _)
  have HK0:=aA fun V3 (hb:Below ((V2.alloc (.cells #[.bool (z.op==5),.int .i64 z.a] 228)).drew).heap.size ((V2.alloc (.cells #[.bool (z.op==5),.int .i64 z.a] 228)).drew) V3)=>rU (bel hbx hb) c0 hgl
  have HK1:=aA fun V3 (hb:Below ((V2.alloc (.cells #[.bool (z.op==5),.int .i64 z.a] 228)).drew).heap.size ((V2.alloc (.cells #[.bool (z.op==5),.int .i64 z.a] 228)).drew) V3)=>rU (bel hbx hb) c1 hgl
  have HK2:=aA fun V3 (hb:Below ((V2.alloc (.cells #[.bool (z.op==5),.int .i64 z.a] 228)).drew).heap.size ((V2.alloc (.cells #[.bool (z.op==5),.int .i64 z.a] 228)).drew) V3)=>aA (bel HB2.o (bel hbx hb))
  clear hbx
  go_region_held3 (fun w'=>w'.cell? ⟨g,off+ja*6,none⟩=some (.int .i64 z.op)/\w'.cell? ⟨g,off+ja*6+1,none⟩=some (.int .i64 z.a))
   (first|exact⟨c0,c1⟩|exact⟨k0,k1⟩|go_keep)
   ((first
    | (go_at_call 213;refine HF.o.mono ?_;rintro e V3 ⟨rfl,hb⟩;have k0:=HK0.o V3 hb;have k1:=HK1.o V3 hb;have HB3:=HK2.o V3 hb)))
  all_goals
   clear k0 k1 hb
   go_wp2_with fail
   go_ret
   exact⟨aN HR.o,HB3.o⟩
 by_cases h10:m.op=6
 ·rw[aWx h10] at hR
  have ha:ar m.op=1:=by rw[h10];decide
  have ia:=hin m.a (by rw[vW ha];simp)
  obtain⟨ja,hja⟩:∃ k:Nat,m.a=k:=⟨m.a.toNat,by have:=ia.1;omega⟩
  have hj:ja < vn:=by have:=ia.2;omega
  obtain⟨g,off,rfl,hgl,hat⟩:=HM2.o.at (by omega)
  obtain⟨c0,c1,-,-,-,-⟩:=hat ja hj
  obtain⟨op,a,b,c,k,s⟩:=m
  dsimp only at h10 ha ia HN2 hR ⊢
  dsimp only at hja
  subst hja
  unfold rg at hR
  rw[Int.toNat_natCast] at hR
  obtain⟨e0,e1,e2,e3,e4,e5⟩:=aJ HN2.o
  clear hin h0 h1 h2 h3 h4 h5 h6 h7 h8 h9 ha
  have HR:=aA hR
  clear hR
  subst h10
  have i0':(0:Int)<=ja:=by omega
  have i1':(ja:Int) < vn:=by omega
  generalize M.getD ja i0=z at *
  clear hat ia
  go_wp2_with fail
  refine(bM own (n:=1) (L:=[(z.op==6,(ja:Int))]) (aB.new _ _ _) rfl (by decide)).mono ?_
  rintro e V3 ⟨rfl,hb⟩
  have HB3:=aA (bel (bel HB2.o (aC _ _)) hb)
  clear hb
  go_wp2_with fail
  go_ret
  exact⟨aN HR.o,HB3.o⟩
 by_cases h11:m.op=28
 ·rw[aWy h11] at hR
  have ha:ar m.op=3:=by rw[h11];decide
  have ia:=hin m.a (by rw[nS ha];simp)
  have ib:=hin m.b (by rw[nS ha];simp)
  have ic:=hin m.c (by rw[nS ha];simp)
  obtain⟨ja,hja⟩:∃ k:Nat,m.a=k:=⟨m.a.toNat,by have:=ia.1;omega⟩
  have hj:ja < vn:=by have:=ia.2;omega
  obtain⟨g,off,rfl,hgl,hat⟩:=HM2.o.at (by omega)
  obtain⟨c0,-,-,-,c4,-⟩:=hat ja hj
  obtain⟨op,a,b,c,k,s⟩:=m
  dsimp only at h11 ha ia ib ic HN2 hR ⊢
  dsimp only at hja
  subst hja
  unfold isN rg at hR
  rw[Int.toNat_natCast] at hR
  obtain⟨e0,e1,e2,e3,e4,e5⟩:=aJ HN2.o
  clear hin h0 h1 h2 h3 h4 h5 h6 h7 h8 h9 h10 ha
  have HR:=aA hR
  clear hR
  subst h11
  have i0':(0:Int)<=ja:=by omega
  have i1':(ja:Int) < vn:=by omega
  generalize M.getD ja i0=z at *
  clear hat ia
  go_wp2_with fail
  have HF:=aA (bM own (n:=3) (g:=V2.heap.size) (W:=((V2.alloc (.cells #[.bool (z.op==1&&z.k==0),.int .i64 c,.bool (z.op==1),.int .i64 b,.bool (b==c),.int .i64 b] 228)).drew)) (L:=[(z.op==1&&z.k==0,c),(z.op==1,b),(b==c,b)]) ((aB.new V2 228 #[.bool (z.op==1&&z.k==0),.int .i64 c,.bool (z.op==1),.int .i64 b,.bool (b==c),.int .i64 b]).below (aF _)) rfl (by decide))
  have hbx:Below V2.heap.size V2 ((V2.alloc (.cells #[.bool (z.op==1&&z.k==0),.int .i64 c,.bool (z.op==1),.int .i64 b,.bool (b==c),.int .i64 b] 228)).drew):=bel (aC V2 _) (aF _)
  have HK0:=aA fun V3 (hb:Below ((V2.alloc (.cells #[.bool (z.op==1&&z.k==0),.int .i64 c,.bool (z.op==1),.int .i64 b,.bool (b==c),.int .i64 b] 228)).drew).heap.size ((V2.alloc (.cells #[.bool (z.op==1&&z.k==0),.int .i64 c,.bool (z.op==1),.int .i64 b,.bool (b==c),.int .i64 b] 228)).drew) V3)=>rU (bel hbx hb) c0 hgl
  have HK1:=aA fun V3 (hb:Below ((V2.alloc (.cells #[.bool (z.op==1&&z.k==0),.int .i64 c,.bool (z.op==1),.int .i64 b,.bool (b==c),.int .i64 b] 228)).drew).heap.size ((V2.alloc (.cells #[.bool (z.op==1&&z.k==0),.int .i64 c,.bool (z.op==1),.int .i64 b,.bool (b==c),.int .i64 b] 228)).drew) V3)=>rU (bel hbx hb) c4 hgl
  have HK2:=aA fun V3 (hb:Below ((V2.alloc (.cells #[.bool (z.op==1&&z.k==0),.int .i64 c,.bool (z.op==1),.int .i64 b,.bool (b==c),.int .i64 b] 228)).drew).heap.size ((V2.alloc (.cells #[.bool (z.op==1&&z.k==0),.int .i64 c,.bool (z.op==1),.int .i64 b,.bool (b==c),.int .i64 b] 228)).drew) V3)=>aA (bel HB2.o (bel hbx hb))
  clear hbx
  go_region_held3 (fun w'=>w'.cell? ⟨g,off+ja*6,none⟩=some (.int .i64 z.op)/\w'.cell? ⟨g,off+ja*6+4,none⟩=some (.int .i64 z.k))
   (first|exact⟨c0,c4⟩|exact⟨k0,k1⟩|go_keep)
   ((first
    | (go_at_call 214;refine(aDe 0 hj (by first | exact c0 | go_keep) (by first | exact c4 | go_keep) hs).mono ?_;rintro e w2 ⟨rfl,rfl⟩)
    | (go_at_call 213;refine HF.o.mono ?_;rintro e V3 ⟨rfl,hb⟩;have k0:=HK0.o V3 hb;have k1:=HK1.o V3 hb;have HB3:=HK2.o V3 hb)))
  all_goals
   clear k0 k1 hb
   go_wp2_with fail
   go_ret
   exact⟨aN HR.o,HB3.o⟩
 by_cases h12:m.op=27
 ·rw[aWz h12] at hR
  have ha:ar m.op=3:=by rw[h12];decide
  have ia:=hin m.a (by rw[nS ha];simp)
  have ib:=hin m.b (by rw[nS ha];simp)
  have ic:=hin m.c (by rw[nS ha];simp)
  obtain⟨op,a,b,c,k,s⟩:=m
  dsimp only at h12 ha ia ib ic HN2 hR ⊢
  obtain⟨e0,e1,e2,e3,e4,e5⟩:=aJ HN2.o
  clear hin h0 h1 h2 h3 h4 h5 h6 h7 h8 h9 h10 h11 ha
  have HR:=aA hR
  clear hR
  subst h12
  cases hx:(a==b)
  ·go_wp2_with fail
   refine(bM own (n:=2) (L:=[(a==c,a),(b==c,b)]) (aB.new _ _ _) rfl (by decide)).mono ?_
   rintro e V3 ⟨rfl,hb⟩
   have HB3:=aA (bel (bel HB2.o (aC _ _)) hb)
   clear hb
   go_wp2_with fail
   go_ret
   exact⟨aN (by have:=HR.o;rw[hx] at this;exact this),HB3.o⟩
  ·go_wp2_with fail
   refine(bM own (n:=2) (L:=[(true,a),(b==c,b)]) (aB.new _ _ _) rfl (by decide)).mono ?_
   rintro e V3 ⟨rfl,hb⟩
   have HB3:=aA (bel (bel HB2.o (aC _ _)) hb)
   clear hb
   go_wp2_with fail
   go_ret
   exact⟨aN (by have:=HR.o;rw[hx] at this;exact this),HB3.o⟩
 by_cases h13:m.op=26
 ·rw[aW0 h13] at hR
  have ha:ar m.op=3:=by rw[h13];decide
  have ia:=hin m.a (by rw[nS ha];simp)
  have ib:=hin m.b (by rw[nS ha];simp)
  have ic:=hin m.c (by rw[nS ha];simp)
  obtain⟨op,a,b,c,k,s⟩:=m
  dsimp only at h13 ha ia ib ic HN2 hR ⊢
  obtain⟨e0,e1,e2,e3,e4,e5⟩:=aJ HN2.o
  clear hin h0 h1 h2 h3 h4 h5 h6 h7 h8 h9 h10 h11 h12 ha
  have HR:=aA hR
  clear hR
  subst h13
  go_wp2_with fail
  refine(bM own (n:=1) (L:=[(b==c,b)]) (aB.new _ _ _) rfl (by decide)).mono ?_
  rintro e V3 ⟨rfl,hb⟩
  have HB3:=aA (bel (bel HB2.o (aC _ _)) hb)
  clear hb
  go_wp2_with fail
  go_ret
  exact⟨aN HR.o,HB3.o⟩
 ·rw[show lU M m=[] by unfold lU;rw[if_neg h0,if_neg h1,if_neg h2,if_neg h3,if_neg h4,if_neg h5,if_neg h6,if_neg h7,if_neg h8,if_neg h9,if_neg h10,if_neg h11,if_neg h12,if_neg h13]] at hR
  obtain⟨op,a,b,c,k,s⟩:=m
  dsimp only at *
  have q5:(op==5)=false:=by simp;omega
  have q6:(op==6)=false:=by simp;omega
  have q8:(op==8)=false:=by simp;omega
  have q9:(op==9)=false:=by simp;omega
  have q10:(op==10)=false:=by simp;omega
  have q11:(op==11)=false:=by simp;omega
  have q13:(op==13)=false:=by simp;omega
  have q14:(op==14)=false:=by simp;omega
  have q15:(op==15)=false:=by simp;omega
  have q16:(op==16)=false:=by simp;omega
  have q17:(op==17)=false:=by simp;omega
  have q24:(op==24)=false:=by simp;omega
  have q25:(op==25)=false:=by simp;omega
  have q26:(op==26)=false:=by simp;omega
  have q27:(op==27)=false:=by simp;omega
  have q28:(op==28)=false:=by simp;omega
  have q29:(op==29)=false:=by simp;omega
  have q30:(op==30)=false:=by simp;omega
  have q32:(op==32)=false:=by simp;omega
  obtain⟨e0,e1,e2,e3,e4,e5⟩:=aJ HN2.o
  clear hin HI h0 h1 h2 h3 h4 h5 h6 h7 h8 h9 h10 h11 h12 h13
  go_wp2_with fail
  go_ret
  exact⟨aN hR,HB2.o⟩
end Go.Proofs.Fld
namespace Go.Proofs.Fld
open Go.RowKit Go.IntWalk Knd
open Cde (In i0 ia kd cd Ins tO aJ aD aQ aK bB dX aF bU i6 zA aH)
variable {L M:List In} {V W w w':World} {b base c n size:Nat} {mv tv v:Value} {a:Option Addr} {e t:TypeId} {xs:List Value} {cs cv:Array Value} {T:List Int}
theorem aPn (f d:Int)(m:In){va:Option Addr}{vn vc:Nat}(hM:Ins W va vn vc M)(ho:bB m vn=true) :
  Calls Tryz.prog 183 #[.slice va vn vc,.agg (kd f d),.agg (ia m)] W fun e W'=>e=.returned (.tuple #[.int .i64 (knZ f d M m).1,.bool (knZ f d M m).2])/\Below W.heap.size W W':=by
 have hb2:=bel (aC W (.cells (kd f d) 23)) (aC (W.alloc (.cells (kd f d) 23)) (.cells (ia m) 41))
 have HB:=aA hb2
 have HM:=aA (hM.later hb2)
 have HN:=aA (aK W (.cells (kd f d) 23) 41 (ia m))
 have HBn:=aA fun V=>aFf f d m V
 have HRk:=aA fun V (h:Ins V va vn vc M)=>aPq m h ho
 have HSe:=aA fun V (h:Ins V va vn vc M)=>aPs m h ho
 unfold knZ
 generalize bnZ f d m=X at *
 generalize rkZ M m=Y at *
 generalize stZ M m=Z at *
 obtain⟨X1,X2⟩:=X
 obtain⟨Y1,Y2⟩:=Y
 obtain⟨Z1,Z2⟩:=Z
 clear hM ho hb2
 dsimp only at *
 cases X2
 ·rw[if_neg (by decide)]
  cases Y2
  ·rw[if_neg (by decide)]
   go_enter Tryz.func183,Tryz.ntmps183
   go_wp2_with fail
   refine(HBn.o _).mono ?_
   rintro e V1 ⟨rfl,hb⟩
   have HB1:=aA (bel HB.o hb)
   have HM1:=aA (HM.o.later hb)
   have HN1:=aA (HN.o.below hb)
   obtain⟨e0,e1,e2,e3,e4,e5⟩:=aJ HN1.o
   clear hb
   go_wp2_with fail
   refine(HRk.o _ HM1.o).mono ?_
   rintro e V2 ⟨rfl,hb⟩
   have HB2:=aA (bel HB1.o hb)
   have HM2:=aA (HM1.o.later hb)
   have HN2:=aA (HN1.o.below hb)
   clear hb e0 e1 e2 e3 e4 e5
   obtain⟨e0,e1,e2,e3,e4,e5⟩:=aJ HN2.o
   go_wp2_with fail
   refine(HSe.o _ HM2.o).mono ?_
   rintro e V3 ⟨rfl,hb⟩
   have HB3:=aA (bel HB2.o hb)
   clear hb e0 e1 e2 e3 e4 e5
   go_wp2_with fail
   exact bodyPost_ret (v:=.tuple #[.int .i64 Z1,.bool Z2]) (by simp[results,Tryz.results183,go_sem]) rfl ⟨rfl,HB3.o⟩
  ·rw[if_pos rfl]
   go_enter Tryz.func183,Tryz.ntmps183
   go_wp2_with fail
   refine(HBn.o _).mono ?_
   rintro e V1 ⟨rfl,hb⟩
   have HB1:=aA (bel HB.o hb)
   have HM1:=aA (HM.o.later hb)
   have HN1:=aA (HN.o.below hb)
   obtain⟨e0,e1,e2,e3,e4,e5⟩:=aJ HN1.o
   clear hb
   go_wp2_with fail
   refine(HRk.o _ HM1.o).mono ?_
   rintro e V2 ⟨rfl,hb⟩
   have HB2:=aA (bel HB1.o hb)
   clear hb e0 e1 e2 e3 e4 e5
   go_wp2_with fail
   exact bodyPost_ret (v:=.tuple #[.int .i64 Y1,.bool true]) (by simp[results,Tryz.results183,go_sem]) rfl ⟨rfl,HB2.o⟩
 ·rw[if_pos rfl]
  go_enter Tryz.func183,Tryz.ntmps183
  go_wp2_with fail
  refine(HBn.o _).mono ?_
  rintro e V1 ⟨rfl,hb⟩
  have HB1:=aA (bel HB.o hb)
  clear hb
  go_wp2_with fail
  exact bodyPost_ret (v:=.tuple #[.int .i64 X1,.bool true]) (by simp[results,Tryz.results183,go_sem]) rfl ⟨rfl,HB1.o⟩
theorem kP:(Tryz.prog.info? 41).map (fun i=>(i.zero,i.size,i.bytes))=some (some (.agg (ia i0)),6,48):=by kernel_rfl
theorem lJ {n:In}(h:aB W b 41 (ia n)):∀ j u,(i6 n)[j]?=some u->W.cell? ((⟨b,0,none⟩:Addr).add j)=some u:=by
 intro j u hu
 rw[Addr.add_lit,Nat.zero_add]
 exact h.cell j (by rw[<-hu];simp[ia,i6])
theorem jH {ops:Array Oper}{rest:List Oper}{o:Oper}{a:Act}{Q:Exit->Act->World->Prop}
  (hgd:o.guard=none) (s x:Operand) (ho:o.op=.call { callee:=.builtin .append,args:=#[s,x],argTypes:=#[201,201] })
  (hs:a.eval s=v) (hen:V.ownsRow base 41 6 v L.length (bU L)) (hbase:base<=V.heap.size) (b:Nat) (n:In) (hx:a.eval x=.slice (some ⟨b,0,none⟩) 1 1) (hc:aB V b 41 (ia n)) (h3:L.length<=2000000)
  (h:∀ g cap w',w'.ownsRow base 41 6 (.slice (some ⟨g,0,none⟩) (L.length+1) cap) (L++[n]).length (bU (L++[n]))->V.grownBy w' v.ownBlock->wpList Tryz.prog ops Q rest (a.put o.dst (.slice (some ⟨g,0,none⟩) (L.length+1) cap)) w') :
  wpList Tryz.prog ops Q (o::rest) a V:=by
 obtain⟨i0',hi0,hz0,hz1,hz2⟩:=Spn.info_parts kP
 refine wpList_append_lies V hgd s x 201 ho base 41 i0' _ 6 48 Tryz.underlying201 hi0 hz0 hz1 hz2 rfl (by omega) v L.length (bU L) hs hen ⟨b,0,none⟩ 1 1 (i6 n) hx rfl (lJ hc) (by simp[Value.oneCell',i6]) (by omega) (by unfold maxLen;omega) (by omega) hbase V.heap.size rfl ?_
 intro g cap w' hown hgrow hat hlt
 refine h g cap w' ?_ hgrow
 rw[Cde.oJ,List.length_append]
 exact hown
theorem gH {L:List Int}{ops:Array Oper}{rest:List Oper}{o:Oper}{a:Act}{Q:Exit->Act->World->Prop}
  (hgd:o.guard=none) (s x:Operand) (ho:o.op=.call { callee:=.builtin .append,args:=#[s,x],argTypes:=#[42,42] })
  (hs:a.eval s=v) (hen:V.ownsRow base 3 1 v L.length (eG L)) (hbase:base<=V.heap.size) (b:Nat) (p:Int) (hx:a.eval x=.slice (some ⟨b,0,none⟩) 1 1) (hc:aB V b 3 #[.int .i64 p]) (h3:L.length<=2000000)
  (h:∀ g cap w',w'.ownsRow base 3 1 (.slice (some ⟨g,0,none⟩) (L.length+1) cap) (L++[p]).length (eG (L++[p]))->V.grownBy w' v.ownBlock->wpList Tryz.prog ops Q rest (a.put o.dst (.slice (some ⟨g,0,none⟩) (L.length+1) cap)) w') :
  wpList Tryz.prog ops Q (o::rest) a V:=by
 obtain⟨i0',hi0,hz0,hz1,hz2⟩:=info_parts info3
 refine wpList_append_lies V hgd s x 42 ho base 3 i0' _ 1 8 Tryz.underlying42 hi0 hz0 hz1 hz2 rfl (by omega) v L.length (eG L) hs hen ⟨b,0,none⟩ 1 1 [.int .i64 p] hx rfl (Cde.jI hc) (by simp[Value.oneCell']) (by omega) (by unfold maxLen;omega) (by omega) hbase V.heap.size rfl ?_
 intro g cap w' hown hgrow hat hlt
 exact h g cap w' (by rw[List.length_append];simpa using hown) hgrow
theorem oC (h:Ins w none n c L):n=0/\c=0/\L=[]:=by
 have h1:=h.nil rfl
 have h2:=h.le
 have h3:=h.len
 exact⟨by omega,h1,List.eq_nil_of_length_eq_zero (by omega)⟩
theorem iU (hb:Ins w a n c L)(hn:n<=2000000)(hn0:0 < n) :
  Calls Tryz.prog 36 #[.slice a n c] w fun e w'=>∃ a' c',e=.returned (.slice a' n c')/\w'.ownsRow w.heap.size 41 6 (.slice a' n c') n (bU L)/\Below w.heap.size w w':=by
 obtain⟨i0',hi,hz0,hz1,hz2⟩:=Spn.info_parts kP
 have heq:∀(w:World) (a:Option Addr) (n c:Nat),(binOp .eql 24 (.slice a n c) (.slice none 0 0)).run Tryz.prog w=.ok (.bool a.isNone) w:=fun w a n c=>Lib.run_eql_slice_nil w 24 41 a n c 0 0 Tryz.underlying24
 cases a with
 | none =>
  obtain⟨rfl,-,-⟩:=oC hb
  omega
 | some ad =>
  have hl:(bU L).length=n*6:=by rw[Cde.sG,hb.len]
  have hbel:Below w.heap.size w (w.alloc (.cells #[] 41)):=aC _ _
  have HBel:=aA hbel
  have HN:=aA ((hb.later hbel).news ad rfl)
  have HO:Hid ((w.alloc (.cells #[] 41)).ownsRow w.heap.size 41 6 (.slice (some ⟨w.heap.size,0,none⟩) 0 0) 0 []):=aA ⟨rfl,.inr ⟨w.heap.size,0,#[],rfl,Nat.le_refl _,heap_alloc_new w _,Nat.le_refl _,Nat.zero_le _,rfl,rfl⟩⟩
  have HL:=aA hl
  clear hb hbel hl
  go_enter Tryz.func36,Tryz.ntmps36
  go_wp2_with (at_builtin;refine wpList_append_lies _ rfl _ _ 24 rfl w.heap.size 41 i0' _ 6 48 Tryz.underlying24 hi hz0 hz1 hz2 rfl (by omega) (.slice (some ⟨w.heap.size,0,none⟩) 0 0) 0 [] rfl HO.o ad n c (bU L) rfl HL.o HN.o (Cde.aBq L) hn0 (by unfold maxLen;omega) (by omega) (by simp) _ rfl ?_;intro g cap w2 hown hgr hat hlt)
  rw[Nat.zero_add,List.nil_append] at hown
  have HO2:=aA hown
  have HB2:=aA (HBel.o.grown hgr HBel.o.size (fun k h=>by cases h;exact Nat.le_refl _))
  clear hown hgr hat hlt
  go_wp2_with fail
  go_ret
  exact⟨_,_,rfl,HO2.o,HB2.o⟩
theorem own_ne (h:W.ownsRow base e size v n xs)(hb:aB W b t cs)(ht:t≠e):v.ownBlock≠some b:=by
 intro hk
 obtain⟨-,cs',fr,h2⟩:=Cde.aM h b hk
 rw[hb] at h2
 cases h2
 exact ht rfl
theorem aP (h:V.ownsRow base e size v n xs)(hg:V.grownBy w' v.ownBlock)(hb:aB V b t cs)(ht:t≠e):aB w' b t cs :=
 hb.kept hg fun he=>own_ne h hb ht he.symm
theorem gM {base':Nat}{e':TypeId}{size' n':Nat}{v':Value}{xs':List Value}(h:V.ownsRow base e size v n xs)(h':V.ownsRow base' e' size' v' n' xs')(ht:e≠e')(hg:V.grownBy w' v.ownBlock):w'.ownsRow base' e' size' v' n' xs':=by
 refine h'.kept hg ?_
 cases hv:v'.ownBlock with
 | none=>exact .inl rfl
 | some q =>
  right
  intro hq
  obtain⟨-,cs,fr,h1⟩:=Cde.aM h q hq.symm
  obtain⟨-,cs',fr',h2⟩:=Cde.aM h' q hv
  rw[h1] at h2
  cases h2
  exact ht rfl
abbrev bZ:Array Value:=#[.int .i64 0,.int .i64 0,.slice none 0 0,.int .i64 0]
structure Fb (W V:World)(cv:Array Value)(mv tv:Value)(M:List In)(T:List Int):Prop where
 c:aB V W.heap.size 26 cv
 o:aB V (W.heap.size+1) 26 bZ
 m:V.ownsRow W.heap.size 41 6 mv M.length (bU M)
 t:V.ownsRow W.heap.size 3 1 tv T.length (eG T)
 lo:Below W.heap.size W V
theorem Fb.below {W V V':World}{cv:Array Value}{mv tv:Value}{M:List In}{T:List Int}(h:Fb W V cv mv tv M T)(hb:Below V.heap.size V V'):Fb W V' cv mv tv M T :=
 ⟨h.c.below hb,h.o.below hb,Cde.bD h.m hb,Cde.bD h.t hb,bel h.lo hb⟩
theorem Fb.growM {mv':Value}{M':List In}(h:Fb W V cv mv tv M T)(hg:V.grownBy w' mv.ownBlock)(hO:w'.ownsRow W.heap.size 41 6 mv' M'.length (bU M')):Fb W w' cv mv' tv M' T :=
 ⟨aP h.m hg h.c (by decide),aP h.m hg h.o (by decide),hO,gM h.m h.t (by decide) hg,h.lo.grown hg h.lo.size fun k hk=>(Cde.aM h.m k hk).1⟩
theorem Fb.growT {tv':Value}{T':List Int}(h:Fb W V cv mv tv M T)(hg:V.grownBy w' tv.ownBlock)(hO:w'.ownsRow W.heap.size 3 1 tv' T'.length (eG T')):Fb W w' cv mv tv' M T' :=
 ⟨aP h.t hg h.c (by decide),aP h.t hg h.o (by decide),gM h.t h.m (by decide) hg,hO,h.lo.grown hg h.lo.size fun k hk=>(Cde.aM h.t k hk).1⟩
abbrev s6 (w:World)(b:Nat)(n:In):World :=
 (((((w.setCell ⟨b,0,none⟩ (.int .i64 n.op)).setCell ⟨b,1,none⟩ (.int .i64 n.a)).setCell ⟨b,2,none⟩ (.int .i64 n.b)).setCell ⟨b,3,none⟩ (.int .i64 n.c)).setCell ⟨b,4,none⟩ (.int .i64 n.k)).setCell ⟨b,5,none⟩ (.int .i64 n.s)
theorem aGf {n m:In}(h:aB w b 41 (ia n)):aB (s6 w b m) b 41 (ia m):=(((((h.set 0 _).set 1 _).set 2 _).set 3 _).set 4 _).set 5 _
theorem xZ {q:Nat}(h:aB w q t cs)(hq:q≠b)(m:In):aB (s6 w b m) q t cs :=
 (((((h.other (p:=⟨b,0,none⟩) hq _).other (p:=⟨b,1,none⟩) hq _).other (p:=⟨b,2,none⟩) hq _).other (p:=⟨b,3,none⟩) hq _).other (p:=⟨b,4,none⟩) hq _).other (p:=⟨b,5,none⟩) hq _
theorem yA (h:w.ownsRow base e size v n xs)(hq:v.ownBlock≠some b)(m:In):(s6 w b m).ownsRow base e size v n xs :=
 ownsRow_setCell_other (ownsRow_setCell_other (ownsRow_setCell_other (ownsRow_setCell_other (ownsRow_setCell_other (ownsRow_setCell_other h (a:=⟨b,0,none⟩) hq _) (a:=⟨b,1,none⟩) hq _) (a:=⟨b,2,none⟩) hq _) (a:=⟨b,3,none⟩) hq _) (a:=⟨b,4,none⟩) hq _) (a:=⟨b,5,none⟩) hq _
theorem aGe (h:Below w.heap.size w V)(hb:w.heap.size<=b)(m:In):Below w.heap.size w (s6 V b m) :=
 (((((h.setCell (p:=⟨b,0,none⟩) hb _).setCell (p:=⟨b,1,none⟩) hb _).setCell (p:=⟨b,2,none⟩) hb _).setCell (p:=⟨b,3,none⟩) hb _).setCell (p:=⟨b,4,none⟩) hb _).setCell (p:=⟨b,5,none⟩) hb _
structure Fc (W V:World)(cv:Array Value)(mv tv:Value)(M:List In)(T:List Int)(b:Nat)(n:In):Prop where
 f:Fb W V cv mv tv M T
 n:aB V b 41 (ia n)
 hb:W.heap.size+1 < b
 hm:mv.ownBlock≠some b
theorem Fc.below {W V V':World}{cv:Array Value}{mv tv:Value}{M:List In}{T:List Int}{b:Nat}{n:In}(h:Fc W V cv mv tv M T b n)(hb:Below V.heap.size V V'):Fc W V' cv mv tv M T b n:=⟨h.f.below hb,h.n.below hb,h.hb,h.hm⟩
theorem Fc.put {n:In}(h:Fc W V cv mv tv M T b n)(m:In):Fc W (s6 V b m) cv mv tv M T b m :=
 have hb:=h.hb
 ⟨⟨xZ h.f.c (by omega) m,xZ h.f.o (by omega) m,yA h.f.m h.hm m,yA h.f.t (own_ne h.f.t h.n (by decide)) m,aGe h.f.lo (by omega) m⟩,aGf h.n,hb,h.hm⟩
theorem Fb.with (h:Fb W V cv mv tv M T)(n:In):Fc W (V.alloc (.cells (ia n) 41)) cv mv tv M T V.heap.size n :=
 ⟨h.below (aC _ _),aB.new V 41 (ia n),h.o.lt,fun hk=>by
  obtain⟨-,cs,fr,h1⟩:=Cde.aM h.m _ hk
  have:=(Array.getElem?_eq_some_iff.1 h1).1
  omega⟩
theorem Fb.ints {k:Nat}(h:Fb W V cv mv (.slice a k c) M T)(hk:T.length=k):Ints V a k c T:=by
 obtain⟨a',c',e,hi,-⟩:=Ints.of_owns h.t
 cases e
 rw[hk] at hi
 exact hi
theorem Fb.ins {k:Nat}(h:Fb W V cv (.slice a k c) tv M T)(hk:M.length=k):Ins V a k c M:=by
 obtain⟨a',c',e,hi,-⟩:=Ins.of_owns h.m
 cases e
 rw[hk] at hi
 exact hi
theorem aCm {n:In}(h:aB W b t (ia n)):W.frozen? ⟨b,0,none⟩=false/\W.frozen? ⟨b,1,none⟩=false/\W.frozen? ⟨b,2,none⟩=false/\W.frozen? ⟨b,3,none⟩=false/\W.frozen? ⟨b,4,none⟩=false/\W.frozen? ⟨b,5,none⟩=false :=
 ⟨h.frozen 0,h.frozen 1,h.frozen 2,h.frozen 3,h.frozen 4,h.frozen 5⟩
theorem aBw (n:Nat)(h:n<=1024):∃ cs:Array Value,cs.size=n*6/\∀ w:World,(Instr.makeSlice 201 (.int .i64 0) (.int .i64 n)).run Tryz.prog w=.ok (.slice (some ⟨w.heap.size,0,none⟩) 0 n) (w.alloc (.cells cs 41)):=by
 obtain⟨i0',hi,hz0,hz1,hz2⟩:=Spn.info_parts kP
 refine⟨madeCells (Value.agg (ia i0)).cells (n*6),size_madeCells _ _,fun w=>?_⟩
 have:=run_make w 201 41 i0' _ Tryz.underlying201 hi hz0 .i64 .i64 0 n (by omega) (by omega) (by rw[hz2];omega) (by omega)
 rw[hz1] at this
 simp only[Int.toNat_natCast] at this
 exact this
theorem aBy (n:Nat)(h:n<=1024):∃ cs:Array Value,cs.size=n*1/\∀ w:World,(Instr.makeSlice 42 (.int .i64 0) (.int .i64 n)).run Tryz.prog w=.ok (.slice (some ⟨w.heap.size,0,none⟩) 0 n) (w.alloc (.cells cs 3)):=by
 obtain⟨i0',hi,hz0,hz1,hz2⟩:=info_parts info3
 refine⟨madeCells (Value.int .i64 0).cells (n*1),size_madeCells _ _,fun w=>?_⟩
 have:=run_make w 42 3 i0' _ Tryz.underlying42 hi hz0 .i64 .i64 0 n (by omega) (by omega) (by rw[hz2];omega) (by omega)
 rw[hz1] at this
 simp only[Int.toNat_natCast] at this
 exact this
theorem iZ (h:aB V b e cs)(hs:cs.size=n*size)(hb:W.heap.size<=b)(hn:n<=1024):V.ownsRow W.heap.size e size (.slice (some ⟨b,0,none⟩) 0 n) 0 [] :=
 ⟨by simp,.inr ⟨b,n,cs,rfl,hb,h,Nat.zero_le _,by unfold maxLen;omega,hs,by simp⟩⟩
end Go.Proofs.Fld
