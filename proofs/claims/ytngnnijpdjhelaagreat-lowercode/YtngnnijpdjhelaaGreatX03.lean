import Derived.Deep.RegionHeld3
import Derived.Test.YtngnnijpdjhelaaGreatX02
namespace Go.Proofs.YtngnnijpdjhelaaGreat.Knd
open Go.RowKit
set_option linter.unusedVariables false
set_option maxRecDepth 100000
set_option maxHeartbeats 16000000
def lz (f d:Int):Nat->Int
 | 0=>0 | 1=>0 | 2=>0 | 3=>lowZ f d | 4=>highZ f d | _=>borderZ f d
def mz (f d x y:Int):Nat->Int
 | 0=>x | 1=>y | 2=>3 | 3=>lowZ f d | 4=>highZ f d | _=>borderZ f d
theorem upto5 (k:Nat)(h:k<=5):k=0\/k=1\/k=2\/k=3\/k=4\/k=5:=by omega
theorem lz_at (f d:Int)(k:Nat)(h:k<=5):(#[Value.int .i64 0,.int .i64 0,.int .i64 0,.int .i64 (lowZ f d),.int .i64 (highZ f d),.int .i64 (borderZ f d)])[k]?=some (.int .i64 (lz f d k)):=by
 rcases upto5 k h with rfl|rfl|rfl|rfl|rfl|rfl <;> rfl
theorem mz_at (f d x y:Int)(k:Nat)(h:k<=5):(#[Value.int .i64 x,.int .i64 y,.int .i64 3,.int .i64 (lowZ f d),.int .i64 (highZ f d),.int .i64 (borderZ f d)])[k]?=some (.int .i64 (mz f d x y k)):=by
 rcases upto5 k h with rfl|rfl|rfl|rfl|rfl|rfl <;> rfl
theorem inV_at (f d:Int)(hm:May f d)(k:Nat)(h:k<=5):inV f d (k:Int)=.tuple #[.agg #[.int .i64 (lz f d k),.int .i64 (mz f d (colZ f-1) (rowZ f-1) k)],.bool true]:=by
 rcases upto5 k h with rfl|rfl|rfl|rfl|rfl|rfl <;> simp[inV,inZ,hm,lz,mz]
theorem rinput_ok (f d:Int)(n:Nat)(hm:May f d)(h5:n<=5)(w:World) :
  Calls Tryz.prog 81 #[.agg #[.int .i64 f,.int .i64 d],.int .i64 (n:Int)] w fun e w'=>e=.returned (inV f d (n:Int))/\Below w.heap.size w w':=by
 have hq1:¬((n:Int) < 0):=by omega
 have hq2:¬(5 < (n:Int)):=by omega
 have HB1:=hide ((bel1 w (.cells #[.int .i64 f,.int .i64 d] 23)).alloc (by simp) (.cells #[.int .i64 0,.int .i64 0] 103))
 have hR:HasC ((w.alloc (.cells #[.int .i64 f,.int .i64 d] 23)).alloc (.cells #[.int .i64 0,.int .i64 0] 103)) (w.heap.size+1) 103 #[.int .i64 0,.int .i64 0]:=by
  have:=HasC.new (w.alloc (.cells #[.int .i64 f,.int .i64 d] 23)) 103 #[.int .i64 0,.int .i64 0]
  rwa[World.size_alloc] at this
 have HR1:=hide hR
 have HK1:=hide ((HasC.new w 23 #[.int .i64 f,.int .i64 d]).alloc (.cells #[.int .i64 0,.int .i64 0] 103))
 clear hR
 go_enter Tryz.func81,Tryz.ntmps81
 go_wp2_with (go_at_call 54;refine(rmay_ok _ _ _ hm).mono ?_;rintro e w2 ⟨rfl,hb2⟩;have HR2:=hide (HR1.out.below hb2);have HK2:=hide (HK1.out.below hb2);have HB2:=hide (bel HB1.out hb2);clear hb2;obtain⟨s2,t2,u2,v2⟩:=facts2 HR2.out;obtain⟨x2,y2,-,-⟩:=facts2 HK2.out)
 clear HB1 HR1 HK1
 have HRd:Hid (HasC w2.drew (w.heap.size+1) 103 #[.int .i64 0,.int .i64 0]):=HR2.out
 have HKd:Hid (HasC w2.drew w.heap.size 23 #[.int .i64 f,.int .i64 d]):=HK2.out
 have HBd:=hide HB2.out.drew
 go_region_held3 (fun w'=>w'.cell? ⟨w.heap.size,0,none⟩=some (.int .i64 f)/\w'.cell? ⟨w.heap.size,1,none⟩=some (.int .i64 d))
  (first|exact⟨x3,y3⟩|exact⟨x4,y4⟩|exact⟨x5,y5⟩|exact⟨(HK5.out.alloc _).cell 0 rfl,(HK5.out.alloc _).cell 1 rfl⟩|(simp[go_sem,x2,y2];done))
  (first
   | (go_at_call 82;refine(rlow_any f d _).mono ?_;rintro e w3 ⟨rfl,hb3⟩;have HR3:=hide (HRd.out.below hb3);have HK3:=hide (HKd.out.below hb3);have HB3:=hide (bel HBd.out hb3);clear hb3;obtain⟨x3,y3,-,-⟩:=facts2 HK3.out)
   | (go_at_call 83;refine(rhigh_any f d _).mono ?_;rintro e w4 ⟨rfl,hb4⟩;have HR4:=hide (HR3.out.below hb4);have HK4:=hide (HK3.out.below hb4);have HB4:=hide (bel HB3.out hb4);clear hb4;obtain⟨x4,y4,-,-⟩:=facts2 HK4.out)
   | (go_at_call 111;refine(rborder_any f d _).mono ?_;rintro e w5 ⟨rfl,hb5⟩;have HR5:=hide (HR4.out.below hb5);have HK5:=hide (HK4.out.below hb5);have HB5:=hide (bel HB4.out hb5);clear hb5;obtain⟨x5,y5,-,-⟩:=facts2 HK5.out))
 have HR6:=hide (HR5.out.alloc (.cells #[.int .i64 0,.int .i64 0,.int .i64 0,.int .i64 (lowZ f d),.int .i64 (highZ f d),.int .i64 (borderZ f d)] 3))
 have HK6:=hide (HK5.out.alloc (.cells #[.int .i64 0,.int .i64 0,.int .i64 0,.int .i64 (lowZ f d),.int .i64 (highZ f d),.int .i64 (borderZ f d)] 3))
 have HB6:=hide (HB5.out.alloc HB5.out.size (.cells #[.int .i64 0,.int .i64 0,.int .i64 0,.int .i64 (lowZ f d),.int .i64 (highZ f d),.int .i64 (borderZ f d)] 3))
 have HL6:=hide (HasC.new w5 3 #[.int .i64 0,.int .i64 0,.int .i64 0,.int .i64 (lowZ f d),.int .i64 (highZ f d),.int .i64 (borderZ f d)])
 obtain⟨w6,hw6⟩:∃ w6,w5.alloc (.cells #[.int .i64 0,.int .i64 0,.int .i64 0,.int .i64 (lowZ f d),.int .i64 (highZ f d),.int .i64 (borderZ f d)] 3)=w6:=⟨_,rfl⟩
 obtain⟨g6,hg6⟩:∃ g6,w5.heap.size=g6:=⟨_,rfl⟩
 rw[hw6] at HR6 HK6 HB6 HL6 ⊢
 rw[hg6] at HL6 ⊢
 have HG6:Hid (w.heap.size+1 < g6):=by unfold Hid;rw[<-hg6];exact HR5.out.lt
 clear hw6 hg6 HRd HKd HBd HR2 HK2 HB2 HR3 HK3 HB3 HR4 HK4 HB4 HR5 HK5 HB5 s2 t2 u2 v2 x2 y2 x3 y3 x4 y4 x5 y5
 obtain⟨x6,y6,-,-⟩:=facts2 HK6.out
 go_wp2
 have HLd:Hid (HasC w6.drew g6 3 #[.int .i64 0,.int .i64 0,.int .i64 0,.int .i64 (lowZ f d),.int .i64 (highZ f d),.int .i64 (borderZ f d)]):=HL6.out
 have HRd:Hid (HasC w6.drew (w.heap.size+1) 103 #[.int .i64 0,.int .i64 0]):=HR6.out
 have HKd:Hid (HasC w6.drew w.heap.size 23 #[.int .i64 f,.int .i64 d]):=HK6.out
 have HBd:=hide HB6.out.drew
 go_region_held3 (fun w'=>w'.cell? ⟨w.heap.size,0,none⟩=some (.int .i64 f)/\w'.cell? ⟨w.heap.size,1,none⟩=some (.int .i64 d))
  (first|exact⟨x3,y3⟩|exact⟨x4,y4⟩|exact⟨x5,y5⟩|exact⟨(HK5.out.alloc _).cell 0 rfl,(HK5.out.alloc _).cell 1 rfl⟩|(simp[go_sem,x6,y6];done))
  (first
   | (go_at_call 82;refine(rlow_any f d _).mono ?_;rintro e w3 ⟨rfl,hb3⟩;have HL3:=hide (HLd.out.below hb3);have HR3:=hide (HRd.out.below hb3);have HK3:=hide (HKd.out.below hb3);have HB3:=hide (bel HBd.out hb3);clear hb3;obtain⟨x3,y3,-,-⟩:=facts2 HK3.out)
   | (go_at_call 83;refine(rhigh_any f d _).mono ?_;rintro e w4 ⟨rfl,hb4⟩;have HL4:=hide (HL3.out.below hb4);have HR4:=hide (HR3.out.below hb4);have HK4:=hide (HK3.out.below hb4);have HB4:=hide (bel HB3.out hb4);clear hb4;obtain⟨x4,y4,-,-⟩:=facts2 HK4.out)
   | (go_at_call 111;refine(rborder_any f d _).mono ?_;rintro e w5 ⟨rfl,hb5⟩;have HL5:=hide (HL4.out.below hb5);have HR5:=hide (HR4.out.below hb5);have HK5:=hide (HK4.out.below hb5);have HB5:=hide (bel HB4.out hb5);clear hb5;obtain⟨x5,y5,-,-⟩:=facts2 HK5.out))
 have HL7:=hide (HL5.out.alloc (.cells #[.int .i64 4095,.int .i64 4095,.int .i64 3,.int .i64 (lowZ f d),.int .i64 (highZ f d),.int .i64 (borderZ f d)] 3))
 have HR7:=hide (HR5.out.alloc (.cells #[.int .i64 4095,.int .i64 4095,.int .i64 3,.int .i64 (lowZ f d),.int .i64 (highZ f d),.int .i64 (borderZ f d)] 3))
 have HK7:=hide (HK5.out.alloc (.cells #[.int .i64 4095,.int .i64 4095,.int .i64 3,.int .i64 (lowZ f d),.int .i64 (highZ f d),.int .i64 (borderZ f d)] 3))
 have HB7:=hide (HB5.out.alloc HB5.out.size (.cells #[.int .i64 4095,.int .i64 4095,.int .i64 3,.int .i64 (lowZ f d),.int .i64 (highZ f d),.int .i64 (borderZ f d)] 3))
 have HM7:=hide (HasC.new w5 3 #[.int .i64 4095,.int .i64 4095,.int .i64 3,.int .i64 (lowZ f d),.int .i64 (highZ f d),.int .i64 (borderZ f d)])
 obtain⟨w7,hw7⟩:∃ w7,w5.alloc (.cells #[.int .i64 4095,.int .i64 4095,.int .i64 3,.int .i64 (lowZ f d),.int .i64 (highZ f d),.int .i64 (borderZ f d)] 3)=w7:=⟨_,rfl⟩
 obtain⟨g7,hg7⟩:∃ g7,w5.heap.size=g7:=⟨_,rfl⟩
 rw[hw7] at HL7 HR7 HK7 HB7 HM7 ⊢
 rw[hg7] at HM7 ⊢
 have HG7:Hid (g6 < g7):=by unfold Hid;rw[<-hg7];exact HL5.out.lt
 clear hw7 hg7 HLd HRd HKd HBd HL3 HR3 HK3 HB3 HL4 HR4 HK4 HB4 HL5 HR5 HK5 HB5 x3 y3 x4 y4 x5 y5 HR6 HK6 HB6 HL6 x6 y6
 obtain⟨x7,y7,-,-⟩:=facts2 HK7.out
 obtain⟨r0,r1,r2,r3⟩:=facts2 HR7.out
 have hl7:w7.cell? ⟨g6,n,none⟩=some (.int .i64 (lz f d n)):=HL7.out.cell n (lz_at f d n h5)
 have hm7:w7.cell? ⟨g7,n,none⟩=some (.int .i64 (mz f d 4095 4095 n)):=HM7.out.cell n (mz_at f d 4095 4095 n h5)
 have hi6:(n:Int) < 6:=by omega
 rcases hm.1 with rfl|rfl
 ·have HR8:=HR7
  have HB8:=HB7
  go_wp2
  go_region
  go_wp2
  obtain⟨c0,c1,hB⟩:=stored2 HR8.out HB8.out (by omega) (lz 0 d n) (mz 0 d 4095 4095 n)
  refine bodyPost_ret (v:=.tuple #[.agg #[.int .i64 (lz 0 d n),.int .i64 (mz 0 d 4095 4095 n)],.bool true]) ?_ rfl ⟨?_,hB.drew⟩
  ·simp[results,Tryz.results81,go_sem,c0,c1]
  ·rw[inV_at 0 d hm n h5];rfl
 ·have m0:w7.cell? ⟨g7,0,none⟩=some (.int .i64 4095):=HM7.out.cell 0 rfl
  have m1:w7.cell? ⟨g7,1,none⟩=some (.int .i64 4095):=HM7.out.cell 1 rfl
  have m2:=HM7.out.frozen 0
  have m3:=HM7.out.frozen 1
  clear hl7 hm7
  go_wp2
  have hne:w.heap.size+1≠g7:=by have h1:=HG6.out;have h2:=HG7.out;omega
  have HM8:=hide ((HM7.out.set 0 (.int .i64 1048575)).set 1 (.int .i64 0))
  have HL8:=hide ((HL7.out.other (p:=⟨g7,0,none⟩) (by have:=HG7.out;simp;omega) (.int .i64 1048575)).other (p:=⟨g7,1,none⟩) (by have:=HG7.out;simp;omega) (.int .i64 0))
  have HR8:=hide ((HR7.out.other (p:=⟨g7,0,none⟩) hne (.int .i64 1048575)).other (p:=⟨g7,1,none⟩) hne (.int .i64 0))
  have HB8:=hide ((HB7.out.setCell (p:=⟨g7,0,none⟩) (by have h1:=HG6.out;have h2:=HG7.out;simp;omega) (.int .i64 1048575)).setCell (p:=⟨g7,1,none⟩) (by have h1:=HG6.out;have h2:=HG7.out;simp;omega) (.int .i64 0))
  clear m0 m1 m2 m3 r0 r1 r2 r3 y7
  obtain⟨w8,hw8⟩:∃ w8,(w7.setCell ⟨g7,0,none⟩ (.int .i64 1048575)).setCell ⟨g7,1,none⟩ (.int .i64 0)=w8:=⟨_,rfl⟩
  rw[hw8] at HM8 HL8 HR8 HB8 ⊢
  clear hw8
  have hl8:w8.cell? ⟨g6,n,none⟩=some (.int .i64 (lz 1 d n)):=HL8.out.cell n (lz_at 1 d n h5)
  have hm8:w8.cell? ⟨g7,n,none⟩=some (.int .i64 (mz 1 d 1048575 0 n)):=HM8.out.cell n (mz_at 1 d 1048575 0 n h5)
  obtain⟨r0,r1,r2,r3⟩:=facts2 HR8.out
  go_region
  go_wp2
  obtain⟨c0,c1,hB⟩:=stored2 HR8.out HB8.out (by omega) (lz 1 d n) (mz 1 d 1048575 0 n)
  refine bodyPost_ret (v:=.tuple #[.agg #[.int .i64 (lz 1 d n),.int .i64 (mz 1 d 1048575 0 n)],.bool true]) ?_ rfl ⟨?_,hB.drew⟩
  ·simp[results,Tryz.results81,go_sem,c0,c1]
  ·rw[inV_at 1 d hm n h5];rfl
theorem rinput_bad (f d n:Int)(hm:¬May f d)(w:World) :
  Calls Tryz.prog 81 #[.agg #[.int .i64 f,.int .i64 d],.int .i64 n] w fun e w'=>e=.returned (.tuple #[.agg #[.int .i64 0,.int .i64 0],.bool false])/\Below w.heap.size w w':=by
 have HB1:=hide ((bel1 w (.cells #[.int .i64 f,.int .i64 d] 23)).alloc (by simp) (.cells #[.int .i64 0,.int .i64 0] 103))
 have hR:HasC ((w.alloc (.cells #[.int .i64 f,.int .i64 d] 23)).alloc (.cells #[.int .i64 0,.int .i64 0] 103)) (w.heap.size+1) 103 #[.int .i64 0,.int .i64 0]:=by
  have:=HasC.new (w.alloc (.cells #[.int .i64 f,.int .i64 d] 23)) 103 #[.int .i64 0,.int .i64 0]
  rwa[World.size_alloc] at this
 have HR1:=hide hR
 clear hR
 go_enter Tryz.func81,Tryz.ntmps81
 go_wp2_with (go_at_call 54;refine(rmay_bad _ _ _ hm).mono ?_;rintro e w2 ⟨rfl,hb2⟩;have HR2:=hide (HR1.out.below hb2);have HB2:=hide (bel HB1.out hb2);clear hb2;obtain⟨s2,t2,u2,v2⟩:=facts2 HR2.out)
 obtain⟨c0,c1,hB⟩:=stored2 HR2.out HB2.out (by omega) 0 0
 exact bodyPost_ret (v:=.tuple #[.agg #[.int .i64 0,.int .i64 0],.bool false]) (by simp[results,Tryz.results81,go_sem,c0,c1]) rfl ⟨rfl,hB⟩
theorem rinput_neg (f d n:Int)(hm:May f d)(h:n < 0)(w:World) :
  Calls Tryz.prog 81 #[.agg #[.int .i64 f,.int .i64 d],.int .i64 n] w fun e w'=>e=.returned (.tuple #[.agg #[.int .i64 0,.int .i64 0],.bool false])/\Below w.heap.size w w':=by
 have HB1:=hide ((bel1 w (.cells #[.int .i64 f,.int .i64 d] 23)).alloc (by simp) (.cells #[.int .i64 0,.int .i64 0] 103))
 have hR:HasC ((w.alloc (.cells #[.int .i64 f,.int .i64 d] 23)).alloc (.cells #[.int .i64 0,.int .i64 0] 103)) (w.heap.size+1) 103 #[.int .i64 0,.int .i64 0]:=by
  have:=HasC.new (w.alloc (.cells #[.int .i64 f,.int .i64 d] 23)) 103 #[.int .i64 0,.int .i64 0]
  rwa[World.size_alloc] at this
 have HR1:=hide hR
 clear hR
 go_enter Tryz.func81,Tryz.ntmps81
 go_wp2_with (go_at_call 54;refine(rmay_ok _ _ _ hm).mono ?_;rintro e w2 ⟨rfl,hb2⟩;have HR2:=hide (HR1.out.below hb2);have HB2:=hide (bel HB1.out hb2);clear hb2;obtain⟨s2,t2,u2,v2⟩:=facts2 HR2.out)
 obtain⟨c0,c1,hB⟩:=stored2 HR2.out HB2.out (by omega) 0 0
 exact bodyPost_ret (v:=.tuple #[.agg #[.int .i64 0,.int .i64 0],.bool false]) (by simp[results,Tryz.results81,go_sem,c0,c1]) rfl ⟨rfl,hB⟩
theorem rinput_big (f d n:Int)(hm:May f d)(h:5 < n)(w:World) :
  Calls Tryz.prog 81 #[.agg #[.int .i64 f,.int .i64 d],.int .i64 n] w fun e w'=>e=.returned (.tuple #[.agg #[.int .i64 0,.int .i64 0],.bool false])/\Below w.heap.size w w':=by
 have HB1:=hide ((bel1 w (.cells #[.int .i64 f,.int .i64 d] 23)).alloc (by simp) (.cells #[.int .i64 0,.int .i64 0] 103))
 have hR:HasC ((w.alloc (.cells #[.int .i64 f,.int .i64 d] 23)).alloc (.cells #[.int .i64 0,.int .i64 0] 103)) (w.heap.size+1) 103 #[.int .i64 0,.int .i64 0]:=by
  have:=HasC.new (w.alloc (.cells #[.int .i64 f,.int .i64 d] 23)) 103 #[.int .i64 0,.int .i64 0]
  rwa[World.size_alloc] at this
 have HR1:=hide hR
 clear hR
 have h0:¬n < 0:=by omega
 have h0':decide (n < 0)=false:=by simp;omega
 go_enter Tryz.func81,Tryz.ntmps81
 go_wp2_with (go_at_call 54;refine(rmay_ok _ _ _ hm).mono ?_;rintro e w2 ⟨rfl,hb2⟩;have HR2:=hide (HR1.out.below hb2);have HB2:=hide (bel HB1.out hb2);clear hb2;obtain⟨s2,t2,u2,v2⟩:=facts2 HR2.out)
 obtain⟨c0,c1,hB⟩:=stored2 HR2.out HB2.out (by omega) 0 0
 exact bodyPost_ret (v:=.tuple #[.agg #[.int .i64 0,.int .i64 0],.bool false]) (by simp[results,Tryz.results81,go_sem,c0,c1]) rfl ⟨rfl,hB⟩
theorem rinput_any (f d n:Int)(w:World) :
  Calls Tryz.prog 81 #[.agg #[.int .i64 f,.int .i64 d],.int .i64 n] w fun e w'=>e=.returned (inV f d n)/\Below w.heap.size w w':=by
 by_cases hm:May f d
 ·by_cases h0:n < 0
  ·have e:inV f d n=.tuple #[.agg #[.int .i64 0,.int .i64 0],.bool false]:=by
    have e1:n≠0:=by omega
    have e2:n≠1:=by omega
    have e3:n≠2:=by omega
    have e4:n≠3:=by omega
    have e5:n≠4:=by omega
    have e6:n≠5:=by omega
    simp[inV,inZ,hm,e1,e2,e3,e4,e5,e6]
   rw[e];exact rinput_neg f d n hm h0 w
  ·by_cases h5:5 < n
   ·have e:inV f d n=.tuple #[.agg #[.int .i64 0,.int .i64 0],.bool false]:=by
     have e1:n≠0:=by omega
     have e2:n≠1:=by omega
     have e3:n≠2:=by omega
     have e4:n≠3:=by omega
     have e5:n≠4:=by omega
     have e6:n≠5:=by omega
     simp[inV,inZ,hm,e1,e2,e3,e4,e5,e6]
    rw[e];exact rinput_big f d n hm h5 w
   ·obtain⟨k,rfl⟩:∃ k:Nat,n=(k:Int):=⟨n.toNat,by omega⟩
    exact rinput_ok f d k hm (by omega) w
 ·have e:inV f d n=.tuple #[.agg #[.int .i64 0,.int .i64 0],.bool false]:=by simp[inV,inZ,hm]
  rw[e];exact rinput_bad f d n hm w
def sndZ (p:Plc):Option Int :=
 if p.coords≠1\/p.y≠0 then none
 else if p.back=0/\-16<=p.x/\p.x<=-1 then some (16+p.x)
 else if 0 < p.back/\-4<=p.x/\p.x<=0 then some (16+5*(p.back-1)+4+p.x)
 else none
def imgZ (p:Plc):Option Int :=
 if p.coords≠2 then none
 else if 0 < p.back then
  (if p.x < -1\/1 < p.x\/p.y < -1\/1 < p.y then none else some (17+9*(p.back-1)+3*(p.y+1)+p.x+1))
 else if p.x < -3\/3 < p.x\/p.y < -2\/0 < p.y\/(p.y=0/\0<=p.x) then none
 else some (7*(p.y+2)+p.x+3)
def rnumZ (f d:Int)(p:Plc):Option Int :=
 if ¬May f d\/p.back < 0\/3 < p.back then none else if f=1 then sndZ p else imgZ p
def optV (o:Option Int):Value:=.tuple #[.int .i64 (o.getD 0),.bool o.isSome]
theorem rnum_snd (d:Int)(p:Plc)(hm:May 1 d)(h0:0<=p.back)(h3:p.back<=3)(hc:p.coords=1)(hy:p.y=0)(w:World) :
  Calls Tryz.prog 27 #[.agg #[.int .i64 1,.int .i64 d],.agg #[.int .i64 p.back,.int .i64 p.coords,.int .i64 p.x,.int .i64 p.y]] w fun e w'=>e=.returned (optV (sndZ p))/\Below w.heap.size w w':=by
 have HB1:=hide ((bel1 w (.cells #[.int .i64 1,.int .i64 d] 23)).alloc (by simp) (.cells #[.int .i64 p.back,.int .i64 p.coords,.int .i64 p.x,.int .i64 p.y] 63))
 have e:sndZ p=(if p.back=0/\-16<=p.x/\p.x<=-1 then some (16+p.x) else if 0 < p.back/\-4<=p.x/\p.x<=0 then some (16+5*(p.back-1)+4+p.x) else none):=by simp[sndZ,hc,hy]
 rw[e]
 clear e
 obtain⟨b,c,x,y⟩:=p
 simp only at h0 h3 hc hy ⊢
 subst hc hy
 go_enter Tryz.func27,Tryz.ntmps27
 go_wp2_with (go_at_call 54;refine(rmay_ok _ _ _ hm).mono ?_;rintro e w2 ⟨rfl,hb2⟩;obtain⟨hc2,hf2⟩:=bcell hb2)
 all_goals go_ret2
 all_goals exact⟨rfl,bel HB1.out hb2⟩
theorem rnum_snd_c (d:Int)(p:Plc)(hm:May 1 d)(h0:0<=p.back)(h3:p.back<=3)(hc:p.coords≠1)(w:World) :
  Calls Tryz.prog 27 #[.agg #[.int .i64 1,.int .i64 d],.agg #[.int .i64 p.back,.int .i64 p.coords,.int .i64 p.x,.int .i64 p.y]] w fun e w'=>e=.returned (optV (sndZ p))/\Below w.heap.size w w':=by
 have HB1:=hide ((bel1 w (.cells #[.int .i64 1,.int .i64 d] 23)).alloc (by simp) (.cells #[.int .i64 p.back,.int .i64 p.coords,.int .i64 p.x,.int .i64 p.y] 63))
 have e:sndZ p=none:=by simp[sndZ,hc]
 rw[e]
 clear e
 obtain⟨b,c,x,y⟩:=p
 simp only at h0 h3 hc ⊢
 have hc':(c != 1)=true:=by simp[hc]
 go_enter Tryz.func27,Tryz.ntmps27
 go_wp2_with (go_at_call 54;refine(rmay_ok _ _ _ hm).mono ?_;rintro e w2 ⟨rfl,hb2⟩;obtain⟨hc2,hf2⟩:=bcell hb2)
 all_goals go_ret2
 all_goals exact⟨rfl,bel HB1.out hb2⟩
theorem rnum_snd_y (d:Int)(p:Plc)(hm:May 1 d)(h0:0<=p.back)(h3:p.back<=3)(hc:p.coords=1)(hy:p.y≠0)(w:World) :
  Calls Tryz.prog 27 #[.agg #[.int .i64 1,.int .i64 d],.agg #[.int .i64 p.back,.int .i64 p.coords,.int .i64 p.x,.int .i64 p.y]] w fun e w'=>e=.returned (optV (sndZ p))/\Below w.heap.size w w':=by
 have HB1:=hide ((bel1 w (.cells #[.int .i64 1,.int .i64 d] 23)).alloc (by simp) (.cells #[.int .i64 p.back,.int .i64 p.coords,.int .i64 p.x,.int .i64 p.y] 63))
 have e:sndZ p=none:=by simp[sndZ,hy]
 rw[e]
 clear e
 obtain⟨b,c,x,y⟩:=p
 simp only at h0 h3 hc hy ⊢
 subst hc
 have hy':(y != 0)=true:=by simp[hy]
 go_enter Tryz.func27,Tryz.ntmps27
 go_wp2_with (go_at_call 54;refine(rmay_ok _ _ _ hm).mono ?_;rintro e w2 ⟨rfl,hb2⟩;obtain⟨hc2,hf2⟩:=bcell hb2)
 all_goals go_ret2
 all_goals exact⟨rfl,bel HB1.out hb2⟩
theorem rnum_img_c (d:Int)(p:Plc)(hm:May 0 d)(h0:0<=p.back)(h3:p.back<=3)(hc:p.coords≠2)(w:World) :
  Calls Tryz.prog 27 #[.agg #[.int .i64 0,.int .i64 d],.agg #[.int .i64 p.back,.int .i64 p.coords,.int .i64 p.x,.int .i64 p.y]] w fun e w'=>e=.returned (optV (imgZ p))/\Below w.heap.size w w':=by
 have HB1:=hide ((bel1 w (.cells #[.int .i64 0,.int .i64 d] 23)).alloc (by simp) (.cells #[.int .i64 p.back,.int .i64 p.coords,.int .i64 p.x,.int .i64 p.y] 63))
 have e:imgZ p=none:=by simp[imgZ,hc]
 rw[e]
 clear e
 obtain⟨b,c,x,y⟩:=p
 simp only at h0 h3 hc ⊢
 have hc':(c != 2)=true:=by simp[hc]
 go_enter Tryz.func27,Tryz.ntmps27
 go_wp2_with (go_at_call 54;refine(rmay_ok _ _ _ hm).mono ?_;rintro e w2 ⟨rfl,hb2⟩;obtain⟨hc2,hf2⟩:=bcell hb2)
 all_goals go_ret2
 all_goals exact⟨rfl,bel HB1.out hb2⟩
theorem rnum_img_b (d:Int)(p:Plc)(hm:May 0 d)(h0:0 < p.back)(h3:p.back<=3)(hc:p.coords=2)(w:World) :
  Calls Tryz.prog 27 #[.agg #[.int .i64 0,.int .i64 d],.agg #[.int .i64 p.back,.int .i64 p.coords,.int .i64 p.x,.int .i64 p.y]] w fun e w'=>e=.returned (optV (imgZ p))/\Below w.heap.size w w':=by
 have HB1:=hide ((bel1 w (.cells #[.int .i64 0,.int .i64 d] 23)).alloc (by simp) (.cells #[.int .i64 p.back,.int .i64 p.coords,.int .i64 p.x,.int .i64 p.y] 63))
 have e:imgZ p=(if p.x < -1\/1 < p.x\/p.y < -1\/1 < p.y then none else some (17+9*(p.back-1)+3*(p.y+1)+p.x+1)):=by simp[imgZ,hc,h0]
 rw[e]
 clear e
 obtain⟨b,c,x,y⟩:=p
 simp only at h0 h3 hc ⊢
 subst hc
 have h0':¬b < 0:=by omega
 go_enter Tryz.func27,Tryz.ntmps27
 go_wp2_with (go_at_call 54;refine(rmay_ok _ _ _ hm).mono ?_;rintro e w2 ⟨rfl,hb2⟩;obtain⟨hc2,hf2⟩:=bcell hb2)
 all_goals go_ret2
 all_goals exact⟨rfl,bel HB1.out hb2⟩
theorem rnum_img_0 (d:Int)(p:Plc)(hm:May 0 d)(h0:p.back=0)(hc:p.coords=2)(w:World) :
  Calls Tryz.prog 27 #[.agg #[.int .i64 0,.int .i64 d],.agg #[.int .i64 p.back,.int .i64 p.coords,.int .i64 p.x,.int .i64 p.y]] w fun e w'=>e=.returned (optV (imgZ p))/\Below w.heap.size w w':=by
 have HB1:=hide ((bel1 w (.cells #[.int .i64 0,.int .i64 d] 23)).alloc (by simp) (.cells #[.int .i64 p.back,.int .i64 p.coords,.int .i64 p.x,.int .i64 p.y] 63))
 have e:imgZ p=(if p.x < -3\/3 < p.x\/p.y < -2\/0 < p.y\/(p.y=0/\0<=p.x) then none else some (7*(p.y+2)+p.x+3)):=by simp[imgZ,hc,h0]
 rw[e]
 clear e
 obtain⟨b,c,x,y⟩:=p
 simp only at h0 hc ⊢
 subst hc h0
 go_enter Tryz.func27,Tryz.ntmps27
 go_wp2_with (go_at_call 54;refine(rmay_ok _ _ _ hm).mono ?_;rintro e w2 ⟨rfl,hb2⟩;obtain⟨hc2,hf2⟩:=bcell hb2)
 all_goals go_ret2
 all_goals exact⟨rfl,bel HB1.out hb2⟩
theorem rnum_neg (f d:Int)(p:Plc)(hm:May f d)(h0:p.back < 0)(w:World) :
  Calls Tryz.prog 27 #[.agg #[.int .i64 f,.int .i64 d],.agg #[.int .i64 p.back,.int .i64 p.coords,.int .i64 p.x,.int .i64 p.y]] w fun e w'=>e=.returned (optV (rnumZ f d p))/\Below w.heap.size w w':=by
 have HB1:=hide ((bel1 w (.cells #[.int .i64 f,.int .i64 d] 23)).alloc (by simp) (.cells #[.int .i64 p.back,.int .i64 p.coords,.int .i64 p.x,.int .i64 p.y] 63))
 have e:rnumZ f d p=none:=by simp[rnumZ,h0]
 rw[e]
 clear e
 obtain⟨b,c,x,y⟩:=p
 simp only at h0 ⊢
 go_enter Tryz.func27,Tryz.ntmps27
 go_wp2_with (go_at_call 54;refine(rmay_ok _ _ _ hm).mono ?_;rintro e w2 ⟨rfl,hb2⟩;obtain⟨hc2,hf2⟩:=bcell hb2)
 all_goals go_ret2
 all_goals exact⟨rfl,bel HB1.out hb2⟩
theorem rnum_big (f d:Int)(p:Plc)(hm:May f d)(h0:3 < p.back)(w:World) :
  Calls Tryz.prog 27 #[.agg #[.int .i64 f,.int .i64 d],.agg #[.int .i64 p.back,.int .i64 p.coords,.int .i64 p.x,.int .i64 p.y]] w fun e w'=>e=.returned (optV (rnumZ f d p))/\Below w.heap.size w w':=by
 have HB1:=hide ((bel1 w (.cells #[.int .i64 f,.int .i64 d] 23)).alloc (by simp) (.cells #[.int .i64 p.back,.int .i64 p.coords,.int .i64 p.x,.int .i64 p.y] 63))
 have e:rnumZ f d p=none:=by simp[rnumZ,h0]
 rw[e]
 clear e
 obtain⟨b,c,x,y⟩:=p
 simp only at h0 ⊢
 have h1:decide (b < 0)=false:=by simp;omega
 go_enter Tryz.func27,Tryz.ntmps27
 go_wp2_with (go_at_call 54;refine(rmay_ok _ _ _ hm).mono ?_;rintro e w2 ⟨rfl,hb2⟩;obtain⟨hc2,hf2⟩:=bcell hb2)
 all_goals go_ret2
 all_goals exact⟨rfl,bel HB1.out hb2⟩
theorem rnum_bad (f d:Int)(p:Plc)(hm:¬May f d)(w:World) :
  Calls Tryz.prog 27 #[.agg #[.int .i64 f,.int .i64 d],.agg #[.int .i64 p.back,.int .i64 p.coords,.int .i64 p.x,.int .i64 p.y]] w fun e w'=>e=.returned (optV (rnumZ f d p))/\Below w.heap.size w w':=by
 have HB1:=hide ((bel1 w (.cells #[.int .i64 f,.int .i64 d] 23)).alloc (by simp) (.cells #[.int .i64 p.back,.int .i64 p.coords,.int .i64 p.x,.int .i64 p.y] 63))
 have e:rnumZ f d p=none:=by simp[rnumZ,hm]
 rw[e]
 clear e
 obtain⟨b,c,x,y⟩:=p
 simp only at HB1 ⊢
 go_enter Tryz.func27,Tryz.ntmps27
 go_wp2_with (go_at_call 54;refine(rmay_bad _ _ _ hm).mono ?_;rintro e w2 ⟨rfl,hb2⟩;obtain⟨hc2,hf2⟩:=bcell hb2)
 all_goals go_ret2
 all_goals exact⟨rfl,bel HB1.out hb2⟩
theorem rnumber_any (f d:Int)(p:Plc)(w:World) :
  Calls Tryz.prog 27 #[.agg #[.int .i64 f,.int .i64 d],.agg #[.int .i64 p.back,.int .i64 p.coords,.int .i64 p.x,.int .i64 p.y]] w fun e w'=>e=.returned (optV (rnumZ f d p))/\Below w.heap.size w w':=by
 by_cases hm:May f d
 ·by_cases h0:p.back < 0
  ·exact rnum_neg f d p hm h0 w
  by_cases h3:3 < p.back
  ·exact rnum_big f d p hm h3 w
  rcases hm.1 with rfl|rfl
  ·have e:rnumZ 0 d p=imgZ p:=by simp[rnumZ,hm,h0,h3]
   rw[e]
   by_cases hc:p.coords=2
   ·by_cases hb:p.back=0
    ·exact rnum_img_0 d p hm hb hc w
    ·exact rnum_img_b d p hm (by omega) (by omega) hc w
   ·exact rnum_img_c d p hm (by omega) (by omega) hc w
  ·have e:rnumZ 1 d p=sndZ p:=by simp[rnumZ,hm,h0,h3]
   rw[e]
   by_cases hc:p.coords=1
   ·by_cases hy:p.y=0
    ·exact rnum_snd d p hm (by omega) (by omega) hc hy w
    ·exact rnum_snd_y d p hm (by omega) (by omega) hc hy w
   ·exact rnum_snd_c d p hm (by omega) (by omega) hc w
 ·exact rnum_bad f d p hm w
theorem imgA:∀ i,i < 44->imgZ ((plsAll imageB).getD i zp)=some (i:Int)/\0<=((plsAll imageB).getD i zp).back/\((plsAll imageB).getD i zp).back<=3:=by decide +kernel
theorem sndA:∀ i,i < 31->sndZ ((plsAll soundB).getD i zp)=some (i:Int)/\0<=((plsAll soundB).getD i zp).back/\((plsAll soundB).getD i zp).back<=3:=by decide +kernel
def okB (L:List Plc)(p:Plc):Option Int->Bool
 | none=>true
 | some n=>decide (0<=n)&&decide (L[n.toNat]?=some p)
theorem imgB:∀ b:Nat,b < 4->∀ x:Nat,x < 7->∀ y:Nat,y < 4->okB (plsAll imageB) ⟨(b:Int),2,(x:Int)-3,(y:Int)-2⟩ (imgZ ⟨(b:Int),2,(x:Int)-3,(y:Int)-2⟩)=true:=by decide +kernel
theorem sndB:∀ b:Nat,b < 4->∀ x:Nat,x < 17->okB (plsAll soundB) ⟨(b:Int),1,(x:Int)-16,0⟩ (sndZ ⟨(b:Int),1,(x:Int)-16,0⟩)=true:=by decide +kernel
theorem okB_some {L:List Plc}{p:Plc}{o:Option Int}{n:Int}(h:okB L p o=true)(e:o=some n):0<=n/\L[n.toNat]?=some p:=by
 subst e
 simpa [okB] using h
theorem imgB' (p:Plc)(n:Int)(h0:0<=p.back)(h3:p.back<=3)(h:imgZ p=some n):0<=n/\(plsAll imageB)[n.toNat]?=some p:=by
 obtain⟨b,c,x,y⟩:=p
 simp only at h0 h3
 have hbox:c=2/\-3<=x/\x<=3/\-2<=y/\y<=1:=by
  unfold imgZ at h
  simp only at h
  split at h
  ·cases h
  ·rename_i hc
   split at h
   ·split at h
    ·cases h
    ·rename_i h4;refine⟨by omega,by omega,by omega,by omega,by omega⟩
   ·split at h
    ·cases h
    ·rename_i h4;refine⟨by omega,by omega,by omega,by omega,by omega⟩
 obtain⟨rfl,h1,h2,h4,h5⟩:=hbox
 have e:(⟨b,2,x,y⟩:Plc)=⟨((b.toNat:Nat):Int),2,(((x+3).toNat:Nat):Int)-3,(((y+2).toNat:Nat):Int)-2⟩:=by
  simp only[Plc.mk.injEq];refine⟨by omega,trivial,by omega,by omega⟩
 have hk:=imgB b.toNat (by omega) (x+3).toNat (by omega) (y+2).toNat (by omega)
 rw[<-e] at hk
 exact okB_some hk h
theorem sndB' (p:Plc)(n:Int)(h0:0<=p.back)(h3:p.back<=3)(h:sndZ p=some n):0<=n/\(plsAll soundB)[n.toNat]?=some p:=by
 obtain⟨b,c,x,y⟩:=p
 simp only at h0 h3
 have hbox:c=1/\y=0/\-16<=x/\x<=0:=by
  unfold sndZ at h
  simp only at h
  split at h
  ·cases h
  ·rename_i hc
   split at h
   ·refine⟨by omega,by omega,by omega,by omega⟩
   ·split at h
    ·refine⟨by omega,by omega,by omega,by omega⟩
    ·cases h
 obtain⟨rfl,rfl,h1,h2⟩:=hbox
 have e:(⟨b,1,x,0⟩:Plc)=⟨((b.toNat:Nat):Int),1,(((x+16).toNat:Nat):Int)-16,0⟩:=by
  simp only[Plc.mk.injEq];refine⟨by omega,trivial,by omega,trivial⟩
 have hk:=sndB b.toNat (by omega) (x+16).toNat (by omega)
 rw[<-e] at hk
 exact okB_some hk h
theorem len44:(plsAll imageB).length=44:=by decide +kernel
theorem len31:(plsAll soundB).length=31:=by decide +kernel
theorem num_of_at (f d:Int)(i:Nat)(p:Plc)(h:(plcs f d)[i]?=some p):rnumZ f d p=some (i:Int):=by
 have hi:i < (plcs f d).length:=(List.getElem?_eq_some_iff.1 h).1
 rcases kind3 f d with⟨hm,rfl⟩|⟨hm,rfl⟩|hm
 ·have e:plcs 0 d=plsAll imageB:=by simp[plcs,blks,hm]
  rw[e] at h hi
  rw[len44] at hi
  obtain⟨h1,h2,h3⟩:=imgA i hi
  have hp:(plsAll imageB).getD i zp=p:=by simp[List.getD,h]
  rw[hp] at h1 h2 h3
  unfold rnumZ
  rw[if_neg (by simp[hm];omega),if_neg (by decide),h1]
 ·have e:plcs 1 d=plsAll soundB:=by simp[plcs,blks,hm]
  rw[e] at h hi
  rw[len31] at hi
  obtain⟨h1,h2,h3⟩:=sndA i hi
  have hp:(plsAll soundB).getD i zp=p:=by simp[List.getD,h]
  rw[hp] at h1 h2 h3
  unfold rnumZ
  rw[if_neg (by simp[hm];omega),if_pos rfl,h1]
 ·have e:plcs f d=[]:=by simp[plcs,blks,hm,plsAll]
  rw[e] at h
  simp at h
theorem at_of_num (f d:Int)(p:Plc)(n:Int)(h:rnumZ f d p=some n):0<=n/\(plcs f d)[n.toNat]?=some p:=by
 unfold rnumZ at h
 split at h
 ·cases h
 ·rename_i hc
  have hm:May f d:=Classical.byContradiction fun h'=>hc (.inl h')
  have h0:0<=p.back:=by omega
  have h3:p.back<=3:=by omega
  rcases hm.1 with rfl|rfl
  ·have e:plcs 0 d=plsAll imageB:=by simp[plcs,blks,hm]
   rw[e]
   exact imgB' p n h0 h3 h
  ·have e:plcs 1 d=plsAll soundB:=by simp[plcs,blks,hm]
   rw[e]
   exact sndB' p n h0 h3 h
theorem look_spec (L:List Plc)(p:Plc):∀ pre:List (Fin 64),(∀ m,look L pre p=some m->∃ i ∈ pre,i.val=m/\L.getD i.val zp=p)/\(look L pre p=none->∀ i ∈ pre,L.getD i.val zp≠p):=by
 intro pre
 obtain⟨qs,rfl⟩:∃ qs:List (Fin 64),pre=qs.reverse:=⟨pre.reverse,by simp⟩
 induction qs with
 | nil=>simp[look]
 | cons i qs ih =>
  rw[List.reverse_cons,look_snoc]
  by_cases e:L.getD i.val zp=p
  ·rw[if_pos e]
   exact⟨fun m hm=>⟨i,by simp,by simpa using hm,e⟩,fun h=>by cases h⟩
  ·rw[if_neg e]
   refine⟨fun m hm=>?_,fun h j hj=>?_⟩
   ·obtain⟨j,h1,h2⟩:=ih.1 m hm
    exact⟨j,by simp[h1],h2⟩
   ·rcases List.mem_append.1 hj with h1|h1
    ·exact ih.2 h j h1
    ·simp at h1;subst h1;exact e
theorem num_same (f d:Int)(p:Plc):numV f d p=optV (rnumZ f d p):=by
 have hle:=(blks_bound f d).1
 obtain⟨h1,h2⟩:=look_spec (plcs f d) p (upto (plcs f d).length)
 unfold numV numZ optV
 cases hz:look (plcs f d) (upto (plcs f d).length) p with
 | some m =>
  obtain⟨i,hi,rfl,hp⟩:=h1 m hz
  have hil:=(upto_mem _ _).1 hi
  have hp':(plcs f d)[i.val]?=some p:=by
   rw[<-hp];simp[List.getD,hil]
  rw[num_of_at f d i.val p hp']
  rfl
 | none =>
  have:rnumZ f d p=none:=by
   cases hr:rnumZ f d p with
   | none=>rfl
   | some n =>
    obtain⟨h3,h4⟩:=at_of_num f d p n hr
    have hlt:n.toNat < (plcs f d).length:=(List.getElem?_eq_some_iff.1 h4).1
    exact absurd (by simp[List.getD,h4]) (h2 hz ⟨n.toNat,by omega⟩ ((upto_mem _ _).2 hlt))
  rw[this]
  rfl
end Go.Proofs.YtngnnijpdjhelaaGreat.Knd
