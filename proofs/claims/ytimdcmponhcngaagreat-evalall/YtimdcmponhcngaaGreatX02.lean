import Derived.Test.YtimdcmponhcngaaGreatX01
namespace Go.Proofs.YtimdcmponhcngaaGreat.Knd
open Go.RowKit
set_option linter.unusedVariables false
set_option maxRecDepth 100000
set_option maxHeartbeats 16000000
def colZ (f:Int):Int:=if f=0 then 4096 else 1048576
def rowZ (f:Int):Int:=if f=0 then 4096 else 1
theorem columns_any (f d:Int)(w:World) :
  Calls Tryz.prog 112 #[.agg #[.int .i64 f,.int .i64 d]] w fun e w'=>e=.returned (.int .i64 (colZ f))/\Below w.heap.size w w':=by
 have hb:=bel1 w (.cells #[.int .i64 f,.int .i64 d] 23)
 by_cases h:f=0
 ·subst h
  go_enter Tryz.func112,Tryz.ntmps112
  go_wp2
  go_ret
  exact⟨rfl,hb⟩
 ·go_enter Tryz.func112,Tryz.ntmps112
  go_wp2
  go_ret
  exact⟨ret_int (by simp[colZ,h]),hb⟩
theorem rows_any (f d:Int)(w:World) :
  Calls Tryz.prog 113 #[.agg #[.int .i64 f,.int .i64 d]] w fun e w'=>e=.returned (.int .i64 (rowZ f))/\Below w.heap.size w w':=by
 have hb:=bel1 w (.cells #[.int .i64 f,.int .i64 d] 23)
 by_cases h:f=0
 ·subst h
  go_enter Tryz.func113,Tryz.ntmps113
  go_wp2
  go_ret
  exact⟨rfl,hb⟩
 ·go_enter Tryz.func113,Tryz.ntmps113
  go_wp2
  go_ret
  exact⟨ret_int (by simp[rowZ,h]),hb⟩
theorem only_any (n:Int)(w:World) :
  Calls Tryz.prog 114 #[.int .i64 n] w fun e w'=>e=.returned (.agg #[.int .i64 n,.int .i64 n])/\Below w.heap.size w w':=by
 go_enter Tryz.func114,Tryz.ntmps114
 go_wp2
 exact bodyPost_ret (v:=.agg #[.int .i64 n,.int .i64 n]) (by simp[results,Tryz.results114,go_sem]) rfl ⟨rfl,bel1 _ _⟩
def inZ (f d n:Int):Option (Int × Int) :=
 if ¬May f d then none else
 if n=0 then some (0,colZ f-1) else
 if n=1 then some (0,rowZ f-1) else
 if n=2 then some (0,3) else
 if n=3 then some (lowZ f d,lowZ f d) else
 if n=4 then some (highZ f d,highZ f d) else
 if n=5 then some (borderZ f d,borderZ f d) else none
def inV (f d n:Int):Value:=.tuple #[.agg #[.int .i64 ((inZ f d n).getD (0,0)).1,.int .i64 ((inZ f d n).getD (0,0)).2],.bool (inZ f d n).isSome]
theorem facts2 {W:World}{b:Nat}{t:TypeId}{x y:Value}(h:HasC W b t #[x,y]):W.cell? ⟨b,0,none⟩=some x/\W.cell? ⟨b,1,none⟩=some y/\W.frozen? ⟨b,0,none⟩=false/\W.frozen? ⟨b,1,none⟩=false :=
 ⟨h.cell 0 rfl,h.cell 1 rfl,h.frozen 0,h.frozen 1⟩
theorem stored2 {w w2:World}{b:Nat}(h:HasC w2 b 58 #[.int .i64 0,.int .i64 0])(hB:Below w.heap.size w w2)(hb:w.heap.size<=b)(x y:Int) :
  ((w2.setCell ⟨b,0,none⟩ (.int .i64 x)).setCell ⟨b,1,none⟩ (.int .i64 y)).cell? ⟨b,0,none⟩=some (.int .i64 x)/\((w2.setCell ⟨b,0,none⟩ (.int .i64 x)).setCell ⟨b,1,none⟩ (.int .i64 y)).cell? ⟨b,1,none⟩=some (.int .i64 y) /\
  Below w.heap.size w ((w2.setCell ⟨b,0,none⟩ (.int .i64 x)).setCell ⟨b,1,none⟩ (.int .i64 y)):=by
 have h3:=(h.set 0 (.int .i64 x)).set 1 (.int .i64 y)
 exact⟨h3.cell 0 rfl,h3.cell 1 rfl,(hB.setCell (p:=⟨b,0,none⟩) hb _).setCell (p:=⟨b,1,none⟩) hb _⟩
theorem input_bad (f d n:Int)(hm:¬May f d)(w:World) :
  Calls Tryz.prog 78 #[.agg #[.int .i64 f,.int .i64 d],.int .i64 n] w fun e w'=>e=.returned (inV f d n)/\Below w.heap.size w w':=by
 have HB1:=hide ((bel1 w (.cells #[.int .i64 f,.int .i64 d] 23)).alloc (by simp) (.cells #[.int .i64 0,.int .i64 0] 58))
 have hR:HasC ((w.alloc (.cells #[.int .i64 f,.int .i64 d] 23)).alloc (.cells #[.int .i64 0,.int .i64 0] 58)) (w.heap.size+1) 58 #[.int .i64 0,.int .i64 0]:=by
  have:=HasC.new (w.alloc (.cells #[.int .i64 f,.int .i64 d] 23)) 58 #[.int .i64 0,.int .i64 0]
  rwa[World.size_alloc] at this
 have HR1:=hide hR
 have HK1:=hide ((HasC.new w 23 #[.int .i64 f,.int .i64 d]).alloc (.cells #[.int .i64 0,.int .i64 0] 58))
 clear hR
 have e:inV f d n=.tuple #[.agg #[.int .i64 (0),.int .i64 (0)],.bool false]:=by simp[inV,inZ,hm]
 rw[e]
 clear e
 go_enter Tryz.func78,Tryz.ntmps78
 go_wp2_with (first
  | (go_at_call 53;refine(check_bad _ _ _ hm).mono ?_;rintro e w2 ⟨rfl,hb2⟩;have HR2:=hide (HR1.out.below hb2);have HK2:=hide (HK1.out.below hb2);have HB2:=hide (bel HB1.out hb2);clear hb2;obtain⟨s2,t2,u2,v2⟩:=facts2 HR2.out;obtain⟨x2,y2,-,-⟩:=facts2 HK2.out))
 obtain⟨c0,c1,hB⟩:=stored2 HR2.out HB2.out (by omega) (0) (0)
 exact bodyPost_ret (v:=.tuple #[.agg #[.int .i64 (0),.int .i64 (0)],.bool false]) (by simp[results,Tryz.results78,go_sem,c0,c1]) rfl ⟨rfl,hB⟩
theorem input0 (f d:Int)(hm:May f d)(w:World) :
  Calls Tryz.prog 78 #[.agg #[.int .i64 f,.int .i64 d],.int .i64 0] w fun e w'=>e=.returned (inV f d 0)/\Below w.heap.size w w':=by
 have HB1:=hide ((bel1 w (.cells #[.int .i64 f,.int .i64 d] 23)).alloc (by simp) (.cells #[.int .i64 0,.int .i64 0] 58))
 have hR:HasC ((w.alloc (.cells #[.int .i64 f,.int .i64 d] 23)).alloc (.cells #[.int .i64 0,.int .i64 0] 58)) (w.heap.size+1) 58 #[.int .i64 0,.int .i64 0]:=by
  have:=HasC.new (w.alloc (.cells #[.int .i64 f,.int .i64 d] 23)) 58 #[.int .i64 0,.int .i64 0]
  rwa[World.size_alloc] at this
 have HR1:=hide hR
 have HK1:=hide ((HasC.new w 23 #[.int .i64 f,.int .i64 d]).alloc (.cells #[.int .i64 0,.int .i64 0] 58))
 clear hR
 have e:inV f d 0=.tuple #[.agg #[.int .i64 (0),.int .i64 (colZ f-1)],.bool true]:=by simp[inV,inZ,hm]
 rw[e]
 clear e
 obtain⟨p1,p2⟩:0<=colZ f/\colZ f<=1048576:=by unfold colZ;split <;> omega
 go_enter Tryz.func78,Tryz.ntmps78
 go_wp2_with (first
  | (go_at_call 53;refine(check_ok _ _ _ hm).mono ?_;rintro e w2 ⟨rfl,hb2⟩;have HR2:=hide (HR1.out.below hb2);have HK2:=hide (HK1.out.below hb2);have HB2:=hide (bel HB1.out hb2);clear hb2;obtain⟨s2,t2,u2,v2⟩:=facts2 HR2.out;obtain⟨x2,y2,-,-⟩:=facts2 HK2.out)
  | (go_at_call 112;refine(columns_any _ _ _).mono ?_;rintro e w3 ⟨rfl,hb3⟩;have HR3:=hide (HR2.out.below hb3);have HK3:=hide (HK2.out.below hb3);have HB3:=hide (bel HB2.out hb3);clear hb3;obtain⟨s3,t3,u3,v3⟩:=facts2 HR3.out;obtain⟨x3,y3,-,-⟩:=facts2 HK3.out))
 obtain⟨c0,c1,hB⟩:=stored2 HR3.out HB3.out (by omega) (0) (colZ f-1)
 exact bodyPost_ret (v:=.tuple #[.agg #[.int .i64 (0),.int .i64 (colZ f-1)],.bool true]) (by simp[results,Tryz.results78,go_sem,c0,c1]) rfl ⟨rfl,hB⟩
theorem input1 (f d:Int)(hm:May f d)(w:World) :
  Calls Tryz.prog 78 #[.agg #[.int .i64 f,.int .i64 d],.int .i64 1] w fun e w'=>e=.returned (inV f d 1)/\Below w.heap.size w w':=by
 have HB1:=hide ((bel1 w (.cells #[.int .i64 f,.int .i64 d] 23)).alloc (by simp) (.cells #[.int .i64 0,.int .i64 0] 58))
 have hR:HasC ((w.alloc (.cells #[.int .i64 f,.int .i64 d] 23)).alloc (.cells #[.int .i64 0,.int .i64 0] 58)) (w.heap.size+1) 58 #[.int .i64 0,.int .i64 0]:=by
  have:=HasC.new (w.alloc (.cells #[.int .i64 f,.int .i64 d] 23)) 58 #[.int .i64 0,.int .i64 0]
  rwa[World.size_alloc] at this
 have HR1:=hide hR
 have HK1:=hide ((HasC.new w 23 #[.int .i64 f,.int .i64 d]).alloc (.cells #[.int .i64 0,.int .i64 0] 58))
 clear hR
 have e:inV f d 1=.tuple #[.agg #[.int .i64 (0),.int .i64 (rowZ f-1)],.bool true]:=by simp[inV,inZ,hm]
 rw[e]
 clear e
 obtain⟨p1,p2⟩:0<=rowZ f/\rowZ f<=1048576:=by unfold rowZ;split <;> omega
 go_enter Tryz.func78,Tryz.ntmps78
 go_wp2_with (first
  | (go_at_call 53;refine(check_ok _ _ _ hm).mono ?_;rintro e w2 ⟨rfl,hb2⟩;have HR2:=hide (HR1.out.below hb2);have HK2:=hide (HK1.out.below hb2);have HB2:=hide (bel HB1.out hb2);clear hb2;obtain⟨s2,t2,u2,v2⟩:=facts2 HR2.out;obtain⟨x2,y2,-,-⟩:=facts2 HK2.out)
  | (go_at_call 113;refine(rows_any _ _ _).mono ?_;rintro e w3 ⟨rfl,hb3⟩;have HR3:=hide (HR2.out.below hb3);have HK3:=hide (HK2.out.below hb3);have HB3:=hide (bel HB2.out hb3);clear hb3;obtain⟨s3,t3,u3,v3⟩:=facts2 HR3.out;obtain⟨x3,y3,-,-⟩:=facts2 HK3.out))
 obtain⟨c0,c1,hB⟩:=stored2 HR3.out HB3.out (by omega) (0) (rowZ f-1)
 exact bodyPost_ret (v:=.tuple #[.agg #[.int .i64 (0),.int .i64 (rowZ f-1)],.bool true]) (by simp[results,Tryz.results78,go_sem,c0,c1]) rfl ⟨rfl,hB⟩
theorem input2 (f d:Int)(hm:May f d)(w:World) :
  Calls Tryz.prog 78 #[.agg #[.int .i64 f,.int .i64 d],.int .i64 2] w fun e w'=>e=.returned (inV f d 2)/\Below w.heap.size w w':=by
 have HB1:=hide ((bel1 w (.cells #[.int .i64 f,.int .i64 d] 23)).alloc (by simp) (.cells #[.int .i64 0,.int .i64 0] 58))
 have hR:HasC ((w.alloc (.cells #[.int .i64 f,.int .i64 d] 23)).alloc (.cells #[.int .i64 0,.int .i64 0] 58)) (w.heap.size+1) 58 #[.int .i64 0,.int .i64 0]:=by
  have:=HasC.new (w.alloc (.cells #[.int .i64 f,.int .i64 d] 23)) 58 #[.int .i64 0,.int .i64 0]
  rwa[World.size_alloc] at this
 have HR1:=hide hR
 have HK1:=hide ((HasC.new w 23 #[.int .i64 f,.int .i64 d]).alloc (.cells #[.int .i64 0,.int .i64 0] 58))
 clear hR
 have e:inV f d 2=.tuple #[.agg #[.int .i64 (0),.int .i64 (3)],.bool true]:=by simp[inV,inZ,hm]
 rw[e]
 clear e
 go_enter Tryz.func78,Tryz.ntmps78
 go_wp2_with (first
  | (go_at_call 53;refine(check_ok _ _ _ hm).mono ?_;rintro e w2 ⟨rfl,hb2⟩;have HR2:=hide (HR1.out.below hb2);have HK2:=hide (HK1.out.below hb2);have HB2:=hide (bel HB1.out hb2);clear hb2;obtain⟨s2,t2,u2,v2⟩:=facts2 HR2.out;obtain⟨x2,y2,-,-⟩:=facts2 HK2.out))
 obtain⟨c0,c1,hB⟩:=stored2 HR2.out HB2.out (by omega) (0) (3)
 exact bodyPost_ret (v:=.tuple #[.agg #[.int .i64 (0),.int .i64 (3)],.bool true]) (by simp[results,Tryz.results78,go_sem,c0,c1]) rfl ⟨rfl,hB⟩
theorem input3 (f d:Int)(hm:May f d)(w:World) :
  Calls Tryz.prog 78 #[.agg #[.int .i64 f,.int .i64 d],.int .i64 3] w fun e w'=>e=.returned (inV f d 3)/\Below w.heap.size w w':=by
 have HB1:=hide ((bel1 w (.cells #[.int .i64 f,.int .i64 d] 23)).alloc (by simp) (.cells #[.int .i64 0,.int .i64 0] 58))
 have hR:HasC ((w.alloc (.cells #[.int .i64 f,.int .i64 d] 23)).alloc (.cells #[.int .i64 0,.int .i64 0] 58)) (w.heap.size+1) 58 #[.int .i64 0,.int .i64 0]:=by
  have:=HasC.new (w.alloc (.cells #[.int .i64 f,.int .i64 d] 23)) 58 #[.int .i64 0,.int .i64 0]
  rwa[World.size_alloc] at this
 have HR1:=hide hR
 have HK1:=hide ((HasC.new w 23 #[.int .i64 f,.int .i64 d]).alloc (.cells #[.int .i64 0,.int .i64 0] 58))
 clear hR
 have e:inV f d 3=.tuple #[.agg #[.int .i64 (lowZ f d),.int .i64 (lowZ f d)],.bool true]:=by simp[inV,inZ,hm]
 rw[e]
 clear e
 go_enter Tryz.func78,Tryz.ntmps78
 go_wp2_with (first
  | (go_at_call 53;refine(check_ok _ _ _ hm).mono ?_;rintro e w2 ⟨rfl,hb2⟩;have HR2:=hide (HR1.out.below hb2);have HK2:=hide (HK1.out.below hb2);have HB2:=hide (bel HB1.out hb2);clear hb2;obtain⟨s2,t2,u2,v2⟩:=facts2 HR2.out;obtain⟨x2,y2,-,-⟩:=facts2 HK2.out)
  | (go_at_call 27;refine(low_any _ _ _).mono ?_;rintro e w3 ⟨rfl,hb3⟩;have HR3:=hide (HR2.out.below hb3);have HK3:=hide (HK2.out.below hb3);have HB3:=hide (bel HB2.out hb3);clear hb3;obtain⟨s3,t3,u3,v3⟩:=facts2 HR3.out;obtain⟨x3,y3,-,-⟩:=facts2 HK3.out)
  | (go_at_call 114;refine(only_any _ _).mono ?_;rintro e w4 ⟨rfl,hb4⟩;have HR4:=hide (HR3.out.below hb4);have HK4:=hide (HK3.out.below hb4);have HB4:=hide (bel HB3.out hb4);clear hb4;obtain⟨s4,t4,u4,v4⟩:=facts2 HR4.out;obtain⟨x4,y4,-,-⟩:=facts2 HK4.out))
 obtain⟨c0,c1,hB⟩:=stored2 HR4.out HB4.out (by omega) (lowZ f d) (lowZ f d)
 exact bodyPost_ret (v:=.tuple #[.agg #[.int .i64 (lowZ f d),.int .i64 (lowZ f d)],.bool true]) (by simp[results,Tryz.results78,go_sem,c0,c1]) rfl ⟨rfl,hB⟩
theorem input4 (f d:Int)(hm:May f d)(w:World) :
  Calls Tryz.prog 78 #[.agg #[.int .i64 f,.int .i64 d],.int .i64 4] w fun e w'=>e=.returned (inV f d 4)/\Below w.heap.size w w':=by
 have HB1:=hide ((bel1 w (.cells #[.int .i64 f,.int .i64 d] 23)).alloc (by simp) (.cells #[.int .i64 0,.int .i64 0] 58))
 have hR:HasC ((w.alloc (.cells #[.int .i64 f,.int .i64 d] 23)).alloc (.cells #[.int .i64 0,.int .i64 0] 58)) (w.heap.size+1) 58 #[.int .i64 0,.int .i64 0]:=by
  have:=HasC.new (w.alloc (.cells #[.int .i64 f,.int .i64 d] 23)) 58 #[.int .i64 0,.int .i64 0]
  rwa[World.size_alloc] at this
 have HR1:=hide hR
 have HK1:=hide ((HasC.new w 23 #[.int .i64 f,.int .i64 d]).alloc (.cells #[.int .i64 0,.int .i64 0] 58))
 clear hR
 have e:inV f d 4=.tuple #[.agg #[.int .i64 (highZ f d),.int .i64 (highZ f d)],.bool true]:=by simp[inV,inZ,hm]
 rw[e]
 clear e
 go_enter Tryz.func78,Tryz.ntmps78
 go_wp2_with (first
  | (go_at_call 53;refine(check_ok _ _ _ hm).mono ?_;rintro e w2 ⟨rfl,hb2⟩;have HR2:=hide (HR1.out.below hb2);have HK2:=hide (HK1.out.below hb2);have HB2:=hide (bel HB1.out hb2);clear hb2;obtain⟨s2,t2,u2,v2⟩:=facts2 HR2.out;obtain⟨x2,y2,-,-⟩:=facts2 HK2.out)
  | (go_at_call 28;refine(high_any _ _ _).mono ?_;rintro e w3 ⟨rfl,hb3⟩;have HR3:=hide (HR2.out.below hb3);have HK3:=hide (HK2.out.below hb3);have HB3:=hide (bel HB2.out hb3);clear hb3;obtain⟨s3,t3,u3,v3⟩:=facts2 HR3.out;obtain⟨x3,y3,-,-⟩:=facts2 HK3.out)
  | (go_at_call 114;refine(only_any _ _).mono ?_;rintro e w4 ⟨rfl,hb4⟩;have HR4:=hide (HR3.out.below hb4);have HK4:=hide (HK3.out.below hb4);have HB4:=hide (bel HB3.out hb4);clear hb4;obtain⟨s4,t4,u4,v4⟩:=facts2 HR4.out;obtain⟨x4,y4,-,-⟩:=facts2 HK4.out))
 obtain⟨c0,c1,hB⟩:=stored2 HR4.out HB4.out (by omega) (highZ f d) (highZ f d)
 exact bodyPost_ret (v:=.tuple #[.agg #[.int .i64 (highZ f d),.int .i64 (highZ f d)],.bool true]) (by simp[results,Tryz.results78,go_sem,c0,c1]) rfl ⟨rfl,hB⟩
theorem input5 (f d:Int)(hm:May f d)(w:World) :
  Calls Tryz.prog 78 #[.agg #[.int .i64 f,.int .i64 d],.int .i64 5] w fun e w'=>e=.returned (inV f d 5)/\Below w.heap.size w w':=by
 have HB1:=hide ((bel1 w (.cells #[.int .i64 f,.int .i64 d] 23)).alloc (by simp) (.cells #[.int .i64 0,.int .i64 0] 58))
 have hR:HasC ((w.alloc (.cells #[.int .i64 f,.int .i64 d] 23)).alloc (.cells #[.int .i64 0,.int .i64 0] 58)) (w.heap.size+1) 58 #[.int .i64 0,.int .i64 0]:=by
  have:=HasC.new (w.alloc (.cells #[.int .i64 f,.int .i64 d] 23)) 58 #[.int .i64 0,.int .i64 0]
  rwa[World.size_alloc] at this
 have HR1:=hide hR
 have HK1:=hide ((HasC.new w 23 #[.int .i64 f,.int .i64 d]).alloc (.cells #[.int .i64 0,.int .i64 0] 58))
 clear hR
 have e:inV f d 5=.tuple #[.agg #[.int .i64 (borderZ f d),.int .i64 (borderZ f d)],.bool true]:=by simp[inV,inZ,hm]
 rw[e]
 clear e
 go_enter Tryz.func78,Tryz.ntmps78
 go_wp2_with (first
  | (go_at_call 53;refine(check_ok _ _ _ hm).mono ?_;rintro e w2 ⟨rfl,hb2⟩;have HR2:=hide (HR1.out.below hb2);have HK2:=hide (HK1.out.below hb2);have HB2:=hide (bel HB1.out hb2);clear hb2;obtain⟨s2,t2,u2,v2⟩:=facts2 HR2.out;obtain⟨x2,y2,-,-⟩:=facts2 HK2.out)
  | (go_at_call 29;refine(border_any _ _ _).mono ?_;rintro e w3 ⟨rfl,hb3⟩;have HR3:=hide (HR2.out.below hb3);have HK3:=hide (HK2.out.below hb3);have HB3:=hide (bel HB2.out hb3);clear hb3;obtain⟨s3,t3,u3,v3⟩:=facts2 HR3.out;obtain⟨x3,y3,-,-⟩:=facts2 HK3.out)
  | (go_at_call 114;refine(only_any _ _).mono ?_;rintro e w4 ⟨rfl,hb4⟩;have HR4:=hide (HR3.out.below hb4);have HK4:=hide (HK3.out.below hb4);have HB4:=hide (bel HB3.out hb4);clear hb4;obtain⟨s4,t4,u4,v4⟩:=facts2 HR4.out;obtain⟨x4,y4,-,-⟩:=facts2 HK4.out))
 obtain⟨c0,c1,hB⟩:=stored2 HR4.out HB4.out (by omega) (borderZ f d) (borderZ f d)
 exact bodyPost_ret (v:=.tuple #[.agg #[.int .i64 (borderZ f d),.int .i64 (borderZ f d)],.bool true]) (by simp[results,Tryz.results78,go_sem,c0,c1]) rfl ⟨rfl,hB⟩
theorem input6 (f d n:Int)(hm:May f d)(h0:n≠0)(h1:n≠1)(h2:n≠2)(h3:n≠3)(h4:n≠4)(h5:n≠5)(w:World) :
  Calls Tryz.prog 78 #[.agg #[.int .i64 f,.int .i64 d],.int .i64 n] w fun e w'=>e=.returned (inV f d n)/\Below w.heap.size w w':=by
 have HB1:=hide ((bel1 w (.cells #[.int .i64 f,.int .i64 d] 23)).alloc (by simp) (.cells #[.int .i64 0,.int .i64 0] 58))
 have hR:HasC ((w.alloc (.cells #[.int .i64 f,.int .i64 d] 23)).alloc (.cells #[.int .i64 0,.int .i64 0] 58)) (w.heap.size+1) 58 #[.int .i64 0,.int .i64 0]:=by
  have:=HasC.new (w.alloc (.cells #[.int .i64 f,.int .i64 d] 23)) 58 #[.int .i64 0,.int .i64 0]
  rwa[World.size_alloc] at this
 have HR1:=hide hR
 have HK1:=hide ((HasC.new w 23 #[.int .i64 f,.int .i64 d]).alloc (.cells #[.int .i64 0,.int .i64 0] 58))
 clear hR
 have e:inV f d n=.tuple #[.agg #[.int .i64 (0),.int .i64 (0)],.bool false]:=by simp[inV,inZ,hm,h0,h1,h2,h3,h4,h5]
 rw[e]
 clear e
 go_enter Tryz.func78,Tryz.ntmps78
 go_wp2_with (first
  | (go_at_call 53;refine(check_ok _ _ _ hm).mono ?_;rintro e w2 ⟨rfl,hb2⟩;have HR2:=hide (HR1.out.below hb2);have HK2:=hide (HK1.out.below hb2);have HB2:=hide (bel HB1.out hb2);clear hb2;obtain⟨s2,t2,u2,v2⟩:=facts2 HR2.out;obtain⟨x2,y2,-,-⟩:=facts2 HK2.out))
 obtain⟨c0,c1,hB⟩:=stored2 HR2.out HB2.out (by omega) (0) (0)
 exact bodyPost_ret (v:=.tuple #[.agg #[.int .i64 (0),.int .i64 (0)],.bool false]) (by simp[results,Tryz.results78,go_sem,c0,c1]) rfl ⟨rfl,hB⟩
theorem input_any (f d n:Int)(w:World) :
  Calls Tryz.prog 78 #[.agg #[.int .i64 f,.int .i64 d],.int .i64 n] w fun e w'=>e=.returned (inV f d n)/\Below w.heap.size w w':=by
 by_cases hm:May f d
 ·by_cases h0:n=0
  ·subst h0;exact input0 f d hm w
  by_cases h1:n=1
  ·subst h1;exact input1 f d hm w
  by_cases h2:n=2
  ·subst h2;exact input2 f d hm w
  by_cases h3:n=3
  ·subst h3;exact input3 f d hm w
  by_cases h4:n=4
  ·subst h4;exact input4 f d hm w
  by_cases h5:n=5
  ·subst h5;exact input5 f d hm w
  exact input6 f d n hm h0 h1 h2 h3 h4 h5 w
 ·exact input_bad f d n hm w
theorem info3:(Tryz.prog.info? 3).map (fun i=>(i.zero,i.size,i.bytes))=some (some (.int .i64 0),1,8):=by kernel_rfl
abbrev i64s (xs:List Int):List Value:=xs.map (Value.int .i64)
structure Ints (w:World)(a:Option Addr)(n cap:Nat)(xs:List Int):Prop where
 len:xs.length=n
 le:n<=cap
 max:cap<=maxLen
 nil:a=none->cap=0
 cell:n=0\/∃ b off,a=some ⟨b,off,none⟩/\∀ i,i < n->w.cell? ⟨b,off+i,none⟩=some (.int .i64 (xs.getD i 0))
theorem Ints.at {w:World}{a:Option Addr}{n cap:Nat}{xs:List Int}(h:Ints w a n cap xs)(hn:n≠0) :
  ∃ b off,a=some ⟨b,off,none⟩/\b < w.heap.size/\∀ i,i < n->w.cell? ⟨b,off+i,none⟩=some (.int .i64 (xs.getD i 0)):=by
 rcases h.cell with h0|⟨b,off,ha,hc⟩
 ·exact absurd h0 hn
 ·exact⟨b,off,ha,World.block_lt_of_cell? w _ (hc 0 (by omega)),hc⟩
theorem Ints.of_cells {w w':World}{a:Option Addr}{n cap:Nat}{xs:List Int}(h:Ints w a n cap xs)
  (hc:∀ b off,a=some ⟨b,off,none⟩->n≠0->∀ i,i < n->w'.cell? ⟨b,off+i,none⟩=w.cell? ⟨b,off+i,none⟩):Ints w' a n cap xs:=by
 refine⟨h.len,h.le,h.max,h.nil,?_⟩
 by_cases hn:n=0
 ·exact .inl hn
 ·obtain⟨b,off,ha,_,hcell⟩:=h.at hn
  exact .inr ⟨b,off,ha,fun i hi=>(hc b off ha hn i hi).trans (hcell i hi)⟩
theorem Ints.later {w w':World}{a:Option Addr}{n cap:Nat}{xs:List Int}(h:Ints w a n cap xs)(hb:Below w.heap.size w w'):Ints w' a n cap xs:=by
 refine h.of_cells fun b off ha hn i hi=>?_
 obtain⟨b',off',ha',hlt,_⟩:=h.at hn
 rw[ha] at ha'
 cases ha'
 exact hb.cell (p:=⟨b,off+i,none⟩) hlt
theorem Ints.of_owns {w:World}{base:Nat}{v:Value}{n:Nat}{xs:List Int}(h:w.ownsRow base 3 1 v n (i64s xs)) :
  ∃ a cap,v=.slice a n cap/\Ints w a n cap xs/\(∀ x,a=some x->base<=x.block/\x.block < w.heap.size):=by
 have hl:xs.length=n:=by simpa using h.1
 have hlt:=h.lt
 have hcs:=fun g hg=>h.cells (g:=g) hg
 rcases h.2 with⟨rfl,rfl⟩|⟨g,cap,cur,rfl,hb,hg,hnc,hcm,hsz,htake⟩
 ·exact⟨none,0,rfl,⟨hl,Nat.le_refl _,Nat.zero_le _,fun _=>rfl,.inl rfl⟩,fun x hx=>by cases hx⟩
 ·refine⟨some ⟨g,0,none⟩,cap,rfl,⟨hl,hnc,hcm,(fun h=>by cases h),.inr ⟨g,0,rfl,fun i hi=>?_⟩⟩,fun x hx=>by cases hx;exact hlt g rfl⟩
  have:=hcs g rfl i (.int .i64 (xs.getD i 0)) (by simp[List.getD,hl,hi])
  rw[Addr.add_lit] at this
  exact this
theorem Ints.news {w:World}{a:Option Addr}{n cap:Nat}{xs:List Int}(h:Ints w a n cap xs):∀ ad,a=some ad->∀ j u,(i64s xs)[j]?=some u->w.cell? (ad.add j)=some u:=by
 intro ad ha j u hu
 have hj:j < n:=by
  have:=(List.getElem?_eq_some_iff.1 hu).1
  simpa [h.len] using this
 obtain⟨b,off,ha',_,hc⟩:=h.at (by omega)
 rw[ha] at ha'
 cases ha'
 rw[Addr.add_lit,hc j hj]
 have hl:=h.len
 simp only[i64s,List.getElem?_map] at hu
 rw[List.getElem?_eq_getElem (by omega)] at hu
 simp only[Option.map_some,Option.some.injEq] at hu
 rw[<-hu]
 simp[List.getD,hl,hj]
end Go.Proofs.YtimdcmponhcngaaGreat.Knd
namespace Go.Proofs.YtimdcmponhcngaaGreat
open Go.ChangeShapes Go.WideShapes Go.ChangeAt Go.RowKit
set_option linter.unusedVariables false
set_option maxRecDepth 100000
set_option maxHeartbeats 16000000
theorem ocellsW:Tryz.prog.cellsOf 30=4:=by kernel_rfl
theorem ints_nil (w:World):Knd.Ints w none 0 0 []:=⟨rfl,Nat.le_refl _,Nat.zero_le _,fun _=>rfl,.inl rfl⟩
theorem open_nums {H:Type}{enc:TypeId × Value->H}{W:World}{fuel:Nat}{v:Value}{x:DataW H × List MemPlace}
  (h:DataW.trod enc Tryz.prog W 0 (fun _=>true) true fuel 25 [v]=some x) :
  ∃ a n c zs,v=.slice a n c/\Knd.Ints W a n c zs/\((x.1=.nil/\n=0)\/∃ spare,x.1=.slice (lits .i64 zs) spare/\spare.length=c-n):=by
 rcases open_ints Tryz.underlying25 Tryz.underlying3 ocellsI h with⟨hcs,hx⟩|⟨ad,l,c',zs,hcs,_,hl,hm,hz,hx,hcell,hwz⟩
 ·simp at hcs
  exact⟨none,0,0,[],hcs,ints_nil W,.inl ⟨by rw[hx],rfl⟩⟩
 ·simp at hcs
  simp only[if_true] at hz
  refine⟨some ad,l,c',zs.take l,hcs,⟨by rw[List.length_take];omega,hl,hm,(fun h=>by cases h),?_⟩,.inr ⟨_,by rw[hx],by simp[lits,List.length_drop,hz]⟩⟩
  by_cases h0:l=0
  ·exact .inl h0
  ·obtain⟨b,off,spot⟩:=ad
   have hspot:spot=none:=by simpa [Addr.add] using World.cell?_spot (hcell 0 (by omega))
   subst hspot
   refine .inr ⟨b,off,rfl,fun i hi=>?_⟩
   have:=hcell i (by omega)
   rw[Addr.add_lit] at this
   rw[this]
   simp[List.getD,hi]
end Go.Proofs.YtimdcmponhcngaaGreat
