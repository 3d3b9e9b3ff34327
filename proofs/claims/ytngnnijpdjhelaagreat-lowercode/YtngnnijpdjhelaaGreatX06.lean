import Derived.BigRegion
import Derived.Test.YtngnnijpdjhelaaGreatX05
namespace Go.Proofs.YtngnnijpdjhelaaGreat.Spn
open Go.RowKit Go.IntWalk Go.Sort
set_option linter.unusedVariables false
set_option maxRecDepth 100000
set_option maxHeartbeats 16000000
theorem mixed:Tryz.prog.follows .mixedOrders=true:=by kernel_rfl
theorem box2 {w w2:World}{a b c d x y:Int}(h:Below (((w.alloc (.cells #[.int .i64 a,.int .i64 b] 103)).alloc (.cells #[.int .i64 c,.int .i64 d] 103)).alloc (.cells #[.int .i64 x,.int .i64 y] 103)).heap.size (((w.alloc (.cells #[.int .i64 a,.int .i64 b] 103)).alloc (.cells #[.int .i64 c,.int .i64 d] 103)).alloc (.cells #[.int .i64 x,.int .i64 y] 103)) w2) :
  HasC w2 w.heap.size 103 #[.int .i64 a,.int .i64 b]/\HasC w2 (w.heap.size+1) 103 #[.int .i64 c,.int .i64 d]/\HasC w2 (w.heap.size+1+1) 103 #[.int .i64 x,.int .i64 y]/\Below w.heap.size w w2:=by
 have h1:=(((HasC.new w 103 #[.int .i64 a,.int .i64 b]).alloc (.cells #[.int .i64 c,.int .i64 d] 103)).alloc (.cells #[.int .i64 x,.int .i64 y] 103)).below h
 have h2:=((HasC.new (w.alloc (.cells #[.int .i64 a,.int .i64 b] 103)) 103 #[.int .i64 c,.int .i64 d]).alloc (.cells #[.int .i64 x,.int .i64 y] 103)).below h
 have h3:=(HasC.new ((w.alloc (.cells #[.int .i64 a,.int .i64 b] 103)).alloc (.cells #[.int .i64 c,.int .i64 d] 103)) 103 #[.int .i64 x,.int .i64 y]).below h
 simp only[World.size_alloc] at h2 h3
 exact⟨h1,h2,h3,bel (bel3 _ _ _ _ _) h⟩
def arN (a b c d:Int):Nat:=max (max (max (wdN a) (wdN b)) (wdN c)) (wdN d)
def arP (a b c d:Int):Int:=2 ^ arN a b c d
abbrev W32 (x:Int):Prop:=-2147483648<=x/\x<=2147483647
theorem arP_bd {a b c d:Int}(ha:W32 a)(hb:W32 b)(hc:W32 c)(hd:W32 d):arN a b c d<=31/\1<=arP a b c d/\arP a b c d<=2147483648:=by
 have h1:=(wdN_facts ha).1
 have h2:=(wdN_facts hb).1
 have h3:=(wdN_facts hc).1
 have h4:=(wdN_facts hd).1
 have h5:arN a b c d<=31:=by unfold arN;omega
 exact⟨h5,pow_bd _ 31 h5⟩
def mx4 (a b c d:Int):Int:=max (max (max a b) c) d
theorem run_max_int4 {P:Program}{w:World}(ts:Array TypeId)(t:TypeId)(k k' k'' k3:IntKind)(x y z u:Int):(Builtin.max_ ts t #[.int k x,.int k' y,.int k'' z,.int k3 u]).run P w=.ok (.int k (mx4 x y z u)) w:=by
 simp[Builtin.max_,Builtin.max2,mx4]
 omega
attribute [local go_sem] run_max_int4
theorem around_any (a b c d:Int)(w:World)(ha:W32 a)(hb:W32 b)(hc:W32 c)(hd:W32 d) :
  Calls Tryz.prog 179 #[.agg #[.int .i64 a,.int .i64 b],.agg #[.int .i64 c,.int .i64 d]] w fun e w'=>e=.returned (.agg #[.int .i64 (-arP a b c d),.int .i64 (arP a b c d-1)])/\Below w.heap.size w w':=by
 have w1:=fun w=>width_any a w ha
 have w2:=fun w=>width_any b w hb
 have w3:=fun w=>width_any c w hc
 have w4:=fun w=>width_any d w hd
 have f1:=(wdN_facts ha).1
 have f2:=(wdN_facts hb).1
 have f3:=(wdN_facts hc).1
 have f4:=(wdN_facts hd).1
 have hP:=arP_bd ha hb hc hd
 have hN:((arN a b c d:Nat):Int)=mx4 (wdZ a) (wdZ b) (wdZ c) (wdZ d):=by unfold arN wdZ mx4;omega
 have HN:=hide hN
 have HP:=hide hP
 clear hN hP w1 w2 w3 w4
 go_enter Tryz.func179,Tryz.ntmps179
 go_wp2_with fail
 go_quiet ((go_at_call 191;exact Calls.quiet_of_same (width_any _ _ (by assumption))))
 go_wp2_with fail
 rw[<-HN.out]
 have hN:=HP.out.1
 have hN2:¬((arN a b c d:Nat):Int) < 0:=by omega
 have hQ:(2:Int) ^ arN a b c d=arP a b c d:=rfl
 have hQ1:=HP.out.2
 generalize hp:arP a b c d=p at *
 have EP:=hide hp
 clear hp
 generalize arN a b c d=n at *
 go_region
 go_wp2_with fail
 have hB:=bdrew (bel3 w (.cells #[.int .i64 a,.int .i64 b] 103) (.cells #[.int .i64 c,.int .i64 d] 103) 0 0) (nq+1)
 have hR:=HasC.new ((w.alloc (.cells #[.int .i64 a,.int .i64 b] 103)).alloc (.cells #[.int .i64 c,.int .i64 d] 103)) 103 #[.int .i64 0,.int .i64 0]
 simp only[World.size_alloc] at hR
 obtain⟨c0,c1,hB2⟩:=stored2 (w:=w) (b:=w.heap.size+1+1) (w2:=(((w.alloc (.cells #[.int .i64 a,.int .i64 b] 103)).alloc (.cells #[.int .i64 c,.int .i64 d] 103)).alloc (.cells #[.int .i64 0,.int .i64 0] 103)).drewN (nq+1)) hR hB (by omega) (-p) (p-1)
 exact bodyPost_ret (v:=.agg #[.int .i64 (-p),.int .i64 (p-1)]) (by simp[results,Tryz.results179,go_sem,c0,c1]) rfl ⟨by rw[EP.out],hB2⟩
def leftZ (a b c d:Int):Int × Int:=(if a < 0 then max a (-(max (-c) d-1)) else 0,if 0 < b then min b (max (-c) d-1) else 0)
theorem bel4 (w:World)(o1 o2:Obj)(x y x' y':Int):Below w.heap.size w ((((w.alloc o1).alloc o2).alloc (.cells #[.int .i64 x,.int .i64 y] 103)).alloc (.cells #[.int .i64 x',.int .i64 y'] 103)) :=
 ((((Below.refl _ _).alloc (Nat.le_refl _) _).alloc (by simp) _).alloc (by simp;omega) _).alloc (by simp;omega) _
theorem left_any (a b c d:Int)(w:World)(ha:W32 a)(hb:W32 b)(hc:W32 c)(hd:W32 d) :
  Calls Tryz.prog 181 #[.agg #[.int .i64 a,.int .i64 b],.agg #[.int .i64 c,.int .i64 d]] w fun e w'=>e=.returned (.agg #[.int .i64 (leftZ a b c d).1,.int .i64 (leftZ a b c d).2])/\Below w.heap.size w w':=by
 by_cases h1:a < 0 <;> by_cases h2:0 < b
 ·rw[show leftZ a b c d=(max a (-(max (-c) d-1)),min b (max (-c) d-1)) by simp[leftZ,h1,h2]]
  go_enter Tryz.func181,Tryz.ntmps181
  go_wp2
  all_goals exact bodyPost_ret (v:=.agg #[.int .i64 (max a (-(max (-c) d-1))),.int .i64 (min b (max (-c) d-1))]) (by simp[results,Tryz.results181,go_sem];omega) rfl ⟨rfl,bel4 _ _ _ _ _ _ _⟩
 ·rw[show leftZ a b c d=(max a (-(max (-c) d-1)),0) by simp[leftZ,h1,h2]]
  go_enter Tryz.func181,Tryz.ntmps181
  go_wp2
  all_goals exact bodyPost_ret (v:=.agg #[.int .i64 (max a (-(max (-c) d-1))),.int .i64 0]) (by simp[results,Tryz.results181,go_sem];omega) rfl ⟨rfl,bel4 _ _ _ _ _ _ _⟩
 ·rw[show leftZ a b c d=(0,min b (max (-c) d-1)) by simp[leftZ,h1,h2]]
  go_enter Tryz.func181,Tryz.ntmps181
  go_wp2
  all_goals exact bodyPost_ret (v:=.agg #[.int .i64 0,.int .i64 (min b (max (-c) d-1))]) (by simp[results,Tryz.results181,go_sem];omega) rfl ⟨rfl,bel4 _ _ _ _ _ _ _⟩
 ·rw[show leftZ a b c d=(0,0) by simp[leftZ,h1,h2]]
  go_enter Tryz.func181,Tryz.ntmps181
  go_wp2
  all_goals exact bodyPost_ret (v:=.agg #[.int .i64 0,.int .i64 0]) (by simp[results,Tryz.results181,go_sem]) rfl ⟨rfl,bel4 _ _ _ _ _ _ _⟩
def oneZ (op a b:Int):Int × Int:=if op=5 then(-b,-a) else if 0<=a then(a,b) else if b < 0 then(-b,-a) else(0,max (-a) b)
theorem sofOne_any (op a b:Int)(w:World)(ha:W32 a)(hb:W32 b) :
  Calls Tryz.prog 183 #[.int .i64 op,.agg #[.int .i64 a,.int .i64 b]] w fun e w'=>e=.returned (.agg #[.int .i64 (oneZ op a b).1,.int .i64 (oneZ op a b).2])/\Below w.heap.size w w':=by
 by_cases h0:op=5
 ·subst h0
  rw[show oneZ 5 a b=(-b,-a) from rfl]
  go_enter Tryz.func183,Tryz.ntmps183
  go_wp2
  exact bodyPost_ret (v:=.agg #[.int .i64 (-b),.int .i64 (-a)]) (by simp[results,Tryz.results183,go_sem]) rfl ⟨rfl,bel3 _ _ _ _ _⟩
 have e0:(op==5)=false:=by simp[h0]
 by_cases h1:0<=a
 ·rw[show oneZ op a b=(a,b) by simp[oneZ,h0,h1]]
  clear h0
  go_enter Tryz.func183,Tryz.ntmps183
  go_wp2
  exact bodyPost_ret (v:=.agg #[.int .i64 a,.int .i64 b]) (by simp[results,Tryz.results183,go_sem]) rfl ⟨rfl,bel3 _ _ _ _ _⟩
 by_cases h2:b < 0
 ·rw[show oneZ op a b=(-b,-a) by simp[oneZ,h0,h1,h2]]
  clear h0
  go_enter Tryz.func183,Tryz.ntmps183
  go_wp2
  exact bodyPost_ret (v:=.agg #[.int .i64 (-b),.int .i64 (-a)]) (by simp[results,Tryz.results183,go_sem]) rfl ⟨rfl,bel3 _ _ _ _ _⟩
 ·rw[show oneZ op a b=(0,max (-a) b) by simp[oneZ,h0,h1,h2]]
  clear h0
  go_enter Tryz.func183,Tryz.ntmps183
  go_wp2
  all_goals exact bodyPost_ret (v:=.agg #[.int .i64 0,.int .i64 (max (-a) b)]) (by simp[results,Tryz.results183,go_sem];omega) rfl ⟨rfl,bel3 _ _ _ _ _⟩
def bothZ (a b c d:Int):Int × Int:=if 0<=a/\0<=c then(0,min b d) else if 0<=a then(0,b) else if 0<=c then(0,d) else(-arP a b c d,arP a b c d-1)
theorem both_any (a b c d:Int)(w:World)(ha:W32 a)(hb:W32 b)(hc:W32 c)(hd:W32 d) :
  Calls Tryz.prog 159 #[.agg #[.int .i64 a,.int .i64 b],.agg #[.int .i64 c,.int .i64 d]] w fun e w'=>e=.returned (.agg #[.int .i64 (bothZ a b c d).1,.int .i64 (bothZ a b c d).2])/\Below w.heap.size w w':=by
 by_cases h1:0<=a
 ·have e1:decide (0<=a)=true:=by simp[h1]
  by_cases h2:0<=c
  ·rw[show bothZ a b c d=(0,min b d) by simp[bothZ,h1,h2]]
   go_enter Tryz.func159,Tryz.ntmps159
   go_wp2
   all_goals exact bodyPost_ret (v:=.agg #[.int .i64 0,.int .i64 (min b d)]) (by simp[results,Tryz.results159,go_sem];omega) rfl ⟨rfl,bel3 _ _ _ _ _⟩
  ·rw[show bothZ a b c d=(0,b) by simp[bothZ,h1,h2]]
   go_enter Tryz.func159,Tryz.ntmps159
   go_wp2
   exact bodyPost_ret (v:=.agg #[.int .i64 0,.int .i64 b]) (by simp[results,Tryz.results159,go_sem]) rfl ⟨rfl,bel3 _ _ _ _ _⟩
 ·have e1:decide (0<=a)=false:=by simp;omega
  by_cases h2:0<=c
  ·rw[show bothZ a b c d=(0,d) by simp[bothZ,h1,h2]]
   go_enter Tryz.func159,Tryz.ntmps159
   go_wp2
   exact bodyPost_ret (v:=.agg #[.int .i64 0,.int .i64 d]) (by simp[results,Tryz.results159,go_sem]) rfl ⟨rfl,bel3 _ _ _ _ _⟩
  ·rw[show bothZ a b c d=(-arP a b c d,arP a b c d-1) by simp[bothZ,h1,h2]]
   have HA:=fun w=>hide (around_any a b c d w ha hb hc hd)
   generalize arP a b c d=p at *
   go_enter Tryz.func159,Tryz.ntmps159
   go_wp2_with fail
   refine(HA _).out.mono ?_
   rintro e w2 ⟨rfl,hb2⟩
   obtain⟨-,-,h3,hB⟩:=box2 hb2
   obtain⟨s1,s2,s3,s4⟩:=facts2 h3
   go_wp2_with fail
   obtain⟨c0,c1,hB2⟩:=stored2 h3 hB (by omega) (-p) (p-1)
   exact bodyPost_ret (v:=.agg #[.int .i64 (-p),.int .i64 (p-1)]) (by simp[results,Tryz.results159,go_sem,c0,c1]) rfl ⟨rfl,hB2⟩
end Go.Proofs.YtngnnijpdjhelaaGreat.Spn
namespace Go.Proofs.YtngnnijpdjhelaaGreat.Spn
open Go.RowKit Go.IntWalk Go.Sort
set_option linter.unusedVariables false
set_option maxRecDepth 100000
set_option maxHeartbeats 16000000
def eithZ (op a b c d:Int):Int × Int:=if a < 0\/c < 0 then(-arP a b c d,arP a b c d-1) else if op=16 then(max a c,arP a b c d-1) else(0,arP a b c d-1)
theorem box3 {w w2:World}{t:TypeId}{x y:Value}{x' y':Int}{b:Nat}(h:HasC w2 b t #[x,y])(hB:Below w.heap.size w w2) :
  HasC (w2.alloc (.cells #[.int .i64 x',.int .i64 y'] 103)) b t #[x,y]/\HasC (w2.alloc (.cells #[.int .i64 x',.int .i64 y'] 103)) w2.heap.size 103 #[.int .i64 x',.int .i64 y']/\Below w.heap.size w (w2.alloc (.cells #[.int .i64 x',.int .i64 y'] 103)) :=
 ⟨h.alloc _,HasC.new _ _ _,hB.alloc hB.size _⟩
theorem either_any (op a b c d:Int)(w:World)(ha:W32 a)(hb:W32 b)(hc:W32 c)(hd:W32 d) :
  Calls Tryz.prog 192 #[.int .i64 op,.agg #[.int .i64 a,.int .i64 b],.agg #[.int .i64 c,.int .i64 d]] w fun e w'=>e=.returned (.agg #[.int .i64 (eithZ op a b c d).1,.int .i64 (eithZ op a b c d).2])/\Below w.heap.size w w':=by
 have HA:=fun w=>hide (around_any a b c d w ha hb hc hd)
 have HZ:Hid (eithZ op a b c d=if a < 0\/c < 0 then(-arP a b c d,arP a b c d-1) else if op=16 then(max a c,arP a b c d-1) else(0,arP a b c d-1)):=hide rfl
 have hP:=(arP_bd ha hb hc hd).2
 generalize arP a b c d=p at *
 by_cases h1:a < 0
 ·have e1:decide (a < 0)=true:=by simp[h1]
  have hz:=HZ.out
  rw[if_pos (.inl h1)] at hz
  rw[hz]
  clear hz HZ
  go_enter Tryz.func192,Tryz.ntmps192
  go_wp2_with fail
  refine(HA _).out.mono ?_
  rintro e w2 ⟨rfl,hb2⟩
  obtain⟨k1,k2,h3,hB⟩:=box2 hb2
  clear hb2
  have f1:=fun x' y':Int=>facts2 (box3 (x':=x') (y':=y') k1 hB).1
  have f2:=fun x' y':Int=>facts2 (box3 (x':=x') (y':=y') k2 hB).1
  have f3:=fun x' y':Int=>facts2 (box3 (x':=x') (y':=y') h3 hB).1
  have q1:=fun x' y'=>(f1 x' y').1
  have q2:=fun x' y'=>(f1 x' y').2.1
  have r1:=fun x' y'=>(f2 x' y').1
  have r2:=fun x' y'=>(f2 x' y').2.1
  have s1:=fun x' y'=>(f3 x' y').1
  have s2:=fun x' y'=>(f3 x' y').2.1
  have s3:=fun x' y'=>(f3 x' y').2.2.1
  have s4:=fun x' y'=>(f3 x' y').2.2.2
  have HB:=hide fun x' y':Int=>(box3 (x':=x') (y':=y') k1 hB).2.2
  have H3:=hide fun x' y':Int=>(box3 (x':=x') (y':=y') h3 hB).1
  clear f1 f2 f3 k1 k2 h3 hB
  go_wp2_with fail
  obtain⟨c0,c1,hB2⟩:=stored2 (H3.out _ _) (HB.out _ _) (by omega) (-p) (p-1)
  exact bodyPost_ret (v:=.agg #[.int .i64 (-p),.int .i64 (p-1)]) (by simp[results,Tryz.results192,go_sem,c0,c1]) rfl ⟨rfl,hB2⟩
 have e1:decide (a < 0)=false:=by simp;omega
 by_cases h2:c < 0
 ·have hz:=HZ.out
  rw[if_pos (.inr h2)] at hz
  rw[hz]
  clear hz HZ
  go_enter Tryz.func192,Tryz.ntmps192
  go_wp2_with fail
  refine(HA _).out.mono ?_
  rintro e w2 ⟨rfl,hb2⟩
  obtain⟨k1,k2,h3,hB⟩:=box2 hb2
  clear hb2
  have f1:=fun x' y':Int=>facts2 (box3 (x':=x') (y':=y') k1 hB).1
  have f2:=fun x' y':Int=>facts2 (box3 (x':=x') (y':=y') k2 hB).1
  have f3:=fun x' y':Int=>facts2 (box3 (x':=x') (y':=y') h3 hB).1
  have q1:=fun x' y'=>(f1 x' y').1
  have q2:=fun x' y'=>(f1 x' y').2.1
  have r1:=fun x' y'=>(f2 x' y').1
  have r2:=fun x' y'=>(f2 x' y').2.1
  have s1:=fun x' y'=>(f3 x' y').1
  have s2:=fun x' y'=>(f3 x' y').2.1
  have s3:=fun x' y'=>(f3 x' y').2.2.1
  have s4:=fun x' y'=>(f3 x' y').2.2.2
  have HB:=hide fun x' y':Int=>(box3 (x':=x') (y':=y') k1 hB).2.2
  have H3:=hide fun x' y':Int=>(box3 (x':=x') (y':=y') h3 hB).1
  clear f1 f2 f3 k1 k2 h3 hB
  go_wp2_with fail
  obtain⟨c0,c1,hB2⟩:=stored2 (H3.out _ _) (HB.out _ _) (by omega) (-p) (p-1)
  exact bodyPost_ret (v:=.agg #[.int .i64 (-p),.int .i64 (p-1)]) (by simp[results,Tryz.results192,go_sem,c0,c1]) rfl ⟨rfl,hB2⟩
 have h12:¬(a < 0\/c < 0):=by omega
 by_cases h0:op=16
 ·subst h0
  have hz:=HZ.out
  rw[if_neg h12,if_pos rfl] at hz
  rw[hz]
  clear hz HZ
  go_enter Tryz.func192,Tryz.ntmps192
  go_wp2_with fail
  refine(HA _).out.mono ?_
  rintro e w2 ⟨rfl,hb2⟩
  obtain⟨k1,k2,h3,hB⟩:=box2 hb2
  clear hb2
  have f1:=fun x' y':Int=>facts2 (box3 (x':=x') (y':=y') k1 hB).1
  have f2:=fun x' y':Int=>facts2 (box3 (x':=x') (y':=y') k2 hB).1
  have f3:=fun x' y':Int=>facts2 (box3 (x':=x') (y':=y') h3 hB).1
  have q1:=fun x' y'=>(f1 x' y').1
  have q2:=fun x' y'=>(f1 x' y').2.1
  have r1:=fun x' y'=>(f2 x' y').1
  have r2:=fun x' y'=>(f2 x' y').2.1
  have s1:=fun x' y'=>(f3 x' y').1
  have s2:=fun x' y'=>(f3 x' y').2.1
  have s3:=fun x' y'=>(f3 x' y').2.2.1
  have s4:=fun x' y'=>(f3 x' y').2.2.2
  have HB:=hide fun x' y':Int=>(box3 (x':=x') (y':=y') k1 hB).2.2
  have H3:=hide fun x' y':Int=>(box3 (x':=x') (y':=y') h3 hB).1
  clear f1 f2 f3 k1 k2 h3 hB
  go_wp2_with fail
  ·obtain⟨c0,c1,hB2⟩:=stored2 (H3.out _ _) (HB.out _ _) (by omega) c (p-1)
   exact bodyPost_ret (v:=.agg #[.int .i64 c,.int .i64 (p-1)]) (by simp[results,Tryz.results192,go_sem,c0,c1]) rfl ⟨ret_span (by omega) rfl,hB2⟩
  ·obtain⟨c0,c1,hB2⟩:=stored2 (H3.out _ _) (HB.out _ _) (by omega) a (p-1)
   exact bodyPost_ret (v:=.agg #[.int .i64 a,.int .i64 (p-1)]) (by simp[results,Tryz.results192,go_sem,c0,c1]) rfl ⟨ret_span (by omega) rfl,hB2⟩
 ·have e0:(op==16)=false:=by simp[h0]
  have hz:=HZ.out
  rw[if_neg h12,if_neg h0] at hz
  rw[hz]
  clear hz HZ
  go_enter Tryz.func192,Tryz.ntmps192
  go_wp2_with fail
  refine(HA _).out.mono ?_
  rintro e w2 ⟨rfl,hb2⟩
  obtain⟨k1,k2,h3,hB⟩:=box2 hb2
  clear hb2
  have f1:=fun x' y':Int=>facts2 (box3 (x':=x') (y':=y') k1 hB).1
  have f2:=fun x' y':Int=>facts2 (box3 (x':=x') (y':=y') k2 hB).1
  have f3:=fun x' y':Int=>facts2 (box3 (x':=x') (y':=y') h3 hB).1
  have q1:=fun x' y'=>(f1 x' y').1
  have q2:=fun x' y'=>(f1 x' y').2.1
  have r1:=fun x' y'=>(f2 x' y').1
  have r2:=fun x' y'=>(f2 x' y').2.1
  have s1:=fun x' y'=>(f3 x' y').1
  have s2:=fun x' y'=>(f3 x' y').2.1
  have s3:=fun x' y'=>(f3 x' y').2.2.1
  have s4:=fun x' y'=>(f3 x' y').2.2.2
  have HB:=hide fun x' y':Int=>(box3 (x':=x') (y':=y') k1 hB).2.2
  have H3:=hide fun x' y':Int=>(box3 (x':=x') (y':=y') h3 hB).1
  clear f1 f2 f3 k1 k2 h3 hB
  go_wp2_with fail
  obtain⟨c0,c1,hB2⟩:=stored2 (H3.out _ _) (HB.out _ _) (by omega) 0 (p-1)
  exact bodyPost_ret (v:=.agg #[.int .i64 0,.int .i64 (p-1)]) (by simp[results,Tryz.results192,go_sem,c0,c1]) rfl ⟨rfl,hB2⟩
def eqZ (a b c d:Int):Int × Int:=if b < c\/d < a then(0,0) else if a=c/\b=d/\a=b then(1,1) else(0,1)
theorem box_rg {w W:World}{b1 b2 b3:Nat}{a b c d x y:Int}(k1:HasC W b1 103 #[.int .i64 a,.int .i64 b])(k2:HasC W b2 103 #[.int .i64 c,.int .i64 d])(k3:HasC W b3 103 #[.int .i64 x,.int .i64 y])(hB:Below w.heap.size w W)(dq:Nat)(os:Array Obj) :
  HasC (grow (redrawn W dq) os) b1 103 #[.int .i64 a,.int .i64 b]/\HasC (grow (redrawn W dq) os) b2 103 #[.int .i64 c,.int .i64 d]/\HasC (grow (redrawn W dq) os) b3 103 #[.int .i64 x,.int .i64 y]/\Below w.heap.size w (grow (redrawn W dq) os) :=
 ⟨k1.below (below_regrown _ _ _),k2.below (below_regrown _ _ _),k3.below (below_regrown _ _ _),bel hB (below_regrown _ _ _)⟩
theorem equal_any (a b c d:Int)(w:World) :
  Calls Tryz.prog 193 #[.agg #[.int .i64 a,.int .i64 b],.agg #[.int .i64 c,.int .i64 d]] w fun e w'=>e=.returned (.agg #[.int .i64 (eqZ a b c d).1,.int .i64 (eqZ a b c d).2])/\Below w.heap.size w w':=by
 by_cases h1:b < c
 ·have e1:decide (b < c)=true:=by simp[h1]
  rw[show eqZ a b c d=(0,0) by simp[eqZ,h1]]
  go_enter Tryz.func193,Tryz.ntmps193
  go_wp2_with fail
  refine(alone_any _ _).mono ?_
  rintro e w2 ⟨rfl,hb2⟩
  obtain⟨-,-,h3,hB⟩:=box2 hb2
  obtain⟨s1,s2,s3,s4⟩:=facts2 h3
  go_wp2_with fail
  obtain⟨c0,c1,hB2⟩:=stored2 h3 hB (by omega) 0 0
  exact bodyPost_ret (v:=.agg #[.int .i64 0,.int .i64 0]) (by simp[results,Tryz.results193,go_sem,c0,c1]) rfl ⟨rfl,hB2⟩
 have e1:decide (b < c)=false:=by simp;omega
 by_cases h2:d < a
 ·rw[show eqZ a b c d=(0,0) by simp[eqZ,h2]]
  go_enter Tryz.func193,Tryz.ntmps193
  go_wp2_with fail
  refine(alone_any _ _).mono ?_
  rintro e w2 ⟨rfl,hb2⟩
  obtain⟨-,-,h3,hB⟩:=box2 hb2
  obtain⟨s1,s2,s3,s4⟩:=facts2 h3
  go_wp2_with fail
  obtain⟨c0,c1,hB2⟩:=stored2 h3 hB (by omega) 0 0
  exact bodyPost_ret (v:=.agg #[.int .i64 0,.int .i64 0]) (by simp[results,Tryz.results193,go_sem,c0,c1]) rfl ⟨rfl,hB2⟩
 have hap:¬(b < c\/d < a):=by omega
 by_cases h3:a=c
 ·subst h3
  by_cases h5:b=d
  ·subst h5
   by_cases h4:a=b
   ·subst h4
    rw[show eqZ a a a a=(1,1) by simp[eqZ]]
    go_enter Tryz.func193,Tryz.ntmps193
    go_wp2_with fail
    obtain⟨k1,k2,k3,hB⟩:=box2 (w:=w) (a:=a) (b:=a) (c:=a) (d:=a) (x:=0) (y:=0) (Below.refl _ _)
    obtain⟨W,hW⟩:∃ W,((w.alloc (.cells #[.int .i64 a,.int .i64 a] 103)).alloc (.cells #[.int .i64 a,.int .i64 a] 103)).alloc (.cells #[.int .i64 0,.int .i64 0] 103)=W:=⟨_,rfl⟩
    rw[hW] at k1 k2 k3 hB ⊢
    clear hW
    obtain⟨q1,q2,-,-⟩:=facts2 k1
    obtain⟨r1,r2,-,-⟩:=facts2 k2
    have m1:=cell_regrown q1
    have m2:=cell_regrown q2
    have m3:=cell_regrown r1
    have m4:=cell_regrown r2
    refine wp_region_quiet_below mixed (by kernel_rfl) ?_
    repeat (go_big_quiet_step ((go_at_call 158;exact Calls.regrown_of (alone_any _ _))))
    refine wpQuiet_nil ?_
    intro _ hw'
    obtain⟨⟨dq,osq⟩,hw''⟩:=hw'
    subst hw''
    obtain⟨-,-,k4,hB4⟩:=box_rg k1 k2 k3 hB dq osq
    clear k1 k2 k3 hB q1 q2 r1 r2 m1 m2 m3 m4
    simp only
    generalize grow (redrawn W dq) osq=G at *
    go_wp2_with fail
    refine(alone_any _ _).mono ?_
    rintro e w2 ⟨rfl,hb2⟩
    have h3:=k4.below hb2
    have hB:=bel hB4 hb2
    obtain⟨s1,s2,s3,s4⟩:=facts2 h3
    clear hb2 k4 hB4
    go_wp2_with fail
    obtain⟨c0,c1,hB2⟩:=stored2 h3 hB (by omega) 1 1
    exact bodyPost_ret (v:=.agg #[.int .i64 1,.int .i64 1]) (by simp[results,Tryz.results193,go_sem,c0,c1]) rfl ⟨rfl,hB2⟩
   ·rw[show eqZ a b a b=(0,1) by simp[eqZ,h4];omega]
    have e4:(b==a)=false:=by simp;omega
    have e5:(a==b)=false:=by simp;omega
    clear h4
    go_enter Tryz.func193,Tryz.ntmps193
    go_wp2_with fail
    obtain⟨k1,k2,k3,hB⟩:=box2 (w:=w) (a:=a) (b:=b) (c:=a) (d:=b) (x:=0) (y:=0) (Below.refl _ _)
    obtain⟨W,hW⟩:∃ W,((w.alloc (.cells #[.int .i64 a,.int .i64 b] 103)).alloc (.cells #[.int .i64 a,.int .i64 b] 103)).alloc (.cells #[.int .i64 0,.int .i64 0] 103)=W:=⟨_,rfl⟩
    rw[hW] at k1 k2 k3 hB ⊢
    clear hW
    obtain⟨q1,q2,-,-⟩:=facts2 k1
    obtain⟨r1,r2,-,-⟩:=facts2 k2
    have m1:=cell_regrown q1
    have m2:=cell_regrown q2
    have m3:=cell_regrown r1
    have m4:=cell_regrown r2
    refine wp_region_quiet_below mixed (by kernel_rfl) ?_
    repeat (go_big_quiet_step ((go_at_call 158;exact Calls.regrown_of (alone_any _ _))))
    refine wpQuiet_nil ?_
    intro _ hw'
    obtain⟨⟨dq,osq⟩,hw''⟩:=hw'
    subst hw''
    obtain⟨-,-,k4,hB4⟩:=box_rg k1 k2 k3 hB dq osq
    clear k1 k2 k3 hB q1 q2 r1 r2 m1 m2 m3 m4
    simp only
    generalize grow (redrawn W dq) osq=G at *
    obtain⟨s1,s2,s3,s4⟩:=facts2 k4
    go_wp2_with fail
    obtain⟨c0,c1,hB2⟩:=stored2 k4 hB4 (by omega) 0 1
    exact bodyPost_ret (v:=.agg #[.int .i64 0,.int .i64 1]) (by simp[results,Tryz.results193,go_sem,c0,c1]) rfl ⟨rfl,hB2⟩
  ·rw[show eqZ a b a d=(0,1) by simp[eqZ,h5];omega]
   have e4:(b==d)=false:=by simp;omega
   clear h5
   go_enter Tryz.func193,Tryz.ntmps193
   go_wp2_with fail
   obtain⟨k1,k2,k3,hB⟩:=box2 (w:=w) (a:=a) (b:=b) (c:=a) (d:=d) (x:=0) (y:=0) (Below.refl _ _)
   obtain⟨W,hW⟩:∃ W,((w.alloc (.cells #[.int .i64 a,.int .i64 b] 103)).alloc (.cells #[.int .i64 a,.int .i64 d] 103)).alloc (.cells #[.int .i64 0,.int .i64 0] 103)=W:=⟨_,rfl⟩
   rw[hW] at k1 k2 k3 hB ⊢
   clear hW
   obtain⟨q1,q2,-,-⟩:=facts2 k1
   obtain⟨r1,r2,-,-⟩:=facts2 k2
   have m1:=cell_regrown q1
   have m2:=cell_regrown q2
   have m3:=cell_regrown r1
   have m4:=cell_regrown r2
   refine wp_region_quiet_below mixed (by kernel_rfl) ?_
   repeat (go_big_quiet_step ((go_at_call 158;exact Calls.regrown_of (alone_any _ _))))
   refine wpQuiet_nil ?_
   intro _ hw'
   obtain⟨⟨dq,osq⟩,hw''⟩:=hw'
   subst hw''
   obtain⟨-,-,k4,hB4⟩:=box_rg k1 k2 k3 hB dq osq
   clear k1 k2 k3 hB q1 q2 r1 r2 m1 m2 m3 m4
   simp only
   generalize grow (redrawn W dq) osq=G at *
   obtain⟨s1,s2,s3,s4⟩:=facts2 k4
   go_wp2_with fail
   obtain⟨c0,c1,hB2⟩:=stored2 k4 hB4 (by omega) 0 1
   exact bodyPost_ret (v:=.agg #[.int .i64 0,.int .i64 1]) (by simp[results,Tryz.results193,go_sem,c0,c1]) rfl ⟨rfl,hB2⟩
 ·rw[show eqZ a b c d=(0,1) by simp[eqZ,h3];omega]
  have e4:(a==c)=false:=by simp;omega
  clear h3
  go_enter Tryz.func193,Tryz.ntmps193
  go_wp2_with fail
  obtain⟨k1,k2,k3,hB⟩:=box2 (w:=w) (a:=a) (b:=b) (c:=c) (d:=d) (x:=0) (y:=0) (Below.refl _ _)
  obtain⟨W,hW⟩:∃ W,((w.alloc (.cells #[.int .i64 a,.int .i64 b] 103)).alloc (.cells #[.int .i64 c,.int .i64 d] 103)).alloc (.cells #[.int .i64 0,.int .i64 0] 103)=W:=⟨_,rfl⟩
  rw[hW] at k1 k2 k3 hB ⊢
  clear hW
  obtain⟨q1,q2,-,-⟩:=facts2 k1
  obtain⟨r1,r2,-,-⟩:=facts2 k2
  have m1:=cell_regrown q1
  have m2:=cell_regrown q2
  have m3:=cell_regrown r1
  have m4:=cell_regrown r2
  refine wp_region_quiet_below mixed (by kernel_rfl) ?_
  repeat (go_big_quiet_step ((go_at_call 158;exact Calls.regrown_of (alone_any _ _))))
  refine wpQuiet_nil ?_
  intro _ hw'
  obtain⟨⟨dq,osq⟩,hw''⟩:=hw'
  subst hw''
  obtain⟨-,-,k4,hB4⟩:=box_rg k1 k2 k3 hB dq osq
  clear k1 k2 k3 hB q1 q2 r1 r2 m1 m2 m3 m4
  simp only
  generalize grow (redrawn W dq) osq=G at *
  obtain⟨s1,s2,s3,s4⟩:=facts2 k4
  go_wp2_with fail
  obtain⟨c0,c1,hB2⟩:=stored2 k4 hB4 (by omega) 0 1
  exact bodyPost_ret (v:=.agg #[.int .i64 0,.int .i64 1]) (by simp[results,Tryz.results193,go_sem,c0,c1]) rfl ⟨rfl,hB2⟩
end Go.Proofs.YtngnnijpdjhelaaGreat.Spn
