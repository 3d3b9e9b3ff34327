import Derived.StillTail
import Derived.Laws.AppendOwnNone
import Derived.Test.YticnbcfmbhjbgaaGreatDoorX13
set_option maxRecDepth 100000
set_option maxHeartbeats 32000000
set_option linter.unusedVariables false
namespace Go.Proofs.Spn
section
open Go.RowKit Go.IntWalk Go.Sort
theorem mixed:Tryz.prog.follows .mixedOrders=true:=by kernel_rfl
theorem uW {w w2:World}{a b c d x y:Int}(h:Below (((w.alloc (.cells #[.i a,.i b] 165)).alloc (.cells #[.i c,.i d] 165)).alloc (.cells #[.i x,.i y] 165)).heap.size (((w.alloc (.cells #[.i a,.i b] 165)).alloc (.cells #[.i c,.i d] 165)).alloc (.cells #[.i x,.i y] 165)) w2) :
  aB w2 w.heap.size 165 #[.i a,.i b]/\aB w2 (w.heap.size+1) 165 #[.i c,.i d]/\aB w2 (w.heap.size+1+1) 165 #[.i x,.i y]/\Below w.heap.size w w2:=by
 have h1:=(((aB.new w 165 #[.i a,.i b]).alloc (.cells #[.i c,.i d] 165)).alloc (.cells #[.i x,.i y] 165)).below h
 have h2:=((aB.new (w.alloc (.cells #[.i a,.i b] 165)) 165 #[.i c,.i d]).alloc (.cells #[.i x,.i y] 165)).below h
 have h3:=(aB.new ((w.alloc (.cells #[.i a,.i b] 165)).alloc (.cells #[.i c,.i d] 165)) 165 #[.i x,.i y]).below h
 simp only[wSa] at h2 h3
 exact⟨h1,h2,h3,bel (wM _ _ _ _ _) h⟩
def dC (a b c d:Int):Nat:=max (max (max (wdN a) (wdN b)) (wdN c)) (wdN d)
def pM (a b c d:Int):Int:=2 ^ dC a b c d
abbrev fI (x:Int):Prop:=-2147483648<=x/\x<=2147483647
theorem aGr {a b c d:Int}(ha:fI a)(hb:fI b)(hc:fI c)(hd:fI d):dC a b c d<=31/\1<=pM a b c d/\pM a b c d<=2147483648:=by
 have h1:=(gU ha).1
 have h2:=(gU hb).1
 have h3:=(gU hc).1
 have h4:=(gU hd).1
 have h5:dC a b c d<=31:=by unfold dC;omega
 exact⟨h5,zV _ 31 h5⟩
def mx4 (a b c d:Int):Int:=max (max (max a b) c) d
theorem aDl {P:Program}{w:World}(ts:Array TypeId)(t:TypeId)(k k' k'' k3:IntKind)(x y z u:Int):(Builtin.max_ ts t #[.int k x,.int k' y,.int k'' z,.int k3 u]).run P w=.ok (.int k (mx4 x y z u)) w:=by
 simp[Builtin.max_,Builtin.max2,mx4]
 omega
attribute [local go_sem] aDl
theorem xU (a b c d:Int)(w:World)(ha:fI a)(hb:fI b)(hc:fI c)(hd:fI d) :
  Calls Tryz.prog 339 #[.agg #[.i a,.i b],.agg #[.i c,.i d]] w fun e w'=>e=.returned (.agg #[.i (-pM a b c d),.i (pM a b c d-1)])/\Below w.heap.size w w':=by
 have w1:=fun w=>nU a w ha
 have w2:=fun w=>nU b w hb
 have w3:=fun w=>nU c w hc
 have w4:=fun w=>nU d w hd
 have f1:=(gU ha).1
 have f2:=(gU hb).1
 have f3:=(gU hc).1
 have f4:=(gU hd).1
 have hP:=aGr ha hb hc hd
 have hN:((dC a b c d:Nat):Int)=mx4 (wdZ a) (wdZ b) (wdZ c) (wdZ d):=by unfold dC wdZ mx4;omega
 have HN:=aA hN
 have HP:=aA hP
 clear hN hP w1 w2 w3 w4
 go_enter Tryz.func339,Tryz.ntmps339
 go_wp2_with fail
 go_quiet ((go_at_call 365;exact Calls.quiet_of_same (nU _ _ (by assumption))))
 go_wp2_with fail
 rw[<-HN.o]
 have hN:=HP.o.1
 have hN2:¬((dC a b c d:Nat):Int) < 0:=by omega
 have hQ:(2:Int) ^ dC a b c d=pM a b c d:=rfl
 have hQ1:=HP.o.2
 generalize hp:pM a b c d=p at *
 have EP:=aA hp
 clear hp
 generalize dC a b c d=n at *
 go_region
 go_wp2_with fail
 have hB:=vZ (wM w (.cells #[.i a,.i b] 165) (.cells #[.i c,.i d] 165) 0 0) (nq+1)
 have hR:=aB.new ((w.alloc (.cells #[.i a,.i b] 165)).alloc (.cells #[.i c,.i d] 165)) 165 #[.i 0,.i 0]
 simp only[wSa] at hR
 obtain⟨c0,c1,hB2⟩:=aS (w:=w) (b:=w.heap.size+1+1) (w2:=(((w.alloc (.cells #[.i a,.i b] 165)).alloc (.cells #[.i c,.i d] 165)).alloc (.cells #[.i 0,.i 0] 165)).drewN (nq+1)) hR hB (by omega) (-p) (p-1)
 exact bPr (v:=.agg #[.i (-p),.i (p-1)]) (by simp[results,Tryz.results339,go_sem,c0,c1]) rfl ⟨by rw[EP.o],hB2⟩
def mG (a b c d:Int):Int × Int:=(if a < 0 then max a (-(max (-c) d-1)) else 0,if 0 < b then min b (max (-c) d-1) else 0)
theorem aSe (w:World)(o1 o2:Obj)(x y x' y':Int):Below w.heap.size w ((((w.alloc o1).alloc o2).alloc (.cells #[.i x,.i y] 165)).alloc (.cells #[.i x',.i y'] 165)) :=
 ((((Below.refl _ _).alloc (nLr _) _).alloc (by simp) _).alloc (by simp;omega) _).alloc (by simp;omega) _
theorem aOm (a b c d:Int)(w:World)(ha:fI a)(hb:fI b)(hc:fI c)(hd:fI d) :
  Calls Tryz.prog 341 #[.agg #[.i a,.i b],.agg #[.i c,.i d]] w fun e w'=>e=.returned (.agg #[.i (mG a b c d).1,.i (mG a b c d).2])/\Below w.heap.size w w':=by
 by_cases h1:a < 0 <;> by_cases h2:0 < b
 ·rw[show mG a b c d=(max a (-(max (-c) d-1)),min b (max (-c) d-1)) by simp[mG,h1,h2]]
  go_enter Tryz.func341,Tryz.ntmps341
  go_wp2
  all_goals exact bPr (v:=.agg #[.i (max a (-(max (-c) d-1))),.i (min b (max (-c) d-1))]) (by simp[results,Tryz.results341,go_sem];omega) rfl ⟨rfl,aSe _ _ _ _ _ _ _⟩
 ·rw[show mG a b c d=(max a (-(max (-c) d-1)),0) by simp[mG,h1,h2]]
  go_enter Tryz.func341,Tryz.ntmps341
  go_wp2
  all_goals exact bPr (v:=.agg #[.i (max a (-(max (-c) d-1))),.i 0]) (by simp[results,Tryz.results341,go_sem];omega) rfl ⟨rfl,aSe _ _ _ _ _ _ _⟩
 ·rw[show mG a b c d=(0,min b (max (-c) d-1)) by simp[mG,h1,h2]]
  go_enter Tryz.func341,Tryz.ntmps341
  go_wp2
  all_goals exact bPr (v:=.agg #[.i 0,.i (min b (max (-c) d-1))]) (by simp[results,Tryz.results341,go_sem];omega) rfl ⟨rfl,aSe _ _ _ _ _ _ _⟩
 ·rw[show mG a b c d=(0,0) by simp[mG,h1,h2]]
  go_enter Tryz.func341,Tryz.ntmps341
  go_wp2
  all_goals exact bPr (v:=.agg #[.i 0,.i 0]) (by simp[results,Tryz.results341,go_sem]) rfl ⟨rfl,aSe _ _ _ _ _ _ _⟩
def nL (op a b:Int):Int × Int:=if op=5 then(-b,-a) else if 0<=a then(a,b) else if b < 0 then(-b,-a) else(0,max (-a) b)
theorem aH0 (op a b:Int)(w:World)(ha:fI a)(hb:fI b) :
  Calls Tryz.prog 343 #[.i op,.agg #[.i a,.i b]] w fun e w'=>e=.returned (.agg #[.i (nL op a b).1,.i (nL op a b).2])/\Below w.heap.size w w':=by
 by_cases h0:op=5
 ·subst h0
  rw[show nL 5 a b=(-b,-a) from rfl]
  go_enter Tryz.func343,Tryz.ntmps343
  go_wp2
  exact bPr (v:=.agg #[.i (-b),.i (-a)]) (by simp[results,Tryz.results343,go_sem]) rfl ⟨rfl,wM _ _ _ _ _⟩
 have e0:(op==5)=false:=by simp[h0]
 by_cases h1:0<=a
 ·rw[show nL op a b=(a,b) by simp[nL,h0,h1]]
  clear h0
  go_enter Tryz.func343,Tryz.ntmps343
  go_wp2
  exact bPr (v:=.agg #[.i a,.i b]) (by simp[results,Tryz.results343,go_sem]) rfl ⟨rfl,wM _ _ _ _ _⟩
 by_cases h2:b < 0
 ·rw[show nL op a b=(-b,-a) by simp[nL,h0,h1,h2]]
  clear h0
  go_enter Tryz.func343,Tryz.ntmps343
  go_wp2
  exact bPr (v:=.agg #[.i (-b),.i (-a)]) (by simp[results,Tryz.results343,go_sem]) rfl ⟨rfl,wM _ _ _ _ _⟩
 ·rw[show nL op a b=(0,max (-a) b) by simp[nL,h0,h1,h2]]
  clear h0
  go_enter Tryz.func343,Tryz.ntmps343
  go_wp2
  all_goals exact bPr (v:=.agg #[.i 0,.i (max (-a) b)]) (by simp[results,Tryz.results343,go_sem];omega) rfl ⟨rfl,wM _ _ _ _ _⟩
def fJ (a b c d:Int):Int × Int:=if 0<=a/\0<=c then(0,min b d) else if 0<=a then(0,b) else if 0<=c then(0,d) else(-pM a b c d,pM a b c d-1)
theorem aEj (a b c d:Int)(w:World)(ha:fI a)(hb:fI b)(hc:fI c)(hd:fI d) :
  Calls Tryz.prog 313 #[.agg #[.i a,.i b],.agg #[.i c,.i d]] w fun e w'=>e=.returned (.agg #[.i (fJ a b c d).1,.i (fJ a b c d).2])/\Below w.heap.size w w':=by
 by_cases h1:0<=a
 ·have e1:decide (0<=a)=true:=by simp[h1]
  by_cases h2:0<=c
  ·rw[show fJ a b c d=(0,min b d) by simp[fJ,h1,h2]]
   go_enter Tryz.func313,Tryz.ntmps313
   go_wp2
   all_goals exact bPr (v:=.agg #[.i 0,.i (min b d)]) (by simp[results,Tryz.results313,go_sem];omega) rfl ⟨rfl,wM _ _ _ _ _⟩
  ·rw[show fJ a b c d=(0,b) by simp[fJ,h1,h2]]
   go_enter Tryz.func313,Tryz.ntmps313
   go_wp2
   exact bPr (v:=.agg #[.i 0,.i b]) (by simp[results,Tryz.results313,go_sem]) rfl ⟨rfl,wM _ _ _ _ _⟩
 ·have e1:decide (0<=a)=false:=by simp;omega
  by_cases h2:0<=c
  ·rw[show fJ a b c d=(0,d) by simp[fJ,h1,h2]]
   go_enter Tryz.func313,Tryz.ntmps313
   go_wp2
   exact bPr (v:=.agg #[.i 0,.i d]) (by simp[results,Tryz.results313,go_sem]) rfl ⟨rfl,wM _ _ _ _ _⟩
  ·rw[show fJ a b c d=(-pM a b c d,pM a b c d-1) by simp[fJ,h1,h2]]
   have HA:=fun w=>aA (xU a b c d w ha hb hc hd)
   generalize pM a b c d=p at *
   go_enter Tryz.func313,Tryz.ntmps313
   go_wp2_with fail
   refine(HA _).o.mono ?_
   rintro e w2 ⟨rfl,hb2⟩
   obtain⟨-,-,h3,hB⟩:=uW hb2
   obtain⟨s1,s2,s3,s4⟩:=aL h3
   go_wp2_with fail
   obtain⟨c0,c1,hB2⟩:=aS h3 hB (by omega) (-p) (p-1)
   exact bPr (v:=.agg #[.i (-p),.i (p-1)]) (by simp[results,Tryz.results313,go_sem,c0,c1]) rfl ⟨rfl,hB2⟩
end
section
open Go.RowKit Go.IntWalk Go.Sort
def oM (op a b c d:Int):Int × Int:=if a < 0\/c < 0 then(-pM a b c d,pM a b c d-1) else if op=16 then(max a c,pM a b c d-1) else(0,pM a b c d-1)
theorem aGv {w w2:World}{t:TypeId}{x y:Value}{x' y':Int}{b:Nat}(h:aB w2 b t #[x,y])(hB:Below w.heap.size w w2) :
  aB (w2.alloc (.cells #[.i x',.i y'] 165)) b t #[x,y]/\aB (w2.alloc (.cells #[.i x',.i y'] 165)) w2.heap.size 165 #[.i x',.i y']/\Below w.heap.size w (w2.alloc (.cells #[.i x',.i y'] 165)) :=
 ⟨h.alloc _,aB.new _ _ _,hB.alloc hB.size _⟩
theorem yI (op a b c d:Int)(w:World)(ha:fI a)(hb:fI b)(hc:fI c)(hd:fI d) :
  Calls Tryz.prog 366 #[.i op,.agg #[.i a,.i b],.agg #[.i c,.i d]] w fun e w'=>e=.returned (.agg #[.i (oM op a b c d).1,.i (oM op a b c d).2])/\Below w.heap.size w w':=by
 have HA:=fun w=>aA (xU a b c d w ha hb hc hd)
 have HZ:Hid (oM op a b c d=if a < 0\/c < 0 then(-pM a b c d,pM a b c d-1) else if op=16 then(max a c,pM a b c d-1) else(0,pM a b c d-1)):=aA rfl
 have hP:=(aGr ha hb hc hd).2
 generalize pM a b c d=p at *
 go_enter Tryz.func366,Tryz.ntmps366
 go_wp2_with fail
 refine(HA _).o.mono ?_
 rintro e w2 ⟨rfl,hb2⟩
 obtain⟨k1,k2,h3,hB⟩:=uW hb2
 clear hb2
 have f1:=fun x' y':Int=>aL (aGv (x':=x') (y':=y') k1 hB).1
 have f2:=fun x' y':Int=>aL (aGv (x':=x') (y':=y') k2 hB).1
 have f3:=fun x' y':Int=>aL (aGv (x':=x') (y':=y') h3 hB).1
 have q1:=fun x' y'=>(f1 x' y').1
 have q2:=fun x' y'=>(f1 x' y').2.1
 have r1:=fun x' y'=>(f2 x' y').1
 have r2:=fun x' y'=>(f2 x' y').2.1
 have s1:=fun x' y'=>(f3 x' y').1
 have s2:=fun x' y'=>(f3 x' y').2.1
 have s3:=fun x' y'=>(f3 x' y').2.2.1
 have s4:=fun x' y'=>(f3 x' y').2.2.2
 have HB:=aA fun x' y':Int=>(aGv (x':=x') (y':=y') k1 hB).2.2
 have H3:=aA fun x' y':Int=>(aGv (x':=x') (y':=y') h3 hB).1
 clear f1 f2 f3 k1 k2 h3 hB
 by_cases h1:a < 0
 ·have e1:decide (a < 0)=true:=by simp[h1]
  have hz:=HZ.o
  rw[if_pos (.inl h1)] at hz
  have HZ2:=aA hz
  clear hz HZ
  go_wp2_with fail
  obtain⟨c0,c1,hB2⟩:=aS (H3.o _ _) (HB.o _ _) (by omega) (-p) (p-1)
  exact bPr (v:=.agg #[.i (-p),.i (p-1)]) (by simp[results,Tryz.results366,go_sem,c0,c1]) rfl ⟨by rw[HZ2.o],hB2⟩
 have e1:decide (a < 0)=false:=by simp;omega
 by_cases h2:c < 0
 ·have hz:=HZ.o
  rw[if_pos (.inr h2)] at hz
  have HZ2:=aA hz
  clear hz HZ
  go_wp2_with fail
  obtain⟨c0,c1,hB2⟩:=aS (H3.o _ _) (HB.o _ _) (by omega) (-p) (p-1)
  exact bPr (v:=.agg #[.i (-p),.i (p-1)]) (by simp[results,Tryz.results366,go_sem,c0,c1]) rfl ⟨by rw[HZ2.o],hB2⟩
 have h12:¬(a < 0\/c < 0):=by omega
 by_cases h0:op=16
 ·subst h0
  have hz:=HZ.o
  rw[if_neg h12,if_pos rfl] at hz
  have HZ2:=aA hz
  clear hz HZ
  go_wp2_with fail
  ·obtain⟨c0,c1,hB2⟩:=aS (H3.o _ _) (HB.o _ _) (by omega) c (p-1)
   exact bPr (v:=.agg #[.i c,.i (p-1)]) (by simp[results,Tryz.results366,go_sem,c0,c1]) rfl ⟨by rw[HZ2.o];exact aF0 (by omega) rfl,hB2⟩
  ·obtain⟨c0,c1,hB2⟩:=aS (H3.o _ _) (HB.o _ _) (by omega) a (p-1)
   exact bPr (v:=.agg #[.i a,.i (p-1)]) (by simp[results,Tryz.results366,go_sem,c0,c1]) rfl ⟨by rw[HZ2.o];exact aF0 (by omega) rfl,hB2⟩
 ·have e0:(op==16)=false:=by simp[h0]
  have hz:=HZ.o
  rw[if_neg h12,if_neg h0] at hz
  have HZ2:=aA hz
  clear hz HZ
  go_wp2_with fail
  obtain⟨c0,c1,hB2⟩:=aS (H3.o _ _) (HB.o _ _) (by omega) 0 (p-1)
  exact bPr (v:=.agg #[.i 0,.i (p-1)]) (by simp[results,Tryz.results366,go_sem,c0,c1]) rfl ⟨by rw[HZ2.o],hB2⟩
def rZ (a b c d:Int):Int × Int:=if b < c\/d < a then(0,0) else if a=c/\b=d/\a=b then(1,1) else(0,1)
theorem sJ {w W:World}{b1 b2 b3:Nat}{a b c d x y:Int}(k1:aB W b1 165 #[.i a,.i b])(k2:aB W b2 165 #[.i c,.i d])(k3:aB W b3 165 #[.i x,.i y])(hB:Below w.heap.size w W)(dq:Nat)(os:Array Obj) :
  aB (grow (redrawn W dq) os) b1 165 #[.i a,.i b]/\aB (grow (redrawn W dq) os) b2 165 #[.i c,.i d]/\aB (grow (redrawn W dq) os) b3 165 #[.i x,.i y]/\Below w.heap.size w (grow (redrawn W dq) os) :=
 ⟨k1.below (below_regrown _ _ _),k2.below (below_regrown _ _ _),k3.below (below_regrown _ _ _),bel hB (below_regrown _ _ _)⟩
theorem aA6 (a b c d:Int)(w:World) :
  Calls Tryz.prog 367 #[.agg #[.i a,.i b],.agg #[.i c,.i d]] w fun e w'=>e=.returned (.agg #[.i (rZ a b c d).1,.i (rZ a b c d).2])/\Below w.heap.size w w':=by
 by_cases h1:b < c
 ·have e1:decide (b < c)=true:=by simp[h1]
  rw[show rZ a b c d=(0,0) by simp[rZ,h1]]
  go_enter Tryz.func367,Tryz.ntmps367
  go_wp2_with fail
  refine(dS _ _).mono ?_
  rintro e w2 ⟨rfl,hb2⟩
  obtain⟨-,-,h3,hB⟩:=uW hb2
  obtain⟨s1,s2,s3,s4⟩:=aL h3
  go_wp2_with fail
  obtain⟨c0,c1,hB2⟩:=aS h3 hB (by omega) 0 0
  exact bPr (v:=.agg #[.i 0,.i 0]) (by simp[results,Tryz.results367,go_sem,c0,c1]) rfl ⟨rfl,hB2⟩
 have e1:decide (b < c)=false:=by simp;omega
 by_cases h2:d < a
 ·rw[show rZ a b c d=(0,0) by simp[rZ,h2]]
  go_enter Tryz.func367,Tryz.ntmps367
  go_wp2_with fail
  refine(dS _ _).mono ?_
  rintro e w2 ⟨rfl,hb2⟩
  obtain⟨-,-,h3,hB⟩:=uW hb2
  obtain⟨s1,s2,s3,s4⟩:=aL h3
  go_wp2_with fail
  obtain⟨c0,c1,hB2⟩:=aS h3 hB (by omega) 0 0
  exact bPr (v:=.agg #[.i 0,.i 0]) (by simp[results,Tryz.results367,go_sem,c0,c1]) rfl ⟨rfl,hB2⟩
 have hap:¬(b < c\/d < a):=by omega
 by_cases h3:a=c
 ·subst h3
  by_cases h5:b=d
  ·subst h5
   by_cases h4:a=b
   ·subst h4
    rw[show rZ a a a a=(1,1) by simp[rZ]]
    go_enter Tryz.func367,Tryz.ntmps367
    go_wp2_with fail
    obtain⟨k1,k2,k3,hB⟩:=uW (w:=w) (a:=a) (b:=a) (c:=a) (d:=a) (x:=0) (y:=0) (Below.refl _ _)
    obtain⟨W,hW⟩:∃ W,((w.alloc (.cells #[.i a,.i a] 165)).alloc (.cells #[.i a,.i a] 165)).alloc (.cells #[.i 0,.i 0] 165)=W:=⟨_,rfl⟩
    rw[hW] at k1 k2 k3 hB ⊢
    clear hW
    obtain⟨q1,q2,-,-⟩:=aL k1
    obtain⟨r1,r2,-,-⟩:=aL k2
    have m1:=cell_regrown q1
    have m2:=cell_regrown q2
    have m3:=cell_regrown r1
    have m4:=cell_regrown r2
    refine wp_region_quiet_below mixed (by kernel_rfl) ?_
    repeat (go_big_quiet_step ((go_at_call 312;exact Calls.regrown_of (dS _ _))))
    refine wpQuiet_nil ?_
    intro _ hw'
    obtain⟨⟨dq,osq⟩,hw''⟩:=hw'
    subst hw''
    obtain⟨-,-,k4,hB4⟩:=sJ k1 k2 k3 hB dq osq
    clear k1 k2 k3 hB q1 q2 r1 r2 m1 m2 m3 m4
    simp only
    generalize grow (redrawn W dq) osq=G at *
    go_wp2_with fail
    refine(dS _ _).mono ?_
    rintro e w2 ⟨rfl,hb2⟩
    have h3:=k4.below hb2
    have hB:=bel hB4 hb2
    obtain⟨s1,s2,s3,s4⟩:=aL h3
    clear hb2 k4 hB4
    go_wp2_with fail
    obtain⟨c0,c1,hB2⟩:=aS h3 hB (by omega) 1 1
    exact bPr (v:=.agg #[.i 1,.i 1]) (by simp[results,Tryz.results367,go_sem,c0,c1]) rfl ⟨rfl,hB2⟩
   ·rw[show rZ a b a b=(0,1) by simp[rZ,h4];omega]
    have e4:(b==a)=false:=by simp;omega
    have e5:(a==b)=false:=by simp;omega
    clear h4
    go_enter Tryz.func367,Tryz.ntmps367
    go_wp2_with fail
    obtain⟨k1,k2,k3,hB⟩:=uW (w:=w) (a:=a) (b:=b) (c:=a) (d:=b) (x:=0) (y:=0) (Below.refl _ _)
    obtain⟨W,hW⟩:∃ W,((w.alloc (.cells #[.i a,.i b] 165)).alloc (.cells #[.i a,.i b] 165)).alloc (.cells #[.i 0,.i 0] 165)=W:=⟨_,rfl⟩
    rw[hW] at k1 k2 k3 hB ⊢
    clear hW
    obtain⟨q1,q2,-,-⟩:=aL k1
    obtain⟨r1,r2,-,-⟩:=aL k2
    have m1:=cell_regrown q1
    have m2:=cell_regrown q2
    have m3:=cell_regrown r1
    have m4:=cell_regrown r2
    refine wp_region_quiet_below mixed (by kernel_rfl) ?_
    repeat (go_big_quiet_step ((go_at_call 312;exact Calls.regrown_of (dS _ _))))
    refine wpQuiet_nil ?_
    intro _ hw'
    obtain⟨⟨dq,osq⟩,hw''⟩:=hw'
    subst hw''
    obtain⟨-,-,k4,hB4⟩:=sJ k1 k2 k3 hB dq osq
    clear k1 k2 k3 hB q1 q2 r1 r2 m1 m2 m3 m4
    simp only
    generalize grow (redrawn W dq) osq=G at *
    obtain⟨s1,s2,s3,s4⟩:=aL k4
    go_wp2_with fail
    obtain⟨c0,c1,hB2⟩:=aS k4 hB4 (by omega) 0 1
    exact bPr (v:=.agg #[.i 0,.i 1]) (by simp[results,Tryz.results367,go_sem,c0,c1]) rfl ⟨rfl,hB2⟩
  ·rw[show rZ a b a d=(0,1) by simp[rZ,h5];omega]
   have e4:(b==d)=false:=by simp;omega
   clear h5
   go_enter Tryz.func367,Tryz.ntmps367
   go_wp2_with fail
   obtain⟨k1,k2,k3,hB⟩:=uW (w:=w) (a:=a) (b:=b) (c:=a) (d:=d) (x:=0) (y:=0) (Below.refl _ _)
   obtain⟨W,hW⟩:∃ W,((w.alloc (.cells #[.i a,.i b] 165)).alloc (.cells #[.i a,.i d] 165)).alloc (.cells #[.i 0,.i 0] 165)=W:=⟨_,rfl⟩
   rw[hW] at k1 k2 k3 hB ⊢
   clear hW
   obtain⟨q1,q2,-,-⟩:=aL k1
   obtain⟨r1,r2,-,-⟩:=aL k2
   have m1:=cell_regrown q1
   have m2:=cell_regrown q2
   have m3:=cell_regrown r1
   have m4:=cell_regrown r2
   refine wp_region_quiet_below mixed (by kernel_rfl) ?_
   repeat (go_big_quiet_step ((go_at_call 312;exact Calls.regrown_of (dS _ _))))
   refine wpQuiet_nil ?_
   intro _ hw'
   obtain⟨⟨dq,osq⟩,hw''⟩:=hw'
   subst hw''
   obtain⟨-,-,k4,hB4⟩:=sJ k1 k2 k3 hB dq osq
   clear k1 k2 k3 hB q1 q2 r1 r2 m1 m2 m3 m4
   simp only
   generalize grow (redrawn W dq) osq=G at *
   obtain⟨s1,s2,s3,s4⟩:=aL k4
   go_wp2_with fail
   obtain⟨c0,c1,hB2⟩:=aS k4 hB4 (by omega) 0 1
   exact bPr (v:=.agg #[.i 0,.i 1]) (by simp[results,Tryz.results367,go_sem,c0,c1]) rfl ⟨rfl,hB2⟩
 ·rw[show rZ a b c d=(0,1) by simp[rZ,h3];omega]
  have e4:(a==c)=false:=by simp;omega
  clear h3
  go_enter Tryz.func367,Tryz.ntmps367
  go_wp2_with fail
  obtain⟨k1,k2,k3,hB⟩:=uW (w:=w) (a:=a) (b:=b) (c:=c) (d:=d) (x:=0) (y:=0) (Below.refl _ _)
  obtain⟨W,hW⟩:∃ W,((w.alloc (.cells #[.i a,.i b] 165)).alloc (.cells #[.i c,.i d] 165)).alloc (.cells #[.i 0,.i 0] 165)=W:=⟨_,rfl⟩
  rw[hW] at k1 k2 k3 hB ⊢
  clear hW
  obtain⟨q1,q2,-,-⟩:=aL k1
  obtain⟨r1,r2,-,-⟩:=aL k2
  have m1:=cell_regrown q1
  have m2:=cell_regrown q2
  have m3:=cell_regrown r1
  have m4:=cell_regrown r2
  refine wp_region_quiet_below mixed (by kernel_rfl) ?_
  repeat (go_big_quiet_step ((go_at_call 312;exact Calls.regrown_of (dS _ _))))
  refine wpQuiet_nil ?_
  intro _ hw'
  obtain⟨⟨dq,osq⟩,hw''⟩:=hw'
  subst hw''
  obtain⟨-,-,k4,hB4⟩:=sJ k1 k2 k3 hB dq osq
  clear k1 k2 k3 hB q1 q2 r1 r2 m1 m2 m3 m4
  simp only
  generalize grow (redrawn W dq) osq=G at *
  obtain⟨s1,s2,s3,s4⟩:=aL k4
  go_wp2_with fail
  obtain⟨c0,c1,hB2⟩:=aS k4 hB4 (by omega) 0 1
  exact bPr (v:=.agg #[.i 0,.i 1]) (by simp[results,Tryz.results367,go_sem,c0,c1]) rfl ⟨rfl,hB2⟩
def rV (op a b c d:Int):Int × Int :=
 if op=8 then(a+c,b+d) else if op=9 then(a-d,b-c) else if op=15 then fJ a b c d else if op=16\/op=17 then oM op a b c d else if op=22 then rZ a b c d else(1-(rZ a b c d).2,1-(rZ a b c d).1)
theorem aW1 (a b c d:Int):0<=(rZ a b c d).1/\(rZ a b c d).1<=1/\0<=(rZ a b c d).2/\(rZ a b c d).2<=1:=by
 unfold rZ
 split
 ·simp
 ·split <;> simp
theorem aH1 (op a b c d:Int)(w:World)(ha:fI a)(hb:fI b)(hc:fI c)(hd:fI d)(ho:op=8\/op=9\/op=15\/op=16\/op=17\/op=22\/op=23) :
  Calls Tryz.prog 344 #[.i op,.agg #[.i a,.i b],.agg #[.i c,.i d]] w fun e w'=>e=.returned (.agg #[.i (rV op a b c d).1,.i (rV op a b c d).2])/\Below w.heap.size w w':=by
 rcases ho with rfl|rfl|rfl|rfl|rfl|rfl|rfl
 ·rw[show rV 8 a b c d=(a+c,b+d) from rfl]
  go_enter Tryz.func344,Tryz.ntmps344
  go_wp2
  exact bPr (v:=.agg #[.i (a+c),.i (b+d)]) (by simp[results,Tryz.results344,go_sem]) rfl ⟨rfl,wM _ _ _ _ _⟩
 ·rw[show rV 9 a b c d=(a-d,b-c) from rfl]
  go_enter Tryz.func344,Tryz.ntmps344
  go_wp2
  exact bPr (v:=.agg #[.i (a-d),.i (b-c)]) (by simp[results,Tryz.results344,go_sem]) rfl ⟨rfl,wM _ _ _ _ _⟩
 rw[show rV 15 a b c d=fJ a b c d from rfl]
 have HA:=fun w=>aA (aEj a b c d w ha hb hc hd)
 generalize fJ a b c d=Z at *
 rotate_left
 rw[show rV 16 a b c d=oM 16 a b c d from rfl]
 have HA:=fun w=>aA (yI 16 a b c d w ha hb hc hd)
 generalize oM 16 a b c d=Z at *
 rotate_left
 rw[show rV 17 a b c d=oM 17 a b c d from rfl]
 have HA:=fun w=>aA (yI 17 a b c d w ha hb hc hd)
 generalize oM 17 a b c d=Z at *
 rotate_left
 rw[show rV 22 a b c d=rZ a b c d from rfl]
 have HA:=fun w=>aA (aA6 a b c d w)
 generalize rZ a b c d=Z at *
 rotate_left
 ·rw[show rV 23 a b c d=(1-(rZ a b c d).2,1-(rZ a b c d).1) from rfl]
  have HA:=fun w=>aA (aA6 a b c d w)
  have h01:=aW1 a b c d
  generalize rZ a b c d=Z at *
  obtain⟨x,y⟩:=Z
  simp only at h01
  go_enter Tryz.func344,Tryz.ntmps344
  go_wp2_with fail
  refine(HA _).o.mono ?_
  rintro e w2 ⟨rfl,hb2⟩
  obtain⟨-,-,h3,hB⟩:=uW hb2
  have f3:=fun x' y':Int=>aL (aGv (x':=x') (y':=y') h3 hB).1
  have s1:=fun x' y'=>(f3 x' y').1
  have s2:=fun x' y'=>(f3 x' y').2.1
  have s3:=fun x' y'=>(f3 x' y').2.2.1
  have s4:=fun x' y'=>(f3 x' y').2.2.2
  have H3:=aA fun x' y':Int=>(aGv (x':=x') (y':=y') h3 hB)
  clear f3 h3 hB hb2
  go_wp2_with fail
  obtain⟨c0,c1,hB2⟩:=aS (H3.o _ _).1 (H3.o _ _).2.2 (by omega) (1-y) (1-x)
  exact bPr (v:=.agg #[.i (1-y),.i (1-x)]) (by simp[results,Tryz.results344,go_sem,c0,c1]) rfl ⟨rfl,hB2⟩
 all_goals
  obtain⟨x,y⟩:=Z
  go_enter Tryz.func344,Tryz.ntmps344
  go_wp2_with fail
  refine(HA _).o.mono ?_
  rintro e w2 ⟨rfl,hb2⟩
  obtain⟨-,-,h3,hB⟩:=uW hb2
  obtain⟨s1,s2,s3,s4⟩:=aL h3
  clear hb2
  go_wp2_with fail
  obtain⟨c0,c1,hB2⟩:=aS h3 hB (by omega) x y
  exact bPr (v:=.agg #[.i x,.i y]) (by simp[results,Tryz.results344,go_sem,c0,c1]) rfl ⟨rfl,hB2⟩
def sU (a b c d e f:Int):Int × Int:=if hasB a b 0=true then(if a=0/\b=0 then(e,f) else(min c e,max d f)) else(c,d)
abbrev cs (x y:Int):Obj:=.cells #[.i x,.i y] 165
theorem bAe (w:World)(a b c d e f x y:Int):Below w.heap.size w ((((w.alloc (cs a b)).alloc (cs c d)).alloc (cs e f)).alloc (cs x y)) :=
 ((((Below.refl _ _).alloc (nLr _) _).alloc (by simp) _).alloc (by simp;omega) _).alloc (by simp;omega) _
theorem aM2 {w w2:World}{a b c d e f x y:Int}(h:Below ((((w.alloc (cs a b)).alloc (cs c d)).alloc (cs e f)).alloc (cs x y)).heap.size ((((w.alloc (cs a b)).alloc (cs c d)).alloc (cs e f)).alloc (cs x y)) w2) :
  aB w2 w.heap.size 165 #[.i a,.i b]/\aB w2 (w.heap.size+1) 165 #[.i c,.i d]/\aB w2 (w.heap.size+1+1) 165 #[.i e,.i f]/\aB w2 (w.heap.size+1+1+1) 165 #[.i x,.i y]/\Below w.heap.size w w2:=by
 have h1:=((((aB.new w 165 #[.i a,.i b]).alloc (cs c d)).alloc (cs e f)).alloc (cs x y)).below h
 have h2:=(((aB.new (w.alloc (cs a b)) 165 #[.i c,.i d]).alloc (cs e f)).alloc (cs x y)).below h
 have h3:=((aB.new ((w.alloc (cs a b)).alloc (cs c d)) 165 #[.i e,.i f]).alloc (cs x y)).below h
 have h4:=(aB.new (((w.alloc (cs a b)).alloc (cs c d)).alloc (cs e f)) 165 #[.i x,.i y]).below h
 simp only[wSa] at h2 h3 h4
 exact⟨h1,h2,h3,h4,bel (bAe _ _ _ _ _ _ _ _ _) h⟩
theorem aF3 (a b c d e f:Int)(w:World) :
  Calls Tryz.prog 345 #[.agg #[.i a,.i b],.agg #[.i c,.i d],.agg #[.i e,.i f]] w fun r w'=>r=.returned (.agg #[.i (sU a b c d e f).1,.i (sU a b c d e f).2])/\Below w.heap.size w w':=by
 have HH:=fun w=>aA (aI0 a b 0 w)
 cases h0:hasB a b 0
 ·rw[show sU a b c d e f=(c,d) by simp[sU,h0]]
  rw[h0] at HH
  go_enter Tryz.func345,Tryz.ntmps345
  go_wp2_with fail
  refine(HH _).o.mono ?_
  rintro r w2 ⟨rfl,hb2⟩
  obtain⟨k1,k2,k3,h3,hB⟩:=aM2 hb2
  obtain⟨q1,q2,-,-⟩:=aL k2
  obtain⟨s1,s2,s3,s4⟩:=aL h3
  clear hb2 k1 k3
  go_wp2_with fail
  obtain⟨c0,c1,hB2⟩:=aS h3 hB (by omega) c d
  exact bPr (v:=.agg #[.i c,.i d]) (by simp[results,Tryz.results345,go_sem,c0,c1]) rfl ⟨rfl,hB2⟩
 ·rw[h0] at HH
  have HZ:Hid (sU a b c d e f=if a=0/\b=0 then(e,f) else(min c e,max d f)):=aA (by simp[sU,h0])
  clear h0
  by_cases h1:a=0
  ·subst h1
   by_cases h2:b=0
   ·subst h2
    have hz:=HZ.o
    rw[if_pos ⟨rfl,rfl⟩] at hz
    rw[hz]
    clear hz HZ
    go_enter Tryz.func345,Tryz.ntmps345
    go_wp2_with fail
    refine(HH _).o.mono ?_
    rintro r W ⟨rfl,hb2⟩
    obtain⟨k1,k2,k3,h3,hB⟩:=aM2 hb2
    clear hb2
    obtain⟨q1,q2,-,-⟩:=aL k1
    go_wp2_with fail
    have m1:=cell_regrown q1
    have m2:=cell_regrown q2
    refine wp_region_quiet_below mixed (by kernel_rfl) ?_
    repeat (go_big_quiet_step ((go_at_call 312;exact Calls.regrown_of (dS _ _))))
    refine wpQuiet_nil ?_
    intro _ hw'
    obtain⟨⟨dq,osq⟩,hw''⟩:=hw'
    subst hw''
    obtain⟨K2,K3,K4,hB4⟩:=sJ k2 k3 h3 hB dq osq
    clear k1 k2 k3 h3 hB q1 q2 m1 m2
    simp only
    generalize grow (redrawn W dq) osq=G at *
    obtain⟨p1,p2,-,-⟩:=aL K2
    obtain⟨q1,q2,-,-⟩:=aL K3
    obtain⟨s1,s2,s3,s4⟩:=aL K4
    go_wp2_with fail
    obtain⟨c0,c1,hB2⟩:=aS K4 hB4 (by omega) e f
    exact bPr (v:=.agg #[.i e,.i f]) (by simp[results,Tryz.results345,go_sem,c0,c1]) rfl ⟨rfl,hB2⟩
   ·have e1:(b==0)=false:=by simp[h2]
    have hz:=HZ.o
    rw[if_neg (by omega)] at hz
    rw[hz]
    clear hz HZ h2
    go_enter Tryz.func345,Tryz.ntmps345
    go_wp2_with fail
    refine(HH _).o.mono ?_
    rintro r W ⟨rfl,hb2⟩
    obtain⟨k1,k2,k3,h3,hB⟩:=aM2 hb2
    clear hb2
    obtain⟨q1,q2,-,-⟩:=aL k1
    go_wp2_with fail
    have m1:=cell_regrown q1
    have m2:=cell_regrown q2
    refine wp_region_quiet_below mixed (by kernel_rfl) ?_
    repeat (go_big_quiet_step ((go_at_call 312;exact Calls.regrown_of (dS _ _))))
    refine wpQuiet_nil ?_
    intro _ hw'
    obtain⟨⟨dq,osq⟩,hw''⟩:=hw'
    subst hw''
    obtain⟨K2,K3,K4,hB4⟩:=sJ k2 k3 h3 hB dq osq
    clear k1 k2 k3 h3 hB q1 q2 m1 m2
    simp only
    generalize grow (redrawn W dq) osq=G at *
    obtain⟨p1,p2,-,-⟩:=aL K2
    obtain⟨q1,q2,-,-⟩:=aL K3
    obtain⟨s1,s2,s3,s4⟩:=aL K4
    go_wp2_with fail
    refine(zF _ _ _ _ _).mono ?_
    rintro r w2 ⟨rfl,hb2⟩
    have h3:=K4.below hb2
    have hB:=bel hB4 hb2
    clear s1 s2 s3 s4
    obtain⟨s1,s2,s3,s4⟩:=aL h3
    clear hb2 K4 hB4
    obtain⟨x,hx⟩:∃ x,min c e=x:=⟨_,rfl⟩
    obtain⟨y,hy⟩:∃ y,max d f=y:=⟨_,rfl⟩
    rw[hx,hy]
    have HX:=aA hx
    have HY:=aA hy
    clear hx hy
    go_wp2_with fail
    obtain⟨c0,c1,hB2⟩:=aS h3 hB (by omega) x y
    exact bPr (v:=.agg #[.i x,.i y]) (by simp[results,Tryz.results345,go_sem,c0,c1]) rfl ⟨by rw[HX.o,HY.o],hB2⟩
  ·have e1:(a==0)=false:=by simp[h1]
   have hz:=HZ.o
   rw[if_neg (by omega)] at hz
   rw[hz]
   clear hz HZ h1
   go_enter Tryz.func345,Tryz.ntmps345
   go_wp2_with fail
   refine(HH _).o.mono ?_
   rintro r W ⟨rfl,hb2⟩
   obtain⟨k1,k2,k3,h3,hB⟩:=aM2 hb2
   clear hb2
   obtain⟨q1,q2,-,-⟩:=aL k1
   go_wp2_with fail
   have m1:=cell_regrown q1
   have m2:=cell_regrown q2
   refine wp_region_quiet_below mixed (by kernel_rfl) ?_
   repeat (go_big_quiet_step ((go_at_call 312;exact Calls.regrown_of (dS _ _))))
   refine wpQuiet_nil ?_
   intro _ hw'
   obtain⟨⟨dq,osq⟩,hw''⟩:=hw'
   subst hw''
   obtain⟨K2,K3,K4,hB4⟩:=sJ k2 k3 h3 hB dq osq
   clear k1 k2 k3 h3 hB q1 q2 m1 m2
   simp only
   generalize grow (redrawn W dq) osq=G at *
   obtain⟨p1,p2,-,-⟩:=aL K2
   obtain⟨q1,q2,-,-⟩:=aL K3
   obtain⟨s1,s2,s3,s4⟩:=aL K4
   go_wp2_with fail
   refine(zF _ _ _ _ _).mono ?_
   rintro r w2 ⟨rfl,hb2⟩
   have h3:=K4.below hb2
   have hB:=bel hB4 hb2
   clear s1 s2 s3 s4
   obtain⟨s1,s2,s3,s4⟩:=aL h3
   clear hb2 K4 hB4
   obtain⟨x,hx⟩:∃ x,min c e=x:=⟨_,rfl⟩
   obtain⟨y,hy⟩:∃ y,max d f=y:=⟨_,rfl⟩
   rw[hx,hy]
   have HX:=aA hx
   have HY:=aA hy
   clear hx hy
   go_wp2_with fail
   obtain⟨c0,c1,hB2⟩:=aS h3 hB (by omega) x y
   exact bPr (v:=.agg #[.i x,.i y]) (by simp[results,Tryz.results345,go_sem,c0,c1]) rfl ⟨by rw[HX.o,HY.o],hB2⟩
end
section
open Go.RowKit Go.Sort Go
def vX (ops:Array Oper):Bool:=(List.range ops.size).all fun j=>((ops[j]?).map fun o=>o.after.all fun e=>decide (e.on < j)).getD true
theorem aGt {ops:Array Oper}(h:vX ops=true){j:Nat}{o:Oper}(ho:ops[j]?=some o):∀ e ∈ o.after,e.on < j:=by
 intro e he
 have hj:j < ops.size:=(aGs.1 ho).1
 have h1:=lAe.1 h j (List.mem_range.2 hj)
 rw[ho] at h1
 simp only[Option.map_some,oGs] at h1
 simpa using Array.all_eq_true'.1 h1 e he
def yT (l:List Oper):Bool:=l.all fun o=>match o.guard with|none=>true|some (j,_)=>decide (j < l.length)
theorem aN2 {listed:Array Bool}{i:Nat}(hi:i < listed.size)(h:listed.getD i false≠true):listed.getD i true=false:=by
 simp[hi] at h ⊢;exact h
theorem aFz {ops:Array Oper}{listed:Array Bool}(hb:vX ops=true)(hsz:listed.size=ops.size):∀ j,j < ops.size->listed.getD j true=false->Region.ready .any ops listed≠[]:=by
 intro j
 induction j using Nat.strongRecOn with
 | _ j ih =>
  intro hj hun h0
  obtain⟨o,ho⟩:∃ o,ops[j]?=some o:=⟨ops[j],by simp[hj]⟩
  by_cases hall:∀ e ∈ o.after,Region.binds .any e=true->listed.getD e.on false=true
  ·have:j ∈ Region.ready .any ops listed:=mem_ready.2 ⟨hun,o,ho,hall⟩
   rw[h0] at this;cases this
  ·simp only[Classical.not_forall] at hall
   obtain⟨e,he,hbi,hne⟩:=hall
   have hlt:=aGt hb ho e he
   exact ih e.on hlt (by omega) (aN2 (by omega) hne) h0
theorem aKv {listed:Array Bool}(k:Nat):(listed.push false).getD k false=listed.getD k false:=by
 rcases Nat.lt_trichotomy k listed.size with h|h|h
 ·simp[Array.getElem?_push,Nat.ne_of_lt h]
 ·subst h;simp
 ·simp[Array.getElem?_push,Nat.ne_of_gt h]
theorem oD {listed:Array Bool}{k:Nat}(b:Bool)(h:k < listed.size):(listed.push false).getD k b=listed.getD k b:=by
 simp[Array.getElem?_push,Nat.ne_of_lt h]
theorem aQl {x:Array Bool}{i:Nat}(hi:i < x.size):(x.push false).setIfInBounds i true=(x.setIfInBounds i true).push false:=by
 apply Array.ext_getElem?
 intro j
 rw[Array.getElem?_setIfInBounds,Array.getElem?_push,Array.getElem?_push,Array.getElem?_setIfInBounds,Array.size_push,Array.size_setIfInBounds]
 by_cases hij:i=j
 ·subst hij
  rw[if_pos rfl,if_pos (by omega),if_neg (by omega),if_pos rfl,if_pos hi]
 ·rw[if_neg hij,if_neg hij]
section
variable {l : List Oper} {o : Oper}
theorem aHp {i:Nat}(h:i < l.length):(l++[o]).toArray[i]?=l.toArray[i]?:=by simp[List.getElem?_append_left h]
theorem aPm:(l++[o]).toArray[l.length]?=some o:=by simp
theorem aFy {listed:Array Bool}(hsz:listed.size=l.length){i:Nat}(hi:i < l.length):i ∈ Region.ready .any (l++[o]).toArray (listed.push false)↔i ∈ Region.ready .any l.toArray listed:=by
 rw[mem_ready,mem_ready,aHp hi,oD true (by omega)]
 simp only[aKv]
theorem aGm (hg:yT l=true){x:Oper}(hx:x ∈ l)(t:Array Value):Region.wanted x (yielded (l++[o]).toArray t)=Region.wanted x (yielded l.toArray t):=by
 have h1:=lAe.1 hg x hx
 unfold Region.wanted
 split
 ·rfl
 ·rename_i j want hj
  rw[hj] at h1
  simp only[dEt] at h1
  unfold yielded
  rw[aHp h1]
theorem aP2 {P:Program}{C:World->Prop}(hg:yT l=true){i:Nat}(hi:i < l.length){K:Act->Prop}{a:Act}(h:qOp P l.toArray C i K a):qOp P (l++[o]).toArray C i K a:=by
 unfold qOp at *
 rw[aHp hi]
 have hx:l.toArray[i]?=some l[i]:=by simp[hi]
 rw[hx] at h ⊢
 simp only at h ⊢
 rw[aGm hg (List.getElem_mem hi)]
 exact h
theorem xQ {listed:Array Bool}(h:∀ j,j < listed.size->listed.getD j true=true)(ops:Array Oper):Region.ready .any ops listed=[]:=by
 apply List.eq_nil_iff_forall_not_mem.2
 intro j hj
 obtain⟨h1,-⟩:=mem_ready.1 hj
 rcases Nat.lt_or_ge j listed.size with h'|h'
 ·rw[h j h'] at h1;cases h1
 ·simp[Array.getElem?_eq_none h'] at h1
theorem aIe {P:Program}{C:World->Prop}{Q:Exit->Act->World->Prop}(hog:o.guard=none)(hb0:vX l.toArray=true)(hb:vX (l++[o]).toArray=true)(hg:yT l=true)
  (hs:Region.sinkB .any (l++[o]).toArray l.length=true) (hc:Region.chainB .any (l++[o]).toArray l.length=true) :
  ∀(fuel:Nat) (listed:Array Bool) (a:Act) (w:World),C w->listed.size=l.length->HeadInv .any (l++[o]).toArray l.length (listed.push false) ->
   wpAnyQ P .any l.toArray C (fun a'=>∀ w',C w'->wpList P (l++[o]).toArray Q [o] a' w') fuel listed a ->
   wpAny P .any (l++[o]).toArray Q (fuel+1) (listed.push false) a w:=by
 have hne:∀ listed:Array Bool,listed.size=l.length->Region.ready .any (l++[o]).toArray (listed.push false)≠[]:=fun listed hsz =>
  aFz hb (by simp[hsz]) l.length (by simp) (by simp[<-hsz])
 have hend:∀(fuel:Nat) (listed:Array Bool) (a:Act) (w:World),listed.size=l.length->(∀ j,j < l.length->listed.getD j true=true)->Q .normal a w->wpAny P .any (l++[o]).toArray Q fuel ((listed.push false).setIfInBounds l.length true) a w:=by
  intro fuel listed a w hsz hall hq
  have h0:Region.ready .any (l++[o]).toArray ((listed.push false).setIfInBounds l.length true)=[]:=by
   refine xQ (fun j hj=>?_) _
   simp at hj
   by_cases hjl:j=l.length
   ·subst hjl;simp[hsz]
   ·rw[getD_set_ne true (Ne.symm hjl),oD true (by omega)]
    exact hall j (by omega)
  cases fuel with
  | zero=>exact⟨h0,hq⟩
  | succ fuel=>exact⟨fun _=>hq,fun i hi=>by rw[h0] at hi;cases hi⟩
 have hlast:∀(fuel:Nat) (listed:Array Bool) (a:Act) (w:World),listed.size=l.length->(∀ j,j < l.length->listed.getD j true=true)->wpList P (l++[o]).toArray Q [o] a w ->
   wpOp P (l++[o]).toArray Q l.length (wpAny P .any (l++[o]).toArray Q fuel ((listed.push false).setIfInBounds l.length true)) a w:=by
  intro fuel listed a w hsz hall hq
  unfold wpOp
  rw[aPm]
  simp only[wpList,Region.wanted,hog,if_true] at hq ⊢
  exact hq.imp (Oper.wp_mono (fun a' w' h'=>hend fuel listed a' w' hsz hall h')) id
 have hlist:∀ listed:Array Bool,listed.size=l.length->Region.ready .any l.toArray listed=[]->∀ j,j < l.length->listed.getD j true=true:=fun listed hsz h0 j hj=>by
  cases hv:listed.getD j true with
  | true=>rfl
  | false=>exact absurd h0 (aFz hb0 (by simpa using hsz) j (by simpa using hj) hv)
 have hle:∀(listed:Array Bool) (i:Nat),i ∈ Region.ready .any (l++[o]).toArray (listed.push false)->i < l.length\/i=l.length:=fun listed i hi=>by
  obtain⟨-,oi,hoi,-⟩:=mem_ready.1 hi
  have:=(aGs.1 hoi).1
  simp at this
  omega
 intro fuel
 induction fuel with
 | zero =>
  intro listed a w hw hsz inv h
  refine⟨fun h0=>absurd h0 (hne listed hsz),fun i hi=>?_⟩
  have hall:=hlist listed hsz h.1
  rcases hle listed i hi with hil|rfl
  ·rw[aFy hsz hil,h.1] at hi;cases hi
  ·exact hlast 0 listed a w hsz hall (h.2 w hw)
 | succ fuel ih =>
  intro listed a w hw hsz inv h
  refine⟨fun h0=>absurd h0 (hne listed hsz),fun i hi=>?_⟩
  rcases hle listed i hi with hil|rfl
  ·have hi0:=(aFy hsz hil).1 hi
   refine wpOp_of_qOp hw (fun a' w' hw' hk=>?_) (aP2 hg hil (h.2 i hi0))
   have e:=aQl (x:=listed) (i:=i) (by omega)
   have inv':=inv.set hi hil
   rw[e] at inv' ⊢
   exact ih (listed.setIfInBounds i true) a' w' hw' (by simpa using hsz) inv' hk
  ·have hall:∀ j,j < l.length->listed.getD j true=true:=fun j hj=>by
    cases hv:listed.getD j true with
    | true=>rfl
    | false=>exact absurd hi (tail_waits hs hc (by simp) inv (l.length-j) j rfl hj (by rw[oD true (by omega)];exact hv) l.length (nLr _))
   exact hlast (fuel+1) listed a w hsz hall (h.1 (xQ (fun j hj=>hall j (by omega)) _) w hw)
theorem qP {P:Program}{C:World->Prop}{id:Nat}{Q:Exit->Act->World->Prop}{a:Act}{w:World}(hm:P.follows .mixedOrders=true)(hB:Region.lexB .any l.toArray=true)
  (hog:o.guard=none) (hb0:vX l.toArray=true) (hb:vX (l++[o]).toArray=true) (hg:yT l=true)
  (hs:Region.sinkB .any (l++[o]).toArray l.length=true) (hc:Region.chainB .any (l++[o]).toArray l.length=true) (hC:C { w with drawn:=w.drawn+1 })
  (h:wpQuiet P l.toArray C (fun a'=>∀ w',C w'->wpList P (l++[o]).toArray Q [o] a' w') l a):(Code.region id (l++[o]).toArray true).wp P Q a w:=by
 simp only[Region.lexB,bAt] at hB
 refine wp_region_any hm ?_
 have e:Array.replicate (l++[o]).toArray.size false=(Array.replicate l.length false).push false:=by
  rw[<-Array.replicate_succ];simp
 rw[e,show (l++[o]).toArray.size=l.length+1 by simp]
 refine aIe hog hb0 hb hg hs hc l.length _ a _ hC (by simp) ?_ ?_
 ·exact⟨by simp,fun j oj _ hl=>(by rw[<-Array.replicate_succ,getD_replicate_false] at hl;cases hl),fun t _ ht=>getD_in (by simpa using ht) (by rw[<-Array.replicate_succ];exact getD_replicate_false _ _)⟩
 ·have:=wpAnyQ_lex (P:=P) (C:=C) (md:=.any) hB.1 l 0 (Array.replicate l.length false) a (by simp) (by simpa using hB.2) h
  simpa using this
theorem aN {P:Program}{id:Nat}{Q:Exit->Act->World->Prop}{a:Act}{w:World}{full:List Oper}(hf:full=l++[o])(hm:P.follows .mixedOrders=true)(hB:Region.lexB .any l.toArray=true)
  (hog:o.guard=none) (hb0:vX l.toArray=true) (hb:vX (l++[o]).toArray=true) (hg:yT l=true)
  (hs:Region.sinkB .any (l++[o]).toArray l.length=true) (hc:Region.chainB .any (l++[o]).toArray l.length=true)
  (h:wpQuiet P l.toArray (fun w'=>∃ p:Regrown,w'=grow (redrawn w p.d) p.os) (fun a'=>∀ w',(∃ p:Regrown,w'=grow (redrawn w p.d) p.os)->wpList P (l++[o]).toArray Q [o] a' w') l a):(Code.region id full.toArray true).wp P Q a w:=by
 subst hf
 exact qP hm hB hog hb0 hb hg hs hc ⟨⟨w.drawn+1,#[]⟩,by rw[grow_empty];rfl⟩ h
end
end
section
open Go.RowKit Go.IntWalk Go.Sort
open Knd (Ints)
variable {w:World} {b1 b2 b3:Nat} {a b c d k op s x y:Int}
abbrev ptr (b:Nat):Value:=.pointer (some ⟨b,0,none⟩)
structure Cap (w:World)(b1 b2 b3:Nat)(op k s:Int):Prop where
 o:aB w b1 3 #[.i op]
 k:aB w b2 3 #[.i k]
 s:aB w b3 3 #[.i s]
theorem Cap.later {w':World}(h:Cap w b1 b2 b3 op k s)(hb:Below w.heap.size w w'):Cap w' b1 b2 b3 op k s:=⟨h.o.below hb,h.k.below hb,h.s.below hb⟩
theorem aB6 (op k s:Int)(b1 b2 b3:Nat)(a:Option Addr)(n cap:Nat)(xs:List Int)(w:World)(h:Ints w a n cap xs)(hc:Cap w b1 b2 b3 op k s) :
  Calls Tryz.prog 311 #[.slice a n cap,ptr b1,ptr b2,ptr b3] w fun e w'=>e=.returned (.tuple #[.i (bK op k s xs).1,.i (bK op k s xs).2])/\Below w.heap.size w w':=by
 have c1:=hc.o.cell 0 rfl
 have c2:=hc.k.cell 0 rfl
 have c3:=hc.s.cell 0 rfl
 have HV:=aA (kU op k s a n cap xs w h)
 obtain⟨⟨x,e⟩,hZ⟩:∃ Z,bK op k s xs=Z:=⟨_,rfl⟩
 rw[hZ] at HV ⊢
 clear hZ h hc
 go_enter Tryz.func311,Tryz.ntmps311
 go_wp2_with fail
 refine HV.o.mono ?_
 rintro e w2 ⟨rfl,hb⟩
 go_wp2_with fail
 go_ret2
 exact⟨rfl,hb⟩
structure Cn (w0 w:World)(a b c d x y:Int)(b1 b2 b3:Nat)(op k s:Int):Prop where
 a:aB w w0.heap.size 165 #[.i a,.i b]
 b:aB w (w0.heap.size+1) 165 #[.i c,.i d]
 r:aB w (w0.heap.size+1+1) 165 #[.i 0,.i 0]
 q:aB w (w0.heap.size+1+1+1) 165 #[.i x,.i y]
 cap:Cap w b1 b2 b3 op k s
 lt:b1 < w0.heap.size/\b2 < w0.heap.size/\b3 < w0.heap.size
 bel:Below w0.heap.size w0 w
theorem Cn.later {w0 w w':World}{a b c d x y:Int}{b1 b2 b3:Nat}{op k s:Int}(h:Cn w0 w a b c d x y b1 b2 b3 op k s)(hb:Below w.heap.size w w'):Cn w0 w' a b c d x y b1 b2 b3 op k s :=
 ⟨h.a.below hb,h.b.below hb,h.r.below hb,h.q.below hb,h.cap.later hb,h.lt,h.bel.trans (hb.mono h.bel.size)⟩
theorem Cn.start (h:Cap w b1 b2 b3 op k s):Cn w ((((w.alloc (cs a b)).alloc (cs c d)).alloc (cs 0 0)).alloc (cs x y)) a b c d x y b1 b2 b3 op k s:=by
 obtain⟨h1,h2,h3,h4,hB⟩:=aM2 (w:=w) (a:=a) (b:=b) (c:=c) (d:=d) (e:=0) (f:=0) (x:=x) (y:=y) (Below.refl _ _)
 exact⟨h1,h2,h3,h4,h.later hB,⟨h.o.lt,h.k.lt,h.s.lt⟩,hB⟩
theorem Cn.put {w0:World}(h:Cn w0 w a b c d x y b1 b2 b3 op k s)(x' y':Int) :
  Cn w0 ((w.setCell ⟨w0.heap.size+1+1+1,0,none⟩ (.i x')).setCell ⟨w0.heap.size+1+1+1,1,none⟩ (.i y')) a b c d x' y' b1 b2 b3 op k s:=by
 obtain⟨l1,l2,l3⟩:=h.lt
 have o:=fun {n:Nat} {t:TypeId} {cs:Array Value} (hn:n≠w0.heap.size+1+1+1) (hh:aB w n t cs)=>(hh.other (p:=⟨w0.heap.size+1+1+1,0,none⟩) hn (.i x')).other (p:=⟨w0.heap.size+1+1+1,1,none⟩) hn (.i y')
 refine⟨o (by omega) h.a,o (by omega) h.b,o (by omega) h.r,?_,⟨o (by omega) h.cap.o,o (by omega) h.cap.k,o (by omega) h.cap.s⟩,h.lt,?_⟩
 ·exact(h.q.set 0 (.i x')).set 1 (.i y')
 ·exact(h.bel.setCell (p:=⟨w0.heap.size+1+1+1,0,none⟩) (by simp;omega) _).setCell (p:=⟨w0.heap.size+1+1+1,1,none⟩) (by simp;omega) _
def pk (i:Nat)(x y:Int):Int:=if i=0 then x else y
theorem aI2 (x y:Int)(i:Nat)(hi:i < 2)(w:World):(Instr.index 367 (.agg #[.i x,.i y]) (.i i)).run Tryz.prog w=.ok (.i (pk i x y)) w:=by
 rcases(show i=0\/i=1 by omega) with rfl|rfl <;> simp[Instr.index,go_sem,pk]
def cv (f:Int->Int->Int × Int)(a b c d:Int)(n:Nat):Int × Int:=f (pk (n / 2) a b) (pk (n % 2) c d)
def cLo (f:Int->Int->Int × Int)(a b c d:Int):Nat->Int
 | 0=>9223372036854775807
 | n+1=>min (cLo f a b c d n) (cv f a b c d n).1
def cHi (f:Int->Int->Int × Int)(a b c d:Int):Nat->Int
 | 0=>-9223372036854775808
 | n+1=>max (cHi f a b c d n) (cv f a b c d n).1
def cOk (f:Int->Int->Int × Int)(a b c d:Int)(n:Nat):Prop:=∀ m,m < n->(cv f a b c d m).2=0
theorem aM8 {f:Int->Int->Int × Int}{n:Nat}(h:cOk f a b c d n)(h1:(cv f a b c d n).2=0):cOk f a b c d (n+1):=by
 intro m hm
 by_cases e:m=n
 ·subst e;exact h1
 ·exact h m (by omega)
def fA (f:Int->Int->Int × Int)(a b c d:Int):(Int × Int) × Int :=
 if (cv f a b c d 0).2≠0 then((0,0),(cv f a b c d 0).2) else if (cv f a b c d 1).2≠0 then((0,0),(cv f a b c d 1).2) else if (cv f a b c d 2).2≠0 then((0,0),(cv f a b c d 2).2) else if (cv f a b c d 3).2≠0 then((0,0),(cv f a b c d 3).2) else
 ((cLo f a b c d 4,cHi f a b c d 4),0)
theorem aKp {f:Int->Int->Int × Int}{n:Nat}(h:cOk f a b c d n)(hn:n < 4)(he:(cv f a b c d n).2≠0):fA f a b c d=((0,0),(cv f a b c d n).2):=by
 unfold fA
 rcases(show n=0\/n=1\/n=2\/n=3 by omega) with rfl|rfl|rfl|rfl
 ·rw[if_pos he]
 ·rw[if_neg (by simpa using h 0 (by omega)),if_pos he]
 ·rw[if_neg (by simpa using h 0 (by omega)),if_neg (by simpa using h 1 (by omega)),if_pos he]
 ·rw[if_neg (by simpa using h 0 (by omega)),if_neg (by simpa using h 1 (by omega)),if_neg (by simpa using h 2 (by omega)),if_pos he]
theorem aNg {f:Int->Int->Int × Int}(h:cOk f a b c d 4):fA f a b c d=((cLo f a b c d 4,cHi f a b c d 4),0):=by
 unfold fA
 rw[if_neg (by simpa using h 0 (by omega)),if_neg (by simpa using h 1 (by omega)),if_neg (by simpa using h 2 (by omega)),if_neg (by simpa using h 3 (by omega))]
def yE (f:Int->Int->Int × Int)(a b c d:Int):Value:=.tuple #[.agg #[.i (fA f a b c d).1.1,.i (fA f a b c d).1.2],.i (fA f a b c d).2]
theorem wB (op k s a b c d:Int)(b1 b2 b3:Nat)(w:World)(hc:Cap w b1 b2 b3 op k s)(f:Int->Int->Int × Int)(hf:∀ u v,bK op k s [u,v]=f u v) :
  Calls Tryz.prog 315 #[.agg #[.i a,.i b],.agg #[.i c,.i d],.func (.func 311) #[] #[ptr b1,ptr b2,ptr b3]] w fun e w' =>
   e=.returned (yE f a b c d)/\Below w.heap.size w w':=by
 have HC0:=aA (Cn.start (a:=a) (b:=b) (c:=c) (d:=d) (x:=9223372036854775807) (y:=-9223372036854775808) hc)
 have HF:=aA hf
 clear hc hf
 go_enter Tryz.func315,Tryz.ntmps315
 go_wp2_with fail
 go_loopw [21] (fun i wr=>∃ n:Nat,n<=2/\i=.i n/\cOk f a b c d (2*n)/\Cn w wr a b c d (cLo f a b c d (2*n)) (cHi f a b c d (2*n)) b1 b2 b3 op k s) (fun i _=>2-(intOf i).toNat)
 case atStart=>exact⟨0,by omega,rfl,(fun m hm=>by omega),HC0.o⟩
 case round =>
  obtain⟨n,hn,rfl,hok,hcn⟩:=hrel
  have HOK:=aA hok
  have HCN:=aA hcn
  clear hok hcn
  obtain⟨q1,q2,-,-⟩:=aL HCN.o.a
  obtain⟨r1,r2,-,-⟩:=aL HCN.o.b
  by_cases hlt:n < 2
  ·have hix:=aI2 a b n hlt
   have hd:decide ((n:Int) < 2)=true:=by simp;omega
   go_wp2_with fail
   go_loopw [29] (fun i wr=>∃ m:Nat,m<=2/\i=.i m/\cOk f a b c d (2*n+m)/\Cn w wr a b c d (cLo f a b c d (2*n+m)) (cHi f a b c d (2*n+m)) b1 b2 b3 op k s) (fun i _=>2-(intOf i).toNat)
   case atStart=>exact⟨0,by omega,rfl,HOK.o,HCN.o⟩
   case round =>
    obtain⟨m,hm,rfl,hok',hcn'⟩:=hrel
    have HOK2:=aA hok'
    have HCN2:=aA hcn'
    clear hok' hcn'
    by_cases hlt':m < 2
    ·have hix':=aI2 c d m hlt'
     have hcv:cv f a b c d (2*n+m)=f (pk n a b) (pk m c d):=by
      unfold cv
      rw[show (2*n+m) / 2=n by omega,show (2*n+m) % 2=m by omega]
     have HCV:=aA hcv
     clear hcv
     rename_i wr
     have CA:=aB6 op k s b1 b2 b3 _ _ _ _ _ (bCo wr 3 (pk n a b) (pk m c d)) (HCN2.o.cap.later (aD _ _))
     rw[HF.o] at CA
     obtain⟨⟨z,e⟩,hZ⟩:∃ Z,f (pk n a b) (pk m c d)=Z:=⟨_,rfl⟩
     rw[hZ] at CA HCV
     clear hZ
     have HCA:=aA CA
     clear CA
     go_wp2_with fail
     refine HCA.o.mono ?_
     rintro e' w2 ⟨rfl,hb2⟩
     have HC2:=aA (HCN2.o.later (bel (aD _ _) hb2))
     clear hb2 HCA HCN2 HCN q1 q2 r1 r2
     obtain⟨s1,s2,s3,s4⟩:=aL HC2.o.r
     by_cases he:e=0
     ·subst he
      obtain⟨x,hx⟩:∃ x,cLo f a b c d (2*n+m)=x:=⟨_,rfl⟩
      obtain⟨y,hy⟩:∃ y,cHi f a b c d (2*n+m)=y:=⟨_,rfl⟩
      rw[hx,hy] at HC2
      have HX:=aA hx
      have HY:=aA hy
      clear hx hy
      obtain⟨t1,t2,t3,t4⟩:=aL HC2.o.q
      go_wp2_with fail
      have u1:=cell_regrown t1
      have u2:=cell_regrown t2
      refine aN (hf:=(List.dropLast_concat_getLast (by simp)).symm) mixed (by kernel_rfl) rfl (by kernel_rfl) (by kernel_rfl) (by kernel_rfl) (by kernel_rfl) (by kernel_rfl) ?_
      simp only[List.dropLast_cons_cons,List.dropLast_singleton,List.getLast_cons_cons,List.getLast_singleton,-Int.reduceNeg]
      repeat (go_big_quiet_step ((first|(go_at_call 312;exact Calls.regrown_of (dS _ _))|(go_at_call 342;exact Calls.regrown_of (zF _ _ _ _ _)))))
      refine wpQuiet_nil ?_
      intro _ hw'
      obtain⟨pq,hw''⟩:=hw'
      subst hw''
      have HC3:=aA (HC2.o.later (below_regrown w2 pq.d pq.os))
      clear HC2 t1 t2 t3 t4 s1 s2 s3 s4 u1 u2
      generalize grow (redrawn w2 pq.d) pq.os=G at *
      obtain⟨t1,t2,t3,t4⟩:=aL HC3.o.q
      obtain⟨x',hx'⟩:∃ x',min x z=x':=⟨_,rfl⟩
      obtain⟨y',hy'⟩:∃ y',max y z=y':=⟨_,rfl⟩
      rw[hx',hy']
      have HX':=aA hx'
      have HY':=aA hy'
      clear hx' hy'
      go_wp2_with fail
      go_roundw
      case rel =>
       refine⟨m+1,by omega,by go_num,aM8 (n:=2*n+m) HOK2.o (by rw[HCV.o]),?_⟩
       have h:=HC3.o.put x' y'
       rw[show cLo f a b c d (2*n+(m+1))=x' by
        show min (cLo f a b c d (2*n+m)) (cv f a b c d (2*n+m)).1=x'
        rw[HX.o,HCV.o,HX'.o],show cHi f a b c d (2*n+(m+1))=y' by
        show max (cHi f a b c d (2*n+m)) (cv f a b c d (2*n+m)).1=y'
        rw[HY.o,HCV.o,HY'.o]]
       exact h
      case measure=>simp[intOf];omega
     ·have he':(e != 0)=true:=by simp[he]
      have hv:yE f a b c d=.tuple #[.agg #[.i 0,.i 0],.i e]:=by
       unfold yE
       rw[aKp HOK2.o (by omega) (by rw[HCV.o];exact he),HCV.o]
      have HV:=aA hv
      clear hv he
      go_wp2_with fail
      obtain⟨c0,c1,hB2⟩:=aS HC2.o.r HC2.o.bel (by omega) 0 0
      exact bPr (v:=.tuple #[.agg #[.i 0,.i 0],.i e]) (by simp[results,Tryz.results315,go_sem,c0,c1]) rfl ⟨by rw[HV.o],hB2⟩
    ·obtain rfl:m=2:=by omega
     go_wp2_with fail
     go_roundw
     case rel=>exact⟨n+1,by omega,by go_num,HOK2.o,HCN2.o⟩
     case measure=>simp[intOf];omega
  ·obtain rfl:n=2:=by omega
   have hv:yE f a b c d=.tuple #[.agg #[.i (cLo f a b c d 4),.i (cHi f a b c d 4)],.i 0]:=by
    unfold yE
    rw[aNg HOK.o]
   obtain⟨x,hx⟩:∃ x,cLo f a b c d 4=x:=⟨_,rfl⟩
   obtain⟨y,hy⟩:∃ y,cHi f a b c d 4=y:=⟨_,rfl⟩
   rw[show 2*2=4 from rfl,hx,hy] at HCN
   rw[hx,hy] at hv
   have HV:=aA hv
   clear hx hy hv
   obtain⟨t1,t2,t3,t4⟩:=aL HCN.o.q
   obtain⟨s1,s2,s3,s4⟩:=aL HCN.o.r
   go_wp2_with fail
   obtain⟨c0,c1,hB2⟩:=aS HCN.o.r HCN.o.bel (by omega) x y
   exact bPr (v:=.tuple #[.agg #[.i x,.i y],.i 0]) (by simp[results,Tryz.results315,go_sem,c0,c1]) rfl ⟨by rw[HV.o],hB2⟩
end
section
open Go.RowKit
abbrev iD (xs:List Int):List Value:=xs.map (Value.int .i64)
theorem info_parts {P:Program}{e:TypeId}{z:Value}{s b:Nat}(h:(P.info? e).map (fun i=>(i.zero,i.size,i.bytes))=some (some z,s,b)) :
  ∃ i,P.info? e=some i/\i.zero=some z/\i.size=s/\i.bytes=b:=by
 cases hi:P.info? e with
 | none=>rw[hi] at h;cases h
 | some i=>rw[hi] at h;simp at h;exact⟨i,rfl,h.1,h.2.1,h.2.2⟩
end
open Go.RowKit Go.IntWalk Go.Sort
structure Spans (w:World)(a:Option Addr)(n cap:Nat)(L:List (Int × Int)):Prop where
 len:L.length=n
 le:n<=cap
 max:cap<=maxLen
 nil:a=none->cap=0
 cell:n=0\/∃ b off,a=some ⟨b,off,none⟩/\∀ i,i < n->w.cell? ⟨b,off+i*2,none⟩=some (.i (L.getD i (0,0)).1)/\w.cell? ⟨b,off+i*2+1,none⟩=some (.i (L.getD i (0,0)).2)
theorem Spans.at {w:World}{a:Option Addr}{n cap:Nat}{L:List (Int × Int)}(h:Spans w a n cap L)(hn:n≠0) :
  ∃ b off,a=some ⟨b,off,none⟩/\b < w.heap.size/\∀ i,i < n->w.cell? ⟨b,off+i*2,none⟩=some (.i (L.getD i (0,0)).1)/\w.cell? ⟨b,off+i*2+1,none⟩=some (.i (L.getD i (0,0)).2):=by
 rcases h.cell with h0|⟨b,off,ha,hc⟩
 ·exact absurd h0 hn
 ·exact⟨b,off,ha,wBl w _ (hc 0 (by omega)).1,hc⟩
theorem Spans.later {w w':World}{a:Option Addr}{n cap:Nat}{L:List (Int × Int)}(h:Spans w a n cap L)(hb:Below w.heap.size w w'):Spans w' a n cap L:=by
 refine⟨h.len,h.le,h.max,h.nil,?_⟩
 by_cases hn:n=0
 ·exact .inl hn
 ·obtain⟨b,off,ha,hlt,hc⟩:=h.at hn
  exact .inr ⟨b,off,ha,fun i hi=>⟨(hb.cell (p:=⟨b,off+i*2,none⟩) hlt).trans (hc i hi).1,(hb.cell (p:=⟨b,off+i*2+1,none⟩) hlt).trans (hc i hi).2⟩⟩
end Go.Proofs.Spn
