import Derived.Lib.BitFns
import Derived.Test.YticnbcfmbhjbgaaGreatDoorX04
set_option maxRecDepth 100000
set_option maxHeartbeats 32000000
set_option linter.unusedVariables false
namespace Go.Proofs.Spn
section
open Go.RowKit Go.IntWalk
theorem aA {p:Prop}(h:p):Hid p:=h
theorem bel {w w1 w2:World}(h:Below w.heap.size w w1)(k:Below w1.heap.size w1 w2):Below w.heap.size w w2:=h.trans (k.mono h.size)
theorem aD (w:World)(o:Obj):Below w.heap.size w (w.alloc o):=(Below.refl _ _).alloc (nLr _) _
theorem aO {k:IntKind}{a b:Int}(h:a=b):Ending.returned (.int k a)=.returned (.int k b):=by rw[h]
theorem aV {a b:Bool}(h:a=b):Ending.returned (.bool a)=.returned (.bool b):=by rw[h]
theorem xJ {a b c d:Int}(h:a=b)(h':c=d):Ending.returned (.tuple #[.i a,.i c])=.returned (.tuple #[.i b,.i d]):=by rw[h,h']
def fC (x l h:Int):Bool:=decide (l<=x)&&decide (x<=h)
theorem aI3 {x l h:Int}(h1:l<=x)(h2:x<=h):fC x l h=true:=by simp[fC,h1,h2]
theorem aWd {x l h:Int}(h1:x < l\/h < x):fC x l h=false:=by simp[fC];omega
theorem aK {x l h:Int}:fC x l h=true↔l<=x/\x<=h:=by simp[fC]
theorem bP (x l h:Int)(w:World) :
  Calls Tryz.prog 201 #[.i x,.i l,.i h] w fun e w'=>e=.returned (.bool (fC x l h))/\w'=w:=by
 by_cases h1:l<=x
 ·go_enter Tryz.func201,Tryz.ntmps201
  go_wp2
  go_ret
  exact⟨aV (by simp[fC,h1]),rfl⟩
 ·rw[aWd (by omega)]
  go_enter Tryz.func201,Tryz.ntmps201
  go_wp2
  go_ret
  exact⟨rfl,rfl⟩
def wd (x:Int):Bool:=fC x (-2147483648) 2147483647
theorem bY {x:Int}:wd x=true↔-2147483648<=x/\x<=2147483647:=aK
theorem eQ (x:Int)(w:World) :
  Calls Tryz.prog 202 #[.i x] w fun e w'=>e=.returned (.bool (wd x))/\w'=w:=by
 go_enter Tryz.func202,Tryz.ntmps202
 go_wp2_with (go_at_call 201;refine(bP _ _ _ _).mono ?_;rintro e w' ⟨rfl,rfl⟩)
 go_ret
 exact⟨rfl,rfl⟩
def ar (op:Int):Int:=if op=1\/op=2\/op=3 then 0 else if fC op 5 7=true\/fC op 29 33=true then 1 else if fC op 8 25=true then 2 else if fC op 26 28=true then 3 else -1
theorem bQ (op:Int)(w:World) :
  Calls Tryz.prog 129 #[.i op] w fun e w'=>e=.returned (.i (ar op))/\w'=w:=by
 by_cases h1:op=1\/op=2\/op=3
 ·rcases h1 with rfl|rfl|rfl <;>
  ·go_enter Tryz.func129,Tryz.ntmps129
   go_wp2
   go_ret
   exact⟨rfl,rfl⟩
 ·have e1:(op==1)=false:=by simp;omega
  have e2:(op==2)=false:=by simp;omega
  have e3:(op==3)=false:=by simp;omega
  cases h2:fC op 5 7
  ·cases h3:fC op 29 33
   ·cases h4:fC op 8 25
    ·cases h5:fC op 26 28
     ·rw[show ar op=-1 by unfold ar;rw[if_neg h1];simp[h2,h3,h4,h5]]
      clear h1
      go_enter Tryz.func129,Tryz.ntmps129
      go_wp2_with (go_at_call 201;refine(bP _ _ _ _).mono ?_;rintro e w' ⟨rfl,rfl⟩)
      go_ret
      exact⟨rfl,rfl⟩
     ·rw[show ar op=3 by unfold ar;rw[if_neg h1];simp[h2,h3,h4,h5]]
      clear h1
      go_enter Tryz.func129,Tryz.ntmps129
      go_wp2_with (go_at_call 201;refine(bP _ _ _ _).mono ?_;rintro e w' ⟨rfl,rfl⟩)
      go_ret
      exact⟨rfl,rfl⟩
    ·rw[show ar op=2 by unfold ar;rw[if_neg h1];simp[h2,h3,h4]]
     clear h1
     go_enter Tryz.func129,Tryz.ntmps129
     go_wp2_with (go_at_call 201;refine(bP _ _ _ _).mono ?_;rintro e w' ⟨rfl,rfl⟩)
     go_ret
     exact⟨rfl,rfl⟩
   ·rw[show ar op=1 by unfold ar;rw[if_neg h1];simp[h2,h3]]
    clear h1
    go_enter Tryz.func129,Tryz.ntmps129
    go_wp2_with (go_at_call 201;refine(bP _ _ _ _).mono ?_;rintro e w' ⟨rfl,rfl⟩)
    go_ret
    exact⟨rfl,rfl⟩
  ·rw[show ar op=1 by unfold ar;rw[if_neg h1];simp[h2]]
   clear h1
   go_enter Tryz.func129,Tryz.ntmps129
   go_wp2_with (go_at_call 201;refine(bP _ _ _ _).mono ?_;rintro e w' ⟨rfl,rfl⟩)
   go_ret
   exact⟨rfl,rfl⟩
def cons (op k s:Int):Bool :=
 if op=29\/op=30 then fC k 0 31 else if op=31 then fC k 0 2147483647 else if op=32 then wd k else if op=33 then fC k 1 4611686018427387904&&fC s 0 62 else true
theorem iC (op k s:Int)(w:World) :
  Calls Tryz.prog 203 #[.i op,.i k,.i s] w fun e w'=>e=.returned (.bool (cons op k s))/\w'=w:=by
 by_cases h1:op=29\/op=30\/op=31\/op=32
 ·rcases h1 with rfl|rfl|rfl|rfl <;>
  ·go_enter Tryz.func203,Tryz.ntmps203
   go_wp2_with (first|(go_at_call 201;refine(bP _ _ _ _).mono ?_;rintro e w' ⟨rfl,rfl⟩)|(go_at_call 202;refine(eQ _ _).mono ?_;rintro e w' ⟨rfl,rfl⟩))
   go_ret
   exact⟨rfl,rfl⟩
 ·by_cases h2:op=33
  ·subst h2
   cases h3:fC k 1 4611686018427387904
   ·go_enter Tryz.func203,Tryz.ntmps203
    go_wp2_with (go_at_call 201;refine(bP _ _ _ _).mono ?_;rintro e w' ⟨rfl,rfl⟩)
    go_ret
    exact⟨aV (by simp[cons,h3]),rfl⟩
   ·go_enter Tryz.func203,Tryz.ntmps203
    go_wp2_with (go_at_call 201;refine(bP _ _ _ _).mono ?_;rintro e w' ⟨rfl,rfl⟩)
    go_ret
    exact⟨aV (by simp[cons,h3]),rfl⟩
  ·have e1:(op==29)=false:=by simp;omega
   have e2:(op==30)=false:=by simp;omega
   have e3:(op==31)=false:=by simp;omega
   have e4:(op==32)=false:=by simp;omega
   have e5:(op==33)=false:=by simp;omega
   have hc:cons op k s=true:=by unfold cons;rw[if_neg (by omega),if_neg (by omega),if_neg (by omega),if_neg (by omega)]
   rw[hc]
   clear h1 h2 hc
   go_enter Tryz.func203,Tryz.ntmps203
   go_wp2
   go_ret
   exact⟨rfl,rfl⟩
def tr (b:Bool):Int:=if b then 1 else 0
theorem vV (b:Bool)(w:World) :
  Calls Tryz.prog 369 #[.bool b] w fun e w'=>e=.returned (.i (tr b))/\w'=w:=by
 cases b <;>
 ·go_enter Tryz.func369,Tryz.ntmps369
  go_wp2
  go_ret
  exact⟨rfl,rfl⟩
theorem zV (n m:Nat)(h:n<=m):(1:Int)<=2 ^ n/\(2:Int) ^ n<=2 ^ m:=by
 have h2:2 ^ n<=2 ^ m:=Nat.pow_le_pow_right (by decide) h
 have h3:0 < 2 ^ n:=Nat.pow_pos (by decide)
 have e:((2:Int) ^ n)=((2 ^ n:Nat):Int):=by simp
 have e':((2:Int) ^ m)=((2 ^ m:Nat):Int):=by simp
 rw[e,e']
 omega
theorem aX7 {a b:Int}{A B:Int}(ha:-A<=a/\a<=A)(hb:-B<=b/\b<=B):-(A*B)<=a*b/\a*b<=A*B:=by
 have h1:0<=(A-a)*(B+b):=Int.mul_nonneg (by omega) (by omega)
 have h2:0<=(A+a)*(B-b):=Int.mul_nonneg (by omega) (by omega)
 have h3:0<=(A-a)*(B-b):=Int.mul_nonneg (by omega) (by omega)
 have h4:0<=(A+a)*(B+b):=Int.mul_nonneg (by omega) (by omega)
 simp only[Int.sub_mul,Int.add_mul,Int.mul_sub,Int.mul_add] at h1 h2 h3 h4
 omega
theorem aO5 {a b:Int}(ha:-2147483648<=a/\a<=2147483647)(hb:-2147483648<=b/\b<=2147483648):-4611686018427387904<=a*b/\a*b<=4611686018427387904:=by
 have:=aX7 (A:=2147483648) (B:=2147483648) (a:=a) (b:=b) (by omega) (by omega)
 omega
theorem aVd (a b:Int)(ha:-2147483648<=a/\a<=2147483647):-2147483648<=a.tdiv b/\a.tdiv b<=2147483648:=by
 have h:=Int.natAbs_tdiv_le_natAbs a b
 omega
theorem vZ {B:Nat}{a w:World}(h:Below B a w)(n:Nat):Below B a (w.drewN n):=h.trans ⟨rfl,rfl,rfl,nLr _,fun _ _=>rfl⟩
theorem w64 {x:Int}(h:-9223372036854775808<=x/\x<=9223372036854775807):wrap64 x=x:=wrap64_in _ h
def ex (op k s a b c:Int):Int × Int :=
 if op=5 then(-a,0) else
 if op=6 then(max a (-a),0) else
 if op=7 then(tr (decide (0 < a))-tr (decide (a < 0)),0) else
 if op=8 then(a+b,0) else
 if op=9 then(a-b,0) else
 if op=10 then(a*b,0) else
 if op=11 then(if b=0 then(0,12) else(a.tdiv b,0)) else
 if op=12 then(if b=0 then(0,12) else(a.tmod b,0)) else
 if op=13 then(if fC b 0 31=true then(a*2 ^ b.toNat,0) else(0,13)) else
 if op=14 then(if fC b 0 31=true then(a / 2 ^ b.toNat,0) else(0,13)) else
 if op=15 then(bits .and .i64 a b,0) else
 if op=16 then(bits .or .i64 a b,0) else
 if op=17 then(bits .xor .i64 a b,0) else
 if op=18 then(tr (decide (a < b)),0) else
 if op=19 then(tr (decide (a<=b)),0) else
 if op=20 then(tr (decide (b < a)),0) else
 if op=21 then(tr (decide (b<=a)),0) else
 if op=22 then(tr (a==b),0) else
 if op=23 then(tr (a != b),0) else
 if op=24 then(min a b,0) else
 if op=25 then(max a b,0) else
 if op=26 then(min c (max a b),0) else
 if op=27 then(max (min a b) (min (max a b) c),0) else
 if op=28 then(if a=0 then c else b,0) else
 if op=29 then(a*2 ^ k.toNat,0) else
 if op=30 then(a / 2 ^ k.toNat,0) else
 if op=31 then(bits .and .i64 a k,0) else
 if op=32 then(a*k,0) else
 if 4611686018427387904 < max a (-a)*k then(0,13) else(a*k / 2 ^ s.toNat,0)
theorem aF6 (a:Int)(w:World)(ha:-2147483648<=a/\a<=2147483647) :
  Calls Tryz.prog 346 #[.i a] w fun e w'=>e=.returned (.i (max a (-a)))/\w'=w:=by
 go_enter Tryz.func346,Tryz.ntmps346
 go_wp2
 all_goals go_ret
 all_goals exact⟨aO (by omega),rfl⟩
theorem aEo (a b:Int)(w:World) :
  Calls Tryz.prog 347 #[.i a,.i b] w fun e w'=>e=.returned (.i (tr (decide (b < a))-tr (decide (a < b))))/\w'=w:=by
 go_enter Tryz.func347,Tryz.ntmps347
 go_wp2
 all_goals go_ret
 all_goals refine⟨aO ?_,rfl⟩
 all_goals simp[tr]
 all_goals omega
theorem aEr (op a b:Int)(w:World)(ho:op=11\/op=12)(ha:-2147483648<=a/\a<=2147483647) :
  Calls Tryz.prog 349 #[.i op,.i a,.i b] w fun e w'=>e=.returned (.tuple #[.i (ex op 0 0 a b 0).1,.i (ex op 0 0 a b 0).2])/\w'=w:=by
 by_cases h0:b=0
 ·subst h0
  rcases ho with rfl|rfl <;>
  ·go_enter Tryz.func349,Tryz.ntmps349
   go_wp2
   go_ret2
   exact⟨rfl,rfl⟩
 ·have h1:(b==0)=false:=by simp[h0]
  rcases ho with rfl|rfl
  ·have h2:ex 11 0 0 a b 0=(a.tdiv b,0):=by simp[ex,h0]
   rw[h2]
   clear h2
   go_enter Tryz.func349,Tryz.ntmps349
   go_wp2
   go_ret2
   have:=aVd a b ha
   refine⟨xJ (w64 ?_) rfl,rfl⟩;omega
  ·have h2:ex 12 0 0 a b 0=(a.tmod b,0):=by simp[ex,h0]
   rw[h2]
   clear h2
   go_enter Tryz.func349,Tryz.ntmps349
   go_wp2
   go_ret2
   exact⟨rfl,rfl⟩
theorem aK8 (op a b:Int)(w:World)(ho:op=13\/op=14)(ha:-2147483648<=a/\a<=2147483647) :
  Calls Tryz.prog 350 #[.i op,.i a,.i b] w fun e w'=>e=.returned (.tuple #[.i (ex op 0 0 a b 0).1,.i (ex op 0 0 a b 0).2])/\w'=w:=by
 cases h0:fC b 0 31
 ·have e1:ex 13 0 0 a b 0=(0,13):=by simp[ex,h0]
  have e2:ex 14 0 0 a b 0=(0,13):=by simp[ex,h0]
  rcases ho with rfl|rfl
  ·rw[e1]
   clear e1 e2
   go_enter Tryz.func350,Tryz.ntmps350
   go_wp2_with (go_at_call 201;refine(bP _ _ _ _).mono ?_;rintro e w' ⟨rfl,rfl⟩)
   go_ret2
   exact⟨rfl,rfl⟩
  ·rw[e2]
   clear e1 e2
   go_enter Tryz.func350,Tryz.ntmps350
   go_wp2_with (go_at_call 201;refine(bP _ _ _ _).mono ?_;rintro e w' ⟨rfl,rfl⟩)
   go_ret2
   exact⟨rfl,rfl⟩
 ·have e1:ex 13 0 0 a b 0=(a*2 ^ b.toNat,0):=by simp[ex,h0]
  have e2:ex 14 0 0 a b 0=(a / 2 ^ b.toNat,0):=by simp[ex,h0]
  obtain⟨hb0,hb1⟩:=aK.1 h0
  rcases ho with rfl|rfl
  ·rw[e1]
   clear e1 e2
   go_enter Tryz.func350,Tryz.ntmps350
   go_wp2_with (go_at_call 201;refine(bP _ _ _ _).mono ?_;rintro e w' ⟨rfl,rfl⟩)
   go_ret2
   have h1:=zV b.toNat 31 (by omega)
   have h2:=aO5 (b:=2 ^ b.toNat) ha (by omega)
   refine⟨xJ (w64 ?_) rfl,rfl⟩;omega
  ·rw[e2]
   clear e1 e2
   go_enter Tryz.func350,Tryz.ntmps350
   go_wp2_with (go_at_call 201;refine(bP _ _ _ _).mono ?_;rintro e w' ⟨rfl,rfl⟩)
   go_ret2
   exact⟨rfl,rfl⟩
theorem aCg (op a b:Int)(w:World)(ho:fC op 18 23=true) :
  Calls Tryz.prog 351 #[.i op,.i a,.i b] w fun e w'=>e=.returned (.i (ex op 0 0 a b 0).1)/\w'=w:=by
 have h:=aK.1 ho
 clear ho
 rcases(show op=18\/op=19\/op=20\/op=21\/op=22\/op=23 by omega) with rfl|rfl|rfl|rfl|rfl|rfl <;>
 ·go_enter Tryz.func351,Tryz.ntmps351
  go_wp2_with (go_at_call 369;refine(vV _ _).mono ?_;rintro e w' ⟨rfl,rfl⟩)
  go_ret
  exact⟨rfl,rfl⟩
theorem aFi (op k s a b c:Int)(w:World)(ho:fC op 26 28=true) :
  Calls Tryz.prog 320 #[.i op,.i a,.i b,.i c] w fun e w'=>e=.returned (.i (ex op k s a b c).1)/\w'=w:=by
 have h:=aK.1 ho
 clear ho
 rcases(show op=26\/op=27\/op=28 by omega) with rfl|rfl|rfl
 ·clear h
  rw[show ex 26 k s a b c=(min c (max a b),0) from rfl]
  go_enter Tryz.func320,Tryz.ntmps320
  go_wp2
  all_goals go_ret
  all_goals exact⟨aO (by omega),rfl⟩
 ·clear h
  rw[show ex 27 k s a b c=(max (min a b) (min (max a b) c),0) from rfl]
  go_enter Tryz.func320,Tryz.ntmps320
  go_wp2
  all_goals go_ret
  all_goals exact⟨aO (by omega),rfl⟩
 ·clear h
  by_cases h0:a=0
  ·subst h0
   go_enter Tryz.func320,Tryz.ntmps320
   go_wp2
   go_ret
   exact⟨rfl,rfl⟩
  ·have h1:(a != 0)=true:=by simp[h0]
   rw[show ex 28 k s a b c=(b,0) by simp[ex,h0]]
   go_enter Tryz.func320,Tryz.ntmps320
   go_wp2
   go_ret
   exact⟨rfl,rfl⟩
theorem aNr (op k s a b c:Int)(ho:fC op 8 25=true):ex op k s a b c=ex op 0 0 a b 0:=by
 have h:=aK.1 ho
 rcases(show op=8\/op=9\/op=10\/op=11\/op=12\/op=13\/op=14\/op=15\/op=16\/op=17\/op=18\/op=19\/op=20\/op=21\/op=22\/op=23\/op=24\/op=25 by omega) with
  rfl|rfl|rfl|rfl|rfl|rfl|rfl|rfl|rfl|rfl|rfl|rfl|rfl|rfl|rfl|rfl|rfl|rfl <;> rfl
theorem nJ (op a b:Int)(w:World)(ho:fC op 8 25=true)(ha:-2147483648<=a/\a<=2147483647)(hb:-2147483648<=b/\b<=2147483647) :
  Calls Tryz.prog 319 #[.i op,.i a,.i b] w fun e w'=>e=.returned (.tuple #[.i (ex op 0 0 a b 0).1,.i (ex op 0 0 a b 0).2])/\w'=w:=by
 have h:=aK.1 ho
 clear ho
 have hm:=aO5 (b:=b) ha (by omega)
 rcases(show op=8\/op=9\/op=10\/op=15\/op=16\/op=17\/(op=11\/op=12)\/(op=13\/op=14)\/(op=18\/op=19\/op=20\/op=21\/op=22\/op=23)\/op=24\/op=25 by omega) with
  rfl|rfl|rfl|rfl|rfl|rfl|h1|h1|h1|rfl|rfl
 ·clear h
  go_enter Tryz.func319,Tryz.ntmps319
  go_wp2
  go_ret2
  exact⟨rfl,rfl⟩
 ·clear h
  go_enter Tryz.func319,Tryz.ntmps319
  go_wp2
  go_ret2
  exact⟨rfl,rfl⟩
 ·clear h
  go_enter Tryz.func319,Tryz.ntmps319
  go_wp2
  go_ret2
  exact⟨rfl,rfl⟩
 ·clear h
  go_enter Tryz.func319,Tryz.ntmps319
  go_wp2
  go_ret2
  exact⟨rfl,rfl⟩
 ·clear h
  go_enter Tryz.func319,Tryz.ntmps319
  go_wp2
  go_ret2
  exact⟨rfl,rfl⟩
 ·clear h
  go_enter Tryz.func319,Tryz.ntmps319
  go_wp2
  go_ret2
  exact⟨rfl,rfl⟩
 ·have hc:=fun w=>aEr op a b w h1 ha
  rcases h1 with rfl|rfl <;>
  ·clear h
   go_enter Tryz.func319,Tryz.ntmps319
   go_wp2_with (go_at_call 349;refine(hc _).mono ?_;rintro e w' ⟨rfl,rfl⟩)
   go_ret2
   exact⟨rfl,rfl⟩
 ·have hc:=fun w=>aK8 op a b w h1 ha
  rcases h1 with rfl|rfl <;>
  ·clear h
   go_enter Tryz.func319,Tryz.ntmps319
   go_wp2_with (go_at_call 350;refine(hc _).mono ?_;rintro e w' ⟨rfl,rfl⟩)
   go_ret2
   exact⟨rfl,rfl⟩
 ·have hc:=fun w=>aCg op a b w (aI3 (by omega) (by omega))
  rcases h1 with rfl|rfl|rfl|rfl|rfl|rfl <;>
  ·clear h
   go_enter Tryz.func319,Tryz.ntmps319
   go_wp2_with (go_at_call 351;refine(hc _).mono ?_;rintro e w' ⟨rfl,rfl⟩)
   go_ret2
   exact⟨rfl,rfl⟩
 ·clear h
  rw[show ex 24 0 0 a b 0=(min a b,0) from rfl]
  go_enter Tryz.func319,Tryz.ntmps319
  go_wp2
  all_goals go_ret2
  all_goals exact⟨xJ (by omega) rfl,rfl⟩
 ·clear h
  rw[show ex 25 0 0 a b 0=(max a b,0) from rfl]
  go_enter Tryz.func319,Tryz.ntmps319
  go_wp2
  all_goals go_ret2
  all_goals exact⟨xJ (by omega) rfl,rfl⟩
theorem aEq {m k:Int}(hk:1<=k):4611686018427387904 / k < m↔4611686018427387904 < m*k:=by
 constructor
 ·intro h
  have h1:=Int.lt_mul_of_ediv_lt (show 0 < k by omega) h
  exact h1
 ·intro h
  exact Int.ediv_lt_of_lt_mul (by omega) h
theorem aHy (k s a b c:Int)(w:World)(hk:1<=k/\k<=4611686018427387904)(hs:0<=s/\s<=62)(ha:-2147483648<=a/\a<=2147483647) :
  Calls Tryz.prog 348 #[.i a,.i k,.i s] w fun e w'=>e=.returned (.tuple #[.i (ex 33 k s a b c).1,.i (ex 33 k s a b c).2])/\Below w.heap.size w w':=by
 have hk0:k≠0:=by omega
 have hsz:=fun w=>aF6 a w ha
 by_cases h0:4611686018427387904 < max a (-a)*k
 ·rw[show ex 33 k s a b c=(0,13) by simp[ex,h0]]
  have h1:=(aEq (m:=max a (-a)) hk.1).2 h0
  clear h0
  generalize hM:max a (-a)=M at *
  clear hM
  go_enter Tryz.func348,Tryz.ntmps348
  go_wp2
  go_quiet ((go_at_call 346;exact Calls.quiet_of_same (hsz _)))
  go_wp2
  go_ret2
  exact⟨rfl,vZ (Below.refl _ _) _⟩
 ·rw[show ex 33 k s a b c=(a*k / 2 ^ s.toNat,0) by simp[ex,h0]]
  have h1:¬4611686018427387904 / k < max a (-a):=fun h=>h0 ((aEq hk.1).1 h)
  have h2:-4611686018427387904<=a*k/\a*k<=4611686018427387904:=by
   rcases Int.le_total 0 a with h|h
   ·rw[show max a (-a)=a by omega] at h0
    have:0<=a*k:=Int.mul_nonneg h (by omega)
    omega
   ·rw[show max a (-a)=-a by omega,Int.neg_mul] at h0
    have:0<=-a*k:=Int.mul_nonneg (by omega) (by omega)
    rw[Int.neg_mul] at this
    omega
  clear h0
  generalize hM:max a (-a)=M at *
  clear hM
  go_enter Tryz.func348,Tryz.ntmps348
  go_wp2
  go_quiet ((go_at_call 346;exact Calls.quiet_of_same (hsz _)))
  go_wp2
  go_ret2
  exact⟨rfl,vZ (Below.refl _ _) _⟩
end
section
open Go.RowKit Go.IntWalk
open Knd (Ints)
theorem nM {op:Int}(h:ar op=1):op=5\/op=6\/op=7\/op=29\/op=30\/op=31\/op=32\/op=33:=by
 unfold ar at h
 split at h
 ·omega
 ·split at h
  ·rename_i h2
   rw[aK,aK] at h2
   omega
  ·split at h
   ·omega
   ·split at h <;> omega
theorem jT {op:Int}(h:ar op=2):fC op 8 25=true:=by
 unfold ar at h
 split at h
 ·omega
 ·split at h
  ·omega
  ·split at h
   ·assumption
   ·split at h <;> omega
theorem iU {op:Int}(h:ar op=3):fC op 26 28=true:=by
 unfold ar at h
 split at h
 ·omega
 ·split at h
  ·omega
  ·split at h
   ·omega
   ·split at h
    ·assumption
    ·omega
theorem xS (op:Int):ar op<=3:=by
 unfold ar
 split
 ·omega
 ·split
  ·omega
  ·split
   ·omega
   ·split <;> omega
theorem aLa (op k s a b c:Int)(w:World)(ho:ar op=1)(hc:cons op k s=true)(ha:-2147483648<=a/\a<=2147483647) :
  Calls Tryz.prog 318 #[.i op,.i k,.i s,.i a] w fun e w'=>e=.returned (.tuple #[.i (ex op k s a b c).1,.i (ex op k s a b c).2])/\Below w.heap.size w w':=by
 rcases nM ho with rfl|rfl|rfl|rfl|rfl|rfl|rfl|rfl <;> clear ho
 ·clear hc
  go_enter Tryz.func318,Tryz.ntmps318
  go_wp2
  go_ret2
  exact⟨rfl,Below.refl _ _⟩
 ·clear hc
  go_enter Tryz.func318,Tryz.ntmps318
  go_wp2_with (go_at_call 346;refine(aF6 _ _ ha).mono ?_;rintro e w' ⟨rfl,rfl⟩)
  go_ret2
  exact⟨rfl,Below.refl _ _⟩
 ·clear hc
  go_enter Tryz.func318,Tryz.ntmps318
  go_wp2_with (go_at_call 347;refine(aEo _ _ _).mono ?_;rintro e w' ⟨rfl,rfl⟩)
  go_ret2
  exact⟨rfl,Below.refl _ _⟩
 ·have hk:fC k 0 31=true:=hc
  have hk':=aK.1 hk
  have h2:=fun w=>nJ 13 a k w rfl ha (by omega)
  rw[show ex 13 0 0 a k 0=ex 29 k s a b c by simp[ex,hk]] at h2
  clear hc hk
  go_enter Tryz.func318,Tryz.ntmps318
  go_wp2_with (go_at_call 319;refine(h2 _).mono ?_;rintro e w' ⟨rfl,rfl⟩)
  go_ret2
  exact⟨rfl,Below.refl _ _⟩
 ·have hk:fC k 0 31=true:=hc
  have hk':=aK.1 hk
  have h2:=fun w=>nJ 14 a k w rfl ha (by omega)
  rw[show ex 14 0 0 a k 0=ex 30 k s a b c by simp[ex,hk]] at h2
  clear hc hk
  go_enter Tryz.func318,Tryz.ntmps318
  go_wp2_with (go_at_call 319;refine(h2 _).mono ?_;rintro e w' ⟨rfl,rfl⟩)
  go_ret2
  exact⟨rfl,Below.refl _ _⟩
 ·have hk:fC k 0 2147483647=true:=hc
  have hk':=aK.1 hk
  have h2:=fun w=>nJ 15 a k w rfl ha (by omega)
  rw[show ex 15 0 0 a k 0=ex 31 k s a b c from rfl] at h2
  clear hc hk
  go_enter Tryz.func318,Tryz.ntmps318
  go_wp2_with (go_at_call 319;refine(h2 _).mono ?_;rintro e w' ⟨rfl,rfl⟩)
  go_ret2
  exact⟨rfl,Below.refl _ _⟩
 ·have hk:wd k=true:=hc
  have hk':=bY.1 hk
  have h2:=fun w=>nJ 10 a k w rfl ha (by omega)
  rw[show ex 10 0 0 a k 0=ex 32 k s a b c from rfl] at h2
  clear hc hk
  go_enter Tryz.func318,Tryz.ntmps318
  go_wp2_with (go_at_call 319;refine(h2 _).mono ?_;rintro e w' ⟨rfl,rfl⟩)
  go_ret2
  exact⟨rfl,Below.refl _ _⟩
 ·have hk:(fC k 1 4611686018427387904&&fC s 0 62)=true:=hc
  rw[bAt,aK,aK] at hk
  have h2:=fun w=>aHy k s a b c w hk.1 hk.2 ha
  clear hc hk
  go_enter Tryz.func318,Tryz.ntmps318
  go_wp2_with (go_at_call 348;refine(h2 _).mono ?_;rintro e w' ⟨rfl,hb⟩)
  go_ret2
  exact⟨rfl,hb⟩
def fT (op k s:Int)(xs:List Int):Bool:=decide (1<=ar op)&&decide ((xs.length:Int)=ar op)&&cons op k s&&xs.all wd
theorem aAn {xs:List Int}{k:Nat}(hk:k < xs.length)(h:(xs.take k).all wd=true)(e:wd (xs.getD k 0)=true):(xs.take (k+1)).all wd=true:=by
 rw[lTs hk,List.all_append,h]
 simp[List.getD,hk] at e
 simp[e]
theorem qY (op k s:Int)(a:Option Addr)(n cap:Nat)(xs:List Int)(w:World)(h:Ints w a n cap xs) :
  Calls Tryz.prog 268 #[.i op,.i k,.i s,.slice a n cap] w fun e w'=>e=.returned (.bool (fT op k s xs))/\w'=w:=by
 have hl:=h.len
 have hm1:n<=9223372036854775807:=by have:=h.le;have:=h.max;unfold maxLen at this;omega
 by_cases h1:ar op < 1
 ·rw[show fT op k s xs=false by simp[fT];omega]
  clear hl
  go_enter Tryz.func268,Tryz.ntmps268
  go_wp2_with (go_at_call 129;refine(bQ _ _).mono ?_;rintro e w' ⟨rfl,rfl⟩)
  go_ret
  exact⟨rfl,rfl⟩
 by_cases h2:(n:Int)=ar op
 ·have h2':((n:Int) != ar op)=false:=by simp[h2]
  cases hc:cons op k s
  ·rw[show fT op k s xs=false by simp[fT,hc]]
   clear hl h2
   go_enter Tryz.func268,Tryz.ntmps268
   go_wp2_with (first|(go_at_call 129;refine(bQ _ _).mono ?_;rintro e w' ⟨rfl,rfl⟩)|(go_at_call 203;refine(iC _ _ _ _).mono ?_;rintro e w' ⟨rfl,rfl⟩))
   go_ret
   exact⟨rfl,rfl⟩
  ·rw[show fT op k s xs=xs.all wd by simp[fT,hc,hl,h2];omega]
   have HL:=aA hl
   clear hl h2
   go_enter Tryz.func268,Tryz.ntmps268
   go_wp2_with (first|(go_at_call 129;refine(bQ _ _).mono ?_;rintro e w' ⟨rfl,rfl⟩)|(go_at_call 203;refine(iC _ _ _ _).mono ?_;rintro e w' ⟨rfl,rfl⟩))
   go_loop [31] (fun i=>∃ j:Nat,j<=n/\i=.i j/\(xs.take j).all wd=true) (fun i=>n-(intOf i).toNat)
   case atStart=>exact⟨0,nZl _,rfl,rfl⟩
   case round =>
    obtain⟨j,hj,rfl,hA⟩:=hrel
    have HA:=aA hA
    clear hA
    by_cases hlt:j < n
    ·obtain⟨b1,o1,rfl,_,hc1⟩:=h.at (by omega)
     have g1:=hc1 j hlt
     clear hc1
     generalize ea:xs.getD j 0=x at g1
     have EA:=aA ea
     clear ea
     cases hx:wd x
     ·go_wp2_with (go_at_call 202;refine(eQ _ _).mono ?_;rintro e w' ⟨rfl,rfl⟩)
      go_ret
      refine⟨aV ?_,rfl⟩
      symm
      rw[List.all_eq_false]
      refine⟨x,?_,by simp[hx]⟩
      have e1:=EA.o
      rw[<-e1]
      simp[List.getD,HL.o,hlt]
     ·go_wp2_with (go_at_call 202;refine(eQ _ _).mono ?_;rintro e w' ⟨rfl,rfl⟩)
      go_round
      case rel=>exact⟨j+1,by omega,by go_num,aAn (by rw[HL.o];exact hlt) HA.o (by rw[EA.o];exact hx)⟩
      case measure=>simp[intOf];omega
    ·go_wp2_with (go_at_call 202;refine(eQ _ _).mono ?_;rintro e w' ⟨rfl,rfl⟩)
     go_ret
     refine⟨aV ?_,rfl⟩
     have h3:=HA.o
     rw[lTl (by rw[HL.o];omega)] at h3
     exact h3.symm
 ·have h2':((n:Int) != ar op)=true:=by simp[h2]
  rw[show fT op k s xs=false by simp[fT,hl,h2]]
  clear hl h2
  go_enter Tryz.func268,Tryz.ntmps268
  go_wp2_with (go_at_call 129;refine(bQ _ _).mono ?_;rintro e w' ⟨rfl,rfl⟩)
  go_ret
  exact⟨rfl,rfl⟩
theorem aSt (op k s x:Int)(b off cap:Nat)(w:World)(hc:1<=cap)(ho:ar op=1)(hk:cons op k s=true)(hx:-2147483648<=x/\x<=2147483647)
  (c0:w.cell? ⟨b,off,none⟩=some (.i x)) :
  Calls Tryz.prog 269 #[.i op,.i k,.i s,.slice (some ⟨b,off,none⟩) 1 cap] w fun e w'=>e=.returned (.tuple #[.i (ex op k s x 0 0).1,.i (ex op k s x 0 0).2])/\Below w.heap.size w w':=by
 have h2:=fun w=>aLa op k s x 0 0 w ho hk hx
 clear ho hk
 go_enter Tryz.func269,Tryz.ntmps269
 go_wp2_with (go_at_call 318;refine(h2 _).mono ?_;rintro e w' ⟨rfl,hb⟩)
 go_ret2
 exact⟨rfl,hb⟩
theorem aSu (op k s x y:Int)(b off cap:Nat)(w:World)(hc:2<=cap)(ho:ar op=2)(hx:-2147483648<=x/\x<=2147483647)(hy:-2147483648<=y/\y<=2147483647)
  (c0:w.cell? ⟨b,off,none⟩=some (.i x)) (c1:w.cell? ⟨b,off+1,none⟩=some (.i y)) :
  Calls Tryz.prog 269 #[.i op,.i k,.i s,.slice (some ⟨b,off,none⟩) 2 cap] w fun e w'=>e=.returned (.tuple #[.i (ex op k s x y 0).1,.i (ex op k s x y 0).2])/\Below w.heap.size w w':=by
 have h2:=fun w=>nJ op x y w (jT ho) hx hy
 rw[<-aNr op k s x y 0 (jT ho)] at h2
 clear ho
 go_enter Tryz.func269,Tryz.ntmps269
 go_wp2
 go_quiet ((go_at_call 319;exact Calls.quiet_of_same (h2 _)))
 go_wp2
 go_ret2
 exact⟨rfl,vZ (Below.refl _ _) _⟩
theorem aNq (op k s x y z:Int)(ho:fC op 26 28=true):(ex op k s x y z).2=0:=by
 have h:=aK.1 ho
 rcases(show op=26\/op=27\/op=28 by omega) with rfl|rfl|rfl <;> rfl
theorem aSv (op k s x y z:Int)(b off cap:Nat)(w:World)(hc:3<=cap)(ho:ar op=3)
  (c0:w.cell? ⟨b,off,none⟩=some (.i x)) (c1:w.cell? ⟨b,off+1,none⟩=some (.i y)) (c2:w.cell? ⟨b,off+2,none⟩=some (.i z)) :
  Calls Tryz.prog 269 #[.i op,.i k,.i s,.slice (some ⟨b,off,none⟩) 3 cap] w fun e w'=>e=.returned (.tuple #[.i (ex op k s x y z).1,.i (ex op k s x y z).2])/\Below w.heap.size w w':=by
 have h2:=fun w=>aFi op k s x y z w (iU ho)
 rw[aNq op k s x y z (iU ho)]
 clear ho
 go_enter Tryz.func269,Tryz.ntmps269
 go_wp2
 go_quiet ((go_at_call 320;exact Calls.quiet_of_same (h2 _)))
 go_wp2
 go_ret2
 exact⟨rfl,vZ (Below.refl _ _) _⟩
theorem aKq (op k s:Int)(a:Option Addr)(n cap:Nat)(xs:List Int)(w:World)(h:Ints w a n cap xs)(hm:fT op k s xs=true) :
  Calls Tryz.prog 269 #[.i op,.i k,.i s,.slice a n cap] w fun e w' =>
   e=.returned (.tuple #[.i (ex op k s (xs.getD 0 0) (xs.getD 1 0) (xs.getD 2 0)).1,.i (ex op k s (xs.getD 0 0) (xs.getD 1 0) (xs.getD 2 0)).2])/\Below w.heap.size w w':=by
 simp only[fT,bAt,dEt,lAe] at hm
 obtain⟨⟨⟨m1,m2⟩,m3⟩,m4⟩:=hm
 have hl:=h.len
 have h3:=xS op
 have hle:=h.le
 obtain⟨b,off,rfl,-,hc⟩:=h.at (by omega)
 have hw:∀ x ∈ xs,-2147483648<=x/\x<=2147483647:=fun x hx=>bY.1 (m4 x hx)
 match xs,hl,m2,hc,hw with
 | [x],hl,m2,hc,hw =>
  subst hl
  exact aSt op k s x b off cap w hle (by simpa using m2.symm) m3 (hw x (by simp)) (hc 0 (by simp))
 | [x,y],hl,m2,hc,hw =>
  subst hl
  exact aSu op k s x y b off cap w hle (by simpa using m2.symm) (hw x (by simp)) (hw y (by simp)) (hc 0 (by simp)) (hc 1 (by simp))
 | [x,y,z],hl,m2,hc,hw =>
  subst hl
  exact aSv op k s x y z b off cap w hle (by simpa using m2.symm) (hc 0 (by simp)) (hc 1 (by simp)) (hc 2 (by simp))
 | [],hl,m2,hc,hw=>simp at m2;omega
 | _::_::_::_::_,hl,m2,hc,hw=>simp at m2;omega
def bK (op k s:Int)(xs:List Int):Int × Int :=
 if fT op k s xs=true then
  (if (ex op k s (xs.getD 0 0) (xs.getD 1 0) (xs.getD 2 0)).2=0 then
   (if wd (ex op k s (xs.getD 0 0) (xs.getD 1 0) (xs.getD 2 0)).1=true then((ex op k s (xs.getD 0 0) (xs.getD 1 0) (xs.getD 2 0)).1,0) else(0,13))
  else(0,(ex op k s (xs.getD 0 0) (xs.getD 1 0) (xs.getD 2 0)).2))
 else(0,1)
theorem kU (op k s:Int)(a:Option Addr)(n cap:Nat)(xs:List Int)(w:World)(h:Ints w a n cap xs) :
  Calls Tryz.prog 194 #[.i op,.i k,.i s,.slice a n cap] w fun e w'=>e=.returned (.tuple #[.i (bK op k s xs).1,.i (bK op k s xs).2])/\Below w.heap.size w w':=by
 have H:=aA h
 clear h
 cases hm:fT op k s xs
 ·rw[show bK op k s xs=(0,1) by simp[bK,hm]]
  go_enter Tryz.func194,Tryz.ntmps194
  go_wp2_with (go_at_call 268;refine(qY _ _ _ _ _ _ _ _ H.o).mono ?_;rintro e w' ⟨rfl,rfl⟩)
  go_ret2
  exact⟨rfl,Below.refl _ _⟩
 ·have H2:=aA (aKq op k s a n cap xs w H.o hm)
  unfold bK
  rw[if_pos hm]
  generalize ex op k s (xs.getD 0 0) (xs.getD 1 0) (xs.getD 2 0)=E at *
  obtain⟨x,e⟩:=E
  by_cases he:e=0
  ·subst he
   rw[if_pos rfl]
   cases hx:wd x
   ·rw[if_neg (by simp)]
    go_enter Tryz.func194,Tryz.ntmps194
    go_wp2_with (first|(go_at_call 268;refine(qY _ _ _ _ _ _ _ _ H.o).mono ?_;rintro e w' ⟨rfl,rfl⟩)|(go_at_call 269;refine H2.o.mono ?_;rintro e w2 ⟨rfl,hb⟩)|(go_at_call 202;refine(eQ _ _).mono ?_;rintro e w' ⟨rfl,rfl⟩))
    go_ret2
    exact⟨rfl,hb⟩
   ·rw[if_pos (by simp)]
    go_enter Tryz.func194,Tryz.ntmps194
    go_wp2_with (first|(go_at_call 268;refine(qY _ _ _ _ _ _ _ _ H.o).mono ?_;rintro e w' ⟨rfl,rfl⟩)|(go_at_call 269;refine H2.o.mono ?_;rintro e w2 ⟨rfl,hb⟩)|(go_at_call 202;refine(eQ _ _).mono ?_;rintro e w' ⟨rfl,rfl⟩))
    go_ret2
    exact⟨rfl,hb⟩
  ·rw[if_neg he]
   have he':(e != 0)=true:=by simp[he]
   clear he
   go_enter Tryz.func194,Tryz.ntmps194
   go_wp2_with (first|(go_at_call 268;refine(qY _ _ _ _ _ _ _ _ H.o).mono ?_;rintro e w' ⟨rfl,rfl⟩)|(go_at_call 269;refine H2.o.mono ?_;rintro e w2 ⟨rfl,hb⟩)|(go_at_call 202;refine(eQ _ _).mono ?_;rintro e w' ⟨rfl,rfl⟩))
   go_ret2
   exact⟨rfl,hb⟩
theorem bCo (w:World)(t:TypeId)(x y:Int):Ints (w.alloc (.cells #[.i x,.i y] t)) (some ⟨w.heap.size,0,none⟩) 2 2 [x,y]:=by
 refine⟨rfl,nLr _,by decide,(fun h=>by cases h),.inr ⟨_,_,rfl,fun i hi=>?_⟩⟩
 rcases(show i=0\/i=1 by omega) with rfl|rfl <;> simp
end
section
open Go.RowKit Go.IntWalk
theorem aWs {op:Int}(h:op < 1\/op=4\/33 < op):ar op=-1:=by
 unfold ar
 rw[if_neg (by omega),if_neg (by rw[aK,aK];omega),if_neg (by rw[aK];omega),if_neg (by rw[aK];omega)]
end
section
open Go.RowKit Go.IntWalk
variable {W:World} {b:Nat} {t:TypeId} {cs:Array Value}
def aB (W:World)(b:Nat)(t:TypeId)(cs:Array Value):Prop:=W.heap[b]?=some (.cells cs t (0,0))
theorem aB.lt (h:aB W b t cs):b < W.heap.size:=(aGs.1 h).1
theorem aB.new (W:World)(t:TypeId)(cs:Array Value):aB (W.alloc (.cells cs t)) W.heap.size t cs:=heap_alloc_new W _
theorem aB.kept {W':World}{row:Option Nat}(h:aB W b t cs)(hg:W.grownBy W' row)(hne:some b≠row):aB W' b t cs:=(hg.block b h.lt hne).trans h
theorem aB.alloc {W:World}{b:Nat}{t:TypeId}{cs:Array Value}(h:aB W b t cs)(o:Obj):aB (W.alloc o) b t cs:=h.kept (World.grownBy_alloc W o none) (by simp)
theorem aB.below {W':World}(h:aB W b t cs)(hb:Below W.heap.size W W'):aB W' b t cs:=(hb.block b h.lt).trans h
theorem aB.cell {W:World}{b:Nat}{t:TypeId}{cs:Array Value}(h:aB W b t cs)(i:Nat){v:Value}(hv:cs[i]?=some v):W.cell? ⟨b,i,none⟩=some v:=(cell_of_row W b i cs t (0,0) h).trans hv
theorem aB.frozen {W:World}{b:Nat}{t:TypeId}{cs:Array Value}(h:aB W b t cs)(i:Nat):W.frozen? ⟨b,i,none⟩=false:=by
 simp[World.frozen?,show W.heap[b]?=_ from h]
theorem aB.other (h:aB W b t cs){p:Addr}(hne:b≠p.block)(u:Value):aB (W.setCell p u) b t cs:=(Below.heap_setCell W p u b hne).trans h
theorem aB.set (h:aB W b t cs)(i:Nat)(u:Value):aB (W.setCell ⟨b,i,none⟩ u) b t (cs.setIfInBounds i u):=by
 obtain⟨hlt,hk⟩:=aGs.1 h
 show (W.heap.modify b _)[b]?=_
 rw[Array.getElem?_eq_getElem (by rw[Array.size_modify];exact hlt),Array.getElem_modify_self,hk]
 rfl
theorem aL {x y:Value}(h:aB W b t #[x,y]):W.cell? ⟨b,0,none⟩=some x/\W.cell? ⟨b,1,none⟩=some y/\W.frozen? ⟨b,0,none⟩=false/\W.frozen? ⟨b,1,none⟩=false :=
 ⟨h.cell 0 rfl,h.cell 1 rfl,h.frozen 0,h.frozen 1⟩
theorem aS {w w2:World}{p q:Value}(h:aB w2 b t #[p,q])(hB:Below w.heap.size w w2)(hb:w.heap.size<=b)(x y:Int) :
  ((w2.setCell ⟨b,0,none⟩ (.i x)).setCell ⟨b,1,none⟩ (.i y)).cell? ⟨b,0,none⟩=some (.i x)/\((w2.setCell ⟨b,0,none⟩ (.i x)).setCell ⟨b,1,none⟩ (.i y)).cell? ⟨b,1,none⟩=some (.i y) /\
  Below w.heap.size w ((w2.setCell ⟨b,0,none⟩ (.i x)).setCell ⟨b,1,none⟩ (.i y)):=by
 have h3:=(h.set 0 (.i x)).set 1 (.i y)
 exact⟨h3.cell 0 rfl,h3.cell 1 rfl,(hB.setCell (p:=⟨b,0,none⟩) hb _).setCell (p:=⟨b,1,none⟩) hb _⟩
theorem aF0 {a b c d:Int}(h:a=b)(h':c=d):Ending.returned (.agg #[.i a,.i c])=.returned (.agg #[.i b,.i d]):=by rw[h,h']
def nT (x y:Int):Bool:=decide (x<=y)&&(wd x&&wd y)
theorem bF {x y:Int}:nT x y=true↔x<=y/\-2147483648<=x/\x<=2147483647/\-2147483648<=y/\y<=2147483647:=by
 simp[nT,bY,and_assoc]
def hasB (x y z:Int):Bool:=decide (x<=z)&&decide (z<=y)
theorem aE1 {x y z:Int}:hasB x y z=true↔x<=z/\z<=y:=by simp[hasB]
theorem aB1 (x y:Int)(w:World) :
  Calls Tryz.prog 267 #[.agg #[.i x,.i y]] w fun e w'=>e=.returned (.bool (nT x y))/\Below w.heap.size w w':=by
 have HB:=aA (aD w (.cells #[.i x,.i y] 165))
 by_cases h1:x<=y
 ·have d1:decide (x<=y)=true:=by simp[h1]
  cases h2:wd x
  ·go_enter Tryz.func267,Tryz.ntmps267
   go_wp2_with (go_at_call 202;refine(eQ _ _).mono ?_;rintro e w' ⟨rfl,rfl⟩)
   go_ret
   exact⟨aV (by simp[nT,h1,h2]),HB.o⟩
  ·go_enter Tryz.func267,Tryz.ntmps267
   go_wp2_with (go_at_call 202;refine(eQ _ _).mono ?_;rintro e w' ⟨rfl,rfl⟩)
   go_ret
   exact⟨aV (by simp[nT,h1,h2]),HB.o⟩
 ·have d1:decide (x<=y)=false:=by simp[h1]
  go_enter Tryz.func267,Tryz.ntmps267
  go_wp2_with (go_at_call 202;refine(eQ _ _).mono ?_;rintro e w' ⟨rfl,rfl⟩)
  go_ret
  exact⟨aV (by simp[nT,show ¬x<=y by omega]),HB.o⟩
theorem aI0 (x y z:Int)(w:World) :
  Calls Tryz.prog 340 #[.agg #[.i x,.i y],.i z] w fun e w'=>e=.returned (.bool (hasB x y z))/\Below w.heap.size w w':=by
 have HB:=aA (aD w (.cells #[.i x,.i y] 165))
 by_cases h1:x<=z
 ·have d1:decide (x<=z)=true:=by simp[h1]
  go_enter Tryz.func340,Tryz.ntmps340
  go_wp2
  go_ret
  exact⟨aV (by simp[hasB,h1]),HB.o⟩
 ·have d1:decide (x<=z)=false:=by simp[h1]
  go_enter Tryz.func340,Tryz.ntmps340
  go_wp2
  go_ret
  exact⟨aV (by simp[hasB,show ¬x<=z by omega]),HB.o⟩
theorem dS (n:Int)(w:World) :
  Calls Tryz.prog 312 #[.i n] w fun e w'=>e=.returned (.agg #[.i n,.i n])/\Below w.heap.size w w':=by
 go_enter Tryz.func312,Tryz.ntmps312
 go_wp2
 exact bPr (v:=.agg #[.i n,.i n]) (by simp[results,Tryz.results312,go_sem]) rfl ⟨rfl,aD _ _⟩
theorem wM (w:World)(o1 o2:Obj)(x y:Int):Below w.heap.size w (((w.alloc o1).alloc o2).alloc (.cells #[.i x,.i y] 165)) :=
 (((Below.refl _ _).alloc (nLr _) _).alloc (by simp) _).alloc (by simp;omega) _
theorem zF (a b c d:Int)(w:World) :
  Calls Tryz.prog 342 #[.agg #[.i a,.i b],.agg #[.i c,.i d]] w fun e w'=>e=.returned (.agg #[.i (min a c),.i (max b d)])/\Below w.heap.size w w':=by
 go_enter Tryz.func342,Tryz.ntmps342
 go_wp2
 all_goals exact bPr (v:=.agg #[.i (min a c),.i (max b d)]) (by simp[results,Tryz.results342,go_sem];omega) rfl ⟨rfl,wM _ _ _ _ _⟩
end
open Go.RowKit Go.IntWalk
abbrev nW:=Option Bool
abbrev nW.and:nW:=none
abbrev nW.or:nW:=some false
abbrev nW.xor:nW:=some true
def nW.op (o:nW):BinOp:=match o with|none=>.and|some false=>.or|some true=>.xor
def nW.bv (o:nW)(x y:BitVec 64):BitVec 64:=match o with|none=>x &&& y|some false=>x ||| y|some true=>x ^^^ y
def nW.dig (o:nW)(p q:Int):Int:=match o with|none=>p*q|some false=>p+q-p*q|some true=>(p+q) % 2
def bw (o:nW)(a b:Int):Int:=bits o.op .i64 a b
theorem gV (o:nW)(a b:Int):bw o a b=(o.bv (BitVec.ofInt 64 a) (BitVec.ofInt 64 b)).toInt:=by
 have h:bw o a b=IntKind.i64.wrap ((o.bv (BitVec.ofInt 64 a) (BitVec.ofInt 64 b)).toNat:Int):=by rcases o with _|_|_ <;> rfl
 rw[h]
 generalize o.bv (BitVec.ofInt 64 a) (BitVec.ofInt 64 b)=z
 have h1:=z.isLt
 rw[BitVec.toInt_eq_toNat_cond]
 simp[IntKind.wrap,IntKind.bits,IntKind.signed]
 split <;> omega
theorem aS7 (z:BitVec 64):z.toInt=(z.toNat % 2:Nat)+2*(z.sshiftRight 1).toInt:=by
 rw[BitVec.toInt_sshiftRight,Int.shiftRight_eq_div_pow,BitVec.toInt_eq_toNat_cond]
 split <;> omega
theorem yX (a:Int)(ha:-9223372036854775808<=a/\a<=9223372036854775807):(BitVec.ofInt 64 a).sshiftRight 1=BitVec.ofInt 64 (a / 2):=by
 apply BitVec.eq_of_toInt_eq
 rw[BitVec.toInt_sshiftRight,Int.shiftRight_eq_div_pow,BitVec.toInt_ofInt,BitVec.toInt_ofInt]
 simp only[Int.bmod]
 omega
theorem aAy (a:Int):(((BitVec.ofInt 64 a).toNat % 2:Nat):Int)=a % 2:=by
 rw[BitVec.toNat_ofInt]
 omega
theorem aSm (o:nW)(x y:BitVec 64):(((o.bv x y).toNat % 2:Nat):Int)=o.dig ((x.toNat % 2:Nat):Int) ((y.toNat % 2:Nat):Int):=by
 have hx:x.toNat % 2=0\/x.toNat % 2=1:=by omega
 have hy:y.toNat % 2=0\/y.toNat % 2=1:=by omega
 rcases o with _|_|_
 ·have h:(x.toNat &&& y.toNat) % 2=(x.toNat % 2)*(y.toNat % 2):=by
   have h1:=Nat.and_mod_two_eq_one (a:=x.toNat) (b:=y.toNat)
   rcases hx with hx|hx <;> rcases hy with hy|hy <;> rw[hx,hy] at h1 ⊢ <;> omega
  show (((x &&& y).toNat % 2:Nat):Int)=_
  rw[BitVec.toNat_and,h]
  rcases hx with hx|hx <;> rcases hy with hy|hy <;> rw[hx,hy] <;> decide
 ·have h:(x.toNat ||| y.toNat) % 2=x.toNat % 2+y.toNat % 2-(x.toNat % 2)*(y.toNat % 2):=by
   have h1:=Nat.or_mod_two_eq_one (a:=x.toNat) (b:=y.toNat)
   rcases hx with hx|hx <;> rcases hy with hy|hy <;> rw[hx,hy] at h1 ⊢ <;> omega
  show (((x ||| y).toNat % 2:Nat):Int)=_
  rw[BitVec.toNat_or,h]
  rcases hx with hx|hx <;> rcases hy with hy|hy <;> rw[hx,hy] <;> decide
 ·have h:(x.toNat ^^^ y.toNat) % 2=(x.toNat % 2+y.toNat % 2) % 2:=by
   have h1:=Nat.xor_mod_two_eq_one (a:=x.toNat) (b:=y.toNat)
   rcases hx with hx|hx <;> rcases hy with hy|hy <;> rw[hx,hy] at h1 ⊢ <;> omega
  show (((x ^^^ y).toNat % 2:Nat):Int)=_
  rw[BitVec.toNat_xor,h]
  rcases hx with hx|hx <;> rcases hy with hy|hy <;> rw[hx,hy] <;> decide
theorem aZa (o:nW)(x y:BitVec 64):(o.bv x y).sshiftRight 1=o.bv (x.sshiftRight 1) (y.sshiftRight 1):=by
 rcases o with _|_|_
 ·exact BitVec.sshiftRight_and_distrib ..
 ·exact BitVec.sshiftRight_or_distrib ..
 ·exact BitVec.sshiftRight_xor_distrib ..
theorem qQ (o:nW)(a b:Int)(ha:-9223372036854775808<=a/\a<=9223372036854775807)(hb:-9223372036854775808<=b/\b<=9223372036854775807) :
  bw o a b=o.dig (a % 2) (b % 2)+2*bw o (a / 2) (b / 2):=by
 rw[gV,gV,aS7,aZa,yX a ha,yX b hb,aSm,aAy,aAy]
theorem mK (a:Int):a % 2=0\/a % 2=1:=by omega
theorem aKj (P:Int->Int->Prop)(h0:P 0 0)(h1:P 0 (-1))(h2:P (-1) 0)(h3:P (-1) (-1))
  (hs:∀ a b:Int,(-9223372036854775808<=a/\a<=9223372036854775807)->(-9223372036854775808<=b/\b<=9223372036854775807)->P (a / 2) (b / 2)->P a b) :
  ∀ n:Nat,n<=63->∀ a b:Int,(-(2 ^ n:Nat)<=a/\a < (2 ^ n:Nat))->(-(2 ^ n:Nat)<=b/\b < (2 ^ n:Nat))->P a b:=by
 intro n
 induction n with
 | zero =>
  intro _ a b ha hb
  have ha':a=0\/a=-1:=by simp at ha;omega
  have hb':b=0\/b=-1:=by simp at hb;omega
  rcases ha' with rfl|rfl <;> rcases hb' with rfl|rfl <;> assumption
 | succ n ih =>
  intro hn a b ha hb
  have hp:2 ^ (n+1)<=2 ^ 63:=Nat.pow_le_pow_right (by decide) hn
  rw[Nat.pow_succ] at ha hb hp
  exact hs a b (by omega) (by omega) (ih (by omega) _ _ (by omega) (by omega))
theorem aIo (P:Int->Int->Prop)(h0:P 0 0)(h1:P 0 (-1))(h2:P (-1) 0)(h3:P (-1) (-1))
  (hs:∀ a b:Int,(-9223372036854775808<=a/\a<=9223372036854775807)->(-9223372036854775808<=b/\b<=9223372036854775807)->P (a / 2) (b / 2)->P a b)
  {a b:Int} (ha:-2147483648<=a/\a<=2147483647) (hb:-2147483648<=b/\b<=2147483647):P a b :=
 aKj P h0 h1 h2 h3 hs 31 (by decide) a b (by omega) (by omega)
theorem aW0 (o:nW)(a b:Int):0<=o.dig (a % 2) (b % 2)/\o.dig (a % 2) (b % 2)<=1:=by
 rcases o with _|_|_ <;> simp only[nW.dig] <;> rcases mK a with e|e <;> rcases mK b with f|f <;> rw[e,f] <;> decide
theorem aM5 (o:nW)(n:Nat)(hn:n<=63)(a b:Int)(ha:-(2 ^ n:Nat)<=a/\a < (2 ^ n:Nat))(hb:-(2 ^ n:Nat)<=b/\b < (2 ^ n:Nat)):-((2 ^ n:Nat):Int)<=bw o a b/\bw o a b < (2 ^ n:Nat):=by
 induction n generalizing a b with
 | zero =>
  have ha':a=0\/a=-1:=by simp at ha;omega
  have hb':b=0\/b=-1:=by simp at hb;omega
  rcases ha' with rfl|rfl <;> rcases hb' with rfl|rfl <;> rcases o with _|_|_ <;> decide
 | succ n ih =>
  have hp:2 ^ (n+1)<=2 ^ 63:=Nat.pow_le_pow_right (by decide) hn
  rw[Nat.pow_succ] at ha hb hp ⊢
  have h:=ih (by omega) (a / 2) (b / 2) (by omega) (by omega)
  have h2:=aW0 o a b
  rw[qQ o a b (by omega) (by omega)]
  omega
theorem aEk {a b:Int}(ha:-2147483648<=a/\a<=2147483647)(hb:0<=b/\b<=2147483647):0<=bw .and a b/\bw .and a b<=b:=by
 have h:=aIo (fun a b=>0<=b->0<=bw .and a b/\bw .and a b<=b) (fun _=>by decide) (fun _=>by omega) (fun _=>by decide) (fun _=>by omega) (by
  intro a b ha hb h e
  have h1:=h (by omega)
  show 0<=bw .and a b/\bw .and a b<=b
  rw[qQ .and a b ha hb]
  simp only[nW.dig]
  rcases mK a with f|f <;> rcases mK b with g|g <;> rw[f,g] <;> omega) ha (show -2147483648<=b/\b<=2147483647 by omega)
 exact h hb.1
theorem aKg (k:Nat):∀ x:Nat,x < 2 ^ k->k<=63->x < 2 ^ Lib.bitLen x:=by
 induction k with
 | zero =>
  intro x h _
  obtain rfl:x=0:=by simp at h;omega
  decide
 | succ k ih =>
  intro x h hk
  by_cases h0:x=0
  ·subst h0;decide
  ·have hp:2 ^ (k+1)<=2 ^ 63:=Nat.pow_le_pow_right (by decide) hk
   have h1:=ih (x / 2) (by rw[Nat.pow_succ] at h;omega) (by omega)
   rw[Lib.bitLen_half x h0 (by omega),Nat.add_comm,Nat.pow_succ]
   omega
theorem aVc:∀ n:Fin 256,(Lib.len8tab[n.val]'(Nat.lt_of_lt_of_le n.isLt (by decide +kernel))).toNat=Lib.bitLen n.val:=by decide +kernel
theorem aD0 (n:Nat)(hn:n < 256)(h:n < Lib.len8tab.size):(Lib.len8tab[n]'h).toNat=Lib.bitLen n:=aVc ⟨n,hn⟩
theorem aK0 (x:Int)(w:World)(h:0<=x/\x<=2147483647) :
  Calls Tryz.prog 394 #[.int .u64 x] w fun e w'=>e=.returned (.i (Lib.bitLen x.toNat))/\w'=w:=by
 have hs:Lib.len8tab.size=256:=by decide +kernel
 rcases(show x < 256\/(256<=x/\x < 65536)\/(65536<=x/\x < 16777216)\/16777216<=x by omega) with g|g|g|g
 ·go_enter Tryz.func394,Tryz.ntmps394
  go_wp2
  go_ret
  refine⟨aO ?_,rfl⟩
  rw[aD0 x.toNat (by omega)]
  have l:=Lib.bitLen_le x.toNat 31 (by decide) (by omega)
  unfold wrap64
  omega
 ·go_enter Tryz.func394,Tryz.ntmps394
  go_wp2
  go_ret
  refine⟨aO ?_,rfl⟩
  rw[aD0 (x / 256).toNat (by omega)]
  have l:=Lib.bitLen_le x.toNat 31 (by decide) (by omega)
  have s:=Lib.bitLen_shift8 x.toNat (by omega) (by omega)
  rw[show (x / 256).toNat=x.toNat / 256 by omega]
  unfold wrap64
  omega
 ·go_enter Tryz.func394,Tryz.ntmps394
  go_wp2
  go_ret
  refine⟨aO ?_,rfl⟩
  rw[aD0 (x / 65536).toNat (by omega)]
  have l:=Lib.bitLen_le x.toNat 31 (by decide) (by omega)
  have s:=Lib.bitLen_shift16 x.toNat (by omega) (by omega)
  rw[show (x / 65536).toNat=x.toNat / 65536 by omega]
  unfold wrap64
  omega
 ·go_enter Tryz.func394,Tryz.ntmps394
  go_wp2
  go_ret
  refine⟨aO ?_,rfl⟩
  rw[aD0 (x / 65536 / 256).toNat (by omega)]
  have l:=Lib.bitLen_le x.toNat 31 (by decide) (by omega)
  have s:=Lib.bitLen_shift24 x.toNat (by omega) (by omega)
  rw[show (x / 65536 / 256).toNat=x.toNat / 16777216 by omega]
  unfold wrap64
  omega
theorem xE (x:Int)(w:World)(h:0<=x/\x<=2147483647) :
  Calls Tryz.prog 388 #[.int .u64 x] w fun e w'=>e=.returned (.i (Lib.bitLen x.toNat))/\w'=w:=by
 go_enter Tryz.func388,Tryz.ntmps388
 go_wp2_with (go_at_call 394;refine(aK0 x _ h).mono ?_;rintro e w' ⟨rfl,rfl⟩)
 go_ret
 exact⟨rfl,rfl⟩
def wdN (x:Int):Nat:=Lib.bitLen (if x < 0 then -x-1 else x).toNat
def wdZ (x:Int):Int:=(wdN x:Nat)
theorem gU {x:Int}(h:-2147483648<=x/\x<=2147483647):wdN x<=31/\-(2 ^ wdN x:Nat)<=x/\x < (2 ^ wdN x:Nat):=by
 unfold wdN
 have h1:=Lib.bitLen_le (if x < 0 then -x-1 else x).toNat 31 (by decide) (by split <;> omega)
 have h2:=aKg 31 (if x < 0 then -x-1 else x).toNat (by split <;> omega) (by decide)
 revert h1 h2
 generalize Lib.bitLen (if x < 0 then -x-1 else x).toNat=m
 intro h1 h2
 refine⟨h1,?_⟩
 generalize 2 ^ m=P at *
 split at h2 <;> omega
theorem aM6 {a:Int}(ha:-2147483648<=a/\a<=2147483647):bw .xor (-1) a=-a-1:=by
 have h:=aIo (fun b a=>b=-1->bw .xor b a=-a-1) (fun h=>by cases h) (fun h=>by cases h) (fun _=>by decide) (fun _=>by decide) (by
  intro b a hb ha h e
  subst e
  have h1:=h (by decide)
  rw[show ((-1:Int) / 2)=-1 by decide] at h1
  show bw .xor (-1) a=-a-1
  rw[qQ .xor (-1) a (by omega) ha,show ((-1:Int) / 2)=-1 by decide,h1]
  simp only[nW.dig]
  omega) (show -2147483648<=(-1:Int)/\(-1:Int)<=2147483647 by decide) ha
 exact h rfl
theorem nU (x:Int)(w:World)(h:-2147483648<=x/\x<=2147483647) :
  Calls Tryz.prog 365 #[.i x] w fun e w'=>e=.returned (.i (wdZ x))/\w'=w:=by
 by_cases h0:x < 0
 ·have hl:=fun w=>xE (-x-1) w (by omega)
  have hx:bits BinOp.xor IntKind.i64 (-1) x=-x-1:=aM6 h
  have hk:wdZ x=Lib.bitLen (-x-1).toNat:=by simp[wdZ,wdN,h0]
  rw[hk]
  clear hk
  generalize hy:-x-1=y at *
  have hy0:0<=y/\y<=2147483647:=by omega
  clear hy
  have hu:IntKind.u64.wrap y=y:=by simp[IntKind.wrap,IntKind.bits,IntKind.signed];omega
  go_enter Tryz.func365,Tryz.ntmps365
  go_wp2_with fail
  refine(hl _).mono ?_
  rintro e w' ⟨rfl,rfl⟩
  go_wp2_with fail
  go_ret
  exact⟨rfl,rfl⟩
 ·have hl:=fun w=>xE x w (by omega)
  go_enter Tryz.func365,Tryz.ntmps365
  go_wp2_with (go_at_call 388;refine(hl _).mono ?_;rintro e w' ⟨rfl,rfl⟩)
  go_ret
  exact⟨aO (by simp[wdZ,wdN];rw[if_neg (by omega)]),rfl⟩
end Go.Proofs.Spn
