import Derived.Test.YtihbhbeaihdgnaaGreatXH
import Derived.Test.YtihbhbeaihdgnaaGreatChecked
import Derived.WalkKit
import Derived.WalkSpells
import Derived.Deep.QuietTactic
import Derived.BigQuiet
import Derived.Below
import Derived.LoopTactic
import Derived.Lib.QuietBelow
set_option maxRecDepth 100000
set_option maxHeartbeats 32000000
set_option linter.unusedVariables false
namespace Go.Proofs.Spn
open Go.RowKit Go.IntWalk
theorem aA {p:Prop}(h:p):Hid p:=h
theorem bel {w w1 w2:World}(h:Below w.heap.size w w1)(k:Below w1.heap.size w1 w2):Below w.heap.size w w2:=h.trans (k.mono h.size)
theorem aC (w:World)(o:Obj):Below w.heap.size w (w.alloc o):=(Below.refl _ _).alloc (Nat.le_refl _) _
theorem aN {k:IntKind}{a b:Int}(h:a=b):Ending.returned (.int k a)=.returned (.int k b):=by rw[h]
theorem aS {a b:Bool}(h:a=b):Ending.returned (.bool a)=.returned (.bool b):=by rw[h]
theorem vQ {a b c d:Int}(h:a=b)(h':c=d):Ending.returned (.tuple #[.int .i64 a,.int .i64 c])=.returned (.tuple #[.int .i64 b,.int .i64 d]):=by rw[h,h']
def gG (x l h:Int):Bool:=decide (l<=x)&&decide (x<=h)
theorem aLn {x l h:Int}(h1:l<=x)(h2:x<=h):gG x l h=true:=by simp[gG,h1,h2]
theorem aSr {x l h:Int}(h1:x < l\/h < x):gG x l h=false:=by simp[gG];omega
theorem aO {x l h:Int}:gG x l h=true↔l<=x/\x<=h:=by simp[gG]
theorem bG (x l h:Int)(w:World) :
  Calls Tryz.prog 119 #[.int .i64 x,.int .i64 l,.int .i64 h] w fun e w'=>e=.returned (.bool (gG x l h))/\w'=w:=by
 by_cases h1:l<=x
 ·go_enter Tryz.func119,Tryz.ntmps119
  go_wp2
  go_ret
  exact⟨aS (by simp[gG,h1]),rfl⟩
 ·rw[aSr (by omega)]
  go_enter Tryz.func119,Tryz.ntmps119
  go_wp2
  go_ret
  exact⟨rfl,rfl⟩
def wd (x:Int):Bool:=gG x (-2147483648) 2147483647
theorem dE {x:Int}:wd x=true↔-2147483648<=x/\x<=2147483647:=aO
theorem dU (x:Int)(w:World) :
  Calls Tryz.prog 130 #[.int .i64 x] w fun e w'=>e=.returned (.bool (wd x))/\w'=w:=by
 go_enter Tryz.func130,Tryz.ntmps130
 go_wp2_with (go_at_call 119;refine(bG _ _ _ _).mono ?_;rintro e w' ⟨rfl,rfl⟩)
 go_ret
 exact⟨rfl,rfl⟩
def ar (op:Int):Int:=if op=1\/op=2\/op=3 then 0 else if gG op 5 7=true\/gG op 29 33=true then 1 else if gG op 8 25=true then 2 else if gG op 26 28=true then 3 else -1
theorem bI (op:Int)(w:World) :
  Calls Tryz.prog 69 #[.int .i64 op] w fun e w'=>e=.returned (.int .i64 (ar op))/\w'=w:=by
 by_cases h1:op=1\/op=2\/op=3
 ·rcases h1 with rfl|rfl|rfl <;>
  ·go_enter Tryz.func69,Tryz.ntmps69
   go_wp2
   go_ret
   exact⟨rfl,rfl⟩
 ·have e1:(op==1)=false:=by simp;omega
  have e2:(op==2)=false:=by simp;omega
  have e3:(op==3)=false:=by simp;omega
  cases h2:gG op 5 7
  ·cases h3:gG op 29 33
   ·cases h4:gG op 8 25
    ·cases h5:gG op 26 28
     ·rw[show ar op=-1 by unfold ar;rw[if_neg h1];simp[h2,h3,h4,h5]]
      clear h1
      go_enter Tryz.func69,Tryz.ntmps69
      go_wp2_with (go_at_call 119;refine(bG _ _ _ _).mono ?_;rintro e w' ⟨rfl,rfl⟩)
      go_ret
      exact⟨rfl,rfl⟩
     ·rw[show ar op=3 by unfold ar;rw[if_neg h1];simp[h2,h3,h4,h5]]
      clear h1
      go_enter Tryz.func69,Tryz.ntmps69
      go_wp2_with (go_at_call 119;refine(bG _ _ _ _).mono ?_;rintro e w' ⟨rfl,rfl⟩)
      go_ret
      exact⟨rfl,rfl⟩
    ·rw[show ar op=2 by unfold ar;rw[if_neg h1];simp[h2,h3,h4]]
     clear h1
     go_enter Tryz.func69,Tryz.ntmps69
     go_wp2_with (go_at_call 119;refine(bG _ _ _ _).mono ?_;rintro e w' ⟨rfl,rfl⟩)
     go_ret
     exact⟨rfl,rfl⟩
   ·rw[show ar op=1 by unfold ar;rw[if_neg h1];simp[h2,h3]]
    clear h1
    go_enter Tryz.func69,Tryz.ntmps69
    go_wp2_with (go_at_call 119;refine(bG _ _ _ _).mono ?_;rintro e w' ⟨rfl,rfl⟩)
    go_ret
    exact⟨rfl,rfl⟩
  ·rw[show ar op=1 by unfold ar;rw[if_neg h1];simp[h2]]
   clear h1
   go_enter Tryz.func69,Tryz.ntmps69
   go_wp2_with (go_at_call 119;refine(bG _ _ _ _).mono ?_;rintro e w' ⟨rfl,rfl⟩)
   go_ret
   exact⟨rfl,rfl⟩
def cons (op k s:Int):Bool :=
 if op=29\/op=30 then gG k 0 31 else if op=31 then gG k 0 2147483647 else if op=32 then wd k else if op=33 then gG k 1 4611686018427387904&&gG s 0 62 else true
theorem gF (op k s:Int)(w:World) :
  Calls Tryz.prog 163 #[.int .i64 op,.int .i64 k,.int .i64 s] w fun e w'=>e=.returned (.bool (cons op k s))/\w'=w:=by
 by_cases h1:op=29\/op=30\/op=31\/op=32
 ·rcases h1 with rfl|rfl|rfl|rfl <;>
  ·go_enter Tryz.func163,Tryz.ntmps163
   go_wp2_with (first|(go_at_call 119;refine(bG _ _ _ _).mono ?_;rintro e w' ⟨rfl,rfl⟩)|(go_at_call 130;refine(dU _ _).mono ?_;rintro e w' ⟨rfl,rfl⟩))
   go_ret
   exact⟨rfl,rfl⟩
 ·by_cases h2:op=33
  ·subst h2
   cases h3:gG k 1 4611686018427387904
   ·go_enter Tryz.func163,Tryz.ntmps163
    go_wp2_with (go_at_call 119;refine(bG _ _ _ _).mono ?_;rintro e w' ⟨rfl,rfl⟩)
    go_ret
    exact⟨aS (by simp[cons,h3]),rfl⟩
   ·go_enter Tryz.func163,Tryz.ntmps163
    go_wp2_with (go_at_call 119;refine(bG _ _ _ _).mono ?_;rintro e w' ⟨rfl,rfl⟩)
    go_ret
    exact⟨aS (by simp[cons,h3]),rfl⟩
  ·have e1:(op==29)=false:=by simp;omega
   have e2:(op==30)=false:=by simp;omega
   have e3:(op==31)=false:=by simp;omega
   have e4:(op==32)=false:=by simp;omega
   have e5:(op==33)=false:=by simp;omega
   have hc:cons op k s=true:=by unfold cons;rw[if_neg (by omega),if_neg (by omega),if_neg (by omega),if_neg (by omega)]
   rw[hc]
   clear h1 h2 hc
   go_enter Tryz.func163,Tryz.ntmps163
   go_wp2
   go_ret
   exact⟨rfl,rfl⟩
def tr (b:Bool):Int:=if b then 1 else 0
theorem aJw (b:Bool)(w:World) :
  Calls Tryz.prog 230 #[.bool b] w fun e w'=>e=.returned (.int .i64 (tr b))/\w'=w:=by
 cases b <;>
 ·go_enter Tryz.func230,Tryz.ntmps230
  go_wp2
  go_ret
  exact⟨rfl,rfl⟩
theorem xU (n m:Nat)(h:n<=m):(1:Int)<=2 ^ n/\(2:Int) ^ n<=2 ^ m:=by
 have h2:2 ^ n<=2 ^ m:=Nat.pow_le_pow_right (by decide) h
 have h3:0 < 2 ^ n:=Nat.pow_pos (by decide)
 have e:((2:Int) ^ n)=((2 ^ n:Nat):Int):=by simp
 have e':((2:Int) ^ m)=((2 ^ m:Nat):Int):=by simp
 rw[e,e']
 omega
theorem aUv {a b:Int}{A B:Int}(ha:-A<=a/\a<=A)(hb:-B<=b/\b<=B):-(A*B)<=a*b/\a*b<=A*B:=by
 have h1:0<=(A-a)*(B+b):=Int.mul_nonneg (by omega) (by omega)
 have h2:0<=(A+a)*(B-b):=Int.mul_nonneg (by omega) (by omega)
 have h3:0<=(A-a)*(B-b):=Int.mul_nonneg (by omega) (by omega)
 have h4:0<=(A+a)*(B+b):=Int.mul_nonneg (by omega) (by omega)
 simp only[Int.sub_mul,Int.add_mul,Int.mul_sub,Int.mul_add] at h1 h2 h3 h4
 omega
theorem aMc {a b:Int}(ha:-2147483648<=a/\a<=2147483647)(hb:-2147483648<=b/\b<=2147483648):-4611686018427387904<=a*b/\a*b<=4611686018427387904:=by
 have:=aUv (A:=2147483648) (B:=2147483648) (a:=a) (b:=b) (by omega) (by omega)
 omega
theorem aR0 (a b:Int)(ha:-2147483648<=a/\a<=2147483647):-2147483648<=a.tdiv b/\a.tdiv b<=2147483648:=by
 have h:=Int.natAbs_tdiv_le_natAbs a b
 omega
theorem uP {B:Nat}{a w:World}(h:Below B a w)(n:Nat):Below B a (w.drewN n):=h.trans ⟨rfl,rfl,rfl,Nat.le_refl _,fun _ _=>rfl⟩
theorem w64 {x:Int}(h:-9223372036854775808<=x/\x<=9223372036854775807):wrap64 x=x:=wrap64_in _ h
def ex (op k s a b c:Int):Int × Int :=
 if op=5 then(-a,0) else
 if op=6 then(max a (-a),0) else
 if op=7 then(tr (decide (0 < a))-tr (decide (a < 0)),0) else
 if op=8 then(a+b,0) else
 if op=9 then(a-b,0) else
 if op=10 then(a*b,0) else
 if op=11 then(if b=0 then(0,12) else(a.tdiv b,0)) else
 if op=12 then(if b=0 then(0,12) else(a.tmod b,0)) else
 if op=13 then(if gG b 0 31=true then(a*2 ^ b.toNat,0) else(0,13)) else
 if op=14 then(if gG b 0 31=true then(a / 2 ^ b.toNat,0) else(0,13)) else
 if op=15 then(bits .and .i64 a b,0) else
 if op=16 then(bits .or .i64 a b,0) else
 if op=17 then(bits .xor .i64 a b,0) else
 if op=18 then(tr (decide (a < b)),0) else
 if op=19 then(tr (decide (a<=b)),0) else
 if op=20 then(tr (decide (b < a)),0) else
 if op=21 then(tr (decide (b<=a)),0) else
 if op=22 then(tr (a==b),0) else
 if op=23 then(tr (a != b),0) else
 if op=24 then(min a b,0) else
 if op=25 then(max a b,0) else
 if op=26 then(min c (max a b),0) else
 if op=27 then(max (min a b) (min (max a b) c),0) else
 if op=28 then(if a=0 then c else b,0) else
 if op=29 then(a*2 ^ k.toNat,0) else
 if op=30 then(a / 2 ^ k.toNat,0) else
 if op=31 then(bits .and .i64 a k,0) else
 if op=32 then(a*k,0) else
 if 4611686018427387904 < max a (-a)*k then(0,13) else(a*k / 2 ^ s.toNat,0)
theorem aEr (a:Int)(w:World)(ha:-2147483648<=a/\a<=2147483647) :
  Calls Tryz.prog 196 #[.int .i64 a] w fun e w'=>e=.returned (.int .i64 (max a (-a)))/\w'=w:=by
 go_enter Tryz.func196,Tryz.ntmps196
 go_wp2
 all_goals go_ret
 all_goals exact⟨aN (by omega),rfl⟩
theorem aC8 (a b:Int)(w:World) :
  Calls Tryz.prog 197 #[.int .i64 a,.int .i64 b] w fun e w'=>e=.returned (.int .i64 (tr (decide (b < a))-tr (decide (a < b))))/\w'=w:=by
 go_enter Tryz.func197,Tryz.ntmps197
 go_wp2
 all_goals go_ret
 all_goals refine⟨aN ?_,rfl⟩
 all_goals simp[tr]
 all_goals omega
theorem aDb (op a b:Int)(w:World)(ho:op=11\/op=12)(ha:-2147483648<=a/\a<=2147483647) :
  Calls Tryz.prog 199 #[.int .i64 op,.int .i64 a,.int .i64 b] w fun e w'=>e=.returned (.tuple #[.int .i64 (ex op 0 0 a b 0).1,.int .i64 (ex op 0 0 a b 0).2])/\w'=w:=by
 by_cases h0:b=0
 ·subst h0
  rcases ho with rfl|rfl <;>
  ·go_enter Tryz.func199,Tryz.ntmps199
   go_wp2
   go_ret2
   exact⟨rfl,rfl⟩
 ·have h1:(b==0)=false:=by simp[h0]
  rcases ho with rfl|rfl
  ·have h2:ex 11 0 0 a b 0=(a.tdiv b,0):=by simp[ex,h0]
   rw[h2]
   clear h2
   go_enter Tryz.func199,Tryz.ntmps199
   go_wp2
   go_ret2
   have:=aR0 a b ha
   refine⟨vQ (w64 ?_) rfl,rfl⟩;omega
  ·have h2:ex 12 0 0 a b 0=(a.tmod b,0):=by simp[ex,h0]
   rw[h2]
   clear h2
   go_enter Tryz.func199,Tryz.ntmps199
   go_wp2
   go_ret2
   exact⟨rfl,rfl⟩
theorem aI9 (op a b:Int)(w:World)(ho:op=13\/op=14)(ha:-2147483648<=a/\a<=2147483647) :
  Calls Tryz.prog 200 #[.int .i64 op,.int .i64 a,.int .i64 b] w fun e w'=>e=.returned (.tuple #[.int .i64 (ex op 0 0 a b 0).1,.int .i64 (ex op 0 0 a b 0).2])/\w'=w:=by
 cases h0:gG b 0 31
 ·have e1:ex 13 0 0 a b 0=(0,13):=by simp[ex,h0]
  have e2:ex 14 0 0 a b 0=(0,13):=by simp[ex,h0]
  rcases ho with rfl|rfl
  ·rw[e1]
   clear e1 e2
   go_enter Tryz.func200,Tryz.ntmps200
   go_wp2_with (go_at_call 119;refine(bG _ _ _ _).mono ?_;rintro e w' ⟨rfl,rfl⟩)
   go_ret2
   exact⟨rfl,rfl⟩
  ·rw[e2]
   clear e1 e2
   go_enter Tryz.func200,Tryz.ntmps200
   go_wp2_with (go_at_call 119;refine(bG _ _ _ _).mono ?_;rintro e w' ⟨rfl,rfl⟩)
   go_ret2
   exact⟨rfl,rfl⟩
 ·have e1:ex 13 0 0 a b 0=(a*2 ^ b.toNat,0):=by simp[ex,h0]
  have e2:ex 14 0 0 a b 0=(a / 2 ^ b.toNat,0):=by simp[ex,h0]
  obtain⟨hb0,hb1⟩:=aO.1 h0
  rcases ho with rfl|rfl
  ·rw[e1]
   clear e1 e2
   go_enter Tryz.func200,Tryz.ntmps200
   go_wp2_with (go_at_call 119;refine(bG _ _ _ _).mono ?_;rintro e w' ⟨rfl,rfl⟩)
   go_ret2
   have h1:=xU b.toNat 31 (by omega)
   have h2:=aMc (b:=2 ^ b.toNat) ha (by omega)
   refine⟨vQ (w64 ?_) rfl,rfl⟩;omega
  ·rw[e2]
   clear e1 e2
   go_enter Tryz.func200,Tryz.ntmps200
   go_wp2_with (go_at_call 119;refine(bG _ _ _ _).mono ?_;rintro e w' ⟨rfl,rfl⟩)
   go_ret2
   exact⟨rfl,rfl⟩
theorem aBb (op a b:Int)(w:World)(ho:gG op 18 23=true) :
  Calls Tryz.prog 201 #[.int .i64 op,.int .i64 a,.int .i64 b] w fun e w'=>e=.returned (.int .i64 (ex op 0 0 a b 0).1)/\w'=w:=by
 have h:=aO.1 ho
 clear ho
 rcases(show op=18\/op=19\/op=20\/op=21\/op=22\/op=23 by omega) with rfl|rfl|rfl|rfl|rfl|rfl <;>
 ·go_enter Tryz.func201,Tryz.ntmps201
  go_wp2_with (go_at_call 230;refine(aJw _ _).mono ?_;rintro e w' ⟨rfl,rfl⟩)
  go_ret
  exact⟨rfl,rfl⟩
theorem aD2 (op k s a b c:Int)(w:World)(ho:gG op 26 28=true) :
  Calls Tryz.prog 169 #[.int .i64 op,.int .i64 a,.int .i64 b,.int .i64 c] w fun e w'=>e=.returned (.int .i64 (ex op k s a b c).1)/\w'=w:=by
 have h:=aO.1 ho
 clear ho
 rcases(show op=26\/op=27\/op=28 by omega) with rfl|rfl|rfl
 ·clear h
  rw[show ex 26 k s a b c=(min c (max a b),0) from rfl]
  go_enter Tryz.func169,Tryz.ntmps169
  go_wp2
  all_goals go_ret
  all_goals exact⟨aN (by omega),rfl⟩
 ·clear h
  rw[show ex 27 k s a b c=(max (min a b) (min (max a b) c),0) from rfl]
  go_enter Tryz.func169,Tryz.ntmps169
  go_wp2
  all_goals go_ret
  all_goals exact⟨aN (by omega),rfl⟩
 ·clear h
  by_cases h0:a=0
  ·subst h0
   go_enter Tryz.func169,Tryz.ntmps169
   go_wp2
   go_ret
   exact⟨rfl,rfl⟩
  ·have h1:(a != 0)=true:=by simp[h0]
   rw[show ex 28 k s a b c=(b,0) by simp[ex,h0]]
   go_enter Tryz.func169,Tryz.ntmps169
   go_wp2
   go_ret
   exact⟨rfl,rfl⟩
theorem aTg (op k s a b c:Int)(ho:gG op 8 25=true):ex op k s a b c=ex op 0 0 a b 0:=by
 have h:=aO.1 ho
 rcases(show op=8\/op=9\/op=10\/op=11\/op=12\/op=13\/op=14\/op=15\/op=16\/op=17\/op=18\/op=19\/op=20\/op=21\/op=22\/op=23\/op=24\/op=25 by omega) with
  rfl|rfl|rfl|rfl|rfl|rfl|rfl|rfl|rfl|rfl|rfl|rfl|rfl|rfl|rfl|rfl|rfl|rfl <;> rfl
theorem mK (op a b:Int)(w:World)(ho:gG op 8 25=true)(ha:-2147483648<=a/\a<=2147483647)(hb:-2147483648<=b/\b<=2147483647) :
  Calls Tryz.prog 168 #[.int .i64 op,.int .i64 a,.int .i64 b] w fun e w'=>e=.returned (.tuple #[.int .i64 (ex op 0 0 a b 0).1,.int .i64 (ex op 0 0 a b 0).2])/\w'=w:=by
 have h:=aO.1 ho
 clear ho
 have hm:=aMc (b:=b) ha (by omega)
 rcases(show op=8\/op=9\/op=10\/op=15\/op=16\/op=17\/(op=11\/op=12)\/(op=13\/op=14)\/(op=18\/op=19\/op=20\/op=21\/op=22\/op=23)\/op=24\/op=25 by omega) with
  rfl|rfl|rfl|rfl|rfl|rfl|h1|h1|h1|rfl|rfl
 ·clear h
  go_enter Tryz.func168,Tryz.ntmps168
  go_wp2
  go_ret2
  exact⟨rfl,rfl⟩
 ·clear h
  go_enter Tryz.func168,Tryz.ntmps168
  go_wp2
  go_ret2
  exact⟨rfl,rfl⟩
 ·clear h
  go_enter Tryz.func168,Tryz.ntmps168
  go_wp2
  go_ret2
  exact⟨rfl,rfl⟩
 ·clear h
  go_enter Tryz.func168,Tryz.ntmps168
  go_wp2
  go_ret2
  exact⟨rfl,rfl⟩
 ·clear h
  go_enter Tryz.func168,Tryz.ntmps168
  go_wp2
  go_ret2
  exact⟨rfl,rfl⟩
 ·clear h
  go_enter Tryz.func168,Tryz.ntmps168
  go_wp2
  go_ret2
  exact⟨rfl,rfl⟩
 ·have hc:=fun w=>aDb op a b w h1 ha
  rcases h1 with rfl|rfl <;>
  ·clear h
   go_enter Tryz.func168,Tryz.ntmps168
   go_wp2_with (go_at_call 199;refine(hc _).mono ?_;rintro e w' ⟨rfl,rfl⟩)
   go_ret2
   exact⟨rfl,rfl⟩
 ·have hc:=fun w=>aI9 op a b w h1 ha
  rcases h1 with rfl|rfl <;>
  ·clear h
   go_enter Tryz.func168,Tryz.ntmps168
   go_wp2_with (go_at_call 200;refine(hc _).mono ?_;rintro e w' ⟨rfl,rfl⟩)
   go_ret2
   exact⟨rfl,rfl⟩
 ·have hc:=fun w=>aBb op a b w (aLn (by omega) (by omega))
  rcases h1 with rfl|rfl|rfl|rfl|rfl|rfl <;>
  ·clear h
   go_enter Tryz.func168,Tryz.ntmps168
   go_wp2_with (go_at_call 201;refine(hc _).mono ?_;rintro e w' ⟨rfl,rfl⟩)
   go_ret2
   exact⟨rfl,rfl⟩
 ·clear h
  rw[show ex 24 0 0 a b 0=(min a b,0) from rfl]
  go_enter Tryz.func168,Tryz.ntmps168
  go_wp2
  all_goals go_ret2
  all_goals exact⟨vQ (by omega) rfl,rfl⟩
 ·clear h
  rw[show ex 25 0 0 a b 0=(max a b,0) from rfl]
  go_enter Tryz.func168,Tryz.ntmps168
  go_wp2
  all_goals go_ret2
  all_goals exact⟨vQ (by omega) rfl,rfl⟩
theorem aDa {m k:Int}(hk:1<=k):4611686018427387904 / k < m↔4611686018427387904 < m*k:=by
 constructor
 ·intro h
  have h1:=Int.lt_mul_of_ediv_lt (show 0 < k by omega) h
  exact h1
 ·intro h
  exact Int.ediv_lt_of_lt_mul (by omega) h
theorem aGg (k s a b c:Int)(w:World)(hk:1<=k/\k<=4611686018427387904)(hs:0<=s/\s<=62)(ha:-2147483648<=a/\a<=2147483647) :
  Calls Tryz.prog 198 #[.int .i64 a,.int .i64 k,.int .i64 s] w fun e w'=>e=.returned (.tuple #[.int .i64 (ex 33 k s a b c).1,.int .i64 (ex 33 k s a b c).2])/\Below w.heap.size w w':=by
 have hk0:k≠0:=by omega
 have hsz:=fun w=>aEr a w ha
 by_cases h0:4611686018427387904 < max a (-a)*k
 ·rw[show ex 33 k s a b c=(0,13) by simp[ex,h0]]
  have h1:=(aDa (m:=max a (-a)) hk.1).2 h0
  clear h0
  generalize hM:max a (-a)=M at *
  clear hM
  go_enter Tryz.func198,Tryz.ntmps198
  go_wp2
  go_quiet ((go_at_call 196;exact Calls.quiet_of_same (hsz _)))
  go_wp2
  go_ret2
  exact⟨rfl,uP (Below.refl _ _) _⟩
 ·rw[show ex 33 k s a b c=(a*k / 2 ^ s.toNat,0) by simp[ex,h0]]
  have h1:¬4611686018427387904 / k < max a (-a):=fun h=>h0 ((aDa hk.1).1 h)
  have h2:-4611686018427387904<=a*k/\a*k<=4611686018427387904:=by
   rcases Int.le_total 0 a with h|h
   ·rw[show max a (-a)=a by omega] at h0
    have:0<=a*k:=Int.mul_nonneg h (by omega)
    omega
   ·rw[show max a (-a)=-a by omega,Int.neg_mul] at h0
    have:0<=-a*k:=Int.mul_nonneg (by omega) (by omega)
    rw[Int.neg_mul] at this
    omega
  clear h0
  generalize hM:max a (-a)=M at *
  clear hM
  go_enter Tryz.func198,Tryz.ntmps198
  go_wp2
  go_quiet ((go_at_call 196;exact Calls.quiet_of_same (hsz _)))
  go_wp2
  go_ret2
  exact⟨rfl,uP (Below.refl _ _) _⟩
end Go.Proofs.Spn
namespace Go.Proofs.Spn
open Go.RowKit Go.IntWalk
variable {op:Int} {w:World} {a:Option Addr} {cap n:Nat} {xs:List Int}
theorem uA (h:ar op=1):op=5\/op=6\/op=7\/op=29\/op=30\/op=31\/op=32\/op=33:=by
 unfold ar at h
 split at h
 ·omega
 ·split at h
  ·rename_i h2
   rw[aO,aO] at h2
   omega
  ·split at h
   ·omega
   ·split at h <;> omega
theorem qB (h:ar op=2):gG op 8 25=true:=by
 unfold ar at h
 split at h
 ·omega
 ·split at h
  ·omega
  ·split at h
   ·assumption
   ·split at h <;> omega
theorem lM (h:ar op=3):gG op 26 28=true:=by
 unfold ar at h
 split at h
 ·omega
 ·split at h
  ·omega
  ·split at h
   ·omega
   ·split at h
    ·assumption
    ·omega
theorem vZ (op:Int):ar op<=3:=by
 unfold ar
 split
 ·omega
 ·split
  ·omega
  ·split
   ·omega
   ·split <;> omega
theorem aJb (op k s a b c:Int)(w:World)(ho:ar op=1)(hc:cons op k s=true)(ha:-2147483648<=a/\a<=2147483647) :
  Calls Tryz.prog 167 #[.int .i64 op,.int .i64 k,.int .i64 s,.int .i64 a] w fun e w'=>e=.returned (.tuple #[.int .i64 (ex op k s a b c).1,.int .i64 (ex op k s a b c).2])/\Below w.heap.size w w':=by
 rcases uA ho with rfl|rfl|rfl|rfl|rfl|rfl|rfl|rfl <;> clear ho
 ·clear hc
  go_enter Tryz.func167,Tryz.ntmps167
  go_wp2
  go_ret2
  exact⟨rfl,Below.refl _ _⟩
 ·clear hc
  go_enter Tryz.func167,Tryz.ntmps167
  go_wp2_with (go_at_call 196;refine(aEr _ _ ha).mono ?_;rintro e w' ⟨rfl,rfl⟩)
  go_ret2
  exact⟨rfl,Below.refl _ _⟩
 ·clear hc
  go_enter Tryz.func167,Tryz.ntmps167
  go_wp2_with (go_at_call 197;refine(aC8 _ _ _).mono ?_;rintro e w' ⟨rfl,rfl⟩)
  go_ret2
  exact⟨rfl,Below.refl _ _⟩
 ·have hk:gG k 0 31=true:=hc
  have hk':=aO.1 hk
  have h2:=fun w=>mK 13 a k w rfl ha (by omega)
  rw[show ex 13 0 0 a k 0=ex 29 k s a b c by simp[ex,hk]] at h2
  clear hc hk
  go_enter Tryz.func167,Tryz.ntmps167
  go_wp2_with (go_at_call 168;refine(h2 _).mono ?_;rintro e w' ⟨rfl,rfl⟩)
  go_ret2
  exact⟨rfl,Below.refl _ _⟩
 ·have hk:gG k 0 31=true:=hc
  have hk':=aO.1 hk
  have h2:=fun w=>mK 14 a k w rfl ha (by omega)
  rw[show ex 14 0 0 a k 0=ex 30 k s a b c by simp[ex,hk]] at h2
  clear hc hk
  go_enter Tryz.func167,Tryz.ntmps167
  go_wp2_with (go_at_call 168;refine(h2 _).mono ?_;rintro e w' ⟨rfl,rfl⟩)
  go_ret2
  exact⟨rfl,Below.refl _ _⟩
 ·have hk:gG k 0 2147483647=true:=hc
  have hk':=aO.1 hk
  have h2:=fun w=>mK 15 a k w rfl ha (by omega)
  rw[show ex 15 0 0 a k 0=ex 31 k s a b c from rfl] at h2
  clear hc hk
  go_enter Tryz.func167,Tryz.ntmps167
  go_wp2_with (go_at_call 168;refine(h2 _).mono ?_;rintro e w' ⟨rfl,rfl⟩)
  go_ret2
  exact⟨rfl,Below.refl _ _⟩
 ·have hk:wd k=true:=hc
  have hk':=dE.1 hk
  have h2:=fun w=>mK 10 a k w rfl ha (by omega)
  rw[show ex 10 0 0 a k 0=ex 32 k s a b c from rfl] at h2
  clear hc hk
  go_enter Tryz.func167,Tryz.ntmps167
  go_wp2_with (go_at_call 168;refine(h2 _).mono ?_;rintro e w' ⟨rfl,rfl⟩)
  go_ret2
  exact⟨rfl,Below.refl _ _⟩
 ·have hk:(gG k 1 4611686018427387904&&gG s 0 62)=true:=hc
  rw[Bool.and_eq_true,aO,aO] at hk
  have h2:=fun w=>aGg k s a b c w hk.1 hk.2 ha
  clear hc hk
  go_enter Tryz.func167,Tryz.ntmps167
  go_wp2_with (go_at_call 198;refine(h2 _).mono ?_;rintro e w' ⟨rfl,hb⟩)
  go_ret2
  exact⟨rfl,hb⟩
structure Ints (w:World)(a:Option Addr)(n cap:Nat)(xs:List Int):Prop where
 len:xs.length=n
 le:n<=cap
 max:cap<=maxLen
 nil:a=none->cap=0
 cell:n=0\/∃ b off,a=some ⟨b,off,none⟩/\∀ i,i < n->w.cell? ⟨b,off+i,none⟩=some (.int .i64 (xs.getD i 0))
theorem Ints.at (h:Ints w a n cap xs)(hn:n≠0) :
  ∃ b off,a=some ⟨b,off,none⟩/\b < w.heap.size/\∀ i,i < n->w.cell? ⟨b,off+i,none⟩=some (.int .i64 (xs.getD i 0)):=by
 rcases h.cell with h0|⟨b,off,ha,hc⟩
 ·exact absurd h0 hn
 ·exact⟨b,off,ha,World.block_lt_of_cell? w _ (hc 0 (by omega)),hc⟩
theorem Ints.of_cells {w':World}(h:Ints w a n cap xs)
  (hc:∀ b off,a=some ⟨b,off,none⟩->n≠0->∀ i,i < n->w'.cell? ⟨b,off+i,none⟩=w.cell? ⟨b,off+i,none⟩):Ints w' a n cap xs:=by
 refine⟨h.len,h.le,h.max,h.nil,?_⟩
 by_cases hn:n=0
 ·exact .inl hn
 ·obtain⟨b,off,ha,_,hcell⟩:=h.at hn
  exact .inr ⟨b,off,ha,fun i hi=>(hc b off ha hn i hi).trans (hcell i hi)⟩
theorem Ints.later {w':World}(h:Ints w a n cap xs)(hb:Below w.heap.size w w'):Ints w' a n cap xs:=by
 refine h.of_cells fun b off ha hn i hi=>?_
 obtain⟨b',off',ha',hlt,_⟩:=h.at hn
 rw[ha] at ha'
 cases ha'
 exact hb.cell (p:=⟨b,off+i,none⟩) hlt
def iC (op k s:Int)(xs:List Int):Bool:=decide (1<=ar op)&&decide ((xs.length:Int)=ar op)&&cons op k s&&xs.all wd
theorem yX {k:Nat}(hk:k < xs.length)(h:(xs.take k).all wd=true)(e:wd (xs.getD k 0)=true):(xs.take (k+1)).all wd=true:=by
 rw[List.take_succ_eq_append_getElem hk,List.all_append,h]
 simp[List.getD,hk] at e
 simp[e]
theorem pK (op k s:Int)(a:Option Addr)(n cap:Nat)(xs:List Int)(w:World)(h:Ints w a n cap xs) :
  Calls Tryz.prog 128 #[.int .i64 op,.int .i64 k,.int .i64 s,.slice a n cap] w fun e w'=>e=.returned (.bool (iC op k s xs))/\w'=w:=by
 have hl:=h.len
 have hm1:n<=9223372036854775807:=by have:=h.le;have:=h.max;unfold maxLen at this;omega
 by_cases h1:ar op < 1
 ·rw[show iC op k s xs=false by simp[iC];omega]
  clear hl
  go_enter Tryz.func128,Tryz.ntmps128
  go_wp2_with (go_at_call 69;refine(bI _ _).mono ?_;rintro e w' ⟨rfl,rfl⟩)
  go_ret
  exact⟨rfl,rfl⟩
 by_cases h2:(n:Int)=ar op
 ·have h2':((n:Int) != ar op)=false:=by simp[h2]
  cases hc:cons op k s
  ·rw[show iC op k s xs=false by simp[iC,hc]]
   clear hl h2
   go_enter Tryz.func128,Tryz.ntmps128
   go_wp2_with (first|(go_at_call 69;refine(bI _ _).mono ?_;rintro e w' ⟨rfl,rfl⟩)|(go_at_call 163;refine(gF _ _ _ _).mono ?_;rintro e w' ⟨rfl,rfl⟩))
   go_ret
   exact⟨rfl,rfl⟩
  ·rw[show iC op k s xs=xs.all wd by simp[iC,hc,hl,h2];omega]
   have HL:=aA hl
   clear hl h2
   go_enter Tryz.func128,Tryz.ntmps128
   go_wp2_with (first|(go_at_call 69;refine(bI _ _).mono ?_;rintro e w' ⟨rfl,rfl⟩)|(go_at_call 163;refine(gF _ _ _ _).mono ?_;rintro e w' ⟨rfl,rfl⟩))
   go_loop [31] (fun i=>∃ j:Nat,j<=n/\i=.int .i64 j/\(xs.take j).all wd=true) (fun i=>n-(intOf i).toNat)
   case atStart=>exact⟨0,Nat.zero_le _,rfl,rfl⟩
   case round =>
    obtain⟨j,hj,rfl,hA⟩:=hrel
    have HA:=aA hA
    clear hA
    by_cases hlt:j < n
    ·obtain⟨b1,o1,rfl,_,hc1⟩:=h.at (by omega)
     have g1:=hc1 j hlt
     clear hc1
     generalize ea:xs.getD j 0=x at g1
     have EA:=aA ea
     clear ea
     cases hx:wd x
     ·go_wp2_with (go_at_call 130;refine(dU _ _).mono ?_;rintro e w' ⟨rfl,rfl⟩)
      go_ret
      refine⟨aS ?_,rfl⟩
      symm
      rw[List.all_eq_false]
      refine⟨x,?_,by simp[hx]⟩
      have e1:=EA.o
      rw[<-e1]
      simp[List.getD,HL.o,hlt]
     ·go_wp2_with (go_at_call 130;refine(dU _ _).mono ?_;rintro e w' ⟨rfl,rfl⟩)
      go_round
      case rel=>exact⟨j+1,by omega,by go_num,yX (by rw[HL.o];exact hlt) HA.o (by rw[EA.o];exact hx)⟩
      case measure=>simp[intOf];omega
    ·go_wp2_with (go_at_call 130;refine(dU _ _).mono ?_;rintro e w' ⟨rfl,rfl⟩)
     go_ret
     refine⟨aS ?_,rfl⟩
     have h3:=HA.o
     rw[List.take_of_length_le (by rw[HL.o];omega)] at h3
     exact h3.symm
 ·have h2':((n:Int) != ar op)=true:=by simp[h2]
  rw[show iC op k s xs=false by simp[iC,hl,h2]]
  clear hl h2
  go_enter Tryz.func128,Tryz.ntmps128
  go_wp2_with (go_at_call 69;refine(bI _ _).mono ?_;rintro e w' ⟨rfl,rfl⟩)
  go_ret
  exact⟨rfl,rfl⟩
end Go.Proofs.Spn
namespace Go.Proofs.Spn
open Go.RowKit Go.IntWalk
theorem aPj (op k s x:Int)(b off cap:Nat)(w:World)(hc:1<=cap)(ho:ar op=1)(hk:cons op k s=true)(hx:-2147483648<=x/\x<=2147483647)
  (c0:w.cell? ⟨b,off,none⟩=some (.int .i64 x)) :
  Calls Tryz.prog 129 #[.int .i64 op,.int .i64 k,.int .i64 s,.slice (some ⟨b,off,none⟩) 1 cap] w fun e w'=>e=.returned (.tuple #[.int .i64 (ex op k s x 0 0).1,.int .i64 (ex op k s x 0 0).2])/\Below w.heap.size w w':=by
 have h2:=fun w=>aJb op k s x 0 0 w ho hk hx
 clear ho hk
 go_enter Tryz.func129,Tryz.ntmps129
 go_wp2_with (go_at_call 167;refine(h2 _).mono ?_;rintro e w' ⟨rfl,hb⟩)
 go_ret2
 exact⟨rfl,hb⟩
theorem aPk (op k s x y:Int)(b off cap:Nat)(w:World)(hc:2<=cap)(ho:ar op=2)(hx:-2147483648<=x/\x<=2147483647)(hy:-2147483648<=y/\y<=2147483647)
  (c0:w.cell? ⟨b,off,none⟩=some (.int .i64 x)) (c1:w.cell? ⟨b,off+1,none⟩=some (.int .i64 y)) :
  Calls Tryz.prog 129 #[.int .i64 op,.int .i64 k,.int .i64 s,.slice (some ⟨b,off,none⟩) 2 cap] w fun e w'=>e=.returned (.tuple #[.int .i64 (ex op k s x y 0).1,.int .i64 (ex op k s x y 0).2])/\Below w.heap.size w w':=by
 have h2:=fun w=>mK op x y w (qB ho) hx hy
 rw[<-aTg op k s x y 0 (qB ho)] at h2
 clear ho
 go_enter Tryz.func129,Tryz.ntmps129
 go_wp2
 go_quiet ((go_at_call 168;exact Calls.quiet_of_same (h2 _)))
 go_wp2
 go_ret2
 exact⟨rfl,uP (Below.refl _ _) _⟩
theorem aK6 (op k s x y z:Int)(ho:gG op 26 28=true):(ex op k s x y z).2=0:=by
 have h:=aO.1 ho
 rcases(show op=26\/op=27\/op=28 by omega) with rfl|rfl|rfl <;> rfl
theorem aPl (op k s x y z:Int)(b off cap:Nat)(w:World)(hc:3<=cap)(ho:ar op=3)
  (c0:w.cell? ⟨b,off,none⟩=some (.int .i64 x)) (c1:w.cell? ⟨b,off+1,none⟩=some (.int .i64 y)) (c2:w.cell? ⟨b,off+2,none⟩=some (.int .i64 z)) :
  Calls Tryz.prog 129 #[.int .i64 op,.int .i64 k,.int .i64 s,.slice (some ⟨b,off,none⟩) 3 cap] w fun e w'=>e=.returned (.tuple #[.int .i64 (ex op k s x y z).1,.int .i64 (ex op k s x y z).2])/\Below w.heap.size w w':=by
 have h2:=fun w=>aD2 op k s x y z w (lM ho)
 rw[aK6 op k s x y z (lM ho)]
 clear ho
 go_enter Tryz.func129,Tryz.ntmps129
 go_wp2
 go_quiet ((go_at_call 169;exact Calls.quiet_of_same (h2 _)))
 go_wp2
 go_ret2
 exact⟨rfl,uP (Below.refl _ _) _⟩
theorem aIs (op k s:Int)(a:Option Addr)(n cap:Nat)(xs:List Int)(w:World)(h:Ints w a n cap xs)(hm:iC op k s xs=true) :
  Calls Tryz.prog 129 #[.int .i64 op,.int .i64 k,.int .i64 s,.slice a n cap] w fun e w' =>
   e=.returned (.tuple #[.int .i64 (ex op k s (xs.getD 0 0) (xs.getD 1 0) (xs.getD 2 0)).1,.int .i64 (ex op k s (xs.getD 0 0) (xs.getD 1 0) (xs.getD 2 0)).2])/\Below w.heap.size w w':=by
 simp only[iC,Bool.and_eq_true,decide_eq_true_eq,List.all_eq_true] at hm
 obtain⟨⟨⟨m1,m2⟩,m3⟩,m4⟩:=hm
 have hl:=h.len
 have h3:=vZ op
 have hle:=h.le
 obtain⟨b,off,rfl,-,hc⟩:=h.at (by omega)
 have hw:∀ x ∈ xs,-2147483648<=x/\x<=2147483647:=fun x hx=>dE.1 (m4 x hx)
 match xs,hl,m2,hc,hw with
 | [x],hl,m2,hc,hw =>
  subst hl
  exact aPj op k s x b off cap w hle (by simpa using m2.symm) m3 (hw x (by simp)) (hc 0 (by simp))
 | [x,y],hl,m2,hc,hw =>
  subst hl
  exact aPk op k s x y b off cap w hle (by simpa using m2.symm) (hw x (by simp)) (hw y (by simp)) (hc 0 (by simp)) (hc 1 (by simp))
 | [x,y,z],hl,m2,hc,hw =>
  subst hl
  exact aPl op k s x y z b off cap w hle (by simpa using m2.symm) (hc 0 (by simp)) (hc 1 (by simp)) (hc 2 (by simp))
 | [],hl,m2,hc,hw=>simp at m2;omega
 | _::_::_::_::_,hl,m2,hc,hw=>simp at m2;omega
def bK (op k s:Int)(xs:List Int):Int × Int :=
 if iC op k s xs=true then
  (if (ex op k s (xs.getD 0 0) (xs.getD 1 0) (xs.getD 2 0)).2=0 then
   (if wd (ex op k s (xs.getD 0 0) (xs.getD 1 0) (xs.getD 2 0)).1=true then((ex op k s (xs.getD 0 0) (xs.getD 1 0) (xs.getD 2 0)).1,0) else(0,13))
  else(0,(ex op k s (xs.getD 0 0) (xs.getD 1 0) (xs.getD 2 0)).2))
 else(0,1)
theorem qC (op k s:Int)(a:Option Addr)(n cap:Nat)(xs:List Int)(w:World)(h:Ints w a n cap xs) :
  Calls Tryz.prog 87 #[.int .i64 op,.int .i64 k,.int .i64 s,.slice a n cap] w fun e w'=>e=.returned (.tuple #[.int .i64 (bK op k s xs).1,.int .i64 (bK op k s xs).2])/\Below w.heap.size w w':=by
 have H:=aA h
 clear h
 cases hm:iC op k s xs
 ·rw[show bK op k s xs=(0,1) by simp[bK,hm]]
  go_enter Tryz.func87,Tryz.ntmps87
  go_wp2_with (go_at_call 128;refine(pK _ _ _ _ _ _ _ _ H.o).mono ?_;rintro e w' ⟨rfl,rfl⟩)
  go_ret2
  exact⟨rfl,Below.refl _ _⟩
 ·have H2:=aA (aIs op k s a n cap xs w H.o hm)
  unfold bK
  rw[if_pos hm]
  generalize ex op k s (xs.getD 0 0) (xs.getD 1 0) (xs.getD 2 0)=E at *
  obtain⟨x,e⟩:=E
  by_cases he:e=0
  ·subst he
   rw[if_pos rfl]
   cases hx:wd x
   ·rw[if_neg (by simp)]
    go_enter Tryz.func87,Tryz.ntmps87
    go_wp2_with (first|(go_at_call 128;refine(pK _ _ _ _ _ _ _ _ H.o).mono ?_;rintro e w' ⟨rfl,rfl⟩)|(go_at_call 129;refine H2.o.mono ?_;rintro e w2 ⟨rfl,hb⟩)|(go_at_call 130;refine(dU _ _).mono ?_;rintro e w' ⟨rfl,rfl⟩))
    go_ret2
    exact⟨rfl,hb⟩
   ·rw[if_pos (by simp)]
    go_enter Tryz.func87,Tryz.ntmps87
    go_wp2_with (first|(go_at_call 128;refine(pK _ _ _ _ _ _ _ _ H.o).mono ?_;rintro e w' ⟨rfl,rfl⟩)|(go_at_call 129;refine H2.o.mono ?_;rintro e w2 ⟨rfl,hb⟩)|(go_at_call 130;refine(dU _ _).mono ?_;rintro e w' ⟨rfl,rfl⟩))
    go_ret2
    exact⟨rfl,hb⟩
  ·rw[if_neg he]
   have he':(e != 0)=true:=by simp[he]
   clear he
   go_enter Tryz.func87,Tryz.ntmps87
   go_wp2_with (first|(go_at_call 128;refine(pK _ _ _ _ _ _ _ _ H.o).mono ?_;rintro e w' ⟨rfl,rfl⟩)|(go_at_call 129;refine H2.o.mono ?_;rintro e w2 ⟨rfl,hb⟩)|(go_at_call 130;refine(dU _ _).mono ?_;rintro e w' ⟨rfl,rfl⟩))
   go_ret2
   exact⟨rfl,hb⟩
theorem aYc (w:World)(t:TypeId)(x y:Int):Ints (w.alloc (.cells #[.int .i64 x,.int .i64 y] t)) (some ⟨w.heap.size,0,none⟩) 2 2 [x,y]:=by
 refine⟨rfl,Nat.le_refl _,by decide,(fun h=>by cases h),.inr ⟨_,_,rfl,fun i hi=>?_⟩⟩
 rcases(show i=0\/i=1 by omega) with rfl|rfl <;> simp
theorem aS5 {op:Int}(h:op < 1\/op=4\/33 < op):ar op=-1:=by
 unfold ar
 rw[if_neg (by omega),if_neg (by rw[aO,aO];omega),if_neg (by rw[aO];omega),if_neg (by rw[aO];omega)]
end Go.Proofs.Spn
namespace Go.Proofs.Spn
open Go.RowKit Go.IntWalk
variable {W:World} {b:Nat} {t:TypeId} {cs:Array Value}
def aB (W:World)(b:Nat)(t:TypeId)(cs:Array Value):Prop:=W.heap[b]?=some (.cells cs t (0,0))
theorem aB.lt (h:aB W b t cs):b < W.heap.size:=(Array.getElem?_eq_some_iff.1 h).1
theorem aB.new (W:World)(t:TypeId)(cs:Array Value):aB (W.alloc (.cells cs t)) W.heap.size t cs:=heap_alloc_new W _
theorem aB.kept {W':World}{row:Option Nat}(h:aB W b t cs)(hg:W.grownBy W' row)(hne:some b≠row):aB W' b t cs:=(hg.block b h.lt hne).trans h
theorem aB.alloc {W:World}{b:Nat}{t:TypeId}{cs:Array Value}(h:aB W b t cs)(o:Obj):aB (W.alloc o) b t cs:=h.kept (World.grownBy_alloc W o none) (by simp)
theorem aB.below {W':World}(h:aB W b t cs)(hb:Below W.heap.size W W'):aB W' b t cs:=(hb.block b h.lt).trans h
theorem aB.cell {W:World}{b:Nat}{t:TypeId}{cs:Array Value}(h:aB W b t cs)(i:Nat){v:Value}(hv:cs[i]?=some v):W.cell? ⟨b,i,none⟩=some v:=(cell_of_row W b i cs t (0,0) h).trans hv
theorem aB.frozen {W:World}{b:Nat}{t:TypeId}{cs:Array Value}(h:aB W b t cs)(i:Nat):W.frozen? ⟨b,i,none⟩=false:=by
 simp[World.frozen?,show W.heap[b]?=_ from h]
theorem aB.other (h:aB W b t cs){p:Addr}(hne:b≠p.block)(u:Value):aB (W.setCell p u) b t cs:=(Below.heap_setCell W p u b hne).trans h
theorem aB.set (h:aB W b t cs)(i:Nat)(u:Value):aB (W.setCell ⟨b,i,none⟩ u) b t (cs.setIfInBounds i u):=by
 obtain⟨hlt,hk⟩:=Array.getElem?_eq_some_iff.1 h
 show (W.heap.modify b _)[b]?=_
 rw[Array.getElem?_eq_getElem (by rw[Array.size_modify];exact hlt),Array.getElem_modify_self,hk]
 rfl
theorem aG {x y:Value}(h:aB W b t #[x,y]):W.cell? ⟨b,0,none⟩=some x/\W.cell? ⟨b,1,none⟩=some y/\W.frozen? ⟨b,0,none⟩=false/\W.frozen? ⟨b,1,none⟩=false :=
 ⟨h.cell 0 rfl,h.cell 1 rfl,h.frozen 0,h.frozen 1⟩
theorem aI {w w2:World}{p q:Value}(h:aB w2 b t #[p,q])(hB:Below w.heap.size w w2)(hb:w.heap.size<=b)(x y:Int) :
  ((w2.setCell ⟨b,0,none⟩ (.int .i64 x)).setCell ⟨b,1,none⟩ (.int .i64 y)).cell? ⟨b,0,none⟩=some (.int .i64 x)/\((w2.setCell ⟨b,0,none⟩ (.int .i64 x)).setCell ⟨b,1,none⟩ (.int .i64 y)).cell? ⟨b,1,none⟩=some (.int .i64 y) /\
  Below w.heap.size w ((w2.setCell ⟨b,0,none⟩ (.int .i64 x)).setCell ⟨b,1,none⟩ (.int .i64 y)):=by
 have h3:=(h.set 0 (.int .i64 x)).set 1 (.int .i64 y)
 exact⟨h3.cell 0 rfl,h3.cell 1 rfl,(hB.setCell (p:=⟨b,0,none⟩) hb _).setCell (p:=⟨b,1,none⟩) hb _⟩
theorem aEj {a b c d:Int}(h:a=b)(h':c=d):Ending.returned (.agg #[.int .i64 a,.int .i64 c])=.returned (.agg #[.int .i64 b,.int .i64 d]):=by rw[h,h']
def mW (x y:Int):Bool:=decide (x<=y)&&(wd x&&wd y)
theorem aX {x y:Int}:mW x y=true↔x<=y/\-2147483648<=x/\x<=2147483647/\-2147483648<=y/\y<=2147483647:=by
 simp[mW,dE,and_assoc]
def hasB (x y z:Int):Bool:=decide (x<=z)&&decide (z<=y)
theorem aDn {x y z:Int}:hasB x y z=true↔x<=z/\z<=y:=by simp[hasB]
theorem aAy (x y:Int)(w:World) :
  Calls Tryz.prog 166 #[.agg #[.int .i64 x,.int .i64 y]] w fun e w'=>e=.returned (.bool (mW x y))/\Below w.heap.size w w':=by
 have HB:=aA (aC w (.cells #[.int .i64 x,.int .i64 y] 74))
 by_cases h1:x<=y
 ·have d1:decide (x<=y)=true:=by simp[h1]
  cases h2:wd x
  ·go_enter Tryz.func166,Tryz.ntmps166
   go_wp2_with (go_at_call 130;refine(dU _ _).mono ?_;rintro e w' ⟨rfl,rfl⟩)
   go_ret
   exact⟨aS (by simp[mW,h1,h2]),HB.o⟩
  ·go_enter Tryz.func166,Tryz.ntmps166
   go_wp2_with (go_at_call 130;refine(dU _ _).mono ?_;rintro e w' ⟨rfl,rfl⟩)
   go_ret
   exact⟨aS (by simp[mW,h1,h2]),HB.o⟩
 ·have d1:decide (x<=y)=false:=by simp[h1]
  go_enter Tryz.func166,Tryz.ntmps166
  go_wp2_with (go_at_call 130;refine(dU _ _).mono ?_;rintro e w' ⟨rfl,rfl⟩)
  go_ret
  exact⟨aS (by simp[mW,show ¬x<=y by omega]),HB.o⟩
theorem aHe (x y z:Int)(w:World) :
  Calls Tryz.prog 223 #[.agg #[.int .i64 x,.int .i64 y],.int .i64 z] w fun e w'=>e=.returned (.bool (hasB x y z))/\Below w.heap.size w w':=by
 have HB:=aA (aC w (.cells #[.int .i64 x,.int .i64 y] 74))
 by_cases h1:x<=z
 ·have d1:decide (x<=z)=true:=by simp[h1]
  go_enter Tryz.func223,Tryz.ntmps223
  go_wp2
  go_ret
  exact⟨aS (by simp[hasB,h1]),HB.o⟩
 ·have d1:decide (x<=z)=false:=by simp[h1]
  go_enter Tryz.func223,Tryz.ntmps223
  go_wp2
  go_ret
  exact⟨aS (by simp[hasB,show ¬x<=z by omega]),HB.o⟩
theorem dF (n:Int)(w:World) :
  Calls Tryz.prog 190 #[.int .i64 n] w fun e w'=>e=.returned (.agg #[.int .i64 n,.int .i64 n])/\Below w.heap.size w w':=by
 go_enter Tryz.func190,Tryz.ntmps190
 go_wp2
 exact bodyPost_ret (v:=.agg #[.int .i64 n,.int .i64 n]) (by simp[results,Tryz.results190,go_sem]) rfl ⟨rfl,aC _ _⟩
theorem uZ (w:World)(o1 o2:Obj)(x y:Int):Below w.heap.size w (((w.alloc o1).alloc o2).alloc (.cells #[.int .i64 x,.int .i64 y] 74)) :=
 (((Below.refl _ _).alloc (Nat.le_refl _) _).alloc (by simp) _).alloc (by simp;omega) _
theorem xE (a b c d:Int)(w:World) :
  Calls Tryz.prog 225 #[.agg #[.int .i64 a,.int .i64 b],.agg #[.int .i64 c,.int .i64 d]] w fun e w'=>e=.returned (.agg #[.int .i64 (min a c),.int .i64 (max b d)])/\Below w.heap.size w w':=by
 go_enter Tryz.func225,Tryz.ntmps225
 go_wp2
 all_goals exact bodyPost_ret (v:=.agg #[.int .i64 (min a c),.int .i64 (max b d)]) (by simp[results,Tryz.results225,go_sem];omega) rfl ⟨rfl,uZ _ _ _ _ _⟩
end Go.Proofs.Spn
namespace Go.Proofs.Spn
open Go.RowKit Go.IntWalk
abbrev mY:=Option Bool
abbrev mY.and:mY:=none
abbrev mY.or:mY:=some false
abbrev mY.xor:mY:=some true
def mY.op (o:mY):BinOp:=match o with|none=>.and|some false=>.or|some true=>.xor
def mY.bv (o:mY)(x y:BitVec 64):BitVec 64:=match o with|none=>x &&& y|some false=>x ||| y|some true=>x ^^^ y
def mY.dig (o:mY)(p q:Int):Int:=match o with|none=>p*q|some false=>p+q-p*q|some true=>(p+q) % 2
def bw (o:mY)(a b:Int):Int:=bits o.op .i64 a b
theorem fV (o:mY)(a b:Int):bw o a b=(o.bv (BitVec.ofInt 64 a) (BitVec.ofInt 64 b)).toInt:=by
 have h:bw o a b=IntKind.i64.wrap ((o.bv (BitVec.ofInt 64 a) (BitVec.ofInt 64 b)).toNat:Int):=by rcases o with _|_|_ <;> rfl
 rw[h]
 generalize o.bv (BitVec.ofInt 64 a) (BitVec.ofInt 64 b)=z
 have h1:=z.isLt
 rw[BitVec.toInt_eq_toNat_cond]
 simp[IntKind.wrap,IntKind.bits,IntKind.signed]
 split <;> omega
theorem aPx (z:BitVec 64):z.toInt=(z.toNat % 2:Nat)+2*(z.sshiftRight 1).toInt:=by
 rw[BitVec.toInt_sshiftRight,Int.shiftRight_eq_div_pow,BitVec.toInt_eq_toNat_cond]
 split <;> omega
theorem xA (a:Int)(ha:-9223372036854775808<=a/\a<=9223372036854775807):(BitVec.ofInt 64 a).sshiftRight 1=BitVec.ofInt 64 (a / 2):=by
 apply BitVec.eq_of_toInt_eq
 rw[BitVec.toInt_sshiftRight,Int.shiftRight_eq_div_pow,BitVec.toInt_ofInt,BitVec.toInt_ofInt]
 simp only[Int.bmod]
 omega
theorem zO (a:Int):(((BitVec.ofInt 64 a).toNat % 2:Nat):Int)=a % 2:=by
 rw[BitVec.toNat_ofInt]
 omega
theorem aPc (o:mY)(x y:BitVec 64):(((o.bv x y).toNat % 2:Nat):Int)=o.dig ((x.toNat % 2:Nat):Int) ((y.toNat % 2:Nat):Int):=by
 have hx:x.toNat % 2=0\/x.toNat % 2=1:=by omega
 have hy:y.toNat % 2=0\/y.toNat % 2=1:=by omega
 rcases o with _|_|_
 ·have h:(x.toNat &&& y.toNat) % 2=(x.toNat % 2)*(y.toNat % 2):=by
   have h1:=Nat.and_mod_two_eq_one (a:=x.toNat) (b:=y.toNat)
   rcases hx with hx|hx <;> rcases hy with hy|hy <;> rw[hx,hy] at h1 ⊢ <;> omega
  show (((x &&& y).toNat % 2:Nat):Int)=_
  rw[BitVec.toNat_and,h]
  rcases hx with hx|hx <;> rcases hy with hy|hy <;> rw[hx,hy] <;> decide
 ·have h:(x.toNat ||| y.toNat) % 2=x.toNat % 2+y.toNat % 2-(x.toNat % 2)*(y.toNat % 2):=by
   have h1:=Nat.or_mod_two_eq_one (a:=x.toNat) (b:=y.toNat)
   rcases hx with hx|hx <;> rcases hy with hy|hy <;> rw[hx,hy] at h1 ⊢ <;> omega
  show (((x ||| y).toNat % 2:Nat):Int)=_
  rw[BitVec.toNat_or,h]
  rcases hx with hx|hx <;> rcases hy with hy|hy <;> rw[hx,hy] <;> decide
 ·have h:(x.toNat ^^^ y.toNat) % 2=(x.toNat % 2+y.toNat % 2) % 2:=by
   have h1:=Nat.xor_mod_two_eq_one (a:=x.toNat) (b:=y.toNat)
   rcases hx with hx|hx <;> rcases hy with hy|hy <;> rw[hx,hy] at h1 ⊢ <;> omega
  show (((x ^^^ y).toNat % 2:Nat):Int)=_
  rw[BitVec.toNat_xor,h]
  rcases hx with hx|hx <;> rcases hy with hy|hy <;> rw[hx,hy] <;> decide
theorem aVu (o:mY)(x y:BitVec 64):(o.bv x y).sshiftRight 1=o.bv (x.sshiftRight 1) (y.sshiftRight 1):=by
 rcases o with _|_|_
 ·exact BitVec.sshiftRight_and_distrib ..
 ·exact BitVec.sshiftRight_or_distrib ..
 ·exact BitVec.sshiftRight_xor_distrib ..
theorem pE (o:mY)(a b:Int)(ha:-9223372036854775808<=a/\a<=9223372036854775807)(hb:-9223372036854775808<=b/\b<=9223372036854775807) :
  bw o a b=o.dig (a % 2) (b % 2)+2*bw o (a / 2) (b / 2):=by
 rw[fV,fV,aPx,aVu,xA a ha,xA b hb,aPc,zO,zO]
theorem lN (a:Int):a % 2=0\/a % 2=1:=by omega
theorem aIk (P:Int->Int->Prop)(h0:P 0 0)(h1:P 0 (-1))(h2:P (-1) 0)(h3:P (-1) (-1))
  (hs:∀ a b:Int,(-9223372036854775808<=a/\a<=9223372036854775807)->(-9223372036854775808<=b/\b<=9223372036854775807)->P (a / 2) (b / 2)->P a b) :
  ∀ n:Nat,n<=63->∀ a b:Int,(-(2 ^ n:Nat)<=a/\a < (2 ^ n:Nat))->(-(2 ^ n:Nat)<=b/\b < (2 ^ n:Nat))->P a b:=by
 intro n
 induction n with
 | zero =>
  intro _ a b ha hb
  have ha':a=0\/a=-1:=by simp at ha;omega
  have hb':b=0\/b=-1:=by simp at hb;omega
  rcases ha' with rfl|rfl <;> rcases hb' with rfl|rfl <;> assumption
 | succ n ih =>
  intro hn a b ha hb
  have hp:2 ^ (n+1)<=2 ^ 63:=Nat.pow_le_pow_right (by decide) hn
  rw[Nat.pow_succ] at ha hb hp
  exact hs a b (by omega) (by omega) (ih (by omega) _ _ (by omega) (by omega))
theorem aG3 (P:Int->Int->Prop)(h0:P 0 0)(h1:P 0 (-1))(h2:P (-1) 0)(h3:P (-1) (-1))
  (hs:∀ a b:Int,(-9223372036854775808<=a/\a<=9223372036854775807)->(-9223372036854775808<=b/\b<=9223372036854775807)->P (a / 2) (b / 2)->P a b)
  {a b:Int} (ha:-2147483648<=a/\a<=2147483647) (hb:-2147483648<=b/\b<=2147483647):P a b :=
 aIk P h0 h1 h2 h3 hs 31 (by decide) a b (by omega) (by omega)
theorem aTe (o:mY)(a b:Int):0<=o.dig (a % 2) (b % 2)/\o.dig (a % 2) (b % 2)<=1:=by
 rcases o with _|_|_ <;> simp only[mY.dig] <;> rcases lN a with e|e <;> rcases lN b with f|f <;> rw[e,f] <;> decide
theorem aKr (o:mY)(n:Nat)(hn:n<=63)(a b:Int)(ha:-(2 ^ n:Nat)<=a/\a < (2 ^ n:Nat))(hb:-(2 ^ n:Nat)<=b/\b < (2 ^ n:Nat)):-((2 ^ n:Nat):Int)<=bw o a b/\bw o a b < (2 ^ n:Nat):=by
 induction n generalizing a b with
 | zero =>
  have ha':a=0\/a=-1:=by simp at ha;omega
  have hb':b=0\/b=-1:=by simp at hb;omega
  rcases ha' with rfl|rfl <;> rcases hb' with rfl|rfl <;> rcases o with _|_|_ <;> decide
 | succ n ih =>
  have hp:2 ^ (n+1)<=2 ^ 63:=Nat.pow_le_pow_right (by decide) hn
  rw[Nat.pow_succ] at ha hb hp ⊢
  have h:=ih (by omega) (a / 2) (b / 2) (by omega) (by omega)
  have h2:=aTe o a b
  rw[pE o a b (by omega) (by omega)]
  omega
theorem aC5 {a b:Int}(ha:-2147483648<=a/\a<=2147483647)(hb:0<=b/\b<=2147483647):0<=bw .and a b/\bw .and a b<=b:=by
 have h:=aG3 (fun a b=>0<=b->0<=bw .and a b/\bw .and a b<=b) (fun _=>by decide) (fun _=>by omega) (fun _=>by decide) (fun _=>by omega) (by
  intro a b ha hb h e
  have h1:=h (by omega)
  show 0<=bw .and a b/\bw .and a b<=b
  rw[pE .and a b ha hb]
  simp only[mY.dig]
  rcases lN a with f|f <;> rcases lN b with g|g <;> rw[f,g] <;> omega) ha (show -2147483648<=b/\b<=2147483647 by omega)
 exact h hb.1
end Go.Proofs.Spn
