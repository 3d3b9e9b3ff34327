import Derived.Test.YtihbhbeaihdgnaaGreatXH
import Derived.Lib.BitFns
import Derived.BigQuiet
import Derived.BigRegion
import Derived.Test.YtihbhbeaihdgnaaGreatX13
set_option maxRecDepth 100000
set_option maxHeartbeats 32000000
set_option linter.unusedVariables false
namespace Go.Proofs.Spn
open Go.RowKit Go.IntWalk
theorem aIh (k:Nat):∀ x:Nat,x < 2 ^ k->k<=63->x < 2 ^ Lib.bitLen x:=by
 induction k with
 | zero =>
  intro x h _
  obtain rfl:x=0:=by simp at h;omega
  decide
 | succ k ih =>
  intro x h hk
  by_cases h0:x=0
  ·subst h0;decide
  ·have hp:2 ^ (k+1)<=2 ^ 63:=Nat.pow_le_pow_right (by decide) hk
   have h1:=ih (x / 2) (by rw[Nat.pow_succ] at h;omega) (by omega)
   rw[Lib.bitLen_half x h0 (by omega),Nat.add_comm,Nat.pow_succ]
   omega
theorem aRz:∀ n:Fin 256,(Lib.len8tab[n.val]'(Nat.lt_of_lt_of_le n.isLt (by decide +kernel))).toNat=Lib.bitLen n.val:=by decide +kernel
theorem aCr (n:Nat)(hn:n < 256)(h:n < Lib.len8tab.size):(Lib.len8tab[n]'h).toNat=Lib.bitLen n:=aRz ⟨n,hn⟩
theorem aI2 (x:Int)(w:World)(h:0<=x/\x<=2147483647) :
  Calls Tryz.prog 246 #[.int .u64 x] w fun e w'=>e=.returned (.int .i64 (Lib.bitLen x.toNat))/\w'=w:=by
 have hs:Lib.len8tab.size=256:=by decide +kernel
 rcases(show x < 256\/(256<=x/\x < 65536)\/(65536<=x/\x < 16777216)\/16777216<=x by omega) with g|g|g|g
 ·go_enter Tryz.func246,Tryz.ntmps246
  go_wp2
  go_ret
  refine⟨aN ?_,rfl⟩
  rw[aCr x.toNat (by omega)]
  have l:=Lib.bitLen_le x.toNat 31 (by decide) (by omega)
  unfold wrap64
  omega
 ·go_enter Tryz.func246,Tryz.ntmps246
  go_wp2
  go_ret
  refine⟨aN ?_,rfl⟩
  rw[aCr (x / 256).toNat (by omega)]
  have l:=Lib.bitLen_le x.toNat 31 (by decide) (by omega)
  have s:=Lib.bitLen_shift8 x.toNat (by omega) (by omega)
  rw[show (x / 256).toNat=x.toNat / 256 by omega]
  unfold wrap64
  omega
 ·go_enter Tryz.func246,Tryz.ntmps246
  go_wp2
  go_ret
  refine⟨aN ?_,rfl⟩
  rw[aCr (x / 65536).toNat (by omega)]
  have l:=Lib.bitLen_le x.toNat 31 (by decide) (by omega)
  have s:=Lib.bitLen_shift16 x.toNat (by omega) (by omega)
  rw[show (x / 65536).toNat=x.toNat / 65536 by omega]
  unfold wrap64
  omega
 ·go_enter Tryz.func246,Tryz.ntmps246
  go_wp2
  go_ret
  refine⟨aN ?_,rfl⟩
  rw[aCr (x / 65536 / 256).toNat (by omega)]
  have l:=Lib.bitLen_le x.toNat 31 (by decide) (by omega)
  have s:=Lib.bitLen_shift24 x.toNat (by omega) (by omega)
  rw[show (x / 65536 / 256).toNat=x.toNat / 16777216 by omega]
  unfold wrap64
  omega
theorem aHl (x:Int)(w:World)(h:0<=x/\x<=2147483647) :
  Calls Tryz.prog 244 #[.int .u64 x] w fun e w'=>e=.returned (.int .i64 (Lib.bitLen x.toNat))/\w'=w:=by
 go_enter Tryz.func244,Tryz.ntmps244
 go_wp2_with (go_at_call 246;refine(aI2 x _ h).mono ?_;rintro e w' ⟨rfl,rfl⟩)
 go_ret
 exact⟨rfl,rfl⟩
def wdN (x:Int):Nat:=Lib.bitLen (if x < 0 then -x-1 else x).toNat
def wdZ (x:Int):Int:=(wdN x:Nat)
theorem fU {x:Int}(h:-2147483648<=x/\x<=2147483647):wdN x<=31/\-(2 ^ wdN x:Nat)<=x/\x < (2 ^ wdN x:Nat):=by
 unfold wdN
 have h1:=Lib.bitLen_le (if x < 0 then -x-1 else x).toNat 31 (by decide) (by split <;> omega)
 have h2:=aIh 31 (if x < 0 then -x-1 else x).toNat (by split <;> omega) (by decide)
 revert h1 h2
 generalize Lib.bitLen (if x < 0 then -x-1 else x).toNat=m
 intro h1 h2
 refine⟨h1,?_⟩
 generalize 2 ^ m=P at *
 split at h2 <;> omega
theorem aKs {a:Int}(ha:-2147483648<=a/\a<=2147483647):bw .xor (-1) a=-a-1:=by
 have h:=aG3 (fun b a=>b=-1->bw .xor b a=-a-1) (fun h=>by cases h) (fun h=>by cases h) (fun _=>by decide) (fun _=>by decide) (by
  intro b a hb ha h e
  subst e
  have h1:=h (by decide)
  rw[show ((-1:Int) / 2)=-1 by decide] at h1
  show bw .xor (-1) a=-a-1
  rw[pE .xor (-1) a (by omega) ha,show ((-1:Int) / 2)=-1 by decide,h1]
  simp only[mY.dig]
  omega) (show -2147483648<=(-1:Int)/\(-1:Int)<=2147483647 by decide) ha
 exact h rfl
theorem mX (x:Int)(w:World)(h:-2147483648<=x/\x<=2147483647) :
  Calls Tryz.prog 239 #[.int .i64 x] w fun e w'=>e=.returned (.int .i64 (wdZ x))/\w'=w:=by
 by_cases h0:x < 0
 ·have hl:=fun w=>aHl (-x-1) w (by omega)
  have hx:bits BinOp.xor IntKind.i64 (-1) x=-x-1:=aKs h
  have hk:wdZ x=Lib.bitLen (-x-1).toNat:=by simp[wdZ,wdN,h0]
  rw[hk]
  clear hk
  generalize hy:-x-1=y at *
  have hy0:0<=y/\y<=2147483647:=by omega
  clear hy
  have hu:IntKind.u64.wrap y=y:=by simp[IntKind.wrap,IntKind.bits,IntKind.signed];omega
  go_enter Tryz.func239,Tryz.ntmps239
  go_wp2_with fail
  refine(hl _).mono ?_
  rintro e w' ⟨rfl,rfl⟩
  go_wp2_with fail
  go_ret
  exact⟨rfl,rfl⟩
 ·have hl:=fun w=>aHl x w (by omega)
  go_enter Tryz.func239,Tryz.ntmps239
  go_wp2_with (go_at_call 244;refine(hl _).mono ?_;rintro e w' ⟨rfl,rfl⟩)
  go_ret
  exact⟨aN (by simp[wdZ,wdN];rw[if_neg (by omega)]),rfl⟩
end Go.Proofs.Spn
namespace Go.Proofs.Spn
open Go.RowKit Go.IntWalk Go.Sort
theorem mixed:Tryz.prog.follows .mixedOrders=true:=by kernel_rfl
theorem nC {w w2:World}{a b c d x y:Int}(h:Below (((w.alloc (.cells #[.int .i64 a,.int .i64 b] 74)).alloc (.cells #[.int .i64 c,.int .i64 d] 74)).alloc (.cells #[.int .i64 x,.int .i64 y] 74)).heap.size (((w.alloc (.cells #[.int .i64 a,.int .i64 b] 74)).alloc (.cells #[.int .i64 c,.int .i64 d] 74)).alloc (.cells #[.int .i64 x,.int .i64 y] 74)) w2) :
  aB w2 w.heap.size 74 #[.int .i64 a,.int .i64 b]/\aB w2 (w.heap.size+1) 74 #[.int .i64 c,.int .i64 d]/\aB w2 (w.heap.size+1+1) 74 #[.int .i64 x,.int .i64 y]/\Below w.heap.size w w2:=by
 have h1:=(((aB.new w 74 #[.int .i64 a,.int .i64 b]).alloc (.cells #[.int .i64 c,.int .i64 d] 74)).alloc (.cells #[.int .i64 x,.int .i64 y] 74)).below h
 have h2:=((aB.new (w.alloc (.cells #[.int .i64 a,.int .i64 b] 74)) 74 #[.int .i64 c,.int .i64 d]).alloc (.cells #[.int .i64 x,.int .i64 y] 74)).below h
 have h3:=(aB.new ((w.alloc (.cells #[.int .i64 a,.int .i64 b] 74)).alloc (.cells #[.int .i64 c,.int .i64 d] 74)) 74 #[.int .i64 x,.int .i64 y]).below h
 simp only[World.size_alloc] at h2 h3
 exact⟨h1,h2,h3,bel (uZ _ _ _ _ _) h⟩
def bY (a b c d:Int):Nat:=max (max (max (wdN a) (wdN b)) (wdN c)) (wdN d)
def nZ (a b c d:Int):Int:=2 ^ bY a b c d
abbrev eU (x:Int):Prop:=-2147483648<=x/\x<=2147483647
theorem aE8 {a b c d:Int}(ha:eU a)(hb:eU b)(hc:eU c)(hd:eU d):bY a b c d<=31/\1<=nZ a b c d/\nZ a b c d<=2147483648:=by
 have h1:=(fU ha).1
 have h2:=(fU hb).1
 have h3:=(fU hc).1
 have h4:=(fU hd).1
 have h5:bY a b c d<=31:=by unfold bY;omega
 exact⟨h5,xU _ 31 h5⟩
def mx4 (a b c d:Int):Int:=max (max (max a b) c) d
theorem aCf {P:Program}{w:World}(ts:Array TypeId)(t:TypeId)(k k' k'' k3:IntKind)(x y z u:Int):(Builtin.max_ ts t #[.int k x,.int k' y,.int k'' z,.int k3 u]).run P w=.ok (.int k (mx4 x y z u)) w:=by
 simp[Builtin.max_,Builtin.max2,mx4]
 omega
attribute [local go_sem] aCf
theorem wB (a b c d:Int)(w:World)(ha:eU a)(hb:eU b)(hc:eU c)(hd:eU d) :
  Calls Tryz.prog 222 #[.agg #[.int .i64 a,.int .i64 b],.agg #[.int .i64 c,.int .i64 d]] w fun e w'=>e=.returned (.agg #[.int .i64 (-nZ a b c d),.int .i64 (nZ a b c d-1)])/\Below w.heap.size w w':=by
 have w1:=fun w=>mX a w ha
 have w2:=fun w=>mX b w hb
 have w3:=fun w=>mX c w hc
 have w4:=fun w=>mX d w hd
 have f1:=(fU ha).1
 have f2:=(fU hb).1
 have f3:=(fU hc).1
 have f4:=(fU hd).1
 have hP:=aE8 ha hb hc hd
 have hN:((bY a b c d:Nat):Int)=mx4 (wdZ a) (wdZ b) (wdZ c) (wdZ d):=by unfold bY wdZ mx4;omega
 have HN:=aA hN
 have HP:=aA hP
 clear hN hP w1 w2 w3 w4
 go_enter Tryz.func222,Tryz.ntmps222
 go_wp2_with fail
 go_quiet ((go_at_call 239;exact Calls.quiet_of_same (mX _ _ (by assumption))))
 go_wp2_with fail
 rw[<-HN.o]
 have hN:=HP.o.1
 have hN2:¬((bY a b c d:Nat):Int) < 0:=by omega
 have hQ:(2:Int) ^ bY a b c d=nZ a b c d:=rfl
 have hQ1:=HP.o.2
 generalize hp:nZ a b c d=p at *
 have EP:=aA hp
 clear hp
 generalize bY a b c d=n at *
 go_region
 go_wp2_with fail
 have hB:=uP (uZ w (.cells #[.int .i64 a,.int .i64 b] 74) (.cells #[.int .i64 c,.int .i64 d] 74) 0 0) (nq+1)
 have hR:=aB.new ((w.alloc (.cells #[.int .i64 a,.int .i64 b] 74)).alloc (.cells #[.int .i64 c,.int .i64 d] 74)) 74 #[.int .i64 0,.int .i64 0]
 simp only[World.size_alloc] at hR
 obtain⟨c0,c1,hB2⟩:=aI (w:=w) (b:=w.heap.size+1+1) (w2:=(((w.alloc (.cells #[.int .i64 a,.int .i64 b] 74)).alloc (.cells #[.int .i64 c,.int .i64 d] 74)).alloc (.cells #[.int .i64 0,.int .i64 0] 74)).drewN (nq+1)) hR hB (by omega) (-p) (p-1)
 exact bodyPost_ret (v:=.agg #[.int .i64 (-p),.int .i64 (p-1)]) (by simp[results,Tryz.results222,go_sem,c0,c1]) rfl ⟨by rw[EP.o],hB2⟩
def lI (a b c d:Int):Int × Int:=(if a < 0 then max a (-(max (-c) d-1)) else 0,if 0 < b then min b (max (-c) d-1) else 0)
theorem aO5 (w:World)(o1 o2:Obj)(x y x' y':Int):Below w.heap.size w ((((w.alloc o1).alloc o2).alloc (.cells #[.int .i64 x,.int .i64 y] 74)).alloc (.cells #[.int .i64 x',.int .i64 y'] 74)) :=
 ((((Below.refl _ _).alloc (Nat.le_refl _) _).alloc (by simp) _).alloc (by simp;omega) _).alloc (by simp;omega) _
theorem aLv (a b c d:Int)(w:World)(ha:eU a)(hb:eU b)(hc:eU c)(hd:eU d) :
  Calls Tryz.prog 224 #[.agg #[.int .i64 a,.int .i64 b],.agg #[.int .i64 c,.int .i64 d]] w fun e w'=>e=.returned (.agg #[.int .i64 (lI a b c d).1,.int .i64 (lI a b c d).2])/\Below w.heap.size w w':=by
 by_cases h1:a < 0 <;> by_cases h2:0 < b
 ·rw[show lI a b c d=(max a (-(max (-c) d-1)),min b (max (-c) d-1)) by simp[lI,h1,h2]]
  go_enter Tryz.func224,Tryz.ntmps224
  go_wp2
  all_goals exact bodyPost_ret (v:=.agg #[.int .i64 (max a (-(max (-c) d-1))),.int .i64 (min b (max (-c) d-1))]) (by simp[results,Tryz.results224,go_sem];omega) rfl ⟨rfl,aO5 _ _ _ _ _ _ _⟩
 ·rw[show lI a b c d=(max a (-(max (-c) d-1)),0) by simp[lI,h1,h2]]
  go_enter Tryz.func224,Tryz.ntmps224
  go_wp2
  all_goals exact bodyPost_ret (v:=.agg #[.int .i64 (max a (-(max (-c) d-1))),.int .i64 0]) (by simp[results,Tryz.results224,go_sem];omega) rfl ⟨rfl,aO5 _ _ _ _ _ _ _⟩
 ·rw[show lI a b c d=(0,min b (max (-c) d-1)) by simp[lI,h1,h2]]
  go_enter Tryz.func224,Tryz.ntmps224
  go_wp2
  all_goals exact bodyPost_ret (v:=.agg #[.int .i64 0,.int .i64 (min b (max (-c) d-1))]) (by simp[results,Tryz.results224,go_sem];omega) rfl ⟨rfl,aO5 _ _ _ _ _ _ _⟩
 ·rw[show lI a b c d=(0,0) by simp[lI,h1,h2]]
  go_enter Tryz.func224,Tryz.ntmps224
  go_wp2
  all_goals exact bodyPost_ret (v:=.agg #[.int .i64 0,.int .i64 0]) (by simp[results,Tryz.results224,go_sem]) rfl ⟨rfl,aO5 _ _ _ _ _ _ _⟩
def mO (op a b:Int):Int × Int:=if op=5 then(-b,-a) else if 0<=a then(a,b) else if b < 0 then(-b,-a) else(0,max (-a) b)
theorem aGi (op a b:Int)(w:World)(ha:eU a)(hb:eU b) :
  Calls Tryz.prog 226 #[.int .i64 op,.agg #[.int .i64 a,.int .i64 b]] w fun e w'=>e=.returned (.agg #[.int .i64 (mO op a b).1,.int .i64 (mO op a b).2])/\Below w.heap.size w w':=by
 by_cases h0:op=5
 ·subst h0
  rw[show mO 5 a b=(-b,-a) from rfl]
  go_enter Tryz.func226,Tryz.ntmps226
  go_wp2
  exact bodyPost_ret (v:=.agg #[.int .i64 (-b),.int .i64 (-a)]) (by simp[results,Tryz.results226,go_sem]) rfl ⟨rfl,uZ _ _ _ _ _⟩
 have e0:(op==5)=false:=by simp[h0]
 by_cases h1:0<=a
 ·rw[show mO op a b=(a,b) by simp[mO,h0,h1]]
  clear h0
  go_enter Tryz.func226,Tryz.ntmps226
  go_wp2
  exact bodyPost_ret (v:=.agg #[.int .i64 a,.int .i64 b]) (by simp[results,Tryz.results226,go_sem]) rfl ⟨rfl,uZ _ _ _ _ _⟩
 by_cases h2:b < 0
 ·rw[show mO op a b=(-b,-a) by simp[mO,h0,h1,h2]]
  clear h0
  go_enter Tryz.func226,Tryz.ntmps226
  go_wp2
  exact bodyPost_ret (v:=.agg #[.int .i64 (-b),.int .i64 (-a)]) (by simp[results,Tryz.results226,go_sem]) rfl ⟨rfl,uZ _ _ _ _ _⟩
 ·rw[show mO op a b=(0,max (-a) b) by simp[mO,h0,h1,h2]]
  clear h0
  go_enter Tryz.func226,Tryz.ntmps226
  go_wp2
  all_goals exact bodyPost_ret (v:=.agg #[.int .i64 0,.int .i64 (max (-a) b)]) (by simp[results,Tryz.results226,go_sem];omega) rfl ⟨rfl,uZ _ _ _ _ _⟩
def eX (a b c d:Int):Int × Int:=if 0<=a/\0<=c then(0,min b d) else if 0<=a then(0,b) else if 0<=c then(0,d) else(-nZ a b c d,nZ a b c d-1)
theorem aC4 (a b c d:Int)(w:World)(ha:eU a)(hb:eU b)(hc:eU c)(hd:eU d) :
  Calls Tryz.prog 191 #[.agg #[.int .i64 a,.int .i64 b],.agg #[.int .i64 c,.int .i64 d]] w fun e w'=>e=.returned (.agg #[.int .i64 (eX a b c d).1,.int .i64 (eX a b c d).2])/\Below w.heap.size w w':=by
 by_cases h1:0<=a
 ·have e1:decide (0<=a)=true:=by simp[h1]
  by_cases h2:0<=c
  ·rw[show eX a b c d=(0,min b d) by simp[eX,h1,h2]]
   go_enter Tryz.func191,Tryz.ntmps191
   go_wp2
   all_goals exact bodyPost_ret (v:=.agg #[.int .i64 0,.int .i64 (min b d)]) (by simp[results,Tryz.results191,go_sem];omega) rfl ⟨rfl,uZ _ _ _ _ _⟩
  ·rw[show eX a b c d=(0,b) by simp[eX,h1,h2]]
   go_enter Tryz.func191,Tryz.ntmps191
   go_wp2
   exact bodyPost_ret (v:=.agg #[.int .i64 0,.int .i64 b]) (by simp[results,Tryz.results191,go_sem]) rfl ⟨rfl,uZ _ _ _ _ _⟩
 ·have e1:decide (0<=a)=false:=by simp;omega
  by_cases h2:0<=c
  ·rw[show eX a b c d=(0,d) by simp[eX,h1,h2]]
   go_enter Tryz.func191,Tryz.ntmps191
   go_wp2
   exact bodyPost_ret (v:=.agg #[.int .i64 0,.int .i64 d]) (by simp[results,Tryz.results191,go_sem]) rfl ⟨rfl,uZ _ _ _ _ _⟩
  ·rw[show eX a b c d=(-nZ a b c d,nZ a b c d-1) by simp[eX,h1,h2]]
   have HA:=fun w=>aA (wB a b c d w ha hb hc hd)
   generalize nZ a b c d=p at *
   go_enter Tryz.func191,Tryz.ntmps191
   go_wp2_with fail
   refine(HA _).o.mono ?_
   rintro e w2 ⟨rfl,hb2⟩
   obtain⟨-,-,h3,hB⟩:=nC hb2
   obtain⟨s1,s2,s3,s4⟩:=aG h3
   go_wp2_with fail
   obtain⟨c0,c1,hB2⟩:=aI h3 hB (by omega) (-p) (p-1)
   exact bodyPost_ret (v:=.agg #[.int .i64 (-p),.int .i64 (p-1)]) (by simp[results,Tryz.results191,go_sem,c0,c1]) rfl ⟨rfl,hB2⟩
end Go.Proofs.Spn
namespace Go.Proofs.Spn
open Go.RowKit Go.IntWalk Go.Sort
def nQ (op a b c d:Int):Int × Int:=if a < 0\/c < 0 then(-nZ a b c d,nZ a b c d-1) else if op=16 then(max a c,nZ a b c d-1) else(0,nZ a b c d-1)
theorem kZ {w w2:World}{t:TypeId}{x y:Value}{x' y':Int}{b:Nat}(h:aB w2 b t #[x,y])(hB:Below w.heap.size w w2) :
  aB (w2.alloc (.cells #[.int .i64 x',.int .i64 y'] 74)) b t #[x,y]/\aB (w2.alloc (.cells #[.int .i64 x',.int .i64 y'] 74)) w2.heap.size 74 #[.int .i64 x',.int .i64 y']/\Below w.heap.size w (w2.alloc (.cells #[.int .i64 x',.int .i64 y'] 74)) :=
 ⟨h.alloc _,aB.new _ _ _,hB.alloc hB.size _⟩
theorem wM (op a b c d:Int)(w:World)(ha:eU a)(hb:eU b)(hc:eU c)(hd:eU d) :
  Calls Tryz.prog 240 #[.int .i64 op,.agg #[.int .i64 a,.int .i64 b],.agg #[.int .i64 c,.int .i64 d]] w fun e w'=>e=.returned (.agg #[.int .i64 (nQ op a b c d).1,.int .i64 (nQ op a b c d).2])/\Below w.heap.size w w':=by
 have HA:=fun w=>aA (wB a b c d w ha hb hc hd)
 have HZ:Hid (nQ op a b c d=if a < 0\/c < 0 then(-nZ a b c d,nZ a b c d-1) else if op=16 then(max a c,nZ a b c d-1) else(0,nZ a b c d-1)):=aA rfl
 have hP:=(aE8 ha hb hc hd).2
 generalize nZ a b c d=p at *
 by_cases h1:a < 0
 ·have e1:decide (a < 0)=true:=by simp[h1]
  have hz:=HZ.o
  rw[if_pos (.inl h1)] at hz
  rw[hz]
  clear hz HZ
  go_enter Tryz.func240,Tryz.ntmps240
  go_wp2_with fail
  refine(HA _).o.mono ?_
  rintro e w2 ⟨rfl,hb2⟩
  obtain⟨k1,k2,h3,hB⟩:=nC hb2
  clear hb2
  have f1:=fun x' y':Int=>aG (kZ (x':=x') (y':=y') k1 hB).1
  have f2:=fun x' y':Int=>aG (kZ (x':=x') (y':=y') k2 hB).1
  have f3:=fun x' y':Int=>aG (kZ (x':=x') (y':=y') h3 hB).1
  have q1:=fun x' y'=>(f1 x' y').1
  have q2:=fun x' y'=>(f1 x' y').2.1
  have r1:=fun x' y'=>(f2 x' y').1
  have r2:=fun x' y'=>(f2 x' y').2.1
  have s1:=fun x' y'=>(f3 x' y').1
  have s2:=fun x' y'=>(f3 x' y').2.1
  have s3:=fun x' y'=>(f3 x' y').2.2.1
  have s4:=fun x' y'=>(f3 x' y').2.2.2
  have HB:=aA fun x' y':Int=>(kZ (x':=x') (y':=y') k1 hB).2.2
  have H3:=aA fun x' y':Int=>(kZ (x':=x') (y':=y') h3 hB).1
  clear f1 f2 f3 k1 k2 h3 hB
  go_wp2_with fail
  obtain⟨c0,c1,hB2⟩:=aI (H3.o _ _) (HB.o _ _) (by omega) (-p) (p-1)
  exact bodyPost_ret (v:=.agg #[.int .i64 (-p),.int .i64 (p-1)]) (by simp[results,Tryz.results240,go_sem,c0,c1]) rfl ⟨rfl,hB2⟩
 have e1:decide (a < 0)=false:=by simp;omega
 by_cases h2:c < 0
 ·have hz:=HZ.o
  rw[if_pos (.inr h2)] at hz
  rw[hz]
  clear hz HZ
  go_enter Tryz.func240,Tryz.ntmps240
  go_wp2_with fail
  refine(HA _).o.mono ?_
  rintro e w2 ⟨rfl,hb2⟩
  obtain⟨k1,k2,h3,hB⟩:=nC hb2
  clear hb2
  have f1:=fun x' y':Int=>aG (kZ (x':=x') (y':=y') k1 hB).1
  have f2:=fun x' y':Int=>aG (kZ (x':=x') (y':=y') k2 hB).1
  have f3:=fun x' y':Int=>aG (kZ (x':=x') (y':=y') h3 hB).1
  have q1:=fun x' y'=>(f1 x' y').1
  have q2:=fun x' y'=>(f1 x' y').2.1
  have r1:=fun x' y'=>(f2 x' y').1
  have r2:=fun x' y'=>(f2 x' y').2.1
  have s1:=fun x' y'=>(f3 x' y').1
  have s2:=fun x' y'=>(f3 x' y').2.1
  have s3:=fun x' y'=>(f3 x' y').2.2.1
  have s4:=fun x' y'=>(f3 x' y').2.2.2
  have HB:=aA fun x' y':Int=>(kZ (x':=x') (y':=y') k1 hB).2.2
  have H3:=aA fun x' y':Int=>(kZ (x':=x') (y':=y') h3 hB).1
  clear f1 f2 f3 k1 k2 h3 hB
  go_wp2_with fail
  obtain⟨c0,c1,hB2⟩:=aI (H3.o _ _) (HB.o _ _) (by omega) (-p) (p-1)
  exact bodyPost_ret (v:=.agg #[.int .i64 (-p),.int .i64 (p-1)]) (by simp[results,Tryz.results240,go_sem,c0,c1]) rfl ⟨rfl,hB2⟩
 have h12:¬(a < 0\/c < 0):=by omega
 by_cases h0:op=16
 ·subst h0
  have hz:=HZ.o
  rw[if_neg h12,if_pos rfl] at hz
  rw[hz]
  clear hz HZ
  go_enter Tryz.func240,Tryz.ntmps240
  go_wp2_with fail
  refine(HA _).o.mono ?_
  rintro e w2 ⟨rfl,hb2⟩
  obtain⟨k1,k2,h3,hB⟩:=nC hb2
  clear hb2
  have f1:=fun x' y':Int=>aG (kZ (x':=x') (y':=y') k1 hB).1
  have f2:=fun x' y':Int=>aG (kZ (x':=x') (y':=y') k2 hB).1
  have f3:=fun x' y':Int=>aG (kZ (x':=x') (y':=y') h3 hB).1
  have q1:=fun x' y'=>(f1 x' y').1
  have q2:=fun x' y'=>(f1 x' y').2.1
  have r1:=fun x' y'=>(f2 x' y').1
  have r2:=fun x' y'=>(f2 x' y').2.1
  have s1:=fun x' y'=>(f3 x' y').1
  have s2:=fun x' y'=>(f3 x' y').2.1
  have s3:=fun x' y'=>(f3 x' y').2.2.1
  have s4:=fun x' y'=>(f3 x' y').2.2.2
  have HB:=aA fun x' y':Int=>(kZ (x':=x') (y':=y') k1 hB).2.2
  have H3:=aA fun x' y':Int=>(kZ (x':=x') (y':=y') h3 hB).1
  clear f1 f2 f3 k1 k2 h3 hB
  go_wp2_with fail
  ·obtain⟨c0,c1,hB2⟩:=aI (H3.o _ _) (HB.o _ _) (by omega) c (p-1)
   exact bodyPost_ret (v:=.agg #[.int .i64 c,.int .i64 (p-1)]) (by simp[results,Tryz.results240,go_sem,c0,c1]) rfl ⟨aEj (by omega) rfl,hB2⟩
  ·obtain⟨c0,c1,hB2⟩:=aI (H3.o _ _) (HB.o _ _) (by omega) a (p-1)
   exact bodyPost_ret (v:=.agg #[.int .i64 a,.int .i64 (p-1)]) (by simp[results,Tryz.results240,go_sem,c0,c1]) rfl ⟨aEj (by omega) rfl,hB2⟩
 ·have e0:(op==16)=false:=by simp[h0]
  have hz:=HZ.o
  rw[if_neg h12,if_neg h0] at hz
  rw[hz]
  clear hz HZ
  go_enter Tryz.func240,Tryz.ntmps240
  go_wp2_with fail
  refine(HA _).o.mono ?_
  rintro e w2 ⟨rfl,hb2⟩
  obtain⟨k1,k2,h3,hB⟩:=nC hb2
  clear hb2
  have f1:=fun x' y':Int=>aG (kZ (x':=x') (y':=y') k1 hB).1
  have f2:=fun x' y':Int=>aG (kZ (x':=x') (y':=y') k2 hB).1
  have f3:=fun x' y':Int=>aG (kZ (x':=x') (y':=y') h3 hB).1
  have q1:=fun x' y'=>(f1 x' y').1
  have q2:=fun x' y'=>(f1 x' y').2.1
  have r1:=fun x' y'=>(f2 x' y').1
  have r2:=fun x' y'=>(f2 x' y').2.1
  have s1:=fun x' y'=>(f3 x' y').1
  have s2:=fun x' y'=>(f3 x' y').2.1
  have s3:=fun x' y'=>(f3 x' y').2.2.1
  have s4:=fun x' y'=>(f3 x' y').2.2.2
  have HB:=aA fun x' y':Int=>(kZ (x':=x') (y':=y') k1 hB).2.2
  have H3:=aA fun x' y':Int=>(kZ (x':=x') (y':=y') h3 hB).1
  clear f1 f2 f3 k1 k2 h3 hB
  go_wp2_with fail
  obtain⟨c0,c1,hB2⟩:=aI (H3.o _ _) (HB.o _ _) (by omega) 0 (p-1)
  exact bodyPost_ret (v:=.agg #[.int .i64 0,.int .i64 (p-1)]) (by simp[results,Tryz.results240,go_sem,c0,c1]) rfl ⟨rfl,hB2⟩
def qI (a b c d:Int):Int × Int:=if b < c\/d < a then(0,0) else if a=c/\b=d/\a=b then(1,1) else(0,1)
theorem qM {w W:World}{b1 b2 b3:Nat}{a b c d x y:Int}(k1:aB W b1 74 #[.int .i64 a,.int .i64 b])(k2:aB W b2 74 #[.int .i64 c,.int .i64 d])(k3:aB W b3 74 #[.int .i64 x,.int .i64 y])(hB:Below w.heap.size w W)(dq:Nat)(os:Array Obj) :
  aB (grow (redrawn W dq) os) b1 74 #[.int .i64 a,.int .i64 b]/\aB (grow (redrawn W dq) os) b2 74 #[.int .i64 c,.int .i64 d]/\aB (grow (redrawn W dq) os) b3 74 #[.int .i64 x,.int .i64 y]/\Below w.heap.size w (grow (redrawn W dq) os) :=
 ⟨k1.below (below_regrown _ _ _),k2.below (below_regrown _ _ _),k3.below (below_regrown _ _ _),bel hB (below_regrown _ _ _)⟩
theorem zW (a b c d:Int)(w:World) :
  Calls Tryz.prog 241 #[.agg #[.int .i64 a,.int .i64 b],.agg #[.int .i64 c,.int .i64 d]] w fun e w'=>e=.returned (.agg #[.int .i64 (qI a b c d).1,.int .i64 (qI a b c d).2])/\Below w.heap.size w w':=by
 by_cases h1:b < c
 ·have e1:decide (b < c)=true:=by simp[h1]
  rw[show qI a b c d=(0,0) by simp[qI,h1]]
  go_enter Tryz.func241,Tryz.ntmps241
  go_wp2_with fail
  refine(dF _ _).mono ?_
  rintro e w2 ⟨rfl,hb2⟩
  obtain⟨-,-,h3,hB⟩:=nC hb2
  obtain⟨s1,s2,s3,s4⟩:=aG h3
  go_wp2_with fail
  obtain⟨c0,c1,hB2⟩:=aI h3 hB (by omega) 0 0
  exact bodyPost_ret (v:=.agg #[.int .i64 0,.int .i64 0]) (by simp[results,Tryz.results241,go_sem,c0,c1]) rfl ⟨rfl,hB2⟩
 have e1:decide (b < c)=false:=by simp;omega
 by_cases h2:d < a
 ·rw[show qI a b c d=(0,0) by simp[qI,h2]]
  go_enter Tryz.func241,Tryz.ntmps241
  go_wp2_with fail
  refine(dF _ _).mono ?_
  rintro e w2 ⟨rfl,hb2⟩
  obtain⟨-,-,h3,hB⟩:=nC hb2
  obtain⟨s1,s2,s3,s4⟩:=aG h3
  go_wp2_with fail
  obtain⟨c0,c1,hB2⟩:=aI h3 hB (by omega) 0 0
  exact bodyPost_ret (v:=.agg #[.int .i64 0,.int .i64 0]) (by simp[results,Tryz.results241,go_sem,c0,c1]) rfl ⟨rfl,hB2⟩
 have hap:¬(b < c\/d < a):=by omega
 by_cases h3:a=c
 ·subst h3
  by_cases h5:b=d
  ·subst h5
   by_cases h4:a=b
   ·subst h4
    rw[show qI a a a a=(1,1) by simp[qI]]
    go_enter Tryz.func241,Tryz.ntmps241
    go_wp2_with fail
    obtain⟨k1,k2,k3,hB⟩:=nC (w:=w) (a:=a) (b:=a) (c:=a) (d:=a) (x:=0) (y:=0) (Below.refl _ _)
    obtain⟨W,hW⟩:∃ W,((w.alloc (.cells #[.int .i64 a,.int .i64 a] 74)).alloc (.cells #[.int .i64 a,.int .i64 a] 74)).alloc (.cells #[.int .i64 0,.int .i64 0] 74)=W:=⟨_,rfl⟩
    rw[hW] at k1 k2 k3 hB ⊢
    clear hW
    obtain⟨q1,q2,-,-⟩:=aG k1
    obtain⟨r1,r2,-,-⟩:=aG k2
    have m1:=cell_regrown q1
    have m2:=cell_regrown q2
    have m3:=cell_regrown r1
    have m4:=cell_regrown r2
    refine wp_region_quiet_below mixed (by kernel_rfl) ?_
    repeat (go_big_quiet_step ((go_at_call 190;exact Calls.regrown_of (dF _ _))))
    refine wpQuiet_nil ?_
    intro _ hw'
    obtain⟨⟨dq,osq⟩,hw''⟩:=hw'
    subst hw''
    obtain⟨-,-,k4,hB4⟩:=qM k1 k2 k3 hB dq osq
    clear k1 k2 k3 hB q1 q2 r1 r2 m1 m2 m3 m4
    simp only
    generalize grow (redrawn W dq) osq=G at *
    go_wp2_with fail
    refine(dF _ _).mono ?_
    rintro e w2 ⟨rfl,hb2⟩
    have h3:=k4.below hb2
    have hB:=bel hB4 hb2
    obtain⟨s1,s2,s3,s4⟩:=aG h3
    clear hb2 k4 hB4
    go_wp2_with fail
    obtain⟨c0,c1,hB2⟩:=aI h3 hB (by omega) 1 1
    exact bodyPost_ret (v:=.agg #[.int .i64 1,.int .i64 1]) (by simp[results,Tryz.results241,go_sem,c0,c1]) rfl ⟨rfl,hB2⟩
   ·rw[show qI a b a b=(0,1) by simp[qI,h4];omega]
    have e4:(b==a)=false:=by simp;omega
    have e5:(a==b)=false:=by simp;omega
    clear h4
    go_enter Tryz.func241,Tryz.ntmps241
    go_wp2_with fail
    obtain⟨k1,k2,k3,hB⟩:=nC (w:=w) (a:=a) (b:=b) (c:=a) (d:=b) (x:=0) (y:=0) (Below.refl _ _)
    obtain⟨W,hW⟩:∃ W,((w.alloc (.cells #[.int .i64 a,.int .i64 b] 74)).alloc (.cells #[.int .i64 a,.int .i64 b] 74)).alloc (.cells #[.int .i64 0,.int .i64 0] 74)=W:=⟨_,rfl⟩
    rw[hW] at k1 k2 k3 hB ⊢
    clear hW
    obtain⟨q1,q2,-,-⟩:=aG k1
    obtain⟨r1,r2,-,-⟩:=aG k2
    have m1:=cell_regrown q1
    have m2:=cell_regrown q2
    have m3:=cell_regrown r1
    have m4:=cell_regrown r2
    refine wp_region_quiet_below mixed (by kernel_rfl) ?_
    repeat (go_big_quiet_step ((go_at_call 190;exact Calls.regrown_of (dF _ _))))
    refine wpQuiet_nil ?_
    intro _ hw'
    obtain⟨⟨dq,osq⟩,hw''⟩:=hw'
    subst hw''
    obtain⟨-,-,k4,hB4⟩:=qM k1 k2 k3 hB dq osq
    clear k1 k2 k3 hB q1 q2 r1 r2 m1 m2 m3 m4
    simp only
    generalize grow (redrawn W dq) osq=G at *
    obtain⟨s1,s2,s3,s4⟩:=aG k4
    go_wp2_with fail
    obtain⟨c0,c1,hB2⟩:=aI k4 hB4 (by omega) 0 1
    exact bodyPost_ret (v:=.agg #[.int .i64 0,.int .i64 1]) (by simp[results,Tryz.results241,go_sem,c0,c1]) rfl ⟨rfl,hB2⟩
  ·rw[show qI a b a d=(0,1) by simp[qI,h5];omega]
   have e4:(b==d)=false:=by simp;omega
   clear h5
   go_enter Tryz.func241,Tryz.ntmps241
   go_wp2_with fail
   obtain⟨k1,k2,k3,hB⟩:=nC (w:=w) (a:=a) (b:=b) (c:=a) (d:=d) (x:=0) (y:=0) (Below.refl _ _)
   obtain⟨W,hW⟩:∃ W,((w.alloc (.cells #[.int .i64 a,.int .i64 b] 74)).alloc (.cells #[.int .i64 a,.int .i64 d] 74)).alloc (.cells #[.int .i64 0,.int .i64 0] 74)=W:=⟨_,rfl⟩
   rw[hW] at k1 k2 k3 hB ⊢
   clear hW
   obtain⟨q1,q2,-,-⟩:=aG k1
   obtain⟨r1,r2,-,-⟩:=aG k2
   have m1:=cell_regrown q1
   have m2:=cell_regrown q2
   have m3:=cell_regrown r1
   have m4:=cell_regrown r2
   refine wp_region_quiet_below mixed (by kernel_rfl) ?_
   repeat (go_big_quiet_step ((go_at_call 190;exact Calls.regrown_of (dF _ _))))
   refine wpQuiet_nil ?_
   intro _ hw'
   obtain⟨⟨dq,osq⟩,hw''⟩:=hw'
   subst hw''
   obtain⟨-,-,k4,hB4⟩:=qM k1 k2 k3 hB dq osq
   clear k1 k2 k3 hB q1 q2 r1 r2 m1 m2 m3 m4
   simp only
   generalize grow (redrawn W dq) osq=G at *
   obtain⟨s1,s2,s3,s4⟩:=aG k4
   go_wp2_with fail
   obtain⟨c0,c1,hB2⟩:=aI k4 hB4 (by omega) 0 1
   exact bodyPost_ret (v:=.agg #[.int .i64 0,.int .i64 1]) (by simp[results,Tryz.results241,go_sem,c0,c1]) rfl ⟨rfl,hB2⟩
 ·rw[show qI a b c d=(0,1) by simp[qI,h3];omega]
  have e4:(a==c)=false:=by simp;omega
  clear h3
  go_enter Tryz.func241,Tryz.ntmps241
  go_wp2_with fail
  obtain⟨k1,k2,k3,hB⟩:=nC (w:=w) (a:=a) (b:=b) (c:=c) (d:=d) (x:=0) (y:=0) (Below.refl _ _)
  obtain⟨W,hW⟩:∃ W,((w.alloc (.cells #[.int .i64 a,.int .i64 b] 74)).alloc (.cells #[.int .i64 c,.int .i64 d] 74)).alloc (.cells #[.int .i64 0,.int .i64 0] 74)=W:=⟨_,rfl⟩
  rw[hW] at k1 k2 k3 hB ⊢
  clear hW
  obtain⟨q1,q2,-,-⟩:=aG k1
  obtain⟨r1,r2,-,-⟩:=aG k2
  have m1:=cell_regrown q1
  have m2:=cell_regrown q2
  have m3:=cell_regrown r1
  have m4:=cell_regrown r2
  refine wp_region_quiet_below mixed (by kernel_rfl) ?_
  repeat (go_big_quiet_step ((go_at_call 190;exact Calls.regrown_of (dF _ _))))
  refine wpQuiet_nil ?_
  intro _ hw'
  obtain⟨⟨dq,osq⟩,hw''⟩:=hw'
  subst hw''
  obtain⟨-,-,k4,hB4⟩:=qM k1 k2 k3 hB dq osq
  clear k1 k2 k3 hB q1 q2 r1 r2 m1 m2 m3 m4
  simp only
  generalize grow (redrawn W dq) osq=G at *
  obtain⟨s1,s2,s3,s4⟩:=aG k4
  go_wp2_with fail
  obtain⟨c0,c1,hB2⟩:=aI k4 hB4 (by omega) 0 1
  exact bodyPost_ret (v:=.agg #[.int .i64 0,.int .i64 1]) (by simp[results,Tryz.results241,go_sem,c0,c1]) rfl ⟨rfl,hB2⟩
def qG (op a b c d:Int):Int × Int :=
 if op=8 then(a+c,b+d) else if op=9 then(a-d,b-c) else if op=15 then eX a b c d else if op=16\/op=17 then nQ op a b c d else if op=22 then qI a b c d else(1-(qI a b c d).2,1-(qI a b c d).1)
theorem aTf (a b c d:Int):0<=(qI a b c d).1/\(qI a b c d).1<=1/\0<=(qI a b c d).2/\(qI a b c d).2<=1:=by
 unfold qI
 split
 ·simp
 ·split <;> simp
theorem aGj (op a b c d:Int)(w:World)(ha:eU a)(hb:eU b)(hc:eU c)(hd:eU d)(ho:op=8\/op=9\/op=15\/op=16\/op=17\/op=22\/op=23) :
  Calls Tryz.prog 227 #[.int .i64 op,.agg #[.int .i64 a,.int .i64 b],.agg #[.int .i64 c,.int .i64 d]] w fun e w'=>e=.returned (.agg #[.int .i64 (qG op a b c d).1,.int .i64 (qG op a b c d).2])/\Below w.heap.size w w':=by
 rcases ho with rfl|rfl|rfl|rfl|rfl|rfl|rfl
 ·rw[show qG 8 a b c d=(a+c,b+d) from rfl]
  go_enter Tryz.func227,Tryz.ntmps227
  go_wp2
  exact bodyPost_ret (v:=.agg #[.int .i64 (a+c),.int .i64 (b+d)]) (by simp[results,Tryz.results227,go_sem]) rfl ⟨rfl,uZ _ _ _ _ _⟩
 ·rw[show qG 9 a b c d=(a-d,b-c) from rfl]
  go_enter Tryz.func227,Tryz.ntmps227
  go_wp2
  exact bodyPost_ret (v:=.agg #[.int .i64 (a-d),.int .i64 (b-c)]) (by simp[results,Tryz.results227,go_sem]) rfl ⟨rfl,uZ _ _ _ _ _⟩
 ·rw[show qG 15 a b c d=eX a b c d from rfl]
  have HA:=fun w=>aA (aC4 a b c d w ha hb hc hd)
  generalize eX a b c d=Z at *
  obtain⟨x,y⟩:=Z
  go_enter Tryz.func227,Tryz.ntmps227
  go_wp2_with fail
  refine(HA _).o.mono ?_
  rintro e w2 ⟨rfl,hb2⟩
  obtain⟨-,-,h3,hB⟩:=nC hb2
  obtain⟨s1,s2,s3,s4⟩:=aG h3
  clear hb2
  go_wp2_with fail
  obtain⟨c0,c1,hB2⟩:=aI h3 hB (by omega) x y
  exact bodyPost_ret (v:=.agg #[.int .i64 x,.int .i64 y]) (by simp[results,Tryz.results227,go_sem,c0,c1]) rfl ⟨rfl,hB2⟩
 ·rw[show qG 16 a b c d=nQ 16 a b c d from rfl]
  have HA:=fun w=>aA (wM 16 a b c d w ha hb hc hd)
  generalize nQ 16 a b c d=Z at *
  obtain⟨x,y⟩:=Z
  go_enter Tryz.func227,Tryz.ntmps227
  go_wp2_with fail
  refine(HA _).o.mono ?_
  rintro e w2 ⟨rfl,hb2⟩
  obtain⟨-,-,h3,hB⟩:=nC hb2
  obtain⟨s1,s2,s3,s4⟩:=aG h3
  clear hb2
  go_wp2_with fail
  obtain⟨c0,c1,hB2⟩:=aI h3 hB (by omega) x y
  exact bodyPost_ret (v:=.agg #[.int .i64 x,.int .i64 y]) (by simp[results,Tryz.results227,go_sem,c0,c1]) rfl ⟨rfl,hB2⟩
 ·rw[show qG 17 a b c d=nQ 17 a b c d from rfl]
  have HA:=fun w=>aA (wM 17 a b c d w ha hb hc hd)
  generalize nQ 17 a b c d=Z at *
  obtain⟨x,y⟩:=Z
  go_enter Tryz.func227,Tryz.ntmps227
  go_wp2_with fail
  refine(HA _).o.mono ?_
  rintro e w2 ⟨rfl,hb2⟩
  obtain⟨-,-,h3,hB⟩:=nC hb2
  obtain⟨s1,s2,s3,s4⟩:=aG h3
  clear hb2
  go_wp2_with fail
  obtain⟨c0,c1,hB2⟩:=aI h3 hB (by omega) x y
  exact bodyPost_ret (v:=.agg #[.int .i64 x,.int .i64 y]) (by simp[results,Tryz.results227,go_sem,c0,c1]) rfl ⟨rfl,hB2⟩
 ·rw[show qG 22 a b c d=qI a b c d from rfl]
  have HA:=fun w=>aA (zW a b c d w)
  generalize qI a b c d=Z at *
  obtain⟨x,y⟩:=Z
  go_enter Tryz.func227,Tryz.ntmps227
  go_wp2_with fail
  refine(HA _).o.mono ?_
  rintro e w2 ⟨rfl,hb2⟩
  obtain⟨-,-,h3,hB⟩:=nC hb2
  obtain⟨s1,s2,s3,s4⟩:=aG h3
  clear hb2
  go_wp2_with fail
  obtain⟨c0,c1,hB2⟩:=aI h3 hB (by omega) x y
  exact bodyPost_ret (v:=.agg #[.int .i64 x,.int .i64 y]) (by simp[results,Tryz.results227,go_sem,c0,c1]) rfl ⟨rfl,hB2⟩
 ·rw[show qG 23 a b c d=(1-(qI a b c d).2,1-(qI a b c d).1) from rfl]
  have HA:=fun w=>aA (zW a b c d w)
  have h01:=aTf a b c d
  generalize qI a b c d=Z at *
  obtain⟨x,y⟩:=Z
  simp only at h01
  go_enter Tryz.func227,Tryz.ntmps227
  go_wp2_with fail
  refine(HA _).o.mono ?_
  rintro e w2 ⟨rfl,hb2⟩
  obtain⟨-,-,h3,hB⟩:=nC hb2
  have f3:=fun x' y':Int=>aG (kZ (x':=x') (y':=y') h3 hB).1
  have s1:=fun x' y'=>(f3 x' y').1
  have s2:=fun x' y'=>(f3 x' y').2.1
  have s3:=fun x' y'=>(f3 x' y').2.2.1
  have s4:=fun x' y'=>(f3 x' y').2.2.2
  have H3:=aA fun x' y':Int=>(kZ (x':=x') (y':=y') h3 hB)
  clear f3 h3 hB hb2
  go_wp2_with fail
  obtain⟨c0,c1,hB2⟩:=aI (H3.o _ _).1 (H3.o _ _).2.2 (by omega) (1-y) (1-x)
  exact bodyPost_ret (v:=.agg #[.int .i64 (1-y),.int .i64 (1-x)]) (by simp[results,Tryz.results227,go_sem,c0,c1]) rfl ⟨rfl,hB2⟩
def qW (a b c d e f:Int):Int × Int:=if hasB a b 0=true then(if a=0/\b=0 then(e,f) else(min c e,max d f)) else(c,d)
abbrev cs (x y:Int):Obj:=.cells #[.int .i64 x,.int .i64 y] 74
theorem aWg (w:World)(a b c d e f x y:Int):Below w.heap.size w ((((w.alloc (cs a b)).alloc (cs c d)).alloc (cs e f)).alloc (cs x y)) :=
 ((((Below.refl _ _).alloc (Nat.le_refl _) _).alloc (by simp) _).alloc (by simp;omega) _).alloc (by simp;omega) _
theorem aKo {w w2:World}{a b c d e f x y:Int}(h:Below ((((w.alloc (cs a b)).alloc (cs c d)).alloc (cs e f)).alloc (cs x y)).heap.size ((((w.alloc (cs a b)).alloc (cs c d)).alloc (cs e f)).alloc (cs x y)) w2) :
  aB w2 w.heap.size 74 #[.int .i64 a,.int .i64 b]/\aB w2 (w.heap.size+1) 74 #[.int .i64 c,.int .i64 d]/\aB w2 (w.heap.size+1+1) 74 #[.int .i64 e,.int .i64 f]/\aB w2 (w.heap.size+1+1+1) 74 #[.int .i64 x,.int .i64 y]/\Below w.heap.size w w2:=by
 have h1:=((((aB.new w 74 #[.int .i64 a,.int .i64 b]).alloc (cs c d)).alloc (cs e f)).alloc (cs x y)).below h
 have h2:=(((aB.new (w.alloc (cs a b)) 74 #[.int .i64 c,.int .i64 d]).alloc (cs e f)).alloc (cs x y)).below h
 have h3:=((aB.new ((w.alloc (cs a b)).alloc (cs c d)) 74 #[.int .i64 e,.int .i64 f]).alloc (cs x y)).below h
 have h4:=(aB.new (((w.alloc (cs a b)).alloc (cs c d)).alloc (cs e f)) 74 #[.int .i64 x,.int .i64 y]).below h
 simp only[World.size_alloc] at h2 h3 h4
 exact⟨h1,h2,h3,h4,bel (aWg _ _ _ _ _ _ _ _ _) h⟩
theorem aEn (a b c d e f:Int)(w:World) :
  Calls Tryz.prog 228 #[.agg #[.int .i64 a,.int .i64 b],.agg #[.int .i64 c,.int .i64 d],.agg #[.int .i64 e,.int .i64 f]] w fun r w'=>r=.returned (.agg #[.int .i64 (qW a b c d e f).1,.int .i64 (qW a b c d e f).2])/\Below w.heap.size w w':=by
 have HH:=fun w=>aA (aHe a b 0 w)
 cases h0:hasB a b 0
 ·rw[show qW a b c d e f=(c,d) by simp[qW,h0]]
  rw[h0] at HH
  go_enter Tryz.func228,Tryz.ntmps228
  go_wp2_with fail
  refine(HH _).o.mono ?_
  rintro r w2 ⟨rfl,hb2⟩
  obtain⟨k1,k2,k3,h3,hB⟩:=aKo hb2
  obtain⟨q1,q2,-,-⟩:=aG k2
  obtain⟨s1,s2,s3,s4⟩:=aG h3
  clear hb2 k1 k3
  go_wp2_with fail
  obtain⟨c0,c1,hB2⟩:=aI h3 hB (by omega) c d
  exact bodyPost_ret (v:=.agg #[.int .i64 c,.int .i64 d]) (by simp[results,Tryz.results228,go_sem,c0,c1]) rfl ⟨rfl,hB2⟩
 ·rw[h0] at HH
  have HZ:Hid (qW a b c d e f=if a=0/\b=0 then(e,f) else(min c e,max d f)):=aA (by simp[qW,h0])
  clear h0
  by_cases h1:a=0
  ·subst h1
   by_cases h2:b=0
   ·subst h2
    have hz:=HZ.o
    rw[if_pos ⟨rfl,rfl⟩] at hz
    rw[hz]
    clear hz HZ
    go_enter Tryz.func228,Tryz.ntmps228
    go_wp2_with fail
    refine(HH _).o.mono ?_
    rintro r W ⟨rfl,hb2⟩
    obtain⟨k1,k2,k3,h3,hB⟩:=aKo hb2
    clear hb2
    obtain⟨q1,q2,-,-⟩:=aG k1
    go_wp2_with fail
    have m1:=cell_regrown q1
    have m2:=cell_regrown q2
    refine wp_region_quiet_below mixed (by kernel_rfl) ?_
    repeat (go_big_quiet_step ((go_at_call 190;exact Calls.regrown_of (dF _ _))))
    refine wpQuiet_nil ?_
    intro _ hw'
    obtain⟨⟨dq,osq⟩,hw''⟩:=hw'
    subst hw''
    obtain⟨K2,K3,K4,hB4⟩:=qM k2 k3 h3 hB dq osq
    clear k1 k2 k3 h3 hB q1 q2 m1 m2
    simp only
    generalize grow (redrawn W dq) osq=G at *
    obtain⟨p1,p2,-,-⟩:=aG K2
    obtain⟨q1,q2,-,-⟩:=aG K3
    obtain⟨s1,s2,s3,s4⟩:=aG K4
    go_wp2_with fail
    obtain⟨c0,c1,hB2⟩:=aI K4 hB4 (by omega) e f
    exact bodyPost_ret (v:=.agg #[.int .i64 e,.int .i64 f]) (by simp[results,Tryz.results228,go_sem,c0,c1]) rfl ⟨rfl,hB2⟩
   ·have e1:(b==0)=false:=by simp[h2]
    have hz:=HZ.o
    rw[if_neg (by omega)] at hz
    rw[hz]
    clear hz HZ h2
    go_enter Tryz.func228,Tryz.ntmps228
    go_wp2_with fail
    refine(HH _).o.mono ?_
    rintro r W ⟨rfl,hb2⟩
    obtain⟨k1,k2,k3,h3,hB⟩:=aKo hb2
    clear hb2
    obtain⟨q1,q2,-,-⟩:=aG k1
    go_wp2_with fail
    have m1:=cell_regrown q1
    have m2:=cell_regrown q2
    refine wp_region_quiet_below mixed (by kernel_rfl) ?_
    repeat (go_big_quiet_step ((go_at_call 190;exact Calls.regrown_of (dF _ _))))
    refine wpQuiet_nil ?_
    intro _ hw'
    obtain⟨⟨dq,osq⟩,hw''⟩:=hw'
    subst hw''
    obtain⟨K2,K3,K4,hB4⟩:=qM k2 k3 h3 hB dq osq
    clear k1 k2 k3 h3 hB q1 q2 m1 m2
    simp only
    generalize grow (redrawn W dq) osq=G at *
    obtain⟨p1,p2,-,-⟩:=aG K2
    obtain⟨q1,q2,-,-⟩:=aG K3
    obtain⟨s1,s2,s3,s4⟩:=aG K4
    go_wp2_with fail
    refine(xE _ _ _ _ _).mono ?_
    rintro r w2 ⟨rfl,hb2⟩
    have h3:=K4.below hb2
    have hB:=bel hB4 hb2
    clear s1 s2 s3 s4
    obtain⟨s1,s2,s3,s4⟩:=aG h3
    clear hb2 K4 hB4
    obtain⟨x,hx⟩:∃ x,min c e=x:=⟨_,rfl⟩
    obtain⟨y,hy⟩:∃ y,max d f=y:=⟨_,rfl⟩
    rw[hx,hy]
    have HX:=aA hx
    have HY:=aA hy
    clear hx hy
    go_wp2_with fail
    obtain⟨c0,c1,hB2⟩:=aI h3 hB (by omega) x y
    exact bodyPost_ret (v:=.agg #[.int .i64 x,.int .i64 y]) (by simp[results,Tryz.results228,go_sem,c0,c1]) rfl ⟨by rw[HX.o,HY.o],hB2⟩
  ·have e1:(a==0)=false:=by simp[h1]
   have hz:=HZ.o
   rw[if_neg (by omega)] at hz
   rw[hz]
   clear hz HZ h1
   go_enter Tryz.func228,Tryz.ntmps228
   go_wp2_with fail
   refine(HH _).o.mono ?_
   rintro r W ⟨rfl,hb2⟩
   obtain⟨k1,k2,k3,h3,hB⟩:=aKo hb2
   clear hb2
   obtain⟨q1,q2,-,-⟩:=aG k1
   go_wp2_with fail
   have m1:=cell_regrown q1
   have m2:=cell_regrown q2
   refine wp_region_quiet_below mixed (by kernel_rfl) ?_
   repeat (go_big_quiet_step ((go_at_call 190;exact Calls.regrown_of (dF _ _))))
   refine wpQuiet_nil ?_
   intro _ hw'
   obtain⟨⟨dq,osq⟩,hw''⟩:=hw'
   subst hw''
   obtain⟨K2,K3,K4,hB4⟩:=qM k2 k3 h3 hB dq osq
   clear k1 k2 k3 h3 hB q1 q2 m1 m2
   simp only
   generalize grow (redrawn W dq) osq=G at *
   obtain⟨p1,p2,-,-⟩:=aG K2
   obtain⟨q1,q2,-,-⟩:=aG K3
   obtain⟨s1,s2,s3,s4⟩:=aG K4
   go_wp2_with fail
   refine(xE _ _ _ _ _).mono ?_
   rintro r w2 ⟨rfl,hb2⟩
   have h3:=K4.below hb2
   have hB:=bel hB4 hb2
   clear s1 s2 s3 s4
   obtain⟨s1,s2,s3,s4⟩:=aG h3
   clear hb2 K4 hB4
   obtain⟨x,hx⟩:∃ x,min c e=x:=⟨_,rfl⟩
   obtain⟨y,hy⟩:∃ y,max d f=y:=⟨_,rfl⟩
   rw[hx,hy]
   have HX:=aA hx
   have HY:=aA hy
   clear hx hy
   go_wp2_with fail
   obtain⟨c0,c1,hB2⟩:=aI h3 hB (by omega) x y
   exact bodyPost_ret (v:=.agg #[.int .i64 x,.int .i64 y]) (by simp[results,Tryz.results228,go_sem,c0,c1]) rfl ⟨by rw[HX.o,HY.o],hB2⟩
end Go.Proofs.Spn
