import Derived.Test.YtijbmdmeiancgaaGreatXH
import Derived.Lib.BitFns
import Derived.BigQuiet
import Derived.BigRegion
import Derived.Test.YtijbmdmeiancgaaGreatX02
set_option maxRecDepth 100000
set_option maxHeartbeats 32000000
set_option linter.unusedVariables false
namespace Go.Proofs.Spn
open Go.RowKit Go.IntWalk
abbrev kQ:=Option Bool
abbrev kQ.and:kQ:=none
abbrev kQ.or:kQ:=some false
abbrev kQ.xor:kQ:=some true
def kQ.op (o:kQ):BinOp:=match o with|none=>.and|some false=>.or|some true=>.xor
def kQ.bv (o:kQ)(x y:BitVec 64):BitVec 64:=match o with|none=>x &&& y|some false=>x ||| y|some true=>x ^^^ y
def kQ.dig (o:kQ)(p q:Int):Int:=match o with|none=>p*q|some false=>p+q-p*q|some true=>(p+q) % 2
def bw (o:kQ)(a b:Int):Int:=bits o.op .i64 a b
theorem gJ (o:kQ)(a b:Int):bw o a b=(o.bv (BitVec.ofInt 64 a) (BitVec.ofInt 64 b)).toInt:=by
 have h:bw o a b=IntKind.i64.wrap ((o.bv (BitVec.ofInt 64 a) (BitVec.ofInt 64 b)).toNat:Int):=by rcases o with _|_|_ <;> rfl
 rw[h]
 generalize o.bv (BitVec.ofInt 64 a) (BitVec.ofInt 64 b)=z
 have h1:=z.isLt
 rw[BitVec.toInt_eq_toNat_cond]
 simp[IntKind.wrap,IntKind.bits,IntKind.signed]
 split <;> omega
theorem aMt (z:BitVec 64):z.toInt=(z.toNat % 2:Nat)+2*(z.sshiftRight 1).toInt:=by
 rw[BitVec.toInt_sshiftRight,Int.shiftRight_eq_div_pow,BitVec.toInt_eq_toNat_cond]
 split <;> omega
theorem uS (a:Int)(ha:-9223372036854775808<=a/\a<=9223372036854775807):(BitVec.ofInt 64 a).sshiftRight 1=BitVec.ofInt 64 (a / 2):=by
 apply BitVec.eq_of_toInt_eq
 rw[BitVec.toInt_sshiftRight,Int.shiftRight_eq_div_pow,BitVec.toInt_ofInt,BitVec.toInt_ofInt]
 simp only[Int.bmod]
 omega
theorem wX (a:Int):(((BitVec.ofInt 64 a).toNat % 2:Nat):Int)=a % 2:=by
 rw[BitVec.toNat_ofInt]
 omega
theorem aMq (o:kQ)(x y:BitVec 64):(((o.bv x y).toNat % 2:Nat):Int)=o.dig ((x.toNat % 2:Nat):Int) ((y.toNat % 2:Nat):Int):=by
 have hx:x.toNat % 2=0\/x.toNat % 2=1:=by omega
 have hy:y.toNat % 2=0\/y.toNat % 2=1:=by omega
 rcases o with _|_|_
 ·have h:(x.toNat &&& y.toNat) % 2=(x.toNat % 2)*(y.toNat % 2):=by
   have h1:=Nat.and_mod_two_eq_one (a:=x.toNat) (b:=y.toNat)
   rcases hx with hx|hx <;> rcases hy with hy|hy <;> rw[hx,hy] at h1 ⊢ <;> omega
  show (((x &&& y).toNat % 2:Nat):Int)=_
  rw[BitVec.toNat_and,h]
  rcases hx with hx|hx <;> rcases hy with hy|hy <;> rw[hx,hy] <;> decide
 ·have h:(x.toNat ||| y.toNat) % 2=x.toNat % 2+y.toNat % 2-(x.toNat % 2)*(y.toNat % 2):=by
   have h1:=Nat.or_mod_two_eq_one (a:=x.toNat) (b:=y.toNat)
   rcases hx with hx|hx <;> rcases hy with hy|hy <;> rw[hx,hy] at h1 ⊢ <;> omega
  show (((x ||| y).toNat % 2:Nat):Int)=_
  rw[BitVec.toNat_or,h]
  rcases hx with hx|hx <;> rcases hy with hy|hy <;> rw[hx,hy] <;> decide
 ·have h:(x.toNat ^^^ y.toNat) % 2=(x.toNat % 2+y.toNat % 2) % 2:=by
   have h1:=Nat.xor_mod_two_eq_one (a:=x.toNat) (b:=y.toNat)
   rcases hx with hx|hx <;> rcases hy with hy|hy <;> rw[hx,hy] at h1 ⊢ <;> omega
  show (((x ^^^ y).toNat % 2:Nat):Int)=_
  rw[BitVec.toNat_xor,h]
  rcases hx with hx|hx <;> rcases hy with hy|hy <;> rw[hx,hy] <;> decide
theorem aOp (o:kQ)(x y:BitVec 64):(o.bv x y).sshiftRight 1=o.bv (x.sshiftRight 1) (y.sshiftRight 1):=by
 rcases o with _|_|_
 ·exact BitVec.sshiftRight_and_distrib ..
 ·exact BitVec.sshiftRight_or_distrib ..
 ·exact BitVec.sshiftRight_xor_distrib ..
theorem mY (o:kQ)(a b:Int)(ha:-9223372036854775808<=a/\a<=9223372036854775807)(hb:-9223372036854775808<=b/\b<=9223372036854775807) :
  bw o a b=o.dig (a % 2) (b % 2)+2*bw o (a / 2) (b / 2):=by
 rw[gJ,gJ,aMt,aOp,uS a ha,uS b hb,aMq,wX,wX]
theorem jD (a:Int):a % 2=0\/a % 2=1:=by omega
theorem aGi (P:Int->Int->Prop)(h0:P 0 0)(h1:P 0 (-1))(h2:P (-1) 0)(h3:P (-1) (-1))
  (hs:∀ a b:Int,(-9223372036854775808<=a/\a<=9223372036854775807)->(-9223372036854775808<=b/\b<=9223372036854775807)->P (a / 2) (b / 2)->P a b) :
  ∀ n:Nat,n<=63->∀ a b:Int,(-(2 ^ n:Nat)<=a/\a < (2 ^ n:Nat))->(-(2 ^ n:Nat)<=b/\b < (2 ^ n:Nat))->P a b:=by
 intro n
 induction n with
 | zero =>
  intro _ a b ha hb
  have ha':a=0\/a=-1:=by simp at ha;omega
  have hb':b=0\/b=-1:=by simp at hb;omega
  rcases ha' with rfl|rfl <;> rcases hb' with rfl|rfl <;> assumption
 | succ n ih =>
  intro hn a b ha hb
  have hp:2 ^ (n+1)<=2 ^ 63:=Nat.pow_le_pow_right (by decide) hn
  rw[Nat.pow_succ] at ha hb hp
  exact hs a b (by omega) (by omega) (ih (by omega) _ _ (by omega) (by omega))
theorem aEf (P:Int->Int->Prop)(h0:P 0 0)(h1:P 0 (-1))(h2:P (-1) 0)(h3:P (-1) (-1))
  (hs:∀ a b:Int,(-9223372036854775808<=a/\a<=9223372036854775807)->(-9223372036854775808<=b/\b<=9223372036854775807)->P (a / 2) (b / 2)->P a b)
  {a b:Int} (ha:-2147483648<=a/\a<=2147483647) (hb:-2147483648<=b/\b<=2147483647):P a b :=
 aGi P h0 h1 h2 h3 hs 31 (by decide) a b (by omega) (by omega)
theorem aC6 (o:kQ)(a b:Int):0<=o.dig (a % 2) (b % 2)/\o.dig (a % 2) (b % 2)<=1:=by
 rcases o with _|_|_ <;> simp only[kQ.dig] <;> rcases jD a with e|e <;> rcases jD b with f|f <;> rw[e,f] <;> decide
theorem aAs (o:kQ)(n:Nat)(hn:n<=63)(a b:Int)(ha:-(2 ^ n:Nat)<=a/\a < (2 ^ n:Nat))(hb:-(2 ^ n:Nat)<=b/\b < (2 ^ n:Nat)):-((2 ^ n:Nat):Int)<=bw o a b/\bw o a b < (2 ^ n:Nat):=by
 induction n generalizing a b with
 | zero =>
  have ha':a=0\/a=-1:=by simp at ha;omega
  have hb':b=0\/b=-1:=by simp at hb;omega
  rcases ha' with rfl|rfl <;> rcases hb' with rfl|rfl <;> rcases o with _|_|_ <;> decide
 | succ n ih =>
  have hp:2 ^ (n+1)<=2 ^ 63:=Nat.pow_le_pow_right (by decide) hn
  rw[Nat.pow_succ] at ha hb hp ⊢
  have h:=ih (by omega) (a / 2) (b / 2) (by omega) (by omega)
  have h2:=aC6 o a b
  rw[mY o a b (by omega) (by omega)]
  omega
theorem aR0 (o:kQ){a b:Int}(ha:-2147483648<=a/\a<=2147483647)(hb:-2147483648<=b/\b<=2147483647):-2147483648<=bw o a b/\bw o a b<=2147483647:=by
 have h:=aAs o 31 (by decide) a b (by omega) (by omega)
 omega
theorem aAo {a b:Int}(ha:-2147483648<=a/\a<=2147483647)(hb:0<=b/\b<=2147483647):0<=bw .and a b/\bw .and a b<=b:=by
 have h:=aEf (fun a b=>0<=b->0<=bw .and a b/\bw .and a b<=b) (fun _=>by decide) (fun _=>by omega) (fun _=>by decide) (fun _=>by omega) (by
  intro a b ha hb h e
  have h1:=h (by omega)
  show 0<=bw .and a b/\bw .and a b<=b
  rw[mY .and a b ha hb]
  simp only[kQ.dig]
  rcases jD a with f|f <;> rcases jD b with g|g <;> rw[f,g] <;> omega) ha (show -2147483648<=b/\b<=2147483647 by omega)
 exact h hb.1
theorem aHl (k:Nat):∀ x:Nat,x < 2 ^ k->k<=63->x < 2 ^ Lib.bitLen x:=by
 induction k with
 | zero =>
  intro x h _
  obtain rfl:x=0:=by simp at h;omega
  decide
 | succ k ih =>
  intro x h hk
  by_cases h0:x=0
  ·subst h0;decide
  ·have hp:2 ^ (k+1)<=2 ^ 63:=Nat.pow_le_pow_right (by decide) hk
   have h1:=ih (x / 2) (by rw[Nat.pow_succ] at h;omega) (by omega)
   rw[Lib.bitLen_half x h0 (by omega),Nat.add_comm,Nat.pow_succ]
   omega
theorem aNp:∀ n:Fin 256,(Lib.len8tab[n.val]'(Nat.lt_of_lt_of_le n.isLt (by decide +kernel))).toNat=Lib.bitLen n.val:=by decide +kernel
theorem zU (n:Nat)(hn:n < 256)(h:n < Lib.len8tab.size):(Lib.len8tab[n]'h).toNat=Lib.bitLen n:=aNp ⟨n,hn⟩
theorem aF1 (x:Int)(w:World)(h:0<=x/\x<=2147483647) :
  Calls Tryz.prog 187 #[.int .u64 x] w fun e w'=>e=.returned (.int .i64 (Lib.bitLen x.toNat))/\w'=w:=by
 have hs:Lib.len8tab.size=256:=by decide +kernel
 rcases(show x < 256\/(256<=x/\x < 65536)\/(65536<=x/\x < 16777216)\/16777216<=x by omega) with g|g|g|g
 ·go_enter Tryz.func187,Tryz.ntmps187
  go_wp2
  go_ret
  refine⟨aN ?_,rfl⟩
  rw[zU x.toNat (by omega)]
  have l:=Lib.bitLen_le x.toNat 31 (by decide) (by omega)
  unfold wrap64
  omega
 ·go_enter Tryz.func187,Tryz.ntmps187
  go_wp2
  go_ret
  refine⟨aN ?_,rfl⟩
  rw[zU (x / 256).toNat (by omega)]
  have l:=Lib.bitLen_le x.toNat 31 (by decide) (by omega)
  have s:=Lib.bitLen_shift8 x.toNat (by omega) (by omega)
  rw[show (x / 256).toNat=x.toNat / 256 by omega]
  unfold wrap64
  omega
 ·go_enter Tryz.func187,Tryz.ntmps187
  go_wp2
  go_ret
  refine⟨aN ?_,rfl⟩
  rw[zU (x / 65536).toNat (by omega)]
  have l:=Lib.bitLen_le x.toNat 31 (by decide) (by omega)
  have s:=Lib.bitLen_shift16 x.toNat (by omega) (by omega)
  rw[show (x / 65536).toNat=x.toNat / 65536 by omega]
  unfold wrap64
  omega
 ·go_enter Tryz.func187,Tryz.ntmps187
  go_wp2
  go_ret
  refine⟨aN ?_,rfl⟩
  rw[zU (x / 65536 / 256).toNat (by omega)]
  have l:=Lib.bitLen_le x.toNat 31 (by decide) (by omega)
  have s:=Lib.bitLen_shift24 x.toNat (by omega) (by omega)
  rw[show (x / 65536 / 256).toNat=x.toNat / 16777216 by omega]
  unfold wrap64
  omega
theorem aE3 (x:Int)(w:World)(h:0<=x/\x<=2147483647) :
  Calls Tryz.prog 185 #[.int .u64 x] w fun e w'=>e=.returned (.int .i64 (Lib.bitLen x.toNat))/\w'=w:=by
 go_enter Tryz.func185,Tryz.ntmps185
 go_wp2_with (go_at_call 187;refine(aF1 x _ h).mono ?_;rintro e w' ⟨rfl,rfl⟩)
 go_ret
 exact⟨rfl,rfl⟩
def sM (x:Int):Nat:=Lib.bitLen (if x < 0 then -x-1 else x).toNat
def wdZ (x:Int):Int:=(sM x:Nat)
theorem eU {x:Int}(h:-2147483648<=x/\x<=2147483647):sM x<=31/\-(2 ^ sM x:Nat)<=x/\x < (2 ^ sM x:Nat):=by
 unfold sM
 have h1:=Lib.bitLen_le (if x < 0 then -x-1 else x).toNat 31 (by decide) (by split <;> omega)
 have h2:=aHl 31 (if x < 0 then -x-1 else x).toNat (by split <;> omega) (by decide)
 revert h1 h2
 generalize Lib.bitLen (if x < 0 then -x-1 else x).toNat=m
 intro h1 h2
 refine⟨h1,?_⟩
 generalize 2 ^ m=P at *
 split at h2 <;> omega
theorem aG1 {x:Int}{n:Nat}(hn:n<=62)(h:-(2 ^ n:Nat)<=x/\x < (2 ^ n:Nat)):sM x<=n:=by
 unfold sM
 refine Lib.bitLen_le _ _ (by omega) ?_
 generalize 2 ^ n=P at *
 split <;> omega
theorem aIv {a:Int}(ha:-2147483648<=a/\a<=2147483647):bw .xor (-1) a=-a-1:=by
 have h:=aEf (fun b a=>b=-1->bw .xor b a=-a-1) (fun h=>by cases h) (fun h=>by cases h) (fun _=>by decide) (fun _=>by decide) (by
  intro b a hb ha h e
  subst e
  have h1:=h (by decide)
  rw[show ((-1:Int) / 2)=-1 by decide] at h1
  show bw .xor (-1) a=-a-1
  rw[mY .xor (-1) a (by omega) ha,show ((-1:Int) / 2)=-1 by decide,h1]
  simp only[kQ.dig]
  omega) (show -2147483648<=(-1:Int)/\(-1:Int)<=2147483647 by decide) ha
 exact h rfl
theorem mE (x:Int)(w:World)(h:-2147483648<=x/\x<=2147483647) :
  Calls Tryz.prog 181 #[.int .i64 x] w fun e w'=>e=.returned (.int .i64 (wdZ x))/\w'=w:=by
 by_cases h0:x < 0
 ·have hl:=fun w=>aE3 (-x-1) w (by omega)
  have hx:bits BinOp.xor IntKind.i64 (-1) x=-x-1:=aIv h
  have hk:wdZ x=Lib.bitLen (-x-1).toNat:=by simp[wdZ,sM,h0]
  rw[hk]
  clear hk
  generalize hy:-x-1=y at *
  have hy0:0<=y/\y<=2147483647:=by omega
  clear hy
  have hu:IntKind.u64.wrap y=y:=by simp[IntKind.wrap,IntKind.bits,IntKind.signed];omega
  go_enter Tryz.func181,Tryz.ntmps181
  go_wp2_with fail
  refine(hl _).mono ?_
  rintro e w' ⟨rfl,rfl⟩
  go_wp2_with fail
  go_ret
  exact⟨rfl,rfl⟩
 ·have hl:=fun w=>aE3 x w (by omega)
  go_enter Tryz.func181,Tryz.ntmps181
  go_wp2_with (go_at_call 185;refine(hl _).mono ?_;rintro e w' ⟨rfl,rfl⟩)
  go_ret
  exact⟨aN (by simp[wdZ,sM];rw[if_neg (by omega)]),rfl⟩
end Go.Proofs.Spn
namespace Go.Proofs.Spn
open Go.RowKit Go.IntWalk Go.Sort
theorem mixed:Tryz.prog.follows .mixedOrders=true:=by kernel_rfl
theorem lV {w w2:World}{a b c d x y:Int}(h:Below (((w.alloc (.cells #[.int .i64 a,.int .i64 b] 81)).alloc (.cells #[.int .i64 c,.int .i64 d] 81)).alloc (.cells #[.int .i64 x,.int .i64 y] 81)).heap.size (((w.alloc (.cells #[.int .i64 a,.int .i64 b] 81)).alloc (.cells #[.int .i64 c,.int .i64 d] 81)).alloc (.cells #[.int .i64 x,.int .i64 y] 81)) w2) :
  aI w2 w.heap.size 81 #[.int .i64 a,.int .i64 b]/\aI w2 (w.heap.size+1) 81 #[.int .i64 c,.int .i64 d]/\aI w2 (w.heap.size+1+1) 81 #[.int .i64 x,.int .i64 y]/\Below w.heap.size w w2:=by
 have h1:=(((aI.new w 81 #[.int .i64 a,.int .i64 b]).alloc (.cells #[.int .i64 c,.int .i64 d] 81)).alloc (.cells #[.int .i64 x,.int .i64 y] 81)).below h
 have h2:=((aI.new (w.alloc (.cells #[.int .i64 a,.int .i64 b] 81)) 81 #[.int .i64 c,.int .i64 d]).alloc (.cells #[.int .i64 x,.int .i64 y] 81)).below h
 have h3:=(aI.new ((w.alloc (.cells #[.int .i64 a,.int .i64 b] 81)).alloc (.cells #[.int .i64 c,.int .i64 d] 81)) 81 #[.int .i64 x,.int .i64 y]).below h
 simp only[World.size_alloc] at h2 h3
 exact⟨h1,h2,h3,bel (fV _ _ _ _ _) h⟩
def dG (a b c d:Int):Nat:=max (max (max (sM a) (sM b)) (sM c)) (sM d)
def iI (a b c d:Int):Int:=2 ^ dG a b c d
abbrev bF (x:Int):Prop:=-2147483648<=x/\x<=2147483647
theorem rP {a b c d:Int}(ha:bF a)(hb:bF b)(hc:bF c)(hd:bF d):dG a b c d<=31/\1<=iI a b c d/\iI a b c d<=2147483648:=by
 have h1:=(eU ha).1
 have h2:=(eU hb).1
 have h3:=(eU hc).1
 have h4:=(eU hd).1
 have h5:dG a b c d<=31:=by unfold dG;omega
 exact⟨h5,gK _ 31 h5⟩
def mx4 (a b c d:Int):Int:=max (max (max a b) c) d
theorem yI {P:Program}{w:World}(ts:Array TypeId)(t:TypeId)(k k' k'' k3:IntKind)(x y z u:Int):(Builtin.max_ ts t #[.int k x,.int k' y,.int k'' z,.int k3 u]).run P w=.ok (.int k (mx4 x y z u)) w:=by
 simp[Builtin.max_,Builtin.max2,mx4]
 omega
attribute [local go_sem] yI
theorem wD (a b c d:Int)(w:World)(ha:bF a)(hb:bF b)(hc:bF c)(hd:bF d) :
  Calls Tryz.prog 168 #[.agg #[.int .i64 a,.int .i64 b],.agg #[.int .i64 c,.int .i64 d]] w fun e w'=>e=.returned (.agg #[.int .i64 (-iI a b c d),.int .i64 (iI a b c d-1)])/\Below w.heap.size w w':=by
 have w1:=fun w=>mE a w ha
 have w2:=fun w=>mE b w hb
 have w3:=fun w=>mE c w hc
 have w4:=fun w=>mE d w hd
 have f1:=(eU ha).1
 have f2:=(eU hb).1
 have f3:=(eU hc).1
 have f4:=(eU hd).1
 have hP:=rP ha hb hc hd
 have hN:((dG a b c d:Nat):Int)=mx4 (wdZ a) (wdZ b) (wdZ c) (wdZ d):=by unfold dG wdZ mx4;omega
 have HN:=aC hN
 have HP:=aC hP
 clear hN hP w1 w2 w3 w4
 go_enter Tryz.func168,Tryz.ntmps168
 go_wp2_with fail
 go_quiet ((go_at_call 181;exact Calls.quiet_of_same (mE _ _ (by assumption))))
 go_wp2_with fail
 rw[<-HN.o]
 have hN:=HP.o.1
 have hN2:¬((dG a b c d:Nat):Int) < 0:=by omega
 have hQ:(2:Int) ^ dG a b c d=iI a b c d:=rfl
 have hQ1:=HP.o.2
 generalize hp:iI a b c d=p at *
 have EP:=aC hp
 clear hp
 generalize dG a b c d=n at *
 go_region
 go_wp2_with fail
 have hB:=oV (fV w (.cells #[.int .i64 a,.int .i64 b] 81) (.cells #[.int .i64 c,.int .i64 d] 81) 0 0) (nq+1)
 have hR:=aI.new ((w.alloc (.cells #[.int .i64 a,.int .i64 b] 81)).alloc (.cells #[.int .i64 c,.int .i64 d] 81)) 81 #[.int .i64 0,.int .i64 0]
 simp only[World.size_alloc] at hR
 obtain⟨c0,c1,hB2⟩:=aK (w:=w) (b:=w.heap.size+1+1) (w2:=(((w.alloc (.cells #[.int .i64 a,.int .i64 b] 81)).alloc (.cells #[.int .i64 c,.int .i64 d] 81)).alloc (.cells #[.int .i64 0,.int .i64 0] 81)).drewN (nq+1)) hR hB (by omega) (-p) (p-1)
 exact bodyPost_ret (v:=.agg #[.int .i64 (-p),.int .i64 (p-1)]) (by simp[results,Tryz.results168,go_sem,c0,c1]) rfl ⟨by rw[EP.o],hB2⟩
def jP (a b c d:Int):Int × Int:=(if a < 0 then max a (-(max (-c) d-1)) else 0,if 0 < b then min b (max (-c) d-1) else 0)
theorem aM7 (w:World)(o1 o2:Obj)(x y x' y':Int):Below w.heap.size w ((((w.alloc o1).alloc o2).alloc (.cells #[.int .i64 x,.int .i64 y] 81)).alloc (.cells #[.int .i64 x',.int .i64 y'] 81)) :=
 ((((Below.refl _ _).alloc (Nat.le_refl _) _).alloc (by simp) _).alloc (by simp;omega) _).alloc (by simp;omega) _
theorem aJ6 (a b c d:Int)(w:World)(ha:bF a)(hb:bF b)(hc:bF c)(hd:bF d) :
  Calls Tryz.prog 170 #[.agg #[.int .i64 a,.int .i64 b],.agg #[.int .i64 c,.int .i64 d]] w fun e w'=>e=.returned (.agg #[.int .i64 (jP a b c d).1,.int .i64 (jP a b c d).2])/\Below w.heap.size w w':=by
 by_cases h1:a < 0 <;> by_cases h2:0 < b
 ·rw[show jP a b c d=(max a (-(max (-c) d-1)),min b (max (-c) d-1)) by simp[jP,h1,h2]]
  go_enter Tryz.func170,Tryz.ntmps170
  go_wp2
  all_goals exact bodyPost_ret (v:=.agg #[.int .i64 (max a (-(max (-c) d-1))),.int .i64 (min b (max (-c) d-1))]) (by simp[results,Tryz.results170,go_sem];omega) rfl ⟨rfl,aM7 _ _ _ _ _ _ _⟩
 ·rw[show jP a b c d=(max a (-(max (-c) d-1)),0) by simp[jP,h1,h2]]
  go_enter Tryz.func170,Tryz.ntmps170
  go_wp2
  all_goals exact bodyPost_ret (v:=.agg #[.int .i64 (max a (-(max (-c) d-1))),.int .i64 0]) (by simp[results,Tryz.results170,go_sem];omega) rfl ⟨rfl,aM7 _ _ _ _ _ _ _⟩
 ·rw[show jP a b c d=(0,min b (max (-c) d-1)) by simp[jP,h1,h2]]
  go_enter Tryz.func170,Tryz.ntmps170
  go_wp2
  all_goals exact bodyPost_ret (v:=.agg #[.int .i64 0,.int .i64 (min b (max (-c) d-1))]) (by simp[results,Tryz.results170,go_sem];omega) rfl ⟨rfl,aM7 _ _ _ _ _ _ _⟩
 ·rw[show jP a b c d=(0,0) by simp[jP,h1,h2]]
  go_enter Tryz.func170,Tryz.ntmps170
  go_wp2
  all_goals exact bodyPost_ret (v:=.agg #[.int .i64 0,.int .i64 0]) (by simp[results,Tryz.results170,go_sem]) rfl ⟨rfl,aM7 _ _ _ _ _ _ _⟩
def kI (op a b:Int):Int × Int:=if op=5 then(-b,-a) else if 0<=a then(a,b) else if b < 0 then(-b,-a) else(0,max (-a) b)
theorem aDp (op a b:Int)(w:World)(ha:bF a)(hb:bF b) :
  Calls Tryz.prog 172 #[.int .i64 op,.agg #[.int .i64 a,.int .i64 b]] w fun e w'=>e=.returned (.agg #[.int .i64 (kI op a b).1,.int .i64 (kI op a b).2])/\Below w.heap.size w w':=by
 by_cases h0:op=5
 ·subst h0
  rw[show kI 5 a b=(-b,-a) from rfl]
  go_enter Tryz.func172,Tryz.ntmps172
  go_wp2
  exact bodyPost_ret (v:=.agg #[.int .i64 (-b),.int .i64 (-a)]) (by simp[results,Tryz.results172,go_sem]) rfl ⟨rfl,fV _ _ _ _ _⟩
 have e0:(op==5)=false:=by simp[h0]
 by_cases h1:0<=a
 ·rw[show kI op a b=(a,b) by simp[kI,h0,h1]]
  clear h0
  go_enter Tryz.func172,Tryz.ntmps172
  go_wp2
  exact bodyPost_ret (v:=.agg #[.int .i64 a,.int .i64 b]) (by simp[results,Tryz.results172,go_sem]) rfl ⟨rfl,fV _ _ _ _ _⟩
 by_cases h2:b < 0
 ·rw[show kI op a b=(-b,-a) by simp[kI,h0,h1,h2]]
  clear h0
  go_enter Tryz.func172,Tryz.ntmps172
  go_wp2
  exact bodyPost_ret (v:=.agg #[.int .i64 (-b),.int .i64 (-a)]) (by simp[results,Tryz.results172,go_sem]) rfl ⟨rfl,fV _ _ _ _ _⟩
 ·rw[show kI op a b=(0,max (-a) b) by simp[kI,h0,h1,h2]]
  clear h0
  go_enter Tryz.func172,Tryz.ntmps172
  go_wp2
  all_goals exact bodyPost_ret (v:=.agg #[.int .i64 0,.int .i64 (max (-a) b)]) (by simp[results,Tryz.results172,go_sem];omega) rfl ⟨rfl,fV _ _ _ _ _⟩
def dA (a b c d:Int):Int × Int:=if 0<=a/\0<=c then(0,min b d) else if 0<=a then(0,b) else if 0<=c then(0,d) else(-iI a b c d,iI a b c d-1)
theorem aB1 (a b c d:Int)(w:World)(ha:bF a)(hb:bF b)(hc:bF c)(hd:bF d) :
  Calls Tryz.prog 144 #[.agg #[.int .i64 a,.int .i64 b],.agg #[.int .i64 c,.int .i64 d]] w fun e w'=>e=.returned (.agg #[.int .i64 (dA a b c d).1,.int .i64 (dA a b c d).2])/\Below w.heap.size w w':=by
 by_cases h1:0<=a
 ·have e1:decide (0<=a)=true:=by simp[h1]
  by_cases h2:0<=c
  ·rw[show dA a b c d=(0,min b d) by simp[dA,h1,h2]]
   go_enter Tryz.func144,Tryz.ntmps144
   go_wp2
   all_goals exact bodyPost_ret (v:=.agg #[.int .i64 0,.int .i64 (min b d)]) (by simp[results,Tryz.results144,go_sem];omega) rfl ⟨rfl,fV _ _ _ _ _⟩
  ·rw[show dA a b c d=(0,b) by simp[dA,h1,h2]]
   go_enter Tryz.func144,Tryz.ntmps144
   go_wp2
   exact bodyPost_ret (v:=.agg #[.int .i64 0,.int .i64 b]) (by simp[results,Tryz.results144,go_sem]) rfl ⟨rfl,fV _ _ _ _ _⟩
 ·have e1:decide (0<=a)=false:=by simp;omega
  by_cases h2:0<=c
  ·rw[show dA a b c d=(0,d) by simp[dA,h1,h2]]
   go_enter Tryz.func144,Tryz.ntmps144
   go_wp2
   exact bodyPost_ret (v:=.agg #[.int .i64 0,.int .i64 d]) (by simp[results,Tryz.results144,go_sem]) rfl ⟨rfl,fV _ _ _ _ _⟩
  ·rw[show dA a b c d=(-iI a b c d,iI a b c d-1) by simp[dA,h1,h2]]
   have HA:=fun w=>aC (wD a b c d w ha hb hc hd)
   generalize iI a b c d=p at *
   go_enter Tryz.func144,Tryz.ntmps144
   go_wp2_with fail
   refine(HA _).o.mono ?_
   rintro e w2 ⟨rfl,hb2⟩
   obtain⟨-,-,h3,hB⟩:=lV hb2
   obtain⟨s1,s2,s3,s4⟩:=aF h3
   go_wp2_with fail
   obtain⟨c0,c1,hB2⟩:=aK h3 hB (by omega) (-p) (p-1)
   exact bodyPost_ret (v:=.agg #[.int .i64 (-p),.int .i64 (p-1)]) (by simp[results,Tryz.results144,go_sem,c0,c1]) rfl ⟨rfl,hB2⟩
end Go.Proofs.Spn
namespace Go.Proofs.Spn
open Go.RowKit Go.IntWalk Go.Sort
def dV (op a b c d:Int):Int × Int:=if a < 0\/c < 0 then(-iI a b c d,iI a b c d-1) else if op=16 then(max a c,iI a b c d-1) else(0,iI a b c d-1)
theorem kX {w w2:World}{t:TypeId}{x y:Value}{x' y':Int}{b:Nat}(h:aI w2 b t #[x,y])(hB:Below w.heap.size w w2) :
  aI (w2.alloc (.cells #[.int .i64 x',.int .i64 y'] 81)) b t #[x,y]/\aI (w2.alloc (.cells #[.int .i64 x',.int .i64 y'] 81)) w2.heap.size 81 #[.int .i64 x',.int .i64 y']/\Below w.heap.size w (w2.alloc (.cells #[.int .i64 x',.int .i64 y'] 81)) :=
 ⟨h.alloc _,aI.new _ _ _,hB.alloc hB.size _⟩
theorem uE (op a b c d:Int)(w:World)(ha:bF a)(hb:bF b)(hc:bF c)(hd:bF d) :
  Calls Tryz.prog 182 #[.int .i64 op,.agg #[.int .i64 a,.int .i64 b],.agg #[.int .i64 c,.int .i64 d]] w fun e w'=>e=.returned (.agg #[.int .i64 (dV op a b c d).1,.int .i64 (dV op a b c d).2])/\Below w.heap.size w w':=by
 have HA:=fun w=>aC (wD a b c d w ha hb hc hd)
 have HZ:Hid (dV op a b c d=if a < 0\/c < 0 then(-iI a b c d,iI a b c d-1) else if op=16 then(max a c,iI a b c d-1) else(0,iI a b c d-1)):=aC rfl
 have hP:=(rP ha hb hc hd).2
 generalize iI a b c d=p at *
 by_cases h1:a < 0
 ·have e1:decide (a < 0)=true:=by simp[h1]
  have hz:=HZ.o
  rw[if_pos (.inl h1)] at hz
  rw[hz]
  clear hz HZ
  go_enter Tryz.func182,Tryz.ntmps182
  go_wp2_with fail
  refine(HA _).o.mono ?_
  rintro e w2 ⟨rfl,hb2⟩
  obtain⟨k1,k2,h3,hB⟩:=lV hb2
  clear hb2
  have f1:=fun x' y':Int=>aF (kX (x':=x') (y':=y') k1 hB).1
  have f2:=fun x' y':Int=>aF (kX (x':=x') (y':=y') k2 hB).1
  have f3:=fun x' y':Int=>aF (kX (x':=x') (y':=y') h3 hB).1
  have q1:=fun x' y'=>(f1 x' y').1
  have q2:=fun x' y'=>(f1 x' y').2.1
  have r1:=fun x' y'=>(f2 x' y').1
  have r2:=fun x' y'=>(f2 x' y').2.1
  have s1:=fun x' y'=>(f3 x' y').1
  have s2:=fun x' y'=>(f3 x' y').2.1
  have s3:=fun x' y'=>(f3 x' y').2.2.1
  have s4:=fun x' y'=>(f3 x' y').2.2.2
  have HB:=aC fun x' y':Int=>(kX (x':=x') (y':=y') k1 hB).2.2
  have H3:=aC fun x' y':Int=>(kX (x':=x') (y':=y') h3 hB).1
  clear f1 f2 f3 k1 k2 h3 hB
  go_wp2_with fail
  obtain⟨c0,c1,hB2⟩:=aK (H3.o _ _) (HB.o _ _) (by omega) (-p) (p-1)
  exact bodyPost_ret (v:=.agg #[.int .i64 (-p),.int .i64 (p-1)]) (by simp[results,Tryz.results182,go_sem,c0,c1]) rfl ⟨rfl,hB2⟩
 have e1:decide (a < 0)=false:=by simp;omega
 by_cases h2:c < 0
 ·have hz:=HZ.o
  rw[if_pos (.inr h2)] at hz
  rw[hz]
  clear hz HZ
  go_enter Tryz.func182,Tryz.ntmps182
  go_wp2_with fail
  refine(HA _).o.mono ?_
  rintro e w2 ⟨rfl,hb2⟩
  obtain⟨k1,k2,h3,hB⟩:=lV hb2
  clear hb2
  have f1:=fun x' y':Int=>aF (kX (x':=x') (y':=y') k1 hB).1
  have f2:=fun x' y':Int=>aF (kX (x':=x') (y':=y') k2 hB).1
  have f3:=fun x' y':Int=>aF (kX (x':=x') (y':=y') h3 hB).1
  have q1:=fun x' y'=>(f1 x' y').1
  have q2:=fun x' y'=>(f1 x' y').2.1
  have r1:=fun x' y'=>(f2 x' y').1
  have r2:=fun x' y'=>(f2 x' y').2.1
  have s1:=fun x' y'=>(f3 x' y').1
  have s2:=fun x' y'=>(f3 x' y').2.1
  have s3:=fun x' y'=>(f3 x' y').2.2.1
  have s4:=fun x' y'=>(f3 x' y').2.2.2
  have HB:=aC fun x' y':Int=>(kX (x':=x') (y':=y') k1 hB).2.2
  have H3:=aC fun x' y':Int=>(kX (x':=x') (y':=y') h3 hB).1
  clear f1 f2 f3 k1 k2 h3 hB
  go_wp2_with fail
  obtain⟨c0,c1,hB2⟩:=aK (H3.o _ _) (HB.o _ _) (by omega) (-p) (p-1)
  exact bodyPost_ret (v:=.agg #[.int .i64 (-p),.int .i64 (p-1)]) (by simp[results,Tryz.results182,go_sem,c0,c1]) rfl ⟨rfl,hB2⟩
 have h12:¬(a < 0\/c < 0):=by omega
 by_cases h0:op=16
 ·subst h0
  have hz:=HZ.o
  rw[if_neg h12,if_pos rfl] at hz
  rw[hz]
  clear hz HZ
  go_enter Tryz.func182,Tryz.ntmps182
  go_wp2_with fail
  refine(HA _).o.mono ?_
  rintro e w2 ⟨rfl,hb2⟩
  obtain⟨k1,k2,h3,hB⟩:=lV hb2
  clear hb2
  have f1:=fun x' y':Int=>aF (kX (x':=x') (y':=y') k1 hB).1
  have f2:=fun x' y':Int=>aF (kX (x':=x') (y':=y') k2 hB).1
  have f3:=fun x' y':Int=>aF (kX (x':=x') (y':=y') h3 hB).1
  have q1:=fun x' y'=>(f1 x' y').1
  have q2:=fun x' y'=>(f1 x' y').2.1
  have r1:=fun x' y'=>(f2 x' y').1
  have r2:=fun x' y'=>(f2 x' y').2.1
  have s1:=fun x' y'=>(f3 x' y').1
  have s2:=fun x' y'=>(f3 x' y').2.1
  have s3:=fun x' y'=>(f3 x' y').2.2.1
  have s4:=fun x' y'=>(f3 x' y').2.2.2
  have HB:=aC fun x' y':Int=>(kX (x':=x') (y':=y') k1 hB).2.2
  have H3:=aC fun x' y':Int=>(kX (x':=x') (y':=y') h3 hB).1
  clear f1 f2 f3 k1 k2 h3 hB
  go_wp2_with fail
  ·obtain⟨c0,c1,hB2⟩:=aK (H3.o _ _) (HB.o _ _) (by omega) c (p-1)
   exact bodyPost_ret (v:=.agg #[.int .i64 c,.int .i64 (p-1)]) (by simp[results,Tryz.results182,go_sem,c0,c1]) rfl ⟨aA5 (by omega) rfl,hB2⟩
  ·obtain⟨c0,c1,hB2⟩:=aK (H3.o _ _) (HB.o _ _) (by omega) a (p-1)
   exact bodyPost_ret (v:=.agg #[.int .i64 a,.int .i64 (p-1)]) (by simp[results,Tryz.results182,go_sem,c0,c1]) rfl ⟨aA5 (by omega) rfl,hB2⟩
 ·have e0:(op==16)=false:=by simp[h0]
  have hz:=HZ.o
  rw[if_neg h12,if_neg h0] at hz
  rw[hz]
  clear hz HZ
  go_enter Tryz.func182,Tryz.ntmps182
  go_wp2_with fail
  refine(HA _).o.mono ?_
  rintro e w2 ⟨rfl,hb2⟩
  obtain⟨k1,k2,h3,hB⟩:=lV hb2
  clear hb2
  have f1:=fun x' y':Int=>aF (kX (x':=x') (y':=y') k1 hB).1
  have f2:=fun x' y':Int=>aF (kX (x':=x') (y':=y') k2 hB).1
  have f3:=fun x' y':Int=>aF (kX (x':=x') (y':=y') h3 hB).1
  have q1:=fun x' y'=>(f1 x' y').1
  have q2:=fun x' y'=>(f1 x' y').2.1
  have r1:=fun x' y'=>(f2 x' y').1
  have r2:=fun x' y'=>(f2 x' y').2.1
  have s1:=fun x' y'=>(f3 x' y').1
  have s2:=fun x' y'=>(f3 x' y').2.1
  have s3:=fun x' y'=>(f3 x' y').2.2.1
  have s4:=fun x' y'=>(f3 x' y').2.2.2
  have HB:=aC fun x' y':Int=>(kX (x':=x') (y':=y') k1 hB).2.2
  have H3:=aC fun x' y':Int=>(kX (x':=x') (y':=y') h3 hB).1
  clear f1 f2 f3 k1 k2 h3 hB
  go_wp2_with fail
  obtain⟨c0,c1,hB2⟩:=aK (H3.o _ _) (HB.o _ _) (by omega) 0 (p-1)
  exact bodyPost_ret (v:=.agg #[.int .i64 0,.int .i64 (p-1)]) (by simp[results,Tryz.results182,go_sem,c0,c1]) rfl ⟨rfl,hB2⟩
def fH (a b c d:Int):Int × Int:=if b < c\/d < a then(0,0) else if a=c/\b=d/\a=b then(1,1) else(0,1)
theorem pI {w W:World}{b1 b2 b3:Nat}{a b c d x y:Int}(k1:aI W b1 81 #[.int .i64 a,.int .i64 b])(k2:aI W b2 81 #[.int .i64 c,.int .i64 d])(k3:aI W b3 81 #[.int .i64 x,.int .i64 y])(hB:Below w.heap.size w W)(dq:Nat)(os:Array Obj) :
  aI (grow (redrawn W dq) os) b1 81 #[.int .i64 a,.int .i64 b]/\aI (grow (redrawn W dq) os) b2 81 #[.int .i64 c,.int .i64 d]/\aI (grow (redrawn W dq) os) b3 81 #[.int .i64 x,.int .i64 y]/\Below w.heap.size w (grow (redrawn W dq) os) :=
 ⟨k1.below (below_regrown _ _ _),k2.below (below_regrown _ _ _),k3.below (below_regrown _ _ _),bel hB (below_regrown _ _ _)⟩
theorem xN (a b c d:Int)(w:World) :
  Calls Tryz.prog 183 #[.agg #[.int .i64 a,.int .i64 b],.agg #[.int .i64 c,.int .i64 d]] w fun e w'=>e=.returned (.agg #[.int .i64 (fH a b c d).1,.int .i64 (fH a b c d).2])/\Below w.heap.size w w':=by
 by_cases h1:b < c
 ·have e1:decide (b < c)=true:=by simp[h1]
  rw[show fH a b c d=(0,0) by simp[fH,h1]]
  go_enter Tryz.func183,Tryz.ntmps183
  go_wp2_with fail
  refine(dQ _ _).mono ?_
  rintro e w2 ⟨rfl,hb2⟩
  obtain⟨-,-,h3,hB⟩:=lV hb2
  obtain⟨s1,s2,s3,s4⟩:=aF h3
  go_wp2_with fail
  obtain⟨c0,c1,hB2⟩:=aK h3 hB (by omega) 0 0
  exact bodyPost_ret (v:=.agg #[.int .i64 0,.int .i64 0]) (by simp[results,Tryz.results183,go_sem,c0,c1]) rfl ⟨rfl,hB2⟩
 have e1:decide (b < c)=false:=by simp;omega
 by_cases h2:d < a
 ·rw[show fH a b c d=(0,0) by simp[fH,h2]]
  go_enter Tryz.func183,Tryz.ntmps183
  go_wp2_with fail
  refine(dQ _ _).mono ?_
  rintro e w2 ⟨rfl,hb2⟩
  obtain⟨-,-,h3,hB⟩:=lV hb2
  obtain⟨s1,s2,s3,s4⟩:=aF h3
  go_wp2_with fail
  obtain⟨c0,c1,hB2⟩:=aK h3 hB (by omega) 0 0
  exact bodyPost_ret (v:=.agg #[.int .i64 0,.int .i64 0]) (by simp[results,Tryz.results183,go_sem,c0,c1]) rfl ⟨rfl,hB2⟩
 have hap:¬(b < c\/d < a):=by omega
 by_cases h3:a=c
 ·subst h3
  by_cases h5:b=d
  ·subst h5
   by_cases h4:a=b
   ·subst h4
    rw[show fH a a a a=(1,1) by simp[fH]]
    go_enter Tryz.func183,Tryz.ntmps183
    go_wp2_with fail
    obtain⟨k1,k2,k3,hB⟩:=lV (w:=w) (a:=a) (b:=a) (c:=a) (d:=a) (x:=0) (y:=0) (Below.refl _ _)
    obtain⟨W,hW⟩:∃ W,((w.alloc (.cells #[.int .i64 a,.int .i64 a] 81)).alloc (.cells #[.int .i64 a,.int .i64 a] 81)).alloc (.cells #[.int .i64 0,.int .i64 0] 81)=W:=⟨_,rfl⟩
    rw[hW] at k1 k2 k3 hB ⊢
    clear hW
    obtain⟨q1,q2,-,-⟩:=aF k1
    obtain⟨r1,r2,-,-⟩:=aF k2
    have m1:=cell_regrown q1
    have m2:=cell_regrown q2
    have m3:=cell_regrown r1
    have m4:=cell_regrown r2
    refine wp_region_quiet_below mixed (by kernel_rfl) ?_
    repeat (go_big_quiet_step ((go_at_call 143;exact Calls.regrown_of (dQ _ _))))
    refine wpQuiet_nil ?_
    intro _ hw'
    obtain⟨⟨dq,osq⟩,hw''⟩:=hw'
    subst hw''
    obtain⟨-,-,k4,hB4⟩:=pI k1 k2 k3 hB dq osq
    clear k1 k2 k3 hB q1 q2 r1 r2 m1 m2 m3 m4
    simp only
    generalize grow (redrawn W dq) osq=G at *
    go_wp2_with fail
    refine(dQ _ _).mono ?_
    rintro e w2 ⟨rfl,hb2⟩
    have h3:=k4.below hb2
    have hB:=bel hB4 hb2
    obtain⟨s1,s2,s3,s4⟩:=aF h3
    clear hb2 k4 hB4
    go_wp2_with fail
    obtain⟨c0,c1,hB2⟩:=aK h3 hB (by omega) 1 1
    exact bodyPost_ret (v:=.agg #[.int .i64 1,.int .i64 1]) (by simp[results,Tryz.results183,go_sem,c0,c1]) rfl ⟨rfl,hB2⟩
   ·rw[show fH a b a b=(0,1) by simp[fH,h4];omega]
    have e4:(b==a)=false:=by simp;omega
    have e5:(a==b)=false:=by simp;omega
    clear h4
    go_enter Tryz.func183,Tryz.ntmps183
    go_wp2_with fail
    obtain⟨k1,k2,k3,hB⟩:=lV (w:=w) (a:=a) (b:=b) (c:=a) (d:=b) (x:=0) (y:=0) (Below.refl _ _)
    obtain⟨W,hW⟩:∃ W,((w.alloc (.cells #[.int .i64 a,.int .i64 b] 81)).alloc (.cells #[.int .i64 a,.int .i64 b] 81)).alloc (.cells #[.int .i64 0,.int .i64 0] 81)=W:=⟨_,rfl⟩
    rw[hW] at k1 k2 k3 hB ⊢
    clear hW
    obtain⟨q1,q2,-,-⟩:=aF k1
    obtain⟨r1,r2,-,-⟩:=aF k2
    have m1:=cell_regrown q1
    have m2:=cell_regrown q2
    have m3:=cell_regrown r1
    have m4:=cell_regrown r2
    refine wp_region_quiet_below mixed (by kernel_rfl) ?_
    repeat (go_big_quiet_step ((go_at_call 143;exact Calls.regrown_of (dQ _ _))))
    refine wpQuiet_nil ?_
    intro _ hw'
    obtain⟨⟨dq,osq⟩,hw''⟩:=hw'
    subst hw''
    obtain⟨-,-,k4,hB4⟩:=pI k1 k2 k3 hB dq osq
    clear k1 k2 k3 hB q1 q2 r1 r2 m1 m2 m3 m4
    simp only
    generalize grow (redrawn W dq) osq=G at *
    obtain⟨s1,s2,s3,s4⟩:=aF k4
    go_wp2_with fail
    obtain⟨c0,c1,hB2⟩:=aK k4 hB4 (by omega) 0 1
    exact bodyPost_ret (v:=.agg #[.int .i64 0,.int .i64 1]) (by simp[results,Tryz.results183,go_sem,c0,c1]) rfl ⟨rfl,hB2⟩
  ·rw[show fH a b a d=(0,1) by simp[fH,h5];omega]
   have e4:(b==d)=false:=by simp;omega
   clear h5
   go_enter Tryz.func183,Tryz.ntmps183
   go_wp2_with fail
   obtain⟨k1,k2,k3,hB⟩:=lV (w:=w) (a:=a) (b:=b) (c:=a) (d:=d) (x:=0) (y:=0) (Below.refl _ _)
   obtain⟨W,hW⟩:∃ W,((w.alloc (.cells #[.int .i64 a,.int .i64 b] 81)).alloc (.cells #[.int .i64 a,.int .i64 d] 81)).alloc (.cells #[.int .i64 0,.int .i64 0] 81)=W:=⟨_,rfl⟩
   rw[hW] at k1 k2 k3 hB ⊢
   clear hW
   obtain⟨q1,q2,-,-⟩:=aF k1
   obtain⟨r1,r2,-,-⟩:=aF k2
   have m1:=cell_regrown q1
   have m2:=cell_regrown q2
   have m3:=cell_regrown r1
   have m4:=cell_regrown r2
   refine wp_region_quiet_below mixed (by kernel_rfl) ?_
   repeat (go_big_quiet_step ((go_at_call 143;exact Calls.regrown_of (dQ _ _))))
   refine wpQuiet_nil ?_
   intro _ hw'
   obtain⟨⟨dq,osq⟩,hw''⟩:=hw'
   subst hw''
   obtain⟨-,-,k4,hB4⟩:=pI k1 k2 k3 hB dq osq
   clear k1 k2 k3 hB q1 q2 r1 r2 m1 m2 m3 m4
   simp only
   generalize grow (redrawn W dq) osq=G at *
   obtain⟨s1,s2,s3,s4⟩:=aF k4
   go_wp2_with fail
   obtain⟨c0,c1,hB2⟩:=aK k4 hB4 (by omega) 0 1
   exact bodyPost_ret (v:=.agg #[.int .i64 0,.int .i64 1]) (by simp[results,Tryz.results183,go_sem,c0,c1]) rfl ⟨rfl,hB2⟩
 ·rw[show fH a b c d=(0,1) by simp[fH,h3];omega]
  have e4:(a==c)=false:=by simp;omega
  clear h3
  go_enter Tryz.func183,Tryz.ntmps183
  go_wp2_with fail
  obtain⟨k1,k2,k3,hB⟩:=lV (w:=w) (a:=a) (b:=b) (c:=c) (d:=d) (x:=0) (y:=0) (Below.refl _ _)
  obtain⟨W,hW⟩:∃ W,((w.alloc (.cells #[.int .i64 a,.int .i64 b] 81)).alloc (.cells #[.int .i64 c,.int .i64 d] 81)).alloc (.cells #[.int .i64 0,.int .i64 0] 81)=W:=⟨_,rfl⟩
  rw[hW] at k1 k2 k3 hB ⊢
  clear hW
  obtain⟨q1,q2,-,-⟩:=aF k1
  obtain⟨r1,r2,-,-⟩:=aF k2
  have m1:=cell_regrown q1
  have m2:=cell_regrown q2
  have m3:=cell_regrown r1
  have m4:=cell_regrown r2
  refine wp_region_quiet_below mixed (by kernel_rfl) ?_
  repeat (go_big_quiet_step ((go_at_call 143;exact Calls.regrown_of (dQ _ _))))
  refine wpQuiet_nil ?_
  intro _ hw'
  obtain⟨⟨dq,osq⟩,hw''⟩:=hw'
  subst hw''
  obtain⟨-,-,k4,hB4⟩:=pI k1 k2 k3 hB dq osq
  clear k1 k2 k3 hB q1 q2 r1 r2 m1 m2 m3 m4
  simp only
  generalize grow (redrawn W dq) osq=G at *
  obtain⟨s1,s2,s3,s4⟩:=aF k4
  go_wp2_with fail
  obtain⟨c0,c1,hB2⟩:=aK k4 hB4 (by omega) 0 1
  exact bodyPost_ret (v:=.agg #[.int .i64 0,.int .i64 1]) (by simp[results,Tryz.results183,go_sem,c0,c1]) rfl ⟨rfl,hB2⟩
end Go.Proofs.Spn
