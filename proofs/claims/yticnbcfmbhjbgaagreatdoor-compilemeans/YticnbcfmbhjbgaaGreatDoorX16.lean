import Derived.Test.YticnbcfmbhjbgaaGreatDoorX15
set_option maxRecDepth 100000
set_option maxHeartbeats 32000000
set_option linter.unusedVariables false
namespace Go.Proofs.Spn
section
open Go.RowKit Go.IntWalk
variable {k op s x y:Int}
def bet (p q r:Int):Prop:=(p<=q/\q<=r)\/(r<=q/\q<=p)
def fnE (E:Int × Int):Int × Int:=if E.2=0 then(if wd E.1=true then(E.1,0) else(0,13)) else(0,E.2)
theorem xM {xs:List Int}(h:fT op k s xs=true):bK op k s xs=fnE (ex op k s (xs.getD 0 0) (xs.getD 1 0) (xs.getD 2 0)):=by
 unfold bK fnE
 rw[if_pos h]
theorem kD {E:Int × Int}(h:(fnE E).2=0):E.2=0/\wd E.1=true/\(fnE E).1=E.1:=by
 unfold fnE at *
 by_cases h1:E.2=0
 ·rw[if_pos h1] at *
  by_cases h2:wd E.1=true
  ·rw[if_pos h2] at *;exact⟨h1,h2,rfl⟩
  ·rw[if_neg h2] at h;simp at h
 ·rw[if_neg h1] at *;exact absurd h h1
theorem aW3 {E:Int × Int}(h1:E.2=0)(h2:wd E.1=true):fnE E=(E.1,0):=by
 unfold fnE;rw[if_pos h1,if_pos h2]
theorem bA6 (ho:ar op=1)(hc:cons op k s=true)(hx:fI x):fT op k s [x]=true:=by
 simp[fT,ho,hc,bY];exact hx
theorem bA7 (ho:ar op=2)(hc:cons op k s=true)(hx:fI x)(hy:fI y):fT op k s [x,y]=true:=by
 simp[fT,ho,hc,bY];exact⟨hx,hy⟩
theorem bA8 {z:Int}(ho:ar op=3)(hc:cons op k s=true)(hx:fI x)(hy:fI y)(hz:fI z):fT op k s [x,y,z]=true:=by
 simp[fT,ho,hc,bY];exact⟨hx,hy,hz⟩
theorem bB2 (ho:ar op=1)(hc:cons op k s=true)(hx:fI x):bK op k s [x]=fnE (ex op k s x 0 0):=xM (bA6 ho hc hx)
theorem aGi (ho:ar op=2)(hc:cons op k s=true)(hx:fI x)(hy:fI y):bK op k s [x,y]=fnE (ex op k s x y 0):=xM (bA7 ho hc hx hy)
theorem bB3 {z:Int}(ho:ar op=3)(hc:cons op k s=true)(hx:fI x)(hy:fI y)(hz:fI z):bK op k s [x,y,z]=fnE (ex op k s x y z):=xM (bA8 ho hc hx hy hz)
theorem aA4 {f:Int->Int->Int × Int}{a b c d lo hi:Int}(h:fA f a b c d=((lo,hi),0)) :
  (f a c).2=0/\(f a d).2=0/\(f b c).2=0/\(f b d).2=0 /\
  lo=min (min (min (min 9223372036854775807 (f a c).1) (f a d).1) (f b c).1) (f b d).1/\hi=max (max (max (max (-9223372036854775808) (f a c).1) (f a d).1) (f b c).1) (f b d).1:=by
 have e0:cv f a b c d 0=f a c:=rfl
 have e1:cv f a b c d 1=f a d:=rfl
 have e2:cv f a b c d 2=f b c:=rfl
 have e3:cv f a b c d 3=f b d:=rfl
 unfold fA at h
 rw[e0,e1,e2,e3] at h
 by_cases h0:(f a c).2=0
 ·rw[if_neg (by simp[h0])] at h
  by_cases h1:(f a d).2=0
  ·rw[if_neg (by simp[h1])] at h
   by_cases h2:(f b c).2=0
   ·rw[if_neg (by simp[h2])] at h
    by_cases h3:(f b d).2=0
    ·rw[if_neg (by simp[h3])] at h
     simp only[Prod.mk.injEq,and_true] at h
     refine⟨h0,h1,h2,h3,?_,?_⟩
     ·rw[<-h.1];simp only[cLo,e0,e1,e2,e3]
     ·rw[<-h.2];simp only[cHi,e0,e1,e2,e3]
    ·rw[if_pos h3] at h;simp only[Prod.mk.injEq] at h;exact absurd h.2 h3
   ·rw[if_pos h2] at h;simp only[Prod.mk.injEq] at h;exact absurd h.2 h2
  ·rw[if_pos h1] at h;simp only[Prod.mk.injEq] at h;exact absurd h.2 h1
 ·rw[if_pos h0] at h;simp only[Prod.mk.injEq] at h;exact absurd h.2 h0
structure Mid (g:Int->Int->Int)(a b c d:Int):Prop where
 fst:∀ x y,a<=x->x<=b->c<=y->y<=d->bet (g a y) (g x y) (g b y)
 snd:∀ x y,a<=x->x<=b->c<=y->y<=d->bet (g x c) (g x y) (g x d)
theorem Mid.hull {g:Int->Int->Int}{a b c d:Int}(h:Mid g a b c d)(hab:a<=b)(hcd:c<=d)(h1:a<=x)(h2:x<=b)(h3:c<=y)(h4:y<=d) :
  min (min (min (g a c) (g a d)) (g b c)) (g b d)<=g x y/\g x y<=max (max (max (g a c) (g a d)) (g b c)) (g b d):=by
 have e1:=h.fst x y h1 h2 h3 h4
 have e2:=h.snd a y (iLr _) hab h3 h4
 have e3:=h.snd b y hab (iLr _) h3 h4
 unfold bet at e1 e2 e3
 omega
theorem aC8 (a b c d:Int):Mid (fun x y=>x*y) a b c d:=by
 constructor
 ·intro x y h1 h2 h3 h4
  unfold bet
  rcases Int.le_total 0 y with hy|hy
  ·left
   exact⟨Int.mul_le_mul_of_nonneg_right h1 hy,Int.mul_le_mul_of_nonneg_right h2 hy⟩
  ·right
   exact⟨Int.mul_le_mul_of_nonpos_right h2 hy,Int.mul_le_mul_of_nonpos_right h1 hy⟩
 ·intro x y h1 h2 h3 h4
  unfold bet
  rcases Int.le_total 0 x with hx|hx
  ·left
   exact⟨Int.mul_le_mul_of_nonneg_left h3 hx,Int.mul_le_mul_of_nonneg_left h4 hx⟩
  ·right
   exact⟨Int.mul_le_mul_of_nonpos_left hx h4,Int.mul_le_mul_of_nonpos_left hx h3⟩
theorem jD {m n:Nat}(h:m<=n):(2:Int) ^ m<=2 ^ n/\(1:Int)<=2 ^ m:=by
 have:=zV m n h
 omega
theorem aU2 (a b c d:Int)(hc:0<=c):Mid (fun x y=>x*2 ^ y.toNat) a b c d:=by
 constructor
 ·intro x y h1 h2 h3 h4
  exact(aC8 a b (2 ^ y.toNat) (2 ^ y.toNat)).fst x _ h1 h2 (iLr _) (iLr _)
 ·intro x y h1 h2 h3 h4
  exact(aC8 x x (2 ^ c.toNat) (2 ^ d.toNat)).snd x _ (iLr _) (iLr _) (jD (by omega)).1 (jD (by omega)).1
theorem iO {p:Int}(hp:0 < p)(h:x<=y):x / p<=y / p:=Int.ediv_le_ediv hp h
theorem aU3 (a b c d:Int)(hc:0<=c):Mid (fun x y=>x / 2 ^ y.toNat) a b c d:=by
 constructor
 ·intro x y h1 h2 h3 h4
  have hp:=(jD (nLr y.toNat)).2
  exact .inl ⟨iO (by omega) h1,iO (by omega) h2⟩
 ·intro x y h1 h2 h3 h4
  have key:∀ m n:Nat,m<=n->(0<=x->x / 2 ^ n<=x / 2 ^ m)/\(x < 0->x / 2 ^ m<=x / 2 ^ n):=by
   intro m n hmn
   obtain⟨q,rfl⟩:∃ q,n=m+q:=⟨n-m,by omega⟩
   have hm:=(jD (nLr m)).2
   have hq:=(jD (nLr q)).2
   have e:x / 2 ^ (m+q)=x / 2 ^ m / 2 ^ q:=by rw[Int.pow_add,Int.ediv_ediv_of_nonneg (by omega)]
   rw[e]
   generalize (2:Int) ^ q=Q at *
   constructor
   ·intro hx
    have:0<=x / 2 ^ m:=Int.ediv_nonneg hx (by omega)
    exact Int.ediv_le_self _ this
   ·intro hx
    have hneg:x / 2 ^ m < 0:=Int.ediv_neg_of_neg_of_pos hx (by omega)
    generalize x / 2 ^ m=z at *
    have h1:z*Q<=z*1:=Int.mul_le_mul_of_nonpos_left (by omega) hq
    exact(Int.le_ediv_iff_mul_le (by omega)).2 (by omega)
  unfold bet
  rcases Int.lt_or_le x 0 with hx|hx
  ·exact .inl ⟨(key c.toNat y.toNat (by omega)).2 hx,(key y.toNat d.toNat (by omega)).2 hx⟩
  ·exact .inr ⟨(key y.toNat d.toNat (by omega)).1 hx,(key c.toNat y.toNat (by omega)).1 hx⟩
theorem aBx (x y:Int):x.tdiv (-y)=-(x.tdiv y):=Int.tdiv_neg x y
theorem aBi (x y:Int):(-x).tdiv y=-(x.tdiv y):=Int.neg_tdiv x y
theorem jH {x':Int}(hy:0 < y)(h:x<=x'):x.tdiv y<=x'.tdiv y:=by
 rcases Int.lt_or_le x 0 with hx|hx
 ·rcases Int.lt_or_le x' 0 with hx'|hx'
  ·have e1:x.tdiv y=-((-x) / y):=by rw[<-iTe (by omega),Int.neg_tdiv,Int.neg_neg]
   have e2:x'.tdiv y=-((-x') / y):=by rw[<-iTe (by omega),Int.neg_tdiv,Int.neg_neg]
   have:=iO hy (show -x'<=-x by omega)
   omega
  ·have e1:x.tdiv y=-((-x) / y):=by rw[<-iTe (by omega),Int.neg_tdiv,Int.neg_neg]
   have e2:x'.tdiv y=x' / y:=iTe hx'
   have h1:0<=(-x) / y:=Int.ediv_nonneg (by omega) (by omega)
   have h2:0<=x' / y:=Int.ediv_nonneg hx' (by omega)
   omega
 ·rw[iTe hx,iTe (by omega)]
  exact iO hy h
theorem dA {y':Int}(hx:0<=x)(hy:0 < y)(h:y<=y'):x.tdiv y'<=x.tdiv y:=by
 rw[iTe hx,iTe hx]
 refine(Int.le_ediv_iff_mul_le hy).2 ?_
 have h0:0<=x / y':=Int.ediv_nonneg hx (by omega)
 have h1:x / y' * y<=x / y' * y':=Int.mul_le_mul_of_nonneg_left h h0
 have h2:=Int.ediv_mul_le x (show y'≠0 by omega)
 omega
theorem aQ4 (a b c d:Int)(h0:¬(c<=0/\0<=d)):Mid (fun x y=>x.tdiv y) a b c d:=by
 constructor
 ·intro x y h1 h2 h3 h4
  unfold bet
  rcases(show 0 < y\/y < 0 by omega) with hy|hy
  ·exact .inl ⟨jH hy h1,jH hy h2⟩
  ·right
   have e:=fun z:Int=>aBx z (-y)
   simp only[Int.neg_neg] at e
   have h5:=jH (show 0 < -y by omega) h1
   have h6:=jH (show 0 < -y by omega) h2
   show b.tdiv y<=x.tdiv y/\x.tdiv y<=a.tdiv y
   rw[e a,e x,e b]
   omega
 ·intro x y h1 h2 h3 h4
  show bet (x.tdiv c) (x.tdiv y) (x.tdiv d)
  unfold bet
  rcases(show 0 < c\/d < 0 by omega) with hc|hd
  ·rcases Int.le_total 0 x with hx|hx
   ·exact .inr ⟨dA hx (by omega) h4,dA hx (by omega) h3⟩
   ·left
    have e:=fun z:Int=>aBi (-x) z
    simp only[Int.neg_neg] at e
    have h5:=dA (show 0<=-x by omega) (show 0 < c by omega) h3
    have h6:=dA (show 0<=-x by omega) (show 0 < y by omega) h4
    rw[e c,e y,e d]
    omega
  ·have ed:=fun z w:Int=>aBx z (-w)
   simp only[Int.neg_neg] at ed
   rw[ed x c,ed x y,ed x d]
   rcases Int.le_total 0 x with hx|hx
   ·have h5:=dA hx (show 0 < -y by omega) (show -y<=-c by omega)
    have h6:=dA hx (show 0 < -d by omega) (show -d<=-y by omega)
    omega
   ·have e:=fun z:Int=>aBi (-x) z
    simp only[Int.neg_neg] at e
    have h5:=dA (show 0<=-x by omega) (show 0 < -y by omega) (show -y<=-c by omega)
    have h6:=dA (show 0<=-x by omega) (show 0 < -d by omega) (show -d<=-y by omega)
    rw[e (-c),e (-y),e (-d)]
    omega
theorem kI {p q:Bool}(h:p=true->q=true):tr p<=tr q:=by
 cases p <;> cases q <;> simp[tr] at *
theorem aSi (op:Int)(ho:op=18\/op=19\/op=20\/op=21)(k s a b c d:Int):Mid (fun x y=>(ex op k s x y 0).1) a b c d:=by
 rcases ho with rfl|rfl|rfl|rfl
 ·constructor
  ·intro x y h1 h2 h3 h4
   exact .inr ⟨kI (by simp;omega),kI (by simp;omega)⟩
  ·intro x y h1 h2 h3 h4
   exact .inl ⟨kI (by simp;omega),kI (by simp;omega)⟩
 ·constructor
  ·intro x y h1 h2 h3 h4
   exact .inr ⟨kI (by simp;omega),kI (by simp;omega)⟩
  ·intro x y h1 h2 h3 h4
   exact .inl ⟨kI (by simp;omega),kI (by simp;omega)⟩
 ·constructor
  ·intro x y h1 h2 h3 h4
   exact .inl ⟨kI (by simp;omega),kI (by simp;omega)⟩
  ·intro x y h1 h2 h3 h4
   exact .inr ⟨kI (by simp;omega),kI (by simp;omega)⟩
 ·constructor
  ·intro x y h1 h2 h3 h4
   exact .inl ⟨kI (by simp;omega),kI (by simp;omega)⟩
  ·intro x y h1 h2 h3 h4
   exact .inr ⟨kI (by simp;omega),kI (by simp;omega)⟩
end
section
open Go.RowKit Go.IntWalk
variable {a b hi lo:Int}
theorem trd (p:Prop)[Decidable p]:(p/\tr (decide p)=1)\/(¬p/\tr (decide p)=0):=by
 by_cases h:p <;> simp[tr,h]
theorem trb (x y:Int):(x=y/\tr (x==y)=1/\tr (x != y)=0)\/(x≠y/\tr (x==y)=0/\tr (x != y)=1):=by
 by_cases h:x=y <;> simp[tr,h]
theorem vB {f:List Int->Int × Int}{L:List (Int × Int)}(h:lC f L=((lo,hi),0)) :
  (f (sM L)).2=0/\(f (vS L)).2=0/\lo=(f (sM L)).1/\hi=(f (vS L)).1:=by
 unfold lC at h
 by_cases h0:(f (sM L)).2=0
 ·rw[if_neg (by simp[h0])] at h
  simp only[Prod.mk.injEq] at h
  exact⟨h0,h.2,h.1.1.symm,h.1.2.symm⟩
 ·rw[if_pos h0] at h
  simp only[Prod.mk.injEq] at h
  exact absurd h.2 h0
theorem aNt {Z:(Int × Int) × Int}(h:aAo Z=((lo,hi),0)):Z=((lo,hi),0)/\nT lo hi=true:=by
 obtain⟨⟨x,y⟩,e⟩:=Z
 unfold aAo at h
 simp only at h
 by_cases he:e=0
 ·rw[if_neg (by simp[he])] at h
  by_cases hw:nT x y=true
  ·rw[if_pos hw] at h
   simp only[Prod.mk.injEq] at h
   obtain⟨⟨rfl,rfl⟩,-⟩:=h
   exact⟨by rw[he],hw⟩
  ·rw[if_neg hw] at h
   simp at h
 ·rw[if_pos he] at h
  simp only[Prod.mk.injEq] at h
  exact absurd h.2 he
theorem aJh {op k s:Int}{L:List (Int × Int)}(h:ofZ op k s L=((lo,hi),0)):jM op k s L=true/\bV op k s L=((lo,hi),0)/\nT lo hi=true:=by
 unfold ofZ at h
 by_cases hm:jM op k s L=true
 ·rw[if_pos hm] at h
  have:=aNt h
  exact⟨hm,this.1,this.2⟩
 ·rw[if_neg hm] at h
  simp at h
theorem aKi (ha:0<=a/\a<=2147483647)(hb:-2147483648<=b/\b<=2147483647):0<=bw .and a b/\bw .and a b<=a:=by
 have h:=aIo (fun a b=>0<=a->0<=bw .and a b/\bw .and a b<=a) (fun _=>by decide) (fun _=>by decide) (fun _=>by omega) (fun _=>by omega) (by
  intro a b ha hb h e
  have h1:=h (by omega)
  show 0<=bw .and a b/\bw .and a b<=a
  rw[qQ .and a b ha hb]
  simp only[nW.dig]
  rcases mK a with f|f <;> rcases mK b with g|g <;> rw[f,g] <;> omega) (show -2147483648<=a/\a<=2147483647 by omega) hb
 exact h ha.1
theorem aV8 (ha:0<=a/\a<=2147483647)(hb:0<=b/\b<=2147483647):a<=bw .or a b/\b<=bw .or a b/\0<=bw .xor a b:=by
 have h:=aIo (fun a b=>0<=a->0<=b->a<=bw .or a b/\b<=bw .or a b/\0<=bw .xor a b) (fun _ _=>by decide) (fun _ _=>by omega) (fun _=>by omega) (fun _=>by omega) (by
  intro a b ha hb h e f
  have h1:=h (by omega) (by omega)
  show a<=bw .or a b/\b<=bw .or a b/\0<=bw .xor a b
  rw[qQ .or a b ha hb,qQ .xor a b ha hb]
  simp only[nW.dig]
  rcases mK a with f|f <;> rcases mK b with g|g <;> rw[f,g] <;> omega) (show -2147483648<=a/\a<=2147483647 by omega) (show -2147483648<=b/\b<=2147483647 by omega)
 exact h ha.1 hb.1
theorem aR7 {c d:Int}(ha:fI a)(hb:fI b)(hc:fI c)(hd:fI d) :
  (-pM a b c d<=a/\a < pM a b c d)/\(-pM a b c d<=b/\b < pM a b c d)/\(-pM a b c d<=c/\c < pM a b c d)/\(-pM a b c d<=d/\d < pM a b c d):=by
 have key:∀ x,fI x->wdN x<=dC a b c d->-pM a b c d<=x/\x < pM a b c d:=by
  intro x hx hn
  have h1:=(gU hx).2
  have h2:=(jD hn).1
  have e:((2 ^ wdN x:Nat):Int)=(2:Int) ^ wdN x:=by simp
  unfold pM
  rw[e] at h1
  omega
 refine⟨key a ha ?_,key b hb ?_,key c hc ?_,key d hd ?_⟩ <;> (unfold dC;omega)
theorem aM4 (o:nW){c d x y:Int}(ha:fI a)(hb:fI b)(hc:fI c)(hd:fI d)(h1:a<=x)(h2:x<=b)(h3:c<=y)(h4:y<=d) :
  -pM a b c d<=bw o x y/\bw o x y<=pM a b c d-1:=by
 have h:=aR7 ha hb hc hd
 have hn:=(aGr ha hb hc hd).1
 have e:((2 ^ dC a b c d:Nat):Int)=pM a b c d:=by unfold pM;simp
 have hr:=aM5 o (dC a b c d) (by omega) x y (by rw[e];omega) (by rw[e];omega)
 rw[e] at hr
 omega
theorem aH6 (x y:Int)(hy:y≠0):(0<=x->0<=x.tmod y/\x.tmod y<=x)/\(x<=0->x<=x.tmod y/\x.tmod y<=0)/\(0 < y->-y < x.tmod y/\x.tmod y < y)/\(y < 0->y < x.tmod y/\x.tmod y < -y):=by
 have h1:=Int.natAbs_tmod x y
 have h2:x.natAbs % y.natAbs < y.natAbs:=Nat.mod_lt _ (by omega)
 have h3:=Nat.mod_le x.natAbs y.natAbs
 have h4:0<=x->0<=x.tmod y:=fun h=>Int.tmod_nonneg y h
 have h5:x<=0->x.tmod y<=0:=fun h=>by
  have e:(-x).tmod y=-(x.tmod y):=Int.neg_tmod x y
  have:=Int.tmod_nonneg (a:=-x) y (by omega)
  omega
 omega
end
section
open Go.RowKit Go.IntWalk
variable {a b c d e f hi k lo op s x y:Int}
theorem tZ (ho:ar op=2)(hco:cons op k s=true)(ha:fI a)(hb:fI b)(hc:fI c)(hd:fI d)
  (h:fA (fun u v=>bK op k s [u,v]) a b c d=((lo,hi),0)) (g:Int->Int->Int) (hg:∀ x y,a<=x->x<=b->c<=y->y<=d->(ex op k s x y 0).2=0->(ex op k s x y 0).1=g x y) (hm:Mid g a b c d) (hab:a<=b) (hcd:c<=d)
  {x y:Int} (h1:a<=x) (h2:x<=b) (h3:c<=y) (h4:y<=d) (he:(ex op k s x y 0).2=0):lo<=(ex op k s x y 0).1/\(ex op k s x y 0).1<=hi:=by
 obtain⟨e1,e2,e3,e4,rfl,rfl⟩:=aA4 h
 simp only[aGi ho hco ha hc,aGi ho hco ha hd,aGi ho hco hb hc,aGi ho hco hb hd] at *
 obtain⟨p1,w1,q1⟩:=kD e1
 obtain⟨p2,w2,q2⟩:=kD e2
 obtain⟨p3,w3,q3⟩:=kD e3
 obtain⟨p4,w4,q4⟩:=kD e4
 rw[q1,q2,q3,q4]
 have k1:=hg a c (iLr _) hab (iLr _) hcd p1
 have k2:=hg a d (iLr _) hab hcd (iLr _) p2
 have k3:=hg b c hab (iLr _) (iLr _) hcd p3
 have k4:=hg b d hab (iLr _) hcd (iLr _) p4
 have k5:=hg x y h1 h2 h3 h4 he
 have hh:=hm.hull hab hcd h1 h2 h3 h4
 rw[bY] at w1 w2 w3 w4
 rw[k1] at w1;rw[k2] at w2;rw[k3] at w3;rw[k4] at w4
 rw[k1,k2,k3,k4,k5]
 omega
theorem yF (hop:op=13\/op=14)(ha:fI a)(hb:fI b)(hc:fI c)(hd:fI d)
  (h:fA (fun u v=>bK op k s [u,v]) a b c d=((lo,hi),0)):0<=c/\d<=31:=by
 obtain⟨e1,e2,-,-,-,-⟩:=aA4 h
 have ho:ar op=2:=by rcases hop with rfl|rfl <;> rfl
 have hco:cons op k s=true:=by rcases hop with rfl|rfl <;> rfl
 simp only[aGi ho hco ha hc,aGi ho hco ha hd] at e1 e2
 have p1:=(kD e1).1
 have p2:=(kD e2).1
 have key:∀ y,(ex op k s a y 0).2=0->fC y 0 31=true:=by
  intro y hy
  cases hi:fC y 0 31
  ·rcases hop with rfl|rfl <;> simp[ex,hi] at hy
  ·rfl
 have r1:=aK.1 (key c p1)
 have r2:=aK.1 (key d p2)
 omega
theorem aBb (hop:op=10\/op=13\/op=14\/op=18\/op=19\/op=20\/op=21)(hw:nT a b=true)(hw':nT c d=true)
  (h:fA (fun u v=>bK op k s [u,v]) a b c d=((lo,hi),0)) (h1:a<=x) (h2:x<=b) (h3:c<=y) (h4:y<=d) :
  (ex op k s x y 0).2=0/\lo<=(ex op k s x y 0).1/\(ex op k s x y 0).1<=hi:=by
 obtain⟨hab,A1,A2,B1,B2⟩:=bF.1 hw
 obtain⟨hcd,C1,C2,D1,D2⟩:=bF.1 hw'
 have ho:ar op=2:=by rcases hop with rfl|rfl|rfl|rfl|rfl|rfl|rfl <;> rfl
 have hco:cons op k s=true:=by rcases hop with rfl|rfl|rfl|rfl|rfl|rfl|rfl <;> rfl
 rcases hop with rfl|rfl|rfl|hop
 ·exact⟨rfl,tZ ho hco ⟨A1,A2⟩ ⟨B1,B2⟩ ⟨C1,C2⟩ ⟨D1,D2⟩ h (fun x y=>x*y) (fun _ _ _ _ _ _ _=>rfl) (aC8 _ _ _ _) hab hcd h1 h2 h3 h4 rfl⟩
 ·obtain⟨hc0,hd31⟩:=yF (.inl rfl) ⟨A1,A2⟩ ⟨B1,B2⟩ ⟨C1,C2⟩ ⟨D1,D2⟩ h
  have hi:∀ y,c<=y->y<=d->fC y 0 31=true:=fun y p q=>aI3 (by omega) (by omega)
  have he:∀ x y,c<=y->y<=d->ex 13 k s x y 0=(x*2 ^ y.toNat,0):=fun x y p q=>by simp[ex,hi y p q]
  have e0:(ex 13 k s x y 0).2=0:=by rw[he x y h3 h4]
  exact⟨e0,tZ ho hco ⟨A1,A2⟩ ⟨B1,B2⟩ ⟨C1,C2⟩ ⟨D1,D2⟩ h (fun x y=>x*2 ^ y.toNat) (fun x y _ _ p q _=>by rw[he x y p q]) (aU2 _ _ _ _ hc0) hab hcd h1 h2 h3 h4 e0⟩
 ·obtain⟨hc0,hd31⟩:=yF (.inr rfl) ⟨A1,A2⟩ ⟨B1,B2⟩ ⟨C1,C2⟩ ⟨D1,D2⟩ h
  have hi:∀ y,c<=y->y<=d->fC y 0 31=true:=fun y p q=>aI3 (by omega) (by omega)
  have he:∀ x y,c<=y->y<=d->ex 14 k s x y 0=(x / 2 ^ y.toNat,0):=fun x y p q=>by simp[ex,hi y p q]
  have e0:(ex 14 k s x y 0).2=0:=by rw[he x y h3 h4]
  exact⟨e0,tZ ho hco ⟨A1,A2⟩ ⟨B1,B2⟩ ⟨C1,C2⟩ ⟨D1,D2⟩ h (fun x y=>x / 2 ^ y.toNat) (fun x y _ _ p q _=>by rw[he x y p q]) (aU3 _ _ _ _ hc0) hab hcd h1 h2 h3 h4 e0⟩
 ·have e0:(ex op k s x y 0).2=0:=by rcases hop with rfl|rfl|rfl|rfl <;> rfl
  exact⟨e0,tZ ho hco ⟨A1,A2⟩ ⟨B1,B2⟩ ⟨C1,C2⟩ ⟨D1,D2⟩ h (fun x y=>(ex op k s x y 0).1) (fun _ _ _ _ _ _ _=>rfl) (aSi op hop k s a b c d) hab hcd h1 h2 h3 h4 e0⟩
theorem aN9 (hop:op=11\/op=12)(hw:nT a b=true)(hw':nT c d=true)
  (h:uA (fun u v=>bK op k s [u,v]) op a b c d=((lo,hi),0)) (h1:a<=x) (h2:x<=b) (h3:c<=y) (h4:y<=d) :
  (ex op k s x y 0).2=0/\lo<=(ex op k s x y 0).1/\(ex op k s x y 0).1<=hi:=by
 obtain⟨hab,A1,A2,B1,B2⟩:=bF.1 hw
 obtain⟨hcd,C1,C2,D1,D2⟩:=bF.1 hw'
 unfold uA at h
 cases h0:hasB c d 0
 ·rw[h0] at h
  simp only[Bool.false_eq_true,if_false] at h
  have hz:¬(c<=0/\0<=d):=fun hh=>by rw[aE1.2 hh] at h0;cases h0
  have hy:y≠0:=by omega
  rcases hop with rfl|rfl
  ·simp only[if_true] at h
   have he:∀ x y,c<=y->y<=d->ex 11 k s x y 0=(x.tdiv y,0):=fun x y p q=>by simp[ex,show y≠0 by omega]
   have e0:(ex 11 k s x y 0).2=0:=by rw[he x y h3 h4]
   exact⟨e0,tZ rfl rfl ⟨A1,A2⟩ ⟨B1,B2⟩ ⟨C1,C2⟩ ⟨D1,D2⟩ h (fun x y=>x.tdiv y) (fun x y _ _ p q _=>by rw[he x y p q]) (aQ4 _ _ _ _ hz) hab hcd h1 h2 h3 h4 e0⟩
  ·rw[if_neg (by decide)] at h
   have he:ex 12 k s x y 0=(x.tmod y,0):=by simp[ex,hy]
   rw[he]
   have hf:=aH6 x y hy
   unfold mG at h
   simp only[Prod.mk.injEq,and_true] at h
   obtain⟨rfl,rfl⟩:=h
   refine⟨rfl,?_,?_⟩
   ·show (if a < 0 then _ else _)<=x.tmod y
    split <;> omega
   ·show x.tmod y<=(if 0 < b then _ else _)
    split <;> omega
 ·rw[h0] at h
  simp at h
theorem aO6 {s:Int}(hk:1<=k)(h1:a<=x)(h2:x<=b)(ha:max a (-a)*k<=4611686018427387904)(hb:max b (-b)*k<=4611686018427387904):max x (-x)*k<=4611686018427387904:=by
 rcases(show max x (-x)<=max a (-a)\/max x (-x)<=max b (-b) by omega) with h|h
 ·exact Int.le_trans (Int.mul_le_mul_of_nonneg_right h (by omega)) ha
 ·exact Int.le_trans (Int.mul_le_mul_of_nonneg_right h (by omega)) hb
theorem bAi (h:(ex 33 k s a 0 0).2=0):max a (-a)*k<=4611686018427387904:=by
 have e:ex 33 k s a 0 0=if 4611686018427387904 < max a (-a)*k then(0,13) else(a*k / 2 ^ s.toNat,0):=rfl
 rw[e] at h
 split at h
 ·simp at h
 ·omega
theorem aNp (h:max a (-a)*k<=4611686018427387904):ex 33 k s a 0 0=(a*k / 2 ^ s.toNat,0):=by
 have e:ex 33 k s a 0 0=if 4611686018427387904 < max a (-a)*k then(0,13) else(a*k / 2 ^ s.toNat,0):=rfl
 rw[e,if_neg (by omega)]
theorem oF (hop:op=7\/op=29\/op=30\/op=33)(hco:cons op k s=true)(hw:nT a b=true)
  (h:lC (fun xs=>bK op k s xs) [(a,b)]=((lo,hi),0)) (h1:a<=x) (h2:x<=b) :
  (ex op k s x 0 0).2=0/\lo<=(ex op k s x 0 0).1/\(ex op k s x 0 0).1<=hi:=by
 obtain⟨hab,A1,A2,B1,B2⟩:=bF.1 hw
 have ho:ar op=1:=by rcases hop with rfl|rfl|rfl|rfl <;> rfl
 obtain⟨e1,e2,rfl,rfl⟩:=vB h
 have f1:sM [(a,b)]=[a]:=rfl
 have f2:vS [(a,b)]=[b]:=rfl
 simp only[f1,f2,bB2 ho hco ⟨A1,A2⟩,bB2 ho hco ⟨B1,B2⟩] at *
 obtain⟨p1,w1,q1⟩:=kD e1
 obtain⟨p2,w2,q2⟩:=kD e2
 rw[q1,q2]
 rcases hop with rfl|rfl|rfl|rfl
 ·refine⟨rfl,?_⟩
  show tr (decide (0 < a))-tr (decide (a < 0))<=tr (decide (0 < x))-tr (decide (x < 0))/\tr (decide (0 < x))-tr (decide (x < 0))<=tr (decide (0 < b))-tr (decide (b < 0))
  have t1:=trd (0 < a)
  have t2:=trd (a < 0)
  have t3:=trd (0 < x)
  have t4:=trd (x < 0)
  have t5:=trd (0 < b)
  have t6:=trd (b < 0)
  omega
 ·refine⟨rfl,?_⟩
  have hp:=(jD (nLr k.toNat)).2
  exact⟨Int.mul_le_mul_of_nonneg_right h1 (by omega),Int.mul_le_mul_of_nonneg_right h2 (by omega)⟩
 ·refine⟨rfl,?_⟩
  have hp:=(jD (nLr k.toNat)).2
  exact⟨iO (by omega) h1,iO (by omega) h2⟩
 ·have hk:(fC k 1 4611686018427387904&&fC s 0 62)=true:=hco
  rw[bAt,aK,aK] at hk
  have ma:=bAi p1
  have mb:=bAi p2
  have mx:=aO6 (s:=s) hk.1.1 h1 h2 ma mb
  rw[aNp ma,aNp mb,aNp mx]
  have hp:=(jD (nLr s.toNat)).2
  exact⟨rfl,iO (by omega) (Int.mul_le_mul_of_nonneg_right h1 (by omega)),iO (by omega) (Int.mul_le_mul_of_nonneg_right h2 (by omega))⟩
theorem aHc (hop:op=24\/op=25)(hw:nT a b=true)(hw':nT c d=true)
  (h:lC (fun xs=>bK op k s xs) [(a,b),(c,d)]=((lo,hi),0)) (h1:a<=x) (h2:x<=b) (h3:c<=y) (h4:y<=d) :
  (ex op k s x y 0).2=0/\lo<=(ex op k s x y 0).1/\(ex op k s x y 0).1<=hi:=by
 obtain⟨hab,A1,A2,B1,B2⟩:=bF.1 hw
 obtain⟨hcd,C1,C2,D1,D2⟩:=bF.1 hw'
 have ho:ar op=2:=by rcases hop with rfl|rfl <;> rfl
 have hco:cons op k s=true:=by rcases hop with rfl|rfl <;> rfl
 obtain⟨e1,e2,rfl,rfl⟩:=vB h
 have f1:sM [(a,b),(c,d)]=[a,c]:=rfl
 have f2:vS [(a,b),(c,d)]=[b,d]:=rfl
 simp only[f1,f2,aGi ho hco ⟨A1,A2⟩ ⟨C1,C2⟩,aGi ho hco ⟨B1,B2⟩ ⟨D1,D2⟩] at *
 obtain⟨p1,w1,q1⟩:=kD e1
 obtain⟨p2,w2,q2⟩:=kD e2
 rw[q1,q2]
 rcases hop with rfl|rfl
 ·refine⟨rfl,?_⟩
  show min a c<=min x y/\min x y<=min b d
  omega
 ·refine⟨rfl,?_⟩
  show max a c<=max x y/\max x y<=max b d
  omega
theorem yY {z:Int}(hop:op=26\/op=27)(hw:nT a b=true)(hw':nT c d=true)(hw'':nT e f=true)
  (h:lC (fun xs=>bK op k s xs) [(a,b),(c,d),(e,f)]=((lo,hi),0)) (h1:a<=x) (h2:x<=b) (h3:c<=y) (h4:y<=d) (h5:e<=z) (h6:z<=f) :
  (ex op k s x y z).2=0/\lo<=(ex op k s x y z).1/\(ex op k s x y z).1<=hi:=by
 obtain⟨hab,A1,A2,B1,B2⟩:=bF.1 hw
 obtain⟨hcd,C1,C2,D1,D2⟩:=bF.1 hw'
 obtain⟨hef,E1,E2,F1,F2⟩:=bF.1 hw''
 have ho:ar op=3:=by rcases hop with rfl|rfl <;> rfl
 have hco:cons op k s=true:=by rcases hop with rfl|rfl <;> rfl
 obtain⟨e1,e2,rfl,rfl⟩:=vB h
 have f1:sM [(a,b),(c,d),(e,f)]=[a,c,e]:=rfl
 have f2:vS [(a,b),(c,d),(e,f)]=[b,d,f]:=rfl
 simp only[f1,f2,bB3 ho hco ⟨A1,A2⟩ ⟨C1,C2⟩ ⟨E1,E2⟩,bB3 ho hco ⟨B1,B2⟩ ⟨D1,D2⟩ ⟨F1,F2⟩] at *
 obtain⟨p1,w1,q1⟩:=kD e1
 obtain⟨p2,w2,q2⟩:=kD e2
 rw[q1,q2]
 rcases hop with rfl|rfl
 ·refine⟨rfl,?_⟩
  show min e (max a c)<=min z (max x y)/\min z (max x y)<=min f (max b d)
  omega
 ·refine⟨rfl,?_⟩
  show max (min a c) (min (max a c) e)<=max (min x y) (min (max x y) z)/\max (min x y) (min (max x y) z)<=max (min b d) (min (max b d) f)
  omega
theorem aBa (hw:nT a b=true)(hw':nT c d=true)(h1:a<=x)(h2:x<=b)(h3:c<=y)(h4:y<=d) :
  (fJ a b c d).1<=bw .and x y/\bw .and x y<=(fJ a b c d).2:=by
 obtain⟨hab,A1,A2,B1,B2⟩:=bF.1 hw
 obtain⟨hcd,C1,C2,D1,D2⟩:=bF.1 hw'
 unfold fJ
 by_cases p:0<=a
 ·have q1:=aKi (a:=x) (b:=y) (by omega) (by omega)
  by_cases q:0<=c
  ·have q2:=aEk (a:=x) (b:=y) (by omega) (by omega)
   rw[if_pos ⟨p,q⟩]
   show 0<=_/\_<=min b d
   omega
  ·rw[if_neg (by omega),if_pos p]
   show 0<=_/\_<=b
   omega
 ·by_cases q:0<=c
  ·have q2:=aEk (a:=x) (b:=y) (by omega) (by omega)
   rw[if_neg (by omega),if_neg p,if_pos q]
   show 0<=_/\_<=d
   omega
  ·rw[if_neg (by omega),if_neg p,if_neg q]
   exact aM4 .and ⟨A1,A2⟩ ⟨B1,B2⟩ ⟨C1,C2⟩ ⟨D1,D2⟩ h1 h2 h3 h4
theorem aUv (h:op=10\/op=13\/op=14\/op=18\/op=19\/op=20\/op=21):bV op k s [(a,b),(c,d)]=fA (fun u v=>bK op k s [u,v]) a b c d:=by
 unfold bV;rw[if_neg (by omega),if_neg (by omega),if_neg (by omega),if_pos h];rfl
theorem aY0 (h:op=11\/op=12):bV op k s [(a,b),(c,d)]=uA (fun u v=>bK op k s [u,v]) op a b c d:=by
 unfold bV;rw[if_neg (by omega),if_neg (by omega),if_pos h];rfl
theorem oJ {L:List (Int × Int)}(h:op=7\/op=24\/op=25\/op=26\/op=27\/op=29\/op=30\/op=33):bV op k s L=lC (fun xs=>bK op k s xs) L:=by
 unfold bV;rw[if_neg (by omega),if_neg (by omega),if_neg (by omega),if_neg (by omega),if_pos h]
theorem aQb (h:op=5\/op=6):bV op k s [(a,b)]=(nL op a b,0):=by
 unfold bV;rw[if_neg (by omega),if_neg (by omega),if_neg (by omega),if_neg (by omega),if_neg (by omega)];rfl
theorem aY1 (h:op=8\/op=9\/op=15\/op=16\/op=17\/op=22\/op=23):bV op k s [(a,b),(c,d)]=(rV op a b c d,0):=by
 unfold bV;rw[if_neg (by omega),if_neg (by omega),if_neg (by omega),if_neg (by omega),if_neg (by omega)];rfl
theorem aQc (h:op=28):bV op k s [(a,b),(c,d),(e,f)]=(sU a b c d e f,0):=by
 unfold bV;rw[if_neg (by omega),if_neg (by omega),if_neg (by omega),if_neg (by omega),if_neg (by omega)];rfl
theorem aUw (h:op=32):bV op k s [(a,b)]=fA (fun u v=>bK 10 0 0 [u,v]) a b k k:=by
 unfold bV;rw[if_pos h];rfl
theorem aUt (h:op=31):bV op k s [(a,b)]=(fJ a b k k,0):=by
 unfold bV;rw[if_neg (by omega),if_pos h];rfl
theorem aRf (ho:ar op=2):(op=11\/op=12)\/(op=10\/op=13\/op=14\/op=18\/op=19\/op=20\/op=21)\/(op=24\/op=25)\/(op=8\/op=9\/op=15\/op=16\/op=17\/op=22\/op=23):=by
 have hr:=aK.1 (jT ho)
 omega
theorem aW7 (ho:ar op=1)(hco:cons op k s=true)(hw:nT a b=true)(h:bV op k s [(a,b)]=((lo,hi),0))(h1:a<=x)(h2:x<=b) :
  (ex op k s x 0 0).2=0/\lo<=(ex op k s x 0 0).1/\(ex op k s x 0 0).1<=hi:=by
 obtain⟨hab,A1,A2,B1,B2⟩:=bF.1 hw
 rcases nM ho with rfl|rfl|rfl|rfl|rfl|rfl|rfl|rfl
 ·have h':(nL 5 a b,(0:Int))=((lo,hi),0):=by rw[<-aQb (.inl rfl)];exact h
  simp only[nL,if_true,Prod.mk.injEq,and_true] at h'
  obtain⟨rfl,rfl⟩:=h'
  exact⟨rfl,show -b<=-x by omega,show -x<=-a by omega⟩
 ·have h':(nL 6 a b,(0:Int))=((lo,hi),0):=by rw[<-aQb (.inr rfl)];exact h
  refine⟨rfl,?_⟩
  show lo<=max x (-x)/\max x (-x)<=hi
  simp only[nL,show (6:Int)≠5 by decide,if_false,Prod.mk.injEq,and_true] at h'
  split at h'
  ·simp only[Prod.mk.injEq] at h';omega
  ·split at h' <;> simp only[Prod.mk.injEq] at h' <;> omega
 ·rw[oJ (by simp)] at h
  exact oF (.inl rfl) hco hw h h1 h2
 ·rw[oJ (by simp)] at h
  exact oF (.inr (.inl rfl)) hco hw h h1 h2
 ·rw[oJ (by simp)] at h
  exact oF (.inr (.inr (.inl rfl))) hco hw h h1 h2
 ·have hk:fC k 0 2147483647=true:=hco
  have hk':=aK.1 hk
  have h':(fJ a b k k,(0:Int))=((lo,hi),0):=by rw[<-aUt rfl];exact h
  have e:fJ a b k k=(lo,hi):=by simpa using h'
  have hh:=aBa hw (show nT k k=true from bF.2 (by omega)) h1 h2 (iLr k) (iLr k)
  rw[e] at hh
  exact⟨rfl,hh⟩
 ·have hk:wd k=true:=hco
  have hk':=bY.1 hk
  have h':fA (fun u v=>bK 10 0 0 [u,v]) a b k k=((lo,hi),0):=by rw[<-aUw (k:=k) (s:=s) rfl];exact h
  have hh:=aBb (op:=10) (k:=0) (s:=0) (.inl rfl) hw (show nT k k=true from bF.2 (by omega)) h' h1 h2 (iLr k) (iLr k)
  exact hh
 ·rw[oJ (by simp)] at h
  exact oF (.inr (.inr (.inr rfl))) hco hw h h1 h2
theorem aW8 (ho:ar op=2)(hw:nT a b=true)(hw':nT c d=true)(h:bV op k s [(a,b),(c,d)]=((lo,hi),0))(h1:a<=x)(h2:x<=b)(h3:c<=y)(h4:y<=d) :
  (ex op k s x y 0).2=0/\lo<=(ex op k s x y 0).1/\(ex op k s x y 0).1<=hi:=by
 obtain⟨hab,A1,A2,B1,B2⟩:=bF.1 hw
 obtain⟨hcd,C1,C2,D1,D2⟩:=bF.1 hw'
 rcases aRf ho with hop|hop|hop|hop
 ·rw[aY0 hop] at h
  exact aN9 hop hw hw' h h1 h2 h3 h4
 ·rw[aUv hop] at h
  exact aBb hop hw hw' h h1 h2 h3 h4
 ·rw[oJ (by omega)] at h
  exact aHc hop hw hw' h h1 h2 h3 h4
 rw[aY1 hop] at h
 rcases hop with rfl|rfl|rfl|rfl|rfl|rfl|rfl
 ·have h':((a+c,b+d),(0:Int))=((lo,hi),0):=h
  simp only[Prod.mk.injEq,and_true] at h'
  exact⟨rfl,show lo<=x+y/\x+y<=hi by omega⟩
 ·have h':((a-d,b-c),(0:Int))=((lo,hi),0):=h
  simp only[Prod.mk.injEq,and_true] at h'
  exact⟨rfl,show lo<=x-y/\x-y<=hi by omega⟩
 ·have h':(fJ a b c d,(0:Int))=((lo,hi),0):=h
  have e:fJ a b c d=(lo,hi):=by simpa using h'
  have hh:=aBa hw hw' h1 h2 h3 h4
  rw[e] at hh
  exact⟨rfl,hh⟩
 ·have h':(oM 16 a b c d,(0:Int))=((lo,hi),0):=h
  have hin:=aM4 .or ⟨A1,A2⟩ ⟨B1,B2⟩ ⟨C1,C2⟩ ⟨D1,D2⟩ h1 h2 h3 h4
  refine⟨rfl,?_⟩
  show lo<=bw .or x y/\bw .or x y<=hi
  unfold oM at h'
  by_cases p:a < 0\/c < 0
  ·rw[if_pos p] at h'
   simp only[Prod.mk.injEq,and_true] at h'
   omega
  ·rw[if_neg p,if_pos rfl] at h'
   simp only[Prod.mk.injEq,and_true] at h'
   have:=aV8 (a:=x) (b:=y) (by omega) (by omega)
   omega
 ·have h':(oM 17 a b c d,(0:Int))=((lo,hi),0):=h
  have hin:=aM4 .xor ⟨A1,A2⟩ ⟨B1,B2⟩ ⟨C1,C2⟩ ⟨D1,D2⟩ h1 h2 h3 h4
  refine⟨rfl,?_⟩
  show lo<=bw .xor x y/\bw .xor x y<=hi
  unfold oM at h'
  by_cases p:a < 0\/c < 0
  ·rw[if_pos p] at h'
   simp only[Prod.mk.injEq,and_true] at h'
   omega
  ·rw[if_neg p,if_neg (by decide)] at h'
   simp only[Prod.mk.injEq,and_true] at h'
   have:=aV8 (a:=x) (b:=y) (by omega) (by omega)
   omega
 ·have h':(rZ a b c d,(0:Int))=((lo,hi),0):=h
  refine⟨rfl,?_⟩
  show lo<=tr (x==y)/\tr (x==y)<=hi
  have t:=trb x y
  unfold rZ at h'
  split at h'
  ·simp only[Prod.mk.injEq,and_true] at h';omega
  ·split at h' <;> simp only[Prod.mk.injEq,and_true] at h' <;> omega
 ·have h':((1-(rZ a b c d).2,1-(rZ a b c d).1),(0:Int))=((lo,hi),0):=h
  refine⟨rfl,?_⟩
  show lo<=tr (x != y)/\tr (x != y)<=hi
  have t:=trb x y
  unfold rZ at h'
  split at h'
  ·simp only[Prod.mk.injEq,and_true] at h';omega
  ·split at h' <;> simp only[Prod.mk.injEq,and_true] at h' <;> omega
theorem aW9 {z:Int}(ho:ar op=3)(hw:nT a b=true)(hw':nT c d=true)(hw'':nT e f=true)(h:bV op k s [(a,b),(c,d),(e,f)]=((lo,hi),0))
  (h1:a<=x) (h2:x<=b) (h3:c<=y) (h4:y<=d) (h5:e<=z) (h6:z<=f) :
  (ex op k s x y z).2=0/\lo<=(ex op k s x y z).1/\(ex op k s x y z).1<=hi:=by
 have hr:=aK.1 (iU ho)
 rcases(show op=26\/op=27\/op=28 by omega) with rfl|rfl|rfl
 ·rw[oJ (by simp)] at h
  exact yY (.inl rfl) hw hw' hw'' h h1 h2 h3 h4 h5 h6
 ·rw[oJ (by simp)] at h
  exact yY (.inr rfl) hw hw' hw'' h h1 h2 h3 h4 h5 h6
 ·have h':(sU a b c d e f,(0:Int))=((lo,hi),0):=by rw[<-aQc rfl];exact h
  refine⟨rfl,?_⟩
  show lo<=(if x=0 then z else y)/\(if x=0 then z else y)<=hi
  unfold sU at h'
  cases h0:hasB a b 0
  ·rw[h0] at h'
   have hz:¬(a<=0/\0<=b):=fun hh=>by rw[aE1.2 hh] at h0;cases h0
   simp only[Bool.false_eq_true,if_false,Prod.mk.injEq,and_true] at h'
   rw[if_neg (by omega)]
   omega
  ·rw[h0] at h'
   simp only[if_true] at h'
   split at h'
   ·simp only[Prod.mk.injEq,and_true] at h'
    rw[if_pos (by omega)]
    omega
   ·simp only[Prod.mk.injEq,and_true] at h'
    split <;> omega
end
section
open Go.RowKit Go.IntWalk Go.Sort
def Ins:List Int->List (Int × Int)->Prop
 | [],[]=>True
 | x::xs,p::L=>(p.1<=x/\x<=p.2)/\Ins xs L
 | _,_=>False
theorem aQv {op k s:Int}{L:List (Int × Int)}(h:jM op k s L=true):(L.length:Int)=ar op/\1<=ar op/\cons op k s=true/\(∀ p ∈ L,nT p.1 p.2=true)/\L.length<=3:=by
 simp only[jM,bAt,dEt,lAe] at h
 obtain⟨⟨⟨m1,m2⟩,m3⟩,m4⟩:=h
 have h3:=xS op
 exact⟨m2,m1,m3,m4,by omega⟩
theorem aOa {op k s lo hi:Int}{L:List (Int × Int)}{xs:List Int}(hm:jM op k s L=true)(hr:bV op k s L=((lo,hi),0))(hi':Ins xs L) :
  fT op k s xs=true/\(ex op k s (xs.getD 0 0) (xs.getD 1 0) (xs.getD 2 0)).2=0/\lo<=(ex op k s (xs.getD 0 0) (xs.getD 1 0) (xs.getD 2 0)).1/\(ex op k s (xs.getD 0 0) (xs.getD 1 0) (xs.getD 2 0)).1<=hi:=by
 obtain⟨m2,m1,m3,m4,m5⟩:=aQv hm
 match L,xs,hi',m2,m4,hr with
 | [(a,b)],[x],hi',m2,m4,hr =>
  have w1:nT a b=true:=m4 (a,b) (by simp)
  obtain⟨⟨h1,h2⟩,-⟩:=hi'
  have g:=bF.1 w1
  simp only at h1 h2
  exact⟨bA6 (by simpa using m2.symm) m3 (by omega),aW7 (by simpa using m2.symm) m3 w1 hr h1 h2⟩
 | [(a,b),(c,d)],[x,y],hi',m2,m4,hr =>
  have w1:nT a b=true:=m4 (a,b) (by simp)
  have w2:nT c d=true:=m4 (c,d) (by simp)
  obtain⟨⟨h1,h2⟩,⟨h3,h4⟩,-⟩:=hi'
  have g:=bF.1 w1
  have g':=bF.1 w2
  simp only at h1 h2 h3 h4
  exact⟨bA7 (by simpa using m2.symm) m3 (by omega) (by omega),aW8 (by simpa using m2.symm) w1 w2 hr h1 h2 h3 h4⟩
 | [(a,b),(c,d),(e,f)],[x,y,z],hi',m2,m4,hr =>
  have w1:nT a b=true:=m4 (a,b) (by simp)
  have w2:nT c d=true:=m4 (c,d) (by simp)
  have w3:nT e f=true:=m4 (e,f) (by simp)
  obtain⟨⟨h1,h2⟩,⟨h3,h4⟩,⟨h5,h6⟩,-⟩:=hi'
  have g:=bF.1 w1
  have g':=bF.1 w2
  have g'':=bF.1 w3
  simp only at h1 h2 h3 h4 h5 h6
  exact⟨bA8 (by simpa using m2.symm) m3 (by omega) (by omega) (by omega),aW9 (by simpa using m2.symm) w1 w2 w3 hr h1 h2 h3 h4 h5 h6⟩
 | [],xs,hi',m2,m4,hr=>simp at m2;omega
 | _::_::_::_::_,xs,hi',m2,m4,hr=>simp at m5
 | [_],[],hi',_,_,_=>exact hi'.elim
 | [_],_::_::_,hi',_,_,_=>exact hi'.2.elim
 | [_,_],[],hi',_,_,_=>exact hi'.elim
 | [_,_],[_],hi',_,_,_=>exact hi'.2.elim
 | [_,_],_::_::_::_,hi',_,_,_=>exact hi'.2.2.elim
 | [_,_,_],[],hi',_,_,_=>exact hi'.elim
 | [_,_,_],[_],hi',_,_,_=>exact hi'.2.elim
 | [_,_,_],[_,_],hi',_,_,_=>exact hi'.2.2.elim
 | [_,_,_],_::_::_::_::_,hi',_,_,_=>exact hi'.2.2.2.elim
theorem vC {op k s lo hi:Int}{L:List (Int × Int)}{xs:List Int}(h:ofZ op k s L=((lo,hi),0))(hi':Ins xs L) :
  ∃ v,bK op k s xs=(v,0)/\lo<=v/\v<=hi:=by
 obtain⟨hm,hr,hw⟩:=aJh h
 obtain⟨h1,h2,h3,h4⟩:=aOa hm hr hi'
 have g:=bF.1 hw
 refine⟨_,?_,h3,h4⟩
 rw[xM h1]
 exact aW3 h2 (bY.2 (by omega))
end
section
open Go.RowKit Go.IntWalk Go.Sort
open Knd (info3)
variable {W w:World} {v:Value} {n:Nat}
theorem aOb:(Tryz.prog.info? 165).map (fun i=>(i.zero,i.size,i.bytes))=some (some (.agg #[.i 0,.i 0]),2,16):=by kernel_rfl
def mX (L:List (Int × Int)):List Value:=L.flatMap fun p=>[.i p.1,.i p.2]
theorem nR (L:List (Int × Int)):(mX L).length=L.length*2:=by
 induction L with
 | nil=>rfl
 | cons p L ih=>simp[mX] at *;omega
theorem aLu (L:List (Int × Int))(x y:Int):mX (L++[(x,y)])=mX L++[.i x,.i y]:=by simp[mX]
theorem aAe:∀(L:List (Int × Int)) (i:Nat),i < L.length->(mX L)[i*2]?=some (.i (L.getD i (0,0)).1)/\(mX L)[i*2+1]?=some (.i (L.getD i (0,0)).2)
 | [],i,h=>by simp at h
 | p::L,0,h=>by simp[mX]
 | p::L,i+1,h=>by
  have h':=aAe L i (by simpa using h)
  have e:mX (p::L)=.i p.1::.i p.2::mX L:=by simp[mX]
  rw[e,show (i+1)*2=i*2+1+1 by omega,show i*2+1+1+1=(i*2+1)+1+1 by omega]
  simp only[List.getElem?_cons_succ]
  simpa using h'
structure Es (w W:World)(v:Value)(n:Nat)(L:List (Int × Int)):Prop where
 a:W.ownsRow w.heap.size 165 2 v n (mX L)
 bel:Below w.heap.size w W
theorem Es.alloc {w W:World}{v:Value}{n:Nat}{L:List (Int × Int)}(h:Es w W v n L)(o:Obj):Es w (W.alloc o) v n L:=⟨h.a.alloc o,h.bel.alloc h.bel.size o⟩
theorem Es.start (W:World):Es W W (.slice none 0 0) 0 []:=⟨⟨rfl,.inl ⟨rfl,rfl⟩⟩,Below.refl _ _⟩
theorem Spans.of_owns {base:Nat}{L:List (Int × Int)}(h:w.ownsRow base 165 2 v n (mX L))(hl:L.length=n):∃ a cap,v=.slice a n cap/\Spans w a n cap L:=by
 have hcs:=fun g hg=>h.cells (g:=g) hg
 rcases h.2 with⟨rfl,rfl⟩|⟨g,cap,cur,rfl,hb,hg,hnc,hcm,hsz,htake⟩
 ·exact⟨none,0,rfl,⟨hl,nLr _,nZl _,fun _=>rfl,.inl rfl⟩⟩
 ·refine⟨some ⟨g,0,none⟩,cap,rfl,⟨hl,hnc,hcm,(fun h=>by cases h),.inr ⟨g,0,rfl,fun i hi=>?_⟩⟩⟩
  obtain⟨e1,e2⟩:=aAe L i (by omega)
  have h1:=hcs g rfl _ _ e1
  have h2:=hcs g rfl _ _ e2
  rw[Addr.add_lit] at h1 h2
  exact⟨h1,by rw[Nat.add_assoc];exact h2⟩
theorem aPa {b:Nat}{x y:Int}(h:aB W b 165 #[.i x,.i y]):∀ j u,[Value.int .i64 x,.i y][j]?=some u->W.cell? ((⟨b,0,none⟩:Addr).add j)=some u:=by
 intro j u hu
 rw[Addr.add_lit]
 match j,hu with
 | 0,hu=>simp at hu;subst hu;exact h.cell 0 rfl
 | 1,hu=>simp at hu;subst hu;exact h.cell 1 rfl
 | _+2,hu=>simp at hu
theorem Es.grow {w':World}{L:List (Int × Int)}(h:Es w W v n L){g cap:Nat}{x y:Int}(hl:L.length=n)
  (hown:w'.ownsRow w.heap.size 165 2 (.slice (some ⟨g,0,none⟩) (n+1) cap) (n+1) (mX L++[.i x,.i y])) (hgrow:W.grownBy w' v.ownBlock) :
  Es w w' (.slice (some ⟨g,0,none⟩) (n+1) cap) (n+1) (L++[(x,y)]) :=
 ⟨by rw[aLu];exact hown,h.bel.grown hgrow h.bel.size (fun k hk=>(h.a.lt k hk).1)⟩
theorem aBf {L:List (Int × Int)}{ops:Array Oper}{rest:List Oper}{o:Oper}{a:Act}{Q:Exit->Act->World->Prop}
  (hgd:o.guard=none) (s x:Operand) (ho:o.op=.call { callee:=.builtin .append,args:=#[s,x],argTypes:=#[53,53] })
  (hs:a.eval s=v) (hen:Es w W v n L) (b:Nat) (p q:Int) (hx:a.eval x=.slice (some ⟨b,0,none⟩) 1 1) (hc:aB W b 165 #[.i p,.i q]) (h3:n<=8796093022001)
  (h:∀ g cap w',Es w w' (.slice (some ⟨g,0,none⟩) (n+1) cap) (n+1) (L++[(p,q)])->W.heap.size<=w'.heap.size->wpList Tryz.prog ops Q rest (a.put o.dst (.slice (some ⟨g,0,none⟩) (n+1) cap)) w') :
  wpList Tryz.prog ops Q (o::rest) a W:=by
 obtain⟨i0,hi0,hz0,hz1,hz2⟩:=info_parts aOb
 have hl:L.length=n:=by
  have:=hen.a.1
  rw[nR] at this
  omega
 refine wpList_append_lies W hgd s x 53 ho w.heap.size 165 i0 _ 2 16 Tryz.underlying53 hi0 hz0 hz1 hz2 rfl (by omega) v n (mX L) hs hen.a ⟨b,0,none⟩ 1 1 [.i p,.i q] hx rfl (aPa hc) (by simp[Value.oneCell']) (by omega) (by unfold maxLen;omega) (by omega) hen.bel.size W.heap.size rfl ?_
 intro g cap w' hown hgrow hat hlt
 exact h g cap w' (hen.grow hl hown hgrow) hgrow.size
end
open Go.RowKit Go.IntWalk

theorem aHw (n:Int)(w:World)(hn:0<=n/\n<=62) :
  Calls Tryz.prog 235 #[.i n] w fun e w'=>e=.returned (.i (2 ^ n.toNat))/\w'=w:=by
 go_enter Tryz.func235,Tryz.ntmps235
 go_wp2
 go_loop [3,4] (fun x i=>∃ k:Nat,(k:Int)<=n/\i=.i k/\x=.i (2 ^ k)) (fun _ i=>n.toNat-(intOf i).toNat)
 case atStart=>exact⟨0,by omega,rfl,rfl⟩
 case round =>
  obtain⟨k,hk,rfl,rfl⟩:=hrel
  have hp:=zV k 62 (by omega)
  have hp2:(2:Int) ^ (k+1)=2*2 ^ k:=by rw[Int.pow_succ];omega
  have HP:=aA hp2
  clear hp2
  by_cases hlt:(k:Int) < n
  ·have hp3:=zV (k+1) 62 (by omega)
   rw[HP.o] at hp3
   generalize hq:(2:Int) ^ k=q at *
   have HQ:=aA hq
   clear hq
   go_wp2
   go_round
   case rel=>exact⟨k+1,by omega,by go_num,by rw[HP.o]⟩
   case measure=>simp[intOf];omega
  ·obtain rfl:n=(k:Int):=by omega
   go_wp2
   go_ret
   exact⟨rfl,rfl⟩
end Go.Proofs.Spn
