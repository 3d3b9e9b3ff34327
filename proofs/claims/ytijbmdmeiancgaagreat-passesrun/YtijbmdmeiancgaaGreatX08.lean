import Derived.Test.YtijbmdmeiancgaaGreatXH
import Derived.Test.YtijbmdmeiancgaaGreatX07
import Derived.Test.YtijbmdmeiancgaaGreatX02
set_option maxRecDepth 100000
set_option maxHeartbeats 32000000
set_option linter.unusedVariables false
namespace Go.Proofs.Spn
open Go.RowKit Go.IntWalk
variable {a b c d e f hi k lo op s x y:Int}
theorem qK (ho:ar op=2)(hco:cons op k s=true)(ha:bF a)(hb:bF b)(hc:bF c)(hd:bF d)
  (h:dC (fun u v=>aR op k s [u,v]) a b c d=((lo,hi),0)) (g:Int->Int->Int) (hg:∀ x y,a<=x->x<=b->c<=y->y<=d->(ex op k s x y 0).2=0->(ex op k s x y 0).1=g x y) (hm:Mid g a b c d) (hab:a<=b) (hcd:c<=d)
  {x y:Int} (h1:a<=x) (h2:x<=b) (h3:c<=y) (h4:y<=d) (he:(ex op k s x y 0).2=0):lo<=(ex op k s x y 0).1/\(ex op k s x y 0).1<=hi:=by
 obtain⟨e1,e2,e3,e4,rfl,rfl⟩:=xX h
 simp only[mZ ho hco ha hc,mZ ho hco ha hd,mZ ho hco hb hc,mZ ho hco hb hd] at *
 obtain⟨p1,w1,q1⟩:=jU e1
 obtain⟨p2,w2,q2⟩:=jU e2
 obtain⟨p3,w3,q3⟩:=jU e3
 obtain⟨p4,w4,q4⟩:=jU e4
 rw[q1,q2,q3,q4]
 have k1:=hg a c (Int.le_refl _) hab (Int.le_refl _) hcd p1
 have k2:=hg a d (Int.le_refl _) hab hcd (Int.le_refl _) p2
 have k3:=hg b c hab (Int.le_refl _) (Int.le_refl _) hcd p3
 have k4:=hg b d hab (Int.le_refl _) hcd (Int.le_refl _) p4
 have k5:=hg x y h1 h2 h3 h4 he
 have hh:=hm.hull hab hcd h1 h2 h3 h4
 rw[bE] at w1 w2 w3 w4
 rw[k1] at w1;rw[k2] at w2;rw[k3] at w3;rw[k4] at w4
 rw[k1,k2,k3,k4,k5]
 omega
theorem pK (hop:op=13\/op=14)(ha:bF a)(hb:bF b)(hc:bF c)(hd:bF d)
  (h:dC (fun u v=>aR op k s [u,v]) a b c d=((lo,hi),0)):0<=c/\d<=31:=by
 obtain⟨e1,e2,-,-,-,-⟩:=xX h
 have ho:ar op=2:=by rcases hop with rfl|rfl <;> rfl
 have hco:cons op k s=true:=by rcases hop with rfl|rfl <;> rfl
 simp only[mZ ho hco ha hc,mZ ho hco ha hd] at e1 e2
 have p1:=(jU e1).1
 have p2:=(jU e2).1
 have key:∀ y,(ex op k s a y 0).2=0->dW y 0 31=true:=by
  intro y hy
  cases hi:dW y 0 31
  ·rcases hop with rfl|rfl <;> simp[ex,hi] at hy
  ·rfl
 have r1:=aP.1 (key c p1)
 have r2:=aP.1 (key d p2)
 omega
theorem wP (hop:op=10\/op=13\/op=14\/op=18\/op=19\/op=20\/op=21)(hw:jE a b=true)(hw':jE c d=true)
  (h:dC (fun u v=>aR op k s [u,v]) a b c d=((lo,hi),0)) (h1:a<=x) (h2:x<=b) (h3:c<=y) (h4:y<=d) :
  (ex op k s x y 0).2=0/\lo<=(ex op k s x y 0).1/\(ex op k s x y 0).1<=hi:=by
 obtain⟨hab,A1,A2,B1,B2⟩:=bH.1 hw
 obtain⟨hcd,C1,C2,D1,D2⟩:=bH.1 hw'
 have ho:ar op=2:=by rcases hop with rfl|rfl|rfl|rfl|rfl|rfl|rfl <;> rfl
 have hco:cons op k s=true:=by rcases hop with rfl|rfl|rfl|rfl|rfl|rfl|rfl <;> rfl
 rcases hop with rfl|rfl|rfl|hop
 ·exact⟨rfl,qK ho hco ⟨A1,A2⟩ ⟨B1,B2⟩ ⟨C1,C2⟩ ⟨D1,D2⟩ h (fun x y=>x*y) (fun _ _ _ _ _ _ _=>rfl) (zI _ _ _ _) hab hcd h1 h2 h3 h4 rfl⟩
 ·obtain⟨hc0,hd31⟩:=pK (.inl rfl) ⟨A1,A2⟩ ⟨B1,B2⟩ ⟨C1,C2⟩ ⟨D1,D2⟩ h
  have hi:∀ y,c<=y->y<=d->dW y 0 31=true:=fun y p q=>kR (by omega) (by omega)
  have he:∀ x y,c<=y->y<=d->ex 13 k s x y 0=(x*2 ^ y.toNat,0):=fun x y p q=>by simp[ex,hi y p q]
  have e0:(ex 13 k s x y 0).2=0:=by rw[he x y h3 h4]
  exact⟨e0,qK ho hco ⟨A1,A2⟩ ⟨B1,B2⟩ ⟨C1,C2⟩ ⟨D1,D2⟩ h (fun x y=>x*2 ^ y.toNat) (fun x y _ _ p q _=>by rw[he x y p q]) (aMv _ _ _ _ hc0) hab hcd h1 h2 h3 h4 e0⟩
 ·obtain⟨hc0,hd31⟩:=pK (.inr rfl) ⟨A1,A2⟩ ⟨B1,B2⟩ ⟨C1,C2⟩ ⟨D1,D2⟩ h
  have hi:∀ y,c<=y->y<=d->dW y 0 31=true:=fun y p q=>kR (by omega) (by omega)
  have he:∀ x y,c<=y->y<=d->ex 14 k s x y 0=(x / 2 ^ y.toNat,0):=fun x y p q=>by simp[ex,hi y p q]
  have e0:(ex 14 k s x y 0).2=0:=by rw[he x y h3 h4]
  exact⟨e0,qK ho hco ⟨A1,A2⟩ ⟨B1,B2⟩ ⟨C1,C2⟩ ⟨D1,D2⟩ h (fun x y=>x / 2 ^ y.toNat) (fun x y _ _ p q _=>by rw[he x y p q]) (aNf _ _ _ _ hc0) hab hcd h1 h2 h3 h4 e0⟩
 ·have e0:(ex op k s x y 0).2=0:=by rcases hop with rfl|rfl|rfl|rfl <;> rfl
  exact⟨e0,qK ho hco ⟨A1,A2⟩ ⟨B1,B2⟩ ⟨C1,C2⟩ ⟨D1,D2⟩ h (fun x y=>(ex op k s x y 0).1) (fun _ _ _ _ _ _ _=>rfl) (aLt op hop k s a b c d) hab hcd h1 h2 h3 h4 e0⟩
theorem aJ0 (hop:op=11\/op=12)(hw:jE a b=true)(hw':jE c d=true)
  (h:oQ (fun u v=>aR op k s [u,v]) op a b c d=((lo,hi),0)) (h1:a<=x) (h2:x<=b) (h3:c<=y) (h4:y<=d) :
  (ex op k s x y 0).2=0/\lo<=(ex op k s x y 0).1/\(ex op k s x y 0).1<=hi:=by
 obtain⟨hab,A1,A2,B1,B2⟩:=bH.1 hw
 obtain⟨hcd,C1,C2,D1,D2⟩:=bH.1 hw'
 unfold oQ at h
 cases h0:hasB c d 0
 ·rw[h0] at h
  simp only[Bool.false_eq_true,if_false] at h
  have hz:¬(c<=0/\0<=d):=fun hh=>by rw[mI.2 hh] at h0;cases h0
  have hy:y≠0:=by omega
  rcases hop with rfl|rfl
  ·simp only[if_true] at h
   have he:∀ x y,c<=y->y<=d->ex 11 k s x y 0=(x.tdiv y,0):=fun x y p q=>by simp[ex,show y≠0 by omega]
   have e0:(ex 11 k s x y 0).2=0:=by rw[he x y h3 h4]
   exact⟨e0,qK rfl rfl ⟨A1,A2⟩ ⟨B1,B2⟩ ⟨C1,C2⟩ ⟨D1,D2⟩ h (fun x y=>x.tdiv y) (fun x y _ _ p q _=>by rw[he x y p q]) (aI3 _ _ _ _ hz) hab hcd h1 h2 h3 h4 e0⟩
  ·rw[if_neg (by decide)] at h
   have he:ex 12 k s x y 0=(x.tmod y,0):=by simp[ex,hy]
   rw[he]
   have hf:=aDk x y hy
   unfold jP at h
   simp only[Prod.mk.injEq,and_true] at h
   obtain⟨rfl,rfl⟩:=h
   refine⟨rfl,?_,?_⟩
   ·show (if a < 0 then _ else _)<=x.tmod y
    split <;> omega
   ·show x.tmod y<=(if 0 < b then _ else _)
    split <;> omega
 ·rw[h0] at h
  simp at h
theorem aKc {s:Int}(hk:1<=k)(h1:a<=x)(h2:x<=b)(ha:max a (-a)*k<=4611686018427387904)(hb:max b (-b)*k<=4611686018427387904):max x (-x)*k<=4611686018427387904:=by
 rcases(show max x (-x)<=max a (-a)\/max x (-x)<=max b (-b) by omega) with h|h
 ·exact Int.le_trans (Int.mul_le_mul_of_nonneg_right h (by omega)) ha
 ·exact Int.le_trans (Int.mul_le_mul_of_nonneg_right h (by omega)) hb
theorem aSv (h:(ex 33 k s a 0 0).2=0):max a (-a)*k<=4611686018427387904:=by
 have e:ex 33 k s a 0 0=if 4611686018427387904 < max a (-a)*k then(0,13) else(a*k / 2 ^ s.toNat,0):=rfl
 rw[e] at h
 split at h
 ·simp at h
 ·omega
theorem aEm (h:max a (-a)*k<=4611686018427387904):ex 33 k s a 0 0=(a*k / 2 ^ s.toNat,0):=by
 have e:ex 33 k s a 0 0=if 4611686018427387904 < max a (-a)*k then(0,13) else(a*k / 2 ^ s.toNat,0):=rfl
 rw[e,if_neg (by omega)]
theorem mX (hop:op=7\/op=29\/op=30\/op=33)(hco:cons op k s=true)(hw:jE a b=true)
  (h:iP (fun xs=>aR op k s xs) [(a,b)]=((lo,hi),0)) (h1:a<=x) (h2:x<=b) :
  (ex op k s x 0 0).2=0/\lo<=(ex op k s x 0 0).1/\(ex op k s x 0 0).1<=hi:=by
 obtain⟨hab,A1,A2,B1,B2⟩:=bH.1 hw
 have ho:ar op=1:=by rcases hop with rfl|rfl|rfl|rfl <;> rfl
 obtain⟨e1,e2,rfl,rfl⟩:=sI h
 have f1:mV [(a,b)]=[a]:=rfl
 have f2:nO [(a,b)]=[b]:=rfl
 simp only[f1,f2,aDh ho hco ⟨A1,A2⟩,aDh ho hco ⟨B1,B2⟩] at *
 obtain⟨p1,w1,q1⟩:=jU e1
 obtain⟨p2,w2,q2⟩:=jU e2
 rw[q1,q2]
 rcases hop with rfl|rfl|rfl|rfl
 ·refine⟨rfl,?_⟩
  show tr (decide (0 < a))-tr (decide (a < 0))<=tr (decide (0 < x))-tr (decide (x < 0))/\tr (decide (0 < x))-tr (decide (x < 0))<=tr (decide (0 < b))-tr (decide (b < 0))
  have t1:=qU (0 < a)
  have t2:=qU (a < 0)
  have t3:=qU (0 < x)
  have t4:=qU (x < 0)
  have t5:=qU (0 < b)
  have t6:=qU (b < 0)
  omega
 ·refine⟨rfl,?_⟩
  have hp:=(fF (Nat.le_refl k.toNat)).2
  exact⟨Int.mul_le_mul_of_nonneg_right h1 (by omega),Int.mul_le_mul_of_nonneg_right h2 (by omega)⟩
 ·refine⟨rfl,?_⟩
  have hp:=(fF (Nat.le_refl k.toNat)).2
  exact⟨gB (by omega) h1,gB (by omega) h2⟩
 ·have hk:(dW k 1 4611686018427387904&&dW s 0 62)=true:=hco
  rw[Bool.and_eq_true,aP,aP] at hk
  have ma:=aSv p1
  have mb:=aSv p2
  have mx:=aKc (s:=s) hk.1.1 h1 h2 ma mb
  rw[aEm ma,aEm mb,aEm mx]
  have hp:=(fF (Nat.le_refl s.toNat)).2
  exact⟨rfl,gB (by omega) (Int.mul_le_mul_of_nonneg_right h1 (by omega)),gB (by omega) (Int.mul_le_mul_of_nonneg_right h2 (by omega))⟩
theorem aCr (hop:op=24\/op=25)(hw:jE a b=true)(hw':jE c d=true)
  (h:iP (fun xs=>aR op k s xs) [(a,b),(c,d)]=((lo,hi),0)) (h1:a<=x) (h2:x<=b) (h3:c<=y) (h4:y<=d) :
  (ex op k s x y 0).2=0/\lo<=(ex op k s x y 0).1/\(ex op k s x y 0).1<=hi:=by
 obtain⟨hab,A1,A2,B1,B2⟩:=bH.1 hw
 obtain⟨hcd,C1,C2,D1,D2⟩:=bH.1 hw'
 have ho:ar op=2:=by rcases hop with rfl|rfl <;> rfl
 have hco:cons op k s=true:=by rcases hop with rfl|rfl <;> rfl
 obtain⟨e1,e2,rfl,rfl⟩:=sI h
 have f1:mV [(a,b),(c,d)]=[a,c]:=rfl
 have f2:nO [(a,b),(c,d)]=[b,d]:=rfl
 simp only[f1,f2,mZ ho hco ⟨A1,A2⟩ ⟨C1,C2⟩,mZ ho hco ⟨B1,B2⟩ ⟨D1,D2⟩] at *
 obtain⟨p1,w1,q1⟩:=jU e1
 obtain⟨p2,w2,q2⟩:=jU e2
 rw[q1,q2]
 rcases hop with rfl|rfl
 ·refine⟨rfl,?_⟩
  show min a c<=min x y/\min x y<=min b d
  omega
 ·refine⟨rfl,?_⟩
  show max a c<=max x y/\max x y<=max b d
  omega
theorem vD {z:Int}(hop:op=26\/op=27)(hw:jE a b=true)(hw':jE c d=true)(hw'':jE e f=true)
  (h:iP (fun xs=>aR op k s xs) [(a,b),(c,d),(e,f)]=((lo,hi),0)) (h1:a<=x) (h2:x<=b) (h3:c<=y) (h4:y<=d) (h5:e<=z) (h6:z<=f) :
  (ex op k s x y z).2=0/\lo<=(ex op k s x y z).1/\(ex op k s x y z).1<=hi:=by
 obtain⟨hab,A1,A2,B1,B2⟩:=bH.1 hw
 obtain⟨hcd,C1,C2,D1,D2⟩:=bH.1 hw'
 obtain⟨hef,E1,E2,F1,F2⟩:=bH.1 hw''
 have ho:ar op=3:=by rcases hop with rfl|rfl <;> rfl
 have hco:cons op k s=true:=by rcases hop with rfl|rfl <;> rfl
 obtain⟨e1,e2,rfl,rfl⟩:=sI h
 have f1:mV [(a,b),(c,d),(e,f)]=[a,c,e]:=rfl
 have f2:nO [(a,b),(c,d),(e,f)]=[b,d,f]:=rfl
 simp only[f1,f2,aNr ho hco ⟨A1,A2⟩ ⟨C1,C2⟩ ⟨E1,E2⟩,aNr ho hco ⟨B1,B2⟩ ⟨D1,D2⟩ ⟨F1,F2⟩] at *
 obtain⟨p1,w1,q1⟩:=jU e1
 obtain⟨p2,w2,q2⟩:=jU e2
 rw[q1,q2]
 rcases hop with rfl|rfl
 ·refine⟨rfl,?_⟩
  show min e (max a c)<=min z (max x y)/\min z (max x y)<=min f (max b d)
  omega
 ·refine⟨rfl,?_⟩
  show max (min a c) (min (max a c) e)<=max (min x y) (min (max x y) z)/\max (min x y) (min (max x y) z)<=max (min b d) (min (max b d) f)
  omega
theorem xI (hw:jE a b=true)(hw':jE c d=true)(h1:a<=x)(h2:x<=b)(h3:c<=y)(h4:y<=d) :
  (dA a b c d).1<=bw .and x y/\bw .and x y<=(dA a b c d).2:=by
 obtain⟨hab,A1,A2,B1,B2⟩:=bH.1 hw
 obtain⟨hcd,C1,C2,D1,D2⟩:=bH.1 hw'
 unfold dA
 by_cases p:0<=a
 ·have q1:=aGc (a:=x) (b:=y) (by omega) (by omega)
  by_cases q:0<=c
  ·have q2:=aAo (a:=x) (b:=y) (by omega) (by omega)
   rw[if_pos ⟨p,q⟩]
   show 0<=_/\_<=min b d
   omega
  ·rw[if_neg (by omega),if_pos p]
   show 0<=_/\_<=b
   omega
 ·by_cases q:0<=c
  ·have q2:=aAo (a:=x) (b:=y) (by omega) (by omega)
   rw[if_neg (by omega),if_neg p,if_pos q]
   show 0<=_/\_<=d
   omega
  ·rw[if_neg (by omega),if_neg p,if_neg q]
   exact aIn .and ⟨A1,A2⟩ ⟨B1,B2⟩ ⟨C1,C2⟩ ⟨D1,D2⟩ h1 h2 h3 h4
theorem aFk (h:op=10\/op=13\/op=14\/op=18\/op=19\/op=20\/op=21):bR op k s [(a,b),(c,d)]=dC (fun u v=>aR op k s [u,v]) a b c d:=by
 unfold bR;rw[if_neg (by omega),if_neg (by omega),if_neg (by omega),if_pos h];rfl
theorem aHz (h:op=11\/op=12):bR op k s [(a,b),(c,d)]=oQ (fun u v=>aR op k s [u,v]) op a b c d:=by
 unfold bR;rw[if_neg (by omega),if_neg (by omega),if_pos h];rfl
theorem fK {L:List (Int × Int)}(h:op=7\/op=24\/op=25\/op=26\/op=27\/op=29\/op=30\/op=33):bR op k s L=iP (fun xs=>aR op k s xs) L:=by
 unfold bR;rw[if_neg (by omega),if_neg (by omega),if_neg (by omega),if_neg (by omega),if_pos h]
theorem yR (h:op=5\/op=6):bR op k s [(a,b)]=(kI op a b,0):=by
 unfold bR;rw[if_neg (by omega),if_neg (by omega),if_neg (by omega),if_neg (by omega),if_neg (by omega)];rfl
theorem aJw (h:op=8\/op=9\/op=15\/op=16\/op=17\/op=22\/op=23):bR op k s [(a,b),(c,d)]=(jY op a b c d,0):=by
 unfold bR;rw[if_neg (by omega),if_neg (by omega),if_neg (by omega),if_neg (by omega),if_neg (by omega)];rfl
theorem aBe (h:op=28):bR op k s [(a,b),(c,d),(e,f)]=(nZ a b c d e f,0):=by
 unfold bR;rw[if_neg (by omega),if_neg (by omega),if_neg (by omega),if_neg (by omega),if_neg (by omega)];rfl
theorem aFa (h:op=32):bR op k s [(a,b)]=dC (fun u v=>aR 10 0 0 [u,v]) a b k k:=by
 unfold bR;rw[if_pos h];rfl
theorem aEz (h:op=31):bR op k s [(a,b)]=(dA a b k k,0):=by
 unfold bR;rw[if_neg (by omega),if_pos h];rfl
theorem aA8 (ho:ar op=2):(op=11\/op=12)\/(op=10\/op=13\/op=14\/op=18\/op=19\/op=20\/op=21)\/(op=24\/op=25)\/(op=8\/op=9\/op=15\/op=16\/op=17\/op=22\/op=23):=by
 have hr:=aP.1 (kC ho)
 omega
theorem aP3 (ho:ar op=1)(hco:cons op k s=true)(hw:jE a b=true)(h:bR op k s [(a,b)]=((lo,hi),0))(h1:a<=x)(h2:x<=b) :
  (ex op k s x 0 0).2=0/\lo<=(ex op k s x 0 0).1/\(ex op k s x 0 0).1<=hi:=by
 obtain⟨hab,A1,A2,B1,B2⟩:=bH.1 hw
 rcases mG ho with rfl|rfl|rfl|rfl|rfl|rfl|rfl|rfl
 ·have h':(kI 5 a b,(0:Int))=((lo,hi),0):=by rw[<-yR (.inl rfl)];exact h
  simp only[kI,if_true,Prod.mk.injEq,and_true] at h'
  obtain⟨rfl,rfl⟩:=h'
  exact⟨rfl,show -b<=-x by omega,show -x<=-a by omega⟩
 ·have h':(kI 6 a b,(0:Int))=((lo,hi),0):=by rw[<-yR (.inr rfl)];exact h
  refine⟨rfl,?_⟩
  show lo<=max x (-x)/\max x (-x)<=hi
  simp only[kI,show (6:Int)≠5 by decide,if_false,Prod.mk.injEq,and_true] at h'
  split at h'
  ·simp only[Prod.mk.injEq] at h';omega
  ·split at h' <;> simp only[Prod.mk.injEq] at h' <;> omega
 ·rw[fK (by simp)] at h
  exact mX (.inl rfl) hco hw h h1 h2
 ·rw[fK (by simp)] at h
  exact mX (.inr (.inl rfl)) hco hw h h1 h2
 ·rw[fK (by simp)] at h
  exact mX (.inr (.inr (.inl rfl))) hco hw h h1 h2
 ·have hk:dW k 0 2147483647=true:=hco
  have hk':=aP.1 hk
  have h':(dA a b k k,(0:Int))=((lo,hi),0):=by rw[<-aEz rfl];exact h
  have e:dA a b k k=(lo,hi):=by simpa using h'
  have hh:=xI hw (show jE k k=true from bH.2 (by omega)) h1 h2 (Int.le_refl k) (Int.le_refl k)
  rw[e] at hh
  exact⟨rfl,hh⟩
 ·have hk:wd k=true:=hco
  have hk':=bE.1 hk
  have h':dC (fun u v=>aR 10 0 0 [u,v]) a b k k=((lo,hi),0):=by rw[<-aFa (k:=k) (s:=s) rfl];exact h
  have hh:=wP (op:=10) (k:=0) (s:=0) (.inl rfl) hw (show jE k k=true from bH.2 (by omega)) h' h1 h2 (Int.le_refl k) (Int.le_refl k)
  exact hh
 ·rw[fK (by simp)] at h
  exact mX (.inr (.inr (.inr rfl))) hco hw h h1 h2
theorem aOm (ho:ar op=2)(hw:jE a b=true)(hw':jE c d=true)(h:bR op k s [(a,b),(c,d)]=((lo,hi),0))(h1:a<=x)(h2:x<=b)(h3:c<=y)(h4:y<=d) :
  (ex op k s x y 0).2=0/\lo<=(ex op k s x y 0).1/\(ex op k s x y 0).1<=hi:=by
 obtain⟨hab,A1,A2,B1,B2⟩:=bH.1 hw
 obtain⟨hcd,C1,C2,D1,D2⟩:=bH.1 hw'
 rcases aA8 ho with hop|hop|hop|hop
 ·rw[aHz hop] at h
  exact aJ0 hop hw hw' h h1 h2 h3 h4
 ·rw[aFk hop] at h
  exact wP hop hw hw' h h1 h2 h3 h4
 ·rw[fK (by omega)] at h
  exact aCr hop hw hw' h h1 h2 h3 h4
 rw[aJw hop] at h
 rcases hop with rfl|rfl|rfl|rfl|rfl|rfl|rfl
 ·have h':((a+c,b+d),(0:Int))=((lo,hi),0):=h
  simp only[Prod.mk.injEq,and_true] at h'
  exact⟨rfl,show lo<=x+y/\x+y<=hi by omega⟩
 ·have h':((a-d,b-c),(0:Int))=((lo,hi),0):=h
  simp only[Prod.mk.injEq,and_true] at h'
  exact⟨rfl,show lo<=x-y/\x-y<=hi by omega⟩
 ·have h':(dA a b c d,(0:Int))=((lo,hi),0):=h
  have e:dA a b c d=(lo,hi):=by simpa using h'
  have hh:=xI hw hw' h1 h2 h3 h4
  rw[e] at hh
  exact⟨rfl,hh⟩
 ·have h':(dV 16 a b c d,(0:Int))=((lo,hi),0):=h
  have hin:=aIn .or ⟨A1,A2⟩ ⟨B1,B2⟩ ⟨C1,C2⟩ ⟨D1,D2⟩ h1 h2 h3 h4
  refine⟨rfl,?_⟩
  show lo<=bw .or x y/\bw .or x y<=hi
  unfold dV at h'
  by_cases p:a < 0\/c < 0
  ·rw[if_pos p] at h'
   simp only[Prod.mk.injEq,and_true] at h'
   omega
  ·rw[if_neg p,if_pos rfl] at h'
   simp only[Prod.mk.injEq,and_true] at h'
   have:=aNw (a:=x) (b:=y) (by omega) (by omega)
   omega
 ·have h':(dV 17 a b c d,(0:Int))=((lo,hi),0):=h
  have hin:=aIn .xor ⟨A1,A2⟩ ⟨B1,B2⟩ ⟨C1,C2⟩ ⟨D1,D2⟩ h1 h2 h3 h4
  refine⟨rfl,?_⟩
  show lo<=bw .xor x y/\bw .xor x y<=hi
  unfold dV at h'
  by_cases p:a < 0\/c < 0
  ·rw[if_pos p] at h'
   simp only[Prod.mk.injEq,and_true] at h'
   omega
  ·rw[if_neg p,if_neg (by decide)] at h'
   simp only[Prod.mk.injEq,and_true] at h'
   have:=aNw (a:=x) (b:=y) (by omega) (by omega)
   omega
 ·have h':(fH a b c d,(0:Int))=((lo,hi),0):=h
  refine⟨rfl,?_⟩
  show lo<=tr (x==y)/\tr (x==y)<=hi
  have t:=trb x y
  unfold fH at h'
  split at h'
  ·simp only[Prod.mk.injEq,and_true] at h';omega
  ·split at h' <;> simp only[Prod.mk.injEq,and_true] at h' <;> omega
 ·have h':((1-(fH a b c d).2,1-(fH a b c d).1),(0:Int))=((lo,hi),0):=h
  refine⟨rfl,?_⟩
  show lo<=tr (x != y)/\tr (x != y)<=hi
  have t:=trb x y
  unfold fH at h'
  split at h'
  ·simp only[Prod.mk.injEq,and_true] at h';omega
  ·split at h' <;> simp only[Prod.mk.injEq,and_true] at h' <;> omega
theorem aP7 {z:Int}(ho:ar op=3)(hw:jE a b=true)(hw':jE c d=true)(hw'':jE e f=true)(h:bR op k s [(a,b),(c,d),(e,f)]=((lo,hi),0))
  (h1:a<=x) (h2:x<=b) (h3:c<=y) (h4:y<=d) (h5:e<=z) (h6:z<=f) :
  (ex op k s x y z).2=0/\lo<=(ex op k s x y z).1/\(ex op k s x y z).1<=hi:=by
 have hr:=aP.1 (iB ho)
 rcases(show op=26\/op=27\/op=28 by omega) with rfl|rfl|rfl
 ·rw[fK (by simp)] at h
  exact vD (.inl rfl) hw hw' hw'' h h1 h2 h3 h4 h5 h6
 ·rw[fK (by simp)] at h
  exact vD (.inr rfl) hw hw' hw'' h h1 h2 h3 h4 h5 h6
 ·have h':(nZ a b c d e f,(0:Int))=((lo,hi),0):=by rw[<-aBe rfl];exact h
  refine⟨rfl,?_⟩
  show lo<=(if x=0 then z else y)/\(if x=0 then z else y)<=hi
  unfold nZ at h'
  cases h0:hasB a b 0
  ·rw[h0] at h'
   have hz:¬(a<=0/\0<=b):=fun hh=>by rw[mI.2 hh] at h0;cases h0
   simp only[Bool.false_eq_true,if_false,Prod.mk.injEq,and_true] at h'
   rw[if_neg (by omega)]
   omega
  ·rw[h0] at h'
   simp only[if_true] at h'
   split at h'
   ·simp only[Prod.mk.injEq,and_true] at h'
    rw[if_pos (by omega)]
    omega
   ·simp only[Prod.mk.injEq,and_true] at h'
    split <;> omega
end Go.Proofs.Spn
namespace Go.Proofs.Spn
open Go.RowKit Go.IntWalk Go.Sort
def Ins:List Int->List (Int × Int)->Prop
 | [],[]=>True
 | x::xs,p::L=>(p.1<=x/\x<=p.2)/\Ins xs L
 | _,_=>False
theorem aAc {op k s:Int}{L:List (Int × Int)}(h:dU op k s L=true):(L.length:Int)=ar op/\1<=ar op/\cons op k s=true/\(∀ p ∈ L,jE p.1 p.2=true)/\L.length<=3:=by
 simp only[dU,Bool.and_eq_true,decide_eq_true_eq,List.all_eq_true] at h
 obtain⟨⟨⟨m1,m2⟩,m3⟩,m4⟩:=h
 have h3:=wT op
 exact⟨m2,m1,m3,m4,by omega⟩
theorem aHv {op k s lo hi:Int}{L:List (Int × Int)}{xs:List Int}(hm:dU op k s L=true)(hr:bR op k s L=((lo,hi),0))(hi':Ins xs L) :
  fG op k s xs=true/\(ex op k s (xs.getD 0 0) (xs.getD 1 0) (xs.getD 2 0)).2=0/\lo<=(ex op k s (xs.getD 0 0) (xs.getD 1 0) (xs.getD 2 0)).1/\(ex op k s (xs.getD 0 0) (xs.getD 1 0) (xs.getD 2 0)).1<=hi:=by
 obtain⟨m2,m1,m3,m4,m5⟩:=aAc hm
 match L,xs,hi',m2,m4,hr with
 | [(a,b)],[x],hi',m2,m4,hr =>
  have w1:jE a b=true:=m4 (a,b) (by simp)
  obtain⟨⟨h1,h2⟩,-⟩:=hi'
  have g:=bH.1 w1
  simp only at h1 h2
  exact⟨aQ0 (by simpa using m2.symm) m3 (by omega),aP3 (by simpa using m2.symm) m3 w1 hr h1 h2⟩
 | [(a,b),(c,d)],[x,y],hi',m2,m4,hr =>
  have w1:jE a b=true:=m4 (a,b) (by simp)
  have w2:jE c d=true:=m4 (c,d) (by simp)
  obtain⟨⟨h1,h2⟩,⟨h3,h4⟩,-⟩:=hi'
  have g:=bH.1 w1
  have g':=bH.1 w2
  simp only at h1 h2 h3 h4
  exact⟨aRv (by simpa using m2.symm) m3 (by omega) (by omega),aOm (by simpa using m2.symm) w1 w2 hr h1 h2 h3 h4⟩
 | [(a,b),(c,d),(e,f)],[x,y,z],hi',m2,m4,hr =>
  have w1:jE a b=true:=m4 (a,b) (by simp)
  have w2:jE c d=true:=m4 (c,d) (by simp)
  have w3:jE e f=true:=m4 (e,f) (by simp)
  obtain⟨⟨h1,h2⟩,⟨h3,h4⟩,⟨h5,h6⟩,-⟩:=hi'
  have g:=bH.1 w1
  have g':=bH.1 w2
  have g'':=bH.1 w3
  simp only at h1 h2 h3 h4 h5 h6
  exact⟨aRa (by simpa using m2.symm) m3 (by omega) (by omega) (by omega),aP7 (by simpa using m2.symm) w1 w2 w3 hr h1 h2 h3 h4 h5 h6⟩
 | [],xs,hi',m2,m4,hr=>simp at m2;omega
 | _::_::_::_::_,xs,hi',m2,m4,hr=>simp at m5
 | [_],[],hi',_,_,_=>exact hi'.elim
 | [_],_::_::_,hi',_,_,_=>exact hi'.2.elim
 | [_,_],[],hi',_,_,_=>exact hi'.elim
 | [_,_],[_],hi',_,_,_=>exact hi'.2.elim
 | [_,_],_::_::_::_,hi',_,_,_=>exact hi'.2.2.elim
 | [_,_,_],[],hi',_,_,_=>exact hi'.elim
 | [_,_,_],[_],hi',_,_,_=>exact hi'.2.elim
 | [_,_,_],[_,_],hi',_,_,_=>exact hi'.2.2.elim
 | [_,_,_],_::_::_::_::_,hi',_,_,_=>exact hi'.2.2.2.elim
theorem aGd {op k s lo hi:Int}{L:List (Int × Int)}{xs:List Int}(h:rV op k s L=((lo,hi),0))(hi':Ins xs L) :
  ∃ v,aR op k s xs=(v,0)/\lo<=v/\v<=hi:=by
 obtain⟨hm,hr,hw⟩:=aEw h
 obtain⟨h1,h2,h3,h4⟩:=aHv hm hr hi'
 have g:=bH.1 hw
 refine⟨_,?_,h3,h4⟩
 rw[tX h1]
 exact lI h2 (bE.2 (by omega))
end Go.Proofs.Spn
namespace Go.Proofs.Spn
open Go.RowKit Go.IntWalk Go.Sort
variable {W w:World} {v:Value} {n:Nat}
theorem aC2:(Tryz.prog.info? 81).map (fun i=>(i.zero,i.size,i.bytes))=some (some (.agg #[.int .i64 0,.int .i64 0]),2,16):=by kernel_rfl
def jL (L:List (Int × Int)):List Value:=L.flatMap fun p=>[.int .i64 p.1,.int .i64 p.2]
theorem mF (L:List (Int × Int)):(jL L).length=L.length*2:=by
 induction L with
 | nil=>rfl
 | cons p L ih=>simp[jL] at *;omega
theorem wQ (L:List (Int × Int))(x y:Int):jL (L++[(x,y)])=jL L++[.int .i64 x,.int .i64 y]:=by simp[jL]
theorem uW:∀(L:List (Int × Int)) (i:Nat),i < L.length->(jL L)[i*2]?=some (.int .i64 (L.getD i (0,0)).1)/\(jL L)[i*2+1]?=some (.int .i64 (L.getD i (0,0)).2)
 | [],i,h=>by simp at h
 | p::L,0,h=>by simp[jL]
 | p::L,i+1,h=>by
  have h':=uW L i (by simpa using h)
  have e:jL (p::L)=.int .i64 p.1::.int .i64 p.2::jL L:=by simp[jL]
  rw[e,show (i+1)*2=i*2+1+1 by omega,show i*2+1+1+1=(i*2+1)+1+1 by omega]
  simp only[List.getElem?_cons_succ]
  simpa using h'
structure Es (w W:World)(v:Value)(n:Nat)(L:List (Int × Int)):Prop where
 a:W.ownsRow w.heap.size 81 2 v n (jL L)
 bel:Below w.heap.size w W
theorem Es.alloc {w W:World}{v:Value}{n:Nat}{L:List (Int × Int)}(h:Es w W v n L)(o:Obj):Es w (W.alloc o) v n L:=⟨h.a.alloc o,h.bel.alloc h.bel.size o⟩
theorem Es.start (W:World):Es W W (.slice none 0 0) 0 []:=⟨⟨rfl,.inl ⟨rfl,rfl⟩⟩,Below.refl _ _⟩
theorem Spans.of_owns {base:Nat}{L:List (Int × Int)}(h:w.ownsRow base 81 2 v n (jL L))(hl:L.length=n):∃ a cap,v=.slice a n cap/\Spans w a n cap L:=by
 have hcs:=fun g hg=>h.cells (g:=g) hg
 rcases h.2 with⟨rfl,rfl⟩|⟨g,cap,cur,rfl,hb,hg,hnc,hcm,hsz,htake⟩
 ·exact⟨none,0,rfl,⟨hl,Nat.le_refl _,Nat.zero_le _,fun _=>rfl,.inl rfl⟩⟩
 ·refine⟨some ⟨g,0,none⟩,cap,rfl,⟨hl,hnc,hcm,(fun h=>by cases h),.inr ⟨g,0,rfl,fun i hi=>?_⟩⟩⟩
  obtain⟨e1,e2⟩:=uW L i (by omega)
  have h1:=hcs g rfl _ _ e1
  have h2:=hcs g rfl _ _ e2
  rw[Addr.add_lit] at h1 h2
  exact⟨h1,by rw[Nat.add_assoc];exact h2⟩
theorem aBz {b:Nat}{x y:Int}(h:aI W b 81 #[.int .i64 x,.int .i64 y]):∀ j u,[Value.int .i64 x,.int .i64 y][j]?=some u->W.cell? ((⟨b,0,none⟩:Addr).add j)=some u:=by
 intro j u hu
 rw[Addr.add_lit]
 match j,hu with
 | 0,hu=>simp at hu;subst hu;exact h.cell 0 rfl
 | 1,hu=>simp at hu;subst hu;exact h.cell 1 rfl
 | _+2,hu=>simp at hu
theorem Es.grow {w':World}{L:List (Int × Int)}(h:Es w W v n L){g cap:Nat}{x y:Int}(hl:L.length=n)
  (hown:w'.ownsRow w.heap.size 81 2 (.slice (some ⟨g,0,none⟩) (n+1) cap) (n+1) (jL L++[.int .i64 x,.int .i64 y])) (hgrow:W.grownBy w' v.ownBlock) :
  Es w w' (.slice (some ⟨g,0,none⟩) (n+1) cap) (n+1) (L++[(x,y)]) :=
 ⟨by rw[wQ];exact hown,h.bel.grown hgrow h.bel.size (fun k hk=>(h.a.lt k hk).1)⟩
theorem xO {L:List (Int × Int)}{ops:Array Oper}{rest:List Oper}{o:Oper}{a:Act}{Q:Exit->Act->World->Prop}
  (hgd:o.guard=none) (s x:Operand) (ho:o.op=.call { callee:=.builtin .append,args:=#[s,x],argTypes:=#[45,45] })
  (hs:a.eval s=v) (hen:Es w W v n L) (b:Nat) (p q:Int) (hx:a.eval x=.slice (some ⟨b,0,none⟩) 1 1) (hc:aI W b 81 #[.int .i64 p,.int .i64 q]) (h3:n<=8796093022001)
  (h:∀ g cap w',Es w w' (.slice (some ⟨g,0,none⟩) (n+1) cap) (n+1) (L++[(p,q)])->W.heap.size<=w'.heap.size->wpList Tryz.prog ops Q rest (a.put o.dst (.slice (some ⟨g,0,none⟩) (n+1) cap)) w') :
  wpList Tryz.prog ops Q (o::rest) a W:=by
 obtain⟨i0,hi0,hz0,hz1,hz2⟩:=info_parts aC2
 have hl:L.length=n:=by
  have:=hen.a.1
  rw[mF] at this
  omega
 refine wpList_append_lies W hgd s x 45 ho w.heap.size 81 i0 _ 2 16 Tryz.underlying45 hi0 hz0 hz1 hz2 rfl (by omega) v n (jL L) hs hen.a ⟨b,0,none⟩ 1 1 [.int .i64 p,.int .i64 q] hx rfl (aBz hc) (by simp[Value.oneCell']) (by omega) (by unfold maxLen;omega) (by omega) hen.bel.size W.heap.size rfl ?_
 intro g cap w' hown hgrow hat hlt
 exact h g cap w' (hen.grow hl hown hgrow) hgrow.size
end Go.Proofs.Spn
namespace Go.Proofs.Spn
open Go.RowKit Go.IntWalk
theorem lU (a:Int)(w:World)(ha:-4611686018427387904<=a/\a<=4611686018427387904) :
  Calls Tryz.prog 120 #[.int .i64 a] w fun e w'=>e=.returned (.int .i64 (max a (-a)))/\w'=w:=by
 go_enter Tryz.func120,Tryz.ntmps120
 go_wp2
 all_goals go_ret
 all_goals exact⟨aN (by omega),rfl⟩
theorem fO (b:Bool)(w:World) :
  Calls Tryz.prog 121 #[.bool b] w fun e w'=>e=.returned (.int .i64 (tr b))/\w'=w:=by
 cases b <;>
 ·go_enter Tryz.func121,Tryz.ntmps121
  go_wp2
  go_ret
  exact⟨rfl,rfl⟩
theorem sK (a b:Int)(w:World)(ha:-2147483648<=a/\a<=2147483647)(hb:-2147483648<=b/\b<=2147483647)(h0:b≠0) :
  Calls Tryz.prog 122 #[.int .i64 a,.int .i64 b] w fun e w'=>e=.returned (.int .i64 (a.tdiv b))/\w'=w:=by
 have sa:=fun w=>lU a w (by omega)
 have sb:=fun w=>lU b w (by omega)
 have bd:=zS a b ha
 rcases(show a < 0\/0<=a by omega) with ga|ga <;> rcases(show b < 0\/0<=b by omega) with gb|gb
 ·have e:a.tdiv b=-a / -b:=by
   rw[<-Int.neg_tdiv_neg,Int.tdiv_eq_ediv_of_nonneg (by omega)]
  rw[show max a (-a)=-a by omega] at sa
  rw[show max b (-b)=-b by omega] at sb
  rw[e] at bd ⊢
  clear e
  generalize hA:-a=A at *
  generalize hB:-b=B at *
  have hA':0<=A/\A<=2147483648:=by omega
  have hB':1<=B:=by omega
  clear hA hB
  have da:decide (a < 0)=true:=by simp;omega
  have db:decide (b < 0)=true:=by simp;omega
  go_enter Tryz.func122,Tryz.ntmps122
  go_wp2_with fail
  refine(sa _).mono ?_
  rintro e w' ⟨rfl,rfl⟩
  go_wp2_with fail
  refine(sb _).mono ?_
  rintro e w' ⟨rfl,rfl⟩
  go_wp2_with fail
  go_ret
  exact⟨rfl,rfl⟩
 ·have e:a.tdiv b=-(-a / b):=by
   rw[<-Int.tdiv_eq_ediv_of_nonneg (by omega),Int.neg_tdiv,Int.neg_neg]
  rw[show max a (-a)=-a by omega] at sa
  rw[show max b (-b)=b by omega] at sb
  rw[e] at bd ⊢
  clear e
  generalize hA:-a=A at *
  have hA':0<=A/\A<=2147483648:=by omega
  have hB':1<=b:=by omega
  clear hA
  have da:decide (a < 0)=true:=by simp;omega
  have db:decide (b < 0)=false:=by simp;omega
  go_enter Tryz.func122,Tryz.ntmps122
  go_wp2_with fail
  refine(sa _).mono ?_
  rintro e w' ⟨rfl,rfl⟩
  go_wp2_with fail
  refine(sb _).mono ?_
  rintro e w' ⟨rfl,rfl⟩
  go_wp2_with fail
  go_ret
  exact⟨rfl,rfl⟩
 ·have e:a.tdiv b=-(a / -b):=by
   rw[<-Int.tdiv_eq_ediv_of_nonneg ga,Int.tdiv_neg,Int.neg_neg]
  rw[show max a (-a)=a by omega] at sa
  rw[show max b (-b)=-b by omega] at sb
  rw[e] at bd ⊢
  clear e
  generalize hB:-b=B at *
  have hB':1<=B:=by omega
  clear hB
  have da:decide (a < 0)=false:=by simp;omega
  have db:decide (b < 0)=true:=by simp;omega
  go_enter Tryz.func122,Tryz.ntmps122
  go_wp2_with fail
  refine(sa _).mono ?_
  rintro e w' ⟨rfl,rfl⟩
  go_wp2_with fail
  refine(sb _).mono ?_
  rintro e w' ⟨rfl,rfl⟩
  go_wp2_with fail
  go_ret
  exact⟨rfl,rfl⟩
 ·have e:a.tdiv b=a / b:=Int.tdiv_eq_ediv_of_nonneg ga
  rw[show max a (-a)=a by omega] at sa
  rw[show max b (-b)=b by omega] at sb
  rw[e] at bd ⊢
  clear e
  have hB':1<=b:=by omega
  have da:decide (a < 0)=false:=by simp;omega
  have db:decide (b < 0)=false:=by simp;omega
  go_enter Tryz.func122,Tryz.ntmps122
  go_wp2_with fail
  refine(sa _).mono ?_
  rintro e w' ⟨rfl,rfl⟩
  go_wp2_with fail
  refine(sb _).mono ?_
  rintro e w' ⟨rfl,rfl⟩
  go_wp2_with fail
  go_ret
  exact⟨rfl,rfl⟩
theorem dM (n:Int)(w:World)(hn:0<=n/\n<=62) :
  Calls Tryz.prog 117 #[.int .i64 n] w fun e w'=>e=.returned (.int .i64 (2 ^ n.toNat))/\w'=w:=by
 go_enter Tryz.func117,Tryz.ntmps117
 go_wp2
 go_loop [3,4] (fun x i=>∃ k:Nat,(k:Int)<=n/\i=.int .i64 k/\x=.int .i64 (2 ^ k)) (fun _ i=>n.toNat-(intOf i).toNat)
 case atStart=>exact⟨0,by omega,rfl,rfl⟩
 case round =>
  obtain⟨k,hk,rfl,rfl⟩:=hrel
  have hp:=gK k 62 (by omega)
  have hp2:(2:Int) ^ (k+1)=2*2 ^ k:=by rw[Int.pow_succ];omega
  have HP:=aC hp2
  clear hp2
  by_cases hlt:(k:Int) < n
  ·have hp3:=gK (k+1) 62 (by omega)
   rw[HP.o] at hp3
   generalize hq:(2:Int) ^ k=q at *
   have HQ:=aC hq
   clear hq
   go_wp2
   go_round
   case rel=>exact⟨k+1,by omega,by go_num,by rw[HP.o]⟩
   case measure=>simp[intOf];omega
  ·obtain rfl:n=(k:Int):=by omega
   go_wp2
   go_ret
   exact⟨rfl,rfl⟩
theorem aHn (a d:Int)(hd:0 < d):-((-a+d-1) / d)=a / d:=by
 have h1:=Int.emod_add_mul_ediv a d
 have h2:=Int.emod_nonneg a (show d≠0 by omega)
 have h3:=Int.emod_lt_of_pos a hd
 have h4:-a+d-1=(d-1-a % d)+d*(-(a / d)):=by rw[Int.mul_neg];omega
 rw[h4,Int.add_mul_ediv_left _ _ (by omega),Int.ediv_eq_zero_of_lt (by omega) (by omega)]
 omega
theorem iZ (a d:Int)(w:World)(ha:-4611686018427387904<=a/\a<=4611686018427387904)(hd:1<=d/\d<=4611686018427387904) :
  Calls Tryz.prog 116 #[.int .i64 a,.int .i64 d] w fun e w'=>e=.returned (.int .i64 (a / d))/\w'=w:=by
 by_cases h:a < 0
 ·have e:=aHn a d (by omega)
  have e2:0<=(-a+d-1) / d:=Int.ediv_nonneg (by omega) (by omega)
  have e3:=Int.ediv_le_self d (show 0<=-a+d-1 by omega)
  rw[<-e]
  clear e
  have e4:wrap64 (wrap64 (-a+d)-1)=-a+d-1:=by unfold wrap64;omega
  go_enter Tryz.func116,Tryz.ntmps116
  go_wp2
  go_ret
  exact⟨rfl,rfl⟩
 ·go_enter Tryz.func116,Tryz.ntmps116
  go_wp2
  go_ret
  exact⟨rfl,rfl⟩
end Go.Proofs.Spn
namespace Go.Proofs.Spn
open Go.RowKit Go.IntWalk
variable {a b c d k s x y:Int}
theorem jJ (Z:Int × Int)(e:Int)(he:e≠0):eD (Z,e)=((0,0),e):=by simp[eD,he]
theorem aQi (h:¬jE x y=true):eD ((x,y),0)=((0,0),13):=by simp[eD,h]
theorem oO (h:¬(x<=y/\-2147483648<=x/\x<=2147483647/\-2147483648<=y/\y<=2147483647)):eD ((x,y),0)=((0,0),13):=aQi fun hh=>h (bH.1 hh)
theorem iQ {f:Int->Int->Int × Int}{p q r t:Int}(h0:f a c=if wd p=true then(p,0) else(0,13))(h1:f a d=if wd q=true then(q,0) else(0,13))
  (h2:f b c=if wd r=true then(r,0) else(0,13)) (h3:f b d=if wd t=true then(t,0) else(0,13)) :
  eD ((min (min (min p q) r) t,max (max (max p q) r) t),0)=eD (dC f a b c d):=by
 have e0:cv f a b c d 0=f a c:=rfl
 have e1:cv f a b c d 1=f a d:=rfl
 have e2:cv f a b c d 2=f b c:=rfl
 have e3:cv f a b c d 3=f b d:=rfl
 by_cases w0:wd p=true
 ·rw[if_pos w0] at h0
  by_cases w1:wd q=true
  ·rw[if_pos w1] at h1
   by_cases w2:wd r=true
   ·rw[if_pos w2] at h2
    by_cases w3:wd t=true
    ·rw[if_pos w3] at h3
     rw[aJ8 (by rw[h0]) (by rw[h1]) (by rw[h2]) (by rw[h3]),h0,h1,h2,h3]
     rw[bE] at w0 w1 w2 w3
     have g1:min (min (min p q) r) t=min (min (min (min 9223372036854775807 p) q) r) t:=by omega
     have g2:max (max (max p q) r) t=max (max (max (max (-9223372036854775808) p) q) r) t:=by omega
     rw[g1,g2]
    ·rw[if_neg w3] at h3
     unfold dC
     rw[e0,e1,e2,e3,h0,h1,h2,h3,if_neg (by simp),if_neg (by simp),if_neg (by simp),if_pos (by simp)]
     rw[bE] at w3
     exact(oO (by omega)).trans (jJ _ 13 (by simp)).symm
   ·rw[if_neg w2] at h2
    unfold dC
    rw[e0,e1,e2,h0,h1,h2,if_neg (by simp),if_neg (by simp),if_pos (by simp)]
    rw[bE] at w2
    exact(oO (by omega)).trans (jJ _ 13 (by simp)).symm
  ·rw[if_neg w1] at h1
   unfold dC
   rw[e0,e1,h0,h1,if_neg (by simp),if_pos (by simp)]
   rw[bE] at w1
   exact(oO (by omega)).trans (jJ _ 13 (by simp)).symm
 ·rw[if_neg w0] at h0
  unfold dC
  rw[e0,h0,if_pos (by simp)]
  rw[bE] at w0
  exact(oO (by omega)).trans (jJ _ 13 (by simp)).symm
theorem jN {f:List Int->Int × Int}{L:List (Int × Int)}{p q:Int}(h0:f (mV L)=if wd p=true then(p,0) else(0,13))(h1:f (nO L)=if wd q=true then(q,0) else(0,13)) :
  eD ((p,q),0)=eD (iP f L):=by
 unfold iP
 rw[h0,h1]
 by_cases w0:wd p=true
 ·rw[if_pos w0,if_neg (by simp)]
  by_cases w1:wd q=true
  ·rw[if_pos w1]
  ·rw[if_neg w1]
   rw[bE] at w1
   exact(oO (by omega)).trans (jJ _ 13 (by simp)).symm
 ·rw[if_neg w0,if_pos (by simp)]
  rw[bE] at w0
  exact(oO (by omega)).trans (jJ _ 13 (by simp)).symm
theorem pJ (v:Int):fnE (v,0)=if wd v=true then(v,0) else(0,13):=by simp[fnE]
theorem iG (b:Bool):wd (tr b)=true:=by cases b <;> rfl
theorem v10 (hx:bF x)(hy:bF y):aR 10 k s [x,y]=if wd (x*y)=true then(x*y,0) else(0,13):=by
 rw[mZ rfl rfl hx hy];exact pJ (x*y)
theorem v11 (hx:bF x)(hy:bF y)(h:y≠0):aR 11 k s [x,y]=if wd (x.tdiv y)=true then(x.tdiv y,0) else(0,13):=by
 rw[mZ rfl rfl hx hy,show ex 11 k s x y 0=(x.tdiv y,0) by simp[ex,h]];exact pJ _
theorem v13 (hx:bF x)(hy:bF y)(h:0<=y/\y<=31):aR 13 k s [x,y]=if wd (x*2 ^ y.toNat)=true then(x*2 ^ y.toNat,0) else(0,13):=by
 rw[mZ rfl rfl hx hy,show ex 13 k s x y 0=(x*2 ^ y.toNat,0) by simp[ex,kR h.1 h.2]];exact pJ _
theorem v14 (hx:bF x)(hy:bF y)(h:0<=y/\y<=31):aR 14 k s [x,y]=if wd (x / 2 ^ y.toNat)=true then(x / 2 ^ y.toNat,0) else(0,13):=by
 rw[mZ rfl rfl hx hy,show ex 14 k s x y 0=(x / 2 ^ y.toNat,0) by simp[ex,kR h.1 h.2]];exact pJ _
theorem v29 (hc:cons 29 k s=true)(hx:bF x):aR 29 k s [x]=if wd (x*2 ^ k.toNat)=true then(x*2 ^ k.toNat,0) else(0,13):=by
 rw[aDh rfl hc hx];exact pJ _
theorem v30 (hc:cons 30 k s=true)(hx:bF x):aR 30 k s [x]=if wd (x / 2 ^ k.toNat)=true then(x / 2 ^ k.toNat,0) else(0,13):=by
 rw[aDh rfl hc hx];exact pJ _
theorem v33 (hc:cons 33 k s=true)(hx:bF x)(h:max x (-x)*k<=4611686018427387904):aR 33 k s [x]=if wd (x*k / 2 ^ s.toNat)=true then(x*k / 2 ^ s.toNat,0) else(0,13):=by
 rw[aDh rfl hc hx,aEm h];exact pJ _
theorem aOt (hc:cons 33 k s=true)(hx:bF x)(h:4611686018427387904 < max x (-x)*k):aR 33 k s [x]=(0,13):=by
 rw[aDh rfl hc hx]
 have e:ex 33 k s x 0 0=if 4611686018427387904 < max x (-x)*k then(0,13) else(x*k / 2 ^ s.toNat,0):=rfl
 rw[e,if_pos h];rfl
theorem jO {v:Int}(h:wd v=true):(v,(0:Int))=if wd v=true then(v,0) else(0,13):=by rw[if_pos h]
theorem v7 (hx:bF x):aR 7 k s [x]=(tr (decide (0 < x))-tr (decide (x < 0)),0):=by
 rw[aDh rfl rfl hx]
 refine lI (E:=(tr (decide (0 < x))-tr (decide (x < 0)),0)) rfl (bE.2 ?_)
 have t1:=qU (0 < x)
 have t2:=qU (x < 0)
 show _<=tr _-tr _/\tr _-tr _<=_
 omega
theorem v24 (hx:bF x)(hy:bF y):aR 24 k s [x,y]=(min x y,0):=by
 rw[mZ rfl rfl hx hy]
 exact lI (E:=(min x y,0)) rfl (bE.2 (show _<=min x y/\min x y<=_ by omega))
theorem v25 (hx:bF x)(hy:bF y):aR 25 k s [x,y]=(max x y,0):=by
 rw[mZ rfl rfl hx hy]
 exact lI (E:=(max x y,0)) rfl (bE.2 (show _<=max x y/\max x y<=_ by omega))
theorem v26 {z:Int}(hx:bF x)(hy:bF y)(hz:bF z):aR 26 k s [x,y,z]=(min z (max x y),0):=by
 rw[aNr rfl rfl hx hy hz]
 exact lI (E:=(min z (max x y),0)) rfl (bE.2 (show _<=min z (max x y)/\min z (max x y)<=_ by omega))
theorem v27 {z:Int}(hx:bF x)(hy:bF y)(hz:bF z):aR 27 k s [x,y,z]=(max (min x y) (min (max x y) z),0):=by
 rw[aNr rfl rfl hx hy hz]
 exact lI (E:=(max (min x y) (min (max x y) z),0)) rfl (bE.2 (show _<=max (min x y) (min (max x y) z)/\max (min x y) (min (max x y) z)<=_ by omega))
theorem v18 (hx:bF x)(hy:bF y):aR 18 k s [x,y]=(tr (decide (x < y)),0):=by
 rw[mZ rfl rfl hx hy];exact lI (E:=(tr (decide (x < y)),0)) rfl (iG _)
theorem v19 (hx:bF x)(hy:bF y):aR 19 k s [x,y]=(tr (decide (x<=y)),0):=by
 rw[mZ rfl rfl hx hy];exact lI (E:=(tr (decide (x<=y)),0)) rfl (iG _)
theorem v20 (hx:bF x)(hy:bF y):aR 20 k s [x,y]=(tr (decide (y < x)),0):=by
 rw[mZ rfl rfl hx hy];exact lI (E:=(tr (decide (y < x)),0)) rfl (iG _)
theorem v21 (hx:bF x)(hy:bF y):aR 21 k s [x,y]=(tr (decide (y<=x)),0):=by
 rw[mZ rfl rfl hx hy];exact lI (E:=(tr (decide (y<=x)),0)) rfl (iG _)
theorem aLg {op:Int}(hop:op=18\/op=19\/op=20\/op=21)(ha:bF a)(hb:bF b)(hc:bF c)(hd:bF d)(hab:a<=b)(hcd:c<=d) :
  eD ((min (aR op 0 0 [a,d]).1 (aR op 0 0 [b,c]).1,max (aR op 0 0 [a,d]).1 (aR op 0 0 [b,c]).1),0)=eD (dC (fun u v=>aR op k s [u,v]) a b c d):=by
 have key:∀ p q r t:Int,min q r<=p->p<=max q r->min q r<=t->t<=max q r->min q r=min (min (min p q) r) t/\max q r=max (max (max p q) r) t:=by intro p q r t;omega
 rcases hop with rfl|rfl|rfl|rfl
 ·have t1:=qU (a < c)
  have t2:=qU (a < d)
  have t3:=qU (b < c)
  have t4:=qU (b < d)
  rw[<-iQ ((v18 ha hc).trans (jO (iG _))) ((v18 ha hd).trans (jO (iG _))) ((v18 hb hc).trans (jO (iG _))) ((v18 hb hd).trans (jO (iG _))),v18 ha hd,v18 hb hc]
  obtain⟨e1,e2⟩:=key (tr (decide (a < c))) (tr (decide (a < d))) (tr (decide (b < c))) (tr (decide (b < d))) (by omega) (by omega) (by omega) (by omega)
  rw[<-e1,<-e2]
 ·have t1:=qU (a<=c)
  have t2:=qU (a<=d)
  have t3:=qU (b<=c)
  have t4:=qU (b<=d)
  rw[<-iQ ((v19 ha hc).trans (jO (iG _))) ((v19 ha hd).trans (jO (iG _))) ((v19 hb hc).trans (jO (iG _))) ((v19 hb hd).trans (jO (iG _))),v19 ha hd,v19 hb hc]
  obtain⟨e1,e2⟩:=key (tr (decide (a<=c))) (tr (decide (a<=d))) (tr (decide (b<=c))) (tr (decide (b<=d))) (by omega) (by omega) (by omega) (by omega)
  rw[<-e1,<-e2]
 ·have t1:=qU (c < a)
  have t2:=qU (d < a)
  have t3:=qU (c < b)
  have t4:=qU (d < b)
  rw[<-iQ ((v20 ha hc).trans (jO (iG _))) ((v20 ha hd).trans (jO (iG _))) ((v20 hb hc).trans (jO (iG _))) ((v20 hb hd).trans (jO (iG _))),v20 ha hd,v20 hb hc]
  obtain⟨e1,e2⟩:=key (tr (decide (c < a))) (tr (decide (d < a))) (tr (decide (c < b))) (tr (decide (d < b))) (by omega) (by omega) (by omega) (by omega)
  rw[<-e1,<-e2]
 ·have t1:=qU (c<=a)
  have t2:=qU (d<=a)
  have t3:=qU (c<=b)
  have t4:=qU (d<=b)
  rw[<-iQ ((v21 ha hc).trans (jO (iG _))) ((v21 ha hd).trans (jO (iG _))) ((v21 hb hc).trans (jO (iG _))) ((v21 hb hd).trans (jO (iG _))),v21 ha hd,v21 hb hc]
  obtain⟨e1,e2⟩:=key (tr (decide (c<=a))) (tr (decide (d<=a))) (tr (decide (c<=b))) (tr (decide (d<=b))) (by omega) (by omega) (by omega) (by omega)
  rw[<-e1,<-e2]
theorem aJ5 {op:Int}(hop:op=13\/op=14)(ha:bF a)(hb:bF b)(hc:bF c)(hd:bF d)(hcd:c<=d)(h:c < 0\/31 < d) :
  eD ((0,0),13)=eD (dC (fun u v=>aR op k s [u,v]) a b c d):=by
 have ho:ar op=2:=by rcases hop with rfl|rfl <;> rfl
 have hco:cons op k s=true:=by rcases hop with rfl|rfl <;> rfl
 obtain⟨⟨lo,hi⟩,e,hZ⟩:∃ Z e,dC (fun u v=>aR op k s [u,v]) a b c d=(Z,e):=⟨_,_,rfl⟩
 have he:e=0\/e=13:=by
  have key:∀ x y,bF x->bF y->(aR op k s [x,y]).2=0\/(aR op k s [x,y]).2=13:=by
   intro x y hx hy
   rw[mZ ho hco hx hy]
   have h1:(ex op k s x y 0).2=0\/(ex op k s x y 0).2=13:=by
    cases hi:dW y 0 31
    ·rcases hop with rfl|rfl <;> simp[ex,hi]
    ·rcases hop with rfl|rfl <;> simp[ex,hi]
   unfold fnE
   split
   ·split <;> simp
   ·rcases h1 with h1|h1
    ·contradiction
    ·right;exact h1
  have e0:cv (fun u v=>aR op k s [u,v]) a b c d 0=aR op k s [a,c]:=rfl
  have e1:cv (fun u v=>aR op k s [u,v]) a b c d 1=aR op k s [a,d]:=rfl
  have e2:cv (fun u v=>aR op k s [u,v]) a b c d 2=aR op k s [b,c]:=rfl
  have e3:cv (fun u v=>aR op k s [u,v]) a b c d 3=aR op k s [b,d]:=rfl
  unfold dC at hZ
  rw[e0,e1,e2,e3] at hZ
  have k0:=key a c ha hc
  have k1:=key a d ha hd
  have k2:=key b c hb hc
  have k3:=key b d hb hd
  split at hZ
  ·simp only[Prod.mk.injEq] at hZ;omega
  ·split at hZ
   ·simp only[Prod.mk.injEq] at hZ;omega
   ·split at hZ
    ·simp only[Prod.mk.injEq] at hZ;omega
    ·split at hZ
     ·simp only[Prod.mk.injEq] at hZ;omega
     ·simp only[Prod.mk.injEq] at hZ;omega
 rcases he with rfl|rfl
 ·have:=pK hop ha hb hc hd hZ
  omega
 ·rw[hZ,jJ _ _ (by simp),jJ _ _ (by simp)]
theorem aIz {M:Int}(hc:cons 33 k s=true)(ha:bF a)(hb:bF b)(hM:max (max (max a b) (-a)) (-b)=M)(h:0 < M/\4611686018427387904 / M < k) :
  eD ((0,0),13)=eD (iP (fun xs=>aR 33 k s xs) [(a,b)]):=by
 have h1:=(lZ (m:=k) (k:=M) (by omega)).1 h.2
 rw[Int.mul_comm] at h1
 unfold iP
 show eD ((0,0),13)=eD (if (aR 33 k s [a]).2≠0 then((0,0),(aR 33 k s [a]).2) else(((aR 33 k s [a]).1,(aR 33 k s [b]).1),(aR 33 k s [b]).2))
 rcases(show M=max a (-a)\/M=max b (-b) by omega) with e|e
 ·rw[aOt hc ha (by rw[<-e];exact h1),if_pos (by simp)]
 ·rw[aOt hc hb (by rw[<-e];exact h1)]
  rcases Int.lt_or_le 4611686018427387904 (max a (-a)*k) with h2|h2
  ·rw[aOt hc ha h2,if_pos (by simp)]
  ·rw[v33 hc ha h2]
   split
   ·rw[if_neg (by simp)]
    exact(jJ _ 13 (by simp)).trans (jJ _ 13 (by simp)).symm
   ·rw[if_pos (by simp)]
theorem aCx {M:Int}(hk:1<=k)(hM:max (max (max a b) (-a)) (-b)=M)(h:¬(0 < M/\4611686018427387904 / M < k)):M*k<=4611686018427387904/\max a (-a)*k<=4611686018427387904/\max b (-b)*k<=4611686018427387904:=by
 have h1:M*k<=4611686018427387904:=by
  rcases(show M=0\/1<=M by omega) with h0|h0
  ·rw[h0];omega
  ·have h2:¬4611686018427387904 / M < k:=fun hh=>h ⟨by omega,hh⟩
   have h3:¬4611686018427387904 < k*M:=fun hh=>h2 ((lZ (m:=k) (k:=M) h0).2 hh)
   rw[Int.mul_comm] at h3
   omega
 refine⟨h1,?_,?_⟩
 ·exact Int.le_trans (Int.mul_le_mul_of_nonneg_right (show max a (-a)<=M by omega) (by omega)) h1
 ·exact Int.le_trans (Int.mul_le_mul_of_nonneg_right (show max b (-b)<=M by omega) (by omega)) h1
theorem aEg (hk:1<=k)(h:max a (-a)*k<=4611686018427387904):-4611686018427387904<=a*k/\a*k<=4611686018427387904:=by
 have h1:=Int.mul_le_mul_of_nonneg_right (show a<=max a (-a) by omega) (show 0<=k by omega)
 have h2:=Int.mul_le_mul_of_nonneg_right (show -a<=max a (-a) by omega) (show 0<=k by omega)
 rw[Int.neg_mul] at h2
 omega
theorem aS1 (hab:a<=b):(if hasB a b 0=true then(0,max (max (max a b) (-a)) (-b)) else if 0 < a then(a,b) else(-b,-a))=kI 6 a b:=by
 have e6:kI 6 a b=if 0<=a then(a,b) else if b < 0 then(-b,-a) else(0,max (-a) b):=by unfold kI;rw[if_neg (by decide)]
 rw[e6]
 by_cases h:hasB a b 0=true
 ·rw[if_pos h]
  have:=mI.1 h
  by_cases h1:0<=a
  ·rw[if_pos h1]
   have:a=0:=by omega
   subst this
   exact congrArg (Prod.mk 0) (by omega)
  ·rw[if_neg h1,if_neg (by omega)]
   exact congrArg (Prod.mk 0) (by omega)
 ·rw[if_neg h]
  have h':¬(a<=0/\0<=b):=fun hh=>h (mI.2 hh)
  by_cases h1:0 < a
  ·rw[if_pos h1,if_pos (by omega)]
  ·rw[if_neg h1,if_neg (by omega),if_pos (by omega)]
theorem aRt {e f:Int}(hcd:c<=d)(hef:e<=f):(if hasB a b 0=true then(if a=0/\b=0 then(e,f) else(min (min (min c d) e) f,max (max (max c d) e) f)) else(c,d))=nZ a b c d e f:=by
 unfold nZ
 rw[show min (min (min c d) e) f=min c e by omega,show max (max (max c d) e) f=max d f by omega]
theorem aRf (a b c d:Int):jY 22 a b c d=fH a b c d/\jY 23 a b c d=(1-(fH a b c d).2,1-(fH a b c d).1)/\jY 15 a b c d=dA a b c d/\jY 16 a b c d=dV 16 a b c d/\jY 17 a b c d=dV 17 a b c d/\jY 8 a b c d=(a+c,b+d)/\jY 9 a b c d=(a-d,b-c):=by
 simp[jY]
end Go.Proofs.Spn
