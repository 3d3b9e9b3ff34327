import Derived.Test.YtihbhbeaihdgnaaGreatXH
import Derived.Test.YtihbhbeaihdgnaaGreatX18
import Derived.Test.YtihbhbeaihdgnaaGreatX13
set_option maxRecDepth 100000
set_option maxHeartbeats 32000000
set_option linter.unusedVariables false
namespace Go.Proofs.Spn
open Go.RowKit Go.IntWalk
variable {a b c d e f hi k lo op s x y:Int}
theorem rX (ho:ar op=2)(hco:cons op k s=true)(ha:eU a)(hb:eU b)(hc:eU c)(hd:eU d)
  (h:eO (fun u v=>bK op k s [u,v]) a b c d=((lo,hi),0)) (g:Int->Int->Int) (hg:∀ x y,a<=x->x<=b->c<=y->y<=d->(ex op k s x y 0).2=0->(ex op k s x y 0).1=g x y) (hm:Mid g a b c d) (hab:a<=b) (hcd:c<=d)
  {x y:Int} (h1:a<=x) (h2:x<=b) (h3:c<=y) (h4:y<=d) (he:(ex op k s x y 0).2=0):lo<=(ex op k s x y 0).1/\(ex op k s x y 0).1<=hi:=by
 obtain⟨e1,e2,e3,e4,rfl,rfl⟩:=zV h
 simp only[aE2 ho hco ha hc,aE2 ho hco ha hd,aE2 ho hco hb hc,aE2 ho hco hb hd] at *
 obtain⟨p1,w1,q1⟩:=jL e1
 obtain⟨p2,w2,q2⟩:=jL e2
 obtain⟨p3,w3,q3⟩:=jL e3
 obtain⟨p4,w4,q4⟩:=jL e4
 rw[q1,q2,q3,q4]
 have k1:=hg a c (Int.le_refl _) hab (Int.le_refl _) hcd p1
 have k2:=hg a d (Int.le_refl _) hab hcd (Int.le_refl _) p2
 have k3:=hg b c hab (Int.le_refl _) (Int.le_refl _) hcd p3
 have k4:=hg b d hab (Int.le_refl _) hcd (Int.le_refl _) p4
 have k5:=hg x y h1 h2 h3 h4 he
 have hh:=hm.hull hab hcd h1 h2 h3 h4
 rw[dE] at w1 w2 w3 w4
 rw[k1] at w1;rw[k2] at w2;rw[k3] at w3;rw[k4] at w4
 rw[k1,k2,k3,k4,k5]
 omega
theorem wJ (hop:op=13\/op=14)(ha:eU a)(hb:eU b)(hc:eU c)(hd:eU d)
  (h:eO (fun u v=>bK op k s [u,v]) a b c d=((lo,hi),0)):0<=c/\d<=31:=by
 obtain⟨e1,e2,-,-,-,-⟩:=zV h
 have ho:ar op=2:=by rcases hop with rfl|rfl <;> rfl
 have hco:cons op k s=true:=by rcases hop with rfl|rfl <;> rfl
 simp only[aE2 ho hco ha hc,aE2 ho hco ha hd] at e1 e2
 have p1:=(jL e1).1
 have p2:=(jL e2).1
 have key:∀ y,(ex op k s a y 0).2=0->gG y 0 31=true:=by
  intro y hy
  cases hi:gG y 0 31
  ·rcases hop with rfl|rfl <;> simp[ex,hi] at hy
  ·rfl
 have r1:=aO.1 (key c p1)
 have r2:=aO.1 (key d p2)
 omega
theorem aAb (hop:op=10\/op=13\/op=14\/op=18\/op=19\/op=20\/op=21)(hw:mW a b=true)(hw':mW c d=true)
  (h:eO (fun u v=>bK op k s [u,v]) a b c d=((lo,hi),0)) (h1:a<=x) (h2:x<=b) (h3:c<=y) (h4:y<=d) :
  (ex op k s x y 0).2=0/\lo<=(ex op k s x y 0).1/\(ex op k s x y 0).1<=hi:=by
 obtain⟨hab,A1,A2,B1,B2⟩:=aX.1 hw
 obtain⟨hcd,C1,C2,D1,D2⟩:=aX.1 hw'
 have ho:ar op=2:=by rcases hop with rfl|rfl|rfl|rfl|rfl|rfl|rfl <;> rfl
 have hco:cons op k s=true:=by rcases hop with rfl|rfl|rfl|rfl|rfl|rfl|rfl <;> rfl
 rcases hop with rfl|rfl|rfl|hop
 ·exact⟨rfl,rX ho hco ⟨A1,A2⟩ ⟨B1,B2⟩ ⟨C1,C2⟩ ⟨D1,D2⟩ h (fun x y=>x*y) (fun _ _ _ _ _ _ _=>rfl) (aB0 _ _ _ _) hab hcd h1 h2 h3 h4 rfl⟩
 ·obtain⟨hc0,hd31⟩:=wJ (.inl rfl) ⟨A1,A2⟩ ⟨B1,B2⟩ ⟨C1,C2⟩ ⟨D1,D2⟩ h
  have hi:∀ y,c<=y->y<=d->gG y 0 31=true:=fun y p q=>aLn (by omega) (by omega)
  have he:∀ x y,c<=y->y<=d->ex 13 k s x y 0=(x*2 ^ y.toNat,0):=fun x y p q=>by simp[ex,hi y p q]
  have e0:(ex 13 k s x y 0).2=0:=by rw[he x y h3 h4]
  exact⟨e0,rX ho hco ⟨A1,A2⟩ ⟨B1,B2⟩ ⟨C1,C2⟩ ⟨D1,D2⟩ h (fun x y=>x*2 ^ y.toNat) (fun x y _ _ p q _=>by rw[he x y p q]) (aRp _ _ _ _ hc0) hab hcd h1 h2 h3 h4 e0⟩
 ·obtain⟨hc0,hd31⟩:=wJ (.inr rfl) ⟨A1,A2⟩ ⟨B1,B2⟩ ⟨C1,C2⟩ ⟨D1,D2⟩ h
  have hi:∀ y,c<=y->y<=d->gG y 0 31=true:=fun y p q=>aLn (by omega) (by omega)
  have he:∀ x y,c<=y->y<=d->ex 14 k s x y 0=(x / 2 ^ y.toNat,0):=fun x y p q=>by simp[ex,hi y p q]
  have e0:(ex 14 k s x y 0).2=0:=by rw[he x y h3 h4]
  exact⟨e0,rX ho hco ⟨A1,A2⟩ ⟨B1,B2⟩ ⟨C1,C2⟩ ⟨D1,D2⟩ h (fun x y=>x / 2 ^ y.toNat) (fun x y _ _ p q _=>by rw[he x y p q]) (aRq _ _ _ _ hc0) hab hcd h1 h2 h3 h4 e0⟩
 ·have e0:(ex op k s x y 0).2=0:=by rcases hop with rfl|rfl|rfl|rfl <;> rfl
  exact⟨e0,rX ho hco ⟨A1,A2⟩ ⟨B1,B2⟩ ⟨C1,C2⟩ ⟨D1,D2⟩ h (fun x y=>(ex op k s x y 0).1) (fun _ _ _ _ _ _ _=>rfl) (aO9 op hop k s a b c d) hab hcd h1 h2 h3 h4 e0⟩
theorem aLl (hop:op=11\/op=12)(hw:mW a b=true)(hw':mW c d=true)
  (h:rY (fun u v=>bK op k s [u,v]) op a b c d=((lo,hi),0)) (h1:a<=x) (h2:x<=b) (h3:c<=y) (h4:y<=d) :
  (ex op k s x y 0).2=0/\lo<=(ex op k s x y 0).1/\(ex op k s x y 0).1<=hi:=by
 obtain⟨hab,A1,A2,B1,B2⟩:=aX.1 hw
 obtain⟨hcd,C1,C2,D1,D2⟩:=aX.1 hw'
 unfold rY at h
 cases h0:hasB c d 0
 ·rw[h0] at h
  simp only[Bool.false_eq_true,if_false] at h
  have hz:¬(c<=0/\0<=d):=fun hh=>by rw[aDn.2 hh] at h0;cases h0
  have hy:y≠0:=by omega
  rcases hop with rfl|rfl
  ·simp only[if_true] at h
   have he:∀ x y,c<=y->y<=d->ex 11 k s x y 0=(x.tdiv y,0):=fun x y p q=>by simp[ex,show y≠0 by omega]
   have e0:(ex 11 k s x y 0).2=0:=by rw[he x y h3 h4]
   exact⟨e0,rX rfl rfl ⟨A1,A2⟩ ⟨B1,B2⟩ ⟨C1,C2⟩ ⟨D1,D2⟩ h (fun x y=>x.tdiv y) (fun x y _ _ p q _=>by rw[he x y p q]) (aOa _ _ _ _ hz) hab hcd h1 h2 h3 h4 e0⟩
  ·rw[if_neg (by decide)] at h
   have he:ex 12 k s x y 0=(x.tmod y,0):=by simp[ex,hy]
   rw[he]
   have hf:=aGn x y hy
   unfold lI at h
   simp only[Prod.mk.injEq,and_true] at h
   obtain⟨rfl,rfl⟩:=h
   refine⟨rfl,?_,?_⟩
   ·show (if a < 0 then _ else _)<=x.tmod y
    split <;> omega
   ·show x.tmod y<=(if 0 < b then _ else _)
    split <;> omega
 ·rw[h0] at h
  simp at h
theorem aMd {s:Int}(hk:1<=k)(h1:a<=x)(h2:x<=b)(ha:max a (-a)*k<=4611686018427387904)(hb:max b (-b)*k<=4611686018427387904):max x (-x)*k<=4611686018427387904:=by
 rcases(show max x (-x)<=max a (-a)\/max x (-x)<=max b (-b) by omega) with h|h
 ·exact Int.le_trans (Int.mul_le_mul_of_nonneg_right h (by omega)) ha
 ·exact Int.le_trans (Int.mul_le_mul_of_nonneg_right h (by omega)) hb
theorem aWj (h:(ex 33 k s a 0 0).2=0):max a (-a)*k<=4611686018427387904:=by
 have e:ex 33 k s a 0 0=if 4611686018427387904 < max a (-a)*k then(0,13) else(a*k / 2 ^ s.toNat,0):=rfl
 rw[e] at h
 split at h
 ·simp at h
 ·omega
theorem aK5 (h:max a (-a)*k<=4611686018427387904):ex 33 k s a 0 0=(a*k / 2 ^ s.toNat,0):=by
 have e:ex 33 k s a 0 0=if 4611686018427387904 < max a (-a)*k then(0,13) else(a*k / 2 ^ s.toNat,0):=rfl
 rw[e,if_neg (by omega)]
theorem nJ (hop:op=7\/op=29\/op=30\/op=33)(hco:cons op k s=true)(hw:mW a b=true)
  (h:kK (fun xs=>bK op k s xs) [(a,b)]=((lo,hi),0)) (h1:a<=x) (h2:x<=b) :
  (ex op k s x 0 0).2=0/\lo<=(ex op k s x 0 0).1/\(ex op k s x 0 0).1<=hi:=by
 obtain⟨hab,A1,A2,B1,B2⟩:=aX.1 hw
 have ho:ar op=1:=by rcases hop with rfl|rfl|rfl|rfl <;> rfl
 obtain⟨e1,e2,rfl,rfl⟩:=tT h
 have f1:qN [(a,b)]=[a]:=rfl
 have f2:uJ [(a,b)]=[b]:=rfl
 simp only[f1,f2,aXv ho hco ⟨A1,A2⟩,aXv ho hco ⟨B1,B2⟩] at *
 obtain⟨p1,w1,q1⟩:=jL e1
 obtain⟨p2,w2,q2⟩:=jL e2
 rw[q1,q2]
 rcases hop with rfl|rfl|rfl|rfl
 ·refine⟨rfl,?_⟩
  show tr (decide (0 < a))-tr (decide (a < 0))<=tr (decide (0 < x))-tr (decide (x < 0))/\tr (decide (0 < x))-tr (decide (x < 0))<=tr (decide (0 < b))-tr (decide (b < 0))
  have t1:=trd (0 < a)
  have t2:=trd (a < 0)
  have t3:=trd (0 < x)
  have t4:=trd (x < 0)
  have t5:=trd (0 < b)
  have t6:=trd (b < 0)
  omega
 ·refine⟨rfl,?_⟩
  have hp:=(iJ (Nat.le_refl k.toNat)).2
  exact⟨Int.mul_le_mul_of_nonneg_right h1 (by omega),Int.mul_le_mul_of_nonneg_right h2 (by omega)⟩
 ·refine⟨rfl,?_⟩
  have hp:=(iJ (Nat.le_refl k.toNat)).2
  exact⟨gV (by omega) h1,gV (by omega) h2⟩
 ·have hk:(gG k 1 4611686018427387904&&gG s 0 62)=true:=hco
  rw[Bool.and_eq_true,aO,aO] at hk
  have ma:=aWj p1
  have mb:=aWj p2
  have mx:=aMd (s:=s) hk.1.1 h1 h2 ma mb
  rw[aK5 ma,aK5 mb,aK5 mx]
  have hp:=(iJ (Nat.le_refl s.toNat)).2
  exact⟨rfl,gV (by omega) (Int.mul_le_mul_of_nonneg_right h1 (by omega)),gV (by omega) (Int.mul_le_mul_of_nonneg_right h2 (by omega))⟩
theorem aFp (hop:op=24\/op=25)(hw:mW a b=true)(hw':mW c d=true)
  (h:kK (fun xs=>bK op k s xs) [(a,b),(c,d)]=((lo,hi),0)) (h1:a<=x) (h2:x<=b) (h3:c<=y) (h4:y<=d) :
  (ex op k s x y 0).2=0/\lo<=(ex op k s x y 0).1/\(ex op k s x y 0).1<=hi:=by
 obtain⟨hab,A1,A2,B1,B2⟩:=aX.1 hw
 obtain⟨hcd,C1,C2,D1,D2⟩:=aX.1 hw'
 have ho:ar op=2:=by rcases hop with rfl|rfl <;> rfl
 have hco:cons op k s=true:=by rcases hop with rfl|rfl <;> rfl
 obtain⟨e1,e2,rfl,rfl⟩:=tT h
 have f1:qN [(a,b),(c,d)]=[a,c]:=rfl
 have f2:uJ [(a,b),(c,d)]=[b,d]:=rfl
 simp only[f1,f2,aE2 ho hco ⟨A1,A2⟩ ⟨C1,C2⟩,aE2 ho hco ⟨B1,B2⟩ ⟨D1,D2⟩] at *
 obtain⟨p1,w1,q1⟩:=jL e1
 obtain⟨p2,w2,q2⟩:=jL e2
 rw[q1,q2]
 rcases hop with rfl|rfl
 ·refine⟨rfl,?_⟩
  show min a c<=min x y/\min x y<=min b d
  omega
 ·refine⟨rfl,?_⟩
  show max a c<=max x y/\max x y<=max b d
  omega
theorem xB {z:Int}(hop:op=26\/op=27)(hw:mW a b=true)(hw':mW c d=true)(hw'':mW e f=true)
  (h:kK (fun xs=>bK op k s xs) [(a,b),(c,d),(e,f)]=((lo,hi),0)) (h1:a<=x) (h2:x<=b) (h3:c<=y) (h4:y<=d) (h5:e<=z) (h6:z<=f) :
  (ex op k s x y z).2=0/\lo<=(ex op k s x y z).1/\(ex op k s x y z).1<=hi:=by
 obtain⟨hab,A1,A2,B1,B2⟩:=aX.1 hw
 obtain⟨hcd,C1,C2,D1,D2⟩:=aX.1 hw'
 obtain⟨hef,E1,E2,F1,F2⟩:=aX.1 hw''
 have ho:ar op=3:=by rcases hop with rfl|rfl <;> rfl
 have hco:cons op k s=true:=by rcases hop with rfl|rfl <;> rfl
 obtain⟨e1,e2,rfl,rfl⟩:=tT h
 have f1:qN [(a,b),(c,d),(e,f)]=[a,c,e]:=rfl
 have f2:uJ [(a,b),(c,d),(e,f)]=[b,d,f]:=rfl
 simp only[f1,f2,aXw ho hco ⟨A1,A2⟩ ⟨C1,C2⟩ ⟨E1,E2⟩,aXw ho hco ⟨B1,B2⟩ ⟨D1,D2⟩ ⟨F1,F2⟩] at *
 obtain⟨p1,w1,q1⟩:=jL e1
 obtain⟨p2,w2,q2⟩:=jL e2
 rw[q1,q2]
 rcases hop with rfl|rfl
 ·refine⟨rfl,?_⟩
  show min e (max a c)<=min z (max x y)/\min z (max x y)<=min f (max b d)
  omega
 ·refine⟨rfl,?_⟩
  show max (min a c) (min (max a c) e)<=max (min x y) (min (max x y) z)/\max (min x y) (min (max x y) z)<=max (min b d) (min (max b d) f)
  omega
theorem aAa (hw:mW a b=true)(hw':mW c d=true)(h1:a<=x)(h2:x<=b)(h3:c<=y)(h4:y<=d) :
  (eX a b c d).1<=bw .and x y/\bw .and x y<=(eX a b c d).2:=by
 obtain⟨hab,A1,A2,B1,B2⟩:=aX.1 hw
 obtain⟨hcd,C1,C2,D1,D2⟩:=aX.1 hw'
 unfold eX
 by_cases p:0<=a
 ·have q1:=aIj (a:=x) (b:=y) (by omega) (by omega)
  by_cases q:0<=c
  ·have q2:=aC5 (a:=x) (b:=y) (by omega) (by omega)
   rw[if_pos ⟨p,q⟩]
   show 0<=_/\_<=min b d
   omega
  ·rw[if_neg (by omega),if_pos p]
   show 0<=_/\_<=b
   omega
 ·by_cases q:0<=c
  ·have q2:=aC5 (a:=x) (b:=y) (by omega) (by omega)
   rw[if_neg (by omega),if_neg p,if_pos q]
   show 0<=_/\_<=d
   omega
  ·rw[if_neg (by omega),if_neg p,if_neg q]
   exact aKq .and ⟨A1,A2⟩ ⟨B1,B2⟩ ⟨C1,C2⟩ ⟨D1,D2⟩ h1 h2 h3 h4
theorem aRg (h:op=10\/op=13\/op=14\/op=18\/op=19\/op=20\/op=21):bO op k s [(a,b),(c,d)]=eO (fun u v=>bK op k s [u,v]) a b c d:=by
 unfold bO;rw[if_neg (by omega),if_neg (by omega),if_neg (by omega),if_pos h];rfl
theorem aVl (h:op=11\/op=12):bO op k s [(a,b),(c,d)]=rY (fun u v=>bK op k s [u,v]) op a b c d:=by
 unfold bO;rw[if_neg (by omega),if_neg (by omega),if_pos h];rfl
theorem nN {L:List (Int × Int)}(h:op=7\/op=24\/op=25\/op=26\/op=27\/op=29\/op=30\/op=33):bO op k s L=kK (fun xs=>bK op k s xs) L:=by
 unfold bO;rw[if_neg (by omega),if_neg (by omega),if_neg (by omega),if_neg (by omega),if_pos h]
theorem aNi (h:op=5\/op=6):bO op k s [(a,b)]=(mO op a b,0):=by
 unfold bO;rw[if_neg (by omega),if_neg (by omega),if_neg (by omega),if_neg (by omega),if_neg (by omega)];rfl
theorem aVm (h:op=8\/op=9\/op=15\/op=16\/op=17\/op=22\/op=23):bO op k s [(a,b),(c,d)]=(qG op a b c d,0):=by
 unfold bO;rw[if_neg (by omega),if_neg (by omega),if_neg (by omega),if_neg (by omega),if_neg (by omega)];rfl
theorem aNj (h:op=28):bO op k s [(a,b),(c,d),(e,f)]=(qW a b c d e f,0):=by
 unfold bO;rw[if_neg (by omega),if_neg (by omega),if_neg (by omega),if_neg (by omega),if_neg (by omega)];rfl
theorem aRh (h:op=32):bO op k s [(a,b)]=eO (fun u v=>bK 10 0 0 [u,v]) a b k k:=by
 unfold bO;rw[if_pos h];rfl
theorem aRe (h:op=31):bO op k s [(a,b)]=(eX a b k k,0):=by
 unfold bO;rw[if_neg (by omega),if_pos h];rfl
theorem aOi (ho:ar op=2):(op=11\/op=12)\/(op=10\/op=13\/op=14\/op=18\/op=19\/op=20\/op=21)\/(op=24\/op=25)\/(op=8\/op=9\/op=15\/op=16\/op=17\/op=22\/op=23):=by
 have hr:=aO.1 (qB ho)
 omega
theorem aTq (ho:ar op=1)(hco:cons op k s=true)(hw:mW a b=true)(h:bO op k s [(a,b)]=((lo,hi),0))(h1:a<=x)(h2:x<=b) :
  (ex op k s x 0 0).2=0/\lo<=(ex op k s x 0 0).1/\(ex op k s x 0 0).1<=hi:=by
 obtain⟨hab,A1,A2,B1,B2⟩:=aX.1 hw
 rcases uA ho with rfl|rfl|rfl|rfl|rfl|rfl|rfl|rfl
 ·have h':(mO 5 a b,(0:Int))=((lo,hi),0):=by rw[<-aNi (.inl rfl)];exact h
  simp only[mO,if_true,Prod.mk.injEq,and_true] at h'
  obtain⟨rfl,rfl⟩:=h'
  exact⟨rfl,show -b<=-x by omega,show -x<=-a by omega⟩
 ·have h':(mO 6 a b,(0:Int))=((lo,hi),0):=by rw[<-aNi (.inr rfl)];exact h
  refine⟨rfl,?_⟩
  show lo<=max x (-x)/\max x (-x)<=hi
  simp only[mO,show (6:Int)≠5 by decide,if_false,Prod.mk.injEq,and_true] at h'
  split at h'
  ·simp only[Prod.mk.injEq] at h';omega
  ·split at h' <;> simp only[Prod.mk.injEq] at h' <;> omega
 ·rw[nN (by simp)] at h
  exact nJ (.inl rfl) hco hw h h1 h2
 ·rw[nN (by simp)] at h
  exact nJ (.inr (.inl rfl)) hco hw h h1 h2
 ·rw[nN (by simp)] at h
  exact nJ (.inr (.inr (.inl rfl))) hco hw h h1 h2
 ·have hk:gG k 0 2147483647=true:=hco
  have hk':=aO.1 hk
  have h':(eX a b k k,(0:Int))=((lo,hi),0):=by rw[<-aRe rfl];exact h
  have e:eX a b k k=(lo,hi):=by simpa using h'
  have hh:=aAa hw (show mW k k=true from aX.2 (by omega)) h1 h2 (Int.le_refl k) (Int.le_refl k)
  rw[e] at hh
  exact⟨rfl,hh⟩
 ·have hk:wd k=true:=hco
  have hk':=dE.1 hk
  have h':eO (fun u v=>bK 10 0 0 [u,v]) a b k k=((lo,hi),0):=by rw[<-aRh (k:=k) (s:=s) rfl];exact h
  have hh:=aAb (op:=10) (k:=0) (s:=0) (.inl rfl) hw (show mW k k=true from aX.2 (by omega)) h' h1 h2 (Int.le_refl k) (Int.le_refl k)
  exact hh
 ·rw[nN (by simp)] at h
  exact nJ (.inr (.inr (.inr rfl))) hco hw h h1 h2
theorem aTr (ho:ar op=2)(hw:mW a b=true)(hw':mW c d=true)(h:bO op k s [(a,b),(c,d)]=((lo,hi),0))(h1:a<=x)(h2:x<=b)(h3:c<=y)(h4:y<=d) :
  (ex op k s x y 0).2=0/\lo<=(ex op k s x y 0).1/\(ex op k s x y 0).1<=hi:=by
 obtain⟨hab,A1,A2,B1,B2⟩:=aX.1 hw
 obtain⟨hcd,C1,C2,D1,D2⟩:=aX.1 hw'
 rcases aOi ho with hop|hop|hop|hop
 ·rw[aVl hop] at h
  exact aLl hop hw hw' h h1 h2 h3 h4
 ·rw[aRg hop] at h
  exact aAb hop hw hw' h h1 h2 h3 h4
 ·rw[nN (by omega)] at h
  exact aFp hop hw hw' h h1 h2 h3 h4
 rw[aVm hop] at h
 rcases hop with rfl|rfl|rfl|rfl|rfl|rfl|rfl
 ·have h':((a+c,b+d),(0:Int))=((lo,hi),0):=h
  simp only[Prod.mk.injEq,and_true] at h'
  exact⟨rfl,show lo<=x+y/\x+y<=hi by omega⟩
 ·have h':((a-d,b-c),(0:Int))=((lo,hi),0):=h
  simp only[Prod.mk.injEq,and_true] at h'
  exact⟨rfl,show lo<=x-y/\x-y<=hi by omega⟩
 ·have h':(eX a b c d,(0:Int))=((lo,hi),0):=h
  have e:eX a b c d=(lo,hi):=by simpa using h'
  have hh:=aAa hw hw' h1 h2 h3 h4
  rw[e] at hh
  exact⟨rfl,hh⟩
 ·have h':(nQ 16 a b c d,(0:Int))=((lo,hi),0):=h
  have hin:=aKq .or ⟨A1,A2⟩ ⟨B1,B2⟩ ⟨C1,C2⟩ ⟨D1,D2⟩ h1 h2 h3 h4
  refine⟨rfl,?_⟩
  show lo<=bw .or x y/\bw .or x y<=hi
  unfold nQ at h'
  by_cases p:a < 0\/c < 0
  ·rw[if_pos p] at h'
   simp only[Prod.mk.injEq,and_true] at h'
   omega
  ·rw[if_neg p,if_pos rfl] at h'
   simp only[Prod.mk.injEq,and_true] at h'
   have:=aSm (a:=x) (b:=y) (by omega) (by omega)
   omega
 ·have h':(nQ 17 a b c d,(0:Int))=((lo,hi),0):=h
  have hin:=aKq .xor ⟨A1,A2⟩ ⟨B1,B2⟩ ⟨C1,C2⟩ ⟨D1,D2⟩ h1 h2 h3 h4
  refine⟨rfl,?_⟩
  show lo<=bw .xor x y/\bw .xor x y<=hi
  unfold nQ at h'
  by_cases p:a < 0\/c < 0
  ·rw[if_pos p] at h'
   simp only[Prod.mk.injEq,and_true] at h'
   omega
  ·rw[if_neg p,if_neg (by decide)] at h'
   simp only[Prod.mk.injEq,and_true] at h'
   have:=aSm (a:=x) (b:=y) (by omega) (by omega)
   omega
 ·have h':(qI a b c d,(0:Int))=((lo,hi),0):=h
  refine⟨rfl,?_⟩
  show lo<=tr (x==y)/\tr (x==y)<=hi
  have t:=trb x y
  unfold qI at h'
  split at h'
  ·simp only[Prod.mk.injEq,and_true] at h';omega
  ·split at h' <;> simp only[Prod.mk.injEq,and_true] at h' <;> omega
 ·have h':((1-(qI a b c d).2,1-(qI a b c d).1),(0:Int))=((lo,hi),0):=h
  refine⟨rfl,?_⟩
  show lo<=tr (x != y)/\tr (x != y)<=hi
  have t:=trb x y
  unfold qI at h'
  split at h'
  ·simp only[Prod.mk.injEq,and_true] at h';omega
  ·split at h' <;> simp only[Prod.mk.injEq,and_true] at h' <;> omega
theorem aTs {z:Int}(ho:ar op=3)(hw:mW a b=true)(hw':mW c d=true)(hw'':mW e f=true)(h:bO op k s [(a,b),(c,d),(e,f)]=((lo,hi),0))
  (h1:a<=x) (h2:x<=b) (h3:c<=y) (h4:y<=d) (h5:e<=z) (h6:z<=f) :
  (ex op k s x y z).2=0/\lo<=(ex op k s x y z).1/\(ex op k s x y z).1<=hi:=by
 have hr:=aO.1 (lM ho)
 rcases(show op=26\/op=27\/op=28 by omega) with rfl|rfl|rfl
 ·rw[nN (by simp)] at h
  exact xB (.inl rfl) hw hw' hw'' h h1 h2 h3 h4 h5 h6
 ·rw[nN (by simp)] at h
  exact xB (.inr rfl) hw hw' hw'' h h1 h2 h3 h4 h5 h6
 ·have h':(qW a b c d e f,(0:Int))=((lo,hi),0):=by rw[<-aNj rfl];exact h
  refine⟨rfl,?_⟩
  show lo<=(if x=0 then z else y)/\(if x=0 then z else y)<=hi
  unfold qW at h'
  cases h0:hasB a b 0
  ·rw[h0] at h'
   have hz:¬(a<=0/\0<=b):=fun hh=>by rw[aDn.2 hh] at h0;cases h0
   simp only[Bool.false_eq_true,if_false,Prod.mk.injEq,and_true] at h'
   rw[if_neg (by omega)]
   omega
  ·rw[h0] at h'
   simp only[if_true] at h'
   split at h'
   ·simp only[Prod.mk.injEq,and_true] at h'
    rw[if_pos (by omega)]
    omega
   ·simp only[Prod.mk.injEq,and_true] at h'
    split <;> omega
end Go.Proofs.Spn
namespace Go.Proofs.Spn
open Go.RowKit Go.IntWalk Go.Sort
def Ins:List Int->List (Int × Int)->Prop
 | [],[]=>True
 | x::xs,p::L=>(p.1<=x/\x<=p.2)/\Ins xs L
 | _,_=>False
theorem aN1 {op k s:Int}{L:List (Int × Int)}(h:iT op k s L=true):(L.length:Int)=ar op/\1<=ar op/\cons op k s=true/\(∀ p ∈ L,mW p.1 p.2=true)/\L.length<=3:=by
 simp only[iT,Bool.and_eq_true,decide_eq_true_eq,List.all_eq_true] at h
 obtain⟨⟨⟨m1,m2⟩,m3⟩,m4⟩:=h
 have h3:=vZ op
 exact⟨m2,m1,m3,m4,by omega⟩
theorem aLm {op k s lo hi:Int}{L:List (Int × Int)}{xs:List Int}(hm:iT op k s L=true)(hr:bO op k s L=((lo,hi),0))(hi':Ins xs L) :
  iC op k s xs=true/\(ex op k s (xs.getD 0 0) (xs.getD 1 0) (xs.getD 2 0)).2=0/\lo<=(ex op k s (xs.getD 0 0) (xs.getD 1 0) (xs.getD 2 0)).1/\(ex op k s (xs.getD 0 0) (xs.getD 1 0) (xs.getD 2 0)).1<=hi:=by
 obtain⟨m2,m1,m3,m4,m5⟩:=aN1 hm
 match L,xs,hi',m2,m4,hr with
 | [(a,b)],[x],hi',m2,m4,hr =>
  have w1:mW a b=true:=m4 (a,b) (by simp)
  obtain⟨⟨h1,h2⟩,-⟩:=hi'
  have g:=aX.1 w1
  simp only at h1 h2
  exact⟨aW4 (by simpa using m2.symm) m3 (by omega),aTq (by simpa using m2.symm) m3 w1 hr h1 h2⟩
 | [(a,b),(c,d)],[x,y],hi',m2,m4,hr =>
  have w1:mW a b=true:=m4 (a,b) (by simp)
  have w2:mW c d=true:=m4 (c,d) (by simp)
  obtain⟨⟨h1,h2⟩,⟨h3,h4⟩,-⟩:=hi'
  have g:=aX.1 w1
  have g':=aX.1 w2
  simp only at h1 h2 h3 h4
  exact⟨aW5 (by simpa using m2.symm) m3 (by omega) (by omega),aTr (by simpa using m2.symm) w1 w2 hr h1 h2 h3 h4⟩
 | [(a,b),(c,d),(e,f)],[x,y,z],hi',m2,m4,hr =>
  have w1:mW a b=true:=m4 (a,b) (by simp)
  have w2:mW c d=true:=m4 (c,d) (by simp)
  have w3:mW e f=true:=m4 (e,f) (by simp)
  obtain⟨⟨h1,h2⟩,⟨h3,h4⟩,⟨h5,h6⟩,-⟩:=hi'
  have g:=aX.1 w1
  have g':=aX.1 w2
  have g'':=aX.1 w3
  simp only at h1 h2 h3 h4 h5 h6
  exact⟨aW6 (by simpa using m2.symm) m3 (by omega) (by omega) (by omega),aTs (by simpa using m2.symm) w1 w2 w3 hr h1 h2 h3 h4 h5 h6⟩
 | [],xs,hi',m2,m4,hr=>simp at m2;omega
 | _::_::_::_::_,xs,hi',m2,m4,hr=>simp at m5
 | [_],[],hi',_,_,_=>exact hi'.elim
 | [_],_::_::_,hi',_,_,_=>exact hi'.2.elim
 | [_,_],[],hi',_,_,_=>exact hi'.elim
 | [_,_],[_],hi',_,_,_=>exact hi'.2.elim
 | [_,_],_::_::_::_,hi',_,_,_=>exact hi'.2.2.elim
 | [_,_,_],[],hi',_,_,_=>exact hi'.elim
 | [_,_,_],[_],hi',_,_,_=>exact hi'.2.elim
 | [_,_,_],[_,_],hi',_,_,_=>exact hi'.2.2.elim
 | [_,_,_],_::_::_::_::_,hi',_,_,_=>exact hi'.2.2.2.elim
theorem tV {op k s lo hi:Int}{L:List (Int × Int)}{xs:List Int}(h:ofZ op k s L=((lo,hi),0))(hi':Ins xs L) :
  ∃ v,bK op k s xs=(v,0)/\lo<=v/\v<=hi:=by
 obtain⟨hm,hr,hw⟩:=aHr h
 obtain⟨h1,h2,h3,h4⟩:=aLm hm hr hi'
 have g:=aX.1 hw
 refine⟨_,?_,h3,h4⟩
 rw[vT h1]
 exact aTm h2 (dE.2 (by omega))
end Go.Proofs.Spn
namespace Go.Proofs.Spn
open Go.RowKit Go.IntWalk Go.Sort
variable {W w:World} {v:Value} {n:Nat}
theorem aFt:(Tryz.prog.info? 74).map (fun i=>(i.zero,i.size,i.bytes))=some (some (.agg #[.int .i64 0,.int .i64 0]),2,16):=by kernel_rfl
def jN (L:List (Int × Int)):List Value:=L.flatMap fun p=>[.int .i64 p.1,.int .i64 p.2]
theorem gJ (L:List (Int × Int)):(jN L).length=L.length*2:=by
 induction L with
 | nil=>rfl
 | cons p L ih=>simp[jN] at *;omega
theorem aJr (L:List (Int × Int))(x y:Int):jN (L++[(x,y)])=jN L++[.int .i64 x,.int .i64 y]:=by simp[jN]
theorem sW:∀(L:List (Int × Int)) (i:Nat),i < L.length->(jN L)[i*2]?=some (.int .i64 (L.getD i (0,0)).1)/\(jN L)[i*2+1]?=some (.int .i64 (L.getD i (0,0)).2)
 | [],i,h=>by simp at h
 | p::L,0,h=>by simp[jN]
 | p::L,i+1,h=>by
  have h':=sW L i (by simpa using h)
  have e:jN (p::L)=.int .i64 p.1::.int .i64 p.2::jN L:=by simp[jN]
  rw[e,show (i+1)*2=i*2+1+1 by omega,show i*2+1+1+1=(i*2+1)+1+1 by omega]
  simp only[List.getElem?_cons_succ]
  simpa using h'
structure Es (w W:World)(v:Value)(n:Nat)(L:List (Int × Int)):Prop where
 a:W.ownsRow w.heap.size 74 2 v n (jN L)
 bel:Below w.heap.size w W
theorem Es.alloc {w W:World}{v:Value}{n:Nat}{L:List (Int × Int)}(h:Es w W v n L)(o:Obj):Es w (W.alloc o) v n L:=⟨h.a.alloc o,h.bel.alloc h.bel.size o⟩
theorem Es.start (W:World):Es W W (.slice none 0 0) 0 []:=⟨⟨rfl,.inl ⟨rfl,rfl⟩⟩,Below.refl _ _⟩
theorem Spans.of_owns {base:Nat}{L:List (Int × Int)}(h:w.ownsRow base 74 2 v n (jN L))(hl:L.length=n):∃ a cap,v=.slice a n cap/\Spans w a n cap L:=by
 have hcs:=fun g hg=>h.cells (g:=g) hg
 rcases h.2 with⟨rfl,rfl⟩|⟨g,cap,cur,rfl,hb,hg,hnc,hcm,hsz,htake⟩
 ·exact⟨none,0,rfl,⟨hl,Nat.le_refl _,Nat.zero_le _,fun _=>rfl,.inl rfl⟩⟩
 ·refine⟨some ⟨g,0,none⟩,cap,rfl,⟨hl,hnc,hcm,(fun h=>by cases h),.inr ⟨g,0,rfl,fun i hi=>?_⟩⟩⟩
  obtain⟨e1,e2⟩:=sW L i (by omega)
  have h1:=hcs g rfl _ _ e1
  have h2:=hcs g rfl _ _ e2
  rw[Addr.add_lit] at h1 h2
  exact⟨h1,by rw[Nat.add_assoc];exact h2⟩
theorem aMh {b:Nat}{x y:Int}(h:aB W b 74 #[.int .i64 x,.int .i64 y]):∀ j u,[Value.int .i64 x,.int .i64 y][j]?=some u->W.cell? ((⟨b,0,none⟩:Addr).add j)=some u:=by
 intro j u hu
 rw[Addr.add_lit]
 match j,hu with
 | 0,hu=>simp at hu;subst hu;exact h.cell 0 rfl
 | 1,hu=>simp at hu;subst hu;exact h.cell 1 rfl
 | _+2,hu=>simp at hu
theorem Es.grow {w':World}{L:List (Int × Int)}(h:Es w W v n L){g cap:Nat}{x y:Int}(hl:L.length=n)
  (hown:w'.ownsRow w.heap.size 74 2 (.slice (some ⟨g,0,none⟩) (n+1) cap) (n+1) (jN L++[.int .i64 x,.int .i64 y])) (hgrow:W.grownBy w' v.ownBlock) :
  Es w w' (.slice (some ⟨g,0,none⟩) (n+1) cap) (n+1) (L++[(x,y)]) :=
 ⟨by rw[aJr];exact hown,h.bel.grown hgrow h.bel.size (fun k hk=>(h.a.lt k hk).1)⟩
theorem aAe {L:List (Int × Int)}{ops:Array Oper}{rest:List Oper}{o:Oper}{a:Act}{Q:Exit->Act->World->Prop}
  (hgd:o.guard=none) (s x:Operand) (ho:o.op=.call { callee:=.builtin .append,args:=#[s,x],argTypes:=#[33,33] })
  (hs:a.eval s=v) (hen:Es w W v n L) (b:Nat) (p q:Int) (hx:a.eval x=.slice (some ⟨b,0,none⟩) 1 1) (hc:aB W b 74 #[.int .i64 p,.int .i64 q]) (h3:n<=8796093022001)
  (h:∀ g cap w',Es w w' (.slice (some ⟨g,0,none⟩) (n+1) cap) (n+1) (L++[(p,q)])->W.heap.size<=w'.heap.size->wpList Tryz.prog ops Q rest (a.put o.dst (.slice (some ⟨g,0,none⟩) (n+1) cap)) w') :
  wpList Tryz.prog ops Q (o::rest) a W:=by
 obtain⟨i0,hi0,hz0,hz1,hz2⟩:=info_parts aFt
 have hl:L.length=n:=by
  have:=hen.a.1
  rw[gJ] at this
  omega
 refine wpList_append_lies W hgd s x 33 ho w.heap.size 74 i0 _ 2 16 Tryz.underlying33 hi0 hz0 hz1 hz2 rfl (by omega) v n (jN L) hs hen.a ⟨b,0,none⟩ 1 1 [.int .i64 p,.int .i64 q] hx rfl (aMh hc) (by simp[Value.oneCell']) (by omega) (by unfold maxLen;omega) (by omega) hen.bel.size W.heap.size rfl ?_
 intro g cap w' hown hgrow hat hlt
 exact h g cap w' (hen.grow hl hown hgrow) hgrow.size
end Go.Proofs.Spn
namespace Go.Proofs.Spn
open Go.RowKit Go.IntWalk

theorem aGd (n:Int)(w:World)(hn:0<=n/\n<=62) :
  Calls Tryz.prog 97 #[.int .i64 n] w fun e w'=>e=.returned (.int .i64 (2 ^ n.toNat))/\w'=w:=by
 go_enter Tryz.func97,Tryz.ntmps97
 go_wp2
 go_loop [3,4] (fun x i=>∃ k:Nat,(k:Int)<=n/\i=.int .i64 k/\x=.int .i64 (2 ^ k)) (fun _ i=>n.toNat-(intOf i).toNat)
 case atStart=>exact⟨0,by omega,rfl,rfl⟩
 case round =>
  obtain⟨k,hk,rfl,rfl⟩:=hrel
  have hp:=xU k 62 (by omega)
  have hp2:(2:Int) ^ (k+1)=2*2 ^ k:=by rw[Int.pow_succ];omega
  have HP:=aA hp2
  clear hp2
  by_cases hlt:(k:Int) < n
  ·have hp3:=xU (k+1) 62 (by omega)
   rw[HP.o] at hp3
   generalize hq:(2:Int) ^ k=q at *
   have HQ:=aA hq
   clear hq
   go_wp2
   go_round
   case rel=>exact⟨k+1,by omega,by go_num,by rw[HP.o]⟩
   case measure=>simp[intOf];omega
  ·obtain rfl:n=(k:Int):=by omega
   go_wp2
   go_ret
   exact⟨rfl,rfl⟩
end Go.Proofs.Spn
