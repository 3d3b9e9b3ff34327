import Derived.Test.YtimdcmponhcngaaGreatX16
namespace Go.Proofs.YtimdcmponhcngaaGreat.Spn
open Go.RowKit Go.IntWalk
set_option linter.unusedVariables false
set_option maxRecDepth 100000
set_option maxHeartbeats 16000000
theorem fin_bad (Z:Int × Int)(e:Int)(he:e≠0):finZ (Z,e)=((0,0),e):=by simp[finZ,he]
theorem fin_no {x y:Int}(h:¬whB x y=true):finZ ((x,y),0)=((0,0),13):=by simp[finZ,h]
theorem fin_no' {x y:Int}(h:¬(x<=y/\-2147483648<=x/\x<=2147483647/\-2147483648<=y/\y<=2147483647)):finZ ((x,y),0)=((0,0),13):=fin_no fun hh=>h (whB_iff.1 hh)
theorem corn_fin {f:Int->Int->Int × Int}{a b c d p q r t:Int}(h0:f a c=if wd p=true then(p,0) else(0,13))(h1:f a d=if wd q=true then(q,0) else(0,13))
  (h2:f b c=if wd r=true then(r,0) else(0,13)) (h3:f b d=if wd t=true then(t,0) else(0,13)) :
  finZ ((min (min (min p q) r) t,max (max (max p q) r) t),0)=finZ (cornZ f a b c d):=by
 have e0:cv f a b c d 0=f a c:=rfl
 have e1:cv f a b c d 1=f a d:=rfl
 have e2:cv f a b c d 2=f b c:=rfl
 have e3:cv f a b c d 3=f b d:=rfl
 by_cases w0:wd p=true
 ·rw[if_pos w0] at h0
  by_cases w1:wd q=true
  ·rw[if_pos w1] at h1
   by_cases w2:wd r=true
   ·rw[if_pos w2] at h2
    by_cases w3:wd t=true
    ·rw[if_pos w3] at h3
     rw[cornZ_mk (by rw[h0]) (by rw[h1]) (by rw[h2]) (by rw[h3]),h0,h1,h2,h3]
     rw[wd_iff] at w0 w1 w2 w3
     have g1:min (min (min p q) r) t=min (min (min (min 9223372036854775807 p) q) r) t:=by omega
     have g2:max (max (max p q) r) t=max (max (max (max (-9223372036854775808) p) q) r) t:=by omega
     rw[g1,g2]
    ·rw[if_neg w3] at h3
     unfold cornZ
     rw[e0,e1,e2,e3,h0,h1,h2,h3,if_neg (by simp),if_neg (by simp),if_neg (by simp),if_pos (by simp)]
     rw[wd_iff] at w3
     exact(fin_no' (by omega)).trans (fin_bad _ 13 (by simp)).symm
   ·rw[if_neg w2] at h2
    unfold cornZ
    rw[e0,e1,e2,h0,h1,h2,if_neg (by simp),if_neg (by simp),if_pos (by simp)]
    rw[wd_iff] at w2
    exact(fin_no' (by omega)).trans (fin_bad _ 13 (by simp)).symm
  ·rw[if_neg w1] at h1
   unfold cornZ
   rw[e0,e1,h0,h1,if_neg (by simp),if_pos (by simp)]
   rw[wd_iff] at w1
   exact(fin_no' (by omega)).trans (fin_bad _ 13 (by simp)).symm
 ·rw[if_neg w0] at h0
  unfold cornZ
  rw[e0,h0,if_pos (by simp)]
  rw[wd_iff] at w0
  exact(fin_no' (by omega)).trans (fin_bad _ 13 (by simp)).symm
theorem ends_fin {f:List Int->Int × Int}{L:List (Int × Int)}{p q:Int}(h0:f (fsts L)=if wd p=true then(p,0) else(0,13))(h1:f (snds L)=if wd q=true then(q,0) else(0,13)) :
  finZ ((p,q),0)=finZ (endsZ f L):=by
 unfold endsZ
 rw[h0,h1]
 by_cases w0:wd p=true
 ·rw[if_pos w0,if_neg (by simp)]
  by_cases w1:wd q=true
  ·rw[if_pos w1]
  ·rw[if_neg w1]
   rw[wd_iff] at w1
   exact(fin_no' (by omega)).trans (fin_bad _ 13 (by simp)).symm
 ·rw[if_neg w0,if_pos (by simp)]
  rw[wd_iff] at w0
  exact(fin_no' (by omega)).trans (fin_bad _ 13 (by simp)).symm
theorem fnE_if (v:Int):fnE (v,0)=if wd v=true then(v,0) else(0,13):=by simp[fnE]
theorem tr_wd (b:Bool):wd (tr b)=true:=by cases b <;> rfl
theorem v10 {k s x y:Int}(hx:W32 x)(hy:W32 y):valZ 10 k s [x,y]=if wd (x*y)=true then(x*y,0) else(0,13):=by
 rw[val2 rfl rfl hx hy];exact fnE_if (x*y)
theorem v11 {k s x y:Int}(hx:W32 x)(hy:W32 y)(h:y≠0):valZ 11 k s [x,y]=if wd (x.tdiv y)=true then(x.tdiv y,0) else(0,13):=by
 rw[val2 rfl rfl hx hy,show ex 11 k s x y 0=(x.tdiv y,0) by simp[ex,h]];exact fnE_if _
theorem v13 {k s x y:Int}(hx:W32 x)(hy:W32 y)(h:0<=y/\y<=31):valZ 13 k s [x,y]=if wd (x*2 ^ y.toNat)=true then(x*2 ^ y.toNat,0) else(0,13):=by
 rw[val2 rfl rfl hx hy,show ex 13 k s x y 0=(x*2 ^ y.toNat,0) by simp[ex,inB_t h.1 h.2]];exact fnE_if _
theorem v14 {k s x y:Int}(hx:W32 x)(hy:W32 y)(h:0<=y/\y<=31):valZ 14 k s [x,y]=if wd (x / 2 ^ y.toNat)=true then(x / 2 ^ y.toNat,0) else(0,13):=by
 rw[val2 rfl rfl hx hy,show ex 14 k s x y 0=(x / 2 ^ y.toNat,0) by simp[ex,inB_t h.1 h.2]];exact fnE_if _
theorem v29 {k s x:Int}(hc:cons 29 k s=true)(hx:W32 x):valZ 29 k s [x]=if wd (x*2 ^ k.toNat)=true then(x*2 ^ k.toNat,0) else(0,13):=by
 rw[val1 rfl hc hx];exact fnE_if _
theorem v30 {k s x:Int}(hc:cons 30 k s=true)(hx:W32 x):valZ 30 k s [x]=if wd (x / 2 ^ k.toNat)=true then(x / 2 ^ k.toNat,0) else(0,13):=by
 rw[val1 rfl hc hx];exact fnE_if _
theorem v33 {k s x:Int}(hc:cons 33 k s=true)(hx:W32 x)(h:max x (-x)*k<=4611686018427387904):valZ 33 k s [x]=if wd (x*k / 2 ^ s.toNat)=true then(x*k / 2 ^ s.toNat,0) else(0,13):=by
 rw[val1 rfl hc hx,ex33' h];exact fnE_if _
theorem v33b {k s x:Int}(hc:cons 33 k s=true)(hx:W32 x)(h:4611686018427387904 < max x (-x)*k):valZ 33 k s [x]=(0,13):=by
 rw[val1 rfl hc hx]
 have e:ex 33 k s x 0 0=if 4611686018427387904 < max x (-x)*k then(0,13) else(x*k / 2 ^ s.toNat,0):=rfl
 rw[e,if_pos h];rfl
theorem ifwd {v:Int}(h:wd v=true):(v,(0:Int))=if wd v=true then(v,0) else(0,13):=by rw[if_pos h]
theorem v7 {k s x:Int}(hx:W32 x):valZ 7 k s [x]=(tr (decide (0 < x))-tr (decide (x < 0)),0):=by
 rw[val1 rfl rfl hx]
 refine fnE_mk (E:=(tr (decide (0 < x))-tr (decide (x < 0)),0)) rfl (wd_iff.2 ?_)
 have t1:=trd (0 < x)
 have t2:=trd (x < 0)
 show _<=tr _-tr _/\tr _-tr _<=_
 omega
theorem v24 {k s x y:Int}(hx:W32 x)(hy:W32 y):valZ 24 k s [x,y]=(min x y,0):=by
 rw[val2 rfl rfl hx hy]
 exact fnE_mk (E:=(min x y,0)) rfl (wd_iff.2 (show _<=min x y/\min x y<=_ by omega))
theorem v25 {k s x y:Int}(hx:W32 x)(hy:W32 y):valZ 25 k s [x,y]=(max x y,0):=by
 rw[val2 rfl rfl hx hy]
 exact fnE_mk (E:=(max x y,0)) rfl (wd_iff.2 (show _<=max x y/\max x y<=_ by omega))
theorem v26 {k s x y z:Int}(hx:W32 x)(hy:W32 y)(hz:W32 z):valZ 26 k s [x,y,z]=(min z (max x y),0):=by
 rw[val3 rfl rfl hx hy hz]
 exact fnE_mk (E:=(min z (max x y),0)) rfl (wd_iff.2 (show _<=min z (max x y)/\min z (max x y)<=_ by omega))
theorem v27 {k s x y z:Int}(hx:W32 x)(hy:W32 y)(hz:W32 z):valZ 27 k s [x,y,z]=(max (min x y) (min (max x y) z),0):=by
 rw[val3 rfl rfl hx hy hz]
 exact fnE_mk (E:=(max (min x y) (min (max x y) z),0)) rfl (wd_iff.2 (show _<=max (min x y) (min (max x y) z)/\max (min x y) (min (max x y) z)<=_ by omega))
theorem v18 {k s x y:Int}(hx:W32 x)(hy:W32 y):valZ 18 k s [x,y]=(tr (decide (x < y)),0):=by
 rw[val2 rfl rfl hx hy];exact fnE_mk (E:=(tr (decide (x < y)),0)) rfl (tr_wd _)
theorem v19 {k s x y:Int}(hx:W32 x)(hy:W32 y):valZ 19 k s [x,y]=(tr (decide (x<=y)),0):=by
 rw[val2 rfl rfl hx hy];exact fnE_mk (E:=(tr (decide (x<=y)),0)) rfl (tr_wd _)
theorem v20 {k s x y:Int}(hx:W32 x)(hy:W32 y):valZ 20 k s [x,y]=(tr (decide (y < x)),0):=by
 rw[val2 rfl rfl hx hy];exact fnE_mk (E:=(tr (decide (y < x)),0)) rfl (tr_wd _)
theorem v21 {k s x y:Int}(hx:W32 x)(hy:W32 y):valZ 21 k s [x,y]=(tr (decide (y<=x)),0):=by
 rw[val2 rfl rfl hx hy];exact fnE_mk (E:=(tr (decide (y<=x)),0)) rfl (tr_wd _)
theorem cmp_fin {op k s a b c d:Int}(hop:op=18\/op=19\/op=20\/op=21)(ha:W32 a)(hb:W32 b)(hc:W32 c)(hd:W32 d)(hab:a<=b)(hcd:c<=d) :
  finZ ((min (valZ op 0 0 [a,d]).1 (valZ op 0 0 [b,c]).1,max (valZ op 0 0 [a,d]).1 (valZ op 0 0 [b,c]).1),0)=finZ (cornZ (fun u v=>valZ op k s [u,v]) a b c d):=by
 have key:∀ p q r t:Int,min q r<=p->p<=max q r->min q r<=t->t<=max q r->min q r=min (min (min p q) r) t/\max q r=max (max (max p q) r) t:=by intro p q r t;omega
 rcases hop with rfl|rfl|rfl|rfl
 ·have t1:=trd (a < c)
  have t2:=trd (a < d)
  have t3:=trd (b < c)
  have t4:=trd (b < d)
  rw[<-corn_fin ((v18 ha hc).trans (ifwd (tr_wd _))) ((v18 ha hd).trans (ifwd (tr_wd _))) ((v18 hb hc).trans (ifwd (tr_wd _))) ((v18 hb hd).trans (ifwd (tr_wd _))),v18 ha hd,v18 hb hc]
  obtain⟨e1,e2⟩:=key (tr (decide (a < c))) (tr (decide (a < d))) (tr (decide (b < c))) (tr (decide (b < d))) (by omega) (by omega) (by omega) (by omega)
  rw[<-e1,<-e2]
 ·have t1:=trd (a<=c)
  have t2:=trd (a<=d)
  have t3:=trd (b<=c)
  have t4:=trd (b<=d)
  rw[<-corn_fin ((v19 ha hc).trans (ifwd (tr_wd _))) ((v19 ha hd).trans (ifwd (tr_wd _))) ((v19 hb hc).trans (ifwd (tr_wd _))) ((v19 hb hd).trans (ifwd (tr_wd _))),v19 ha hd,v19 hb hc]
  obtain⟨e1,e2⟩:=key (tr (decide (a<=c))) (tr (decide (a<=d))) (tr (decide (b<=c))) (tr (decide (b<=d))) (by omega) (by omega) (by omega) (by omega)
  rw[<-e1,<-e2]
 ·have t1:=trd (c < a)
  have t2:=trd (d < a)
  have t3:=trd (c < b)
  have t4:=trd (d < b)
  rw[<-corn_fin ((v20 ha hc).trans (ifwd (tr_wd _))) ((v20 ha hd).trans (ifwd (tr_wd _))) ((v20 hb hc).trans (ifwd (tr_wd _))) ((v20 hb hd).trans (ifwd (tr_wd _))),v20 ha hd,v20 hb hc]
  obtain⟨e1,e2⟩:=key (tr (decide (c < a))) (tr (decide (d < a))) (tr (decide (c < b))) (tr (decide (d < b))) (by omega) (by omega) (by omega) (by omega)
  rw[<-e1,<-e2]
 ·have t1:=trd (c<=a)
  have t2:=trd (d<=a)
  have t3:=trd (c<=b)
  have t4:=trd (d<=b)
  rw[<-corn_fin ((v21 ha hc).trans (ifwd (tr_wd _))) ((v21 ha hd).trans (ifwd (tr_wd _))) ((v21 hb hc).trans (ifwd (tr_wd _))) ((v21 hb hd).trans (ifwd (tr_wd _))),v21 ha hd,v21 hb hc]
  obtain⟨e1,e2⟩:=key (tr (decide (c<=a))) (tr (decide (d<=a))) (tr (decide (c<=b))) (tr (decide (d<=b))) (by omega) (by omega) (by omega) (by omega)
  rw[<-e1,<-e2]
theorem sh_fin {op k s a b c d:Int}(hop:op=13\/op=14)(ha:W32 a)(hb:W32 b)(hc:W32 c)(hd:W32 d)(hcd:c<=d)(h:c < 0\/31 < d) :
  finZ ((0,0),13)=finZ (cornZ (fun u v=>valZ op k s [u,v]) a b c d):=by
 have ho:ar op=2:=by rcases hop with rfl|rfl <;> rfl
 have hco:cons op k s=true:=by rcases hop with rfl|rfl <;> rfl
 obtain⟨⟨lo,hi⟩,e,hZ⟩:∃ Z e,cornZ (fun u v=>valZ op k s [u,v]) a b c d=(Z,e):=⟨_,_,rfl⟩
 have he:e=0\/e=13:=by
  have key:∀ x y,W32 x->W32 y->(valZ op k s [x,y]).2=0\/(valZ op k s [x,y]).2=13:=by
   intro x y hx hy
   rw[val2 ho hco hx hy]
   have h1:(ex op k s x y 0).2=0\/(ex op k s x y 0).2=13:=by
    cases hi:inB y 0 31
    ·rcases hop with rfl|rfl <;> simp[ex,hi]
    ·rcases hop with rfl|rfl <;> simp[ex,hi]
   unfold fnE
   split
   ·split <;> simp
   ·rcases h1 with h1|h1
    ·contradiction
    ·right;exact h1
  have e0:cv (fun u v=>valZ op k s [u,v]) a b c d 0=valZ op k s [a,c]:=rfl
  have e1:cv (fun u v=>valZ op k s [u,v]) a b c d 1=valZ op k s [a,d]:=rfl
  have e2:cv (fun u v=>valZ op k s [u,v]) a b c d 2=valZ op k s [b,c]:=rfl
  have e3:cv (fun u v=>valZ op k s [u,v]) a b c d 3=valZ op k s [b,d]:=rfl
  unfold cornZ at hZ
  rw[e0,e1,e2,e3] at hZ
  have k0:=key a c ha hc
  have k1:=key a d ha hd
  have k2:=key b c hb hc
  have k3:=key b d hb hd
  split at hZ
  ·simp only[Prod.mk.injEq] at hZ;omega
  ·split at hZ
   ·simp only[Prod.mk.injEq] at hZ;omega
   ·split at hZ
    ·simp only[Prod.mk.injEq] at hZ;omega
    ·split at hZ
     ·simp only[Prod.mk.injEq] at hZ;omega
     ·simp only[Prod.mk.injEq] at hZ;omega
 rcases he with rfl|rfl
 ·have:=corn_count hop ha hb hc hd hZ
  omega
 ·rw[hZ,fin_bad _ _ (by simp),fin_bad _ _ (by simp)]
theorem muls_big {k s a b M:Int}(hc:cons 33 k s=true)(ha:W32 a)(hb:W32 b)(hM:max (max (max a b) (-a)) (-b)=M)(h:0 < M/\4611686018427387904 / M < k) :
  finZ ((0,0),13)=finZ (endsZ (fun xs=>valZ 33 k s xs) [(a,b)]):=by
 have h1:=(div_test (m:=k) (k:=M) (by omega)).1 h.2
 rw[Int.mul_comm] at h1
 unfold endsZ
 show finZ ((0,0),13)=finZ (if (valZ 33 k s [a]).2≠0 then((0,0),(valZ 33 k s [a]).2) else(((valZ 33 k s [a]).1,(valZ 33 k s [b]).1),(valZ 33 k s [b]).2))
 rcases(show M=max a (-a)\/M=max b (-b) by omega) with e|e
 ·rw[v33b hc ha (by rw[<-e];exact h1),if_pos (by simp)]
 ·rw[v33b hc hb (by rw[<-e];exact h1)]
  rcases Int.lt_or_le 4611686018427387904 (max a (-a)*k) with h2|h2
  ·rw[v33b hc ha h2,if_pos (by simp)]
  ·rw[v33 hc ha h2]
   split
   ·rw[if_neg (by simp)]
    exact(fin_bad _ 13 (by simp)).trans (fin_bad _ 13 (by simp)).symm
   ·rw[if_pos (by simp)]
theorem muls_small {k a b M:Int}(hk:1<=k)(hM:max (max (max a b) (-a)) (-b)=M)(h:¬(0 < M/\4611686018427387904 / M < k)):M*k<=4611686018427387904/\max a (-a)*k<=4611686018427387904/\max b (-b)*k<=4611686018427387904:=by
 have h1:M*k<=4611686018427387904:=by
  rcases(show M=0\/1<=M by omega) with h0|h0
  ·rw[h0];omega
  ·have h2:¬4611686018427387904 / M < k:=fun hh=>h ⟨by omega,hh⟩
   have h3:¬4611686018427387904 < k*M:=fun hh=>h2 ((div_test (m:=k) (k:=M) h0).2 hh)
   rw[Int.mul_comm] at h3
   omega
 refine⟨h1,?_,?_⟩
 ·exact Int.le_trans (Int.mul_le_mul_of_nonneg_right (show max a (-a)<=M by omega) (by omega)) h1
 ·exact Int.le_trans (Int.mul_le_mul_of_nonneg_right (show max b (-b)<=M by omega) (by omega)) h1
theorem muls_bd {k a:Int}(hk:1<=k)(h:max a (-a)*k<=4611686018427387904):-4611686018427387904<=a*k/\a*k<=4611686018427387904:=by
 have h1:=Int.mul_le_mul_of_nonneg_right (show a<=max a (-a) by omega) (show 0<=k by omega)
 have h2:=Int.mul_le_mul_of_nonneg_right (show -a<=max a (-a) by omega) (show 0<=k by omega)
 rw[Int.neg_mul] at h2
 omega
theorem one6 {a b:Int}(hab:a<=b):(if hasB a b 0=true then(0,max (max (max a b) (-a)) (-b)) else if 0 < a then(a,b) else(-b,-a))=oneZ 6 a b:=by
 have e6:oneZ 6 a b=if 0<=a then(a,b) else if b < 0 then(-b,-a) else(0,max (-a) b):=by unfold oneZ;rw[if_neg (by decide)]
 rw[e6]
 by_cases h:hasB a b 0=true
 ·rw[if_pos h]
  have:=hasB_iff.1 h
  by_cases h1:0<=a
  ·rw[if_pos h1]
   have:a=0:=by omega
   subst this
   exact congrArg (Prod.mk 0) (by omega)
  ·rw[if_neg h1,if_neg (by omega)]
   exact congrArg (Prod.mk 0) (by omega)
 ·rw[if_neg h]
  have h':¬(a<=0/\0<=b):=fun hh=>h (hasB_iff.2 hh)
  by_cases h1:0 < a
  ·rw[if_pos h1,if_pos (by omega)]
  ·rw[if_neg h1,if_neg (by omega),if_pos (by omega)]
theorem sel28 {a b c d e f:Int}(hcd:c<=d)(hef:e<=f):(if hasB a b 0=true then(if a=0/\b=0 then(e,f) else(min (min (min c d) e) f,max (max (max c d) e) f)) else(c,d))=selZ a b c d e f:=by
 unfold selZ
 rw[show min (min (min c d) e) f=min c e by omega,show max (max (max c d) e) f=max d f by omega]
theorem two22 (a b c d:Int):twoZ 22 a b c d=eqZ a b c d/\twoZ 23 a b c d=(1-(eqZ a b c d).2,1-(eqZ a b c d).1)/\twoZ 15 a b c d=bothZ a b c d/\twoZ 16 a b c d=eithZ 16 a b c d/\twoZ 17 a b c d=eithZ 17 a b c d/\twoZ 8 a b c d=(a+c,b+d)/\twoZ 9 a b c d=(a-d,b-c):=by
 simp[twoZ]
end Go.Proofs.YtimdcmponhcngaaGreat.Spn
namespace Go.Proofs.YtimdcmponhcngaaGreat.Spn
open Go.RowKit Go.IntWalk Go.Sort
set_option linter.unusedVariables false
set_option maxRecDepth 100000
set_option maxHeartbeats 16000000
def hlo (xs:List Int):Int:=xs.foldl min (xs.getD 0 0)
def hhi (xs:List Int):Int:=xs.foldl max (xs.getD 0 0)
theorem fold_succ {f:Int->Int->Int}{xs:List Int}{z x:Int}{j:Nat}(hj:j < xs.length)(hx:xs.getD j 0=x):(xs.take (j+1)).foldl f z=f ((xs.take j).foldl f z) x:=by
 have e:xs[j]=x:=by simpa [List.getD,hj] using hx
 rw[List.take_succ_eq_append_getElem hj,e,List.foldl_append]
 rfl
structure Hu (w W:World)(x y:Int):Prop where
 r:HasC W w.heap.size 58 #[.int .i64 0,.int .i64 0]
 q:HasC W (w.heap.size+1) 58 #[.int .i64 x,.int .i64 y]
 bel:Below w.heap.size w W
theorem Hu.drew {w W:World}{x y:Int}(h:Hu w W x y)(n:Nat):Hu w (W.drewN n) x y:=⟨h.r,h.q,bdrew h.bel n⟩
theorem Hu.lo {w W:World}{x y:Int}(h:Hu w W x y)(x':Int):Hu w (W.setCell ⟨w.heap.size+1,0,none⟩ (.int .i64 x')) x' y :=
 ⟨h.r.other (p:=⟨w.heap.size+1,0,none⟩) (by simp) _,h.q.set 0 _,h.bel.setCell (p:=⟨w.heap.size+1,0,none⟩) (by simp) _⟩
theorem Hu.hi {w W:World}{x y:Int}(h:Hu w W x y)(y':Int):Hu w (W.setCell ⟨w.heap.size+1,1,none⟩ (.int .i64 y')) x y' :=
 ⟨h.r.other (p:=⟨w.heap.size+1,1,none⟩) (by simp) _,h.q.set 1 _,h.bel.setCell (p:=⟨w.heap.size+1,1,none⟩) (by simp) _⟩
theorem hull_any (a:Option Addr)(n cap:Nat)(xs:List Int)(w:World)(h:Ints w a n cap xs)(hn:n≠0)(hn4:n<=4) :
  Calls Tryz.prog 125 #[.slice a n cap] w fun e w'=>e=.returned (.agg #[.int .i64 (hlo xs),.int .i64 (hhi xs)])/\Below w.heap.size w w':=by
 have hle:=h.le
 have hl:=h.len
 obtain⟨bb,off,rfl,hbb,hcell⟩:=h.at hn
 have HCL:=hide hcell
 have HL:=hide hl
 have c0:=hcell 0 (by omega)
 rw[Nat.add_zero] at c0
 obtain⟨x0,hx0⟩:∃ x,xs.getD 0 0=x:=⟨_,rfl⟩
 rw[hx0] at c0
 have HX0:=hide hx0
 have d0:=(cell_old (o:=cs 0 0) (i:=off) hbb).trans c0
 clear hcell hl hx0 h c0
 have hn0:(0:Int) < (n:Int):=by omega
 go_enter Tryz.func125,Tryz.ntmps125
 go_wp2_with fail
 go_region
 have hU:Hu w ((w.alloc (cs 0 0)).alloc (cs x0 x0)).drew x0 x0:=by
  have h1:=(HasC.new w 58 #[.int .i64 0,.int .i64 0]).alloc (cs x0 x0)
  have h2:=HasC.new (w.alloc (cs 0 0)) 58 #[.int .i64 x0,.int .i64 x0]
  simp only[World.size_alloc] at h2
  exact⟨h1,h2,(((Below.refl _ _).alloc (Nat.le_refl _) _).alloc (by simp) _).trans ⟨rfl,rfl,rfl,Nat.le_refl _,fun _ _=>rfl⟩⟩
 have HU:=hide hU
 clear hU d0
 go_wp2_with fail
 go_loopw [4] (fun i wr=>∃ j:Nat,j<=n/\i=.int .i64 j/\Hu w wr ((xs.take j).foldl min x0) ((xs.take j).foldl max x0)) (fun i _=>n-(intOf i).toNat)
 case atStart=>exact⟨0,by omega,rfl,HU.out⟩
 case round =>
  rename World=>wi
  obtain⟨j,hj,rfl,hu⟩:=hrel
  have HUJ:=hide hu
  clear hu
  by_cases hlt:j < n
  ·have hd1:decide ((j:Int) < (n:Int))=true:=by simp;omega
   have hj0:(0:Int)<=(j:Int):=by omega
   have hj1:(j:Int) < (n:Int):=by omega
   obtain⟨x,hx⟩:∃ x,xs.getD j 0=x:=⟨_,rfl⟩
   have g1:=(HUJ.out.bel.cell (p:=⟨bb,off+j,none⟩) hbb).trans (HCL.out j hlt)
   rw[hx] at g1
   have f1:=fold_succ (f:=min) (z:=x0) (by rw[HL.out];exact hlt) hx
   have f2:=fold_succ (f:=max) (z:=x0) (by rw[HL.out];exact hlt) hx
   obtain⟨p,hp⟩:∃ p,(xs.take j).foldl min x0=p:=⟨_,rfl⟩
   obtain⟨q,hq⟩:∃ q,(xs.take j).foldl max x0=q:=⟨_,rfl⟩
   rw[hp] at f1
   rw[hq] at f2
   rw[hp,hq] at HUJ
   have HXX:=hide hx
   have F1:=hide f1
   have F2:=hide f2
   clear f1 f2 hp hq hx
   obtain⟨r1,r2,r3,r4⟩:=facts2 HUJ.out.q
   have hbw:bb≠w.heap.size+1:=by omega
   by_cases hxp:x < p <;> by_cases hxq:q < x
   ·have e1:decide (x < p)=true:=by simp[hxp]
    have e2:decide (q < x)=true:=by simp[hxq]
    go_wp2_with fail
    go_quiet (fail)
    go_wp2_with fail
    have HV:=hide (HUJ.out.drew nq)
    have HV1:=hide (HV.out.lo x)
    obtain⟨W1,hW1⟩:∃ W1,(wi.drewN nq).setCell ⟨w.heap.size+1,0,none⟩ (.int .i64 x)=W1:=⟨_,rfl⟩
    rw[hW1] at HV1 ⊢
    clear hW1
    clear g1 r1 r2 r3 r4
    have g1:=(HV1.out.bel.cell (p:=⟨bb,off+j,none⟩) hbb).trans (HCL.out j hlt)
    rw[HXX.out] at g1
    obtain⟨r1,r2,r3,r4⟩:=facts2 HV1.out.q
    go_quiet (fail)
    go_wp2_with fail
    go_roundw
    case rel =>
     refine⟨j+1,by omega,by go_num,?_⟩
     rw[F1.out,F2.out,show min p x=x by omega,show max q x=x by omega]
     exact(HV1.out.drew _).hi x
    case measure=>simp[intOf];omega
   ·have e1:decide (x < p)=true:=by simp[hxp]
    have e2:decide (q < x)=false:=by simp;omega
    go_wp2_with fail
    go_quiet (fail)
    go_wp2_with fail
    have HV:=hide (HUJ.out.drew nq)
    have HV1:=hide (HV.out.lo x)
    obtain⟨W1,hW1⟩:∃ W1,(wi.drewN nq).setCell ⟨w.heap.size+1,0,none⟩ (.int .i64 x)=W1:=⟨_,rfl⟩
    rw[hW1] at HV1 ⊢
    clear hW1
    clear g1 r1 r2 r3 r4
    have g1:=(HV1.out.bel.cell (p:=⟨bb,off+j,none⟩) hbb).trans (HCL.out j hlt)
    rw[HXX.out] at g1
    obtain⟨r1,r2,r3,r4⟩:=facts2 HV1.out.q
    go_quiet (fail)
    go_wp2_with fail
    go_roundw
    case rel =>
     refine⟨j+1,by omega,by go_num,?_⟩
     rw[F1.out,F2.out,show min p x=x by omega,show max q x=q by omega]
     exact HV1.out.drew _
    case measure=>simp[intOf];omega
   ·have e1:decide (x < p)=false:=by simp;omega
    have e2:decide (q < x)=true:=by simp[hxq]
    go_wp2_with fail
    go_quiet (fail)
    go_wp2_with fail
    have HV:=hide (HUJ.out.drew nq)
    have HV1:=hide HV.out
    obtain⟨W1,hW1⟩:∃ W1,wi.drewN nq=W1:=⟨_,rfl⟩
    rw[hW1] at HV1 ⊢
    clear hW1
    clear g1 r1 r2 r3 r4
    have g1:=(HV1.out.bel.cell (p:=⟨bb,off+j,none⟩) hbb).trans (HCL.out j hlt)
    rw[HXX.out] at g1
    obtain⟨r1,r2,r3,r4⟩:=facts2 HV1.out.q
    go_quiet (fail)
    go_wp2_with fail
    go_roundw
    case rel =>
     refine⟨j+1,by omega,by go_num,?_⟩
     rw[F1.out,F2.out,show min p x=p by omega,show max q x=x by omega]
     exact(HV1.out.drew _).hi x
    case measure=>simp[intOf];omega
   ·have e1:decide (x < p)=false:=by simp;omega
    have e2:decide (q < x)=false:=by simp;omega
    go_wp2_with fail
    go_quiet (fail)
    go_wp2_with fail
    have HV:=hide (HUJ.out.drew nq)
    have HV1:=hide HV.out
    obtain⟨W1,hW1⟩:∃ W1,wi.drewN nq=W1:=⟨_,rfl⟩
    rw[hW1] at HV1 ⊢
    clear hW1
    clear g1 r1 r2 r3 r4
    have g1:=(HV1.out.bel.cell (p:=⟨bb,off+j,none⟩) hbb).trans (HCL.out j hlt)
    rw[HXX.out] at g1
    obtain⟨r1,r2,r3,r4⟩:=facts2 HV1.out.q
    go_quiet (fail)
    go_wp2_with fail
    go_roundw
    case rel =>
     refine⟨j+1,by omega,by go_num,?_⟩
     rw[F1.out,F2.out,show min p x=p by omega,show max q x=q by omega]
     exact HV1.out.drew _
    case measure=>simp[intOf];omega
  ·obtain rfl:j=n:=by omega
   have hd1:decide ((j:Int) < (j:Int))=false:=by simp
   have hu:=HUJ.out
   rw[List.take_of_length_le (by rw[HL.out];omega)] at hu
   have e1:xs.foldl min x0=hlo xs:=by unfold hlo;rw[HX0.out]
   have e2:xs.foldl max x0=hhi xs:=by unfold hhi;rw[HX0.out]
   rw[e1,e2] at hu
   obtain⟨p,hp⟩:∃ p,hlo xs=p:=⟨_,rfl⟩
   obtain⟨q,hq⟩:∃ q,hhi xs=q:=⟨_,rfl⟩
   rw[hp,hq] at hu
   have HP:=hide hp
   have HQ:=hide hq
   have HU2:=hide hu
   clear hu hp hq e1 e2
   obtain⟨r1,r2,-,-⟩:=facts2 HU2.out.q
   obtain⟨s1,s2,s3,s4⟩:=facts2 HU2.out.r
   go_wp2_with fail
   obtain⟨t0,t1,hB⟩:=stored2 HU2.out.r HU2.out.bel (Nat.le_refl _) p q
   exact bodyPost_ret (v:=.agg #[.int .i64 p,.int .i64 q]) (by simp[results,Tryz.results125,go_sem,t0,t1]) rfl ⟨by rw[HP.out,HQ.out],hB⟩
theorem wide_10 (x y:Int)(w:World)(hx:W32 x)(hy:W32 y):Calls Tryz.prog 160 #[.int .i64 10,.int .i64 x,.int .i64 y] w fun e w'=>e=.returned (.int .i64 (x*y))/\w'=w:=by
 have hb:=mul_wd (a:=x) (b:=y) hx (by omega)
 go_enter Tryz.func160,Tryz.ntmps160
 go_wp2
 go_ret
 exact⟨rfl,rfl⟩
theorem wide_11 (x y:Int)(w:World)(hx:W32 x)(hy:W32 y)(h0:y≠0):Calls Tryz.prog 160 #[.int .i64 11,.int .i64 x,.int .i64 y] w fun e w'=>e=.returned (.int .i64 (x.tdiv y))/\w'=w:=by
 have bd:=tdiv_bd x y hx
 rcases(show x < 0\/0<=x by omega) with ga|ga <;> rcases(show y < 0\/0<=y by omega) with gb|gb
 ·have e:x.tdiv y=-x / -y:=by rw[<-Int.neg_tdiv_neg,Int.tdiv_eq_ediv_of_nonneg (by omega)]
  rw[e] at bd ⊢
  clear e
  have da:decide (x < 0)=true:=by simp;omega
  have db:decide (y < 0)=true:=by simp;omega
  obtain⟨A,hA⟩:∃ A,-x=A:=⟨_,rfl⟩
  obtain⟨B,hB⟩:∃ B,-y=B:=⟨_,rfl⟩
  have hA':0<=A/\A<=2147483648:=by omega
  have hB':1<=B:=by omega
  rw[hA,hB] at bd ⊢
  go_enter Tryz.func160,Tryz.ntmps160
  go_wp2
  go_ret
  exact⟨rfl,rfl⟩
 ·have e:x.tdiv y=-(-x / y):=by rw[<-Int.tdiv_eq_ediv_of_nonneg (by omega),Int.neg_tdiv,Int.neg_neg]
  rw[e] at bd ⊢
  clear e
  have da:decide (x < 0)=true:=by simp;omega
  have db:decide (y < 0)=false:=by simp;omega
  obtain⟨A,hA⟩:∃ A,-x=A:=⟨_,rfl⟩
  have hA':0<=A/\A<=2147483648:=by omega
  have hB':1<=y:=by omega
  rw[hA] at bd ⊢
  go_enter Tryz.func160,Tryz.ntmps160
  go_wp2
  go_ret
  exact⟨rfl,rfl⟩
 ·have e:x.tdiv y=-(x / -y):=by rw[<-Int.tdiv_eq_ediv_of_nonneg ga,Int.tdiv_neg,Int.neg_neg]
  rw[e] at bd ⊢
  clear e
  have da:decide (x < 0)=false:=by simp;omega
  have db:decide (y < 0)=true:=by simp;omega
  obtain⟨B,hB⟩:∃ B,-y=B:=⟨_,rfl⟩
  have hB':1<=B:=by omega
  rw[hB] at bd ⊢
  go_enter Tryz.func160,Tryz.ntmps160
  go_wp2
  go_ret
  exact⟨rfl,rfl⟩
 ·have e:x.tdiv y=x / y:=Int.tdiv_eq_ediv_of_nonneg ga
  rw[e] at bd ⊢
  clear e
  have da:decide (x < 0)=false:=by simp;omega
  have db:decide (y < 0)=false:=by simp;omega
  have hB':1<=y:=by omega
  go_enter Tryz.func160,Tryz.ntmps160
  go_wp2
  go_ret
  exact⟨rfl,rfl⟩
theorem wide_13 (x y:Int)(w:World)(hx:W32 x)(hy:0<=y/\y<=31):Calls Tryz.prog 160 #[.int .i64 13,.int .i64 x,.int .i64 y] w fun e w'=>e=.returned (.int .i64 (x*2 ^ y.toNat))/\w'=w:=by
 have hp:=pow_bd y.toNat 31 (by omega)
 have hb:=mul_wd (a:=x) (b:=2 ^ y.toNat) hx (by omega)
 have HP:=fun w=>hide (rpower_any y w (by omega))
 obtain⟨p,hpp⟩:∃ p,(2:Int) ^ y.toNat=p:=⟨_,rfl⟩
 rw[hpp] at HP hp hb ⊢
 clear hpp
 go_enter Tryz.func160,Tryz.ntmps160
 go_wp2_with fail
 refine(HP _).out.mono ?_
 rintro e w2 ⟨rfl,hw⟩
 have hq:=hw.symm
 subst hq
 go_wp2_with fail
 go_ret
 exact⟨rfl,rfl⟩
theorem wide_14 (x y:Int)(w:World)(hx:W32 x)(hy:0<=y/\y<=31):Calls Tryz.prog 160 #[.int .i64 14,.int .i64 x,.int .i64 y] w fun e w'=>e=.returned (.int .i64 (x / 2 ^ y.toNat))/\w'=w:=by
 have hp:=pow_bd y.toNat 31 (by omega)
 have HP:=fun w=>hide (rpower_any y w (by omega))
 have HF:=fun w=>hide (rfloor_any x (2 ^ y.toNat) w (by omega) (by omega))
 obtain⟨p,hpp⟩:∃ p,(2:Int) ^ y.toNat=p:=⟨_,rfl⟩
 rw[hpp] at HP HF hp ⊢
 clear hpp
 go_enter Tryz.func160,Tryz.ntmps160
 go_wp2_with fail
 refine(HP _).out.mono ?_
 rintro e w2 ⟨rfl,hw⟩
 have hq:=hw.symm
 subst hq
 go_wp2_with fail
 refine(HF _).out.mono ?_
 rintro e w2 ⟨rfl,hw⟩
 have hq:=hw.symm
 subst hq
 go_wp2_with fail
 go_ret
 exact⟨rfl,rfl⟩
theorem lit4 (w:World)(t:TypeId)(x y z u:Int):Ints (w.alloc (.cells #[.int .i64 x,.int .i64 y,.int .i64 z,.int .i64 u] t)) (some ⟨w.heap.size,0,none⟩) 4 4 [x,y,z,u]:=by
 refine⟨rfl,Nat.le_refl _,by decide,(fun h=>by cases h),.inr ⟨_,_,rfl,fun i hi=>?_⟩⟩
 rcases(show i=0\/i=1\/i=2\/i=3 by omega) with rfl|rfl|rfl|rfl <;> simp
structure B3 (w W:World)(a b c d x y:Int):Prop where
 a:HasC W w.heap.size 58 #[.int .i64 a,.int .i64 b]
 b:HasC W (w.heap.size+1) 58 #[.int .i64 c,.int .i64 d]
 r:HasC W (w.heap.size+1+1) 58 #[.int .i64 x,.int .i64 y]
 bel:Below w.heap.size w W
theorem B3.later {w W W':World}{a b c d x y:Int}(h:B3 w W a b c d x y)(hb:Below W.heap.size W W'):B3 w W' a b c d x y:=⟨h.a.below hb,h.b.below hb,h.r.below hb,h.bel.trans (hb.mono h.bel.size)⟩
theorem B3.start (w:World)(a b c d x y:Int):B3 w (((w.alloc (cs a b)).alloc (cs c d)).alloc (cs x y)) a b c d x y:=by
 obtain⟨h1,h2,h3,h4⟩:=box2 (w:=w) (a:=a) (b:=b) (c:=c) (d:=d) (x:=x) (y:=y) (Below.refl _ _)
 exact⟨h1,h2,h3,h4⟩
theorem qcorners_any (op a b c d:Int)(g:Int->Int->Int)(w:World)(H:∀ x y w,(x=a\/x=b)->(y=c\/y=d)->Calls Tryz.prog 160 #[.int .i64 op,.int .i64 x,.int .i64 y] w fun e w'=>e=.returned (.int .i64 (g x y))/\w'=w) :
  Calls Tryz.prog 127 #[.int .i64 op,.agg #[.int .i64 a,.int .i64 b],.agg #[.int .i64 c,.int .i64 d]] w fun e w'=>e=.returned (.agg #[.int .i64 (hlo [g a c,g a d,g b c,g b d]),.int .i64 (hhi [g a c,g a d,g b c,g b d])])/\Below w.heap.size w w':=by
 have HB:=hide (B3.start w a b c d 0 0)
 have HW:=hide H
 clear H
 obtain⟨x,hx⟩:∃ x,hlo [g a c,g a d,g b c,g b d]=x:=⟨_,rfl⟩
 obtain⟨y,hy⟩:∃ y,hhi [g a c,g a d,g b c,g b d]=y:=⟨_,rfl⟩
 have HU:=hide fun W=>hull_any _ 4 4 _ _ ((lit4 W 3 (g a c) (g a d) (g b c) (g b d)).later (below_drew _)) (by decide) (by decide)
 rw[hx,hy] at HU ⊢
 clear hx hy
 go_enter Tryz.func127,Tryz.ntmps127
 go_wp2_with fail
 obtain⟨W,hW⟩:∃ W,((w.alloc (.cells #[.int .i64 a,.int .i64 b] 58)).alloc (.cells #[.int .i64 c,.int .i64 d] 58)).alloc (.cells #[.int .i64 0,.int .i64 0] 58)=W:=⟨_,rfl⟩
 rw[hW] at HB ⊢
 clear hW
 obtain⟨d0,d1,-,-⟩:=facts2 HB.out.a
 obtain⟨d2,d3,-,-⟩:=facts2 HB.out.b
 have hl0:=HB.out.a.lt
 have hl2:=HB.out.b.lt
 go_region_held3 (fun w'=>w'.cell? ⟨w.heap.size,0,none⟩=some (.int .i64 a)/\w'.cell? ⟨w.heap.size,1,none⟩=some (.int .i64 b)/\w'.cell? ⟨w.heap.size+1,0,none⟩=some (.int .i64 c)/\w'.cell? ⟨w.heap.size+1,1,none⟩=some (.int .i64 d))
  (first|exact⟨d0,d1,d2,d3⟩|exact⟨t0,t1,t2,t3⟩|exact⟨far2 (Nat.lt_succ_self _) (by omega) t0,far2 (Nat.lt_succ_self _) (by omega) t1,far2 (Nat.lt_succ_self _) (by omega) t2,far2 (Nat.lt_succ_self _) (by omega) t3⟩|exact⟨(cell_old hl0).trans d0,(cell_old hl0).trans d1,(cell_old hl2).trans d2,(cell_old hl2).trans d3⟩|go_keep)
  ((first
   | (go_at_call 160;refine(HW.out _ _ _ (by simp) (by simp)).mono ?_;rintro e' w' ⟨rfl,hw'⟩;have hq:=hw'.symm;subst hq)
   | (go_at_call 125;refine(HU.out _).mono ?_;rintro e' w2 ⟨rfl,hb2⟩;have HB9:=hide (HB.out.later (bel (bel (bel1 _ _) (below_drew _)) hb2));obtain⟨t0,t1,-,-⟩:=facts2 HB9.out.a;obtain⟨t2,t3,-,-⟩:=facts2 HB9.out.b;obtain⟨s1,s2,s3,s4⟩:=facts2 HB9.out.r)))
 go_wp2_with fail
 obtain⟨e0,e1,hB4⟩:=stored2 HB9.out.r HB9.out.bel (by omega) x y
 exact bodyPost_ret (v:=.agg #[.int .i64 x,.int .i64 y]) (by simp[results,Tryz.results127,go_sem,e0,e1]) rfl ⟨rfl,hB4⟩
def mxw (xs:List Int)(j:Nat):Nat:=(xs.take j).foldl (fun m x=>max m (wdN x)) 0
theorem mxw_succ {xs:List Int}{j:Nat}{x:Int}(hj:j < xs.length)(hx:xs.getD j 0=x):mxw xs (j+1)=max (mxw xs j) (wdN x):=by
 have e:xs[j]=x:=by simpa [List.getD,hj] using hx
 unfold mxw
 rw[List.take_succ_eq_append_getElem hj,e,List.foldl_append]
 rfl
theorem fits_iff {x:Int}{m:Nat}(hx:W32 x)(hm:m<=31):(x<=2 ^ m-1/\-(2 ^ m)<=x)↔wdN x<=m:=by
 have e:((2 ^ m:Nat):Int)=(2:Int) ^ m:=by simp
 constructor
 ·intro h
  exact wdN_least (by omega) (by rw[e];omega)
 ·intro h
  have h1:=(wdN_facts hx).2
  have h2:=(pow_mono h).1
  have e':((2 ^ wdN x:Nat):Int)=(2:Int) ^ wdN x:=by simp
  rw[e'] at h1
  omega
theorem room_any (a:Option Addr)(n cap:Nat)(xs:List Int)(w:World)(h:Ints w a n cap xs)(hn4:n<=4)(hw:∀ x ∈ xs,W32 x) :
  Calls Tryz.prog 161 #[.slice a n cap] w fun e w'=>e=.returned (.int .i64 (2 ^ mxw xs n))/\w'=w:=by
 have hl:=h.len
 have HL:=hide hl
 have H:=hide h
 have HW:=hide hw
 have hle:=h.le
 clear hl h hw
 go_enter Tryz.func161,Tryz.ntmps161
 go_wp2_with fail
 go_loop [3,4] (fun p i=>∃ j:Nat,j<=n/\i=.int .i64 j/\p=.int .i64 (2 ^ mxw xs j)/\mxw xs j<=31) (fun _ i=>n-(intOf i).toNat)
 case atStart=>exact⟨0,by omega,rfl,rfl,by simp[mxw]⟩
 case round =>
  obtain⟨j,hj,rfl,rfl,hmx⟩:=hrel
  by_cases hlt:j < n
  ·have hd1:decide ((j:Int) < (n:Int))=true:=by simp;omega
   have hj0:(0:Int)<=(j:Int):=by omega
   have hj1:(j:Int) < (n:Int):=by omega
   obtain⟨bb,off,rfl,hbb,hcell⟩:=H.out.at (by omega)
   have g1:=hcell j hlt
   clear hcell
   obtain⟨x,hx⟩:∃ x,xs.getD j 0=x:=⟨_,rfl⟩
   rw[hx] at g1
   have hwx:W32 x:=HW.out x (by rw[<-hx];simp[List.getD,HL.out,hlt])
   have f1:=mxw_succ (by rw[HL.out];exact hlt) hx
   obtain⟨M,hM⟩:∃ M,mxw xs j=M:=⟨_,rfl⟩
   rw[hM] at f1 hmx ⊢
   have hwb:=(wdN_facts hwx).1
   have F1:=hide f1
   have HWX:=hide hwx
   clear f1 hM hx hwx
   go_wp2_with fail
   go_loop [3] (fun p=>∃ m:Nat,M<=m/\m<=max M (wdN x)/\p=.int .i64 (2 ^ m)) (fun p=>2147483648-(intOf p).toNat)
   case atStart=>exact⟨M,Nat.le_refl _,by omega,rfl⟩
   case round =>
    obtain⟨m,hm1,hm2,rfl⟩:=hrel
    have hfit:=fits_iff HWX.out (show m<=31 by omega)
    have hpb:=pow_bd m 31 (by omega)
    obtain⟨p,hp⟩:∃ p,(2:Int) ^ m=p:=⟨_,rfl⟩
    rw[hp] at hfit hpb ⊢
    have HPP:=hide hp
    have HFT:=hide hfit
    have hxx:=HWX.out
    clear hp hfit
    by_cases hc1:p-1 < x
    ·have e1:decide (p-1 < x)=true:=by simp;omega
     go_wp2_with fail
     go_round
     case rel =>
      have hnf:¬wdN x<=m:=fun hh=>by have:=HFT.out.2 hh;omega
      refine⟨m+1,by omega,by omega,?_⟩
      rw[Int.pow_succ,HPP.out]
      congr 1
      omega
     case measure=>simp[intOf];omega
    ·have e1:decide (p-1 < x)=false:=by simp;omega
     by_cases hc2:x < -p
     ·have e2:decide (x < -p)=true:=by simp;omega
      go_wp2_with fail
      go_round
      case rel =>
       have hnf:¬wdN x<=m:=fun hh=>by have:=HFT.out.2 hh;omega
       refine⟨m+1,by omega,by omega,?_⟩
       rw[Int.pow_succ,HPP.out]
       congr 1
       omega
      case measure=>simp[intOf];omega
     ·have e2:decide (x < -p)=false:=by simp;omega
      have hfin:wdN x<=m:=HFT.out.1 (by omega)
      go_wp2_with fail
      go_round
      case rel =>
       refine⟨j+1,by omega,by go_num,?_,by rw[F1.out];omega⟩
       rw[F1.out,show max M (wdN x)=m by omega,HPP.out]
      case measure=>simp[intOf];omega
  ·obtain rfl:j=n:=by omega
   have hd1:decide ((j:Int) < (j:Int))=false:=by simp
   go_wp2_with fail
   go_ret
   exact⟨rfl,rfl⟩
theorem mxw4 (a b c d:Int):(2:Int) ^ mxw [a,b,c,d] 4=arP a b c d:=by
 unfold mxw arP arN
 simp
end Go.Proofs.YtimdcmponhcngaaGreat.Spn
