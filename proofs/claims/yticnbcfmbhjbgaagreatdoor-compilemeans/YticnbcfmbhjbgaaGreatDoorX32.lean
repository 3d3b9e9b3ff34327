import Derived.Test.YticnbcfmbhjbgaaGreatDoorXH
set_option maxRecDepth 100000
set_option maxHeartbeats 32000000
set_option linter.unusedVariables false
namespace Go.Proofs.Rdc
variable {P d e k x:Int}
theorem aE8 {q r:Int}(hd:0 < d)(hk:k*d=P+e)(he:0 < e)(hx:x=d*q+r)(hr0:0<=r)(hr:r < d)(hP:0 < P)(hx0:0 < x)(hs:e*x < P):q*P < x*k/\x*k < (q+1)*P:=by
 have h1:d*(x*k)=x*P+e*x:=by
  have:d*(x*k)=x*(k*d):=by rw[Int.mul_comm k d,<-Int.mul_assoc,Int.mul_comm d x,Int.mul_assoc]
  rw[this,hk,Int.mul_add,Int.mul_comm x e]
 have hxe:0 < e*x:=Int.mul_pos he hx0
 have h2:d*(q*P)=x*P-r*P:=by
  rw[<-Int.mul_assoc,<-Int.sub_mul];congr 1;omega
 have h3:d*((q+1)*P)=x*P+(d-r)*P:=by
  rw[<-Int.mul_assoc,<-Int.add_mul];congr 1;rw[Int.mul_add];omega
 have h4:0<=r*P:=Int.mul_nonneg hr0 (by omega)
 have h5:P<=(d-r)*P:=by
  have:=Int.mul_le_mul_of_nonneg_right (show (1:Int)<=d-r by omega) (show 0<=P by omega)
  omega
 constructor
 ·refine Int.lt_of_mul_lt_mul_left (a:=d) ?_ (by omega)
  omega
 ·refine Int.lt_of_mul_lt_mul_left (a:=d) ?_ (by omega)
  omega
theorem aG1 {n q:Int}(hP:0 < P)(h1:q*P<=n)(h2:n < (q+1)*P):n / P=q:=by
 have h3:=(Int.le_ediv_iff_mul_le hP).2 h1
 have h4:=(Int.ediv_lt_iff_lt_mul hP).2 h2
 omega
theorem aK4 (hd:0 < d)(hk:k*d=P+e)(he:0 < e)(hP:0 < P)(hx0:0<=x)(hs:e*x < P):x*k / P=x.tdiv d:=by
 rw[iTe hx0]
 by_cases h:x=0
 ·subst h;simp
 ·have hx:=(Int.mul_ediv_add_emod x d).symm
  obtain⟨h1,h2⟩:=aE8 hd hk he hx (Int.emod_nonneg x (by omega)) (Int.emod_lt_of_pos x hd) hP (by omega) hs
  exact aG1 hP (by omega) h2
theorem aK3 (hd:0 < d)(hk:k*d=P+e)(he:0 < e)(hP:0 < P)(hx0:x < 0)(hs:e * -x < P):x*k / P+1=x.tdiv d:=by
 have e1:x.tdiv d=-((-x) / d):=by
  rw[<-iTe (by omega),Int.neg_tdiv]
  omega
 have hx:=(Int.mul_ediv_add_emod (-x) d).symm
 obtain⟨h1,h2⟩:=aE8 hd hk he hx (Int.emod_nonneg (-x) (by omega)) (Int.emod_lt_of_pos (-x) hd) hP (by omega) hs
 rw[e1]
 have h3:x*k / P=-((-x) / d)-1:=by
  refine aG1 hP ?_ ?_
  ·have:(-(-x / d)-1)*P=-((-x / d+1)*P):=by rw[<-Int.neg_mul];congr 1;omega
   rw[this]
   rw[Int.neg_mul] at h2
   omega
  ·have:(-(-x / d)-1+1)*P=-((-x / d)*P):=by rw[<-Int.neg_mul];congr 1;omega
   rw[this]
   rw[Int.neg_mul] at h1
   omega
 omega
def mgR (size d:Int):Nat->Nat->Int × Int × Bool
 | 0,_=>(0,0,false)
 | f+1,s=>if 4611686018427387904 < (2 ^ s / d+1)*size then(0,0,false) else if ((2 ^ s / d+1)*d-2 ^ s)*size < 2 ^ s then(2 ^ s / d+1,s,true) else mgR size d f (s+1)
def mgZ (size d:Int):Int × Int × Bool:=if 2<=d/\d<=2147483647/\0<=size/\size<=2147483648 then mgR size d 63 0 else(0,0,false)
theorem nP (s:Nat):(0:Int) < 2 ^ s:=Int.pow_pos (by decide)
theorem xH {n m:Nat}(h:n<=m):(2:Int) ^ n<=2 ^ m:=by
 have:=Nat.pow_le_pow_right (show 0 < 2 by decide) h
 exact_mod_cast this
theorem bA9 (hd:0 < d)(s:Nat):0 < (2 ^ s / d+1)*d-2 ^ s/\(2 ^ s / d+1)*d-2 ^ s<=d:=by
 have h1:=Int.mul_ediv_add_emod (2 ^ s) d
 have h2:=Int.emod_nonneg (2 ^ s) (show d≠0 by omega)
 have h3:=Int.emod_lt_of_pos (2 ^ s) hd
 have h4:(2 ^ s / d+1)*d=d*(2 ^ s / d)+d:=by rw[Int.add_mul,Int.one_mul,Int.mul_comm]
 omega
theorem aOz {size d:Int}:∀(f s:Nat) {k t:Int},mgR size d f s=(k,t,true)->∃ u:Nat,t=u/\s<=u/\u < s+f/\k=2 ^ u / d+1/\(k*d-2 ^ u)*size < 2 ^ u/\k*size<=4611686018427387904
 | 0,s,k,t,h=>by simp[mgR] at h
 | f+1,s,k,t,h=>by
  unfold mgR at h
  split at h
  ·cases h
  ·rename_i h1
   split at h
   ·rename_i h2
    cases h
    exact⟨s,rfl,nLr _,by omega,rfl,h2,by omega⟩
   ·obtain⟨u,a1,a2,a3,a4⟩:=aOz f (s+1) h
    exact⟨u,a1,by omega,by omega,a4⟩
theorem aX1 {size s:Int}(h:mgZ size d=(k,s,true))(h1:-size<=x)(h2:x<=size):∃ u:Nat,s=u/\u<=62/\1<=k/\k<=4611686018427387904/\k*size<=4611686018427387904/\2<=d/\(0<=x->x*k / 2 ^ u=x.tdiv d)/\(x < 0->x*k / 2 ^ u+1=x.tdiv d):=by
 unfold mgZ at h
 split at h
 ·rename_i hm
  obtain⟨u,a1,a2,a3,a4,a5,a6⟩:=aOz 63 0 h
  have hd:0 < d:=by omega
  have hP:=nP u
  obtain⟨e1,e2⟩:=bA9 hd u
  have hk:k*d=2 ^ u+(k*d-2 ^ u):=by omega
  rw[a4] at hk a5 a6 ⊢
  have hk1:1<=(2:Int) ^ u / d+1:=by
   have:=Int.ediv_nonneg (show (0:Int)<=2 ^ u by omega) (show 0<=d by omega)
   omega
  have hk2:(2:Int) ^ u / d+1<=4611686018427387904:=by
   have hp:=xH (show u<=62 by omega)
   have e62:(2:Int) ^ 62=4611686018427387904:=by decide
   have:=Int.ediv_le_of_le_mul hd (show (2:Int) ^ u<=2305843009213693952*d by omega)
   omega
  refine⟨u,a1,by omega,hk1,hk2,a6,hm.1,fun hx=>?_,fun hx=>?_⟩
  ·refine aK4 hd hk e1 hP hx ?_
   have:=Int.mul_le_mul_of_nonneg_left h2 (show 0<=(2 ^ u / d+1)*d-2 ^ u by omega)
   omega
  ·refine aK3 hd hk e1 hP hx ?_
   have:=Int.mul_le_mul_of_nonneg_left (show -x<=size by omega) (show 0<=(2 ^ u / d+1)*d-2 ^ u by omega)
   omega
 ·cases h
end Go.Proofs.Rdc
