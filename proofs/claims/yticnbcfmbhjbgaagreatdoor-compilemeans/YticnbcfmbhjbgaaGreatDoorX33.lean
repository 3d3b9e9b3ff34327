import Derived.Test.YticnbcfmbhjbgaaGreatDoorX32
set_option maxRecDepth 100000
set_option maxHeartbeats 32000000
set_option linter.unusedVariables false
namespace Go.Proofs.Rdc
variable {f n s:Nat} {d k size:Int}
def wS (k:Int):Int:=match (List.range 31).find? (fun n=>(2:Int) ^ n==k) with|some n=>(n:Int)|none=>-1
theorem nQ (k:Int):wS k=-1\/∃ n:Nat,n<=30/\wS k=n/\k=2 ^ n:=by
 unfold wS
 cases h:(List.range 31).find? (fun n=>(2:Int) ^ n==k) with
 | none=>exact .inl rfl
 | some n =>
  right
  have h1:=List.find?_some h
  have h2:=List.mem_of_find?_eq_some h
  simp at h1 h2
  exact⟨n,by omega,rfl,h1.symm⟩
theorem aPt {m:Nat}(h:(2:Int) ^ n=2 ^ m):n=m:=by
 have h':2 ^ n=2 ^ m:=by exact_mod_cast h
 rcases Nat.lt_trichotomy n m with h1|h1|h1
 ·have:=Nat.pow_lt_pow_right (show 1 < 2 by decide) h1
  omega
 ·exact h1
 ·have:=Nat.pow_lt_pow_right (show 1 < 2 by decide) h1
  omega
theorem bBo (hn:n<=30)(h:(2:Int) ^ n=k):wS k=n:=by
 rcases nQ k with h1|⟨m,h1,h2,h3⟩
 ·exfalso
  unfold wS at h1
  cases hf:(List.range 31).find? (fun n=>(2:Int) ^ n==k) with
  | none =>
   have:=List.find?_eq_none.1 hf n (by simp;omega)
   simp[h] at this
  | some m=>rw[hf] at h1;simp at h1
 ·have:=aPt (h.trans h3)
  rw[h2,this]
theorem bBn (h:∀ n:Nat,n < 31->(2:Int) ^ n≠k):wS k=-1:=by
 rcases nQ k with h1|⟨m,h1,h2,h3⟩
 ·exact h1
 ·exact absurd h3.symm (h m (by omega))
theorem aHr (h:n<=62):(1:Int)<=2 ^ n/\(2:Int) ^ n<=4611686018427387904:=by
 have h1:=nP n
 have h2:=xH h
 have e:(2:Int) ^ 62=4611686018427387904:=by decide
 omega
theorem aTy (hd:2<=d)(hd2:d<=2147483647)(h0:0<=size)(h1:size<=2147483648)(hs:s<=62){P e E:Int}(hP:(2:Int) ^ s=P)(hk:P / d+1=k)(he:k*d-P=e)(hE:e*size=E) :
  1<=P/\P<=4611686018427387904/\1<=k/\k<=2305843009213693953/\k*d<=4611686020574871551/\0<=k*d/\0<=e/\e<=2147483647/\0<=E/\E<=4611686018427387904/\(0 < size->(4611686018427387904 / size < k↔4611686018427387904 < k*size))/\(size=0->¬4611686018427387904 < k*size):=by
 obtain⟨p1,p2⟩:=aHr hs
 obtain⟨e1,e2⟩:=bA9 (show 0 < d by omega) s
 rw[hP] at p1 p2 e1 e2
 rw[hk,he] at e1 e2
 have hq:0<=P / d:=Int.ediv_nonneg (by omega) (by omega)
 have hq2:P / d<=2305843009213693952:=Int.ediv_le_of_le_mul (by omega) (by omega)
 refine⟨p1,p2,by omega,by omega,by omega,by omega,by omega,by omega,?_,?_,fun h=>?_,fun h=>?_⟩
 ·rw[<-hE];exact Int.mul_nonneg (by omega) h0
 ·rw[<-hE]
  have:=Int.mul_le_mul (show e<=2147483647 by omega) h1 h0 (by omega)
  omega
 ·rw[Int.ediv_lt_iff_lt_mul h]
 ·rw[h,Int.mul_zero];omega
theorem aTw (h:4611686018427387904 < (2 ^ s / d+1)*size):mgR size d (f+1) s=(0,0,false):=by unfold mgR;rw[if_pos h]
theorem aTx (h:¬4611686018427387904 < (2 ^ s / d+1)*size)(h2:((2 ^ s / d+1)*d-2 ^ s)*size < 2 ^ s):mgR size d (f+1) s=(2 ^ s / d+1,(s:Int),true):=by unfold mgR;rw[if_neg h,if_pos h2]
theorem aOy (h:¬4611686018427387904 < (2 ^ s / d+1)*size)(h2:¬((2 ^ s / d+1)*d-2 ^ s)*size < 2 ^ s):mgR size d (f+1) s=mgR size d f (s+1):=by
 rw[show mgR size d (f+1) s=if 4611686018427387904 < (2 ^ s / d+1)*size then(0,0,false) else if ((2 ^ s / d+1)*d-2 ^ s)*size < 2 ^ s then(2 ^ s / d+1,(s:Int),true) else mgR size d f (s+1) from rfl,if_neg h,if_neg h2]
end Go.Proofs.Rdc
