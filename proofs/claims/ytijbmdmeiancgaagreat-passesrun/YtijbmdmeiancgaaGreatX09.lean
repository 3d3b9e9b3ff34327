import Derived.Test.YtijbmdmeiancgaaGreatXH
import Derived.Test.YtijbmdmeiancgaaGreatX08
import Derived.Test.YtijbmdmeiancgaaGreatX03
set_option maxRecDepth 100000
set_option maxHeartbeats 32000000
set_option linter.unusedVariables false
namespace Go.Proofs.Spn
open Go.RowKit Go.IntWalk
variable {a b:Int}
def iV (o:kQ)(a b:Int)(k:Nat):Int:=bw o a b-2 ^ k*bw o (a / 2 ^ k) (b / 2 ^ k)
theorem jB (o:kQ)(a b:Int):iV o a b 0=0:=by simp[iV]
theorem xM (ha:-2147483648<=a/\a<=2147483647)(k:Nat):-2147483648<=a / 2 ^ k/\a / 2 ^ k<=2147483647:=by
 have hp:(0:Int) < 2 ^ k:=Int.pow_pos (by decide)
 generalize (2:Int) ^ k=P at *
 constructor
 ·exact Int.le_ediv_of_mul_le hp (by omega)
 ·have:a / P < 2147483648:=Int.ediv_lt_of_lt_mul hp (by omega)
  omega
theorem qR (a:Int)(k:Nat):a / 2 ^ (k+1)=a / 2 ^ k / 2:=by
 rw[Int.ediv_ediv_of_nonneg (Int.le_of_lt (Int.pow_pos (by decide))),Int.pow_succ]
theorem wZ (o:kQ)(ha:-2147483648<=a/\a<=2147483647)(hb:-2147483648<=b/\b<=2147483647)(k:Nat) :
  iV o a b (k+1)=iV o a b k+o.dig (a / 2 ^ k % 2) (b / 2 ^ k % 2)*2 ^ k:=by
 have h1:=xM ha k
 have h2:=xM hb k
 have h:=mY o (a / 2 ^ k) (b / 2 ^ k) (by omega) (by omega)
 unfold iV
 rw[qR,qR,h,Int.pow_succ,Int.mul_add,Int.mul_comm (o.dig _ _),Int.mul_assoc]
 omega
theorem fJ (o:kQ){a b:Int}(ha:-2147483648<=a/\a<=2147483647)(hb:-2147483648<=b/\b<=2147483647):∀ k:Nat,0<=iV o a b k/\iV o a b k < 2 ^ k
 | 0=>by rw[jB];decide
 | k+1=>by
  have ih:=fJ o ha hb k
  have hd:=aC6 o (a / 2 ^ k) (b / 2 ^ k)
  rw[wZ o ha hb,Int.pow_succ]
  generalize (2:Int) ^ k=P at *
  rcases(show o.dig (a / P % 2) (b / P % 2)=0\/o.dig (a / P % 2) (b / P % 2)=1 by omega) with e|e <;> rw[e] <;> omega
theorem aIs (ha:-2147483648<=a/\a<=2147483647):a / 2 ^ 32=0\/a / 2 ^ 32=-1:=by omega
theorem gQ (o:kQ)(ha:-2147483648<=a/\a<=2147483647)(hb:-2147483648<=b/\b<=2147483647) :
  (2147483648<=iV o a b 32/\iV o a b 32-4294967296=bw o a b)\/(iV o a b 32 < 2147483648/\iV o a b 32=bw o a b):=by
 have h1:=aR0 o ha hb
 have h2:bw o (a / 2 ^ 32) (b / 2 ^ 32)=0\/bw o (a / 2 ^ 32) (b / 2 ^ 32)=-1:=by
  rcases aIs ha with e|e <;> rcases aIs hb with f|f <;> rw[e,f] <;> rcases o with _|_|_ <;> decide
 unfold iV
 omega
def up (a:Int):Int:=if a < 0 then a+4294967296 else a
theorem aRe (ha:-2147483648<=a/\a<=2147483647):0<=up a/\up a<=4294967295:=by unfold up;split <;> omega
theorem aIx (ha:-2147483648<=a/\a<=2147483647)(k:Nat)(hk:k < 32):up a / 2 ^ k % 2=a / 2 ^ k % 2:=by
 unfold up
 split
 ·have e:(4294967296:Int)=2 ^ k*(2*2 ^ (31-k)):=by
   rw[show (4294967296:Int)=2 ^ (k+(1+(31-k))) by rw[show k+(1+(31-k))=32 by omega];decide,Int.pow_add,Int.pow_add]
   rfl
  rw[e,Int.add_mul_ediv_left _ _ (Int.ne_of_gt (Int.pow_pos (by decide))),Int.add_mul_emod_self_left]
 ·rfl
theorem aAp (ha:-2147483648<=a/\a<=2147483647)(k:Nat):0<=up a / 2 ^ k/\up a / 2 ^ k<=4294967295:=by
 have h:=aRe ha
 have hp:(0:Int) < 2 ^ k:=Int.pow_pos (by decide)
 have:=Int.ediv_le_self (2 ^ k) h.1
 exact⟨Int.ediv_nonneg h.1 (Int.le_of_lt hp),by omega⟩
theorem dY (o:kQ)(ha:-2147483648<=a/\a<=2147483647)(hb:-2147483648<=b/\b<=2147483647)(k:Nat)(hk:k < 32) :
  ∃ x y t p q m E,x=up a / 2 ^ k/\y=up b / 2 ^ k/\t=(2:Int) ^ k/\x % 2=p/\y % 2=q/\p*q=m/\o.dig p q*t=E/\iV o a b (k+1)=iV o a b k+E/\x / 2=up a / 2 ^ (k+1)/\y / 2=up b / 2 ^ (k+1)/\2*t=(2:Int) ^ (k+1) /\
   (0<=x/\x<=4294967295)/\(0<=y/\y<=4294967295)/\(1<=t/\t<=2147483648)/\(0<=p/\p<=1)/\(0<=q/\q<=1)/\(0<=m/\m<=1)/\(0<=E/\E<=2147483648)/\(0<=iV o a b k/\iV o a b k<=4294967296):=by
 have h1:=gK k 31 (by omega)
 have h2:=aAp ha k
 have h3:=aAp hb k
 have h4:=wZ o ha hb k
 rw[<-aIx ha k hk,<-aIx hb k hk] at h4
 have h5:=fJ o ha hb k
 have hd:=aC6 o (up a / 2 ^ k) (up b / 2 ^ k)
 refine⟨_,_,_,_,_,_,_,rfl,rfl,rfl,rfl,rfl,rfl,rfl,h4,(qR _ _).symm,(qR _ _).symm,by rw[Int.pow_succ];omega,h2,h3,⟨h1.1,by omega⟩,by omega,by omega,?_,?_,by omega⟩
 ·rcases jD (up a / 2 ^ k) with e|e <;> rcases jD (up b / 2 ^ k) with f|f <;> rw[e,f] <;> decide
 ·rcases(show o.dig (up a / 2 ^ k % 2) (up b / 2 ^ k % 2)=0\/o.dig (up a / 2 ^ k % 2) (up b / 2 ^ k % 2)=1 by omega) with e|e <;> rw[e] <;> omega
end Go.Proofs.Spn
namespace Go.Proofs.Spn
open Go.RowKit Go.IntWalk
theorem rZ (a b:Int)(w:World)(ha:-2147483648<=a/\a<=2147483647)(hb:-2147483648<=b/\b<=2147483647)(sa:a < 0)(sb:b < 0) :
  Calls Tryz.prog 123 #[.int .i64 15,.int .i64 a,.int .i64 b] w fun e w'=>e=.returned (.int .i64 (bw .and a b))/\w'=w:=by
 have UA:=aC (show a+4294967296=up a by unfold up;split <;> omega)
 have UB:=aC (show b+4294967296=up b by unfold up;split <;> omega)
 have RD:=aC (fun k h=>dY .and ha hb k h)
 have EN:=aC (gQ .and ha hb)
 go_enter Tryz.func123,Tryz.ntmps123
 go_wp2_with fail
 go_loop [7,8,9,10,11] (fun x y o t i=>∃(k:Nat) (X Y O T:Int),k<=32/\x=.int .i64 X/\y=.int .i64 Y/\o=.int .i64 O/\t=.int .i64 T/\i=.int .i64 k/\X=up a / 2 ^ k/\Y=up b / 2 ^ k/\O=iV .and a b k/\T=2 ^ k) (fun _ _ _ _ i=>32-(intOf i).toNat)
 case atStart=>exact⟨0,_,_,_,_,by omega,rfl,rfl,rfl,rfl,rfl,by simpa using UA.o,by simpa using UB.o,(jB _ _ _).symm,rfl⟩
 case round =>
  obtain⟨k,X,Y,O,T,hk,rfl,rfl,rfl,rfl,rfl,hX,hY,hO,hT⟩:=hrel
  by_cases hlt:k < 32
  ·obtain⟨x,y,t,p,q,m,E,e1,e2,e3,e4,e5,e6,e7,e8,e9,e10,e11,b1,b2,b3,b4,b5,b6,b7,b8⟩:=RD.o k hlt
   obtain rfl:X=x:=by rw[hX,e1]
   obtain rfl:Y=y:=by rw[hY,e2]
   obtain rfl:T=t:=by rw[hT,e3]
   rw[<-hO] at e8 b8
   have e7':m*T=E:=by rw[<-e7,<-e6];rfl
   have E8:=aC e8
   have E9:=aC e9
   have E10:=aC e10
   have E11:=aC e11
   clear e1 e2 e3 e7 e8 e9 e10 e11 hX hY hO hT sa sb UA UB RD EN
   go_wp2_with fail
   go_round
   case rel=>exact⟨k+1,_,_,_,_,by omega,rfl,rfl,rfl,rfl,by go_num,E9.o,E10.o,E8.o.symm,E11.o⟩
   case measure=>simp[intOf];omega
  ·obtain rfl:k=32:=by omega
   have hN:=EN.o
   rw[<-hO] at hN
   have b0:=aC (fJ .and ha hb 32)
   have b1:0<=O/\O < 4294967296:=by have:=b0.o;rw[<-hO] at this;omega
   clear hX hY hO hT UA UB RD EN b0 sa sb
   rcases hN with⟨h1,h2⟩|⟨h1,h2⟩
   ·have H2:=aC h2
    clear h2
    go_wp2_with fail
    go_ret
    exact⟨aN H2.o,rfl⟩
   ·have H2:=aC h2
    clear h2
    go_wp2_with fail
    go_ret
    exact⟨aN H2.o,rfl⟩
theorem rR (a b:Int)(w:World)(ha:-2147483648<=a/\a<=2147483647)(hb:-2147483648<=b/\b<=2147483647)(sa:a < 0)(sb:0<=b) :
  Calls Tryz.prog 123 #[.int .i64 15,.int .i64 a,.int .i64 b] w fun e w'=>e=.returned (.int .i64 (bw .and a b))/\w'=w:=by
 have UA:=aC (show a+4294967296=up a by unfold up;split <;> omega)
 have UB:=aC (show b=up b by unfold up;split <;> omega)
 have RD:=aC (fun k h=>dY .and ha hb k h)
 have EN:=aC (gQ .and ha hb)
 go_enter Tryz.func123,Tryz.ntmps123
 go_wp2_with fail
 go_loop [7,8,9,10,11] (fun x y o t i=>∃(k:Nat) (X Y O T:Int),k<=32/\x=.int .i64 X/\y=.int .i64 Y/\o=.int .i64 O/\t=.int .i64 T/\i=.int .i64 k/\X=up a / 2 ^ k/\Y=up b / 2 ^ k/\O=iV .and a b k/\T=2 ^ k) (fun _ _ _ _ i=>32-(intOf i).toNat)
 case atStart=>exact⟨0,_,_,_,_,by omega,rfl,rfl,rfl,rfl,rfl,by simpa using UA.o,by simpa using UB.o,(jB _ _ _).symm,rfl⟩
 case round =>
  obtain⟨k,X,Y,O,T,hk,rfl,rfl,rfl,rfl,rfl,hX,hY,hO,hT⟩:=hrel
  by_cases hlt:k < 32
  ·obtain⟨x,y,t,p,q,m,E,e1,e2,e3,e4,e5,e6,e7,e8,e9,e10,e11,b1,b2,b3,b4,b5,b6,b7,b8⟩:=RD.o k hlt
   obtain rfl:X=x:=by rw[hX,e1]
   obtain rfl:Y=y:=by rw[hY,e2]
   obtain rfl:T=t:=by rw[hT,e3]
   rw[<-hO] at e8 b8
   have e7':m*T=E:=by rw[<-e7,<-e6];rfl
   have E8:=aC e8
   have E9:=aC e9
   have E10:=aC e10
   have E11:=aC e11
   clear e1 e2 e3 e7 e8 e9 e10 e11 hX hY hO hT sa sb UA UB RD EN
   go_wp2_with fail
   go_round
   case rel=>exact⟨k+1,_,_,_,_,by omega,rfl,rfl,rfl,rfl,by go_num,E9.o,E10.o,E8.o.symm,E11.o⟩
   case measure=>simp[intOf];omega
  ·obtain rfl:k=32:=by omega
   have hN:=EN.o
   rw[<-hO] at hN
   have b0:=aC (fJ .and ha hb 32)
   have b1:0<=O/\O < 4294967296:=by have:=b0.o;rw[<-hO] at this;omega
   clear hX hY hO hT UA UB RD EN b0 sa sb
   rcases hN with⟨h1,h2⟩|⟨h1,h2⟩
   ·have H2:=aC h2
    clear h2
    go_wp2_with fail
    go_ret
    exact⟨aN H2.o,rfl⟩
   ·have H2:=aC h2
    clear h2
    go_wp2_with fail
    go_ret
    exact⟨aN H2.o,rfl⟩
theorem rE (a b:Int)(w:World)(ha:-2147483648<=a/\a<=2147483647)(hb:-2147483648<=b/\b<=2147483647)(sa:0<=a)(sb:b < 0) :
  Calls Tryz.prog 123 #[.int .i64 15,.int .i64 a,.int .i64 b] w fun e w'=>e=.returned (.int .i64 (bw .and a b))/\w'=w:=by
 have UA:=aC (show a=up a by unfold up;split <;> omega)
 have UB:=aC (show b+4294967296=up b by unfold up;split <;> omega)
 have RD:=aC (fun k h=>dY .and ha hb k h)
 have EN:=aC (gQ .and ha hb)
 go_enter Tryz.func123,Tryz.ntmps123
 go_wp2_with fail
 go_loop [7,8,9,10,11] (fun x y o t i=>∃(k:Nat) (X Y O T:Int),k<=32/\x=.int .i64 X/\y=.int .i64 Y/\o=.int .i64 O/\t=.int .i64 T/\i=.int .i64 k/\X=up a / 2 ^ k/\Y=up b / 2 ^ k/\O=iV .and a b k/\T=2 ^ k) (fun _ _ _ _ i=>32-(intOf i).toNat)
 case atStart=>exact⟨0,_,_,_,_,by omega,rfl,rfl,rfl,rfl,rfl,by simpa using UA.o,by simpa using UB.o,(jB _ _ _).symm,rfl⟩
 case round =>
  obtain⟨k,X,Y,O,T,hk,rfl,rfl,rfl,rfl,rfl,hX,hY,hO,hT⟩:=hrel
  by_cases hlt:k < 32
  ·obtain⟨x,y,t,p,q,m,E,e1,e2,e3,e4,e5,e6,e7,e8,e9,e10,e11,b1,b2,b3,b4,b5,b6,b7,b8⟩:=RD.o k hlt
   obtain rfl:X=x:=by rw[hX,e1]
   obtain rfl:Y=y:=by rw[hY,e2]
   obtain rfl:T=t:=by rw[hT,e3]
   rw[<-hO] at e8 b8
   have e7':m*T=E:=by rw[<-e7,<-e6];rfl
   have E8:=aC e8
   have E9:=aC e9
   have E10:=aC e10
   have E11:=aC e11
   clear e1 e2 e3 e7 e8 e9 e10 e11 hX hY hO hT sa sb UA UB RD EN
   go_wp2_with fail
   go_round
   case rel=>exact⟨k+1,_,_,_,_,by omega,rfl,rfl,rfl,rfl,by go_num,E9.o,E10.o,E8.o.symm,E11.o⟩
   case measure=>simp[intOf];omega
  ·obtain rfl:k=32:=by omega
   have hN:=EN.o
   rw[<-hO] at hN
   have b0:=aC (fJ .and ha hb 32)
   have b1:0<=O/\O < 4294967296:=by have:=b0.o;rw[<-hO] at this;omega
   clear hX hY hO hT UA UB RD EN b0 sa sb
   rcases hN with⟨h1,h2⟩|⟨h1,h2⟩
   ·have H2:=aC h2
    clear h2
    go_wp2_with fail
    go_ret
    exact⟨aN H2.o,rfl⟩
   ·have H2:=aC h2
    clear h2
    go_wp2_with fail
    go_ret
    exact⟨aN H2.o,rfl⟩
theorem rX (a b:Int)(w:World)(ha:-2147483648<=a/\a<=2147483647)(hb:-2147483648<=b/\b<=2147483647)(sa:0<=a)(sb:0<=b) :
  Calls Tryz.prog 123 #[.int .i64 15,.int .i64 a,.int .i64 b] w fun e w'=>e=.returned (.int .i64 (bw .and a b))/\w'=w:=by
 have UA:=aC (show a=up a by unfold up;split <;> omega)
 have UB:=aC (show b=up b by unfold up;split <;> omega)
 have RD:=aC (fun k h=>dY .and ha hb k h)
 have EN:=aC (gQ .and ha hb)
 go_enter Tryz.func123,Tryz.ntmps123
 go_wp2_with fail
 go_loop [7,8,9,10,11] (fun x y o t i=>∃(k:Nat) (X Y O T:Int),k<=32/\x=.int .i64 X/\y=.int .i64 Y/\o=.int .i64 O/\t=.int .i64 T/\i=.int .i64 k/\X=up a / 2 ^ k/\Y=up b / 2 ^ k/\O=iV .and a b k/\T=2 ^ k) (fun _ _ _ _ i=>32-(intOf i).toNat)
 case atStart=>exact⟨0,_,_,_,_,by omega,rfl,rfl,rfl,rfl,rfl,by simpa using UA.o,by simpa using UB.o,(jB _ _ _).symm,rfl⟩
 case round =>
  obtain⟨k,X,Y,O,T,hk,rfl,rfl,rfl,rfl,rfl,hX,hY,hO,hT⟩:=hrel
  by_cases hlt:k < 32
  ·obtain⟨x,y,t,p,q,m,E,e1,e2,e3,e4,e5,e6,e7,e8,e9,e10,e11,b1,b2,b3,b4,b5,b6,b7,b8⟩:=RD.o k hlt
   obtain rfl:X=x:=by rw[hX,e1]
   obtain rfl:Y=y:=by rw[hY,e2]
   obtain rfl:T=t:=by rw[hT,e3]
   rw[<-hO] at e8 b8
   have e7':m*T=E:=by rw[<-e7,<-e6];rfl
   have E8:=aC e8
   have E9:=aC e9
   have E10:=aC e10
   have E11:=aC e11
   clear e1 e2 e3 e7 e8 e9 e10 e11 hX hY hO hT sa sb UA UB RD EN
   go_wp2_with fail
   go_round
   case rel=>exact⟨k+1,_,_,_,_,by omega,rfl,rfl,rfl,rfl,by go_num,E9.o,E10.o,E8.o.symm,E11.o⟩
   case measure=>simp[intOf];omega
  ·obtain rfl:k=32:=by omega
   have hN:=EN.o
   rw[<-hO] at hN
   have b0:=aC (fJ .and ha hb 32)
   have b1:0<=O/\O < 4294967296:=by have:=b0.o;rw[<-hO] at this;omega
   clear hX hY hO hT UA UB RD EN b0 sa sb
   rcases hN with⟨h1,h2⟩|⟨h1,h2⟩
   ·have H2:=aC h2
    clear h2
    go_wp2_with fail
    go_ret
    exact⟨aN H2.o,rfl⟩
   ·have H2:=aC h2
    clear h2
    go_wp2_with fail
    go_ret
    exact⟨aN H2.o,rfl⟩
theorem sZ (a b:Int)(w:World)(ha:-2147483648<=a/\a<=2147483647)(hb:-2147483648<=b/\b<=2147483647)(sa:a < 0)(sb:b < 0) :
  Calls Tryz.prog 123 #[.int .i64 16,.int .i64 a,.int .i64 b] w fun e w'=>e=.returned (.int .i64 (bw .or a b))/\w'=w:=by
 have UA:=aC (show a+4294967296=up a by unfold up;split <;> omega)
 have UB:=aC (show b+4294967296=up b by unfold up;split <;> omega)
 have RD:=aC (fun k h=>dY .or ha hb k h)
 have EN:=aC (gQ .or ha hb)
 go_enter Tryz.func123,Tryz.ntmps123
 go_wp2_with fail
 go_loop [7,8,9,10,11] (fun x y o t i=>∃(k:Nat) (X Y O T:Int),k<=32/\x=.int .i64 X/\y=.int .i64 Y/\o=.int .i64 O/\t=.int .i64 T/\i=.int .i64 k/\X=up a / 2 ^ k/\Y=up b / 2 ^ k/\O=iV .or a b k/\T=2 ^ k) (fun _ _ _ _ i=>32-(intOf i).toNat)
 case atStart=>exact⟨0,_,_,_,_,by omega,rfl,rfl,rfl,rfl,rfl,by simpa using UA.o,by simpa using UB.o,(jB _ _ _).symm,rfl⟩
 case round =>
  obtain⟨k,X,Y,O,T,hk,rfl,rfl,rfl,rfl,rfl,hX,hY,hO,hT⟩:=hrel
  by_cases hlt:k < 32
  ·obtain⟨x,y,t,p,q,m,E,e1,e2,e3,e4,e5,e6,e7,e8,e9,e10,e11,b1,b2,b3,b4,b5,b6,b7,b8⟩:=RD.o k hlt
   obtain rfl:X=x:=by rw[hX,e1]
   obtain rfl:Y=y:=by rw[hY,e2]
   obtain rfl:T=t:=by rw[hT,e3]
   rw[<-hO] at e8 b8
   have e7':(p+q-m)*T=E:=by rw[<-e7,<-e6];rfl
   have E8:=aC e8
   have E9:=aC e9
   have E10:=aC e10
   have E11:=aC e11
   clear e1 e2 e3 e7 e8 e9 e10 e11 hX hY hO hT sa sb UA UB RD EN
   go_wp2_with fail
   go_round
   case rel=>exact⟨k+1,_,_,_,_,by omega,rfl,rfl,rfl,rfl,by go_num,E9.o,E10.o,E8.o.symm,E11.o⟩
   case measure=>simp[intOf];omega
  ·obtain rfl:k=32:=by omega
   have hN:=EN.o
   rw[<-hO] at hN
   have b0:=aC (fJ .or ha hb 32)
   have b1:0<=O/\O < 4294967296:=by have:=b0.o;rw[<-hO] at this;omega
   clear hX hY hO hT UA UB RD EN b0 sa sb
   rcases hN with⟨h1,h2⟩|⟨h1,h2⟩
   ·have H2:=aC h2
    clear h2
    go_wp2_with fail
    go_ret
    exact⟨aN H2.o,rfl⟩
   ·have H2:=aC h2
    clear h2
    go_wp2_with fail
    go_ret
    exact⟨aN H2.o,rfl⟩
theorem sW (a b:Int)(w:World)(ha:-2147483648<=a/\a<=2147483647)(hb:-2147483648<=b/\b<=2147483647)(sa:a < 0)(sb:0<=b) :
  Calls Tryz.prog 123 #[.int .i64 16,.int .i64 a,.int .i64 b] w fun e w'=>e=.returned (.int .i64 (bw .or a b))/\w'=w:=by
 have UA:=aC (show a+4294967296=up a by unfold up;split <;> omega)
 have UB:=aC (show b=up b by unfold up;split <;> omega)
 have RD:=aC (fun k h=>dY .or ha hb k h)
 have EN:=aC (gQ .or ha hb)
 go_enter Tryz.func123,Tryz.ntmps123
 go_wp2_with fail
 go_loop [7,8,9,10,11] (fun x y o t i=>∃(k:Nat) (X Y O T:Int),k<=32/\x=.int .i64 X/\y=.int .i64 Y/\o=.int .i64 O/\t=.int .i64 T/\i=.int .i64 k/\X=up a / 2 ^ k/\Y=up b / 2 ^ k/\O=iV .or a b k/\T=2 ^ k) (fun _ _ _ _ i=>32-(intOf i).toNat)
 case atStart=>exact⟨0,_,_,_,_,by omega,rfl,rfl,rfl,rfl,rfl,by simpa using UA.o,by simpa using UB.o,(jB _ _ _).symm,rfl⟩
 case round =>
  obtain⟨k,X,Y,O,T,hk,rfl,rfl,rfl,rfl,rfl,hX,hY,hO,hT⟩:=hrel
  by_cases hlt:k < 32
  ·obtain⟨x,y,t,p,q,m,E,e1,e2,e3,e4,e5,e6,e7,e8,e9,e10,e11,b1,b2,b3,b4,b5,b6,b7,b8⟩:=RD.o k hlt
   obtain rfl:X=x:=by rw[hX,e1]
   obtain rfl:Y=y:=by rw[hY,e2]
   obtain rfl:T=t:=by rw[hT,e3]
   rw[<-hO] at e8 b8
   have e7':(p+q-m)*T=E:=by rw[<-e7,<-e6];rfl
   have E8:=aC e8
   have E9:=aC e9
   have E10:=aC e10
   have E11:=aC e11
   clear e1 e2 e3 e7 e8 e9 e10 e11 hX hY hO hT sa sb UA UB RD EN
   go_wp2_with fail
   go_round
   case rel=>exact⟨k+1,_,_,_,_,by omega,rfl,rfl,rfl,rfl,by go_num,E9.o,E10.o,E8.o.symm,E11.o⟩
   case measure=>simp[intOf];omega
  ·obtain rfl:k=32:=by omega
   have hN:=EN.o
   rw[<-hO] at hN
   have b0:=aC (fJ .or ha hb 32)
   have b1:0<=O/\O < 4294967296:=by have:=b0.o;rw[<-hO] at this;omega
   clear hX hY hO hT UA UB RD EN b0 sa sb
   rcases hN with⟨h1,h2⟩|⟨h1,h2⟩
   ·have H2:=aC h2
    clear h2
    go_wp2_with fail
    go_ret
    exact⟨aN H2.o,rfl⟩
   ·have H2:=aC h2
    clear h2
    go_wp2_with fail
    go_ret
    exact⟨aN H2.o,rfl⟩
theorem sV (a b:Int)(w:World)(ha:-2147483648<=a/\a<=2147483647)(hb:-2147483648<=b/\b<=2147483647)(sa:0<=a)(sb:b < 0) :
  Calls Tryz.prog 123 #[.int .i64 16,.int .i64 a,.int .i64 b] w fun e w'=>e=.returned (.int .i64 (bw .or a b))/\w'=w:=by
 have UA:=aC (show a=up a by unfold up;split <;> omega)
 have UB:=aC (show b+4294967296=up b by unfold up;split <;> omega)
 have RD:=aC (fun k h=>dY .or ha hb k h)
 have EN:=aC (gQ .or ha hb)
 go_enter Tryz.func123,Tryz.ntmps123
 go_wp2_with fail
 go_loop [7,8,9,10,11] (fun x y o t i=>∃(k:Nat) (X Y O T:Int),k<=32/\x=.int .i64 X/\y=.int .i64 Y/\o=.int .i64 O/\t=.int .i64 T/\i=.int .i64 k/\X=up a / 2 ^ k/\Y=up b / 2 ^ k/\O=iV .or a b k/\T=2 ^ k) (fun _ _ _ _ i=>32-(intOf i).toNat)
 case atStart=>exact⟨0,_,_,_,_,by omega,rfl,rfl,rfl,rfl,rfl,by simpa using UA.o,by simpa using UB.o,(jB _ _ _).symm,rfl⟩
 case round =>
  obtain⟨k,X,Y,O,T,hk,rfl,rfl,rfl,rfl,rfl,hX,hY,hO,hT⟩:=hrel
  by_cases hlt:k < 32
  ·obtain⟨x,y,t,p,q,m,E,e1,e2,e3,e4,e5,e6,e7,e8,e9,e10,e11,b1,b2,b3,b4,b5,b6,b7,b8⟩:=RD.o k hlt
   obtain rfl:X=x:=by rw[hX,e1]
   obtain rfl:Y=y:=by rw[hY,e2]
   obtain rfl:T=t:=by rw[hT,e3]
   rw[<-hO] at e8 b8
   have e7':(p+q-m)*T=E:=by rw[<-e7,<-e6];rfl
   have E8:=aC e8
   have E9:=aC e9
   have E10:=aC e10
   have E11:=aC e11
   clear e1 e2 e3 e7 e8 e9 e10 e11 hX hY hO hT sa sb UA UB RD EN
   go_wp2_with fail
   go_round
   case rel=>exact⟨k+1,_,_,_,_,by omega,rfl,rfl,rfl,rfl,by go_num,E9.o,E10.o,E8.o.symm,E11.o⟩
   case measure=>simp[intOf];omega
  ·obtain rfl:k=32:=by omega
   have hN:=EN.o
   rw[<-hO] at hN
   have b0:=aC (fJ .or ha hb 32)
   have b1:0<=O/\O < 4294967296:=by have:=b0.o;rw[<-hO] at this;omega
   clear hX hY hO hT UA UB RD EN b0 sa sb
   rcases hN with⟨h1,h2⟩|⟨h1,h2⟩
   ·have H2:=aC h2
    clear h2
    go_wp2_with fail
    go_ret
    exact⟨aN H2.o,rfl⟩
   ·have H2:=aC h2
    clear h2
    go_wp2_with fail
    go_ret
    exact⟨aN H2.o,rfl⟩
theorem tC (a b:Int)(w:World)(ha:-2147483648<=a/\a<=2147483647)(hb:-2147483648<=b/\b<=2147483647)(sa:0<=a)(sb:0<=b) :
  Calls Tryz.prog 123 #[.int .i64 16,.int .i64 a,.int .i64 b] w fun e w'=>e=.returned (.int .i64 (bw .or a b))/\w'=w:=by
 have UA:=aC (show a=up a by unfold up;split <;> omega)
 have UB:=aC (show b=up b by unfold up;split <;> omega)
 have RD:=aC (fun k h=>dY .or ha hb k h)
 have EN:=aC (gQ .or ha hb)
 go_enter Tryz.func123,Tryz.ntmps123
 go_wp2_with fail
 go_loop [7,8,9,10,11] (fun x y o t i=>∃(k:Nat) (X Y O T:Int),k<=32/\x=.int .i64 X/\y=.int .i64 Y/\o=.int .i64 O/\t=.int .i64 T/\i=.int .i64 k/\X=up a / 2 ^ k/\Y=up b / 2 ^ k/\O=iV .or a b k/\T=2 ^ k) (fun _ _ _ _ i=>32-(intOf i).toNat)
 case atStart=>exact⟨0,_,_,_,_,by omega,rfl,rfl,rfl,rfl,rfl,by simpa using UA.o,by simpa using UB.o,(jB _ _ _).symm,rfl⟩
 case round =>
  obtain⟨k,X,Y,O,T,hk,rfl,rfl,rfl,rfl,rfl,hX,hY,hO,hT⟩:=hrel
  by_cases hlt:k < 32
  ·obtain⟨x,y,t,p,q,m,E,e1,e2,e3,e4,e5,e6,e7,e8,e9,e10,e11,b1,b2,b3,b4,b5,b6,b7,b8⟩:=RD.o k hlt
   obtain rfl:X=x:=by rw[hX,e1]
   obtain rfl:Y=y:=by rw[hY,e2]
   obtain rfl:T=t:=by rw[hT,e3]
   rw[<-hO] at e8 b8
   have e7':(p+q-m)*T=E:=by rw[<-e7,<-e6];rfl
   have E8:=aC e8
   have E9:=aC e9
   have E10:=aC e10
   have E11:=aC e11
   clear e1 e2 e3 e7 e8 e9 e10 e11 hX hY hO hT sa sb UA UB RD EN
   go_wp2_with fail
   go_round
   case rel=>exact⟨k+1,_,_,_,_,by omega,rfl,rfl,rfl,rfl,by go_num,E9.o,E10.o,E8.o.symm,E11.o⟩
   case measure=>simp[intOf];omega
  ·obtain rfl:k=32:=by omega
   have hN:=EN.o
   rw[<-hO] at hN
   have b0:=aC (fJ .or ha hb 32)
   have b1:0<=O/\O < 4294967296:=by have:=b0.o;rw[<-hO] at this;omega
   clear hX hY hO hT UA UB RD EN b0 sa sb
   rcases hN with⟨h1,h2⟩|⟨h1,h2⟩
   ·have H2:=aC h2
    clear h2
    go_wp2_with fail
    go_ret
    exact⟨aN H2.o,rfl⟩
   ·have H2:=aC h2
    clear h2
    go_wp2_with fail
    go_ret
    exact⟨aN H2.o,rfl⟩
theorem sF (a b:Int)(w:World)(ha:-2147483648<=a/\a<=2147483647)(hb:-2147483648<=b/\b<=2147483647)(sa:a < 0)(sb:b < 0) :
  Calls Tryz.prog 123 #[.int .i64 17,.int .i64 a,.int .i64 b] w fun e w'=>e=.returned (.int .i64 (bw .xor a b))/\w'=w:=by
 have UA:=aC (show a+4294967296=up a by unfold up;split <;> omega)
 have UB:=aC (show b+4294967296=up b by unfold up;split <;> omega)
 have RD:=aC (fun k h=>dY .xor ha hb k h)
 have EN:=aC (gQ .xor ha hb)
 go_enter Tryz.func123,Tryz.ntmps123
 go_wp2_with fail
 go_loop [7,8,9,10,11] (fun x y o t i=>∃(k:Nat) (X Y O T:Int),k<=32/\x=.int .i64 X/\y=.int .i64 Y/\o=.int .i64 O/\t=.int .i64 T/\i=.int .i64 k/\X=up a / 2 ^ k/\Y=up b / 2 ^ k/\O=iV .xor a b k/\T=2 ^ k) (fun _ _ _ _ i=>32-(intOf i).toNat)
 case atStart=>exact⟨0,_,_,_,_,by omega,rfl,rfl,rfl,rfl,rfl,by simpa using UA.o,by simpa using UB.o,(jB _ _ _).symm,rfl⟩
 case round =>
  obtain⟨k,X,Y,O,T,hk,rfl,rfl,rfl,rfl,rfl,hX,hY,hO,hT⟩:=hrel
  by_cases hlt:k < 32
  ·obtain⟨x,y,t,p,q,m,E,e1,e2,e3,e4,e5,e6,e7,e8,e9,e10,e11,b1,b2,b3,b4,b5,b6,b7,b8⟩:=RD.o k hlt
   obtain rfl:X=x:=by rw[hX,e1]
   obtain rfl:Y=y:=by rw[hY,e2]
   obtain rfl:T=t:=by rw[hT,e3]
   rw[<-hO] at e8 b8
   have e7':(p+q) % 2*T=E:=by rw[<-e7];rfl
   have E8:=aC e8
   have E9:=aC e9
   have E10:=aC e10
   have E11:=aC e11
   clear e1 e2 e3 e7 e8 e9 e10 e11 hX hY hO hT sa sb UA UB RD EN
   go_wp2_with fail
   go_round
   case rel=>exact⟨k+1,_,_,_,_,by omega,rfl,rfl,rfl,rfl,by go_num,E9.o,E10.o,E8.o.symm,E11.o⟩
   case measure=>simp[intOf];omega
  ·obtain rfl:k=32:=by omega
   have hN:=EN.o
   rw[<-hO] at hN
   have b0:=aC (fJ .xor ha hb 32)
   have b1:0<=O/\O < 4294967296:=by have:=b0.o;rw[<-hO] at this;omega
   clear hX hY hO hT UA UB RD EN b0 sa sb
   rcases hN with⟨h1,h2⟩|⟨h1,h2⟩
   ·have H2:=aC h2
    clear h2
    go_wp2_with fail
    go_ret
    exact⟨aN H2.o,rfl⟩
   ·have H2:=aC h2
    clear h2
    go_wp2_with fail
    go_ret
    exact⟨aN H2.o,rfl⟩
theorem rU (a b:Int)(w:World)(ha:-2147483648<=a/\a<=2147483647)(hb:-2147483648<=b/\b<=2147483647)(sa:a < 0)(sb:0<=b) :
  Calls Tryz.prog 123 #[.int .i64 17,.int .i64 a,.int .i64 b] w fun e w'=>e=.returned (.int .i64 (bw .xor a b))/\w'=w:=by
 have UA:=aC (show a+4294967296=up a by unfold up;split <;> omega)
 have UB:=aC (show b=up b by unfold up;split <;> omega)
 have RD:=aC (fun k h=>dY .xor ha hb k h)
 have EN:=aC (gQ .xor ha hb)
 go_enter Tryz.func123,Tryz.ntmps123
 go_wp2_with fail
 go_loop [7,8,9,10,11] (fun x y o t i=>∃(k:Nat) (X Y O T:Int),k<=32/\x=.int .i64 X/\y=.int .i64 Y/\o=.int .i64 O/\t=.int .i64 T/\i=.int .i64 k/\X=up a / 2 ^ k/\Y=up b / 2 ^ k/\O=iV .xor a b k/\T=2 ^ k) (fun _ _ _ _ i=>32-(intOf i).toNat)
 case atStart=>exact⟨0,_,_,_,_,by omega,rfl,rfl,rfl,rfl,rfl,by simpa using UA.o,by simpa using UB.o,(jB _ _ _).symm,rfl⟩
 case round =>
  obtain⟨k,X,Y,O,T,hk,rfl,rfl,rfl,rfl,rfl,hX,hY,hO,hT⟩:=hrel
  by_cases hlt:k < 32
  ·obtain⟨x,y,t,p,q,m,E,e1,e2,e3,e4,e5,e6,e7,e8,e9,e10,e11,b1,b2,b3,b4,b5,b6,b7,b8⟩:=RD.o k hlt
   obtain rfl:X=x:=by rw[hX,e1]
   obtain rfl:Y=y:=by rw[hY,e2]
   obtain rfl:T=t:=by rw[hT,e3]
   rw[<-hO] at e8 b8
   have e7':(p+q) % 2*T=E:=by rw[<-e7];rfl
   have E8:=aC e8
   have E9:=aC e9
   have E10:=aC e10
   have E11:=aC e11
   clear e1 e2 e3 e7 e8 e9 e10 e11 hX hY hO hT sa sb UA UB RD EN
   go_wp2_with fail
   go_round
   case rel=>exact⟨k+1,_,_,_,_,by omega,rfl,rfl,rfl,rfl,by go_num,E9.o,E10.o,E8.o.symm,E11.o⟩
   case measure=>simp[intOf];omega
  ·obtain rfl:k=32:=by omega
   have hN:=EN.o
   rw[<-hO] at hN
   have b0:=aC (fJ .xor ha hb 32)
   have b1:0<=O/\O < 4294967296:=by have:=b0.o;rw[<-hO] at this;omega
   clear hX hY hO hT UA UB RD EN b0 sa sb
   rcases hN with⟨h1,h2⟩|⟨h1,h2⟩
   ·have H2:=aC h2
    clear h2
    go_wp2_with fail
    go_ret
    exact⟨aN H2.o,rfl⟩
   ·have H2:=aC h2
    clear h2
    go_wp2_with fail
    go_ret
    exact⟨aN H2.o,rfl⟩
theorem qZ (a b:Int)(w:World)(ha:-2147483648<=a/\a<=2147483647)(hb:-2147483648<=b/\b<=2147483647)(sa:0<=a)(sb:b < 0) :
  Calls Tryz.prog 123 #[.int .i64 17,.int .i64 a,.int .i64 b] w fun e w'=>e=.returned (.int .i64 (bw .xor a b))/\w'=w:=by
 have UA:=aC (show a=up a by unfold up;split <;> omega)
 have UB:=aC (show b+4294967296=up b by unfold up;split <;> omega)
 have RD:=aC (fun k h=>dY .xor ha hb k h)
 have EN:=aC (gQ .xor ha hb)
 go_enter Tryz.func123,Tryz.ntmps123
 go_wp2_with fail
 go_loop [7,8,9,10,11] (fun x y o t i=>∃(k:Nat) (X Y O T:Int),k<=32/\x=.int .i64 X/\y=.int .i64 Y/\o=.int .i64 O/\t=.int .i64 T/\i=.int .i64 k/\X=up a / 2 ^ k/\Y=up b / 2 ^ k/\O=iV .xor a b k/\T=2 ^ k) (fun _ _ _ _ i=>32-(intOf i).toNat)
 case atStart=>exact⟨0,_,_,_,_,by omega,rfl,rfl,rfl,rfl,rfl,by simpa using UA.o,by simpa using UB.o,(jB _ _ _).symm,rfl⟩
 case round =>
  obtain⟨k,X,Y,O,T,hk,rfl,rfl,rfl,rfl,rfl,hX,hY,hO,hT⟩:=hrel
  by_cases hlt:k < 32
  ·obtain⟨x,y,t,p,q,m,E,e1,e2,e3,e4,e5,e6,e7,e8,e9,e10,e11,b1,b2,b3,b4,b5,b6,b7,b8⟩:=RD.o k hlt
   obtain rfl:X=x:=by rw[hX,e1]
   obtain rfl:Y=y:=by rw[hY,e2]
   obtain rfl:T=t:=by rw[hT,e3]
   rw[<-hO] at e8 b8
   have e7':(p+q) % 2*T=E:=by rw[<-e7];rfl
   have E8:=aC e8
   have E9:=aC e9
   have E10:=aC e10
   have E11:=aC e11
   clear e1 e2 e3 e7 e8 e9 e10 e11 hX hY hO hT sa sb UA UB RD EN
   go_wp2_with fail
   go_round
   case rel=>exact⟨k+1,_,_,_,_,by omega,rfl,rfl,rfl,rfl,by go_num,E9.o,E10.o,E8.o.symm,E11.o⟩
   case measure=>simp[intOf];omega
  ·obtain rfl:k=32:=by omega
   have hN:=EN.o
   rw[<-hO] at hN
   have b0:=aC (fJ .xor ha hb 32)
   have b1:0<=O/\O < 4294967296:=by have:=b0.o;rw[<-hO] at this;omega
   clear hX hY hO hT UA UB RD EN b0 sa sb
   rcases hN with⟨h1,h2⟩|⟨h1,h2⟩
   ·have H2:=aC h2
    clear h2
    go_wp2_with fail
    go_ret
    exact⟨aN H2.o,rfl⟩
   ·have H2:=aC h2
    clear h2
    go_wp2_with fail
    go_ret
    exact⟨aN H2.o,rfl⟩
theorem rY (a b:Int)(w:World)(ha:-2147483648<=a/\a<=2147483647)(hb:-2147483648<=b/\b<=2147483647)(sa:0<=a)(sb:0<=b) :
  Calls Tryz.prog 123 #[.int .i64 17,.int .i64 a,.int .i64 b] w fun e w'=>e=.returned (.int .i64 (bw .xor a b))/\w'=w:=by
 have UA:=aC (show a=up a by unfold up;split <;> omega)
 have UB:=aC (show b=up b by unfold up;split <;> omega)
 have RD:=aC (fun k h=>dY .xor ha hb k h)
 have EN:=aC (gQ .xor ha hb)
 go_enter Tryz.func123,Tryz.ntmps123
 go_wp2_with fail
 go_loop [7,8,9,10,11] (fun x y o t i=>∃(k:Nat) (X Y O T:Int),k<=32/\x=.int .i64 X/\y=.int .i64 Y/\o=.int .i64 O/\t=.int .i64 T/\i=.int .i64 k/\X=up a / 2 ^ k/\Y=up b / 2 ^ k/\O=iV .xor a b k/\T=2 ^ k) (fun _ _ _ _ i=>32-(intOf i).toNat)
 case atStart=>exact⟨0,_,_,_,_,by omega,rfl,rfl,rfl,rfl,rfl,by simpa using UA.o,by simpa using UB.o,(jB _ _ _).symm,rfl⟩
 case round =>
  obtain⟨k,X,Y,O,T,hk,rfl,rfl,rfl,rfl,rfl,hX,hY,hO,hT⟩:=hrel
  by_cases hlt:k < 32
  ·obtain⟨x,y,t,p,q,m,E,e1,e2,e3,e4,e5,e6,e7,e8,e9,e10,e11,b1,b2,b3,b4,b5,b6,b7,b8⟩:=RD.o k hlt
   obtain rfl:X=x:=by rw[hX,e1]
   obtain rfl:Y=y:=by rw[hY,e2]
   obtain rfl:T=t:=by rw[hT,e3]
   rw[<-hO] at e8 b8
   have e7':(p+q) % 2*T=E:=by rw[<-e7];rfl
   have E8:=aC e8
   have E9:=aC e9
   have E10:=aC e10
   have E11:=aC e11
   clear e1 e2 e3 e7 e8 e9 e10 e11 hX hY hO hT sa sb UA UB RD EN
   go_wp2_with fail
   go_round
   case rel=>exact⟨k+1,_,_,_,_,by omega,rfl,rfl,rfl,rfl,by go_num,E9.o,E10.o,E8.o.symm,E11.o⟩
   case measure=>simp[intOf];omega
  ·obtain rfl:k=32:=by omega
   have hN:=EN.o
   rw[<-hO] at hN
   have b0:=aC (fJ .xor ha hb 32)
   have b1:0<=O/\O < 4294967296:=by have:=b0.o;rw[<-hO] at this;omega
   clear hX hY hO hT UA UB RD EN b0 sa sb
   rcases hN with⟨h1,h2⟩|⟨h1,h2⟩
   ·have H2:=aC h2
    clear h2
    go_wp2_with fail
    go_ret
    exact⟨aN H2.o,rfl⟩
   ·have H2:=aC h2
    clear h2
    go_wp2_with fail
    go_ret
    exact⟨aN H2.o,rfl⟩
theorem jZ (o:kQ)(op a b:Int)(w:World)(ho:op=match o with|none=>15|some false=>16|some true=>17)(ha:-2147483648<=a/\a<=2147483647)(hb:-2147483648<=b/\b<=2147483647) :
  Calls Tryz.prog 123 #[.int .i64 op,.int .i64 a,.int .i64 b] w fun e w'=>e=.returned (.int .i64 (bw o a b))/\w'=w:=by
 subst ho
 rcases(show a < 0\/0<=a by omega) with sa|sa <;> rcases(show b < 0\/0<=b by omega) with sb|sb <;> rcases o with _|_|_
 ·exact rZ a b w ha hb sa sb
 ·exact sZ a b w ha hb sa sb
 ·exact sF a b w ha hb sa sb
 ·exact rR a b w ha hb sa sb
 ·exact sW a b w ha hb sa sb
 ·exact rU a b w ha hb sa sb
 ·exact rE a b w ha hb sa sb
 ·exact sV a b w ha hb sa sb
 ·exact qZ a b w ha hb sa sb
 ·exact rX a b w ha hb sa sb
 ·exact tC a b w ha hb sa sb
 ·exact rY a b w ha hb sa sb
theorem xE (a b:Int):(!decide (b < a))=decide (a<=b):=by
 by_cases h:a<=b <;> simp[h] <;> omega
theorem aAw (op k s a b c:Int)(w:World)(ho:dW op 18 23=true) :
  Calls Tryz.prog 124 #[.int .i64 op,.int .i64 a,.int .i64 b,.int .i64 c] w fun e w'=>e=.returned (.int .i64 (ex op k s a b c).1)/\w'=w:=by
 have h:=aP.1 ho
 clear ho
 rcases(show op=18\/op=19\/op=20\/op=21\/op=22\/op=23 by omega) with rfl|rfl|rfl|rfl|rfl|rfl <;> clear h
 ·go_enter Tryz.func124,Tryz.ntmps124
  go_wp2_with (go_at_call 121;refine(fO _ _).mono ?_;rintro e w' ⟨rfl,rfl⟩)
  go_ret
  exact⟨rfl,rfl⟩
 ·go_enter Tryz.func124,Tryz.ntmps124
  go_wp2_with (go_at_call 121;refine(fO _ _).mono ?_;rintro e w' ⟨rfl,rfl⟩)
  go_ret
  refine⟨aN ?_,rfl⟩
  rw[xE]
  rfl
 ·go_enter Tryz.func124,Tryz.ntmps124
  go_wp2_with (go_at_call 121;refine(fO _ _).mono ?_;rintro e w' ⟨rfl,rfl⟩)
  go_ret
  exact⟨rfl,rfl⟩
 ·go_enter Tryz.func124,Tryz.ntmps124
  go_wp2_with (go_at_call 121;refine(fO _ _).mono ?_;rintro e w' ⟨rfl,rfl⟩)
  go_ret
  refine⟨aN ?_,rfl⟩
  rw[xE]
  rfl
 ·go_enter Tryz.func124,Tryz.ntmps124
  go_wp2_with (go_at_call 121;refine(fO _ _).mono ?_;rintro e w' ⟨rfl,rfl⟩)
  go_ret
  exact⟨rfl,rfl⟩
 ·go_enter Tryz.func124,Tryz.ntmps124
  go_wp2_with (go_at_call 121;refine(fO _ _).mono ?_;rintro e w' ⟨rfl,rfl⟩)
  go_ret
  exact⟨rfl,rfl⟩
theorem aA9 (k s a b c:Int)(w:World) :
  Calls Tryz.prog 124 #[.int .i64 24,.int .i64 a,.int .i64 b,.int .i64 c] w fun e w'=>e=.returned (.int .i64 (ex 24 k s a b c).1)/\w'=w:=by
 rw[show ex 24 k s a b c=(min a b,0) from rfl]
 go_enter Tryz.func124,Tryz.ntmps124
 go_wp2_with fail
 all_goals go_ret
 all_goals exact⟨aN (by omega),rfl⟩
theorem aB3 (k s a b c:Int)(w:World) :
  Calls Tryz.prog 124 #[.int .i64 25,.int .i64 a,.int .i64 b,.int .i64 c] w fun e w'=>e=.returned (.int .i64 (ex 25 k s a b c).1)/\w'=w:=by
 rw[show ex 25 k s a b c=(max a b,0) from rfl]
 go_enter Tryz.func124,Tryz.ntmps124
 go_wp2_with fail
 all_goals go_ret
 all_goals exact⟨aN (by omega),rfl⟩
theorem wK (k s a b c:Int)(w:World) :
  Calls Tryz.prog 124 #[.int .i64 26,.int .i64 a,.int .i64 b,.int .i64 c] w fun e w'=>e=.returned (.int .i64 (ex 26 k s a b c).1)/\w'=w:=by
 rw[show ex 26 k s a b c=(min c (max a b),0) from rfl]
 go_enter Tryz.func124,Tryz.ntmps124
 go_wp2_with fail
 all_goals go_ret
 all_goals exact⟨aN (by omega),rfl⟩
theorem aAv (k s a b c:Int)(w:World) :
  Calls Tryz.prog 124 #[.int .i64 28,.int .i64 a,.int .i64 b,.int .i64 c] w fun e w'=>e=.returned (.int .i64 (ex 28 k s a b c).1)/\w'=w:=by
 by_cases h0:a=0
 ·subst h0
  go_enter Tryz.func124,Tryz.ntmps124
  go_wp2_with fail
  go_ret
  exact⟨rfl,rfl⟩
 ·have h1:(a==0)=false:=by simp[h0]
  rw[show ex 28 k s a b c=(b,0) by simp[ex,h0]]
  go_enter Tryz.func124,Tryz.ntmps124
  go_wp2_with fail
  go_ret
  exact⟨rfl,rfl⟩
theorem aA7 (k s a b c:Int)(w:World) :
  Calls Tryz.prog 124 #[.int .i64 27,.int .i64 a,.int .i64 b,.int .i64 c] w fun e w'=>e=.returned (.int .i64 (ex 27 k s a b c).1)/\w'=w:=by
 rw[show ex 27 k s a b c=(max (min a b) (min (max a b) c),0) from rfl]
 rcases(show (b<=a/\a<=c)\/(¬b<=a/\c<=a)\/(b<=a/\¬a<=c/\c<=a/\a<=b)\/(b<=a/\¬a<=c/\¬a<=b/\c<=b)\/(b<=a/\¬a<=c/\¬a<=b/\¬c<=b)\/(¬b<=a/\¬c<=a/\b<=c)\/(¬b<=a/\¬c<=a/\¬b<=c) by omega) with h|h|h|h|h|h|h <;>
 ·go_enter Tryz.func124,Tryz.ntmps124
  go_wp2_with fail
  all_goals go_ret
  all_goals exact⟨aN (by omega),rfl⟩
theorem dL (op k s a b c:Int)(w:World)(ho:dW op 18 28=true) :
  Calls Tryz.prog 124 #[.int .i64 op,.int .i64 a,.int .i64 b,.int .i64 c] w fun e w'=>e=.returned (.int .i64 (ex op k s a b c).1)/\w'=w:=by
 have h:=aP.1 ho
 rcases(show op<=23\/op=24\/op=25\/op=26\/op=27\/op=28 by omega) with h|rfl|rfl|rfl|rfl|rfl
 ·exact aAw op k s a b c w (kR (by omega) (by omega))
 ·exact aA9 k s a b c w
 ·exact aB3 k s a b c w
 ·exact wK k s a b c w
 ·exact aA7 k s a b c w
 ·exact aAv k s a b c w
end Go.Proofs.Spn
