import Derived.Test.YtijbmdmeiancgaaGreatXH
import Derived.Test.YtijbmdmeiancgaaGreatX24
import Derived.Test.YtijbmdmeiancgaaGreatX18
import Derived.Test.YtijbmdmeiancgaaGreatX03
set_option maxRecDepth 100000
set_option maxHeartbeats 32000000
set_option linter.unusedVariables false
namespace Go.Proofs.Fld
open Go.RowKit Go.IntWalk Knd
open Cde (In i0 ia kd cd Ins kM aJ aL i6)
def aA4 (n:In)(m:Nat):Prop:=(0 < ar n.op->bO n.a m)/\(1 < ar n.op->bO n.b m)/\(2 < ar n.op->bO n.c m)
theorem rC {T:List Int}{m:Nat}(hl:T.length=m){r:Int}(h:bO r m):dK T r=T.getD r.toNat 0:=by
 unfold dK
 rw[if_neg (by have:=h.1;have:=h.2;omega)]
theorem dI (n:In){a:Option Addr}{m cap:Nat}{T:List Int}{W:World}(hT:Ints W a m cap T)(hk:aA4 n m) :
  Calls Tryz.prog 50 #[.agg (ia n),.slice a m cap] W fun e W'=>e=.returned (.agg (ia (bS n T)))/\Below W.heap.size W W':=by
 have HA:=aC fun W=>Spn.bZ n.op W
 have hs:m<=9223372036854775807:=by have:=hT.le;have:=hT.max;unfold maxLen at this;omega
 have hl:=hT.len
 have hbb:=bel (aH W (.cells (ia n) 57)) (aH (W.alloc (.cells (ia n) 57)) (.cells (ia i0) 57))
 have hge:=fun(h0:m≠0)=>hT.at h0
 obtain⟨k1,k2,k3⟩:=hk
 rcases Cde.gT n.op with h|h|h|h|h
 ·rw[aC8 (by rw[ar,h];decide)]
  rw[h] at HA
  clear h k1 k2 k3 hge
  go_enter Tryz.func50,Tryz.ntmps50
  go_wp2_with (go_at_call 54;refine(HA.o _).mono ?_;rintro e w' ⟨rfl,rfl⟩)
  exact bodyPost_ret (v:=.agg (ia _)) (by simp[results,Tryz.results50,go_sem]) rfl ⟨rfl,bel (aH W _) (aH _ _)⟩
 ·rw[aC8 (by rw[ar,h];decide)]
  rw[h] at HA
  clear h k1 k2 k3 hge
  go_enter Tryz.func50,Tryz.ntmps50
  go_wp2_with (go_at_call 54;refine(HA.o _).mono ?_;rintro e w' ⟨rfl,rfl⟩)
  exact bodyPost_ret (v:=.agg (ia _)) (by simp[results,Tryz.results50,go_sem]) rfl ⟨rfl,bel (aH W _) (aH _ _)⟩
 ·have i1:=k1 (by rw[ar,h];decide)
  rw[aJf h,rC hl i1]
  rw[h] at HA
  obtain⟨na,hna⟩:∃ q:Nat,n.a=q:=⟨n.a.toNat,by have:=i1.1;omega⟩
  have l1:na < m:=by have:=i1.2;omega
  obtain⟨b,off,rfl,hblt,hc⟩:=hge (by omega)
  have c1:=hc na l1
  obtain⟨op,xa,xb,xc,xk,xs⟩:=n
  dsimp only at *
  subst hna
  simp only[Int.toNat_natCast]
  have pa:(0:Int)<=na:=by omega
  have qa:(na:Int) < m:=by omega
  generalize T.getD na 0=z1 at *
  clear h k1 k2 k3 hge hc i1 hT hl
  go_enter Tryz.func50,Tryz.ntmps50
  go_wp2_with (go_at_call 54;refine(HA.o _).mono ?_;rintro e w' ⟨rfl,rfl⟩)
  exact bodyPost_ret (v:=.agg (ia _)) (by simp[results,Tryz.results50,go_sem]) rfl ⟨rfl,bel (aH W _) (aH _ _)⟩
 ·have i1:=k1 (by rw[ar,h];decide)
  have i2:=k2 (by rw[ar,h];decide)
  rw[aIu h,rC hl i1,rC hl i2]
  rw[h] at HA
  obtain⟨na,hna⟩:∃ q:Nat,n.a=q:=⟨n.a.toNat,by have:=i1.1;omega⟩
  have l1:na < m:=by have:=i1.2;omega
  obtain⟨nb,hnb⟩:∃ q:Nat,n.b=q:=⟨n.b.toNat,by have:=i2.1;omega⟩
  have l2:nb < m:=by have:=i2.2;omega
  obtain⟨b,off,rfl,hblt,hc⟩:=hge (by omega)
  have c1:=hc na l1
  have c2:=hc nb l2
  obtain⟨op,xa,xb,xc,xk,xs⟩:=n
  dsimp only at *
  subst hna hnb
  simp only[Int.toNat_natCast]
  have pa:(0:Int)<=na:=by omega
  have qa:(na:Int) < m:=by omega
  generalize T.getD na 0=z1 at *
  have pb:(0:Int)<=nb:=by omega
  have qb:(nb:Int) < m:=by omega
  generalize T.getD nb 0=z2 at *
  clear h k1 k2 k3 hge hc i1 i2 hT hl
  go_enter Tryz.func50,Tryz.ntmps50
  go_wp2_with (go_at_call 54;refine(HA.o _).mono ?_;rintro e w' ⟨rfl,rfl⟩)
  exact bodyPost_ret (v:=.agg (ia _)) (by simp[results,Tryz.results50,go_sem]) rfl ⟨rfl,bel (aH W _) (aH _ _)⟩
 ·have i1:=k1 (by rw[ar,h];decide)
  have i2:=k2 (by rw[ar,h];decide)
  have i3:=k3 (by rw[ar,h];decide)
  rw[aHx h,rC hl i1,rC hl i2,rC hl i3]
  rw[h] at HA
  obtain⟨na,hna⟩:∃ q:Nat,n.a=q:=⟨n.a.toNat,by have:=i1.1;omega⟩
  have l1:na < m:=by have:=i1.2;omega
  obtain⟨nb,hnb⟩:∃ q:Nat,n.b=q:=⟨n.b.toNat,by have:=i2.1;omega⟩
  have l2:nb < m:=by have:=i2.2;omega
  obtain⟨nc,hnc⟩:∃ q:Nat,n.c=q:=⟨n.c.toNat,by have:=i3.1;omega⟩
  have l3:nc < m:=by have:=i3.2;omega
  obtain⟨b,off,rfl,hblt,hc⟩:=hge (by omega)
  have c1:=hc na l1
  have c2:=hc nb l2
  have c3:=hc nc l3
  obtain⟨op,xa,xb,xc,xk,xs⟩:=n
  dsimp only at *
  subst hna hnb hnc
  simp only[Int.toNat_natCast]
  have pa:(0:Int)<=na:=by omega
  have qa:(na:Int) < m:=by omega
  generalize T.getD na 0=z1 at *
  have pb:(0:Int)<=nb:=by omega
  have qb:(nb:Int) < m:=by omega
  generalize T.getD nb 0=z2 at *
  have pc:(0:Int)<=nc:=by omega
  have qc:(nc:Int) < m:=by omega
  generalize T.getD nc 0=z3 at *
  clear h k1 k2 k3 hge hc i1 i2 i3 hT hl
  go_enter Tryz.func50,Tryz.ntmps50
  go_wp2_with (go_at_call 54;refine(HA.o _).mono ?_;rintro e w' ⟨rfl,rfl⟩)
  exact bodyPost_ret (v:=.agg (ia _)) (by simp[results,Tryz.results50,go_sem]) rfl ⟨rfl,bel (aH W _) (aH _ _)⟩
end Go.Proofs.Fld
