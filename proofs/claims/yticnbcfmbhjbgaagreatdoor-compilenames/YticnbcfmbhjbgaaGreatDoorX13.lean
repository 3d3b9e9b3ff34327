import Derived.Test.YticnbcfmbhjbgaaGreatDoorXH
import Derived.Deep.RegionWith
import Derived.Test.YticnbcfmbhjbgaaGreatDoorX11
import Derived.Test.YticnbcfmbhjbgaaGreatDoorX12
set_option maxRecDepth 100000
set_option maxHeartbeats 32000000
set_option linter.unusedVariables false
namespace Go.Proofs.Cde
open Go.RowKit Go.IntWalk Knd
open YticnbcfmbhjbgaaGreatDoor (aB)
open YticnbcfmbhjbgaaGreatDoor (Wd pE Fits inpV)
variable {i k:Nat} {n:In}
def iZ (V:List Int)(n:In):List Int:=(dW n).map fun r=>V.getD r.toNat 0
def dH (f d:Int)(v:Wd)(V:List Int)(n:In):Int × Int :=
 if n.op=1 then(n.k,0) else if n.op=2 then(inpV f d v n.k,0) else if n.op=3 then(if dF f d<=n.k then(0,11) else(v.ps.getD n.k.toNat 0,0)) else Spn.bO n.op n.k n.s (iZ V n)
theorem pG (V:List Int)(n:In):(iZ V n).length=dK n:=by rw[iZ,List.length_map,fV]
theorem qW (n:In)(k:Nat)(h:k < dK n):(dW n).getD k 0=qA n k:=by
 rw[dW,gdE,List.getElem?_take_of_lt h]
 rfl
theorem aLu (V:List Int)(n:In)(k:Nat)(h:k < dK n):(iZ V n).getD k 0=V.getD (qA n k).toNat 0:=by
 rw[<-qW n k h,iZ]
 simp[List.getD_eq_getElem?_getD,List.getElem?_map,List.getElem?_eq_getElem (show k < (dW n).length by rw[fV];exact h)]
def arM (V:List Int)(n:In)(k:Nat):List Int:=(iZ V n).take k++(abc n).drop k
theorem aHp (V:List Int)(n:In)(h:k<=dK n):(arM V n k).length=3:=by
 have:=qX n
 simp[arM,pG,abc]
 omega
theorem aAf (V:List Int)(n:In)(h:k < dK n):arM V n k=(iZ V n).take k++qA n k::(abc n).drop (k+1):=by
 have:=qX n
 rw[arM,List.drop_eq_getElem_cons (show k < (abc n).length by simp[abc];omega)]
 congr 2
 rw[<-aBm n k (by omega),gdE,gEg (by simp[abc];omega)]
 rfl
theorem aLt (V:List Int)(n:In)(h:k < dK n):(iZ V n).take k++V.getD (qA n k).toNat 0::(abc n).drop (k+1)=arM V n (k+1):=by
 rw[arM,aG 0 (by rw[pG];exact h),aLu V n k h]
 simp
theorem aQk (V:List Int)(n:In)(h:k < dK n):(arM V n k).getD k 0=qA n k:=by
 rw[aAf V n h,gdE,gAr (by rw[lLt];omega)]
 have e:k-((iZ V n).take k).length=0:=by rw[lLt,pG];omega
 rw[e]
 rfl
theorem aLs (V:List Int)(n:In):arM V n (dK n)=iZ V n++(abc n).drop (dK n):=by
 rw[arM,lTl (by rw[pG];exact nLr _)]
theorem aQa {W:World}{g:Nat}{L M:List Int}(h:aB W g 3 (zA (L++M)))(hl:(L++M).length=3):Ints W (some ⟨g,0,none⟩) L.length 3 L:=by
 have h2:L.length<=3:=by rw[<-hl];simp
 refine⟨rfl,h2,by decide,(fun h=>by cases h),.inr ⟨g,0,rfl,fun i hi=>?_⟩⟩
 rw[nZa,h.cell i (jF _ i (by simp;omega)),dR hi]
theorem aRd {f d:Int}{v:Wd}(h:Fits f d v):(v.ps.length:Int)=dF f d:=h.2.1
theorem uI (h:bG n i=true){j:Nat}(hj:j < dK n):0<=qA n j/\(qA n j).toNat < i:=by
 simp only[bG,bAt] at h
 have h3:=qX n
 have hr:=h.1.2
 rw[<-aBc] at hr
 simp only[rgT,lAe,List.mem_range] at hr
 have:=hr j (by omega)
 rw[rV,if_pos (by simp[dK] at *;omega),Spn.aP] at this
 omega
theorem uH (h:bG n i=true):nT n=true:=by
 simp only[bG,bAt] at h
 exact h.2
theorem aA6 (h:bG n i=true):0<=Spn.ar n.op:=by
 simp only[bG,bAt,dEt] at h
 exact h.1.1
theorem wW (n:In)(W:World) :
  Calls Tryz.prog 197 #[.agg (ia n)] W fun e W'=>∃ g,e=.returned (.slice (some ⟨g,0,none⟩) (dK n) 3)/\W.heap.size<=g/\aB W' g 3 (zA (abc n))/\Below W.heap.size W W' :=
 (aAj n W).mono fun e W' ⟨h1,h2,h3⟩=>⟨_,h1,by omega,h2,h3⟩
end Go.Proofs.Cde
namespace Go.Proofs.Cde
open YticnbcfmbhjbgaaGreatDoor (Wd pE Fits inpV)
open Go.RowKit Go.IntWalk Knd
open YticnbcfmbhjbgaaGreatDoor (aB)
def uV (f d:Int)(v:Wd)(s:Int × List Int)(n:In):Int × List Int :=
 if s.1=0 then(if (dH f d v s.2 n).2=0 then(0,s.2++[(dH f d v s.2 n).1]) else((dH f d v s.2 n).2,[])) else s
def qN (f d:Int)(v:Wd)(L:List In):Int × List Int:=L.foldl (uV f d v) (0,[])
theorem fH (f d:Int)(v:Wd)(L:List In)(n:In):qN f d v (L++[n])=uV f d v (qN f d v L) n:=by simp[qN]
open Classical in
noncomputable def kS (f d:Int)(v:Wd)(L:List In)(out:Int):Int × List Int:=if kE f d L out=true then(if Fits f d v then qN f d v L else(1,[])) else(15,[])
def TwP (w:World)(Z:Int × List Int)(e:Ending)(W':World):Prop :=
 ∃ a c,e=.returned (.tuple #[.slice a Z.2.length c,.i Z.1])/\W'.ownsRow w.heap.size 3 1 (.slice a Z.2.length c) Z.2.length (gY Z.2)/\Below w.heap.size w W'
theorem aJn (f d:Int)(L:List In)(out:Int):(kE f d L out=true/\ccE f d L out=0)\/(¬kE f d L out=true/\ccE f d L out=15):=by
 unfold ccE
 by_cases h:kE f d L out=true
 ·exact .inl ⟨h,if_pos h⟩
 ·exact .inr ⟨h,if_neg h⟩
theorem aS {f d:Int}{L:List In}{out:Int}(h:kE f d L out=true):May f d/\1<=L.length/\L.length<=200/\0<=out/\out < L.length/\dZ L L.length=true:=by
 simp only[kE,bAt,dEt,Spn.aP] at h
 obtain⟨⟨⟨h1,h2⟩,h3⟩,h4⟩:=h
 exact⟨h1,by omega,by omega,by omega,by omega,h4⟩
theorem aDn {f d:Int}{v:Wd}{D Z:List Int}{n:In}(h:bG n D.length=true):dH f d v (D++Z) n=dH f d v D n:=by
 have e:iZ (D++Z) n=iZ D n:=by
  unfold iZ
  apply List.map_congr_left
  intro r hr
  obtain⟨j,hj,rfl⟩:=List.getElem_of_mem hr
  rw[fV] at hj
  have:=uI h hj
  rw[<-qW n j hj,gdE,gEg (by rw[fV];exact hj)] at this
  exact dR this.2
 rw[dH,dH,e]
end Go.Proofs.Cde
namespace Go.Proofs.Cde
open YticnbcfmbhjbgaaGreatDoor (Wd pE Fits inpV)
open Go.RowKit Go.IntWalk Knd
open YticnbcfmbhjbgaaGreatDoor (aB)
def eX (L:List In):Int:=L.foldl (fun s n=>s+jH n.op) 0
theorem gN (L:List In)(n:In):eX (L++[n])=eX L+jH n.op:=by simp[eX]
theorem aJo (f d out:Int){a:Option Addr}{n cap:Nat}{L:List In}{W:World}(hL:Ins W a n cap L)(hn:n<=1000000000000000) :
  Calls Tryz.prog 48 #[.agg (cd f d a n cap out)] W fun e W'=>e=.returned (.i (eX L))/\Below W.heap.size W W':=by
 have HB0:=aA (aD W (.cells (cd f d a n cap out) 33))
 have HLI:=aA hL
 have HLn:=aA hL.len
 clear hL
 go_enter Tryz.func48,Tryz.ntmps48
 go_wp2_with fail
 go_loopw [3,9] (fun s i wr=>∃(k:Nat) (c:Int),k<=n/\i=.i k/\s=.i c/\0<=c/\c<=6*k/\Hid (c=eX (L.take k))/\Hid (Below W.heap.size W wr)) (fun _ i _=>n-(intOf i).toNat)
 case atStart=>exact⟨0,0,nZl _,rfl,rfl,iLr _,iLr _,aA rfl,HB0⟩
 case round =>
  obtain⟨k,c,hk,rfl,rfl,hc0,hc6,HC,HB⟩:=hrel
  rename World=>V
  clear HB0
  by_cases hlt:k < n
  ·obtain⟨g,off,rfl,-,hat⟩:=(HLI.o.later HB.o).at (by omega)
   obtain⟨e0,e1,e2,e3,e4,e5⟩:=hat k hlt
   clear hat
   have hi0:(0:Int)<=k:=by omega
   have hi1:(k:Int) < n:=by omega
   have HC2:=aA (show c+jH (L.getD k i0).op=eX (L.take (k+1)) by rw[aG i0 (by rw[HLn.o];exact hlt),gN,HC.o])
   generalize L.getD k i0=m at *
   have HCo:=aA fun w=>lV m.op w
   obtain⟨z0,z1⟩:=aL9 m.op
   generalize jH m.op=z at *
   have HB2:=aA (bel HB.o (aD V (.cells (ia m) 132)))
   go_wp2_with (go_at_call 100;refine(HCo.o _).mono ?_;rintro e w' ⟨rfl,rfl⟩)
   go_roundw
   case rel=>exact⟨k+1,c+z,by omega,by go_num,rfl,by omega,by omega,HC2,HB2⟩
   case measure=>simp[intOf];omega
  ·obtain rfl:k=n:=by omega
   have hC:=HC.o
   rw[lTl (by rw[HLn.o];exact nLr _)] at hC
   have HC2:=aA hC
   clear hC
   go_wp2_with fail
   go_ret
   exact⟨aN HC2.o,HB.o⟩
end Go.Proofs.Cde
namespace Go.Proofs.Cde
open YticnbcfmbhjbgaaGreatDoor (Wd pE Fits inpV)
open Knd
def ctR (r:Nat)(A:List Int):Int:=((A.filter fun x=>decide (x.toNat=r)).length:Nat)
def agA (L:List In):List Int:=L.flatMap dW
def usU (L:List In)(out:Int):List Int:=(List.range L.length).map fun(r:Nat)=>(if out=(r:Int) then 1 else 0)+ctR r (agA L)
theorem aLm (n:In){q:Nat}(h:q < dK n):(dW n).take (q+1)=(dW n).take q++[qA n q]:=by
 rw[aG 0 (by rw[fV];exact h),qW n q h]
theorem aLl (n:In):(dW n).take (dK n)=dW n:=lTl (by rw[fV];exact nLr _)
end Go.Proofs.Cde
