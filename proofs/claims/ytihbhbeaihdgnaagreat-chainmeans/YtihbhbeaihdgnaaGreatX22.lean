import Derived.Test.YtihbhbeaihdgnaaGreatXH
import Derived.ProofKit
import Derived.OpenShut
import Derived.ChangeOld
import Derived.SizedLaws
import Derived.Below
import Derived.Deep.Slices
import Derived.Deep.RegionWith
import Derived.Test.YtihbhbeaihdgnaaGreatX20
import Derived.Test.YtihbhbeaihdgnaaGreatX21
set_option maxRecDepth 100000
set_option maxHeartbeats 32000000
set_option linter.unusedVariables false
namespace Go.Proofs.Cde
open Go.RowKit Go.IntWalk Knd
open YtihbhbeaihdgnaaGreat (Wd fD Fits inpV dJ)
variable {i k:Nat} {n:In}
def iA (V:List Int)(n:In):List Int:=(dN n).map fun r=>V.getD r.toNat 0
def dA (f d:Int)(v:Wd)(V:List Int)(n:In):Int × Int :=
 if n.op=1 then(n.k,0) else if n.op=2 then(inpV f d v n.k,0) else if n.op=3 then(if bL f d<=n.k then(0,11) else(v.ps.getD n.k.toNat 0,0)) else Spn.bK n.op n.k n.s (iA V n)
theorem jC (V:List Int)(n:In):(iA V n).length=bY n:=by rw[iA,List.length_map,fO]
theorem qL (n:In)(k:Nat)(h:k < bY n):(dN n).getD k 0=nW n k:=by
 rw[dN,List.getD_eq_getElem?_getD,List.getElem?_take_of_lt h]
 rfl
theorem aE9 (V:List Int)(n:In)(k:Nat)(h:k < bY n):(iA V n).getD k 0=V.getD (nW n k).toNat 0:=by
 rw[<-qL n k h,iA]
 simp[List.getD_eq_getElem?_getD,List.getElem?_map,List.getElem?_eq_getElem (show k < (dN n).length by rw[fO];exact h)]
def arM (V:List Int)(n:In)(k:Nat):List Int:=(iA V n).take k++(abc n).drop k
theorem aG0 (V:List Int)(n:In)(h:k<=bY n):(arM V n k).length=3:=by
 have:=lQ n
 simp[arM,jC,abc]
 omega
theorem zM (V:List Int)(n:In)(h:k < bY n):arM V n k=(iA V n).take k++nW n k::(abc n).drop (k+1):=by
 have:=lQ n
 rw[arM,List.drop_eq_getElem_cons (show k < (abc n).length by simp[abc];omega)]
 congr 2
 rw[<-vV n k (by omega),List.getD_eq_getElem?_getD,List.getElem?_eq_getElem (by simp[abc];omega)]
 rfl
theorem aKj (V:List Int)(n:In)(h:k < bY n):(iA V n).take k++V.getD (nW n k).toNat 0::(abc n).drop (k+1)=arM V n (k+1):=by
 rw[arM,aH 0 (by rw[jC];exact h),aE9 V n k h]
 simp
theorem aOz (V:List Int)(n:In)(h:k < bY n):(arM V n k).getD k 0=nW n k:=by
 rw[zM V n h,List.getD_eq_getElem?_getD,List.getElem?_append_right (by rw[List.length_take];omega)]
 have e:k-((iA V n).take k).length=0:=by rw[List.length_take,jC];omega
 rw[e]
 rfl
theorem aKi (V:List Int)(n:In):arM V n (bY n)=iA V n++(abc n).drop (bY n):=by
 rw[arM,List.take_of_length_le (by rw[jC];exact Nat.le_refl _)]
theorem aOo {W:World}{g:Nat}{L M:List Int}(h:aB W g 3 (zA (L++M)))(hl:(L++M).length=3):Ints W (some ⟨g,0,none⟩) L.length 3 L:=by
 have h2:L.length<=3:=by rw[<-hl];simp
 refine⟨rfl,h2,by decide,(fun h=>by cases h),.inr ⟨g,0,rfl,fun i hi=>?_⟩⟩
 rw[Nat.zero_add,h.cell i (gQ _ i (by simp;omega)),cK hi]
theorem aHc {f d:Int}{v:Wd}(h:Fits f d v):(v.ps.length:Int)=bL f d:=h.2.1
theorem qQ (h:bB n i=true){j:Nat}(hj:j < bY n):0<=nW n j/\(nW n j).toNat < i:=by
 simp only[bB,Bool.and_eq_true] at h
 have h3:=lQ n
 have hr:=h.1.2
 rw[<-aAr] at hr
 simp only[rgT,List.all_eq_true,List.mem_range] at hr
 have:=hr j (by omega)
 rw[rF,if_pos (by simp[bY] at *;omega),Spn.aO] at this
 omega
theorem qP (h:bB n i=true):nG n=true:=by
 simp only[bB,Bool.and_eq_true] at h
 exact h.2
theorem aAn (h:bB n i=true):0<=Spn.ar n.op:=by
 simp only[bB,Bool.and_eq_true,decide_eq_true_eq] at h
 exact h.1.1
theorem wD (n:In)(W:World) :
  Calls Tryz.prog 85 #[.agg (ia n)] W fun e W'=>∃ g,e=.returned (.slice (some ⟨g,0,none⟩) (bY n) 3)/\W.heap.size<=g/\aB W' g 3 (zA (abc n))/\Below W.heap.size W W' :=
 (zR n W).mono fun e W' ⟨h1,h2,h3⟩=>⟨_,h1,by omega,h2,h3⟩
end Go.Proofs.Cde
namespace Go.Proofs.Cde
open YtihbhbeaihdgnaaGreat (Wd fD Fits inpV dJ)
open Go.ChangeShapes Go.WideShapes Go.ChangeAt Go.RowKit
theorem aB4:Tryz.prog.cellsOf 3=1:=by kernel_rfl
theorem pR {H:Type}{enc:TypeId × Value->H}{W:World}{fuel:Nat}{v:Value}{x:DataW H × List MemPlace}
  (h:DataW.trod enc Tryz.prog W 0 (fun _=>true) true fuel 42 [v]=some x) :
  ∃ a n c zs,v=.slice a n c/\Knd.Ints W a n c zs/\((x.1=.nil/\n=0)\/∃ els spare,x.1=.slice els spare/\els.length=n):=by
 rcases open_ints Tryz.underlying42 Tryz.underlying3 aB4 h with⟨hcs,hx⟩|⟨ad,l,c',zs,hcs,_,hl,hm,hz,hx,hcell,hwz⟩
 ·simp at hcs
  exact⟨none,0,0,[],hcs,⟨rfl,Nat.le_refl _,Nat.zero_le _,fun _=>rfl,.inl rfl⟩,.inl ⟨by rw[hx],rfl⟩⟩
 ·simp at hcs
  simp only[if_true] at hz
  refine⟨some ad,l,c',zs.take l,hcs,⟨by rw[List.length_take];omega,hl,hm,(fun h=>by cases h),?_⟩,.inr ⟨_,_,by rw[hx],by simp[lits,List.length_take];omega⟩⟩
  by_cases h0:l=0
  ·exact .inl h0
  ·obtain⟨b,off,spot⟩:=ad
   have hspot:spot=none:=by simpa [Addr.add] using World.cell?_spot (hcell 0 (by omega))
   subst hspot
   refine .inr ⟨b,off,rfl,fun i hi=>?_⟩
   have:=hcell i (by omega)
   rw[Addr.add_lit] at this
   rw[this]
   simp[List.getD,hi]
end Go.Proofs.Cde
namespace Go.Proofs.Cde
open YtihbhbeaihdgnaaGreat (Wd fD Fits inpV dJ)
open Go.RowKit Go.IntWalk Knd
def tN (f d:Int)(v:Wd)(s:Int × List Int)(n:In):Int × List Int :=
 if s.1=0 then(if (dA f d v s.2 n).2=0 then(0,s.2++[(dA f d v s.2 n).1]) else((dA f d v s.2 n).2,[])) else s
def oW (f d:Int)(v:Wd)(L:List In):Int × List Int:=L.foldl (tN f d v) (0,[])
theorem eF (f d:Int)(v:Wd)(L:List In)(n:In):oW f d v (L++[n])=tN f d v (oW f d v L) n:=by simp[oW]
open Classical in
noncomputable def iR (f d:Int)(v:Wd)(L:List In)(out:Int):Int × List Int:=if jW f d L out=true then(if Fits f d v then oW f d v L else(1,[])) else(15,[])
theorem aIl (f d:Int)(L:List In)(out:Int):(jW f d L out=true/\ccE f d L out=0)\/(¬jW f d L out=true/\ccE f d L out=15):=by
 unfold ccE
 by_cases h:jW f d L out=true
 ·exact .inl ⟨h,if_pos h⟩
 ·exact .inr ⟨h,if_neg h⟩
theorem aT {f d:Int}{L:List In}{out:Int}(h:jW f d L out=true):May f d/\1<=L.length/\L.length<=200/\0<=out/\out < L.length/\dX L L.length=true:=by
 simp only[jW,Bool.and_eq_true,decide_eq_true_eq,Spn.aO] at h
 obtain⟨⟨⟨h1,h2⟩,h3⟩,h4⟩:=h
 exact⟨h1,by omega,by omega,by omega,by omega,h4⟩
theorem aC1 {f d:Int}{v:Wd}{D Z:List Int}{n:In}(h:bB n D.length=true):dA f d v (D++Z) n=dA f d v D n:=by
 have e:iA (D++Z) n=iA D n:=by
  unfold iA
  apply List.map_congr_left
  intro r hr
  obtain⟨j,hj,rfl⟩:=List.getElem_of_mem hr
  rw[fO] at hj
  have:=qQ h hj
  rw[<-qL n j hj,List.getD_eq_getElem?_getD,List.getElem?_eq_getElem (by rw[fO];exact hj)] at this
  exact cK this.2
 rw[dA,dA,e]
end Go.Proofs.Cde
namespace Go.Proofs.Cde
open YtihbhbeaihdgnaaGreat (Wd fD Fits inpV dJ)
open Go.RowKit Go.IntWalk Knd
def eH (L:List In):Int:=L.foldl (fun s n=>s+jE n.op) 0
theorem gD (L:List In)(n:In):eH (L++[n])=eH L+jE n.op:=by simp[eH]
theorem aIm (f d out:Int){a:Option Addr}{n cap:Nat}{L:List In}{W:World}(hL:Ins W a n cap L)(hn:n<=1000000000000000) :
  Calls Tryz.prog 40 #[.agg (cd f d a n cap out)] W fun e W'=>e=.returned (.int .i64 (eH L))/\Below W.heap.size W W':=by
 have HB0:=aA (aC W (.cells (cd f d a n cap out) 26))
 have HLI:=aA hL
 have HLn:=aA hL.len
 clear hL
 go_enter Tryz.func40,Tryz.ntmps40
 go_wp2_with fail
 go_loopw [3,9] (fun s i wr=>∃(k:Nat) (c:Int),k<=n/\i=.int .i64 k/\s=.int .i64 c/\0<=c/\c<=6*k/\Hid (c=eH (L.take k))/\Hid (Below W.heap.size W wr)) (fun _ i _=>n-(intOf i).toNat)
 case atStart=>exact⟨0,0,Nat.zero_le _,rfl,rfl,Int.le_refl _,Int.le_refl _,aA rfl,HB0⟩
 case round =>
  obtain⟨k,c,hk,rfl,rfl,hc0,hc6,HC,HB⟩:=hrel
  rename World=>V
  clear HB0
  by_cases hlt:k < n
  ·obtain⟨g,off,rfl,-,hat⟩:=(HLI.o.later HB.o).at (by omega)
   obtain⟨e0,e1,e2,e3,e4,e5⟩:=hat k hlt
   clear hat
   have hi0:(0:Int)<=k:=by omega
   have hi1:(k:Int) < n:=by omega
   have HC2:=aA (show c+jE (L.getD k i0).op=eH (L.take (k+1)) by rw[aH i0 (by rw[HLn.o];exact hlt),gD,HC.o])
   generalize L.getD k i0=m at *
   have HCo:=aA fun w=>wK m.op w
   obtain⟨z0,z1⟩:=aKw m.op
   generalize jE m.op=z at *
   have HB2:=aA (bel HB.o (aC V (.cells (ia m) 41)))
   go_wp2_with (go_at_call 79;refine(HCo.o _).mono ?_;rintro e w' ⟨rfl,rfl⟩)
   go_roundw
   case rel=>exact⟨k+1,c+z,by omega,by go_num,rfl,by omega,by omega,HC2,HB2⟩
   case measure=>simp[intOf];omega
  ·obtain rfl:k=n:=by omega
   have hC:=HC.o
   rw[List.take_of_length_le (by rw[HLn.o];exact Nat.le_refl _)] at hC
   have HC2:=aA hC
   clear hC
   go_wp2_with fail
   go_ret
   exact⟨aN HC2.o,HB.o⟩
theorem aPy {W:World}{g:Nat}{L:List In}(h:aB W g 41 (bU L).toArray)(hl:L.length<=1024):Ins W (some ⟨g,0,none⟩) L.length L.length L:=by
 refine⟨rfl,Nat.le_refl _,by unfold maxLen;omega,(fun h=>by cases h),.inr ⟨g,0,rfl,h.lt,fun i hi j v hv=>?_⟩⟩
 rw[Nat.add_assoc,Nat.zero_add]
 refine h.cell _ ?_
 rw[List.getElem?_toArray]
 exact vM L i hi j v hv
end Go.Proofs.Cde
namespace Go.Proofs.Cde
open YtihbhbeaihdgnaaGreat (Wd fD Fits inpV dJ)
open Knd
def ctR (r:Nat)(A:List Int):Int:=((A.filter fun x=>decide (x.toNat=r)).length:Nat)
def agA (L:List In):List Int:=L.flatMap dN
def usU (L:List In)(out:Int):List Int:=(List.range L.length).map fun(r:Nat)=>(if out=(r:Int) then 1 else 0)+ctR r (agA L)
theorem aKd (n:In){q:Nat}(h:q < bY n):(dN n).take (q+1)=(dN n).take q++[nW n q]:=by
 rw[aH 0 (by rw[fO];exact h),qL n q h]
theorem aKc (n:In):(dN n).take (bY n)=dN n:=List.take_of_length_le (by rw[fO];exact Nat.le_refl _)
end Go.Proofs.Cde
