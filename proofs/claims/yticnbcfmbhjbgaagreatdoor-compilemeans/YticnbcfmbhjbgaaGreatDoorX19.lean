import Derived.Test.YticnbcfmbhjbgaaGreatDoorX17
import Derived.Test.YticnbcfmbhjbgaaGreatDoorX18
set_option maxRecDepth 100000
set_option maxHeartbeats 32000000
set_option linter.unusedVariables false
namespace Go.Proofs.Cde
section
open Go.RowKit Go.IntWalk Knd
open YticnbcfmbhjbgaaGreatDoor (aB)
open YticnbcfmbhjbgaaGreatDoor (Wd dQ Fits inpV dX)
variable {i k:Nat} {n:In}
def gW (V:List Int)(n:In):List Int:=(eF n).map fun r=>V.getD r.toNat 0
def cZ (f d:Int)(v:Wd)(V:List Int)(n:In):Int × Int :=
 if n.op=1 then(n.k,0) else if n.op=2 then(inpV f d v n.k,0) else if n.op=3 then(if bX f d<=n.k then(0,11) else(v.ps.getD n.k.toNat 0,0)) else Spn.bK n.op n.k n.s (gW V n)
theorem fU (V:List Int)(n:In):(gW V n).length=dC n:=by rw[gW,List.length_map,gN]
theorem sH (n:In)(k:Nat)(h:k < dC n):(eF n).getD k 0=mV n k:=by
 rw[eF,gdE,List.getElem?_take_of_lt h]
 rfl
theorem aB5 (V:List Int)(n:In)(k:Nat)(h:k < dC n):(gW V n).getD k 0=V.getD (mV n k).toNat 0:=by
 rw[<-sH n k h,gW]
 simp[List.getD_eq_getElem?_getD,List.getElem?_map,List.getElem?_eq_getElem (show k < (eF n).length by rw[gN];exact h)]
def arM (V:List Int)(n:In)(k:Nat):List Int:=(gW V n).take k++(abc n).drop k
theorem aIl (V:List Int)(n:In)(h:k<=dC n):(arM V n k).length=3:=by
 have:=kX n
 simp[arM,fU,abc]
 omega
theorem aAx (V:List Int)(n:In)(h:k < dC n):arM V n k=(gW V n).take k++mV n k::(abc n).drop (k+1):=by
 have:=kX n
 rw[arM,List.drop_eq_getElem_cons (show k < (abc n).length by simp[abc];omega)]
 congr 2
 rw[<-xO n k (by omega),gdE,gEg (by simp[abc];omega)]
 rfl
theorem aMw (V:List Int)(n:In)(h:k < dC n):(gW V n).take k++V.getD (mV n k).toNat 0::(abc n).drop (k+1)=arM V n (k+1):=by
 rw[arM,aG 0 (by rw[fU];exact h),aB5 V n k h]
 simp
theorem aR6 (V:List Int)(n:In)(h:k < dC n):(arM V n k).getD k 0=mV n k:=by
 rw[aAx V n h,gdE,gAr (by rw[lLt];omega)]
 have e:k-((gW V n).take k).length=0:=by rw[lLt,fU];omega
 rw[e]
 rfl
theorem aMv (V:List Int)(n:In):arM V n (dC n)=gW V n++(abc n).drop (dC n):=by
 rw[arM,lTl (by rw[fU];exact nLr _)]
theorem aRv {W:World}{g:Nat}{L M:List Int}(h:aB W g 3 (zA (L++M)))(hl:(L++M).length=3):Ints W (some ⟨g,0,none⟩) L.length 3 L:=by
 have h2:L.length<=3:=by rw[<-hl];simp
 refine⟨rfl,h2,by decide,(fun h=>by cases h),.inr ⟨g,0,rfl,fun i hi=>?_⟩⟩
 rw[nZa,h.cell i (gZ _ i (by simp;omega)),dJ hi]
theorem aCn {f d:Int}{v:Wd}(h:Fits f d v):(v.ps.length:Int)=bX f d:=h.2.1
theorem qF (h:bE n i=true){j:Nat}(hj:j < dC n):0<=mV n j/\(mV n j).toNat < i:=by
 simp only[bE,bAt] at h
 have h3:=kX n
 have hr:=h.1.2
 rw[<-aBs] at hr
 simp only[rgT,lAe,List.mem_range] at hr
 have:=hr j (by omega)
 rw[tH,if_pos (by simp[dC] at *;omega),Spn.aK] at this
 omega
theorem qE (h:bE n i=true):nE n=true:=by
 simp only[bE,bAt] at h
 exact h.2
theorem aBn (h:bE n i=true):0<=Spn.ar n.op:=by
 simp only[bE,bAt,dEt] at h
 exact h.1.1
theorem xW (n:In)(W:World) :
  Calls Tryz.prog 197 #[.agg (ia n)] W fun e W'=>∃ g,e=.returned (.slice (some ⟨g,0,none⟩) (dC n) 3)/\W.heap.size<=g/\aB W' g 3 (zA (abc n))/\Below W.heap.size W W' :=
 (aA1 n W).mono fun e W' ⟨h1,h2,h3⟩=>⟨_,h1,by omega,h2,h3⟩
end
section
open YticnbcfmbhjbgaaGreatDoor (Wd dQ Fits inpV dX)
open Go.RowKit Go.IntWalk Knd
open YticnbcfmbhjbgaaGreatDoor (aB)
def tK (f d:Int)(v:Wd)(s:Int × List Int)(n:In):Int × List Int :=
 if s.1=0 then(if (cZ f d v s.2 n).2=0 then(0,s.2++[(cZ f d v s.2 n).1]) else((cZ f d v s.2 n).2,[])) else s
def nA (f d:Int)(v:Wd)(L:List In):Int × List Int:=L.foldl (tK f d v) (0,[])
theorem dZ (f d:Int)(v:Wd)(L:List In)(n:In):nA f d v (L++[n])=tK f d v (nA f d v L) n:=by simp[nA]
open Classical in
noncomputable def fZ (f d:Int)(v:Wd)(L:List In)(out:Int):Int × List Int:=if kM f d L out=true then(if Fits f d v then nA f d v L else(1,[])) else(15,[])
def TwP (w:World)(Z:Int × List Int)(e:Ending)(W':World):Prop :=
 ∃ a c,e=.returned (.tuple #[.slice a Z.2.length c,.i Z.1])/\W'.ownsRow w.heap.size 3 1 (.slice a Z.2.length c) Z.2.length (iD Z.2)/\Below w.heap.size w W'
theorem aKk (f d:Int)(L:List In)(out:Int):(kM f d L out=true/\ccE f d L out=0)\/(¬kM f d L out=true/\ccE f d L out=15):=by
 unfold ccE
 by_cases h:kM f d L out=true
 ·exact .inl ⟨h,if_pos h⟩
 ·exact .inr ⟨h,if_neg h⟩
theorem aQ {f d:Int}{L:List In}{out:Int}(h:kM f d L out=true):May f d/\1<=L.length/\L.length<=200/\0<=out/\out < L.length/\eH L L.length=true:=by
 simp only[kM,bAt,dEt,Spn.aK] at h
 obtain⟨⟨⟨h1,h2⟩,h3⟩,h4⟩:=h
 exact⟨h1,by omega,by omega,by omega,by omega,h4⟩
theorem aEa {f d:Int}{v:Wd}{D Z:List Int}{n:In}(h:bE n D.length=true):cZ f d v (D++Z) n=cZ f d v D n:=by
 have e:gW (D++Z) n=gW D n:=by
  unfold gW
  apply List.map_congr_left
  intro r hr
  obtain⟨j,hj,rfl⟩:=List.getElem_of_mem hr
  rw[gN] at hj
  have:=qF h hj
  rw[<-sH n j hj,gdE,gEg (by rw[gN];exact hj)] at this
  exact dJ this.2
 rw[cZ,cZ,e]
end
section
open YticnbcfmbhjbgaaGreatDoor (Wd dQ Fits inpV dX)
open Go.RowKit Go.IntWalk Knd
open YticnbcfmbhjbgaaGreatDoor (aB)
def eU (L:List In):Int:=L.foldl (fun s n=>s+jK n.op) 0
theorem gG (L:List In)(n:In):eU (L++[n])=eU L+jK n.op:=by simp[eU]
theorem aKl (f d out:Int){a:Option Addr}{n cap:Nat}{L:List In}{W:World}(hL:Ins W a n cap L)(hn:n<=1000000000000000) :
  Calls Tryz.prog 48 #[.agg (cd f d a n cap out)] W fun e W'=>e=.returned (.i (eU L))/\Below W.heap.size W W':=by
 have HB0:=aA (aD W (.cells (cd f d a n cap out) 33))
 have HLI:=aA hL
 have HLn:=aA hL.len
 clear hL
 go_enter Tryz.func48,Tryz.ntmps48
 go_wp2_with fail
 go_loopw [3,9] (fun s i wr=>∃(k:Nat) (c:Int),k<=n/\i=.i k/\s=.i c/\0<=c/\c<=6*k/\Hid (c=eU (L.take k))/\Hid (Below W.heap.size W wr)) (fun _ i _=>n-(intOf i).toNat)
 case atStart=>exact⟨0,0,nZl _,rfl,rfl,iLr _,iLr _,aA rfl,HB0⟩
 case round =>
  obtain⟨k,c,hk,rfl,rfl,hc0,hc6,HC,HB⟩:=hrel
  rename World=>V
  clear HB0
  by_cases hlt:k < n
  ·obtain⟨g,off,rfl,-,hat⟩:=(HLI.o.later HB.o).at (by omega)
   obtain⟨e0,e1,e2,e3,e4,e5⟩:=hat k hlt
   clear hat
   have hi0:(0:Int)<=k:=by omega
   have hi1:(k:Int) < n:=by omega
   have HC2:=aA (show c+jK (L.getD k i0).op=eU (L.take (k+1)) by rw[aG i0 (by rw[HLn.o];exact hlt),gG,HC.o])
   generalize L.getD k i0=m at *
   have HCo:=aA fun w=>iY m.op w
   obtain⟨z0,z1⟩:=aNb m.op
   generalize jK m.op=z at *
   have HB2:=aA (bel HB.o (aD V (.cells (ia m) 132)))
   go_wp2_with (go_at_call 100;refine(HCo.o _).mono ?_;rintro e w' ⟨rfl,rfl⟩)
   go_roundw
   case rel=>exact⟨k+1,c+z,by omega,by go_num,rfl,by omega,by omega,HC2,HB2⟩
   case measure=>simp[intOf];omega
  ·obtain rfl:k=n:=by omega
   have hC:=HC.o
   rw[lTl (by rw[HLn.o];exact nLr _)] at hC
   have HC2:=aA hC
   clear hC
   go_wp2_with fail
   go_ret
   exact⟨aO HC2.o,HB.o⟩
end
open YticnbcfmbhjbgaaGreatDoor (Wd dQ Fits inpV dX)
open Knd
def ctR (r:Nat)(A:List Int):Int:=((A.filter fun x=>decide (x.toNat=r)).length:Nat)
def agA (L:List In):List Int:=L.flatMap eF
def usU (L:List In)(out:Int):List Int:=(List.range L.length).map fun(r:Nat)=>(if out=(r:Int) then 1 else 0)+ctR r (agA L)
theorem aMm (n:In){q:Nat}(h:q < dC n):(eF n).take (q+1)=(eF n).take q++[mV n q]:=by
 rw[aG 0 (by rw[gN];exact h),sH n q h]
theorem aMl (n:In):(eF n).take (dC n)=eF n:=lTl (by rw[gN];exact nLr _)
end Go.Proofs.Cde
