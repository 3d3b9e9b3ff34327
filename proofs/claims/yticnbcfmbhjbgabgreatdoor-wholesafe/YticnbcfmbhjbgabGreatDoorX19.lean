import Derived.Test.YticnbcfmbhjbgabGreatDoorXH
import Derived.Deep.RegionWith
import Derived.Test.YticnbcfmbhjbgabGreatDoorX17
import Derived.Test.YticnbcfmbhjbgabGreatDoorX18
set_option maxRecDepth 100000
set_option maxHeartbeats 32000000
set_option linter.unusedVariables false
namespace Go.Proofs.Cde
open Go.RowKit Go.IntWalk Knd
open YticnbcfmbhjbgabGreatDoor (aB)
open YticnbcfmbhjbgabGreatDoor (Wd eZ Fits inpV fG)
variable {i k:Nat} {n:In}
def gK (V:List Int)(n:In):List Int:=(dY n).map fun r=>V.getD r.toNat 0
def bV (f d:Int)(v:Wd)(V:List Int)(n:In):Int × Int :=
 if n.op=1 then(n.k,0) else if n.op=2 then(inpV f d v n.k,0) else if n.op=3 then(if bW f d<=n.k then(0,11) else(v.ps.getD n.k.toNat 0,0)) else Spn.bK n.op n.k n.s (gK V n)
theorem eF (V:List Int)(n:In):(gK V n).length=bZ n:=by rw[gK,List.length_map,gL]
theorem sD (n:In)(k:Nat)(h:k < bZ n):(dY n).getD k 0=lL n k:=by
 rw[dY,gdE,List.getElem?_take_of_lt h]
 rfl
theorem sF (V:List Int)(n:In)(k:Nat)(h:k < bZ n):(gK V n).getD k 0=V.getD (lL n k).toNat 0:=by
 rw[<-sD n k h,gK]
 simp[List.getD_eq_getElem?_getD,List.getElem?_map,List.getElem?_eq_getElem (show k < (dY n).length by rw[gL];exact h)]
def arM (V:List Int)(n:In)(k:Nat):List Int:=(gK V n).take k++(abc n).drop k
theorem aId (V:List Int)(n:In)(h:k<=bZ n):(arM V n k).length=3:=by
 have:=jW n
 simp[arM,eF,abc]
 omega
theorem aAz (V:List Int)(n:In)(h:k < bZ n):arM V n k=(gK V n).take k++lL n k::(abc n).drop (k+1):=by
 have:=jW n
 rw[arM,List.drop_eq_getElem_cons (show k < (abc n).length by simp[abc];omega)]
 congr 2
 rw[<-uR n k (by omega),gdE,gEg (by simp[abc];omega)]
 rfl
theorem aMp (V:List Int)(n:In)(h:k < bZ n):(gK V n).take k++V.getD (lL n k).toNat 0::(abc n).drop (k+1)=arM V n (k+1):=by
 rw[arM,aG 0 (by rw[eF];exact h),sF V n k h]
 simp
theorem aRr (V:List Int)(n:In)(h:k < bZ n):(arM V n k).getD k 0=lL n k:=by
 rw[aAz V n h,gdE,gAr (by rw[lLt];omega)]
 have e:k-((gK V n).take k).length=0:=by rw[lLt,eF];omega
 rw[e]
 rfl
theorem aMo (V:List Int)(n:In):arM V n (bZ n)=gK V n++(abc n).drop (bZ n):=by
 rw[arM,lTl (by rw[eF];exact nLr _)]
theorem aRg {W:World}{g:Nat}{L M:List Int}(h:aB W g 3 (zA (L++M)))(hl:(L++M).length=3):Ints W (some ⟨g,0,none⟩) L.length 3 L:=by
 have h2:L.length<=3:=by rw[<-hl];simp
 refine⟨rfl,h2,by decide,(fun h=>by cases h),.inr ⟨g,0,rfl,fun i hi=>?_⟩⟩
 rw[nZa,h.cell i (fA _ i (by simp;omega)),dN hi]
theorem aCl {f d:Int}{v:Wd}(h:Fits f d v):(v.ps.length:Int)=bW f d:=h.2.1
theorem oG (h:bE n i=true){j:Nat}(hj:j < bZ n):0<=lL n j/\(lL n j).toNat < i:=by
 simp only[bE,bAt] at h
 have h3:=jW n
 have hr:=h.1.2
 rw[<-aBt] at hr
 simp only[rgT,lAe,List.mem_range] at hr
 have:=hr j (by omega)
 rw[sW,if_pos (by simp[bZ] at *;omega),Spn.aK] at this
 omega
theorem qD (h:bE n i=true):mG n=true:=by
 simp only[bE,bAt] at h
 exact h.2
theorem zT (h:bE n i=true):0<=Spn.ar n.op:=by
 simp only[bE,bAt,dEt] at h
 exact h.1.1
theorem xW (n:In)(W:World) :
  Calls Tryz.prog 33 #[.agg (ia n)] W fun e W'=>∃ g,e=.returned (.slice (some ⟨g,0,none⟩) (bZ n) 3)/\W.heap.size<=g/\aB W' g 3 (zA (abc n))/\Below W.heap.size W W' :=
 (uT n W).mono fun e W' ⟨h1,h2,h3⟩=>⟨_,h1,by omega,h2,h3⟩
end Go.Proofs.Cde
namespace Go.Proofs.Cde
open YticnbcfmbhjbgabGreatDoor (Wd eZ Fits inpV fG)
open Go.RowKit Go.IntWalk Knd
open YticnbcfmbhjbgabGreatDoor (aB)
def rX (f d:Int)(v:Wd)(s:Int × List Int)(n:In):Int × List Int :=
 if s.1=0 then(if (bV f d v s.2 n).2=0 then(0,s.2++[(bV f d v s.2 n).1]) else((bV f d v s.2 n).2,[])) else s
def jQ (f d:Int)(v:Wd)(L:List In):Int × List Int:=L.foldl (rX f d v) (0,[])
theorem dG (f d:Int)(v:Wd)(L:List In)(n:In):jQ f d v (L++[n])=rX f d v (jQ f d v L) n:=by simp[jQ]
theorem uP (f d:Int)(v:Wd)(L:List In):∀ k,k<=L.length->(jQ f d v (L.take k)).1=0->(jQ f d v (L.take k)).2.length=k
 | 0,_,_=>by simp[jQ]
 | k+1,h,he=>by
  have ih:=uP f d v L k (by omega)
  rw[aG i0 (by omega),dG] at he ⊢
  unfold rX at he ⊢
  split at he
  ·rename_i h0
   rw[if_pos h0]
   split at he
   ·rename_i h1
    rw[if_pos h1]
    simp[ih h0]
   ·rename_i h1
    exact absurd he h1
  ·rename_i h0
   exact absurd he h0
open Classical in
noncomputable def fQ (f d:Int)(v:Wd)(L:List In)(out:Int):Int × List Int:=if kR f d L out=true then(if Fits f d v then jQ f d v L else(1,[])) else(15,[])
def TwP (w:World)(Z:Int × List Int)(e:Ending)(W':World):Prop :=
 ∃ a c,e=.returned (.tuple #[.slice a Z.2.length c,.i Z.1])/\W'.ownsRow w.heap.size 3 1 (.slice a Z.2.length c) Z.2.length (gV Z.2)/\Below w.heap.size w W'
theorem TwP.no {w W':World}{er:Int}(hb:Below w.heap.size w W'):TwP w (er,[]) (.returned (.tuple #[.slice none 0 0,.i er])) W':=⟨_,_,rfl,⟨rfl,.inl ⟨rfl,rfl⟩⟩,hb⟩
theorem TwP.row {w W':World}{D:List Int}{g n:Nat}(hg:aB W' g 3 (zA D))(hn:D.length=n)(h0:w.heap.size<=g)(hl:n<=1024)(hb:Below w.heap.size w W'):TwP w (0,D) (.returned (.tuple #[.slice (some ⟨g,0,none⟩) n n,.i 0])) W':=by
 subst hn
 exact⟨_,_,rfl,aZl hg h0 hl,hb⟩
theorem aKf (f d:Int)(L:List In)(out:Int):(kR f d L out=true/\ccE f d L out=0)\/(¬kR f d L out=true/\ccE f d L out=15):=by
 unfold ccE
 by_cases h:kR f d L out=true
 ·exact .inl ⟨h,if_pos h⟩
 ·exact .inr ⟨h,if_neg h⟩
theorem aP {f d:Int}{L:List In}{out:Int}(h:kR f d L out=true):May f d/\1<=L.length/\L.length<=200/\0<=out/\out < L.length/\eG L L.length=true:=by
 simp only[kR,bAt,dEt,Spn.aK] at h
 obtain⟨⟨⟨h1,h2⟩,h3⟩,h4⟩:=h
 exact⟨h1,by omega,by omega,by omega,by omega,h4⟩
theorem xN {f d:Int}{v:Wd}{D Z:List Int}{n:In}(h:bE n D.length=true):bV f d v (D++Z) n=bV f d v D n:=by
 have e:gK (D++Z) n=gK D n:=by
  unfold gK
  apply List.map_congr_left
  intro r hr
  obtain⟨j,hj,rfl⟩:=List.getElem_of_mem hr
  rw[gL] at hj
  have:=oG h hj
  rw[<-sD n j hj,gdE,gEg (by rw[gL];exact hj)] at this
  exact dN this.2
 rw[bV,bV,e]
end Go.Proofs.Cde
namespace Go.Proofs.Cde
open YticnbcfmbhjbgabGreatDoor (Wd eZ Fits inpV fG)
open Go.RowKit Go.IntWalk Knd
open YticnbcfmbhjbgabGreatDoor (aB)
def eQ (L:List In):Int:=L.foldl (fun s n=>s+jT n.op) 0
theorem gZ (L:List In)(n:In):eQ (L++[n])=eQ L+jT n.op:=by simp[eQ]
theorem aKg (f d out:Int){a:Option Addr}{n cap:Nat}{L:List In}{W:World}(hL:Ins W a n cap L)(hn:n<=1000000000000000) :
  Calls Tryz.prog 45 #[.agg (cd f d a n cap out)] W fun e W'=>e=.returned (.i (eQ L))/\Below W.heap.size W W':=by
 have HB0:=aA (aD W (.cells (cd f d a n cap out) 39))
 have HLI:=aA hL
 have HLn:=aA hL.len
 clear hL
 go_enter Tryz.func45,Tryz.ntmps45
 go_wp2_with fail
 go_loopw [3,9] (fun s i wr=>∃(k:Nat) (c:Int),k<=n/\i=.i k/\s=.i c/\0<=c/\c<=6*k/\Hid (c=eQ (L.take k))/\Hid (Below W.heap.size W wr)) (fun _ i _=>n-(intOf i).toNat)
 case atStart=>exact⟨0,0,nZl _,rfl,rfl,iLr _,iLr _,aA rfl,HB0⟩
 case round =>
  obtain⟨k,c,hk,rfl,rfl,hc0,hc6,HC,HB⟩:=hrel
  rename World=>V
  clear HB0
  by_cases hlt:k < n
  ·obtain⟨g,off,rfl,-,hat⟩:=(HLI.o.later HB.o).at (by omega)
   obtain⟨e0,e1,e2,e3,e4,e5⟩:=hat k hlt
   clear hat
   have hi0:(0:Int)<=k:=by omega
   have hi1:(k:Int) < n:=by omega
   have HC2:=aA (show c+jT (L.getD k i0).op=eQ (L.take (k+1)) by rw[aG i0 (by rw[HLn.o];exact hlt),gZ,HC.o])
   generalize L.getD k i0=m at *
   have HCo:=aA fun w=>pU m.op w
   obtain⟨z0,z1⟩:=aM3 m.op
   generalize jT m.op=z at *
   have HB2:=aA (bel HB.o (aD V (.cells (ia m) 76)))
   go_wp2_with (go_at_call 105;refine(HCo.o _).mono ?_;rintro e w' ⟨rfl,rfl⟩)
   go_roundw
   case rel=>exact⟨k+1,c+z,by omega,by go_num,rfl,by omega,by omega,HC2,HB2⟩
   case measure=>simp[intOf];omega
  ·obtain rfl:k=n:=by omega
   have hC:=HC.o
   rw[lTl (by rw[HLn.o];exact nLr _)] at hC
   have HC2:=aA hC
   clear hC
   go_wp2_with fail
   go_ret
   exact⟨aO HC2.o,HB.o⟩
end Go.Proofs.Cde
namespace Go.Proofs.Cde
open YticnbcfmbhjbgabGreatDoor (Wd eZ Fits inpV fG)
open Knd
def ctR (r:Nat)(A:List Int):Int:=((A.filter fun x=>decide (x.toNat=r)).length:Nat)
def agA (L:List In):List Int:=L.flatMap dY
def usU (L:List In)(out:Int):List Int:=(List.range L.length).map fun(r:Nat)=>(if out=(r:Int) then 1 else 0)+ctR r (agA L)
theorem aMg (n:In){q:Nat}(h:q < bZ n):(dY n).take (q+1)=(dY n).take q++[lL n q]:=by
 rw[aG 0 (by rw[gL];exact h),sD n q h]
theorem aMf (n:In):(dY n).take (bZ n)=dY n:=lTl (by rw[gL];exact nLr _)
end Go.Proofs.Cde
