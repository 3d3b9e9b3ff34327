import Derived.Test.YtijbmdmeiancgaaGreatXH
import Derived.ProofKit
import Derived.OpenShut
import Derived.ChangeOld
import Derived.SizedLaws
import Derived.Below
import Derived.Deep.Slices
import Derived.Deep.RegionWith
import Derived.Deep.RegionHeld3
import Derived.Test.YtijbmdmeiancgaaGreatX15
import Derived.Test.YtijbmdmeiancgaaGreatX17
import Derived.Test.YtijbmdmeiancgaaGreatX00
set_option maxRecDepth 100000
set_option maxHeartbeats 32000000
set_option linter.unusedVariables false
namespace Go.Proofs.Cde
open Go.RowKit Go.IntWalk Knd
open YtijbmdmeiancgaaGreat (Wd tF Fits inpV)
variable {i k:Nat} {n:In}
def jM (V:List Int)(n:In):List Int:=(dP n).map fun r=>V.getD r.toNat 0
def fB (f d:Int)(v:Wd)(V:List Int)(n:In):Int × Int :=
 if n.op=1 then(n.k,0) else if n.op=2 then(inpV f d v n.k,0) else if n.op=3 then(if eG f d<=n.k then(0,11) else(v.ps.getD n.k.toNat 0,0)) else Spn.aR n.op n.k n.s (jM V n)
theorem qL (V:List Int)(n:In):(jM V n).length=dG n:=by rw[jM,List.length_map,fD]
theorem nP (n:In)(k:Nat)(h:k < dG n):(dP n).getD k 0=jS n k:=by
 rw[dP,List.getD_eq_getElem?_getD,List.getElem?_take_of_lt h]
 rfl
theorem aOw (V:List Int)(n:In)(k:Nat)(h:k < dG n):(jM V n).getD k 0=V.getD (jS n k).toNat 0:=by
 rw[<-nP n k h,jM]
 simp[List.getD_eq_getElem?_getD,List.getElem?_map,List.getElem?_eq_getElem (show k < (dP n).length by rw[fD];exact h)]
def arM (V:List Int)(n:In)(k:Nat):List Int:=(jM V n).take k++(abc n).drop k
theorem aL9 (V:List Int)(n:In)(h:k<=dG n):(arM V n k).length=3:=by
 have:=lQ n
 simp[arM,qL,abc]
 omega
theorem wR (V:List Int)(n:In)(h:k < dG n):arM V n k=(jM V n).take k++jS n k::(abc n).drop (k+1):=by
 have:=lQ n
 rw[arM,List.drop_eq_getElem_cons (show k < (abc n).length by simp[abc];omega)]
 congr 2
 rw[<-rD n k (by omega),List.getD_eq_getElem?_getD,List.getElem?_eq_getElem (by simp[abc];omega)]
 rfl
theorem aHy (V:List Int)(n:In)(h:k < dG n):(jM V n).take k++V.getD (jS n k).toNat 0::(abc n).drop (k+1)=arM V n (k+1):=by
 rw[arM,aM 0 (by rw[qL];exact h),aOw V n k h]
 simp
theorem aNm (V:List Int)(n:In)(h:k < dG n):(arM V n k).getD k 0=jS n k:=by
 rw[wR V n h,List.getD_eq_getElem?_getD,List.getElem?_append_right (by rw[List.length_take];omega)]
 have e:k-((jM V n).take k).length=0:=by rw[List.length_take,qL];omega
 rw[e]
 rfl
theorem aKq (V:List Int)(n:In):arM V n (dG n)=jM V n++(abc n).drop (dG n):=by
 rw[arM,List.take_of_length_le (by rw[qL];exact Nat.le_refl _)]
theorem aN3 {W:World}{g:Nat}{L M:List Int}(h:aI W g 3 (zA (L++M)))(hl:(L++M).length=3):Ints W (some ⟨g,0,none⟩) L.length 3 L:=by
 have h2:L.length<=3:=by rw[<-hl];simp
 refine⟨rfl,h2,by decide,(fun h=>by cases h),.inr ⟨g,0,rfl,fun i hi=>?_⟩⟩
 rw[Nat.zero_add,h.cell i (dS _ i (by simp;omega)),gP hi]
theorem aMg {f d:Int}{v:Wd}(h:Fits f d v):(v.ps.length:Int)=eG f d:=h.2.1
theorem oD (h:bJ n i=true){j:Nat}(hj:j < dG n):0<=jS n j/\(jS n j).toNat < i:=by
 simp only[bJ,Bool.and_eq_true] at h
 have h3:=lQ n
 have hr:=h.1.2
 rw[<-rM] at hr
 simp only[rgT,List.all_eq_true,List.mem_range] at hr
 have:=hr j (by omega)
 rw[nI,if_pos (by simp[dG] at *;omega),Spn.aP] at this
 omega
theorem nV (h:bJ n i=true):kZ n=true:=by
 simp only[bJ,Bool.and_eq_true] at h
 exact h.2
theorem vI (h:bJ n i=true):0<=Spn.ar n.op:=by
 simp only[bJ,Bool.and_eq_true,decide_eq_true_eq] at h
 exact h.1.1
theorem vG (n:In)(W:World) :
  Calls Tryz.prog 70 #[.agg (ia n)] W fun e W'=>∃ g,e=.returned (.slice (some ⟨g,0,none⟩) (dG n) 3)/\W.heap.size<=g/\aI W' g 3 (zA (abc n))/\Below W.heap.size W W' :=
 (aGg n W).mono fun e W' ⟨h1,h2,h3⟩=>⟨_,h1,by omega,h2,h3⟩
end Go.Proofs.Cde
namespace Go.Proofs.Cde
open YtijbmdmeiancgaaGreat (Wd tF Fits inpV)
open Go.ChangeShapes Go.WideShapes Go.ChangeAt Go.RowKit
variable {W:World} {b fuel:Nat} {v:Value}
theorem aQs:ownKnob Tryz.prog.godebug=none:=by kernel_rfl
theorem uX:laidOutB Tryz.prog=true:=by kernel_rfl
theorem aK8:Tryz.prog.cellsOf 23=2:=by kernel_rfl
theorem aMa:Tryz.prog.cellsOf 3=1:=by kernel_rfl
theorem zL:Tryz.prog.cellsOf 57=6:=by kernel_rfl
theorem aNo:Tryz.prog.cellsOf 26=4:=by kernel_rfl
theorem aEn:Tryz.prog.bytesOf 3=8:=by kernel_rfl
theorem aLh:Tryz.prog.bytesOf 57=48:=by kernel_rfl
theorem gG {H:Type}{enc:TypeId × Value->H}{sp:Nat->Bool}{hd:Bool}{n:Nat}{y:Option (DataW H × List MemPlace)}
  (h:DataW.trod enc Tryz.prog W b sp hd n 3 [v]=y) (hy:y.isSome=true):∃ a,v=.int .i64 a:=by
 cases y with
 | none=>cases hy
 | some x =>
  obtain⟨a,h1,h2,h3⟩:=DataW.trod_int Tryz.underlying3 h
  simp at h1
  exact⟨a,h1⟩
theorem aL6 {H:Type}{enc:TypeId × Value->H}{sp:Nat->Bool}{hd:Bool}{cs:List Value}{x:DataW H × List MemPlace}
  (h:DataW.trod enc Tryz.prog W b sp hd fuel 23 cs=some x):∃ p q,cs=[.int .i64 p,.int .i64 q]:=by
 obtain⟨xs,n,_,hx,hl,hxs,hall⟩:=DataW.trod_struct Tryz.underlying23 h
 rw[aK8] at hl
 have hlen:xs.length=2:=hxs
 match cs,hl with
 | [c0,c1],_ =>
  have f0:=hall 0 _ rfl
  have f1:=hall 1 _ rfl
  obtain⟨p,rfl⟩:=gG (v:=c0) f0 (by simp[hlen])
  obtain⟨q,rfl⟩:=gG (v:=c1) f1 (by simp[hlen])
  exact⟨p,q,rfl⟩
theorem aE9 {H:Type}{enc:TypeId × Value->H}{sp:Nat->Bool}{hd:Bool}{cs:List Value}{x:DataW H × List MemPlace}
  (h:DataW.trod enc Tryz.prog W b sp hd fuel 57 cs=some x):∃ n:In,cs=i6 n:=by
 obtain⟨xs,n,_,hx,hl,hxs,hall⟩:=DataW.trod_struct Tryz.underlying57 h
 rw[zL] at hl
 have hlen:xs.length=6:=hxs
 match cs,hl with
 | [c0,c1,c2,c3,c4,c5],_ =>
  have f0:=hall 0 _ rfl
  have f1:=hall 1 _ rfl
  have f2:=hall 2 _ rfl
  have f3:=hall 3 _ rfl
  have f4:=hall 4 _ rfl
  have f5:=hall 5 _ rfl
  obtain⟨y0,rfl⟩:=gG (v:=c0) f0 (by simp[hlen])
  obtain⟨y1,rfl⟩:=gG (v:=c1) f1 (by simp[hlen])
  obtain⟨y2,rfl⟩:=gG (v:=c2) f2 (by simp[hlen])
  obtain⟨y3,rfl⟩:=gG (v:=c3) f3 (by simp[hlen])
  obtain⟨y4,rfl⟩:=gG (v:=c4) f4 (by simp[hlen])
  obtain⟨y5,rfl⟩:=gG (v:=c5) f5 (by simp[hlen])
  exact⟨⟨y0,y1,y2,y3,y4,y5⟩,rfl⟩
theorem xV {H:Type}{enc:TypeId × Value->H}{x:DataW H × List MemPlace}
  (h:DataW.trod enc Tryz.prog W 0 (fun _=>true) true fuel 27 [v]=some x) :
  ∃ a n c zs,v=.slice a n c/\Knd.Ints W a n c zs/\((x.1=.nil/\n=0)\/∃ els spare,x.1=.slice els spare/\els.length=n):=by
 rcases open_ints Tryz.underlying27 Tryz.underlying3 aMa h with⟨hcs,hx⟩|⟨ad,l,c',zs,hcs,_,hl,hm,hz,hx,hcell,hwz⟩
 ·simp at hcs
  exact⟨none,0,0,[],hcs,⟨rfl,Nat.le_refl _,Nat.zero_le _,fun _=>rfl,.inl rfl⟩,.inl ⟨by rw[hx],rfl⟩⟩
 ·simp at hcs
  simp only[if_true] at hz
  refine⟨some ad,l,c',zs.take l,hcs,⟨by rw[List.length_take];omega,hl,hm,(fun h=>by cases h),?_⟩,.inr ⟨_,_,by rw[hx],by simp[lits,List.length_take];omega⟩⟩
  by_cases h0:l=0
  ·exact .inl h0
  ·obtain⟨b,off,spot⟩:=ad
   have hspot:spot=none:=by simpa [Addr.add] using World.cell?_spot (hcell 0 (by omega))
   subst hspot
   refine .inr ⟨b,off,rfl,fun i hi=>?_⟩
   have:=hcell i (by omega)
   rw[Addr.add_lit] at this
   rw[this]
   simp[List.getD,hi]
theorem aKa {H:Type}{enc:TypeId × Value->H}{x:DataW H × List MemPlace}
  (h:DataW.trod enc Tryz.prog W 0 (fun _=>true) true fuel 24 [v]=some x) :
  ∃ a n c L,v=.slice a n c/\Ins W a n c L/\((x.1=.nil/\n=0)\/∃ els spare,x.1=.slice els spare/\els.length=n):=by
 rcases DataW.trod_slice Tryz.underlying24 h with⟨hcs,hx⟩|⟨ad,l,c',elems,rest,m,_,hcs,hx,_,hl,hm,hlen,hel,-,-⟩
 ·simp at hcs
  exact⟨none,0,0,[],hcs,⟨rfl,Nat.le_refl _,Nat.zero_le _,fun _=>rfl,.inl rfl⟩,.inl ⟨by rw[hx],rfl⟩⟩
 ·simp at hcs
  by_cases h0:l=0
  ·exact⟨some ad,l,c',[],hcs,⟨h0.symm,hl,hm,(fun h=>by cases h),.inl h0⟩,.inr ⟨_,_,by rw[hx],by simp[hlen]⟩⟩
  obtain⟨b,off,spot⟩:=ad
  have hspot:spot=none:=by
   have h1:=hel 0 (by omega)
   rw[zL,List.getElem?_eq_getElem (by omega),Option.bind_eq_some_iff] at h1
   obtain⟨cs,hc,ht⟩:=h1
   obtain⟨n,rfl⟩:=aE9 ht
   obtain⟨-,hcl,hce⟩:=World.cells?_some hc
   have h2:=hce 0 (by omega)
   exact by simpa [Addr.add] using World.cell?_spot (h2.trans rfl)
  subst hspot
  have each:∀ i,i < l->∃ n:In,∀ j v,(i6 n)[j]?=some v->W.cell? ⟨b,off+i*6+j,none⟩=some v:=by
   intro i hi
   have h1:=hel i hi
   rw[zL,List.getElem?_eq_getElem (by omega),Option.bind_eq_some_iff] at h1
   obtain⟨cs,hc,ht⟩:=h1
   obtain⟨n,rfl⟩:=aE9 ht
   obtain⟨-,hcl,hce⟩:=World.cells?_some hc
   refine⟨n,fun j v hj=>?_⟩
   have hj6:j < 6:=by have:=(List.getElem?_eq_some_iff.1 hj).1;omega
   have:=hce j hj6
   rw[hj,Addr.add_lit,Addr.add_lit] at this
   exact this
  obtain⟨S,hS⟩:∃ S:Nat->In,∀ i,i < l->∀ j v,(i6 (S i))[j]?=some v->W.cell? ⟨b,off+i*6+j,none⟩=some v:=by
   refine⟨fun i=>if hi:i < l then(each i hi).choose else i0,fun i hi=>?_⟩
   simp only[dif_pos hi]
   exact(each i hi).choose_spec
  have hget:∀ i,i < l->((List.range l).map S).getD i i0=S i:=fun i hi=>by simp[List.getD,hi]
  refine⟨some ⟨b,off,none⟩,l,c',(List.range l).map S,hcs,⟨by simp,hl,hm,(fun h=>by cases h),?_⟩,.inr ⟨_,_,by rw[hx],by simp[hlen]⟩⟩
  refine .inr ⟨b,off,rfl,World.block_lt_of_cell? W _ (hS 0 (by omega) 0 _ rfl),fun i hi j v hj=>?_⟩
  rw[hget i hi] at hj
  exact hS i hi j v hj
theorem wM {H:Type}{enc:TypeId × Value->H}{r:Reach}{b0:Nat}{d:DataW H}{ps:List MemPlace}
  (hval:Value.okWide Tryz.prog W r b0 26 v) (h:DataW.Trod enc Tryz.prog W 0 (fun _=>true) true 26 v d ps) :
  ∃ f e a n c L o,v=.agg (cd f e a n c o)/\Ins W a n c L/\∃ e0 e1 e2,d=.agg [e0,e1,e2]/\((e1=.nil/\n=0)\/∃ els spare,e1=.slice els spare/\els.length=n):=by
 unfold Value.okWide at hval
 rw[Tryz.underlying26] at hval
 obtain⟨cs,rfl,hsz,_⟩:=hval
 rw[aNo] at hsz
 obtain⟨fuel,hf⟩:=h
 obtain⟨xs,n,_,hx,hl,hxs,hall⟩:=DataW.trod_struct Tryz.underlying26 hf
 obtain⟨c0,c1,c2,c3,rfl⟩:∃ c0 c1 c2 c3,cs=#[c0,c1,c2,c3]:=by
  obtain⟨l⟩:=cs
  match l,hsz with
  | [a,b,c,d],_=>exact⟨a,b,c,d,rfl⟩
 have hlen:xs.length=3:=hxs
 match xs,hlen with
 | [y0,y1,y2],_ =>
  have f0:=hall 0 _ rfl
  have f1:=hall 1 _ rfl
  have f2:=hall 2 _ rfl
  simp only[Value.cells] at f0 f1 f2
  obtain⟨p,q,hp⟩:=aL6 (cs:=[c0,c1]) f0
  simp only[List.cons.injEq,and_true] at hp
  obtain⟨rfl,rfl⟩:=hp
  obtain⟨a,n',c,L,rfl,hI,hd⟩:=aKa (v:=c2) f1
  obtain⟨o,rfl⟩:=gG (v:=c3) f2 rfl
  simp only[Prod.mk.injEq] at hx
  exact⟨p,q,a,n',c,L,o,rfl,hI,y0.1,y1.1,y2.1,by rw[hx.1];rfl,hd⟩
theorem vN {H:Type}{n:Nat}{d:DataW H}{ts:List TypeId}{ds:List (DataW H)}{e0 e1 e2:DataW H}(hd:d=.agg [e0,e1,e2])(he:(e1=.nil/\n=0)\/∃ els spare,e1=.slice els spare/\els.length=n)
  (hsz:(DataW.weightsEach Tryz.prog ts ds).all (·<=reachBytes)=true) (j:Nat) (ht:ts[j]?=some 26) (hj:ds[j]?=some d):n<=2932031007317:=by
 rcases he with⟨_,rfl⟩|⟨els,spare,rfl,rfl⟩
 ·omega
 ·subst hd
  have hmem:(els.length+spare.length)*Tryz.prog.bytesOf 57 ∈ (DataW.agg [e0,DataW.slice els spare,e2]).weights Tryz.prog 26:=by
   simp[DataW.weights,Tryz.underlying26,DataW.weightsEach,Tryz.underlying24]
  have:=of_decide_eq_true (List.all_eq_true.1 hsz _ (DataW.weights_mem_each ht hj _ hmem))
  rw[aLh] at this
  simp only[reachBytes] at this
  omega
end Go.Proofs.Cde
namespace Go.Proofs.Cde
open YtijbmdmeiancgaaGreat (Wd tF Fits inpV)
open Go.RowKit Go.IntWalk Knd
def qY (f d:Int)(v:Wd)(s:Int × List Int)(n:In):Int × List Int :=
 if s.1=0 then(if (fB f d v s.2 n).2=0 then(0,s.2++[(fB f d v s.2 n).1]) else((fB f d v s.2 n).2,[])) else s
def rF (f d:Int)(v:Wd)(L:List In):Int × List Int:=L.foldl (qY f d v) (0,[])
theorem fE (f d:Int)(v:Wd)(L:List In)(n:In):rF f d v (L++[n])=qY f d v (rF f d v L) n:=by simp[rF]
open Classical in
noncomputable def nG (f d:Int)(v:Wd)(L:List In)(out:Int):Int × List Int:=if jG f d L out=true then(if Fits f d v then rF f d v L else(1,[])) else(15,[])
theorem aG8 (f d:Int)(L:List In)(out:Int):(jG f d L out=true/\ccE f d L out=0)\/(¬jG f d L out=true/\ccE f d L out=15):=by
 unfold ccE
 by_cases h:jG f d L out=true
 ·exact .inl ⟨h,if_pos h⟩
 ·exact .inr ⟨h,if_neg h⟩
theorem bD {f d:Int}{L:List In}{out:Int}(h:jG f d L out=true):May f d/\1<=L.length/\L.length<=200/\0<=out/\out < L.length/\eO L L.length=true:=by
 simp only[jG,Bool.and_eq_true,decide_eq_true_eq,Spn.aP] at h
 obtain⟨⟨⟨h1,h2⟩,h3⟩,h4⟩:=h
 exact⟨h1,by omega,by omega,by omega,by omega,h4⟩
theorem yY {f d:Int}{v:Wd}{D Z:List Int}{n:In}(h:bJ n D.length=true):fB f d v (D++Z) n=fB f d v D n:=by
 have e:jM (D++Z) n=jM D n:=by
  unfold jM
  apply List.map_congr_left
  intro r hr
  obtain⟨j,hj,rfl⟩:=List.getElem_of_mem hr
  rw[fD] at hj
  have:=oD h hj
  rw[<-nP n j hj,List.getD_eq_getElem?_getD,List.getElem?_eq_getElem (by rw[fD];exact hj)] at this
  exact gP this.2
 rw[fB,fB,e]
end Go.Proofs.Cde
namespace Go.Proofs.Cde
open YtijbmdmeiancgaaGreat (Wd tF Fits inpV)
open Go.RowKit Go.IntWalk Knd
def eP (L:List In):Int:=L.foldl (fun s n=>s+lL n.op) 0
theorem gL (L:List In)(n:In):eP (L++[n])=eP L+lL n.op:=by simp[eP]
theorem aHf (f d out:Int){a:Option Addr}{n cap:Nat}{L:List In}{W:World}(hL:Ins W a n cap L)(hn:n<=1000000000000000) :
  Calls Tryz.prog 19 #[.agg (cd f d a n cap out)] W fun e W'=>e=.returned (.int .i64 (eP L))/\Below W.heap.size W W':=by
 have HB0:=aC (aH W (.cells (cd f d a n cap out) 26))
 have HLI:=aC hL
 have HLn:=aC hL.len
 clear hL
 go_enter Tryz.func19,Tryz.ntmps19
 go_wp2_with fail
 go_loopw [3,9] (fun s i wr=>∃(k:Nat) (c:Int),k<=n/\i=.int .i64 k/\s=.int .i64 c/\0<=c/\c<=6*k/\Hid (c=eP (L.take k))/\Hid (Below W.heap.size W wr)) (fun _ i _=>n-(intOf i).toNat)
 case atStart=>exact⟨0,0,Nat.zero_le _,rfl,rfl,Int.le_refl _,Int.le_refl _,aC rfl,HB0⟩
 case round =>
  obtain⟨k,c,hk,rfl,rfl,hc0,hc6,HC,HB⟩:=hrel
  rename World=>V
  clear HB0
  by_cases hlt:k < n
  ·obtain⟨g,off,rfl,-,hat⟩:=(HLI.o.later HB.o).at (by omega)
   obtain⟨e0,e1,e2,e3,e4,e5⟩:=hat k hlt
   clear hat
   have hi0:(0:Int)<=k:=by omega
   have hi1:(k:Int) < n:=by omega
   have HC2:=aC (show c+lL (L.getD k i0).op=eP (L.take (k+1)) by rw[aM i0 (by rw[HLn.o];exact hlt),gL,HC.o])
   generalize L.getD k i0=m at *
   have HCo:=aC fun w=>aJz m.op w
   obtain⟨z0,z1⟩:=aCl m.op
   generalize lL m.op=z at *
   have HB2:=aC (bel HB.o (aH V (.cells (ia m) 57)))
   go_wp2_with (go_at_call 33;refine(HCo.o _).mono ?_;rintro e w' ⟨rfl,rfl⟩)
   go_roundw
   case rel=>exact⟨k+1,c+z,by omega,by go_num,rfl,by omega,by omega,HC2,HB2⟩
   case measure=>simp[intOf];omega
  ·obtain rfl:k=n:=by omega
   have hC:=HC.o
   rw[List.take_of_length_le (by rw[HLn.o];exact Nat.le_refl _)] at hC
   have HC2:=aC hC
   clear hC
   go_wp2_with fail
   go_ret
   exact⟨aN HC2.o,HB.o⟩
theorem aK9 {W:World}{g:Nat}{L:List In}(h:aI W g 57 (bG L).toArray)(hl:L.length<=1024):Ins W (some ⟨g,0,none⟩) L.length L.length L:=by
 refine⟨rfl,Nat.le_refl _,by unfold maxLen;omega,(fun h=>by cases h),.inr ⟨g,0,rfl,h.lt,fun i hi j v hv=>?_⟩⟩
 rw[Nat.add_assoc,Nat.zero_add]
 refine h.cell _ ?_
 rw[List.getElem?_toArray]
 exact qG L i hi j v hv
end Go.Proofs.Cde
namespace Go.Proofs.Cde
open YtijbmdmeiancgaaGreat (Wd tF Fits inpV)
open Knd
def ctR (r:Nat)(A:List Int):Int:=((A.filter fun x=>decide (x.toNat=r)).length:Nat)
def agA (L:List In):List Int:=L.flatMap dP
def usU (L:List In)(out:Int):List Int:=(List.range L.length).map fun(r:Nat)=>(if out=(r:Int) then 1 else 0)+ctR r (agA L)
theorem uZ (n:In){q:Nat}(h:q < dG n):(dP n).take (q+1)=(dP n).take q++[jS n q]:=by
 rw[aM 0 (by rw[fD];exact h),nP n q h]
theorem aAr (n:In):(dP n).take (dG n)=dP n:=List.take_of_length_le (by rw[fD];exact Nat.le_refl _)
end Go.Proofs.Cde
namespace Go.Proofs.Cde
open YtijbmdmeiancgaaGreat (Wd tF Fits inpV)
open Go.RowKit Go.IntWalk Knd
theorem rW (n:In)(W:World) :
  Calls Tryz.prog 47 #[.agg (ia n)] W fun e W'=>∃ g,e=.returned (.slice (some ⟨g,0,none⟩) (dG n) 3)/\W.heap.size<=g/\aI W' g 3 (zA (abc n))/\Below W.heap.size W W':=by
 have HA:=aC fun W=>Spn.bZ n.op W
 have HB:=aC (bel (aH W (.cells (ia n) 57)) (aH (W.alloc (.cells (ia n) 57)) (.cells (zA (abc n)) 3)))
 have HG:=aC (aL W (.cells (ia n) 57) 3 (zA (abc n)))
 rcases gT n.op with h|h|h|h|h
 all_goals
  first
   | rw[show dG n=0 by unfold dG;rw[h];rfl]
   | rw[show dG n=1 by unfold dG;rw[h];rfl]
   | rw[show dG n=2 by unfold dG;rw[h];rfl]
   | rw[show dG n=3 by unfold dG;rw[h];rfl]
  rw[h] at HA
  clear h
  go_enter Tryz.func47,Tryz.ntmps47
  go_wp2_with (go_at_call 54;refine(HA.o _).mono ?_;rintro e w2 ⟨rfl,rfl⟩)
  go_ret
  exact⟨_,rfl,Nat.le_succ _,HG.o,HB.o⟩
end Go.Proofs.Cde
namespace Go.Proofs.Cde
open Go.RowKit Go.IntWalk Knd
theorem aQu {n:In}(h:n.op≠33)(hs:n.s≠0):kZ n=false:=by
 have e:(n.s==0)=false:=by simpa using hs
 unfold kZ
 rw[e,if_neg h]
 simp
theorem aQz {n:In}(ha:0<=Spn.ar n.op)(h:n.op=33\/n.s=0) :
  kZ n=if n.op=1 then Spn.wd n.k else if n.op=2 then Spn.dW n.k 0 5 else if n.op=3 then Spn.dW n.k 0 255 else if 29<=n.op then Spn.cons n.op n.k n.s else n.k==0:=by
 have hle:¬33 < n.op:=fun h'=>by rw[Spn.yM (by omega)] at ha;omega
 unfold kZ
 by_cases h1:n.op=1
 ·rw[if_pos h1,if_pos h1,show n.s=0 by omega];simp
 by_cases h2:n.op=2
 ·rw[if_neg h1,if_neg h1,if_pos h2,if_pos h2,show n.s=0 by omega];simp
 by_cases h3:n.op=3
 ·rw[if_neg h1,if_neg h1,if_neg h2,if_neg h2,if_pos h3,if_pos h3,show n.s=0 by omega];simp
 rw[if_neg h1,if_neg h1,if_neg h2,if_neg h2,if_neg h3,if_neg h3]
 by_cases h4:29<=n.op
 ·rw[if_pos h4]
  by_cases h5:n.op=33
  ·rw[if_neg (by omega),if_pos h5]
  ·rw[if_pos (by omega),show n.s=0 by omega];simp
 ·rw[if_neg h4,if_neg (by omega),if_neg (by omega),show n.s=0 by omega];simp
theorem aJu (n:In)(i:Nat)(hi:i<=9223372036854775807)(W:World) :
  Calls Tryz.prog 79 #[.agg (ia n),.int .i64 (i:Int)] W fun e W'=>e=.returned (.bool (bJ n i))/\Below W.heap.size W W':=by
 have HA:=aC fun W=>Spn.bZ n.op W
 have HB0:=aC (aH W (.cells (ia n) 57))
 by_cases ha:Spn.ar n.op < 0
 ·rw[show bJ n i=false by simp[bJ];omega]
  go_enter Tryz.func79,Tryz.ntmps79
  go_wp2_with (go_at_call 54;refine(HA.o _).mono ?_;rintro e w1 ⟨rfl,rfl⟩)
  go_ret
  exact⟨rfl,HB0.o⟩
 have ha2:decide (Spn.ar n.op < 0)=false:=by simpa using ha
 by_cases hs:n.op≠33/\n.s≠0
 ·rw[show bJ n i=false by simp[bJ,aQu hs.1 hs.2]]
  have q1:(n.op != 33)=true:=by simpa using hs.1
  have q2:(n.s != 0)=true:=by simpa using hs.2
  clear hs
  go_enter Tryz.func79,Tryz.ntmps79
  go_wp2_with (go_at_call 54;refine(HA.o _).mono ?_;rintro e w1 ⟨rfl,rfl⟩)
  go_ret
  exact⟨rfl,HB0.o⟩
 have hC:=aQz (n:=n) (by omega) (by omega)
 have HOk:Hid (bJ n i=(rgT n i 3&&kZ n)):=aC (by rw[rM,bJ,decide_eq_true (show 0<=Spn.ar n.op by omega),Bool.true_and])
 have hq:((n.op != 33)=false)\/((n.op != 33)=true/\(n.s != 0)=false):=by
  by_cases h:n.op=33
  ·exact .inl (by simp[h])
  ·exact .inr ⟨by simpa using h,by simp;omega⟩
 have HC:=aC hC
 have HB:=aC (bel (aH W (.cells (ia n) 57)) (aH (W.alloc (.cells (ia n) 57)) (.cells #[.int .i64 n.a,.int .i64 n.b,.int .i64 n.c] 3)))
 have HG:=aC (aL W (.cells (ia n) 57) 3 #[.int .i64 n.a,.int .i64 n.b,.int .i64 n.c])
 have HN:=aC ((aI.new W 57 (ia n)).alloc (.cells #[.int .i64 n.a,.int .i64 n.b,.int .i64 n.c] 3))
 have HT:=aC fun k=>aAm n i k
 have HD:=aC fun k m (h:rgT n i m=true) (hk:k<=m)=>aA0 h hk
 have H0:Hid (rgT n i 0=true):=aC rfl
 have i1:-9223372036854775808<=(i:Int)-1:=by omega
 have i2:(i:Int)-1<=9223372036854775807:=by omega
 generalize rgT n i=T at *
 have HR:=aC fun j h=>aHw n j h
 have HW:=aC fun x w=>Spn.gI x w
 have HCo:=aC fun op k s w=>Spn.dR op k s w
 have HAr:=aC ha
 clear hC ha hs
 rcases hq with q1|⟨q1,q2⟩
 all_goals
  go_enter Tryz.func79,Tryz.ntmps79
  go_wp2_with (go_at_call 54;refine(HA.o _).mono ?_;rintro e w1 ⟨rfl,rfl⟩)
  obtain⟨V,hV⟩:∃ V,(W.alloc (.cells (ia n) 57)).alloc (.cells #[.int .i64 n.a,.int .i64 n.b,.int .i64 n.c] 3)=V:=⟨_,rfl⟩
  rw[hV] at HB HG HN ⊢
  clear hV HA
  go_loop [7] (fun j=>∃ k:Nat,k<=3/\j=.int .i64 k/\Hid (T k=true)) (fun j=>3-(intOf j).toNat)
  case atStart=>exact⟨0,by omega,rfl,aC H0.o⟩
  case round =>
   obtain⟨k,hk,rfl,HK⟩:=hrel
   by_cases hlt:k < 3
   ·have c0:=HG.o.cell k (HR.o k hlt)
    have hs:=HT.o k
    rw[HK.o,Bool.true_and] at hs
    generalize jS n k=r at *
    have j0:(0:Int)<=k:=by omega
    have j1:(k:Int) < 3:=by omega
    by_cases hu:(k:Int) < Spn.ar n.op
    ·rw[show nI r (decide ((k:Int) < Spn.ar n.op)) i=Spn.dW r 0 ((i:Int)-1) by simp[nI,hu]] at hs
     have HS:=aC hs
     clear hs
     have hu2:decide (Spn.ar n.op<=(k:Int))=false:=by simp;omega
     by_cases hr0:r < 0
     ·have HF:Hid (T (k+1)=false):=aC (by rw[HS.o];exact Spn.fI (by omega))
      go_wp2_with fail
      go_ret
      refine⟨bX ?_,HB.o⟩
      rw[HOk.o]
      cases h3:T 3
      ·rfl
      ·have:=HD.o (k+1) 3 h3 (by omega)
       rw[HF.o] at this
       cases this
     ·have hr1:decide (r < 0)=false:=by simpa using hr0
      by_cases hr2:(i:Int)-1 < r
      ·have HF:Hid (T (k+1)=false):=aC (by rw[HS.o];exact Spn.fI (by omega))
       go_wp2_with fail
       go_ret
       refine⟨bX ?_,HB.o⟩
       rw[HOk.o]
       cases h3:T 3
       ·rfl
       ·have:=HD.o (k+1) 3 h3 (by omega)
        rw[HF.o] at this
        cases this
      ·have hr3:decide ((i:Int)-1 < r)=false:=by simpa using hr2
       have HF:Hid (T (k+1)=true):=aC (by rw[HS.o,Spn.aP];omega)
       clear hr0 hr2
       go_wp2_with fail
       go_round
       case rel=>exact⟨k+1,by omega,by go_num,HF⟩
       case measure=>simp[intOf];omega
    ·rw[show nI r (decide ((k:Int) < Spn.ar n.op)) i=(r==0) by simp[nI,hu]] at hs
     have HS:=aC hs
     clear hs
     have hu2:Spn.ar n.op<=(k:Int):=by omega
     have hu3:decide ((k:Int) < Spn.ar n.op)=false:=by simpa using hu
     by_cases hr:r=0
     ·subst hr
      go_wp2_with fail
      go_round
      case rel=>exact⟨k+1,by omega,by go_num,aC HS.o⟩
      case measure=>simp[intOf];omega
     ·have hr2:(r != 0)=true:=by simpa using hr
      have HF:Hid (T (k+1)=false):=aC (by rw[HS.o];simpa using hr)
      clear hr
      go_wp2_with fail
      go_ret
      refine⟨bX ?_,HB.o⟩
      rw[HOk.o]
      cases h3:T 3
      ·rfl
      ·have:=HD.o (k+1) 3 h3 (by omega)
       rw[HF.o] at this
       cases this
   ·obtain rfl:k=3:=by omega
    have hO:=HOk.o
    rw[HK.o,Bool.true_and,HC.o] at hO
    obtain⟨e0,-,-,-,e4,e5⟩:=aJ HN.o
    by_cases h1:n.op=1
    ·rw[if_pos h1] at hO
     have HO:=aC hO
     have p1:(n.op==1)=true:=by simpa using h1
     clear hO h1
     go_wp2_with (go_at_call 86;refine(HW.o _ _).mono ?_;rintro e w1 ⟨rfl,rfl⟩)
     go_ret
     exact⟨bX HO.o.symm,HB.o⟩
    rw[if_neg h1] at hO
    have p1:(n.op==1)=false:=by simpa using h1
    by_cases h2:n.op=2
    ·rw[if_pos h2] at hO
     have HO:=aC hO
     have p2:(n.op==2)=true:=by simpa using h2
     clear hO h1 h2
     by_cases hk0:0<=n.k
     ·go_wp2_with fail
      go_ret
      refine⟨bX ?_,HB.o⟩
      rw[HO.o]
      simp[Spn.dW,hk0]
      omega
     ·have hk1:decide (0<=n.k)=false:=by simpa using hk0
      have HO2:Hid (bJ n i=false):=aC (by rw[HO.o];exact Spn.fI (by omega))
      go_wp2_with fail
      go_ret
      exact⟨bX HO2.o.symm,HB.o⟩
    rw[if_neg h2] at hO
    have p2:(n.op==2)=false:=by simpa using h2
    by_cases h3:n.op=3
    ·rw[if_pos h3] at hO
     have HO:=aC hO
     have p3:(n.op==3)=true:=by simpa using h3
     clear hO h1 h2 h3
     by_cases hk0:0<=n.k
     ·go_wp2_with fail
      go_ret
      refine⟨bX ?_,HB.o⟩
      rw[HO.o]
      simp[Spn.dW,hk0]
      omega
     ·have hk1:decide (0<=n.k)=false:=by simpa using hk0
      have HO2:Hid (bJ n i=false):=aC (by rw[HO.o];exact Spn.fI (by omega))
      go_wp2_with fail
      go_ret
      exact⟨bX HO2.o.symm,HB.o⟩
    rw[if_neg h3] at hO
    have p3:(n.op==3)=false:=by simpa using h3
    by_cases h4:29<=n.op
    ·rw[if_pos h4] at hO
     have HO:=aC hO
     clear hO h1 h2 h3
     go_wp2_with (go_at_call 81;refine(HCo.o _ _ _ _).mono ?_;rintro e w1 ⟨rfl,rfl⟩)
     go_ret
     exact⟨bX HO.o.symm,HB.o⟩
    ·rw[if_neg h4] at hO
     have HO:=aC hO
     have p4:decide (29<=n.op)=false:=by simpa using h4
     clear hO h1 h2 h3 h4
     go_wp2_with fail
     go_ret
     exact⟨bX HO.o.symm,HB.o⟩
theorem aKe (f d:Int)(w:World):Calls Tryz.prog 78 #[.agg (kd f d)] w fun e w'=>e=.returned (.bool (decide (May f d)))/\Below w.heap.size w w':=by
 by_cases h:May f d
 ·rw[decide_eq_true h];exact gW f d w h
 ·rw[decide_eq_false h];exact lY f d w h
theorem aNu {L:List In}{m k:Nat}(hk:k < m)(h:bJ (L.getD k i0) k=false):eO L m=false:=by
 cases h2:eO L m
 ·rfl
 ·have:=bW h2 hk
  rw[h] at this
  cases this
theorem aB5 (f d out:Int){a:Option Addr}{n cap:Nat}{L:List In}{W:World}(hL:Ins W a n cap L) :
  Calls Tryz.prog 44 #[.agg (cd f d a n cap out)] W fun e W'=>e=.returned (.bool (jG f d L out))/\Below W.heap.size W W':=by
 have HB0:=aC (aH W (.cells (cd f d a n cap out) 26))
 have HC0:=aC (aI.new W 26 (cd f d a n cap out))
 have hn:=hL.short
 have HLn:=aC hL.len
 have HK:=aC fun w=>aKe f d w
 have HL0:=aC hL
 clear hL
 have n0:0<=(n:Int):=by omega
 have hE:jG f d L out=(decide (May f d)&&Spn.dW (n:Int) 1 200&&Spn.dW out 0 ((n:Int)-1)&&eO L n):=by rw[jG,HLn.o]
 rw[hE]
 clear hE
 cases hm:decide (May f d)
 ·rw[hm] at HK
  go_enter Tryz.func44,Tryz.ntmps44
  go_wp2_with (go_at_call 78;refine(HK.o _).mono ?_;rintro e w1 ⟨rfl,hb⟩;have HB1:=aC (bel HB0.o hb);obtain⟨c0,c1,c2,c3⟩:=aG (HC0.o.below hb);clear hb)
  go_ret
  exact⟨bX rfl,HB1.o⟩
 rw[hm] at HK
 rw[Bool.true_and]
 by_cases h1:n=0
 ·subst h1
  rw[show Spn.dW ((0:Nat):Int) 1 200=false from rfl]
  go_enter Tryz.func44,Tryz.ntmps44
  go_wp2_with (go_at_call 78;refine(HK.o _).mono ?_;rintro e w1 ⟨rfl,hb⟩;have HB1:=aC (bel HB0.o hb);obtain⟨c0,c1,c2,c3⟩:=aG (HC0.o.below hb);clear hb)
  go_ret
  exact⟨bX rfl,HB1.o⟩
 have q1:((n:Int)==0)=false:=by simpa using h1
 by_cases h2:200 < (n:Int)
 ·rw[show Spn.dW (n:Int) 1 200=false from Spn.fI (by omega)]
  go_enter Tryz.func44,Tryz.ntmps44
  go_wp2_with (go_at_call 78;refine(HK.o _).mono ?_;rintro e w1 ⟨rfl,hb⟩;have HB1:=aC (bel HB0.o hb);obtain⟨c0,c1,c2,c3⟩:=aG (HC0.o.below hb);clear hb)
  go_ret
  exact⟨bX rfl,HB1.o⟩
 have q2:decide (200 < (n:Int))=false:=by simpa using h2
 rw[Spn.kR (show 1<=(n:Int) by omega) (by omega),Bool.true_and]
 by_cases h3:out < 0
 ·rw[show Spn.dW out 0 ((n:Int)-1)=false from Spn.fI (by omega)]
  go_enter Tryz.func44,Tryz.ntmps44
  go_wp2_with (go_at_call 78;refine(HK.o _).mono ?_;rintro e w1 ⟨rfl,hb⟩;have HB1:=aC (bel HB0.o hb);obtain⟨c0,c1,c2,c3⟩:=aG (HC0.o.below hb);clear hb)
  go_ret
  exact⟨bX rfl,HB1.o⟩
 have q3:decide (out < 0)=false:=by simpa using h3
 by_cases h4:(n:Int)<=out
 ·rw[show Spn.dW out 0 ((n:Int)-1)=false from Spn.fI (by omega)]
  go_enter Tryz.func44,Tryz.ntmps44
  go_wp2_with (go_at_call 78;refine(HK.o _).mono ?_;rintro e w1 ⟨rfl,hb⟩;have HB1:=aC (bel HB0.o hb);obtain⟨c0,c1,c2,c3⟩:=aG (HC0.o.below hb);clear hb)
  go_ret
  exact⟨bX rfl,HB1.o⟩
 have q4:decide ((n:Int)<=out)=false:=by simpa using h4
 rw[Spn.kR (show 0<=out by omega) (by omega),Bool.true_and]
 have hn2:n<=200:=by omega
 clear h1 h2 h3 h4
 go_enter Tryz.func44,Tryz.ntmps44
 go_wp2_with (go_at_call 78;refine(HK.o _).mono ?_;rintro e w1 ⟨rfl,hb⟩;have HB1:=aC (bel HB0.o hb);have HC1:=aC (HC0.o.below hb);obtain⟨c0,c1,c2,c3⟩:=aG (HC0.o.below hb);clear hb)
 clear c0 c1 c2 c3 HB0 HC0 HK q1 q2 q3 q4 hm
 go_loopw [3] (fun i wr=>∃ k:Nat,k<=n/\i=.int .i64 k/\Hid (eO L k=true)/\Hid (aI wr W.heap.size 26 (cd f d a n cap out))/\Hid (Below W.heap.size W wr)) (fun i _=>n-(intOf i).toNat)
 case atStart=>exact⟨0,Nat.zero_le _,rfl,aC rfl,HC1,HB1⟩
 case round =>
  obtain⟨k,hk,rfl,HT,HC,HB⟩:=hrel
  rename World=>V
  clear HC1 HB1
  obtain⟨c0,c1,c2,c3⟩:=aG HC.o
  by_cases hlt:k < n
  ·obtain⟨g,off,rfl,-,hat⟩:=(HL0.o.later HB.o).at (by omega)
   obtain⟨e0,e1,e2,e3,e4,e5⟩:=hat k hlt
   clear hat
   have hi0:(0:Int)<=k:=by omega
   have hi1:(k:Int) < n:=by omega
   have hS:=aBu L k
   have HD:=aC fun h=>aNu (L:=L) (m:=n) hlt h
   generalize L.getD k i0=m at *
   rw[HT.o,Bool.true_and] at hS
   have HS:=aC hS
   clear hS
   have HM:=aC fun w=>aJu m k (by omega) w
   cases ho:bJ m k
   ·rw[ho] at HM
    have HF:=aC (HD.o ho)
    go_wp2_with (go_at_call 79;refine(HM.o _).mono ?_;rintro e w2 ⟨rfl,hb⟩;have HB2:=aC (bel HB.o hb);clear hb)
    go_ret
    exact⟨bX HF.o.symm,HB2.o⟩
   ·rw[ho] at HM HS
    go_wp2_with (go_at_call 79;refine(HM.o _).mono ?_;rintro e w2 ⟨rfl,hb⟩;have HB2:=aC (bel HB.o hb);have HC2:=aC (HC.o.below hb);clear hb)
    go_roundw
    case rel=>exact⟨k+1,by omega,by go_num,HS,HC2,HB2⟩
    case measure=>simp[intOf];omega
  ·obtain rfl:k=n:=by omega
   go_wp2_with fail
   go_ret
   exact⟨bX HT.o.symm,HB.o⟩
end Go.Proofs.Cde
namespace Go.Proofs.Cde
open YtijbmdmeiancgaaGreat (Wd tF Fits inpV)
open Go.RowKit Go.IntWalk Knd
theorem aFn (o:Int)(W:World):Calls Tryz.prog 84 #[.int .i64 o] W fun e W'=>e=.returned (.int .i64 (lL o))/\W'=W:=by
 by_cases h1:o=4
 ·subst h1
  go_enter Tryz.func84,Tryz.ntmps84
  go_wp2
  go_ret
  exact⟨rfl,rfl⟩
 by_cases h2:o=11
 ·subst h2
  go_enter Tryz.func84,Tryz.ntmps84
  go_wp2
  go_ret
  exact⟨rfl,rfl⟩
 by_cases h3:o=12
 ·subst h3
  go_enter Tryz.func84,Tryz.ntmps84
  go_wp2
  go_ret
  exact⟨rfl,rfl⟩
 have e:lL o=1:=by unfold lL;rw[if_neg h1,if_neg h2,if_neg h3]
 rw[e]
 have e1:(o==4)=false:=by simpa using h1
 have e2:(o==11)=false:=by simpa using h2
 have e3:(o==12)=false:=by simpa using h3
 clear h1 h2 h3 e
 go_enter Tryz.func84,Tryz.ntmps84
 go_wp2
 go_ret
 exact⟨rfl,rfl⟩
theorem aGh (f d out:Int){a:Option Addr}{n cap:Nat}{L:List In}{W:World}(hL:Ins W a n cap L)(hn:n<=1000000000000000) :
  Calls Tryz.prog 49 #[.agg (cd f d a n cap out)] W fun e W'=>e=.returned (.int .i64 (eP L))/\Below W.heap.size W W':=by
 have hb1:=aH W (.cells (cd f d a n cap out) 26)
 have HB0:=aC hb1
 have HC0:=aC (aI.new W 26 (cd f d a n cap out))
 have HLI:=aC (hL.later hb1)
 have HLn:=aC hL.len
 clear hL hb1
 go_enter Tryz.func49,Tryz.ntmps49
 go_wp2_with fail
 obtain⟨V,hV⟩:∃ V,W.alloc (.cells (cd f d a n cap out) 26)=V:=⟨_,rfl⟩
 rw[hV] at HB0 HC0 HLI ⊢
 clear hV
 go_loop [3,4] (fun s i=>∃(k:Nat) (c:Int),k<=n/\i=.int .i64 k/\s=.int .i64 c/\0<=c/\c<=6*k/\Hid (c=eP (L.take k))) (fun _ i=>n-(intOf i).toNat)
 case atStart=>exact⟨0,0,Nat.zero_le _,rfl,rfl,Int.le_refl _,Int.le_refl _,aC rfl⟩
 case round =>
  obtain⟨k,c,hk,rfl,rfl,hc0,hc6,HC⟩:=hrel
  obtain⟨c0,c1,c2,c3⟩:=aG HC0.o
  by_cases hlt:k < n
  ·obtain⟨g,off,rfl,-,hat⟩:=HLI.o.at (by omega)
   obtain⟨e0,-,-,-,-,-⟩:=hat k hlt
   clear hat
   have hi0:(0:Int)<=k:=by omega
   have hi1:(k:Int) < n:=by omega
   have HC2:=aC (show c+lL (L.getD k i0).op=eP (L.take (k+1)) by rw[aM i0 (by rw[HLn.o];exact hlt),gL,HC.o])
   generalize L.getD k i0=m at *
   have HCo:=aC fun w=>aFn m.op w
   obtain⟨z0,z1⟩:=aCl m.op
   generalize lL m.op=z at *
   go_wp2_with (go_at_call 84;refine(HCo.o _).mono ?_;rintro e w' ⟨rfl,rfl⟩)
   go_round
   case rel=>exact⟨k+1,c+z,by omega,by go_num,rfl,by omega,by omega,HC2⟩
   case measure=>simp[intOf];omega
  ·obtain rfl:k=n:=by omega
   have hC:=HC.o
   rw[List.take_of_length_le (by rw[HLn.o];exact Nat.le_refl _)] at hC
   have HC2:=aC hC
   clear hC
   go_wp2_with fail
   go_ret
   exact⟨aN HC2.o,HB0.o⟩
theorem lD {P:Program}{ops:Array Oper}{Q:Exit->Act->World->Prop}{md:Region.Mode}{S S':World->Prop}(hS:∀ w,S' w->S w):∀ {fuel:Nat} {listed:Array Bool} {a:Act} {w:World},wpAnyH P md ops Q S' fuel listed a w->wpAnyH P md ops Q S fuel listed a w
 | 0,_,_,_,h=>h
 | _+1,_,_,_,h=>⟨h.1,fun i hi=>wpOp_mono (fun _ _ h'=>⟨hS _ h'.1,lD hS h'.2⟩) (h.2 i hi)⟩
end Go.Proofs.Cde
