import Derived.Test.YtijbmdmeiancgaaGreatXH
import Derived.Lib.QuietBelow
import Derived.BigQuiet
import Derived.Deep.RegionHeld3
import Derived.Test.YtijbmdmeiancgaaGreatX22
set_option maxRecDepth 100000
set_option maxHeartbeats 32000000
set_option linter.unusedVariables false
namespace Go.Proofs.Fld
open Go.RowKit Go.IntWalk Knd
open Cde (In i0 ia kd cd Ins kM aJ aL)
variable {a:Option Addr} {cap n:Nat} {T:List Int} {W:World}
theorem aL3 (r:Int)(hT:Ints W a n cap T) :
  Calls Tryz.prog 155 #[.int .i64 r,.slice a n cap] W fun e W'=>e=.returned (.int .i64 (dK T r))/\W'=W:=by
 have hl:=hT.len
 have hs:n<=9223372036854775807:=by have:=hT.le;have:=hT.max;unfold maxLen at this;omega
 by_cases h0:r < 0
 ·rw[show dK T r=r from if_pos (.inl h0)]
  go_enter Tryz.func155,Tryz.ntmps155
  go_wp2_with fail
  go_ret
  exact⟨rfl,rfl⟩
 by_cases h1:(T.length:Int)<=r
 ·rw[show dK T r=r from if_pos (.inr h1)]
  have q0:decide (r < 0)=false:=by simpa using h0
  have q1:decide ((n:Int)<=r)=true:=by simp;omega
  go_enter Tryz.func155,Tryz.ntmps155
  go_wp2_with fail
  go_ret
  exact⟨rfl,rfl⟩
 ·rw[show dK T r=T.getD r.toNat 0 from if_neg (by omega)]
  obtain⟨k,rfl⟩:∃ k:Nat,r=k:=⟨r.toNat,by omega⟩
  have hk:k < n:=by omega
  obtain⟨b,off,rfl,-,hc⟩:=hT.at (by omega)
  have c0:=hc k hk
  have q0:decide ((k:Int) < 0)=false:=by simp
  have q1:decide ((n:Int)<=(k:Int))=false:=by simp;omega
  have q2:decide (n<=k)=false:=by simp;omega
  have i0':(0:Int)<=k:=by omega
  have i1':(k:Int) < n:=by omega
  rw[Int.toNat_natCast]
  generalize T.getD k 0=z at *
  clear hc hl h0 h1
  go_enter Tryz.func155,Tryz.ntmps155
  go_wp2_with fail
  go_ret
  exact⟨rfl,rfl⟩
theorem zY (k:Int){b off j:Nat}{m:In}(hj:j < n)(c0:W.cell? ⟨b,off+j*6,none⟩=some (.int .i64 m.op))(c4:W.cell? ⟨b,off+j*6+4,none⟩=some (.int .i64 m.k))(hs:n<=9223372036854775807) :
  Calls Tryz.prog 160 #[.slice (some ⟨b,off,none⟩) n cap,.int .i64 (j:Int),.int .i64 k] W fun e W'=>e=.returned (.bool (m.op==1&&m.k==k))/\W'=W:=by
 have i0':(0:Int)<=j:=by omega
 have i1':(j:Int) < n:=by omega
 by_cases h1:m.op=1
 ·have q1:(m.op==1)=true:=by simpa using h1
  rw[q1]
  clear h1
  go_enter Tryz.func160,Tryz.ntmps160
  go_wp2_with fail
  go_ret
  exact⟨by simp,rfl⟩
 ·have q1:(m.op==1)=false:=by simpa using h1
  rw[q1]
  clear h1
  go_enter Tryz.func160,Tryz.ntmps160
  go_wp2_with fail
  go_ret
  exact⟨rfl,rfl⟩
theorem aFj (r k:Int){M:List In}(hM:Ins W a n cap M)(hr:bO r n) :
  Calls Tryz.prog 160 #[.slice a n cap,.int .i64 r,.int .i64 k] W fun e W'=>e=.returned (.bool (isN M r k))/\W'=W:=by
 have hs:=hM.short
 obtain⟨j,rfl⟩:∃ k:Nat,r=k:=⟨r.toNat,by have:=hr.1;omega⟩
 have hj:j < n:=by have:=hr.2;omega
 obtain⟨b,off,rfl,-,hc⟩:=hM.at (by omega)
 obtain⟨c0,-,-,-,c4,-⟩:=hc j hj
 unfold isN rg
 rw[Int.toNat_natCast]
 exact zY k hj c0 c4 hs
abbrev lnA (L:List (Bool × Int)):Array Value:=(L.flatMap fun p=>[Value.bool p.1,.int .i64 p.2]).toArray
theorem aFb:∀(L:List (Bool × Int)) (i:Nat),i < L.length->(lnA L)[i*2]?=some (.bool (L.getD i (false,0)).1)/\(lnA L)[i*2+1]?=some (.int .i64 (L.getD i (false,0)).2)
 | [],i,h=>by simp at h
 | p::L,0,h=>by simp[lnA]
 | p::L,i+1,h=>by
  have:=aFb L i (by simpa using h)
  simp only[lnA,List.flatMap_cons,List.getElem?_toArray] at this ⊢
  rw[List.getElem?_append_right (by simp;omega),List.getElem?_append_right (by simp;omega)]
  simp only[List.length_cons,List.length_nil]
  rw[show (i+1)*2-(0+1+1)=i*2 by omega,show (i+1)*2+1-(0+1+1)=i*2+1 by omega]
  simpa using this
theorem aEh (own:Int)(L:List (Bool × Int)){k:Nat}(h:k < L.length):lT own (L.drop k)=if (L.getD k (false,0)).1=true then(L.getD k (false,0)).2 else lT own (L.drop (k+1)):=by
 rw[List.drop_eq_getElem_cons h,lT,List.getD_eq_getElem?_getD,List.getElem?_eq_getElem h]
 rfl
theorem cB (own:Int){g:Nat}{L:List (Bool × Int)}(hL:aI W g 158 (lnA L))(hn:L.length=n)(h3:n<=3) :
  Calls Tryz.prog 159 #[.int .i64 own,.slice (some ⟨g,0,none⟩) n n] W fun e W'=>e=.returned (.int .i64 (lT own L))/\Below W.heap.size W W':=by
 have HL:=aC hL
 have HN:=aC hn
 have HG:=aC fun i h=>aFb L i h
 have HD:=aC fun k h=>aEh own L (k:=k) h
 have H0:Hid (lT own (L.drop 0)=lT own L):=aC rfl
 generalize lT own L=z at *
 clear hL hn
 go_enter Tryz.func159,Tryz.ntmps159
 go_wp2_with fail
 go_loopw [9] (fun i wr=>∃ k:Nat,k<=n/\i=.int .i64 k/\Hid (lT own (L.drop k)=z)/\Hid (Below W.heap.size W wr)) (fun i _=>n-(intOf i).toNat)
 case atStart=>exact⟨0,Nat.zero_le _,rfl,aC H0.o,aC (Below.refl _ _)⟩
 case round =>
  obtain⟨k,hk,rfl,HZ,HB⟩:=hrel
  rename World=>V
  clear H0
  by_cases hlt:k < n
  ·obtain⟨g0,g1⟩:=HG.o k (by rw[HN.o];exact hlt)
   have hc:=HL.o.below HB.o
   have c0:=hc.cell _ g0
   have c1:=hc.cell _ g1
   have hD:=HD.o k (by rw[HN.o];exact hlt)
   rw[HZ.o] at hD
   generalize L.getD k (false,0)=p at *
   obtain⟨pb,pr⟩:=p
   have HD2:=aC hD
   have i0':(0:Int)<=k:=by omega
   have i1':(k:Int) < n:=by omega
   have HB2:=aC (bel HB.o (aH V (.cells #[.bool pb,.int .i64 pr] 158)))
   clear hc hD g0 g1
   cases pb
   ·go_wp2_with fail
    go_roundw
    case rel=>exact⟨k+1,by omega,by go_num,aC (by have:=HD2.o;simpa using this.symm),HB2⟩
    case measure=>simp[intOf];omega
   ·go_wp2_with fail
    go_ret
    exact⟨aN (by have:=HD2.o;simpa using this.symm),HB2.o⟩
  ·obtain rfl:k=n:=by omega
   have hZ:=HZ.o
   rw[List.drop_of_length_le (by rw[HN.o];exact Nat.le_refl _)] at hZ
   have HZ2:Hid (own=z):=aC hZ
   clear hZ
   go_wp2_with fail
   go_ret
   exact⟨aN HZ2.o,HB.o⟩
theorem aCc (f d:Int)(n:In)(W:World) :
  Calls Tryz.prog 156 #[.agg (kd f d),.agg (ia n)] W fun e W'=>e=.returned (.tuple #[.int .i64 (bnZ f d n).1,.bool (bnZ f d n).2])/\Below W.heap.size W W':=by
 have HL:=aC fun W=>Knd.yK f d W
 have HH:=aC fun W=>Knd.uL f d W
 have HO:=aC fun W=>Knd.uQ f d W
 have HB:=aC (bel (aH W (.cells (kd f d) 23)) (aH (W.alloc (.cells (kd f d) 23)) (.cells (ia n) 57)))
 obtain⟨op,a,b,c,k,s⟩:=n
 unfold bnZ
 dsimp only
 by_cases h2:op=2
 ·subst h2
  rw[if_pos rfl]
  by_cases h3:k=3
  ·subst h3
   rw[if_pos rfl]
   go_enter Tryz.func156,Tryz.ntmps156
   go_wp2_with fail
   refine(HL.o _).mono ?_
   rintro e V1 ⟨rfl,hb⟩
   go_wp2_with fail
   exact bodyPost_ret (v:=.tuple #[.int .i64 (dJ f d),.bool true]) (by simp[results,Tryz.results156,go_sem]) rfl ⟨rfl,bel HB.o hb⟩
  rw[if_neg h3]
  by_cases h4:k=4
  ·subst h4
   rw[if_pos rfl]
   clear h3
   go_enter Tryz.func156,Tryz.ntmps156
   go_wp2_with fail
   refine(HH.o _).mono ?_
   rintro e V1 ⟨rfl,hb⟩
   go_wp2_with fail
   exact bodyPost_ret (v:=.tuple #[.int .i64 (bK f d),.bool true]) (by simp[results,Tryz.results156,go_sem]) rfl ⟨rfl,bel HB.o hb⟩
  rw[if_neg h4]
  by_cases h5:k=5
  ·subst h5
   rw[if_pos rfl]
   clear h3 h4
   go_enter Tryz.func156,Tryz.ntmps156
   go_wp2_with fail
   refine(HO.o _).mono ?_
   rintro e V1 ⟨rfl,hb⟩
   go_wp2_with fail
   exact bodyPost_ret (v:=.tuple #[.int .i64 (aV f d),.bool true]) (by simp[results,Tryz.results156,go_sem]) rfl ⟨rfl,bel HB.o hb⟩
  rw[if_neg h5]
  have q3:(k==3)=false:=by simpa using h3
  have q4:(k==4)=false:=by simpa using h4
  have q5:(k==5)=false:=by simpa using h5
  clear h3 h4 h5
  go_enter Tryz.func156,Tryz.ntmps156
  go_wp2_with fail
  exact bodyPost_ret (v:=.tuple #[.int .i64 0,.bool false]) (by simp[results,Tryz.results156,go_sem]) rfl ⟨rfl,HB.o⟩
 ·rw[if_neg h2]
  have q2:(op != 2)=true:=by simpa using h2
  clear h2
  go_enter Tryz.func156,Tryz.ntmps156
  go_wp2_with fail
  exact bodyPost_ret (v:=.tuple #[.int .i64 0,.bool false]) (by simp[results,Tryz.results156,go_sem]) rfl ⟨rfl,HB.o⟩
theorem aC8 {n:In}(h:¬0 < ar n.op):bS n T=n:=by
 unfold bS
 rw[if_neg h,if_neg (by omega),if_neg (by omega)]
theorem aJf {n:In}(h:ar n.op=1):bS n T=⟨n.op,dK T n.a,n.b,n.c,n.k,n.s⟩:=by
 unfold bS
 rw[h];rfl
theorem aIu {n:In}(h:ar n.op=2):bS n T=⟨n.op,dK T n.a,dK T n.b,n.c,n.k,n.s⟩:=by
 unfold bS
 rw[h];rfl
theorem aHx {n:In}(h:ar n.op=3):bS n T=⟨n.op,dK T n.a,dK T n.b,dK T n.c,n.k,n.s⟩:=by
 unfold bS
 rw[h];rfl
theorem gF (n:In){m:Nat}(hT:Ints W a m cap T) :
  Calls Tryz.prog 132 #[.agg (ia n),.slice a m cap] W fun e W'=>e=.returned (.agg (ia (bS n T)))/\Below W.heap.size W W':=by
 have HA:=aC fun W=>Spn.dX n.op W
 have hb2:=bel (aH W (.cells (ia n) 57)) (aH (W.alloc (.cells (ia n) 57)) (.cells (ia i0) 57))
 have HE:=aC fun V r (h:Below W.heap.size W V)=>aL3 r (hT.later h)
 have HB0:=aC hb2
 rcases Cde.gT n.op with h|h|h|h|h
 ·rw[aC8 (by rw[ar,h];decide)]
  rw[h] at HA
  clear h
  go_enter Tryz.func132,Tryz.ntmps132
  go_wp2_with (first
   | (go_at_call 66;refine(HA.o _).mono ?_;rintro e w' ⟨rfl,rfl⟩)
   | (go_at_call 155;refine(HE.o _ _ (by first | exact bel (aH W _) (aH _ _) | exact bel ((aH W _).setCell (by simp) _) (aH _ _) | exact bel (((aH W _).setCell (by simp) _).setCell (by simp) _) (aH _ _))).mono ?_;rintro e w' ⟨rfl,rfl⟩))
  exact bodyPost_ret (v:=.agg (ia _)) (by simp[results,Tryz.results132,go_sem]) rfl ⟨rfl,by first|exact bel (aH W _) (aH _ _)|exact bel ((aH W _).setCell (by simp) _) (aH _ _)|exact bel (((aH W _).setCell (by simp) _).setCell (by simp) _) (aH _ _)|exact bel ((((aH W _).setCell (by simp) _).setCell (by simp) _).setCell (by simp) _) (aH _ _)⟩
 ·rw[aC8 (by rw[ar,h];decide)]
  rw[h] at HA
  clear h
  go_enter Tryz.func132,Tryz.ntmps132
  go_wp2_with (first
   | (go_at_call 66;refine(HA.o _).mono ?_;rintro e w' ⟨rfl,rfl⟩)
   | (go_at_call 155;refine(HE.o _ _ (by first | exact bel (aH W _) (aH _ _) | exact bel ((aH W _).setCell (by simp) _) (aH _ _) | exact bel (((aH W _).setCell (by simp) _).setCell (by simp) _) (aH _ _))).mono ?_;rintro e w' ⟨rfl,rfl⟩))
  exact bodyPost_ret (v:=.agg (ia _)) (by simp[results,Tryz.results132,go_sem]) rfl ⟨rfl,by first|exact bel (aH W _) (aH _ _)|exact bel ((aH W _).setCell (by simp) _) (aH _ _)|exact bel (((aH W _).setCell (by simp) _).setCell (by simp) _) (aH _ _)|exact bel ((((aH W _).setCell (by simp) _).setCell (by simp) _).setCell (by simp) _) (aH _ _)⟩
 ·rw[aJf h]
  rw[h] at HA
  clear h
  go_enter Tryz.func132,Tryz.ntmps132
  go_wp2_with (first
   | (go_at_call 66;refine(HA.o _).mono ?_;rintro e w' ⟨rfl,rfl⟩)
   | (go_at_call 155;refine(HE.o _ _ (by first | exact bel (aH W _) (aH _ _) | exact bel ((aH W _).setCell (by simp) _) (aH _ _) | exact bel (((aH W _).setCell (by simp) _).setCell (by simp) _) (aH _ _))).mono ?_;rintro e w' ⟨rfl,rfl⟩))
  exact bodyPost_ret (v:=.agg (ia _)) (by simp[results,Tryz.results132,go_sem]) rfl ⟨rfl,by first|exact bel (aH W _) (aH _ _)|exact bel ((aH W _).setCell (by simp) _) (aH _ _)|exact bel (((aH W _).setCell (by simp) _).setCell (by simp) _) (aH _ _)|exact bel ((((aH W _).setCell (by simp) _).setCell (by simp) _).setCell (by simp) _) (aH _ _)⟩
 ·rw[aIu h]
  rw[h] at HA
  clear h
  go_enter Tryz.func132,Tryz.ntmps132
  go_wp2_with (first
   | (go_at_call 66;refine(HA.o _).mono ?_;rintro e w' ⟨rfl,rfl⟩)
   | (go_at_call 155;refine(HE.o _ _ (by first | exact bel (aH W _) (aH _ _) | exact bel ((aH W _).setCell (by simp) _) (aH _ _) | exact bel (((aH W _).setCell (by simp) _).setCell (by simp) _) (aH _ _))).mono ?_;rintro e w' ⟨rfl,rfl⟩))
  exact bodyPost_ret (v:=.agg (ia _)) (by simp[results,Tryz.results132,go_sem]) rfl ⟨rfl,by first|exact bel (aH W _) (aH _ _)|exact bel ((aH W _).setCell (by simp) _) (aH _ _)|exact bel (((aH W _).setCell (by simp) _).setCell (by simp) _) (aH _ _)|exact bel ((((aH W _).setCell (by simp) _).setCell (by simp) _).setCell (by simp) _) (aH _ _)⟩
 ·rw[aHx h]
  rw[h] at HA
  clear h
  go_enter Tryz.func132,Tryz.ntmps132
  go_wp2_with (first
   | (go_at_call 66;refine(HA.o _).mono ?_;rintro e w' ⟨rfl,rfl⟩)
   | (go_at_call 155;refine(HE.o _ _ (by first | exact bel (aH W _) (aH _ _) | exact bel ((aH W _).setCell (by simp) _) (aH _ _) | exact bel (((aH W _).setCell (by simp) _).setCell (by simp) _) (aH _ _))).mono ?_;rintro e w' ⟨rfl,rfl⟩))
  exact bodyPost_ret (v:=.agg (ia _)) (by simp[results,Tryz.results132,go_sem]) rfl ⟨rfl,by first|exact bel (aH W _) (aH _ _)|exact bel ((aH W _).setCell (by simp) _) (aH _ _)|exact bel (((aH W _).setCell (by simp) _).setCell (by simp) _) (aH _ _)|exact bel ((((aH W _).setCell (by simp) _).setCell (by simp) _).setCell (by simp) _) (aH _ _)⟩
end Go.Proofs.Fld
namespace Go.Proofs.Fld
open Go.RowKit Go.IntWalk Knd
open Cde (In i0 ia kd cd Ins kM aJ aL bJ dP dG jM arM abc jS zA dS aN7 spn aN3)
variable {M:List In} {m:In}
theorem aOi (M:List In)(q:Nat):(M.map In.k).getD q 0=(M.getD q i0).k:=by
 rw[List.getD_eq_getElem?_getD,List.getElem?_map,List.getD_eq_getElem?_getD]
 cases M[q]? <;> rfl
theorem aSo (M:List In)(m:In):vS M m=jM (M.map In.k) m:=by
 unfold vS jM
 apply List.map_congr_left
 intro r hr
 rw[aOi]
theorem yE (M:List In)(m:In):alN M m=true↔∀ j,j < dG m->(rg M (jS m j)).op=1:=by
 unfold alN
 rw[List.all_eq_true]
 constructor
 ·intro h j hj
  have:=h ((dP m).getD j 0) (Cde.oF 0 (by rw[Cde.fD];exact hj))
  rw[Cde.nP m j hj] at this
  simpa using this
 ·intro h r hr
  obtain⟨j,hj,rfl⟩:=List.getElem_of_mem hr
  rw[Cde.fD] at hj
  have:=h j hj
  rw[<-Cde.nP m j hj,List.getD_eq_getElem?_getD,List.getElem?_eq_getElem (by rw[Cde.fD];exact hj)] at this
  simpa using this
theorem aSi {j:Nat}(hj:j < dG m)(h:(rg M (jS m j)).op≠1):xQ M m=(0,false):=by
 unfold xQ
 rw[if_neg]
 rw[yE]
 intro h2
 exact h (h2 j hj)
theorem aPa (h:∀ j,j < dG m->(rg M (jS m j)).op=1):xQ M m=((vl m.op m.k m.s (jM (M.map In.k) m)).1,(vl m.op m.k m.s (jM (M.map In.k) m)).2==0):=by
 unfold xQ
 rw[if_pos ((yE M m).2 h),aSo]
theorem aMu (n:In){va:Option Addr}{vn vc:Nat}{W:World}(hM:Ins W va vn vc M)(ho:bJ n vn=true) :
  Calls Tryz.prog 157 #[.slice va vn vc,.agg (ia n)] W fun e W'=>e=.returned (.tuple #[.int .i64 (xQ M n).1,.bool (xQ M n).2])/\Below W.heap.size W W':=by
 have HA:=aC fun w=>Cde.vG n w
 have HR:=aC fun j hj=>Cde.oD ho (j:=j) hj
 have HS:=aC fun k (h:k < dG n)=>Cde.wR (M.map In.k) n h
 have HU:=aC fun k (h:k < dG n)=>Cde.aHy (M.map In.k) n h
 have HG0:=aC fun k (h:k < dG n)=>Cde.aNm (M.map In.k) n h
 have HLn:=aC fun k (h:k<=dG n)=>Cde.aL9 (M.map In.k) n h
 have HD:=aC (Cde.aKq (M.map In.k) n)
 have HAl:=aC (Cde.qL (M.map In.k) n)
 have H00:Hid (arM (M.map In.k) n 0=abc n):=aC rfl
 have HNo:=aC fun j=>aSi (M:=M) (m:=n) (j:=j)
 have HYes:=aC (aPa (M:=M) (m:=n))
 have h3':=Cde.lQ n
 have hs:=hM.short
 have HMk:=aC fun q=>aOi M q
 have HB0:=aC (aH W (.cells (ia n) 57))
 have HN0:=aC (aI.new W 57 (ia n))
 have HVW:=aC hM
 generalize arM (M.map In.k) n=Q at *
 generalize dG n=m at *
 obtain⟨⟨X,x2⟩,hX⟩:∃ X,xQ M n=X:=⟨_,rfl⟩
 rw[hX] at HNo HYes ⊢
 clear ho hM hX
 go_enter Tryz.func157,Tryz.ntmps157
 go_wp2_with fail
 refine(HA.o _).mono ?_
 rintro e V1 ⟨g,rfl,hg,hG,hb⟩
 have HN1:=aC (HN0.o.below hb)
 have HB1:=aC (bel HB0.o hb)
 have HG1:=aC hG
 have hg2:W.heap.size+1<=g:=by simpa using hg
 clear hG hb HN0 HB0 HA hg
 go_wp2_with fail
 go_loopw [15] (fun j wr=>∃ k:Nat,k<=m/\j=.int .i64 k/\Hid (∀ i,i < k->(rg M (jS n i)).op=1)/\Hid (aI wr g 3 (zA (Q k)))/\Hid (aI wr W.heap.size 57 (ia n))/\Hid (Below W.heap.size W wr)) (fun j _=>m-(intOf j).toNat)
 case atStart=>exact⟨0,Nat.zero_le _,rfl,aC (fun i hi=>absurd hi (Nat.not_lt_zero _)),aC (by rw[H00.o];exact HG1.o),HN1,HB1⟩
 case round =>
  obtain⟨k,hk,rfl,HF,HG,HN,HB⟩:=hrel
  rename World=>V2
  clear HG1 HN1 HB1
  by_cases hlt:k < m
  ·obtain⟨p0,p1⟩:=HR.o k hlt
   have hl3:=HLn.o k hk
   have c0:=HG.o.cell k (dS _ k (by rw[hl3];omega))
   rw[HG0.o k hlt] at c0
   have HX:=HG.o
   rw[HS.o k hlt] at HX
   have HX2:=aC fun x=>aN7 (k:=k) HX (by rw[List.length_take,HAl.o];omega) x
   have HU2:=aC (HU.o k hlt)
   have y0:=HG.o.frozen k
   have HF2:=aC fun(h:(rg M (jS n k)).op=1) (i:Nat) (hi:i < k+1)=>show (rg M (jS n i)).op=1 from by
    by_cases e:i < k
    ·exact HF.o i e
    ·obtain rfl:i=k:=by omega
     exact h
   have HNo2:=aC (HNo.o k hlt)
   obtain⟨q,hq⟩:∃ q:Nat,jS n k=(q:Int):=⟨(jS n k).toNat,by omega⟩
   rw[hq] at c0 p1 HU2
   unfold rg at HF2 HNo2
   rw[hq] at HF2 HNo2
   simp only[Int.toNat_natCast] at p1 HU2 HF2 HNo2
   rw[HMk.o q] at HU2
   obtain⟨b,off,rfl,-,hat⟩:=(HVW.o.later HB.o).at (by omega)
   obtain⟨c1,-,-,-,c5,-⟩:=hat q (by omega)
   generalize M.getD q i0=z at *
   have HX3:=aC (HX2.o z.k)
   rw[HU2.o] at HX3
   have HN3:=aC (HN.o.other (p:=⟨g,k,none⟩) (by simp;omega) (.int .i64 z.k))
   have HB4:=aC (HB.o.setCell (p:=⟨g,k,none⟩) (by simp;omega) (.int .i64 z.k))
   have i0':(0:Int)<=q:=by omega
   have i1':(q:Int) < vn:=by omega
   have j0:(0:Int)<=k:=by omega
   have j1:(k:Int) < m:=by omega
   clear HX HX2 HU2 hat hq p0 p1 hl3 HF
   by_cases hop:z.op=1
   ·have q1:(z.op != 1)=false:=by simpa using hop
    have HF3:=aC (HF2.o hop)
    clear HF2 hop HNo2
    go_wp2_with fail
    go_roundw
    case rel=>exact⟨k+1,by omega,by go_num,aC HF3.o,HX3,HN3,HB4⟩
    case measure=>simp[intOf];omega
   ·have q1:(z.op != 1)=true:=by simpa using hop
    have HZ:=aC (HNo2.o hop)
    clear HF2 hop HNo2
    go_wp2_with fail
    have hz:=HZ.o
    cases hz
    exact bodyPost_ret (v:=.tuple #[.int .i64 0,.bool false]) (by simp[results,Tryz.results157,go_sem]) rfl ⟨rfl,HB.o⟩
  ·obtain rfl:k=m:=by omega
   have hI:=HG.o
   rw[HD.o] at hI
   have hI2:=aN3 hI (by rw[<-HD.o];exact HLn.o k (Nat.le_refl _))
   rw[HAl.o] at hI2
   have HVa:=aC (Spn.wL n.op n.k n.s _ _ _ _ _ (spn hI2))
   have HY:=aC (HYes.o HF.o)
   obtain⟨e0,-,-,-,e4,e5⟩:=aJ HN.o
   clear hI hI2 HYes HNo
   unfold vl at HY
   generalize Spn.aR n.op n.k n.s (jM (M.map In.k) n)=Y at *
   go_wp2_with fail
   refine HVa.o.mono ?_
   rintro e V3 ⟨rfl,hb⟩
   have HB3:=aC (bel HB.o hb)
   clear hb
   go_wp2_with fail
   have hy:=HY.o
   cases hy
   exact bodyPost_ret (v:=.tuple #[.int .i64 Y.1,.bool (Y.2==0)]) (by simp[results,Tryz.results157,go_sem]) rfl ⟨rfl,HB3.o⟩
theorem aSd (h:m.op=9\/m.op=17\/m.op=18\/m.op=20\/m.op=23):qV M m=(0,m.a==m.b):=by unfold qV;rw[if_pos h]
theorem aR8 (h:m.op=19\/m.op=21\/m.op=22):qV M m=(1,m.a==m.b):=by unfold qV;rw[if_neg (by omega),if_pos h]
theorem aSg (h:m.op=10\/m.op=15):qV M m=(0,isN M m.a 0 || isN M m.b 0):=by unfold qV;rw[if_neg (by omega),if_neg (by omega),if_pos h]
theorem aR1 (h:m.op=12):qV M m=(0,isN M m.b 1):=by unfold qV;rw[if_neg (by omega),if_neg (by omega),if_neg (by omega),if_pos h]
theorem aQo (h:m.op=32\/m.op=31):qV M m=(0,m.k==0):=by unfold qV;rw[if_neg (by omega),if_neg (by omega),if_neg (by omega),if_neg (by omega),if_pos h]
theorem aM5 (m:In){va:Option Addr}{vn vc:Nat}{W:World}(hM:Ins W va vn vc M)(ho:bJ m vn=true) :
  Calls Tryz.prog 158 #[.slice va vn vc,.agg (ia m)] W fun e W'=>e=.returned (.tuple #[.int .i64 (qV M m).1,.bool (qV M m).2])/\Below W.heap.size W W':=by
 have hb1:=aH W (.cells (ia m) 57)
 have HI:=aC fun r k (h:bO r vn)=>aFj r k (hM.later hb1) h
 have HB:=aC hb1
 have hin:=fun r=>jR ho (r:=r)
 have HE:=aC (aJ (aI.new W 57 (ia m)))
 clear hM ho hb1
 by_cases h1:m.op=9\/m.op=17\/m.op=18\/m.op=20\/m.op=23
 ·rw[aSd h1]
  obtain⟨op,a,b,c,k,s⟩:=m
  dsimp only at h1
  obtain⟨e0,e1,e2,e3,e4,e5⟩:=HE.o
  clear hin HI
  rcases h1 with rfl|rfl|rfl|rfl|rfl
  all_goals
   go_enter Tryz.func158,Tryz.ntmps158
   go_wp2_with fail
   generalize hV:W.alloc (.cells (ia ⟨_,a,b,c,k,s⟩) 57)=V at *
   generalize hq:W.heap.size=q at *
   go_quiet (fail)
   go_wp2_with fail
   exact bodyPost_ret (v:=.tuple #[.int .i64 0,.bool (a==b)]) (by simp[results,Tryz.results158,go_sem]) rfl ⟨rfl,by rw[<-hq] at *;exact Spn.oV HB.o _⟩
 by_cases h2:m.op=19\/m.op=21\/m.op=22
 ·rw[aR8 h2]
  obtain⟨op,a,b,c,k,s⟩:=m
  dsimp only at h2
  obtain⟨e0,e1,e2,e3,e4,e5⟩:=HE.o
  clear hin HI h1
  rcases h2 with rfl|rfl|rfl
  all_goals
   go_enter Tryz.func158,Tryz.ntmps158
   go_wp2_with fail
   generalize hV:W.alloc (.cells (ia ⟨_,a,b,c,k,s⟩) 57)=V at *
   generalize hq:W.heap.size=q at *
   go_quiet (fail)
   go_wp2_with fail
   exact bodyPost_ret (v:=.tuple #[.int .i64 1,.bool (a==b)]) (by simp[results,Tryz.results158,go_sem]) rfl ⟨rfl,by rw[<-hq] at *;exact Spn.oV HB.o _⟩
 by_cases h3:m.op=10\/m.op=15
 ·rw[aSg h3]
  have ha2:ar m.op=2:=by rcases h3 with e|e <;> rw[e] <;> decide
  have HJ1:=aC (HI.o m.a 0 (hin m.a (by rw[fA ha2];simp)))
  have HJ2:=aC (HI.o m.b 0 (hin m.b (by rw[fA ha2];simp)))
  obtain⟨op,a,b,c,k,s⟩:=m
  dsimp only at h3 HJ1 HJ2 ⊢
  clear hin HI h1 h2 ha2 HE
  generalize isN M a 0=x at *
  generalize isN M b 0=y at *
  rcases h3 with rfl|rfl
  all_goals
   cases x
   ·go_enter Tryz.func158,Tryz.ntmps158
    go_wp2_with fail
    refine HJ1.o.mono ?_
    rintro e w' ⟨rfl,rfl⟩
    go_wp2_with fail
    refine HJ2.o.mono ?_
    rintro e w' ⟨rfl,rfl⟩
    go_wp2_with fail
    exact bodyPost_ret (v:=.tuple #[.int .i64 0,.bool y]) (by simp[results,Tryz.results158,go_sem]) rfl ⟨by simp,HB.o⟩
   ·go_enter Tryz.func158,Tryz.ntmps158
    go_wp2_with fail
    refine HJ1.o.mono ?_
    rintro e w' ⟨rfl,rfl⟩
    go_wp2_with fail
    exact bodyPost_ret (v:=.tuple #[.int .i64 0,.bool true]) (by simp[results,Tryz.results158,go_sem]) rfl ⟨by simp,HB.o⟩
 by_cases h4:m.op=12
 ·rw[aR1 h4]
  have ha2:ar m.op=2:=by rw[h4];decide
  have HJ2:=aC (HI.o m.b 1 (hin m.b (by rw[fA ha2];simp)))
  obtain⟨op,a,b,c,k,s⟩:=m
  dsimp only at h4 HJ2 ⊢
  clear hin HI h1 h2 h3 ha2 HE
  generalize isN M b 1=y at *
  subst h4
  go_enter Tryz.func158,Tryz.ntmps158
  go_wp2_with fail
  refine HJ2.o.mono ?_
  rintro e w' ⟨rfl,rfl⟩
  go_wp2_with fail
  exact bodyPost_ret (v:=.tuple #[.int .i64 0,.bool y]) (by simp[results,Tryz.results158,go_sem]) rfl ⟨rfl,HB.o⟩
 by_cases h5:m.op=32\/m.op=31
 ·rw[aQo h5]
  obtain⟨op,a,b,c,k,s⟩:=m
  dsimp only at h5
  obtain⟨e0,e1,e2,e3,e4,e5⟩:=HE.o
  clear hin HI h1 h2 h3 h4
  rcases h5 with rfl|rfl
  all_goals
   go_enter Tryz.func158,Tryz.ntmps158
   go_wp2_with fail
   generalize hV:W.alloc (.cells (ia ⟨_,a,b,c,k,s⟩) 57)=V at *
   generalize hq:W.heap.size=q at *
   go_quiet (fail)
   go_wp2_with fail
   exact bodyPost_ret (v:=.tuple #[.int .i64 0,.bool (k==0)]) (by simp[results,Tryz.results158,go_sem]) rfl ⟨rfl,by rw[<-hq] at *;exact Spn.oV HB.o _⟩
 ·rw[show qV M m=(0,false) by unfold qV;rw[if_neg h1,if_neg h2,if_neg h3,if_neg h4,if_neg h5]]
  obtain⟨op,a,b,c,k,s⟩:=m
  dsimp only at *
  have q9:(op==9)=false:=by simp;omega
  have q17:(op==17)=false:=by simp;omega
  have q18:(op==18)=false:=by simp;omega
  have q20:(op==20)=false:=by simp;omega
  have q23:(op==23)=false:=by simp;omega
  have q19:(op==19)=false:=by simp;omega
  have q21:(op==21)=false:=by simp;omega
  have q22:(op==22)=false:=by simp;omega
  have q10:(op==10)=false:=by simp;omega
  have q15:(op==15)=false:=by simp;omega
  have q12:(op==12)=false:=by simp;omega
  have q32:(op==32)=false:=by simp;omega
  have q31:(op==31)=false:=by simp;omega
  clear hin HI h1 h2 h3 h4 h5 HE
  go_enter Tryz.func158,Tryz.ntmps158
  go_wp2_with fail
  exact bodyPost_ret (v:=.tuple #[.int .i64 0,.bool false]) (by simp[results,Tryz.results158,go_sem]) rfl ⟨rfl,HB.o⟩
end Go.Proofs.Fld
namespace Go.Proofs.Fld
open Go.RowKit Go.IntWalk Knd
open Cde (In i0 ia kd cd Ins kM aJ aL bJ aD)
variable {M:List In} {m:In}
theorem bN {V V':World}{g o:Nat}{v:Value}(hb:Below V.heap.size V V')(h:V.cell? ⟨g,o,none⟩=some v)(hg:g < V.heap.size):V'.cell? ⟨g,o,none⟩=some v:=(hb.cell (p:=⟨g,o,none⟩) hg).trans h
theorem gY:Tryz.prog.follows .mixedOrders=true:=by kernel_rfl
theorem aQn (h:m.op=8\/m.op=17):iU M m=[(isN M m.a 0,m.b),(isN M m.b 0,m.a)]:=by unfold iU;rw[if_pos h]
theorem aRl (h:m.op=10):iU M m=[(isN M m.a 1,m.b),(isN M m.b 1,m.a)]:=by unfold iU;rw[if_neg (by omega),if_pos h]
theorem aRw (h:m.op=16):iU M m=[(m.a==m.b,m.a),(isN M m.a 0,m.b),(isN M m.b 0,m.a)]:=by unfold iU;rw[if_neg (by omega),if_neg (by omega),if_pos h]
theorem aQ9 (h:m.op=15):iU M m=[(m.a==m.b,m.a),(isN M m.a (-1),m.b),(isN M m.b (-1),m.a)]:=by unfold iU;rw[if_neg (by omega),if_neg (by omega),if_neg (by omega),if_pos h]
theorem aRj (h:m.op=24\/m.op=25):iU M m=[(m.a==m.b,m.a)]:=by unfold iU;rw[if_neg (by omega),if_neg (by omega),if_neg (by omega),if_neg (by omega),if_pos h]
theorem aQv (h:m.op=9\/m.op=13\/m.op=14):iU M m=[(isN M m.b 0,m.a)]:=by unfold iU;rw[if_neg (by omega),if_neg (by omega),if_neg (by omega),if_neg (by omega),if_neg (by omega),if_pos h]
theorem aRs (h:m.op=11):iU M m=[(isN M m.b 1,m.a)]:=by unfold iU;rw[if_neg (by omega),if_neg (by omega),if_neg (by omega),if_neg (by omega),if_neg (by omega),if_neg (by omega),if_pos h]
theorem aRz (h:m.op=29\/m.op=30):iU M m=[(m.k==0,m.a)]:=by unfold iU;rw[if_neg (by omega),if_neg (by omega),if_neg (by omega),if_neg (by omega),if_neg (by omega),if_neg (by omega),if_neg (by omega),if_pos h]
theorem aQ5 (h:m.op=32):iU M m=[(m.k==1,m.a)]:=by unfold iU;rw[if_neg (by omega),if_neg (by omega),if_neg (by omega),if_neg (by omega),if_neg (by omega),if_neg (by omega),if_neg (by omega),if_neg (by omega),if_pos h]
theorem aRi (h:m.op=5):iU M m=[((rg M m.a).op==5,(rg M m.a).a)]:=by unfold iU;rw[if_neg (by omega),if_neg (by omega),if_neg (by omega),if_neg (by omega),if_neg (by omega),if_neg (by omega),if_neg (by omega),if_neg (by omega),if_neg (by omega),if_pos h]
theorem aNz (h:m.op=6):iU M m=[((rg M m.a).op==6,m.a)]:=by unfold iU;rw[if_neg (by omega),if_neg (by omega),if_neg (by omega),if_neg (by omega),if_neg (by omega),if_neg (by omega),if_neg (by omega),if_neg (by omega),if_neg (by omega),if_neg (by omega),if_pos h]
theorem aOa (h:m.op=28):iU M m=[(isN M m.a 0,m.c),((rg M m.a).op==1,m.b),(m.b==m.c,m.b)]:=by unfold iU;rw[if_neg (by omega),if_neg (by omega),if_neg (by omega),if_neg (by omega),if_neg (by omega),if_neg (by omega),if_neg (by omega),if_neg (by omega),if_neg (by omega),if_neg (by omega),if_neg (by omega),if_pos h]
theorem aOh (h:m.op=27):iU M m=[(m.a==m.b || m.a==m.c,m.a),(m.b==m.c,m.b)]:=by unfold iU;rw[if_neg (by omega),if_neg (by omega),if_neg (by omega),if_neg (by omega),if_neg (by omega),if_neg (by omega),if_neg (by omega),if_neg (by omega),if_neg (by omega),if_neg (by omega),if_neg (by omega),if_neg (by omega),if_pos h]
theorem aOf (h:m.op=26):iU M m=[(m.b==m.c,m.b)]:=by unfold iU;rw[if_neg (by omega),if_neg (by omega),if_neg (by omega),if_neg (by omega),if_neg (by omega),if_neg (by omega),if_neg (by omega),if_neg (by omega),if_neg (by omega),if_neg (by omega),if_neg (by omega),if_neg (by omega),if_neg (by omega),if_pos h]
theorem aL0 (m:In)(own:Int){va:Option Addr}{vn vc:Nat}{W:World}(hM:Ins W va vn vc M)(ho:bJ m vn=true) :
  Calls Tryz.prog 134 #[.slice va vn vc,.agg (ia m),.int .i64 own] W fun e W'=>e=.returned (.int .i64 (lT own (iU M m)))/\Below W.heap.size W W':=by
 have hb1:=aH W (.cells (ia m) 57)
 have HB:=aC hb1
 have HM:=aC (hM.later hb1)
 have hs:=hM.short
 have hin:=fun r=>jR ho (r:=r)
 have HN:=aC (aI.new W 57 (ia m))
 clear hM ho hb1
 obtain⟨R,hR⟩:∃ R,lT own (iU M m)=R:=⟨_,rfl⟩
 rw[hR]
 go_enter Tryz.func134,Tryz.ntmps134
 go_wp2_with fail
 obtain⟨V,hV⟩:∃ V,W.alloc (.cells (ia m) 57)=V:=⟨_,rfl⟩
 rw[hV] at HB HN HM ⊢
 obtain⟨e0,e1,e2,e3,e4,e5⟩:=aJ HN.o
 have y1:=cell_regrown e1
 have y2:=cell_regrown e2
 have y3:=cell_regrown e3
 refine wp_region_quiet_below gY (by kernel_rfl) ?_
 repeat (go_big_quiet_step (fail))
 refine wpQuiet_nil ?_
 intro V2 hw'
 obtain⟨⟨dq,osq⟩,hw''⟩:=hw'
 have hb:=below_regrown V dq osq
 simp only at hw''
 rw[<-hw''] at hb
 clear hw'' y1 y2 y3 e0 e1 e2 e3 e4 e5 hV
 have HB2:=aC (bel HB.o hb)
 have HN2:=aC (HN.o.below hb)
 have HM2:=aC (HM.o.later hb)
 have HI:=aC fun r k (h:bO r vn)=>aFj r k HM2.o h
 clear hb HB HN HM
 by_cases h0:m.op=8\/m.op=17
 ·rw[aQn h0] at hR
  have ha:ar m.op=2:=by rcases h0 with e|e <;> rw[e] <;> decide
  have ia:=hin m.a (by rw[fA ha];simp)
  have ib:=hin m.b (by rw[fA ha];simp)
  obtain⟨op,a,b,c,k,s⟩:=m
  dsimp only at h0 ha ia ib HN2 hR ⊢
  obtain⟨e0,e1,e2,e3,e4,e5⟩:=aJ HN2.o
  clear hin  ha
  have HJ1:=aC (HI.o a 0 ia)
  generalize isN M a 0=x0 at *
  have HJ2:=aC (HI.o b 0 ib)
  generalize isN M b 0=x1 at *
  have HR:=aC hR
  clear hR
  rcases h0 with rfl|rfl 
  all_goals
   go_wp2_with fail
   refine HJ1.o.mono ?_
   rintro e w' ⟨rfl,rfl⟩
   go_wp2_with fail
   refine HJ2.o.mono ?_
   rintro e w' ⟨rfl,rfl⟩
   go_wp2_with fail
   refine(cB own (n:=2) (L:=[(x0,b),(x1,a)]) (aI.new _ _ _) rfl (by decide)).mono ?_
   rintro e V3 ⟨rfl,hb⟩
   have HB3:=aC (bel (bel HB2.o (aH _ _)) hb)
   clear hb
   go_wp2_with fail
   go_ret
   exact⟨aN HR.o,HB3.o⟩
 by_cases h1:m.op=10
 ·rw[aRl h1] at hR
  have ha:ar m.op=2:=by rw[h1];decide
  have ia:=hin m.a (by rw[fA ha];simp)
  have ib:=hin m.b (by rw[fA ha];simp)
  obtain⟨op,a,b,c,k,s⟩:=m
  dsimp only at h1 ha ia ib HN2 hR ⊢
  obtain⟨e0,e1,e2,e3,e4,e5⟩:=aJ HN2.o
  clear hin h0 ha
  have HJ1:=aC (HI.o a 1 ia)
  generalize isN M a 1=x0 at *
  have HJ2:=aC (HI.o b 1 ib)
  generalize isN M b 1=x1 at *
  have HR:=aC hR
  clear hR
  subst h1
  go_wp2_with fail
  refine HJ1.o.mono ?_
  rintro e w' ⟨rfl,rfl⟩
  go_wp2_with fail
  refine HJ2.o.mono ?_
  rintro e w' ⟨rfl,rfl⟩
  go_wp2_with fail
  refine(cB own (n:=2) (L:=[(x0,b),(x1,a)]) (aI.new _ _ _) rfl (by decide)).mono ?_
  rintro e V3 ⟨rfl,hb⟩
  have HB3:=aC (bel (bel HB2.o (aH _ _)) hb)
  clear hb
  go_wp2_with fail
  go_ret
  exact⟨aN HR.o,HB3.o⟩
 by_cases h2:m.op=16
 ·rw[aRw h2] at hR
  have ha:ar m.op=2:=by rw[h2];decide
  have ia:=hin m.a (by rw[fA ha];simp)
  have ib:=hin m.b (by rw[fA ha];simp)
  obtain⟨op,a,b,c,k,s⟩:=m
  dsimp only at h2 ha ia ib HN2 hR ⊢
  obtain⟨e0,e1,e2,e3,e4,e5⟩:=aJ HN2.o
  clear hin h0 h1 ha
  have HJ1:=aC (HI.o a 0 ia)
  generalize isN M a 0=x0 at *
  have HJ2:=aC (HI.o b 0 ib)
  generalize isN M b 0=x1 at *
  have HR:=aC hR
  clear hR
  subst h2
  go_wp2_with fail
  refine HJ1.o.mono ?_
  rintro e w' ⟨rfl,rfl⟩
  go_wp2_with fail
  refine HJ2.o.mono ?_
  rintro e w' ⟨rfl,rfl⟩
  go_wp2_with fail
  refine(cB own (n:=3) (L:=[(a==b,a),(x0,b),(x1,a)]) (aI.new _ _ _) rfl (by decide)).mono ?_
  rintro e V3 ⟨rfl,hb⟩
  have HB3:=aC (bel (bel HB2.o (aH _ _)) hb)
  clear hb
  go_wp2_with fail
  go_ret
  exact⟨aN HR.o,HB3.o⟩
 by_cases h3:m.op=15
 ·rw[aQ9 h3] at hR
  have ha:ar m.op=2:=by rw[h3];decide
  have ia:=hin m.a (by rw[fA ha];simp)
  have ib:=hin m.b (by rw[fA ha];simp)
  obtain⟨op,a,b,c,k,s⟩:=m
  dsimp only at h3 ha ia ib HN2 hR ⊢
  obtain⟨e0,e1,e2,e3,e4,e5⟩:=aJ HN2.o
  clear hin h0 h1 h2 ha
  have HJ1:=aC (HI.o a (-1) ia)
  generalize isN M a (-1)=x0 at *
  have HJ2:=aC (HI.o b (-1) ib)
  generalize isN M b (-1)=x1 at *
  have HR:=aC hR
  clear hR
  subst h3
  go_wp2_with fail
  refine HJ1.o.mono ?_
  rintro e w' ⟨rfl,rfl⟩
  go_wp2_with fail
  refine HJ2.o.mono ?_
  rintro e w' ⟨rfl,rfl⟩
  go_wp2_with fail
  refine(cB own (n:=3) (L:=[(a==b,a),(x0,b),(x1,a)]) (aI.new _ _ _) rfl (by decide)).mono ?_
  rintro e V3 ⟨rfl,hb⟩
  have HB3:=aC (bel (bel HB2.o (aH _ _)) hb)
  clear hb
  go_wp2_with fail
  go_ret
  exact⟨aN HR.o,HB3.o⟩
 by_cases h4:m.op=24\/m.op=25
 ·rw[aRj h4] at hR
  have ha:ar m.op=2:=by rcases h4 with e|e <;> rw[e] <;> decide
  have ia:=hin m.a (by rw[fA ha];simp)
  have ib:=hin m.b (by rw[fA ha];simp)
  obtain⟨op,a,b,c,k,s⟩:=m
  dsimp only at h4 ha ia ib HN2 hR ⊢
  obtain⟨e0,e1,e2,e3,e4,e5⟩:=aJ HN2.o
  clear hin h0 h1 h2 h3 ha
  have HR:=aC hR
  clear hR
  rcases h4 with rfl|rfl 
  all_goals
   go_wp2_with fail
   refine(cB own (n:=1) (L:=[(a==b,a)]) (aI.new _ _ _) rfl (by decide)).mono ?_
   rintro e V3 ⟨rfl,hb⟩
   have HB3:=aC (bel (bel HB2.o (aH _ _)) hb)
   clear hb
   go_wp2_with fail
   go_ret
   exact⟨aN HR.o,HB3.o⟩
 by_cases h5:m.op=9\/m.op=13\/m.op=14
 ·rw[aQv h5] at hR
  have ha:ar m.op=2:=by rcases h5 with e|e|e <;> rw[e] <;> decide
  have ia:=hin m.a (by rw[fA ha];simp)
  have ib:=hin m.b (by rw[fA ha];simp)
  obtain⟨op,a,b,c,k,s⟩:=m
  dsimp only at h5 ha ia ib HN2 hR ⊢
  obtain⟨e0,e1,e2,e3,e4,e5⟩:=aJ HN2.o
  clear hin h0 h1 h2 h3 h4 ha
  have HJ1:=aC (HI.o b 0 ib)
  generalize isN M b 0=x0 at *
  have HR:=aC hR
  clear hR
  rcases h5 with rfl|rfl|rfl 
  all_goals
   go_wp2_with fail
   refine HJ1.o.mono ?_
   rintro e w' ⟨rfl,rfl⟩
   go_wp2_with fail
   refine(cB own (n:=1) (L:=[(x0,a)]) (aI.new _ _ _) rfl (by decide)).mono ?_
   rintro e V3 ⟨rfl,hb⟩
   have HB3:=aC (bel (bel HB2.o (aH _ _)) hb)
   clear hb
   go_wp2_with fail
   go_ret
   exact⟨aN HR.o,HB3.o⟩
 by_cases h6:m.op=11
 ·rw[aRs h6] at hR
  have ha:ar m.op=2:=by rw[h6];decide
  have ia:=hin m.a (by rw[fA ha];simp)
  have ib:=hin m.b (by rw[fA ha];simp)
  obtain⟨op,a,b,c,k,s⟩:=m
  dsimp only at h6 ha ia ib HN2 hR ⊢
  obtain⟨e0,e1,e2,e3,e4,e5⟩:=aJ HN2.o
  clear hin h0 h1 h2 h3 h4 h5 ha
  have HJ1:=aC (HI.o b 1 ib)
  generalize isN M b 1=x0 at *
  have HR:=aC hR
  clear hR
  subst h6
  go_wp2_with fail
  refine HJ1.o.mono ?_
  rintro e w' ⟨rfl,rfl⟩
  go_wp2_with fail
  refine(cB own (n:=1) (L:=[(x0,a)]) (aI.new _ _ _) rfl (by decide)).mono ?_
  rintro e V3 ⟨rfl,hb⟩
  have HB3:=aC (bel (bel HB2.o (aH _ _)) hb)
  clear hb
  go_wp2_with fail
  go_ret
  exact⟨aN HR.o,HB3.o⟩
 by_cases h7:m.op=29\/m.op=30
 ·rw[aRz h7] at hR
  have ha:ar m.op=1:=by rcases h7 with e|e <;> rw[e] <;> decide
  have ia:=hin m.a (by rw[sG ha];simp)
  obtain⟨op,a,b,c,k,s⟩:=m
  dsimp only at h7 ha ia HN2 hR ⊢
  obtain⟨e0,e1,e2,e3,e4,e5⟩:=aJ HN2.o
  clear hin h0 h1 h2 h3 h4 h5 h6 ha
  have HR:=aC hR
  clear hR
  rcases h7 with rfl|rfl 
  all_goals
   go_wp2_with fail
   refine(cB own (n:=1) (L:=[(k==0,a)]) (aI.new _ _ _) rfl (by decide)).mono ?_
   rintro e V3 ⟨rfl,hb⟩
   have HB3:=aC (bel (bel HB2.o (aH _ _)) hb)
   clear hb
   go_wp2_with fail
   go_ret
   exact⟨aN HR.o,HB3.o⟩
 by_cases h8:m.op=32
 ·rw[aQ5 h8] at hR
  have ha:ar m.op=1:=by rw[h8];decide
  have ia:=hin m.a (by rw[sG ha];simp)
  obtain⟨op,a,b,c,k,s⟩:=m
  dsimp only at h8 ha ia HN2 hR ⊢
  obtain⟨e0,e1,e2,e3,e4,e5⟩:=aJ HN2.o
  clear hin h0 h1 h2 h3 h4 h5 h6 h7 ha
  have HR:=aC hR
  clear hR
  subst h8
  go_wp2_with fail
  refine(cB own (n:=1) (L:=[(k==1,a)]) (aI.new _ _ _) rfl (by decide)).mono ?_
  rintro e V3 ⟨rfl,hb⟩
  have HB3:=aC (bel (bel HB2.o (aH _ _)) hb)
  clear hb
  go_wp2_with fail
  go_ret
  exact⟨aN HR.o,HB3.o⟩
 by_cases h9:m.op=5
 ·rw[aRi h9] at hR
  have ha:ar m.op=1:=by rw[h9];decide
  have ia:=hin m.a (by rw[sG ha];simp)
  obtain⟨ja,hja⟩:∃ k:Nat,m.a=k:=⟨m.a.toNat,by have:=ia.1;omega⟩
  have hj:ja < vn:=by have:=ia.2;omega
  obtain⟨g,off,rfl,hgl,hat⟩:=HM2.o.at (by omega)
  obtain⟨c0,c1,-,-,-,-⟩:=hat ja hj
  obtain⟨op,a,b,c,k,s⟩:=m
  dsimp only at h9 ha ia HN2 hR ⊢
  dsimp only at hja
  subst hja
  unfold rg at hR
  rw[Int.toNat_natCast] at hR
  obtain⟨e0,e1,e2,e3,e4,e5⟩:=aJ HN2.o
  clear hin h0 h1 h2 h3 h4 h5 h6 h7 h8 ha
  have HR:=aC hR
  clear hR
  subst h9
  have i0':(0:Int)<=ja:=by omega
  have i1':(ja:Int) < vn:=by omega
  generalize M.getD ja i0=z at *
  clear hat ia
  go_wp2_with fail
  have HF:=aC (cB own (n:=1) (g:=V2.heap.size) (W:=((V2.alloc (.cells #[.bool (z.op==5),.int .i64 z.a] 158)).drew)) (L:=[(z.op==5,z.a)]) ((aI.new V2 158 #[.bool (z.op==5),.int .i64 z.a]).below (aD _)) rfl (by decide))
  have hbx:Below V2.heap.size V2 ((V2.alloc (.cells #[.bool (z.op==5),.int .i64 z.a] 158)).drew):=bel (aH V2 _) (aD _)
  have HK0:=aC fun V3 (hb:Below ((V2.alloc (.cells #[.bool (z.op==5),.int .i64 z.a] 158)).drew).heap.size ((V2.alloc (.cells #[.bool (z.op==5),.int .i64 z.a] 158)).drew) V3)=>bN (bel hbx hb) c0 hgl
  have HK1:=aC fun V3 (hb:Below ((V2.alloc (.cells #[.bool (z.op==5),.int .i64 z.a] 158)).drew).heap.size ((V2.alloc (.cells #[.bool (z.op==5),.int .i64 z.a] 158)).drew) V3)=>bN (bel hbx hb) c1 hgl
  have HK2:=aC fun V3 (hb:Below ((V2.alloc (.cells #[.bool (z.op==5),.int .i64 z.a] 158)).drew).heap.size ((V2.alloc (.cells #[.bool (z.op==5),.int .i64 z.a] 158)).drew) V3)=>aC (bel HB2.o (bel hbx hb))
  clear hbx
  go_region_held3 (fun w'=>w'.cell? ⟨g,off+ja*6,none⟩=some (.int .i64 z.op)/\w'.cell? ⟨g,off+ja*6+1,none⟩=some (.int .i64 z.a))
   (first|exact⟨c0,c1⟩|exact⟨k0,k1⟩|go_keep)
   ((first
    | (go_at_call 159;refine HF.o.mono ?_;rintro e V3 ⟨rfl,hb⟩;have k0:=HK0.o V3 hb;have k1:=HK1.o V3 hb;have HB3:=HK2.o V3 hb)))
  all_goals
   clear k0 k1 hb
   go_wp2_with fail
   go_ret
   exact⟨aN HR.o,HB3.o⟩
 by_cases h10:m.op=6
 ·rw[aNz h10] at hR
  have ha:ar m.op=1:=by rw[h10];decide
  have ia:=hin m.a (by rw[sG ha];simp)
  obtain⟨ja,hja⟩:∃ k:Nat,m.a=k:=⟨m.a.toNat,by have:=ia.1;omega⟩
  have hj:ja < vn:=by have:=ia.2;omega
  obtain⟨g,off,rfl,hgl,hat⟩:=HM2.o.at (by omega)
  obtain⟨c0,c1,-,-,-,-⟩:=hat ja hj
  obtain⟨op,a,b,c,k,s⟩:=m
  dsimp only at h10 ha ia HN2 hR ⊢
  dsimp only at hja
  subst hja
  unfold rg at hR
  rw[Int.toNat_natCast] at hR
  obtain⟨e0,e1,e2,e3,e4,e5⟩:=aJ HN2.o
  clear hin h0 h1 h2 h3 h4 h5 h6 h7 h8 h9 ha
  have HR:=aC hR
  clear hR
  subst h10
  have i0':(0:Int)<=ja:=by omega
  have i1':(ja:Int) < vn:=by omega
  generalize M.getD ja i0=z at *
  clear hat ia
  go_wp2_with fail
  refine(cB own (n:=1) (L:=[(z.op==6,(ja:Int))]) (aI.new _ _ _) rfl (by decide)).mono ?_
  rintro e V3 ⟨rfl,hb⟩
  have HB3:=aC (bel (bel HB2.o (aH _ _)) hb)
  clear hb
  go_wp2_with fail
  go_ret
  exact⟨aN HR.o,HB3.o⟩
 by_cases h11:m.op=28
 ·rw[aOa h11] at hR
  have ha:ar m.op=3:=by rw[h11];decide
  have ia:=hin m.a (by rw[kW ha];simp)
  have ib:=hin m.b (by rw[kW ha];simp)
  have ic:=hin m.c (by rw[kW ha];simp)
  obtain⟨ja,hja⟩:∃ k:Nat,m.a=k:=⟨m.a.toNat,by have:=ia.1;omega⟩
  have hj:ja < vn:=by have:=ia.2;omega
  obtain⟨g,off,rfl,hgl,hat⟩:=HM2.o.at (by omega)
  obtain⟨c0,-,-,-,c4,-⟩:=hat ja hj
  obtain⟨op,a,b,c,k,s⟩:=m
  dsimp only at h11 ha ia ib ic HN2 hR ⊢
  dsimp only at hja
  subst hja
  unfold isN rg at hR
  rw[Int.toNat_natCast] at hR
  obtain⟨e0,e1,e2,e3,e4,e5⟩:=aJ HN2.o
  clear hin h0 h1 h2 h3 h4 h5 h6 h7 h8 h9 h10 ha
  have HR:=aC hR
  clear hR
  subst h11
  have i0':(0:Int)<=ja:=by omega
  have i1':(ja:Int) < vn:=by omega
  generalize M.getD ja i0=z at *
  clear hat ia
  go_wp2_with fail
  have HF:=aC (cB own (n:=3) (g:=V2.heap.size) (W:=((V2.alloc (.cells #[.bool (z.op==1&&z.k==0),.int .i64 c,.bool (z.op==1),.int .i64 b,.bool (b==c),.int .i64 b] 158)).drew)) (L:=[(z.op==1&&z.k==0,c),(z.op==1,b),(b==c,b)]) ((aI.new V2 158 #[.bool (z.op==1&&z.k==0),.int .i64 c,.bool (z.op==1),.int .i64 b,.bool (b==c),.int .i64 b]).below (aD _)) rfl (by decide))
  have hbx:Below V2.heap.size V2 ((V2.alloc (.cells #[.bool (z.op==1&&z.k==0),.int .i64 c,.bool (z.op==1),.int .i64 b,.bool (b==c),.int .i64 b] 158)).drew):=bel (aH V2 _) (aD _)
  have HK0:=aC fun V3 (hb:Below ((V2.alloc (.cells #[.bool (z.op==1&&z.k==0),.int .i64 c,.bool (z.op==1),.int .i64 b,.bool (b==c),.int .i64 b] 158)).drew).heap.size ((V2.alloc (.cells #[.bool (z.op==1&&z.k==0),.int .i64 c,.bool (z.op==1),.int .i64 b,.bool (b==c),.int .i64 b] 158)).drew) V3)=>bN (bel hbx hb) c0 hgl
  have HK1:=aC fun V3 (hb:Below ((V2.alloc (.cells #[.bool (z.op==1&&z.k==0),.int .i64 c,.bool (z.op==1),.int .i64 b,.bool (b==c),.int .i64 b] 158)).drew).heap.size ((V2.alloc (.cells #[.bool (z.op==1&&z.k==0),.int .i64 c,.bool (z.op==1),.int .i64 b,.bool (b==c),.int .i64 b] 158)).drew) V3)=>bN (bel hbx hb) c4 hgl
  have HK2:=aC fun V3 (hb:Below ((V2.alloc (.cells #[.bool (z.op==1&&z.k==0),.int .i64 c,.bool (z.op==1),.int .i64 b,.bool (b==c),.int .i64 b] 158)).drew).heap.size ((V2.alloc (.cells #[.bool (z.op==1&&z.k==0),.int .i64 c,.bool (z.op==1),.int .i64 b,.bool (b==c),.int .i64 b] 158)).drew) V3)=>aC (bel HB2.o (bel hbx hb))
  clear hbx
  go_region_held3 (fun w'=>w'.cell? ⟨g,off+ja*6,none⟩=some (.int .i64 z.op)/\w'.cell? ⟨g,off+ja*6+4,none⟩=some (.int .i64 z.k))
   (first|exact⟨c0,c4⟩|exact⟨k0,k1⟩|go_keep)
   ((first
    | (go_at_call 160;refine(zY 0 hj (by first | exact c0 | go_keep) (by first | exact c4 | go_keep) hs).mono ?_;rintro e w2 ⟨rfl,rfl⟩)
    | (go_at_call 159;refine HF.o.mono ?_;rintro e V3 ⟨rfl,hb⟩;have k0:=HK0.o V3 hb;have k1:=HK1.o V3 hb;have HB3:=HK2.o V3 hb)))
  all_goals
   clear k0 k1 hb
   go_wp2_with fail
   go_ret
   exact⟨aN HR.o,HB3.o⟩
 by_cases h12:m.op=27
 ·rw[aOh h12] at hR
  have ha:ar m.op=3:=by rw[h12];decide
  have ia:=hin m.a (by rw[kW ha];simp)
  have ib:=hin m.b (by rw[kW ha];simp)
  have ic:=hin m.c (by rw[kW ha];simp)
  obtain⟨op,a,b,c,k,s⟩:=m
  dsimp only at h12 ha ia ib ic HN2 hR ⊢
  obtain⟨e0,e1,e2,e3,e4,e5⟩:=aJ HN2.o
  clear hin h0 h1 h2 h3 h4 h5 h6 h7 h8 h9 h10 h11 ha
  have HR:=aC hR
  clear hR
  subst h12
  cases hx:(a==b)
  ·go_wp2_with fail
   refine(cB own (n:=2) (L:=[(a==c,a),(b==c,b)]) (aI.new _ _ _) rfl (by decide)).mono ?_
   rintro e V3 ⟨rfl,hb⟩
   have HB3:=aC (bel (bel HB2.o (aH _ _)) hb)
   clear hb
   go_wp2_with fail
   go_ret
   exact⟨aN (by have:=HR.o;rw[hx] at this;exact this),HB3.o⟩
  ·go_wp2_with fail
   refine(cB own (n:=2) (L:=[(true,a),(b==c,b)]) (aI.new _ _ _) rfl (by decide)).mono ?_
   rintro e V3 ⟨rfl,hb⟩
   have HB3:=aC (bel (bel HB2.o (aH _ _)) hb)
   clear hb
   go_wp2_with fail
   go_ret
   exact⟨aN (by have:=HR.o;rw[hx] at this;exact this),HB3.o⟩
 by_cases h13:m.op=26
 ·rw[aOf h13] at hR
  have ha:ar m.op=3:=by rw[h13];decide
  have ia:=hin m.a (by rw[kW ha];simp)
  have ib:=hin m.b (by rw[kW ha];simp)
  have ic:=hin m.c (by rw[kW ha];simp)
  obtain⟨op,a,b,c,k,s⟩:=m
  dsimp only at h13 ha ia ib ic HN2 hR ⊢
  obtain⟨e0,e1,e2,e3,e4,e5⟩:=aJ HN2.o
  clear hin h0 h1 h2 h3 h4 h5 h6 h7 h8 h9 h10 h11 h12 ha
  have HR:=aC hR
  clear hR
  subst h13
  go_wp2_with fail
  refine(cB own (n:=1) (L:=[(b==c,b)]) (aI.new _ _ _) rfl (by decide)).mono ?_
  rintro e V3 ⟨rfl,hb⟩
  have HB3:=aC (bel (bel HB2.o (aH _ _)) hb)
  clear hb
  go_wp2_with fail
  go_ret
  exact⟨aN HR.o,HB3.o⟩
 ·rw[show iU M m=[] by unfold iU;rw[if_neg h0,if_neg h1,if_neg h2,if_neg h3,if_neg h4,if_neg h5,if_neg h6,if_neg h7,if_neg h8,if_neg h9,if_neg h10,if_neg h11,if_neg h12,if_neg h13]] at hR
  obtain⟨op,a,b,c,k,s⟩:=m
  dsimp only at *
  have q5:(op==5)=false:=by simp;omega
  have q6:(op==6)=false:=by simp;omega
  have q8:(op==8)=false:=by simp;omega
  have q9:(op==9)=false:=by simp;omega
  have q10:(op==10)=false:=by simp;omega
  have q11:(op==11)=false:=by simp;omega
  have q13:(op==13)=false:=by simp;omega
  have q14:(op==14)=false:=by simp;omega
  have q15:(op==15)=false:=by simp;omega
  have q16:(op==16)=false:=by simp;omega
  have q17:(op==17)=false:=by simp;omega
  have q24:(op==24)=false:=by simp;omega
  have q25:(op==25)=false:=by simp;omega
  have q26:(op==26)=false:=by simp;omega
  have q27:(op==27)=false:=by simp;omega
  have q28:(op==28)=false:=by simp;omega
  have q29:(op==29)=false:=by simp;omega
  have q30:(op==30)=false:=by simp;omega
  have q32:(op==32)=false:=by simp;omega
  obtain⟨e0,e1,e2,e3,e4,e5⟩:=aJ HN2.o
  clear hin HI h0 h1 h2 h3 h4 h5 h6 h7 h8 h9 h10 h11 h12 h13
  go_wp2_with fail
  go_ret
  exact⟨aN hR,HB2.o⟩
end Go.Proofs.Fld
