import Derived.Test.YtihbhbeaihdgnaaGreatXH
import Derived.Lib.QuietBelow
import Derived.BigQuiet
import Derived.Test.YtihbhbeaihdgnaaGreatX33
set_option maxRecDepth 100000
set_option maxHeartbeats 32000000
set_option linter.unusedVariables false
namespace Go.Proofs.Fld
open Go.RowKit Go.IntWalk Knd
open Cde (In i0 ia kd cd Ins tO aJ aK)
variable {a:Option Addr} {cap n:Nat} {T:List Int} {W:World}
theorem aPm (r:Int)(hT:Ints W a n cap T) :
  Calls Tryz.prog 209 #[.int .i64 r,.slice a n cap] W fun e W'=>e=.returned (.int .i64 (dB T r))/\W'=W:=by
 have hl:=hT.len
 have hs:n<=9223372036854775807:=by have:=hT.le;have:=hT.max;unfold maxLen at this;omega
 by_cases h0:r < 0
 ·rw[show dB T r=r from if_pos (.inl h0)]
  go_enter Tryz.func209,Tryz.ntmps209
  go_wp2_with fail
  go_ret
  exact⟨rfl,rfl⟩
 by_cases h1:(T.length:Int)<=r
 ·rw[show dB T r=r from if_pos (.inr h1)]
  have q0:decide (r < 0)=false:=by simpa using h0
  have q1:decide ((n:Int)<=r)=true:=by simp;omega
  go_enter Tryz.func209,Tryz.ntmps209
  go_wp2_with fail
  go_ret
  exact⟨rfl,rfl⟩
 ·rw[show dB T r=T.getD r.toNat 0 from if_neg (by omega)]
  obtain⟨k,rfl⟩:∃ k:Nat,r=k:=⟨r.toNat,by omega⟩
  have hk:k < n:=by omega
  obtain⟨b,off,rfl,-,hc⟩:=hT.at (by omega)
  have c0:=hc k hk
  have q0:decide ((k:Int) < 0)=false:=by simp
  have q1:decide ((n:Int)<=(k:Int))=false:=by simp;omega
  have q2:decide (n<=k)=false:=by simp;omega
  have i0':(0:Int)<=k:=by omega
  have i1':(k:Int) < n:=by omega
  rw[Int.toNat_natCast]
  generalize T.getD k 0=z at *
  clear hc hl h0 h1
  go_enter Tryz.func209,Tryz.ntmps209
  go_wp2_with fail
  go_ret
  exact⟨rfl,rfl⟩
theorem aDe (k:Int){b off j:Nat}{m:In}(hj:j < n)(c0:W.cell? ⟨b,off+j*6,none⟩=some (.int .i64 m.op))(c4:W.cell? ⟨b,off+j*6+4,none⟩=some (.int .i64 m.k))(hs:n<=9223372036854775807) :
  Calls Tryz.prog 214 #[.slice (some ⟨b,off,none⟩) n cap,.int .i64 (j:Int),.int .i64 k] W fun e W'=>e=.returned (.bool (m.op==1&&m.k==k))/\W'=W:=by
 have i0':(0:Int)<=j:=by omega
 have i1':(j:Int) < n:=by omega
 by_cases h1:m.op=1
 ·have q1:(m.op==1)=true:=by simpa using h1
  rw[q1]
  clear h1
  go_enter Tryz.func214,Tryz.ntmps214
  go_wp2_with fail
  go_ret
  exact⟨by simp,rfl⟩
 ·have q1:(m.op==1)=false:=by simpa using h1
  rw[q1]
  clear h1
  go_enter Tryz.func214,Tryz.ntmps214
  go_wp2_with fail
  go_ret
  exact⟨rfl,rfl⟩
theorem aHb (r k:Int){M:List In}(hM:Ins W a n cap M)(hr:dL r n) :
  Calls Tryz.prog 214 #[.slice a n cap,.int .i64 r,.int .i64 k] W fun e W'=>e=.returned (.bool (isN M r k))/\W'=W:=by
 have hs:=hM.short
 obtain⟨j,rfl⟩:∃ k:Nat,r=k:=⟨r.toNat,by have:=hr.1;omega⟩
 have hj:j < n:=by have:=hr.2;omega
 obtain⟨b,off,rfl,-,hc⟩:=hM.at (by omega)
 obtain⟨c0,-,-,-,c4,-⟩:=hc j hj
 unfold isN rg
 rw[Int.toNat_natCast]
 exact aDe k hj c0 c4 hs
abbrev lnA (L:List (Bool × Int)):Array Value:=(L.flatMap fun p=>[Value.bool p.1,.int .i64 p.2]).toArray
theorem aHm:∀(L:List (Bool × Int)) (i:Nat),i < L.length->(lnA L)[i*2]?=some (.bool (L.getD i (false,0)).1)/\(lnA L)[i*2+1]?=some (.int .i64 (L.getD i (false,0)).2)
 | [],i,h=>by simp at h
 | p::L,0,h=>by simp[lnA]
 | p::L,i+1,h=>by
  have:=aHm L i (by simpa using h)
  simp only[lnA,List.flatMap_cons,List.getElem?_toArray] at this ⊢
  rw[List.getElem?_append_right (by simp;omega),List.getElem?_append_right (by simp;omega)]
  simp only[List.length_cons,List.length_nil]
  rw[show (i+1)*2-(0+1+1)=i*2 by omega,show (i+1)*2+1-(0+1+1)=i*2+1 by omega]
  simpa using this
theorem aPr (own:Int)(L:List (Bool × Int)){k:Nat}(h:k < L.length):yZ own (L.drop k)=if (L.getD k (false,0)).1=true then(L.getD k (false,0)).2 else yZ own (L.drop (k+1)):=by
 rw[List.drop_eq_getElem_cons h,yZ,List.getD_eq_getElem?_getD,List.getElem?_eq_getElem h]
 rfl
theorem bM (own:Int){g:Nat}{L:List (Bool × Int)}(hL:aB W g 228 (lnA L))(hn:L.length=n)(h3:n<=3) :
  Calls Tryz.prog 213 #[.int .i64 own,.slice (some ⟨g,0,none⟩) n n] W fun e W'=>e=.returned (.int .i64 (yZ own L))/\Below W.heap.size W W':=by
 have HL:=aA hL
 have HN:=aA hn
 have HG:=aA fun i h=>aHm L i h
 have HD:=aA fun k h=>aPr own L (k:=k) h
 have H0:Hid (yZ own (L.drop 0)=yZ own L):=aA rfl
 generalize yZ own L=z at *
 clear hL hn
 go_enter Tryz.func213,Tryz.ntmps213
 go_wp2_with fail
 go_loopw [9] (fun i wr=>∃ k:Nat,k<=n/\i=.int .i64 k/\Hid (yZ own (L.drop k)=z)/\Hid (Below W.heap.size W wr)) (fun i _=>n-(intOf i).toNat)
 case atStart=>exact⟨0,Nat.zero_le _,rfl,aA H0.o,aA (Below.refl _ _)⟩
 case round =>
  obtain⟨k,hk,rfl,HZ,HB⟩:=hrel
  rename World=>V
  clear H0
  by_cases hlt:k < n
  ·obtain⟨g0,g1⟩:=HG.o k (by rw[HN.o];exact hlt)
   have hc:=HL.o.below HB.o
   have c0:=hc.cell _ g0
   have c1:=hc.cell _ g1
   have hD:=HD.o k (by rw[HN.o];exact hlt)
   rw[HZ.o] at hD
   generalize L.getD k (false,0)=p at *
   obtain⟨pb,pr⟩:=p
   have HD2:=aA hD
   have i0':(0:Int)<=k:=by omega
   have i1':(k:Int) < n:=by omega
   have HB2:=aA (bel HB.o (aC V (.cells #[.bool pb,.int .i64 pr] 228)))
   clear hc hD g0 g1
   cases pb
   ·go_wp2_with fail
    go_roundw
    case rel=>exact⟨k+1,by omega,by go_num,aA (by have:=HD2.o;simpa using this.symm),HB2⟩
    case measure=>simp[intOf];omega
   ·go_wp2_with fail
    go_ret
    exact⟨aN (by have:=HD2.o;simpa using this.symm),HB2.o⟩
  ·obtain rfl:k=n:=by omega
   have hZ:=HZ.o
   rw[List.drop_of_length_le (by rw[HN.o];exact Nat.le_refl _)] at hZ
   have HZ2:Hid (own=z):=aA hZ
   clear hZ
   go_wp2_with fail
   go_ret
   exact⟨aN HZ2.o,HB.o⟩
theorem aFf (f d:Int)(n:In)(W:World) :
  Calls Tryz.prog 210 #[.agg (kd f d),.agg (ia n)] W fun e W'=>e=.returned (.tuple #[.int .i64 (bnZ f d n).1,.bool (bnZ f d n).2])/\Below W.heap.size W W':=by
 have HL:=aA fun W=>Knd.nL f d W
 have HH:=aA fun W=>Knd.kN f d W
 have HO:=aA fun W=>Knd.nA f d W
 have HB:=aA (bel (aC W (.cells (kd f d) 23)) (aC (W.alloc (.cells (kd f d) 23)) (.cells (ia n) 41)))
 obtain⟨op,a,b,c,k,s⟩:=n
 unfold bnZ
 dsimp only
 by_cases h2:op=2
 ·subst h2
  rw[if_pos rfl]
  by_cases h3:k=3
  ·subst h3
   rw[if_pos rfl]
   go_enter Tryz.func210,Tryz.ntmps210
   go_wp2_with fail
   refine(HL.o _).mono ?_
   rintro e V1 ⟨rfl,hb⟩
   go_wp2_with fail
   exact bodyPost_ret (v:=.tuple #[.int .i64 (dR f d),.bool true]) (by simp[results,Tryz.results210,go_sem]) rfl ⟨rfl,bel HB.o hb⟩
  rw[if_neg h3]
  by_cases h4:k=4
  ·subst h4
   rw[if_pos rfl]
   clear h3
   go_enter Tryz.func210,Tryz.ntmps210
   go_wp2_with fail
   refine(HH.o _).mono ?_
   rintro e V1 ⟨rfl,hb⟩
   go_wp2_with fail
   exact bodyPost_ret (v:=.tuple #[.int .i64 (bH f d),.bool true]) (by simp[results,Tryz.results210,go_sem]) rfl ⟨rfl,bel HB.o hb⟩
  rw[if_neg h4]
  by_cases h5:k=5
  ·subst h5
   rw[if_pos rfl]
   clear h3 h4
   go_enter Tryz.func210,Tryz.ntmps210
   go_wp2_with fail
   refine(HO.o _).mono ?_
   rintro e V1 ⟨rfl,hb⟩
   go_wp2_with fail
   exact bodyPost_ret (v:=.tuple #[.int .i64 (aW f d),.bool true]) (by simp[results,Tryz.results210,go_sem]) rfl ⟨rfl,bel HB.o hb⟩
  rw[if_neg h5]
  have q3:(k==3)=false:=by simpa using h3
  have q4:(k==4)=false:=by simpa using h4
  have q5:(k==5)=false:=by simpa using h5
  clear h3 h4 h5
  go_enter Tryz.func210,Tryz.ntmps210
  go_wp2_with fail
  exact bodyPost_ret (v:=.tuple #[.int .i64 0,.bool false]) (by simp[results,Tryz.results210,go_sem]) rfl ⟨rfl,HB.o⟩
 ·rw[if_neg h2]
  have q2:(op != 2)=true:=by simpa using h2
  clear h2
  go_enter Tryz.func210,Tryz.ntmps210
  go_wp2_with fail
  exact bodyPost_ret (v:=.tuple #[.int .i64 0,.bool false]) (by simp[results,Tryz.results210,go_sem]) rfl ⟨rfl,HB.o⟩
theorem aXu {n:In}(h:¬0 < ar n.op):bW n T=n:=by
 unfold bW
 rw[if_neg h,if_neg (by omega),if_neg (by omega)]
theorem aYu {n:In}(h:ar n.op=1):bW n T=⟨n.op,dB T n.a,n.b,n.c,n.k,n.s⟩:=by
 unfold bW
 rw[h];rfl
theorem aYv {n:In}(h:ar n.op=2):bW n T=⟨n.op,dB T n.a,dB T n.b,n.c,n.k,n.s⟩:=by
 unfold bW
 rw[h];rfl
theorem aYw {n:In}(h:ar n.op=3):bW n T=⟨n.op,dB T n.a,dB T n.b,dB T n.c,n.k,n.s⟩:=by
 unfold bW
 rw[h];rfl
theorem fP (n:In){m:Nat}(hT:Ints W a m cap T) :
  Calls Tryz.prog 182 #[.agg (ia n),.slice a m cap] W fun e W'=>e=.returned (.agg (ia (bW n T)))/\Below W.heap.size W W':=by
 have HA:=aA fun W=>Spn.bI n.op W
 have hb2:=bel (aC W (.cells (ia n) 41)) (aC (W.alloc (.cells (ia n) 41)) (.cells (ia i0) 41))
 have HE:=aA fun V r (h:Below W.heap.size W V)=>aPm r (hT.later h)
 have HB0:=aA hb2
 rcases Cde.jD n.op with h|h|h|h|h
 ·rw[aXu (by rw[ar,h];decide)]
  rw[h] at HA
  clear h
  go_enter Tryz.func182,Tryz.ntmps182
  go_wp2_with (first
   | (go_at_call 69;refine(HA.o _).mono ?_;rintro e w' ⟨rfl,rfl⟩)
   | (go_at_call 209;refine(HE.o _ _ (by first | exact bel (aC W _) (aC _ _) | exact bel ((aC W _).setCell (by simp) _) (aC _ _) | exact bel (((aC W _).setCell (by simp) _).setCell (by simp) _) (aC _ _))).mono ?_;rintro e w' ⟨rfl,rfl⟩))
  exact bodyPost_ret (v:=.agg (ia _)) (by simp[results,Tryz.results182,go_sem]) rfl ⟨rfl,by first|exact bel (aC W _) (aC _ _)|exact bel ((aC W _).setCell (by simp) _) (aC _ _)|exact bel (((aC W _).setCell (by simp) _).setCell (by simp) _) (aC _ _)|exact bel ((((aC W _).setCell (by simp) _).setCell (by simp) _).setCell (by simp) _) (aC _ _)⟩
 ·rw[aXu (by rw[ar,h];decide)]
  rw[h] at HA
  clear h
  go_enter Tryz.func182,Tryz.ntmps182
  go_wp2_with (first
   | (go_at_call 69;refine(HA.o _).mono ?_;rintro e w' ⟨rfl,rfl⟩)
   | (go_at_call 209;refine(HE.o _ _ (by first | exact bel (aC W _) (aC _ _) | exact bel ((aC W _).setCell (by simp) _) (aC _ _) | exact bel (((aC W _).setCell (by simp) _).setCell (by simp) _) (aC _ _))).mono ?_;rintro e w' ⟨rfl,rfl⟩))
  exact bodyPost_ret (v:=.agg (ia _)) (by simp[results,Tryz.results182,go_sem]) rfl ⟨rfl,by first|exact bel (aC W _) (aC _ _)|exact bel ((aC W _).setCell (by simp) _) (aC _ _)|exact bel (((aC W _).setCell (by simp) _).setCell (by simp) _) (aC _ _)|exact bel ((((aC W _).setCell (by simp) _).setCell (by simp) _).setCell (by simp) _) (aC _ _)⟩
 ·rw[aYu h]
  rw[h] at HA
  clear h
  go_enter Tryz.func182,Tryz.ntmps182
  go_wp2_with (first
   | (go_at_call 69;refine(HA.o _).mono ?_;rintro e w' ⟨rfl,rfl⟩)
   | (go_at_call 209;refine(HE.o _ _ (by first | exact bel (aC W _) (aC _ _) | exact bel ((aC W _).setCell (by simp) _) (aC _ _) | exact bel (((aC W _).setCell (by simp) _).setCell (by simp) _) (aC _ _))).mono ?_;rintro e w' ⟨rfl,rfl⟩))
  exact bodyPost_ret (v:=.agg (ia _)) (by simp[results,Tryz.results182,go_sem]) rfl ⟨rfl,by first|exact bel (aC W _) (aC _ _)|exact bel ((aC W _).setCell (by simp) _) (aC _ _)|exact bel (((aC W _).setCell (by simp) _).setCell (by simp) _) (aC _ _)|exact bel ((((aC W _).setCell (by simp) _).setCell (by simp) _).setCell (by simp) _) (aC _ _)⟩
 ·rw[aYv h]
  rw[h] at HA
  clear h
  go_enter Tryz.func182,Tryz.ntmps182
  go_wp2_with (first
   | (go_at_call 69;refine(HA.o _).mono ?_;rintro e w' ⟨rfl,rfl⟩)
   | (go_at_call 209;refine(HE.o _ _ (by first | exact bel (aC W _) (aC _ _) | exact bel ((aC W _).setCell (by simp) _) (aC _ _) | exact bel (((aC W _).setCell (by simp) _).setCell (by simp) _) (aC _ _))).mono ?_;rintro e w' ⟨rfl,rfl⟩))
  exact bodyPost_ret (v:=.agg (ia _)) (by simp[results,Tryz.results182,go_sem]) rfl ⟨rfl,by first|exact bel (aC W _) (aC _ _)|exact bel ((aC W _).setCell (by simp) _) (aC _ _)|exact bel (((aC W _).setCell (by simp) _).setCell (by simp) _) (aC _ _)|exact bel ((((aC W _).setCell (by simp) _).setCell (by simp) _).setCell (by simp) _) (aC _ _)⟩
 ·rw[aYw h]
  rw[h] at HA
  clear h
  go_enter Tryz.func182,Tryz.ntmps182
  go_wp2_with (first
   | (go_at_call 69;refine(HA.o _).mono ?_;rintro e w' ⟨rfl,rfl⟩)
   | (go_at_call 209;refine(HE.o _ _ (by first | exact bel (aC W _) (aC _ _) | exact bel ((aC W _).setCell (by simp) _) (aC _ _) | exact bel (((aC W _).setCell (by simp) _).setCell (by simp) _) (aC _ _))).mono ?_;rintro e w' ⟨rfl,rfl⟩))
  exact bodyPost_ret (v:=.agg (ia _)) (by simp[results,Tryz.results182,go_sem]) rfl ⟨rfl,by first|exact bel (aC W _) (aC _ _)|exact bel ((aC W _).setCell (by simp) _) (aC _ _)|exact bel (((aC W _).setCell (by simp) _).setCell (by simp) _) (aC _ _)|exact bel ((((aC W _).setCell (by simp) _).setCell (by simp) _).setCell (by simp) _) (aC _ _)⟩
end Go.Proofs.Fld
namespace Go.Proofs.Fld
open Go.RowKit Go.IntWalk Knd
open Cde (In i0 ia kd cd Ins tO aJ aK bB dN bY iA arM abc nW zA gQ aM8 spn aOo)
variable {M:List In} {m:In}
theorem aSt (M:List In)(q:Nat):(M.map In.k).getD q 0=(M.getD q i0).k:=by
 rw[List.getD_eq_getElem?_getD,List.getElem?_map,List.getD_eq_getElem?_getD]
 cases M[q]? <;> rfl
theorem aWv (M:List In)(m:In):kaL M m=iA (M.map In.k) m:=by
 unfold kaL iA
 apply List.map_congr_left
 intro r hr
 rw[aSt]
theorem aKg (M:List In)(m:In):alN M m=true↔∀ j,j < bY m->(rg M (nW m j)).op=1:=by
 unfold alN
 rw[List.all_eq_true]
 constructor
 ·intro h j hj
  have:=h ((dN m).getD j 0) (Cde.oH 0 (by rw[Cde.fO];exact hj))
  rw[Cde.qL m j hj] at this
  simpa using this
 ·intro h r hr
  obtain⟨j,hj,rfl⟩:=List.getElem_of_mem hr
  rw[Cde.fO] at hj
  have:=h j hj
  rw[<-Cde.qL m j hj,List.getD_eq_getElem?_getD,List.getElem?_eq_getElem (by rw[Cde.fO];exact hj)] at this
  simpa using this
theorem aXp {j:Nat}(hj:j < bY m)(h:(rg M (nW m j)).op≠1):rkZ M m=(0,false):=by
 unfold rkZ
 rw[if_neg]
 rw[aKg]
 intro h2
 exact h (h2 j hj)
theorem aVn (h:∀ j,j < bY m->(rg M (nW m j)).op=1):rkZ M m=((vl m.op m.k m.s (iA (M.map In.k) m)).1,(vl m.op m.k m.s (iA (M.map In.k) m)).2==0):=by
 unfold rkZ
 rw[if_pos ((aKg M m).2 h),aWv]
theorem aPq (n:In){va:Option Addr}{vn vc:Nat}{W:World}(hM:Ins W va vn vc M)(ho:bB n vn=true) :
  Calls Tryz.prog 211 #[.slice va vn vc,.agg (ia n)] W fun e W'=>e=.returned (.tuple #[.int .i64 (rkZ M n).1,.bool (rkZ M n).2])/\Below W.heap.size W W':=by
 have HA:=aA fun w=>Cde.wD n w
 have HR:=aA fun j hj=>Cde.qQ ho (j:=j) hj
 have HS:=aA fun k (h:k < bY n)=>Cde.zM (M.map In.k) n h
 have HU:=aA fun k (h:k < bY n)=>Cde.aKj (M.map In.k) n h
 have HG0:=aA fun k (h:k < bY n)=>Cde.aOz (M.map In.k) n h
 have HLn:=aA fun k (h:k<=bY n)=>Cde.aG0 (M.map In.k) n h
 have HD:=aA (Cde.aKi (M.map In.k) n)
 have HAl:=aA (Cde.jC (M.map In.k) n)
 have H00:Hid (arM (M.map In.k) n 0=abc n):=aA rfl
 have HNo:=aA fun j=>aXp (M:=M) (m:=n) (j:=j)
 have HYes:=aA (aVn (M:=M) (m:=n))
 have h3':=Cde.lQ n
 have hs:=hM.short
 have HMk:=aA fun q=>aSt M q
 have HB0:=aA (aC W (.cells (ia n) 41))
 have HN0:=aA (aB.new W 41 (ia n))
 have HVW:=aA hM
 generalize arM (M.map In.k) n=Q at *
 generalize bY n=m at *
 obtain⟨⟨X,x2⟩,hX⟩:∃ X,rkZ M n=X:=⟨_,rfl⟩
 rw[hX] at HNo HYes ⊢
 clear ho hM hX
 go_enter Tryz.func211,Tryz.ntmps211
 go_wp2_with fail
 refine(HA.o _).mono ?_
 rintro e V1 ⟨g,rfl,hg,hG,hb⟩
 have HN1:=aA (HN0.o.below hb)
 have HB1:=aA (bel HB0.o hb)
 have HG1:=aA hG
 have hg2:W.heap.size+1<=g:=by simpa using hg
 clear hG hb HN0 HB0 HA hg
 go_wp2_with fail
 go_loopw [15] (fun j wr=>∃ k:Nat,k<=m/\j=.int .i64 k/\Hid (∀ i,i < k->(rg M (nW n i)).op=1)/\Hid (aB wr g 3 (zA (Q k)))/\Hid (aB wr W.heap.size 41 (ia n))/\Hid (Below W.heap.size W wr)) (fun j _=>m-(intOf j).toNat)
 case atStart=>exact⟨0,Nat.zero_le _,rfl,aA (fun i hi=>absurd hi (Nat.not_lt_zero _)),aA (by rw[H00.o];exact HG1.o),HN1,HB1⟩
 case round =>
  obtain⟨k,hk,rfl,HF,HG,HN,HB⟩:=hrel
  rename World=>V2
  clear HG1 HN1 HB1
  by_cases hlt:k < m
  ·obtain⟨p0,p1⟩:=HR.o k hlt
   have hl3:=HLn.o k hk
   have c0:=HG.o.cell k (gQ _ k (by rw[hl3];omega))
   rw[HG0.o k hlt] at c0
   have HX:=HG.o
   rw[HS.o k hlt] at HX
   have HX2:=aA fun x=>aM8 (k:=k) HX (by rw[List.length_take,HAl.o];omega) x
   have HU2:=aA (HU.o k hlt)
   have y0:=HG.o.frozen k
   have HF2:=aA fun(h:(rg M (nW n k)).op=1) (i:Nat) (hi:i < k+1)=>show (rg M (nW n i)).op=1 from by
    by_cases e:i < k
    ·exact HF.o i e
    ·obtain rfl:i=k:=by omega
     exact h
   have HNo2:=aA (HNo.o k hlt)
   obtain⟨q,hq⟩:∃ q:Nat,nW n k=(q:Int):=⟨(nW n k).toNat,by omega⟩
   rw[hq] at c0 p1 HU2
   unfold rg at HF2 HNo2
   rw[hq] at HF2 HNo2
   simp only[Int.toNat_natCast] at p1 HU2 HF2 HNo2
   rw[HMk.o q] at HU2
   obtain⟨b,off,rfl,-,hat⟩:=(HVW.o.later HB.o).at (by omega)
   obtain⟨c1,-,-,-,c5,-⟩:=hat q (by omega)
   generalize M.getD q i0=z at *
   have HX3:=aA (HX2.o z.k)
   rw[HU2.o] at HX3
   have HN3:=aA (HN.o.other (p:=⟨g,k,none⟩) (by simp;omega) (.int .i64 z.k))
   have HB4:=aA (HB.o.setCell (p:=⟨g,k,none⟩) (by simp;omega) (.int .i64 z.k))
   have i0':(0:Int)<=q:=by omega
   have i1':(q:Int) < vn:=by omega
   have j0:(0:Int)<=k:=by omega
   have j1:(k:Int) < m:=by omega
   clear HX HX2 HU2 hat hq p0 p1 hl3 HF
   by_cases hop:z.op=1
   ·have q1:(z.op != 1)=false:=by simpa using hop
    have HF3:=aA (HF2.o hop)
    clear HF2 hop HNo2
    go_wp2_with fail
    go_roundw
    case rel=>exact⟨k+1,by omega,by go_num,aA HF3.o,HX3,HN3,HB4⟩
    case measure=>simp[intOf];omega
   ·have q1:(z.op != 1)=true:=by simpa using hop
    have HZ:=aA (HNo2.o hop)
    clear HF2 hop HNo2
    go_wp2_with fail
    have hz:=HZ.o
    cases hz
    exact bodyPost_ret (v:=.tuple #[.int .i64 0,.bool false]) (by simp[results,Tryz.results211,go_sem]) rfl ⟨rfl,HB.o⟩
  ·obtain rfl:k=m:=by omega
   have hI:=HG.o
   rw[HD.o] at hI
   have hI2:=aOo hI (by rw[<-HD.o];exact HLn.o k (Nat.le_refl _))
   rw[HAl.o] at hI2
   have HVa:=aA (Spn.qC n.op n.k n.s _ _ _ _ _ (spn hI2))
   have HY:=aA (HYes.o HF.o)
   obtain⟨e0,-,-,-,e4,e5⟩:=aJ HN.o
   clear hI hI2 HYes HNo
   unfold vl at HY
   generalize Spn.bK n.op n.k n.s (iA (M.map In.k) n)=Y at *
   go_wp2_with fail
   refine HVa.o.mono ?_
   rintro e V3 ⟨rfl,hb⟩
   have HB3:=aA (bel HB.o hb)
   clear hb
   go_wp2_with fail
   have hy:=HY.o
   cases hy
   exact bodyPost_ret (v:=.tuple #[.int .i64 Y.1,.bool (Y.2==0)]) (by simp[results,Tryz.results211,go_sem]) rfl ⟨rfl,HB3.o⟩
theorem aYt (h:m.op=9\/m.op=17\/m.op=18\/m.op=20\/m.op=23):stZ M m=(0,m.a==m.b):=by unfold stZ;rw[if_pos h]
theorem aYs (h:m.op=19\/m.op=21\/m.op=22):stZ M m=(1,m.a==m.b):=by unfold stZ;rw[if_neg (by omega),if_pos h]
theorem aYr (h:m.op=10\/m.op=15):stZ M m=(0,isN M m.a 0 || isN M m.b 0):=by unfold stZ;rw[if_neg (by omega),if_neg (by omega),if_pos h]
theorem aYp (h:m.op=12):stZ M m=(0,isN M m.b 1):=by unfold stZ;rw[if_neg (by omega),if_neg (by omega),if_neg (by omega),if_pos h]
theorem aYq (h:m.op=32\/m.op=31):stZ M m=(0,m.k==0):=by unfold stZ;rw[if_neg (by omega),if_neg (by omega),if_neg (by omega),if_neg (by omega),if_pos h]
theorem aPs (m:In){va:Option Addr}{vn vc:Nat}{W:World}(hM:Ins W va vn vc M)(ho:bB m vn=true) :
  Calls Tryz.prog 212 #[.slice va vn vc,.agg (ia m)] W fun e W'=>e=.returned (.tuple #[.int .i64 (stZ M m).1,.bool (stZ M m).2])/\Below W.heap.size W W':=by
 have hb1:=aC W (.cells (ia m) 41)
 have HI:=aA fun r k (h:dL r vn)=>aHb r k (hM.later hb1) h
 have HB:=aA hb1
 have hin:=fun r=>mM ho (r:=r)
 have HE:=aA (aJ (aB.new W 41 (ia m)))
 clear hM ho hb1
 by_cases h1:m.op=9\/m.op=17\/m.op=18\/m.op=20\/m.op=23
 ·rw[aYt h1]
  obtain⟨op,a,b,c,k,s⟩:=m
  dsimp only at h1
  obtain⟨e0,e1,e2,e3,e4,e5⟩:=HE.o
  clear hin HI
  rcases h1 with rfl|rfl|rfl|rfl|rfl
  all_goals
   go_enter Tryz.func212,Tryz.ntmps212
   go_wp2_with fail
   generalize hV:W.alloc (.cells (ia ⟨_,a,b,c,k,s⟩) 41)=V at *
   generalize hq:W.heap.size=q at *
   go_quiet (fail)
   go_wp2_with fail
   exact bodyPost_ret (v:=.tuple #[.int .i64 0,.bool (a==b)]) (by simp[results,Tryz.results212,go_sem]) rfl ⟨rfl,by rw[<-hq] at *;exact Spn.uP HB.o _⟩
 by_cases h2:m.op=19\/m.op=21\/m.op=22
 ·rw[aYs h2]
  obtain⟨op,a,b,c,k,s⟩:=m
  dsimp only at h2
  obtain⟨e0,e1,e2,e3,e4,e5⟩:=HE.o
  clear hin HI h1
  rcases h2 with rfl|rfl|rfl
  all_goals
   go_enter Tryz.func212,Tryz.ntmps212
   go_wp2_with fail
   generalize hV:W.alloc (.cells (ia ⟨_,a,b,c,k,s⟩) 41)=V at *
   generalize hq:W.heap.size=q at *
   go_quiet (fail)
   go_wp2_with fail
   exact bodyPost_ret (v:=.tuple #[.int .i64 1,.bool (a==b)]) (by simp[results,Tryz.results212,go_sem]) rfl ⟨rfl,by rw[<-hq] at *;exact Spn.uP HB.o _⟩
 by_cases h3:m.op=10\/m.op=15
 ·rw[aYr h3]
  have ha2:ar m.op=2:=by rcases h3 with e|e <;> rw[e] <;> decide
  have HJ1:=aA (HI.o m.a 0 (hin m.a (by rw[iQ ha2];simp)))
  have HJ2:=aA (HI.o m.b 0 (hin m.b (by rw[iQ ha2];simp)))
  obtain⟨op,a,b,c,k,s⟩:=m
  dsimp only at h3 HJ1 HJ2 ⊢
  clear hin HI h1 h2 ha2 HE
  generalize isN M a 0=x at *
  generalize isN M b 0=y at *
  rcases h3 with rfl|rfl
  all_goals
   cases x
   ·go_enter Tryz.func212,Tryz.ntmps212
    go_wp2_with fail
    refine HJ1.o.mono ?_
    rintro e w' ⟨rfl,rfl⟩
    go_wp2_with fail
    refine HJ2.o.mono ?_
    rintro e w' ⟨rfl,rfl⟩
    go_wp2_with fail
    exact bodyPost_ret (v:=.tuple #[.int .i64 0,.bool y]) (by simp[results,Tryz.results212,go_sem]) rfl ⟨by simp,HB.o⟩
   ·go_enter Tryz.func212,Tryz.ntmps212
    go_wp2_with fail
    refine HJ1.o.mono ?_
    rintro e w' ⟨rfl,rfl⟩
    go_wp2_with fail
    exact bodyPost_ret (v:=.tuple #[.int .i64 0,.bool true]) (by simp[results,Tryz.results212,go_sem]) rfl ⟨by simp,HB.o⟩
 by_cases h4:m.op=12
 ·rw[aYp h4]
  have ha2:ar m.op=2:=by rw[h4];decide
  have HJ2:=aA (HI.o m.b 1 (hin m.b (by rw[iQ ha2];simp)))
  obtain⟨op,a,b,c,k,s⟩:=m
  dsimp only at h4 HJ2 ⊢
  clear hin HI h1 h2 h3 ha2 HE
  generalize isN M b 1=y at *
  subst h4
  go_enter Tryz.func212,Tryz.ntmps212
  go_wp2_with fail
  refine HJ2.o.mono ?_
  rintro e w' ⟨rfl,rfl⟩
  go_wp2_with fail
  exact bodyPost_ret (v:=.tuple #[.int .i64 0,.bool y]) (by simp[results,Tryz.results212,go_sem]) rfl ⟨rfl,HB.o⟩
 by_cases h5:m.op=32\/m.op=31
 ·rw[aYq h5]
  obtain⟨op,a,b,c,k,s⟩:=m
  dsimp only at h5
  obtain⟨e0,e1,e2,e3,e4,e5⟩:=HE.o
  clear hin HI h1 h2 h3 h4
  rcases h5 with rfl|rfl
  all_goals
   go_enter Tryz.func212,Tryz.ntmps212
   go_wp2_with fail
   generalize hV:W.alloc (.cells (ia ⟨_,a,b,c,k,s⟩) 41)=V at *
   generalize hq:W.heap.size=q at *
   go_quiet (fail)
   go_wp2_with fail
   exact bodyPost_ret (v:=.tuple #[.int .i64 0,.bool (k==0)]) (by simp[results,Tryz.results212,go_sem]) rfl ⟨rfl,by rw[<-hq] at *;exact Spn.uP HB.o _⟩
 ·rw[show stZ M m=(0,false) by unfold stZ;rw[if_neg h1,if_neg h2,if_neg h3,if_neg h4,if_neg h5]]
  obtain⟨op,a,b,c,k,s⟩:=m
  dsimp only at *
  have q9:(op==9)=false:=by simp;omega
  have q17:(op==17)=false:=by simp;omega
  have q18:(op==18)=false:=by simp;omega
  have q20:(op==20)=false:=by simp;omega
  have q23:(op==23)=false:=by simp;omega
  have q19:(op==19)=false:=by simp;omega
  have q21:(op==21)=false:=by simp;omega
  have q22:(op==22)=false:=by simp;omega
  have q10:(op==10)=false:=by simp;omega
  have q15:(op==15)=false:=by simp;omega
  have q12:(op==12)=false:=by simp;omega
  have q32:(op==32)=false:=by simp;omega
  have q31:(op==31)=false:=by simp;omega
  clear hin HI h1 h2 h3 h4 h5 HE
  go_enter Tryz.func212,Tryz.ntmps212
  go_wp2_with fail
  exact bodyPost_ret (v:=.tuple #[.int .i64 0,.bool false]) (by simp[results,Tryz.results212,go_sem]) rfl ⟨rfl,HB.o⟩
end Go.Proofs.Fld
