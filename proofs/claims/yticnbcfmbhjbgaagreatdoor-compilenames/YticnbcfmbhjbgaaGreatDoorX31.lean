import Derived.Test.YticnbcfmbhjbgaaGreatDoorXH
import Derived.Lib.Builder
import Derived.Lib.AppendStr
import Derived.Lib.UnsafeStr
import Derived.Laws.Externs
import Derived.Lib.ItoaNum
import Derived.Test.YticnbcfmbhjbgaaGreatDoorX30
import Derived.Test.YticnbcfmbhjbgaaGreatDoorX14
import Derived.Test.YticnbcfmbhjbgaaGreatDoorX21
import Derived.Test.YticnbcfmbhjbgaaGreatDoorX26
import Derived.Test.YticnbcfmbhjbgaaGreatDoorX20
import Derived.Test.YticnbcfmbhjbgaaGreatDoorX17
set_option maxRecDepth 100000
set_option maxHeartbeats 32000000
set_option linter.unusedVariables false
namespace Go.Proofs.YticnbcfmbhjbgaaGreatDoor
open Go.RowKit Lx Pz
variable {d f:Int} {BS:List Int}
structure Lg (f d:Int)(S:eO)(R:List Int)(I:List Cde.In)(T:eO):Prop where
 run:Vfy.iB f d I=(0,T)
 len:T.length=I.length
 val:∀ j,j < R.length->S.getD j (0,0)=T.getD (R.getD j 0).toNat (0,0)
 ah:I.any (Vfy.nY f d)=false
theorem aY1 {R:List Int}{S T:eO}{n:Nd}(hl:R.length=S.length)(hn:Wn BS S.length n)(h4:n.op≠4)
  (hv:∀ j,j < R.length->S.getD j (0,0)=T.getD (R.getD j 0).toNat (0,0)):Vfy.jZ f d T (vO f d R n)=uT f d BS S n:=by
 have hv2:∀ p ∈ eU n,T.getD (zM R p).toNat (0,0)=S.getD p.toNat (0,0):=fun p hp=>(hv _ (by rw[hl];exact(hn.prt p hp).2)).symm
 unfold Vfy.jZ uT
 rw[uD,if_neg h4]
 by_cases h1:n.op=1
 ·rw[if_pos h1,if_pos h1]
  have e:lT n.op=0:=by rw[h1];rfl
  have ek:(vO f d R n).k=n.k:=by
   unfold vO loK
   rw[e,if_neg (by decide),if_neg (by decide),if_neg (by decide),if_neg (by omega)]
  rw[ek]
 rw[if_neg h1,if_neg h1]
 by_cases h2:n.op=2
 ·rw[if_pos h2,if_pos h2]
  have e:lT n.op=0:=by rw[h2];rfl
  have ek:(vO f d R n).k=n.k:=by
   unfold vO loK
   rw[e,if_neg (by decide),if_neg (by decide),if_neg (by decide),if_neg (by omega)]
  rw[ek]
 rw[if_neg h2,if_neg h2]
 by_cases h3:n.op=3
 ·rw[if_pos h3,if_pos h3]
 rw[if_neg h3,if_neg h3]
 have hk:(vO f d R n).k=0/\(vO f d R n).s=0/\Vfy.vU T (vO f d R n)=(eU n).map fun p=>S.getD p.toNat (0,0):=by
  unfold Vfy.vU Cde.dW Cde.dK Cde.abc
  rw[uD,aBo]
  unfold vO
  rcases vS hn h4 with⟨e,h⟩|⟨h5,e,hq⟩|⟨h5,e,hq⟩|⟨h5,e,hq⟩
  ·omega
  ·rw[hq] at hv2 ⊢
   rw[e,if_pos rfl]
   refine⟨rfl,rfl,?_⟩
   show [T.getD (zM R n.a).toNat (0,0)]=[S.getD n.a.toNat (0,0)]
   rw[hv2 n.a (by simp)]
  ·rw[hq] at hv2 ⊢
   rw[e,if_neg (by decide),if_pos rfl]
   refine⟨rfl,rfl,?_⟩
   show [T.getD (zM R n.a).toNat (0,0),T.getD (zM R n.b).toNat (0,0)]=[S.getD n.a.toNat (0,0),S.getD n.b.toNat (0,0)]
   rw[hv2 n.a (by simp),hv2 n.b (by simp)]
  ·rw[hq] at hv2 ⊢
   rw[e,if_neg (by decide),if_neg (by decide),if_pos rfl]
   refine⟨rfl,rfl,?_⟩
   show [T.getD (zM R n.a).toNat (0,0),T.getD (zM R n.b).toNat (0,0),T.getD (zM R n.c).toNat (0,0)]=[S.getD n.a.toNat (0,0),S.getD n.b.toNat (0,0),S.getD n.c.toNat (0,0)]
   rw[hv2 n.a (by simp),hv2 n.b (by simp),hv2 n.c (by simp)]
 rw[hk.1,hk.2.1,hk.2.2]
theorem aY0 {R:List Int}{n:Nd}(ha:n.op=3->∃ q,Knd.rF f d (nE n)=some q):Vfy.nY f d (vO f d R n)=false:=by
 unfold Vfy.nY
 rw[uD]
 by_cases h3:n.op=3
 ·obtain⟨q,hq⟩:=ha h3
  have:=aN4 hq
  have e:lT n.op=0:=by rw[h3];rfl
  have ek:(vO f d R n).k=(q:Int):=by
   unfold vO loK
   rw[e,if_neg (by decide),if_neg (by decide),if_neg (by decide),if_pos h3,hq]
   rfl
  rw[ek]
  simp
  omega
 ·rw[show (n.op==3)=false by simpa using h3];rfl
theorem Lg.all {f d:Int}{BS:List Int}:∀(B A:List Nd) (s:List Int × List Cde.In) (S T U:eO),S.length=A.length->Lw A s.1 s.2->Lg f d S s.1 s.2 T->Wl BS A.length B->(∀ n ∈ B,n.op=3->∃ q,Knd.rF f d (nE n)=some q)->nK f d BS B S=(U,0)->∃ T',Lg f d U (B.foldl (loS f d BS) s).1 (B.foldl (loS f d BS) s).2 T'
 | [],A,s,S,T,U,hS,hw,hg,_,_,h=>by cases h;exact⟨T,hg⟩
 | n::B,A,s,S,T,U,hS,hw,hg,hl,ha,h=>by
  simp only[nK] at h
  split at h
  ·rename_i h1
   have hn:=hl.1
   rw[<-hS] at hn
   have hRl:=hw.len
   have hlw:=hw.step (f:=f) (d:=d) (BS:=BS) hl.1 (ha n (by simp))
   have hlg:∃ T',Lg f d (S++[(uT f d BS S n).1]) (loS f d BS s n).1 (loS f d BS s n).2 T':=by
    unfold loS
    by_cases h4:n.op=4
    ·rw[if_pos h4]
     refine⟨T,hg.run,hg.len,fun j hj=>?_,hg.ah⟩
     simp only[lLa,lLc,lLn] at hj
     by_cases e:j < s.1.length
     ·rw[dC (by omega),dC e];exact hg.val j e
     ·obtain rfl:j=s.1.length:=by omega
      rw[dX,show s.1.length=S.length by omega,dX]
      unfold uT
      rw[if_pos h4]
      exact hg.val _ (by have:=(hn.use h4).2.2.2;omega)
    ·rw[if_neg h4]
     have e1:=aY1 (f:=f) (d:=d) (BS:=BS) (R:=s.1) (T:=T) (by omega) hn h4 hg.val
     refine⟨T++[(uT f d BS S n).1],?_,by simp[hg.len],fun j hj=>?_,?_⟩
     ·rw[Vfy.iV,hg.run]
      unfold Vfy.zQ
      simp only[if_true]
      rw[e1,if_pos h1]
     ·simp only[lLa,lLc,lLn] at hj
      by_cases e:j < s.1.length
      ·have hr:=hw.reg j (by omega)
       rw[dC (by omega),dC e,dC (by rw[hg.len];exact hr.2)]
       exact hg.val j e
      ·obtain rfl:j=s.1.length:=by omega
       rw[dX,show s.1.length=S.length by omega,dX,iTn,<-hg.len,dX]
     ·show (s.2++[vO f d s.1 n]).any (Vfy.nY f d)=false
      rw[List.any_append,hg.ah,List.any_cons,aY0 (ha n (by simp))]
      rfl
   obtain⟨T',hg'⟩:=hlg
   exact Lg.all B (A++[n]) (loS f d BS s n) _ T' U (by simp[hS]) hlw hg' (by simpa using hl.2) (fun m hm=>ha m (by simp[hm])) h
  ·rename_i h1;exact absurd (congrArg Prod.snd h) h1
theorem aVv {NM:List aL}{NS:List Nd}{root:Int}(h:jS f d NM BS NS root=0):∃ T,Lg f d (nK f d BS NS []).1 (rU f d BS NS).1 (rU f d BS NS).2 T:=by
 obtain⟨a1,a2,a3,a4,-⟩:=vW.1 h
 obtain⟨es,ex,hD⟩:=gX.1 a2
 exact Lg.all NS [] ([],[]) [] [] _ rfl aGp ⟨rfl,rfl,fun j hj=>by simp at hj,rfl⟩ hD.wl (fun n hn h3=>aF6 h hn h3) (Prod.ext rfl a4)
theorem sS {NM:List aL}{NS:List Nd}{root:Int}(h:jS f d NM BS NS root=0){I:List Cde.In}{o:Int}(hI:I=(rU f d BS NS).2)(ho:o=(rU f d BS NS).1.getD root.toNat 0) :
  Vfy.bB f d I o=0/\Vfy.qF f d I o=tT NS/\0<=o/\o.toNat < Vfy.qG f d I o/\(Vfy.qR f d I o).getD o.toNat (0,0)=(nK f d BS NS []).1.getD (NS.length-1) (0,0)/\1<=NS.length/\NS.length<=1024:=by
 obtain⟨a1,a2,a3,a4,a5,a6⟩:=vW.1 h
 obtain⟨T,hT⟩:=aVv h
 have hw:=aCk h
 have hm:=aV0 h
 obtain⟨r0,r1,r2⟩:=nI a2
 obtain⟨es,ex,hD⟩:=gX.1 a2
 have hr:=hD.root
 rw[<-hI] at hT hw hm
 rw[<-ho] at hm
 have hco:=hw.co
 have h0:Vfy.bB f d I o=0:=Vfy.aDm.2 ⟨Vfy.wF.2 ⟨hm,hT.ah⟩,by rw[hT.run],by omega⟩
 obtain⟨-,-,⟨S',h1,h2,h3⟩,-,h5,h6⟩:=Vfy.aJ h0
 rw[hT.run] at h1
 cases h1
 obtain⟨-,-,-,q1,q2,-⟩:=Cde.aS hm
 have e1:root.toNat=NS.length-1:=by omega
 refine⟨h0,by rw[h6,hco],q1,by rw[h5];omega,?_,by omega,r2⟩
 rw[h3,<-e1,hT.val root.toNat (by rw[hw.len];exact r1),<-ho]
end Go.Proofs.YticnbcfmbhjbgaaGreatDoor
namespace Go.Proofs.YticnbcfmbhjbgaaGreatDoor
open Go.RowKit Go.IntWalk Lx Pz
variable {W w:World} {b:Nat} {v:Value}
structure Tv where
 nv:Value
 bv:Value
 dv:Value
 rv:Value
abbrev pcs (p v:Value)(t:Tv):Array Value:=#[p,v,t.nv,t.bv,t.dv,t.rv]
structure Pb (w W:World)(b:Nat)(t:Tv)(out:List UInt8):Prop where
 ex:∃ p v,(p=.pointer none\/p=.pointer (some ⟨b,0,none⟩))/\aB W b 145 (pcs p v t)/\W.ownsRow w.heap.size 5 1 v out.length (Lib.byteCells out)
 base:w.heap.size<=b
 old:Below w.heap.size w W
abbrev SP:List TypeId:=[145,5]
theorem Pb.later {W':World}{t:Tv}{out:List UInt8}(h:Pb w W b t out)(hb:Below W.heap.size W W'):Pb w W' b t out:=by
 obtain⟨p,v,hp,hc,ho⟩:=h.ex
 have hk:=Kp.of_below [] hb
 exact⟨⟨p,v,hp,hc.kp hk (by simp),aZ ho hk (by simp)⟩,h.base,bel h.old hb⟩
theorem aM6:(Tryz.prog.info? 143).map (fun i=>i.size)=some 2:=by kernel_rfl
theorem aVw:liesAt Tryz.prog Tryz.prog.depth 145 (6 / Tryz.prog.cellsOf 145) 0 143 1=true:=by kernel_rfl
theorem info5:(Tryz.prog.info? 5).map (fun i=>(i.zero,i.size,i.bytes))=some (some (.int .u8 0),1,1):=by kernel_rfl
theorem xC (h0:W.cell? ⟨b,0,none⟩=some (.pointer (some ⟨b,0,none⟩))) :
  Calls Tryz.prog 212 #[ptr b] W fun e W'=>e=.returned (.tuple #[])/\W'=W:=by
 obtain⟨j,hj,_⟩:=Option.map_eq_some_iff.1 aM6
 go_enter Tryz.func212,Tryz.ntmps212
 go_wp2
 rw[Lib.run_neq_ptr_same W _ Tryz.underlying141 hj]
 go_wp2
 go_end0
 exact⟨rfl,rfl⟩
theorem vN {t:Tv}(hc:aB W b 145 (pcs (.pointer none) v t)) :
  Calls Tryz.prog 212 #[ptr b] W fun e W'=>e=.returned (.tuple #[])/\W'=W.setCell ⟨b,0,none⟩ (.pointer (some ⟨b,0,none⟩)):=by
 obtain⟨j,hj,hjs⟩:=Option.map_eq_some_iff.1 aM6
 have h0:=hc.cell 0 rfl
 have hfz:=hc.frozen 0
 have hsh:W.shape? b=some (145,6):=by
  have:W.heap[b]?=some (.cells (pcs (.pointer none) v t) 145 (0,0)):=hc
  simp[World.shape?,this]
 have HC:=aA hc
 clear hc
 go_enter Tryz.func212,Tryz.ntmps212
 go_wp2
 rw[Lib.run_to_unsafe W ⟨b,0,none⟩ Tryz.underlying141 Tryz.underlying328 hj (by rw[hjs];decide) hsh (Nat.zero_lt_succ 5)]
 simp only[Result.andThen]
 rw[Oper.upon_value]
 go_wp2
 rw[run_callFunc_extern Tryz.func283 (by kernel_rfl) (by kernel_rfl) (by kernel_rfl) (e:=Extern.AbiNoEscape.same) (by kernel_rfl)]
 rw[Lib.run_noEscape]
 simp only[Result.andThen]
 rw[Oper.upon_value]
 go_wp2
 rw[Lib.run_from_unsafe W ⟨b,0,none⟩ Tryz.underlying328 Tryz.underlying141 hj hsh aVw]
 simp only[Result.andThen]
 rw[Oper.upon_value]
 go_wp2
 go_end0
 exact⟨rfl,rfl⟩
theorem aIu {base:Nat}{t:TypeId}{cs:Array Value}{n:Nat}{xs:List Value}(h:W.ownsRow base 5 1 v n xs)(hc:aB W b t cs)(ht:t≠5)(i:Nat)(u:Value):(W.setCell ⟨b,i,none⟩ u).ownsRow base 5 1 v n xs :=
 aZ h (Kp.set (S:=[t]) hc (by simp) i u) (by simpa using Ne.symm ht)
theorem qP {t:Tv}{out:List UInt8}(h:Pb w W b t out) :
  Calls Tryz.prog 212 #[ptr b] W fun e W'=>e=.returned (.tuple #[])/\(∃ v,aB W' b 145 (pcs (ptr b) v t)/\W'.ownsRow w.heap.size 5 1 v out.length (Lib.byteCells out))/\Below w.heap.size w W'/\Kp SP W W':=by
 obtain⟨p,v,rfl|rfl,hc,ho⟩:=h.ex
 ·refine(vN hc).mono ?_
  rintro e W' ⟨rfl,rfl⟩
  exact⟨rfl,⟨v,hc.set 0 _,aIu ho hc (by decide) 0 _⟩,h.old.setCell (p:=⟨b,0,none⟩) h.base _,Kp.set hc (by simp) 0 _⟩
 ·refine(xC (hc.cell 0 rfl)).mono ?_
  rintro e W' ⟨rfl,rfl⟩
  exact⟨rfl,⟨v,hc,ho⟩,h.old,Kp.refl _ _⟩
theorem Pb.put {W1 W2:World}{t:Tv}{v':Value}{row:Option Nat}{out':List UInt8}(hc:aB W1 b 145 (pcs (ptr b) v t))(hb:w.heap.size<=b)(ho:Below w.heap.size w W1)(hg:W1.grownBy W2 row)
  (hrow:∀ k,row=some k->w.heap.size<=k/\∃ cs fr,W1.heap[k]?=some (.cells cs 5 fr)) (hown:W2.ownsRow w.heap.size 5 1 v' out'.length (Lib.byteCells out')) :
  Pb w (W2.setCell ⟨b,1,none⟩ v') b t out'/\Kp SP W1 (W2.setCell ⟨b,1,none⟩ v'):=by
 have k1:Kp [5] W1 W2:=Kp.grown hg fun k hk=>by
  obtain⟨_,cs,fr,h⟩:=hrow k hk
  exact⟨cs,5,fr,h,by simp⟩
 have hc2:aB W2 b 145 (pcs (ptr b) v t):=hc.kp k1 (by decide)
 refine⟨⟨⟨_,v',.inr rfl,hc2.set 1 v',aIu hown hc2 (by decide) 1 _⟩,hb,?_⟩,(k1.mono (by simp)).trans (Kp.set hc2 (by simp) 1 _)⟩
 exact(ho.grown hg ho.size (fun k hk=>(hrow k hk).1)).setCell (p:=⟨b,1,none⟩) hb _
theorem aIt {base:Nat}{n:Nat}{xs:List Value}(h:W.ownsRow base 5 1 v n xs):∀ k,v.ownBlock=some k->base<=k/\∃ cs fr,W.heap[k]?=some (.cells cs 5 fr):=aQ h
theorem strCells_eq (s:ByteArray):Lib.strCells s=Lib.byteCells (bs s):=rfl
theorem aX {t:Tv}{out:List UInt8}(h:Pb w W b t out)(s:ByteArray)(hlen:out.length+(bs s).length<=1099511627776) :
  Calls Tryz.prog 139 #[ptr b,.string s] W fun e W'=>e=.returned (.tuple #[.i s.size,.nilIface])/\Pb w W' b t (out++bs s)/\Kp SP W W':=by
 obtain⟨i0,hi,hz0,hz1,hz2⟩:=info_parts info5
 have hls:s.size=(bs s).length:=(dD s).symm
 have HB:=aA h.base
 have HC:=aA (qP h)
 have HL:=aA hlen
 have HS:=aA hls
 clear h hlen hls
 go_enter Tryz.func139,Tryz.ntmps139
 go_wp2_with fail
 refine HC.o.mono ?_
 rintro e W1 ⟨rfl,⟨v,hc,hown⟩,ho,hk⟩
 have c0:=hc.cell 0 rfl
 have c1:=hc.cell 1 rfl
 go_wp2_with (at_builtin;refine Lib.wpList_append_own_string _ rfl _ _ 41 9 rfl w.heap.size 5 i0 Tryz.underlying41 Tryz.underlying9 hi hz0 hz1 hz2 _ _ _ rfl hown s rfl ?c3 ?c4 ?c5 ?_)
 case c3=>have:=HL.o;have:=HS.o;unfold maxLen;omega
 case c4=>have:=HL.o;have:=HS.o;omega
 case c5=>exact ho.size
 intro v' W2 hown' hgrow _
 have hrow:=aIt hown
 obtain⟨hP,hK⟩:=Pb.put (out':=out++bs s) hc HB.o ho hgrow (fun k hk=>hrow k hk) (by rw[lLa,Lib.byteCells_append,<-strCells_eq,<-HS.o];exact hown')
 have k1:Kp [5] W1 W2:=Kp.grown hgrow fun k hk=>by
  obtain⟨_,cs,fr,h⟩:=hrow k hk
  exact⟨cs,5,fr,h,by simp⟩
 have hc2:aB W2 b 145 (pcs (ptr b) v t):=hc.kp k1 (by decide)
 have d1:=hc2.cell 1 rfl
 have f1:=hc2.frozen 1
 have HP:=aA hP
 have HK:=aA (hk.trans hK)
 clear hP hK
 obtain⟨ao,n',cap,rfl⟩:∃ ao n' cap,v'=.slice ao n' cap:=by
  rcases hown'.2 with⟨hv,_⟩|⟨g,cap,cur,hv,_⟩
  ·exact⟨_,_,_,hv⟩
  ·exact⟨_,_,_,hv⟩
 go_wp2
 go_ret2
 exact⟨rfl,HP.o,HK.o⟩
theorem aT {t:Tv}{out:List UInt8}(h:Pb w W b t out)(c:Nat)(hc8:c < 256)(hlen:out.length+1<=1099511627776) :
  Calls Tryz.prog 140 #[ptr b,.int .u8 c] W fun e W'=>e=.returned .nilIface/\Pb w W' b t (out++[UInt8.ofNat c])/\Kp SP W W':=by
 obtain⟨i0,hi,hz0,hz1,hz2⟩:=info_parts info5
 have HB:=aA h.base
 have HC:=aA (qP h)
 have HL:=aA hlen
 have H8:=aA hc8
 clear h hlen hc8
 go_enter Tryz.func140,Tryz.ntmps140
 go_wp2_with fail
 refine HC.o.mono ?_
 rintro e W1 ⟨rfl,⟨v,hc,hown⟩,ho,hk⟩
 have c0:=hc.cell 0 rfl
 have c1:=hc.cell 1 rfl
 go_wp2_with (at_builtin;refine wpList_append_own _ rfl _ _ 41 rfl w.heap.size 5 i0 (.int .u8 0) 1 1 Tryz.underlying41 hi hz0 hz1 hz2 rfl (by decide) _ _ _ rfl (hown.alloc _) ⟨W1.heap.size,0,none⟩ 1 1 [.int .u8 c] rfl rfl ?c1 ?c2 ?c3 ?c4 ?c5 ?_)
 case c1 =>
  intro j u hj
  match j,hj with
  | 0,hj=>simp at hj;subst hj;simp[Addr.add]
 case c2=>intro u hu;simp at hu;subst hu;rfl
 case c3=>have:=HL.o;unfold maxLen;omega
 case c4=>have:=HL.o;omega
 case c5=>have:=ho.size;simp;omega
 intro v' W2 hown' hgrow _
 have hcA:=hc.alloc (.cells #[.int .u8 c] 5)
 have hoA:=ho.alloc ho.size (.cells #[.int .u8 c] 5)
 have hrow:=aIt (hown.alloc (.cells #[.int .u8 c] 5))
 have hkA:Kp SP W1 (W1.alloc (.cells #[.int .u8 c] 5)):=Kp.of_below _ (aD _ _)
 have e8:(UInt8.ofNat c).toNat=c:=UInt8.toNat_ofNat_of_lt H8.o
 obtain⟨hP,hK⟩:=Pb.put (out':=out++[UInt8.ofNat c]) hcA HB.o hoA hgrow (fun k hk=>hrow k hk) (by rw[lLa,Lib.byteCells_append,show Lib.byteCells [UInt8.ofNat c]=[.int .u8 c] by simp only[Lib.byteCells,lMc,List.map_nil,e8]];exact hown')
 have k1:Kp [5] (W1.alloc (.cells #[.int .u8 c] 5)) W2:=Kp.grown hgrow fun k hk=>by
  obtain⟨_,cs,fr,h⟩:=hrow k hk
  exact⟨cs,5,fr,h,by simp⟩
 have hc2:aB W2 b 145 (pcs (ptr b) v t):=hcA.kp k1 (by decide)
 have d1:=hc2.cell 1 rfl
 have f1:=hc2.frozen 1
 have HP:=aA hP
 have HK:=aA ((hk.trans hkA).trans hK)
 clear hP hK e8
 obtain⟨ao,n',cap,rfl⟩:∃ ao n' cap,v'=.slice ao n' cap:=by
  rcases hown'.2 with⟨hv,_⟩|⟨g,cap,cur,hv,_⟩
  ·exact⟨_,_,_,hv⟩
  ·exact⟨_,_,_,hv⟩
 go_wp2
 go_ret
 exact⟨rfl,HP.o,HK.o⟩
theorem wC {t:Tv}{out:List UInt8}(h:Pb w W b t out) :
  Calls Tryz.prog 76 #[ptr b] W fun e W'=>e=.returned (.i out.length)/\W'=W:=by
 obtain⟨p,v,hp,hc,ho⟩:=h.ex
 obtain⟨ao,cap,rfl⟩:∃ ao cap,v=.slice ao out.length cap:=by
  rcases ho.2 with⟨hv,h0⟩|⟨g,cap,cur,hv,_⟩
  ·exact⟨none,0,by rw[hv,h0]⟩
  ·exact⟨_,_,hv⟩
 have c1:=hc.cell 1 rfl
 clear hc ho hp h
 go_enter Tryz.func76,Tryz.ntmps76
 go_wp2
 go_ret
 exact⟨rfl,rfl⟩
theorem cells5:Tryz.prog.cellsOf 5=1:=by kernel_rfl
theorem aHb {t:Tv}{out:List UInt8}(h:Pb w W b t out)(h0:out≠[]) :
  Calls Tryz.prog 77 #[ptr b] W fun e W'=>e=.returned (.string (sB out))/\Below w.heap.size w W':=by
 obtain⟨p,v,hp,hc,hown⟩:=h.ex
 have hl0:out.length≠0:=by simpa using h0
 obtain⟨g,cap,cur,rfl,hbg,hg,hnc,hcm,hcs,htake⟩:∃ g cap cur,v=.slice (some ⟨g,0,none⟩) out.length cap/\w.heap.size<=g/\W.heap[g]?=some (.cells cur 5 (0,0))/\out.length<=cap/\cap<=maxLen/\cur.size=cap*1/\cur.toList.take (out.length*1)=Lib.byteCells out:=by
  rcases hown.2 with⟨_,hz⟩|⟨g,cap,cur,hv,r⟩
  ·exact absurd hz hl0
  ·exact⟨g,cap,cur,hv,r⟩
 have c1:W.drew.cell? ⟨b,1,none⟩=some (.slice (some ⟨g,0,none⟩) out.length cap):=hc.cell 1 rfl
 have hSD:(Builtin.unsafeSliceData_ #[41] 230 #[.slice (some ⟨g,0,none⟩) out.length cap]).run Tryz.prog W.drew=.ok (.pointer (some ⟨g,0,none⟩)) W.drew :=
  Lib.run_unsafeSliceData_row _ _ _ _ _ _ (by omega)
 have hUS:(Builtin.unsafeString_ #[230,3] 9 #[.pointer (some ⟨g,0,none⟩),.i out.length]).run Tryz.prog W.drew=.ok (.string (sB out)) (W.drew.freeze ⟨g,0,none⟩ out.length):=by
  refine Lib.run_unsafeString_row W.drew 230 3 9 5 Tryz.underlying230 cells5 g cur.size (by have hg':W.drew.heap[g]?=some (.cells cur 5 (0,0)):=hg;simp[World.shape?,hg']) out h0 (by omega) (by unfold maxLen at hcm;omega) ?_
  intro j x hx
  exact hown.cells (g:=g) rfl j (.int .u8 x.toNat) (by simp[Lib.byteCells,hx])
 have HB:=aA (Lib.below_freeze (Below.drew h.old) (p:=⟨g,0,none⟩) hbg out.length)
 clear hc hown hg hnc hcm hcs htake hp h h0 hl0 hbg
 go_enter Tryz.func77,Tryz.ntmps77
 go_wp2
 go_region
 all_goals (go_wp2;go_ret;exact⟨rfl,HB.o⟩)
end Go.Proofs.YticnbcfmbhjbgaaGreatDoor
namespace Pz
open Lx Go.Lib
def nO:List (aL × Nat):=[([],0),([],9),([],9),([],9),([],9),([],8),([97,98,115],9),([115,103,110],9),([43],6),([45],6),([42],7),([47],7),([37],7),([60,60],5),([62,62],5),([38],3),([124],1),([94],2),
 ([60],4),([60,61],4),([62],4),([62,61],4),([61,61],4),([33,61],4),([109,105,110],9),([109,97,120],9),([99,108,97,109,112],9),([109,101,100],9),([],0)]
def nW (o:Int):aL:=(nO.getD o.toNat ([],0)).1
def ork (o:Int):Nat:=(nO.getD o.toNat ([],0)).2
def xY:List aL:=[[120],[121],[99],[108,111],[104,105],[109,105,100]]
def rkE:E->Nat
 | .leaf n=>ork n.op
 | .un o _=>ork o
 | .bin o _ _=>ork o
 | .tri o _ _ _=>ork o
def brk (b:Bool)(l:aL):aL:=if b then 40::(l++[41]) else l
def lfk (o:Int):Nat:=if ork o=4 then 5 else ork o
def uM (n:Nd):aL:=(if n.back=0 then[112,40] else[113,40]++(itoa n.back++[44]))++(itoa n.x++((if n.co=2 then 44::itoa n.y else[])++[41]))
def vG (nm:List aL)(n:Nd):aL:=if n.op=1 then itoa n.k else if n.op=2 then xY.getD n.k.toNat [] else if n.op=4 then nm.getD n.k.toNat [] else uM n
def cO (nm:List aL):E->aL
 | .leaf n=>vG nm n
 | .un o a=>if o=5 then 45::brk (decide (rkE a < 8)) (cO nm a) else nW o++40::(cO nm a++[41])
 | .bin o a b=>if o=24\/o=25 then nW o++40::(cO nm a++44::(cO nm b++[41])) else brk (decide (rkE a < lfk o)) (cO nm a)++(nW o++brk (decide (rkE b < ork o+1)) (cO nm b))
 | .tri o a b c=>if o=28 then brk (decide (rkE a < 1)) (cO nm a)++63::(cO nm b++58::cO nm c) else nW o++40::(cO nm a++44::(cO nm b++44::(cO nm c++[41])))
def zO (nm:List aL)(c:Nat)(e:E):aL:=brk (decide (rkE e < c)) (cO nm e)
def dM (NS:List Nd):E->Nat->Prop
 | .leaf n,i=>NS[i]?=some n
 | .un o a,i=>∃ p:Nat,NS[i]?=some ⟨o,(p:Int),0,0,0,0,0,0,0⟩/\dM NS a p
 | .bin o a b,i=>∃ p q:Nat,NS[i]?=some ⟨o,(p:Int),(q:Int),0,0,0,0,0,0⟩/\dM NS a p/\dM NS b q
 | .tri o a b c,i=>∃ p q r:Nat,NS[i]?=some ⟨o,(p:Int),(q:Int),(r:Int),0,0,0,0,0⟩/\dM NS a p/\dM NS b q/\dM NS c r
theorem aCc {α:Type}(P M Q:List α)(x:α)(s:Nat)(h:s=P.length+M.length):(P++(M++[x])++Q)[s]?=some x:=by
 subst h
 rw[lAa,lAa,gAr (by omega),gAr (by omega)]
 simp
theorem iI:∀(e:E) (P Q:List Nd),dM (P++e.flat P.length++Q) e (P.length+e.size-1)
 | .leaf n,P,Q=>by
  show (P++[n]++Q)[P.length+1-1]?=some n
  simp
 | .un o a,P,Q=>by
  have hp:=a.size_pos
  refine⟨P.length+a.size-1,?_,?_⟩
  ·simp only[E.flat,E.size]
   rw[aCc P _ Q _ _ (by rw[E.flat_len];omega)]
   simp only[Option.some.injEq,Nd.mk.injEq,and_self,and_true,true_and]
   omega
  ·have:=iI a P ([⟨o,(P.length+a.size:Nat)-1,0,0,0,0,0,0,0⟩]++Q)
   simpa only [E.flat,lAa] using this
 | .bin o a b,P,Q=>by
  have hp:=a.size_pos
  have hq:=b.size_pos
  refine⟨P.length+a.size-1,P.length+a.size+b.size-1,?_,?_,?_⟩
  ·simp only[E.flat,E.size]
   rw[aCc P _ Q _ _ (by rw[lLa,E.flat_len,E.flat_len];omega)]
   simp only[Option.some.injEq,Nd.mk.injEq,and_self,and_true,true_and]
   omega
  ·have:=iI a P (b.flat (P.length+a.size)++([⟨o,(P.length+a.size:Nat)-1,(P.length+a.size+b.size:Nat)-1,0,0,0,0,0,0⟩]++Q))
   simpa only [E.flat,lAa] using this
  ·have:=iI b (P++a.flat P.length) ([⟨o,(P.length+a.size:Nat)-1,(P.length+a.size+b.size:Nat)-1,0,0,0,0,0,0⟩]++Q)
   rw[lLa,E.flat_len] at this
   simpa only [E.flat,lAa] using this
 | .tri o a b c,P,Q=>by
  have hp:=a.size_pos
  have hq:=b.size_pos
  have hr:=c.size_pos
  refine⟨P.length+a.size-1,P.length+a.size+b.size-1,P.length+a.size+b.size+c.size-1,?_,?_,?_,?_⟩
  ·simp only[E.flat,E.size]
   rw[aCc P _ Q _ _ (by rw[lLa,lLa,E.flat_len,E.flat_len,E.flat_len];omega)]
   simp only[Option.some.injEq,Nd.mk.injEq,and_self,and_true,true_and]
   omega
  ·have:=iI a P (b.flat (P.length+a.size)++(c.flat (P.length+a.size+b.size)++([⟨o,(P.length+a.size:Nat)-1,(P.length+a.size+b.size:Nat)-1,(P.length+a.size+b.size+c.size:Nat)-1,0,0,0,0,0⟩]++Q)))
   simpa only [E.flat,lAa] using this
  ·have:=iI b (P++a.flat P.length) (c.flat (P.length+a.size+b.size)++([⟨o,(P.length+a.size:Nat)-1,(P.length+a.size+b.size:Nat)-1,(P.length+a.size+b.size+c.size:Nat)-1,0,0,0,0,0⟩]++Q))
   rw[lLa,E.flat_len] at this
   simpa only [E.flat,lAa] using this
  ·have:=iI c (P++a.flat P.length++b.flat (P.length+a.size)) ([⟨o,(P.length+a.size:Nat)-1,(P.length+a.size+b.size:Nat)-1,(P.length+a.size+b.size+c.size:Nat)-1,0,0,0,0,0⟩]++Q)
   rw[lLa,lLa,E.flat_len,E.flat_len] at this
   simpa only [E.flat,lAa] using this
theorem aAx:∀(es:List E) (P Q:List Nd) (j:Nat) (e:E),es[j]?=some e->∃ p:Nat,(gW es P.length)[j]?=some (p:Int)/\dM (P++jA es P.length++Q) e p
 | [],P,Q,j,e,h=>by simp at h
 | a::es,P,Q,0,e,h=>by
  simp at h;subst h
  refine⟨P.length+a.size-1,?_,?_⟩
  ·have:=a.size_pos
   simp only[gW,List.getElem?_cons_zero,Option.some.injEq]
   omega
  ·have:=iI a P (jA es (P.length+a.size)++Q)
   simpa only [jA,lAa] using this
 | a::es,P,Q,j+1,e,h=>by
  obtain⟨p,h1,h2⟩:=aAx es (P++a.flat P.length) Q j e (by simpa using h)
  rw[lLa,E.flat_len] at h1 h2
  refine⟨p,by simpa only [gW,List.getElem?_cons_succ] using h1,?_⟩
  simpa only [jA,lAa] using h2
end Pz
namespace Go.Proofs.YticnbcfmbhjbgaaGreatDoor
open Lx Pz
theorem wB {bd:Nat}{n:Nd}(h:Gd bd (.leaf n)) :
  n.a=0/\n.b=0/\n.c=0/\((n.op=3/\n.k=0/\(n.co=2\/(n.co=1/\n.y=0))/\0<=n.back/\n.back<=2147483647/\-2147483647<=n.x/\n.x<=2147483647/\-2147483647<=n.y/\n.y<=2147483647) \/
   (n.back=0/\n.co=0/\n.x=0/\n.y=0/\((n.op=1/\0<=n.k/\n.k<=2147483647)\/(n.op=2/\0<=n.k/\n.k<=5)\/(n.op=4/\0<=n.k/\n.k < bd)))):=by
 obtain⟨h1,h2,h3,h4,h5⟩:=h
 refine⟨h1,h2,h3,?_⟩
 obtain⟨op,a,b,c,k,back,co,x,y⟩:=n
 simp only at *
 have hop:op=1\/op=2\/op=3\/op=4:=by
  unfold gL lT at h4
  split at h4
  ·omega
  ·split at h4
   ·omega
   ·split at h4
    ·omega
    ·repeat' split at h4
     all_goals omega
 rcases hop with rfl|rfl|rfl|rfl
 ·right
  simp[jL,qK,bT,iR,MX] at h5
  omega
 ·right
  simp[jL,qK,bT,iR] at h5
  omega
 ·left
  simp[jL,yE,bT,MX] at h5
  omega
 ·right
  simp[jL,qK,bT,iR] at h5
  omega
theorem aOn {o:Int}(h:gL o=1):o=5\/o=6\/o=7:=by
 unfold gL lT at h
 repeat' split at h
 all_goals omega
theorem aOo {o:Int}(h:gL o=2):8<=o/\o<=25:=by
 unfold gL lT at h
 repeat' split at h
 all_goals omega
theorem aE3 {o:Int}(h:gL o=3):o=26\/o=27\/o=28:=by
 unfold gL lT at h
 repeat' split at h
 all_goals omega
end Go.Proofs.YticnbcfmbhjbgaaGreatDoor
namespace Go.Proofs.Cpl
open Go.RowKit Go.IntWalk Knd
open YticnbcfmbhjbgaaGreatDoor (Wd pE aB)
open Cde (In i0 ia kd cd Ins dA aC kS aS)
open Fld (bD)
open YticnbcfmbhjbgaaGreatDoor (bW kN mH)
open Vfy (bB aJ)
open Vmm (aZs)
open Chn (hrV)
variable {V:World} {g:Nat} {d f o z:Int} {L:List In}
theorem lV {s:ByteArray}(h:Pg V g f d L o s z):Calls Tryz.prog 19 #[.pointer (some ⟨g,0,none⟩)] V fun e W'=>e=.returned (.i z)/\W'=V:=by
 obtain⟨m,q,a,n,c,hx,-⟩:=h.x
 obtain⟨e0,e1,e2,e3,e4,e5,e6,e7⟩:=xH hx
 clear h hx
 go_enter Tryz.func19,Tryz.ntmps19
 go_wp2_with fail
 go_ret
 exact⟨rfl,rfl⟩
theorem aPp {s:ByteArray}(h:Pg V g f d L o s z):Calls Tryz.prog 24 #[.pointer (some ⟨g,0,none⟩)] V fun e W'=>e=.returned (.string s)/\W'=V:=by
 obtain⟨m,q,a,n,c,hx,-⟩:=h.x
 obtain⟨e0,e1,e2,e3,e4,e5,e6,e7⟩:=xH hx
 clear h hx
 go_enter Tryz.func24,Tryz.ntmps24
 go_wp2_with fail
 go_ret
 exact⟨rfl,rfl⟩
def CoP (V:World)(f d:Int)(L:List In)(o:Int)(e:Ending)(W':World):Prop :=
 ∃ a' c',e=.returned (.agg (cd f d a' L.length c' o))/\W'.ownsRow V.heap.size 132 6 (.slice a' L.length c') L.length (dA L)/\Below V.heap.size V W'
theorem aMb {s:ByteArray}(h:Pg V g f d L o s z)(h0:bB f d L o=0):Calls Tryz.prog 27 #[.pointer (some ⟨g,0,none⟩)] V (CoP V f d L o):=by
 obtain⟨m,q,a,n,c,hx,hL,-⟩:=h.x
 obtain⟨mc,-⟩:=aJ h0
 obtain⟨-,m1,m2,-,-,-⟩:=aS mc
 have hn:=hL.len
 subst hn
 obtain⟨V0,hV0⟩:∃ V0,V.alloc (.cells bW 33)=V0:=⟨_,rfl⟩
 have hb1:=aD V (.cells bW 33)
 rw[hV0] at hb1
 have hs0:V0.heap.size=V.heap.size+1:=by rw[<-hV0,wSa]
 obtain⟨e0,e1,e2,e3,e4,e5,e6,e7⟩:=xH (hx.below hb1)
 have hb2:=aD V0 (.cells (cd f d a L.length c o) 33)
 have HCl:=aA (Fld.eZ ((hL.later hb1).later hb2) (by omega) (by omega))
 have HC1:=aA (aB.new V0 33 (cd f d a L.length c o))
 have HR1:=aA ((aB.new V 33 bW).alloc (.cells (cd f d a L.length c o) 33))
 rw[hV0] at HR1
 have HB1:=aA (bel hb1 hb2)
 rw[hs0] at HC1
 clear h hx hb1 hb2 hL mc h0
 go_enter Tryz.func27,Tryz.ntmps27
 go_wp2_with fail
 refine HCl.o.mono ?_
 rintro e V2 ⟨a2,k2,rfl,hO,hb⟩
 have HC2:=HC1.o.below hb
 have hne:Value.ownBlock (.slice a2 L.length k2)≠some (V.heap.size+1):=fun hk=>by
  have:=(hO.lt _ hk).1
  have:=HC1.o.lt
  omega
 have HO2:=aA (Cde.bS (ownsRow_setCell_other hO (a:=⟨V.heap.size+1,2,none⟩) hne (.slice a2 L.length k2)) HB1.o.size)
 have HC3:=aA (HC2.set 2 (.slice a2 L.length k2))
 have HB3:=aA ((bel HB1.o hb).setCell (p:=⟨V.heap.size+1,2,none⟩) (Nat.le_succ _) (.slice a2 L.length k2))
 have hr3:=(HR1.o.below hb).other (p:=⟨V.heap.size+1,2,none⟩) (by simp) (.slice a2 L.length k2)
 obtain⟨c0,c1,c2,c3⟩:=aC hr3
 obtain⟨f0,f1,f2,f3⟩:=bD hr3
 have hz3:=hr3.lt
 obtain⟨hp,hpb⟩:=kN hr3 (w:=V) HB3.o (nLr _) (.i f) (.i d) (.slice a2 L.length k2) (.i o)
 have HO4:=aA (mH HO2.o hr3 (by decide) (.i f) (.i d) (.slice a2 L.length k2) (.i o))
 have z2:=HC2.frozen 2
 have hz2:=HC2.lt
 obtain⟨p0,p1,p2,p3⟩:=aC HC2
 obtain⟨d0,d1,d2,d3⟩:=aC HC3.o
 clear hr3 HR1 hb hO hne HC2 HCl HC1 e0 e1 e2 e3 e4 e5 e6 e7 hV0
 go_wp2_with fail
 obtain⟨q0,q1,q2,q3⟩:=aC hp
 exact bPr (v:=.agg (cd f d a2 L.length k2 o)) (by simp[results,Tryz.results27,go_sem,q0,q1,q2,q3]) rfl ⟨_,_,rfl,HO4.o,hpb⟩
end Go.Proofs.Cpl
