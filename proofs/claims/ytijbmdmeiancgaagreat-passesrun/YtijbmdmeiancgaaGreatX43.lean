import Derived.Test.YtijbmdmeiancgaaGreatXH
import Derived.Test.YtijbmdmeiancgaaGreatX34
import Derived.Test.YtijbmdmeiancgaaGreatX35
set_option maxRecDepth 100000
set_option maxHeartbeats 32000000
set_option linter.unusedVariables false
namespace Go.Proofs.Rdc
open Go.RowKit Go.IntWalk Knd
open Cde (In i0 ia kd cd Ins kM aJ aG bB aL bJ eO aD bG i6 zA aM)
open Vfy (bL kN kK eH w32)
open Fld (bO rg gv)
structure Mt (W V:World)(b:Nat)(f d out:Int)(wv sv mv tv:Value)(M:List In)(T:List Int):Prop where
 w:aI V b 99 #[.int .i64 f,.int .i64 d,wv,.int .i64 out,sv,mv,tv]
 m:V.ownsRow b 57 6 mv M.length (bG M)
 t:V.ownsRow b 3 1 tv T.length (bY T)
 lo:Below W.heap.size W V
 hb:W.heap.size<=b
section
variable {W V : World} {b : Nat} {f d out : Int} {wv sv mv tv : Value} {M : List In} {T : List Int}
theorem Mt.below {V':World}(h:Mt W V b f d out wv sv mv tv M T)(hb:Below V.heap.size V V'):Mt W V' b f d out wv sv mv tv M T :=
 ⟨h.w.below hb,Cde.aS h.m hb,Cde.aS h.t hb,bel h.lo hb,h.hb⟩
theorem Mt.le (h:Mt W V b f d out wv sv mv tv M T):b<=V.heap.size:=Nat.le_of_lt h.w.lt
theorem Mt.growM {w':World}{mv':Value}{M':List In}(h:Mt W V b f d out wv sv mv tv M T)(hg:V.grownBy w' mv.ownBlock)(hO:w'.ownsRow b 57 6 mv' M'.length (bG M')) :
  Mt W (w'.setCell ⟨b,5,none⟩ mv') b f d out wv sv mv' tv M' T/\Below b V (w'.setCell ⟨b,5,none⟩ mv'):=by
 have hW:=aU h.m hg h.w (by decide)
 have hT:=eQ h.m h.t (by decide) hg
 have hB:Below b V w':=(Below.refl b V).grown hg h.le fun k hk=>(Cde.aQ h.m k hk).1
 exact⟨⟨hW.set 5 mv',ownsRow_setCell_other hO (a:=⟨b,5,none⟩) (own_ne hO hW (by decide)) _,ownsRow_setCell_other hT (a:=⟨b,5,none⟩) (own_ne hT hW (by decide)) _,(h.lo.grown hg h.lo.size fun k hk=>Nat.le_trans h.hb (Cde.aQ h.m k hk).1).setCell (p:=⟨b,5,none⟩) h.hb _,h.hb⟩,hB.setCell (p:=⟨b,5,none⟩) (Nat.le_refl _) _⟩
theorem Mt.growT {w':World}{tv':Value}{T':List Int}(h:Mt W V b f d out wv sv mv tv M T)(hg:V.grownBy w' tv.ownBlock)(hO:w'.ownsRow b 3 1 tv' T'.length (bY T')) :
  Mt W (w'.setCell ⟨b,6,none⟩ tv') b f d out wv sv mv tv' M T'/\Below b V (w'.setCell ⟨b,6,none⟩ tv'):=by
 have hW:=aU h.t hg h.w (by decide)
 have hM:=eQ h.t h.m (by decide) hg
 have hB:Below b V w':=(Below.refl b V).grown hg h.le fun k hk=>(Cde.aQ h.t k hk).1
 exact⟨⟨hW.set 6 tv',ownsRow_setCell_other hM (a:=⟨b,6,none⟩) (own_ne hM hW (by decide)) _,ownsRow_setCell_other hO (a:=⟨b,6,none⟩) (own_ne hO hW (by decide)) _,(h.lo.grown hg h.lo.size fun k hk=>Nat.le_trans h.hb (Cde.aQ h.t k hk).1).setCell (p:=⟨b,6,none⟩) h.hb _,h.hb⟩,hB.setCell (p:=⟨b,6,none⟩) (Nat.le_refl _) _⟩
theorem Mt.keepM {w':World}{mv':Value}(h:Mt W V b f d out wv sv mv tv M T)(hg:V.grownBy w' mv.ownBlock){V0:World}(hk:Kp V0 V):Kp V0 (w'.setCell ⟨b,5,none⟩ mv'):=by
 intro q cs hq
 have hq1:=hk q cs hq
 exact(aU h.m hg hq1 (by decide)).other (p:=⟨b,5,none⟩) (pG hq1 h.w (by decide)) _
theorem Mt.reg (h:Mt W V b f d out wv sv mv tv M T){r:Int}(hr:bO r T.length):∃ j g c,r=((j:Nat):Int)/\j < T.length/\T.length<=9223372036854775807/\tv=.slice (some ⟨g,0,none⟩) T.length c/\V.cell? ⟨g,j,none⟩=some (.int .i64 (gv T r)):=by
 obtain⟨j,rfl⟩:∃ k:Nat,r=k:=⟨r.toNat,by have:=hr.1;omega⟩
 have hj:j < T.length:=by have:=hr.2;omega
 rcases h.t.2 with⟨e1,e2⟩|⟨g,cap,cur,rfl,-⟩
 ·omega
 ·obtain⟨a',c',e,hI,-⟩:=Ints.of_owns h.t
  cases e
  obtain⟨b',off,e',-,hat⟩:=hI.at (by omega)
  cases e'
  have c0:=hat j hj
  rw[Nat.zero_add] at c0
  exact⟨j,g,cap,rfl,hj,by have:=hI.le;have:=hI.max;unfold maxLen at this;omega,rfl,c0⟩
end
theorem Mt.at {W V:World}{b gt ct j:Nat}{f d out:Int}{wv sv mv:Value}{M:List In}{T:List Int}(h:Mt W V b f d out wv sv mv (.slice (some ⟨gt,0,none⟩) T.length ct) M T)(hj:j < T.length):V.cell? ⟨gt,j,none⟩=some (.int .i64 (T.getD j 0)):=by
 obtain⟨a',c',e,hI,-⟩:=Ints.of_owns h.t
 cases e
 obtain⟨b',off,e',-,hat⟩:=hI.at (by omega)
 cases e'
 have c0:=hat j hj
 rw[Nat.zero_add] at c0
 exact c0
def Kn (mv mv':Value)(V V':World):Prop:=∀ q n,aI V q 57 (ia n)->mv.ownBlock≠some q->aI V' q 57 (ia n)/\mv'.ownBlock≠some q
theorem Kn.trans {x y z:Value}{A B C:World}(h:Kn x y A B)(k:Kn y z B C):Kn x z A C:=fun q n h1 h2=>k q n (h q n h1 h2).1 (h q n h1 h2).2
theorem Kn.of_below {mv:Value}{V V':World}(hb:Below V.heap.size V V'):Kn mv mv V V':=fun q n h1 h2=>⟨h1.below hb,h2⟩
theorem aGp {V:World}{base:Nat}{v:Value}{L:List In}{ops:Array Oper}{rest:List Oper}{o:Oper}{a:Act}{Q:Exit->Act->World->Prop}
  (hgd:o.guard=none) (s x:Operand) (ho:o.op=.call { callee:=.builtin .append,args:=#[s,x],argTypes:=#[24,24] })
  (hs:a.eval s=v) (hen:V.ownsRow base 57 6 v L.length (bG L)) (hbase:base<=V.heap.size) (b:Nat) (n:In) (hx:a.eval x=.slice (some ⟨b,0,none⟩) 1 1) (hc:aI V b 57 (ia n)) (h3:L.length<=2000000)
  (h:∀ g cap w',w'.ownsRow base 57 6 (.slice (some ⟨g,0,none⟩) (L.length+1) cap) (L++[n]).length (bG (L++[n]))->V.grownBy w' v.ownBlock->(v.ownBlock=some g\/g=V.heap.size)->wpList Tryz.prog ops Q rest (a.put o.dst (.slice (some ⟨g,0,none⟩) (L.length+1) cap)) w') :
  wpList Tryz.prog ops Q (o::rest) a V:=by
 obtain⟨i0',hi0,hz0,hz1,hz2⟩:=Spn.info_parts iK
 refine wpList_append_lies V hgd s x 24 ho base 57 i0' _ 6 48 Tryz.underlying24 hi0 hz0 hz1 hz2 rfl (by omega) v L.length (bG L) hs hen ⟨b,0,none⟩ 1 1 (i6 n) hx rfl (jH hc) (by simp[Value.oneCell',i6]) (by omega) (by unfold maxLen;omega) (by omega) hbase V.heap.size rfl ?_
 intro g cap w' hown hgrow hat hlt
 refine h g cap w' ?_ hgrow hat
 rw[Cde.iO,List.length_append]
 exact hown
theorem aP5 {W V V1 w':World}{b g l cap':Nat}{f d out:Int}{wv sv mv tv:Value}{M:List In}{T:List Int}(h:Mt W V1 b f d out wv sv mv tv M T)(hk:Kn mv mv V V1)(hg:V1.grownBy w' mv.ownBlock)(hat:mv.ownBlock=some g\/g=V1.heap.size):Kn mv (.slice (some ⟨g,0,none⟩) l cap') V (w'.setCell ⟨b,5,none⟩ (.slice (some ⟨g,0,none⟩) l cap')):=by
 intro q n h1 h2
 have hq:=(hk q n h1 h2).1
 refine⟨(hq.kept hg fun he=>h2 he.symm).other (p:=⟨b,5,none⟩) (pG hq h.w (by decide)) _,fun e=>?_⟩
 have e':g=q:=by cases e;rfl
 subst e'
 rcases hat with e1|e1
 ·exact h2 e1
 ·have:=hq.lt
  omega
theorem jW (op a' b' k s:Int){z:Int}{W V:World}{b:Nat}{f d out:Int}{wv sv mv tv:Value}{M:List In}{T:List Int}(h:Mt W V b f d out wv sv mv tv M T)(hz:(M.length:Int)=z)(hM:M.length<=2000000) :
  Calls Tryz.prog 91 #[.pointer (some ⟨b,0,none⟩),.int .i64 op,.int .i64 a',.int .i64 b',.int .i64 k,.int .i64 s] V fun e V'=>e=.returned (.int .i64 z)/\(∃ mv',Mt W V' b f d out wv sv mv' tv (M++[⟨op,a',b',0,k,s⟩]) T/\Kn mv mv' V V')/\Below b V V'/\Kp V V':=by
 obtain⟨ma,mc,rfl,-,-⟩:=Ins.of_owns h.m
 have hb1:=aH V (.cells (ia ⟨op,a',b',0,k,s⟩) 57)
 have HF1:=aC (h.below hb1)
 have HN1:=aC (aI.new V 57 (ia ⟨op,a',b',0,k,s⟩))
 have HB1:=aC (bQ h.le hb1)
 have HK1:Hid (Kp V (V.alloc (.cells (ia ⟨op,a',b',0,k,s⟩) 57))):=aC fun q cs hq=>hq.below hb1
 have HKn:Hid (Kn (.slice ma M.length mc) (.slice ma M.length mc) V (V.alloc (.cells (ia ⟨op,a',b',0,k,s⟩) 57))):=aC (Kn.of_below hb1)
 have c5:=h.w.cell 5 rfl
 have hbl:=h.w.lt
 have HM:=aC hM
 have HZ:=aC hz
 clear h hM hb1 hz
 go_enter Tryz.func91,Tryz.ntmps91
 go_wp2_with (at_builtin;refine aGp rfl _ _ rfl rfl HF1.o.m HF1.o.le _ ⟨op,a',b',0,k,s⟩ rfl HN1.o HM.o ?_;intro g cap' w3 hown hgr hatg;obtain⟨hW4,hB4⟩:=HF1.o.growM hgr hown;have hKn4:=aP5 HF1.o HKn.o hgr hatg (l:=M.length+1) (cap':=cap');have hK4:=HF1.o.keepM (mv':=.slice (some ⟨g,0,none⟩) (M.length+1) cap') hgr HK1.o;have hc3:=aU HF1.o.m hgr HF1.o.w (by decide);have v3:=hc3.cell 5 rfl;have yv:=hc3.frozen 5;have hl3:=hc3.lt)
 go_ret
 exact⟨by rw[<-HZ.o];simp;exact wrap64_in _ ⟨by omega,by have:=HM.o;omega⟩,⟨_,hW4,hKn4⟩,HB1.o.trans hB4,hK4⟩
theorem iT (op a' b' k s:Int){z:Int}{W V:World}{b:Nat}{f d out:Int}{wv sv mv tv:Value}{M:List In}{T:List Int}(h:Mt W V b f d out wv sv mv tv M T)(hz:(M.length:Int)=z)(hM:M.length<=2000000) :
  Calls Tryz.prog 91 #[.pointer (some ⟨b,0,none⟩),.int .i64 op,.int .i64 a',.int .i64 b',.int .i64 k,.int .i64 s] V fun e V'=>e=.returned (.int .i64 z)/\(∃ mv',Mt W V' b f d out wv sv mv' tv (M++[⟨op,a',b',0,k,s⟩]) T)/\Below b V V'/\Kp V V' :=
 (jW op a' b' k s h hz hM).mono fun e V' ⟨h1,⟨mv',h2,_⟩,h3,h4⟩=>⟨h1,⟨mv',h2⟩,h3,h4⟩
theorem mM (r k:Int){z:Int}{W V:World}{b:Nat}{f d out:Int}{wv sv mv tv:Value}{M:List In}{T:List Int}(h:Mt W V b f d out wv sv mv tv M T)(hz:(M.length:Int)=z)(hM:M.length<=2000000) :
  Calls Tryz.prog 90 #[.pointer (some ⟨b,0,none⟩),.int .i64 r,.int .i64 k] V fun e V'=>e=.returned (.int .i64 z)/\(∃ mv',Mt W V' b f d out wv sv mv' tv (M++[nY r k]) T)/\Below b V V':=by
 have HP:=aC (mW k V)
 have HU1:=aC fun p=>iT 29 r 0 p 0 h hz hM
 have HU2:=aC (iT 32 r 0 k 0 h hz hM)
 unfold nY
 generalize oW k=p at *
 clear h hM hz
 by_cases hp:0<=p
 ·rw[if_pos hp]
  have q:decide (p < 0)=false:=by simp;omega
  clear hp
  go_enter Tryz.func90,Tryz.ntmps90
  go_wp2_with fail
  refine HP.o.mono ?_
  rintro e w' ⟨rfl,rfl⟩
  go_wp2_with fail
  refine(HU1.o p).mono ?_
  rintro e V1 ⟨rfl,hw,hb,-⟩
  go_wp2_with fail
  go_ret
  exact⟨rfl,hw,hb⟩
 ·rw[if_neg hp]
  have q:decide (p < 0)=true:=by simp;omega
  clear hp
  go_enter Tryz.func90,Tryz.ntmps90
  go_wp2_with fail
  refine HP.o.mono ?_
  rintro e w' ⟨rfl,rfl⟩
  go_wp2_with fail
  refine HU2.o.mono ?_
  rintro e V1 ⟨rfl,hw,hb,-⟩
  go_wp2_with fail
  go_ret
  exact⟨rfl,hw,hb⟩
def iY (W V:World)(b:Nat)(f d out:Int)(wv sv tv:Value)(M:List In)(T:List Int)(o:Option (List In))(e:Ending)(V':World):Prop :=
 (∃ Q,o=some Q/\e=.returned (.tuple #[.int .i64 (((M.length+Q.length:Nat):Int)-1),.bool true])/\(∃ mv',Mt W V' b f d out wv sv mv' tv (M++Q) T)/\Below b V V') \/
 (o=none/\e=.returned (.tuple #[.int .i64 0,.bool false])/\Below V.heap.size V V')
def QmK (W V:World)(b:Nat)(f d out:Int)(wv sv mv tv:Value)(M:List In)(T:List Int)(o:Option (List In))(e:Ending)(V':World):Prop :=
 (∃ Q,o=some Q/\e=.returned (.tuple #[.int .i64 (((M.length+Q.length:Nat):Int)-1),.bool true])/\(∃ mv',Mt W V' b f d out wv sv mv' tv (M++Q) T/\Kn mv mv' V V')/\Below b V V') \/
 (o=none/\e=.returned (.tuple #[.int .i64 0,.bool false])/\Below V.heap.size V V')
theorem QmK.many {W V V':World}{b:Nat}{f d out:Int}{wv sv mv tv:Value}{M:List In}{T:List Int}{o:Option (List In)}{z:Int}(Q:List In)(ho:o=some Q)(hz:((M.length+Q.length:Nat):Int)-1=z)(h:∃ mv',Mt W V' b f d out wv sv mv' tv (M++Q) T/\Kn mv mv' V V')(hb:Below b V V'):QmK W V b f d out wv sv mv tv M T o (.returned (.tuple #[.int .i64 z,.bool true])) V':=by
 subst hz
 exact .inl ⟨Q,ho,rfl,h,hb⟩
theorem QmK.no {W V V':World}{b:Nat}{f d out:Int}{wv sv mv tv:Value}{M:List In}{T:List Int}{o:Option (List In)}(ho:o=none)(hb:Below V.heap.size V V'):QmK W V b f d out wv sv mv tv M T o (.returned (.tuple #[.int .i64 0,.bool false])) V':=.inr ⟨ho,rfl,hb⟩
theorem QmK.weak {W V V':World}{b:Nat}{f d out:Int}{wv sv mv tv:Value}{M:List In}{T:List Int}{o:Option (List In)}{e:Ending}(h:QmK W V b f d out wv sv mv tv M T o e V'):iY W V b f d out wv sv tv M T o e V':=by
 rcases h with⟨Q,h1,h2,⟨mv',h3,-⟩,h4⟩|h
 ·exact .inl ⟨Q,h1,h2,⟨mv',h3⟩,h4⟩
 ·exact .inr h
theorem iY.many {W V V':World}{b:Nat}{f d out:Int}{wv sv tv:Value}{M:List In}{T:List Int}{o:Option (List In)}{z:Int}(Q:List In)(ho:o=some Q)(hz:((M.length+Q.length:Nat):Int)-1=z)(h:∃ mv',Mt W V' b f d out wv sv mv' tv (M++Q) T)(hb:Below b V V'):iY W V b f d out wv sv tv M T o (.returned (.tuple #[.int .i64 z,.bool true])) V':=by
 subst hz
 exact .inl ⟨Q,ho,rfl,h,hb⟩
theorem iY.no {W V V':World}{b:Nat}{f d out:Int}{wv sv tv:Value}{M:List In}{T:List Int}{o:Option (List In)}(ho:o=none)(hb:Below V.heap.size V V'):iY W V b f d out wv sv tv M T o (.returned (.tuple #[.int .i64 0,.bool false])) V':=.inr ⟨ho,rfl,hb⟩
theorem rG (r d:Int)(hd:2<=d/\d<=2147483647){W V:World}{b:Nat}{f dd out:Int}{wv:Value}{sa:Option Addr}{sn sc:Nat}{mv tv:Value}{M:List In}{T:List Int}{S:eH}(h:Mt W V b f dd out wv (.slice sa sn sc) mv tv M T)(hS:Spn.Spans W sa sn sc S)(hT:T.length<=sn)(hM:M.length<=1000000)(hr:bO r T.length){lo hi:Int}(hs:S.getD r.toNat (0,0)=(lo,hi))(hw:Wh lo hi) :
  Calls Tryz.prog 92 #[.pointer (some ⟨b,0,none⟩),.int .i64 r,.int .i64 d] V (QmK W V b f dd out wv (.slice sa sn sc) mv tv M T (rH lo hi (gv T r) d M.length)):=by
 have hb1:=aH V (.cells #[.int .i64 lo,.int .i64 hi] 81)
 have HF1:=aC (h.below hb1)
 have HC1:=aC (aI.new V 81 #[.int .i64 lo,.int .i64 hi])
 have HB1:=aC hb1
 have HL1:=aC (bQ h.le hb1)
 have HN1:Hid (Kn mv mv V (V.alloc (.cells #[.int .i64 lo,.int .i64 hi] 81))):=aC (Kn.of_below hb1)
 have HM:=aC hM
 have HP:=aC fun w=>mW d w
 have HMg:=aC fun sz w=>aCs sz d w
 obtain⟨m,hm⟩:∃ m:Int,(M.length:Int)=m:=⟨_,rfl⟩
 rw[hm]
 have HMl:=aC hm
 obtain⟨w1,w2,w3,w4,w5⟩:=hw
 obtain⟨d1,d2⟩:=hd
 obtain⟨j,gt,ct,rfl,hj,htl,rfl,ct0⟩:=h.reg hr
 obtain⟨x,hx⟩:∃ x,gv T (j:Int)=x:=⟨_,rfl⟩
 rw[hx] at ct0 ⊢
 have hg1:=h.w.cell 4 rfl
 have hg3:=h.w.cell 6 rfl
 obtain⟨gs,off,rfl,hgs,hsc⟩:=(hS.later h.lo).at (by omega)
 obtain⟨c0,c1⟩:=hsc j (by omega)
 rw[Int.toNat_natCast] at hs
 rw[hs] at c0 c1
 dsimp only at c0 c1
 have hsn:=hS.le
 have hsn2:=hS.max
 unfold maxLen at hsn2
 have i0':(0:Int)<=j:=by omega
 have i1':(j:Int) < sn:=by omega
 obtain⟨tl,htl'⟩:∃ tl,T.length=tl:=⟨_,rfl⟩
 rw[htl'] at hg3 htl
 have i2':(j:Int) < tl:=by omega
 have hb0:=h.w.lt
 have hgt:gt < V.heap.size:=World.block_lt_of_cell? V _ ct0
 clear hx hm h hS hT hM hr hs hsc hj hb1 htl'
 obtain⟨O,hO⟩:∃ O,rH lo hi x d m=O:=⟨_,rfl⟩
 rw[hO]
 unfold rH at hO
 obtain⟨p,hp⟩:∃ p,oW d=p:=⟨_,rfl⟩
 rw[hp] at HP hO
 clear hp
 go_enter Tryz.func92,Tryz.ntmps92
 go_wp2_with fail
 refine(HP.o _).mono ?_
 rintro e w' ⟨rfl,rfl⟩
 obtain⟨s0,s1⟩:=bB HC1.o
 generalize hV1:V.alloc (.cells #[.int .i64 lo,.int .i64 hi] 81)=V1 at *
 generalize hgb:V.heap.size=gb at *
 clear HP hg1 hg3 c0 c1 ct0 hgs hgt hb0
 by_cases hpp:0 < p
 ·have q0:decide (0 < p)=true:=by simpa using hpp
  rw[if_pos hpp] at hO
  clear hpp
  by_cases h0:0<=lo
  ·rw[if_pos h0] at hO
   have HO:=aC hO.symm
   have q1:decide (0<=lo)=true:=by simpa using h0
   clear hO h0
   have HU:=aC (jW 30 x 0 p 0 HF1.o HMl.o (by have:=HM.o;omega))
   go_wp2_with fail
   refine HU.o.mono ?_
   clear HU
   rintro e V2 ⟨rfl,⟨mv2,hw,hkn⟩,hb,hk⟩
   have HF2:=aC hw
   have HN2:=aC (HN1.o.trans hkn)
   clear hkn
   have HL2:=aC (HL1.o.trans hb)
   go_wp2_with fail
   exact bodyPost_ret (v:=.tuple #[.int .i64 m,.bool true]) (by simp[results,Tryz.results92,go_sem]) rfl (QmK.many _ HO.o (by have:=HMl.o;have:=HMl.o;simp;simp at *;omega) ⟨_,by simpa using HF2.o,HN2.o⟩ HL2.o)
  ·rw[if_neg h0] at hO
   have q1:decide (0<=lo)=false:=by simpa using h0
   clear h0
   by_cases h1:hi+d-1<=2147483647
   ·rw[if_pos h1] at hO
    have HO:=aC hO.symm
    have q2:decide (2147483647 < hi+d-1)=false:=by simp;omega
    clear hO h1
    obtain⟨z1,hz1⟩:∃ z1:Int,m+1=z1:=⟨_,rfl⟩
    obtain⟨z2,hz2⟩:∃ z2:Int,m+2=z2:=⟨_,rfl⟩
    obtain⟨z3,hz3⟩:∃ z3:Int,m+3=z3:=⟨_,rfl⟩
    rw[hz1,hz2] at HO
    have HZ1:Hid (((M++[(⟨30,x,0,0,31,0⟩:In)]).length:Int)=z1):=aC (by have:=HMl.o;simp;omega)
    have HZ2:Hid (((M++[(⟨30,x,0,0,31,0⟩:In)]++[(⟨31,m,0,0,d-1,0⟩:In)]).length:Int)=z2):=aC (by have:=HMl.o;simp;omega)
    have HZ3:Hid (((M++[(⟨30,x,0,0,31,0⟩:In)]++[(⟨31,m,0,0,d-1,0⟩:In)]++[(⟨8,x,z1,0,0,0⟩:In)]).length:Int)=z3):=aC (by have:=HMl.o;simp;omega)
    have HZm:=aC hz3
    clear hz1 hz2 hz3
    have HU:=aC (jW 30 x 0 31 0 HF1.o HMl.o (by have:=HM.o;omega))
    go_wp2_with fail
    refine HU.o.mono ?_
    clear HU
    rintro e V2 ⟨rfl,⟨mv2,hw,hkn⟩,hb,hk⟩
    have HF2:=aC hw
    have HN2:=aC (HN1.o.trans hkn)
    clear hkn
    have HL2:=aC (HL1.o.trans hb)
    clear hw hb hk
    have HU:=aC (jW 31 m 0 (d-1) 0 HF2.o HZ1.o (by have:=HM.o;simp;omega))
    go_wp2_with fail
    refine HU.o.mono ?_
    clear HU
    rintro e V3 ⟨rfl,⟨mv3,hw,hkn⟩,hb,hk⟩
    have HF3:=aC hw
    have HN3:=aC (HN2.o.trans hkn)
    clear hkn
    have HL3:=aC (HL2.o.trans hb)
    clear hw hb hk
    have HU:=aC (jW 8 x z1 0 0 HF3.o HZ2.o (by have:=HM.o;simp;omega))
    go_wp2_with fail
    refine HU.o.mono ?_
    clear HU
    rintro e V4 ⟨rfl,⟨mv4,hw,hkn⟩,hb,hk⟩
    have HF4:=aC hw
    have HN4:=aC (HN3.o.trans hkn)
    clear hkn
    have HL4:=aC (HL3.o.trans hb)
    clear hw hb hk
    have HU:=aC (jW 30 z2 0 p 0 HF4.o HZ3.o (by have:=HM.o;simp;omega))
    go_wp2_with fail
    refine HU.o.mono ?_
    clear HU
    rintro e V5 ⟨rfl,⟨mv5,hw,hkn⟩,hb,hk⟩
    have HF5:=aC hw
    have HN5:=aC (HN4.o.trans hkn)
    clear hkn
    have HL5:=aC (HL4.o.trans hb)
    clear hw hb hk
    go_wp2_with fail
    exact bodyPost_ret (v:=.tuple #[.int .i64 z3,.bool true]) (by simp[results,Tryz.results92,go_sem]) rfl (QmK.many _ HO.o (by have:=HMl.o;have:=HZm.o;simp;simp at *;omega) ⟨_,by simpa using HF5.o,HN5.o⟩ HL5.o)
   ·rw[if_neg h1] at hO
    have HO:=aC hO.symm
    have q2:decide (2147483647 < hi+d-1)=true:=by simp;omega
    clear hO h1
    go_wp2_with fail
    exact bodyPost_ret (v:=.tuple #[.int .i64 0,.bool false]) (by simp[results,Tryz.results92,go_sem]) rfl (QmK.no HO.o (by rw[hgb];exact HB1.o))
 ·have q0:decide (0 < p)=false:=by simpa using hpp
  rw[if_neg hpp] at hO
  clear hpp
  have hmx:(hi < -lo/\max (-lo) hi=-lo)\/(-lo<=hi/\max (-lo) hi=hi):=by omega
  have hmg:∃ sz,max (-lo) hi=sz/\((hi < -lo/\sz=-lo)\/(-lo<=hi/\sz=hi)):=⟨_,rfl,by omega⟩
  clear hmx
  obtain⟨sz,hsz,hmx⟩:=hmg
  rw[hsz] at hO
  obtain⟨⟨k,s,ok⟩,hK⟩:∃ Z,tQ sz d=Z:=⟨_,rfl⟩
  rw[hK] at hO
  dsimp only at hO
  rcases hmx with⟨hmx,hse⟩|⟨hmx,hse⟩
  ·rw[hse] at hK
   have HMg2:=aC fun w=>HMg.o (-lo) w
   rw[hK] at HMg2
   dsimp only [mgV] at HMg2
   have qm:decide (hi < -lo)=true:=by simpa using hmx
   clear hK hsz hse
   go_wp2_with fail
   refine(HMg2.o _).mono ?_
   rintro e w' ⟨rfl,rfl⟩
   clear HMg2 HMg
   cases ok
   ·have HO:=aC (hO.symm.trans (if_neg (by simp)))
    clear hO
    go_wp2_with fail
    exact bodyPost_ret (v:=.tuple #[.int .i64 0,.bool false]) (by simp[results,Tryz.results92,go_sem]) rfl (QmK.no HO.o (by rw[hgb];exact HB1.o))
   ·rw[if_pos rfl] at hO
    have HU:=aC (jW 33 x 0 k s HF1.o HMl.o (by have:=HM.o;omega))
    go_wp2_with fail
    refine HU.o.mono ?_
    clear HU
    rintro e V2 ⟨rfl,⟨mv2,hw,hkn⟩,hb,hk⟩
    have HF2:=aC hw
    have HN2:=aC (HN1.o.trans hkn)
    clear hkn
    have HL2:=aC (HL1.o.trans hb)
    have HC2:=aC (hk _ _ HC1.o)
    clear hw hb hk s0 s1
    obtain⟨s0,s1⟩:=bB HC2.o
    by_cases h0:0<=lo
    ·rw[if_pos h0] at hO
     have HO:=aC hO.symm
     have q1:decide (0<=lo)=true:=by simpa using h0
     clear hO h0
     go_wp2_with fail
     exact bodyPost_ret (v:=.tuple #[.int .i64 m,.bool true]) (by simp[results,Tryz.results92,go_sem]) rfl (QmK.many _ HO.o (by have:=HMl.o;have:=HMl.o;simp;simp at *;omega) ⟨_,by simpa using HF2.o,HN2.o⟩ HL2.o)
    ·rw[if_neg h0] at hO
     have HO:=aC hO.symm
     have q1:decide (0<=lo)=false:=by simpa using h0
     clear hO h0
     obtain⟨z1,hz1⟩:∃ z1:Int,m+1=z1:=⟨_,rfl⟩
     obtain⟨z2,hz2⟩:∃ z2:Int,m+2=z2:=⟨_,rfl⟩
     rw[hz1] at HO
     have HZ1:Hid (((M++[(⟨33,x,0,0,k,s⟩:In)]).length:Int)=z1):=aC (by have:=HMl.o;simp;omega)
     have HZ2:Hid (((M++[(⟨33,x,0,0,k,s⟩:In)]++[(⟨30,x,0,0,31,0⟩:In)]).length:Int)=z2):=aC (by have:=HMl.o;simp;omega)
     have HZm:=aC hz2
     clear hz1 hz2
     have HU:=aC (jW 30 x 0 31 0 HF2.o HZ1.o (by have:=HM.o;simp;omega))
     go_wp2_with fail
     refine HU.o.mono ?_
     clear HU
     rintro e V3 ⟨rfl,⟨mv3,hw,hkn⟩,hb,hk⟩
     have HF3:=aC hw
     have HN3:=aC (HN2.o.trans hkn)
     clear hkn
     have HL3:=aC (HL2.o.trans hb)
     clear hw hb hk
     have HU:=aC (jW 9 m z1 0 0 HF3.o HZ2.o (by have:=HM.o;simp;omega))
     go_wp2_with fail
     refine HU.o.mono ?_
     clear HU
     rintro e V4 ⟨rfl,⟨mv4,hw,hkn⟩,hb,hk⟩
     have HF4:=aC hw
     have HN4:=aC (HN3.o.trans hkn)
     clear hkn
     have HL4:=aC (HL3.o.trans hb)
     clear hw hb hk
     go_wp2_with fail
     exact bodyPost_ret (v:=.tuple #[.int .i64 z2,.bool true]) (by simp[results,Tryz.results92,go_sem]) rfl (QmK.many _ HO.o (by have:=HMl.o;have:=HZm.o;simp;simp at *;omega) ⟨_,by simpa using HF4.o,HN4.o⟩ HL4.o)
  ·rw[hse] at hK
   have HMg2:=aC fun w=>HMg.o (hi) w
   rw[hK] at HMg2
   dsimp only [mgV] at HMg2
   have qm:decide (hi < -lo)=false:=by simpa using hmx
   clear hK hsz hse
   go_wp2_with fail
   refine(HMg2.o _).mono ?_
   rintro e w' ⟨rfl,rfl⟩
   clear HMg2 HMg
   cases ok
   ·have HO:=aC (hO.symm.trans (if_neg (by simp)))
    clear hO
    go_wp2_with fail
    exact bodyPost_ret (v:=.tuple #[.int .i64 0,.bool false]) (by simp[results,Tryz.results92,go_sem]) rfl (QmK.no HO.o (by rw[hgb];exact HB1.o))
   ·rw[if_pos rfl] at hO
    have HU:=aC (jW 33 x 0 k s HF1.o HMl.o (by have:=HM.o;omega))
    go_wp2_with fail
    refine HU.o.mono ?_
    clear HU
    rintro e V2 ⟨rfl,⟨mv2,hw,hkn⟩,hb,hk⟩
    have HF2:=aC hw
    have HN2:=aC (HN1.o.trans hkn)
    clear hkn
    have HL2:=aC (HL1.o.trans hb)
    have HC2:=aC (hk _ _ HC1.o)
    clear hw hb hk s0 s1
    obtain⟨s0,s1⟩:=bB HC2.o
    by_cases h0:0<=lo
    ·rw[if_pos h0] at hO
     have HO:=aC hO.symm
     have q1:decide (0<=lo)=true:=by simpa using h0
     clear hO h0
     go_wp2_with fail
     exact bodyPost_ret (v:=.tuple #[.int .i64 m,.bool true]) (by simp[results,Tryz.results92,go_sem]) rfl (QmK.many _ HO.o (by have:=HMl.o;have:=HMl.o;simp;simp at *;omega) ⟨_,by simpa using HF2.o,HN2.o⟩ HL2.o)
    ·rw[if_neg h0] at hO
     have HO:=aC hO.symm
     have q1:decide (0<=lo)=false:=by simpa using h0
     clear hO h0
     obtain⟨z1,hz1⟩:∃ z1:Int,m+1=z1:=⟨_,rfl⟩
     obtain⟨z2,hz2⟩:∃ z2:Int,m+2=z2:=⟨_,rfl⟩
     rw[hz1] at HO
     have HZ1:Hid (((M++[(⟨33,x,0,0,k,s⟩:In)]).length:Int)=z1):=aC (by have:=HMl.o;simp;omega)
     have HZ2:Hid (((M++[(⟨33,x,0,0,k,s⟩:In)]++[(⟨30,x,0,0,31,0⟩:In)]).length:Int)=z2):=aC (by have:=HMl.o;simp;omega)
     have HZm:=aC hz2
     clear hz1 hz2
     have HU:=aC (jW 30 x 0 31 0 HF2.o HZ1.o (by have:=HM.o;simp;omega))
     go_wp2_with fail
     refine HU.o.mono ?_
     clear HU
     rintro e V3 ⟨rfl,⟨mv3,hw,hkn⟩,hb,hk⟩
     have HF3:=aC hw
     have HN3:=aC (HN2.o.trans hkn)
     clear hkn
     have HL3:=aC (HL2.o.trans hb)
     clear hw hb hk
     have HU:=aC (jW 9 m z1 0 0 HF3.o HZ2.o (by have:=HM.o;simp;omega))
     go_wp2_with fail
     refine HU.o.mono ?_
     clear HU
     rintro e V4 ⟨rfl,⟨mv4,hw,hkn⟩,hb,hk⟩
     have HF4:=aC hw
     have HN4:=aC (HN3.o.trans hkn)
     clear hkn
     have HL4:=aC (HL3.o.trans hb)
     clear hw hb hk
     go_wp2_with fail
     exact bodyPost_ret (v:=.tuple #[.int .i64 z2,.bool true]) (by simp[results,Tryz.results92,go_sem]) rfl (QmK.many _ HO.o (by have:=HMl.o;have:=HZm.o;simp;simp at *;omega) ⟨_,by simpa using HF4.o,HN4.o⟩ HL4.o)
theorem sJ (r d:Int)(hd:2<=d/\d<=2147483647){W V:World}{b:Nat}{f dd out:Int}{wv:Value}{sa:Option Addr}{sn sc:Nat}{mv tv:Value}{M:List In}{T:List Int}{S:eH}(h:Mt W V b f dd out wv (.slice sa sn sc) mv tv M T)(hS:Spn.Spans W sa sn sc S)(hT:T.length<=sn)(hM:M.length<=1000000)(hr:bO r T.length){lo hi:Int}(hs:S.getD r.toNat (0,0)=(lo,hi))(hw:Wh lo hi) :
  Calls Tryz.prog 92 #[.pointer (some ⟨b,0,none⟩),.int .i64 r,.int .i64 d] V (iY W V b f dd out wv (.slice sa sn sc) tv M T (rH lo hi (gv T r) d M.length)) :=
 (rG r d hd h hS hT hM hr hs hw).mono fun _ _ h=>h.weak
end Go.Proofs.Rdc
namespace Go.Proofs.Rdc
open Go.RowKit Go.IntWalk Knd
open Cde (In i0 ia kd cd Ins kM aJ aG bB aL bJ eO aD bG i6 zA aM)
open Vfy (bL kN kK eH w32)
open Fld (bO rg gv ar fA)
variable {d f out:Int} {V W:World} {b:Nat} {sv tv wv:Value} {M:List In} {T:List Int}
theorem aP0 {size:Int}(h:d < 2):tQ size d=(0,0,false):=by unfold tQ;rw[if_neg (by omega)]
theorem aDt (h:d < 2):¬0 < oW d:=by
 rcases kJ d with e|⟨n,n1,n2,n3⟩
 ·omega
 ·intro h0
  have:=qF (show 1<=n by omega)
  rw[<-n3] at this
  omega
theorem tJ {lo hi x m:Int}(h:d < 2):rH lo hi x d m=none:=by
 unfold rH
 rw[if_neg (aDt h),aP0 h]
 rfl
theorem aF0 (n:In)(hop:n.op < 8\/25 < n.op){dd:Int}{mv:Value}{L:List In}{S:eH}(h:Mt W V b f dd out wv sv mv tv M T) :
  Calls Tryz.prog 61 #[.pointer (some ⟨b,0,none⟩),.agg (ia n)] V (iY W V b f dd out wv sv tv M T (kF L S T n M.length)):=by
 have hq:kF L S T n M.length=none:=by
  unfold kF
  rw[if_neg (by omega),if_neg (by omega),if_neg (by omega),if_neg (by omega),if_neg (by omega),if_neg (by omega)]
 rw[hq]
 have HB0:=aC (aH V (.cells (ia n) 57))
 have t:decide (n.op < 8)=true\/(decide (n.op < 8)=false/\decide (25 < n.op)=true):=by
  by_cases h8:n.op < 8
  ·exact .inl (by simpa using h8)
  ·exact .inr ⟨by simpa using h8,by simp;omega⟩
 clear hq hop h
 rcases t with t1|⟨t1,t2⟩
 all_goals
  go_enter Tryz.func61,Tryz.ntmps61
  go_wp2_with fail
  exact bodyPost_ret (v:=.tuple #[.int .i64 0,.bool false]) (by simp[results,Tryz.results61,go_sem]) rfl (iY.no rfl HB0.o)
structure Qk (W V0 V:World)(b gn ga gb:Nat)(f dd out:Int)(wv sv mv tv:Value)(M:List In)(T:List Int)(n A B:In):Prop where
 m:Mt W V b f dd out wv sv mv tv M T
 n:aI V gn 57 (ia n)
 a:aI V ga 57 (ia A)
 b:aI V gb 57 (ia B)
 lo:Below V0.heap.size V0 V
 ne:mv.ownBlock≠some gb
theorem Qk.below {W V0 V V':World}{b gn ga gb:Nat}{f dd out:Int}{wv sv mv tv:Value}{M:List In}{T:List Int}{n A B:In}(h:Qk W V0 V b gn ga gb f dd out wv sv mv tv M T n A B)(hb:Below V.heap.size V V'):Qk W V0 V' b gn ga gb f dd out wv sv mv tv M T n A B:=⟨h.m.below hb,h.n.below hb,h.a.below hb,h.b.below hb,bel h.lo hb,h.ne⟩
theorem iM (W:World)(o:Obj)(t:TypeId)(cs:Array Value):aI ((W.alloc o).alloc (.cells cs t)) (W.heap.size+1) t cs:=Cde.aL W o t cs
theorem iY.mono {V0 V':World}{o:Option (List In)}{e:Ending}(h:iY W V b f d out wv sv tv M T o e V')(hb:b<=V0.heap.size)(hB:Below V0.heap.size V0 V):iY W V0 b f d out wv sv tv M T o e V':=by
 rcases h with⟨Q,h1,h2,h3,h4⟩|⟨h1,h2,h3⟩
 ·exact .inl ⟨Q,h1,h2,h3,(bQ hb hB).trans h4⟩
 ·exact .inr ⟨h1,h2,bel hB h3⟩
theorem qE (w:World)(q:Nat):Below w.heap.size w (w.drewN q):=Cde.cO w q
end Go.Proofs.Rdc
