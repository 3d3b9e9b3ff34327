import Derived.Test.YticnbcfmbhjbgaaGreatDoorX24
import Derived.Test.YticnbcfmbhjbgaaGreatDoorX22
set_option maxRecDepth 100000
set_option maxHeartbeats 32000000
set_option linter.unusedVariables false
namespace Go.Proofs.Vmm
section
open Go.RowKit Go.IntWalk Knd
open YticnbcfmbhjbgaaGreatDoor (Wd dQ Fits inpV)
open Cde (In i0 ia kd cd Ins sI aH aC aP aJ bE eH aF dL i6 zA aG cZ nA fZ TwP gW)
open Vfy (aW w32)
open YticnbcfmbhjbgaaGreatDoor (aB)
variable {W W' w:World} {a:Option Addr} {n:Nat} {L V:List Int} {v:Value}
abbrev aTa (L:List Int):List Value:=L.map (Value.int .i32)
theorem aOc:(Tryz.prog.info? 21).map (fun i=>(i.zero,i.size,i.bytes))=some (some (.int .i32 0),1,4):=by kernel_rfl
structure Regs (W:World)(a:Option Addr)(n cap:Nat)(V:List Int):Prop where
 len:V.length=n
 le:n<=cap
 max:cap<=maxLen
 cell:n=0\/∃ b off,a=some ⟨b,off,none⟩/\b < W.heap.size/\∀ i,i < n->W.cell? ⟨b,off+i,none⟩=some (.int .i32 (V.getD i 0))
theorem Regs.later {cap:Nat}(h:Regs W a n cap V)(hb:Below W.heap.size W W'):Regs W' a n cap V:=by
 refine⟨h.len,h.le,h.max,?_⟩
 rcases h.cell with h0|⟨b,off,ha,hlt,hc⟩
 ·exact .inl h0
 ·exact .inr ⟨b,off,ha,Nat.lt_of_lt_of_le hlt hb.size,fun i hi=>(hb.cell (p:=⟨b,off+i,none⟩) hlt).trans (hc i hi)⟩
theorem Regs.at {cap:Nat}(h:Regs W a n cap V)(h0:0 < n):∃ b off,a=some ⟨b,off,none⟩/\b < W.heap.size/\∀ i,i < n->W.cell? ⟨b,off+i,none⟩=some (.int .i32 (V.getD i 0)):=by
 rcases h.cell with h|h
 ·omega
 ·exact h
theorem Regs.of_owns {base:Nat}(h:W.ownsRow base 21 1 v n (aTa V)):∃ a cap,v=.slice a n cap/\Regs W a n cap V/\(∀ x,a=some x->base<=x.block/\x.block < W.heap.size):=by
 have hl:V.length=n:=by have:=h.1;rw[List.length_map] at this;omega
 have hcs:=fun g hg=>h.cells (g:=g) hg
 have hlt:=h.lt
 rcases h.2 with⟨rfl,rfl⟩|⟨g,cap,cur,rfl,hb,hg,hnc,hcm,hsz,htake⟩
 ·exact⟨none,0,rfl,⟨hl,nLr _,nZl _,.inl rfl⟩,fun x hx=>by cases hx⟩
 ·refine⟨some ⟨g,0,none⟩,cap,rfl,⟨hl,hnc,hcm,.inr ⟨g,0,rfl,(hlt g rfl).2,fun i hi=>?_⟩⟩,fun x hx=>by cases hx;exact hlt g rfl⟩
  have:=hcs g rfl i (.int .i32 (V.getD i 0)) (by rw[gEm,gdE,gEg (by omega)];rfl)
  rw[Addr.add_lit] at this
  exact this
structure L32 (w W:World)(v:Value)(L:List Int):Prop where
 a:W.ownsRow w.heap.size 21 1 v L.length (aTa L)
 bel:Below w.heap.size w W
theorem L32.later (h:L32 w W v L)(hb:Below W.heap.size W W'):L32 w W' v L:=⟨Cde.bI h.a hb,h.bel.trans (hb.mono h.bel.size)⟩
theorem L32.regs (h:L32 w W v L):∃ a c,v=.slice a L.length c/\Regs W a L.length c L:=by
 obtain⟨a,c,e,hR,-⟩:=Regs.of_owns h.a
 exact⟨a,c,e,hR⟩
theorem aTm {ops:Array Oper}{rest:List Oper}{o:Oper}{a:Act}{Q:Exit->Act->World->Prop}
  (hgd:o.guard=none) (s x:Operand) (ho:o.op=.call { callee:=.builtin .append,args:=#[s,x],argTypes:=#[194,194] })
  (hs:a.eval s=v) (hen:L32 w W v L) (b:Nat) (p:Int) (hx:a.eval x=.slice (some ⟨b,0,none⟩) 1 1) (hc:aB W b 21 #[.int .i32 p]) (h3:L.length<=2000000)
  (h:∀ g cap w',L32 w w' (.slice (some ⟨g,0,none⟩) (L.length+1) cap) (L++[p])->wpList Tryz.prog ops Q rest (a.put o.dst (.slice (some ⟨g,0,none⟩) (L.length+1) cap)) w') :
  wpList Tryz.prog ops Q (o::rest) a W:=by
 obtain⟨i0',hi0,hz0,hz1,hz2⟩:=info_parts aOc
 refine wpList_append_lies W hgd s x 194 ho w.heap.size 21 i0' _ 1 4 Tryz.underlying194 hi0 hz0 hz1 hz2 rfl (by omega) v L.length (aTa L) hs hen.a ⟨b,0,none⟩ 1 1 [.int .i32 p] hx rfl (Cde.lN hc) (by simp[Value.oneCell']) (by omega) (by unfold maxLen;omega) (by omega) hen.bel.size W.heap.size rfl ?_
 intro g cap w' hown hgrow hat hlt
 refine h g cap w' ⟨by rw[lLa];simpa using hown,hen.bel.grown hgrow hen.bel.size (fun k hk=>(Cde.aR hen.a k hk).1)⟩
theorem aTv (n:Nat)(h:n<=1024)(w:World):∃ w',(Instr.makeSlice 194 (.i 0) (.i n)).run Tryz.prog w=.ok (.slice (some ⟨w.heap.size,0,none⟩) 0 n) w'/\L32 w w' (.slice (some ⟨w.heap.size,0,none⟩) 0 n) []:=by
 obtain⟨i0',hi0,hz0,hz1,hz2⟩:=info_parts aOc
 obtain⟨w',h1,h2,h3⟩:=run_make_own (P:=Tryz.prog) w w.heap.size 194 21 i0' _ 1 Tryz.underlying194 hi0 hz0 hz1 .i64 .i64 n (by rw[hz2];omega) (by unfold maxLen;omega) (nLr _)
 exact⟨w',h1,h2,(Below.refl _ _).grown h3 (nLr _) (fun k hk=>by cases hk)⟩
def RwP (w:World)(Z:Int × List Int)(e:Ending)(W':World):Prop :=
 ∃ a c,e=.returned (.tuple #[.slice a Z.2.length c,.i Z.1])/\W'.ownsRow w.heap.size 21 1 (.slice a Z.2.length c) Z.2.length (aTa Z.2)/\Below w.heap.size w W'
theorem RwP.no {er:Int}(hb:Below w.heap.size w W'):RwP w (er,[]) (.returned (.tuple #[.slice none 0 0,.i er])) W':=⟨_,_,rfl,⟨rfl,.inl ⟨rfl,rfl⟩⟩,hb⟩
structure Mc (V:World)(lo g:Nat)(f d:Int)(L:List In)(o:Int)(a:Option Addr)(n c:Nat):Prop where
 b:aB V g 198 (cd f d a n c o)
 s:V.ownsRow lo 132 6 (.slice a n c) n (dL L)
 lo:lo<=g
theorem Mc.later {V V':World}{lo g:Nat}{f d:Int}{L:List In}{o:Int}{c:Nat}(h:Mc V lo g f d L o a n c)(hb:Below V.heap.size V V'):Mc V' lo g f d L o a n c:=⟨h.b.below hb,Cde.bI h.s hb,h.lo⟩
theorem Mc.ins {V:World}{lo g:Nat}{f d:Int}{L:List In}{o:Int}{c:Nat}(h:Mc V lo g f d L o a n c):Ins V a n c L:=by
 obtain⟨a',c',e1,hI,-⟩:=Ins.of_owns h.s
 cases e1
 exact hI
def tr (b:Bool):Int:=if b=true then 1 else 0
theorem vQ {a b:Int}(h:a=b):Ending.returned (.int .i32 a)=.returned (.int .i32 b):=by rw[h]
theorem vV (b:Bool)(w:World):Calls Tryz.prog 353 #[.bool b] w fun e w'=>e=.returned (.int .i32 (tr b))/\w'=w:=by
 cases b
 ·go_enter Tryz.func353,Tryz.ntmps353
  go_wp2
  go_ret
  exact⟨rfl,rfl⟩
 ·go_enter Tryz.func353,Tryz.ntmps353
  go_wp2
  go_ret
  exact⟨rfl,rfl⟩
theorem aHj (f d k:Int)(v:Wd)(a:Option Addr)(n cap:Nat)(W:World) :
  Calls Tryz.prog 270 #[.agg (kd f d),.i k,.agg (dQ v a n cap)] W fun e W'=>e=.returned (.i (inpV f d v k))/\Below W.heap.size W W':=by
 have HL:=aA fun W=>Knd.mH f d W
 have HH:=aA fun W=>Knd.jW f d W
 have HO:=aA fun W=>Knd.kZ f d W
 have HB:=aA (bel (aD W (.cells (kd f d) 23)) (aD (W.alloc (.cells (kd f d) 23)) (.cells (dQ v a n cap) 26)))
 unfold inpV
 by_cases h0:k=0
 ·subst h0
  rw[if_pos rfl]
  go_enter Tryz.func270,Tryz.ntmps270
  go_wp2_with fail
  go_ret
  exact⟨rfl,HB.o⟩
 rw[if_neg h0]
 by_cases h1:k=1
 ·subst h1
  rw[if_pos rfl]
  go_enter Tryz.func270,Tryz.ntmps270
  go_wp2_with fail
  go_ret
  exact⟨rfl,HB.o⟩
 rw[if_neg h1]
 by_cases h2:k=2
 ·subst h2
  rw[if_pos rfl]
  go_enter Tryz.func270,Tryz.ntmps270
  go_wp2_with fail
  go_ret
  exact⟨rfl,HB.o⟩
 rw[if_neg h2]
 by_cases h3:k=3
 ·subst h3
  rw[if_pos rfl]
  go_enter Tryz.func270,Tryz.ntmps270
  go_wp2_with fail
  refine(HL.o _).mono ?_
  rintro e V1 ⟨rfl,hb⟩
  go_wp2_with fail
  go_ret
  exact⟨rfl,bel HB.o hb⟩
 rw[if_neg h3]
 by_cases h4:k=4
 ·subst h4
  rw[if_pos rfl]
  go_enter Tryz.func270,Tryz.ntmps270
  go_wp2_with fail
  refine(HH.o _).mono ?_
  rintro e V1 ⟨rfl,hb⟩
  go_wp2_with fail
  go_ret
  exact⟨rfl,bel HB.o hb⟩
 rw[if_neg h4]
 have q0:(k==0)=false:=by simpa using h0
 have q1:(k==1)=false:=by simpa using h1
 have q2:(k==2)=false:=by simpa using h2
 have q3:(k==3)=false:=by simpa using h3
 have q4:(k==4)=false:=by simpa using h4
 clear h0 h1 h2 h3 h4
 go_enter Tryz.func270,Tryz.ntmps270
 go_wp2_with fail
 refine(HO.o _).mono ?_
 rintro e V1 ⟨rfl,hb⟩
 go_wp2_with fail
 go_ret
 exact⟨rfl,bel HB.o hb⟩
end
section
open Go.RowKit Go.IntWalk Knd
open Cde (In i0 ia aJ)
open Vfy (w32)
open Spn (bK ex fT ar fC aK wd bY cons)
variable {a b op:Int}
theorem aBu (h:w32 a):BitVec.ofInt 64 a=(BitVec.ofInt 32 a).signExtend 64:=by
 obtain⟨h1,h2⟩:=h
 apply BitVec.eq_of_toInt_eq
 rw[BitVec.toInt_signExtend_of_le (by decide),BitVec.toInt_ofInt,BitVec.toInt_ofInt]
 simp only[Int.bmod]
 omega
theorem aRn (z:BitVec 32):IntKind.i32.wrap (z.toNat:Int)=z.toInt:=by
 have h1:=z.isLt
 rw[BitVec.toInt_eq_toNat_cond]
 simp[IntKind.wrap,IntKind.bits,IntKind.signed]
 split <;> omega
theorem aRo (z:BitVec 64):IntKind.i64.wrap (z.toNat:Int)=z.toInt:=by
 have h1:=z.isLt
 rw[BitVec.toInt_eq_toNat_cond]
 simp[IntKind.wrap,IntKind.bits,IntKind.signed]
 split <;> omega
theorem aMt (ha:w32 a)(hb:w32 b):bits .and .i32 a b=bits .and .i64 a b:=by
 show IntKind.i32.wrap ((BitVec.ofInt 32 a &&& BitVec.ofInt 32 b).toNat:Int)=IntKind.i64.wrap ((BitVec.ofInt 64 a &&& BitVec.ofInt 64 b).toNat:Int)
 rw[aRn,aRo,aBu ha,aBu hb,<-BitVec.signExtend_and,BitVec.toInt_signExtend_of_le (by decide)]
theorem bBi (ha:w32 a)(hb:w32 b):bits .or .i32 a b=bits .or .i64 a b:=by
 show IntKind.i32.wrap ((BitVec.ofInt 32 a ||| BitVec.ofInt 32 b).toNat:Int)=IntKind.i64.wrap ((BitVec.ofInt 64 a ||| BitVec.ofInt 64 b).toNat:Int)
 rw[aRn,aRo,aBu ha,aBu hb,<-BitVec.signExtend_or,BitVec.toInt_signExtend_of_le (by decide)]
theorem aZ1 (ha:w32 a)(hb:w32 b):bits .xor .i32 a b=bits .xor .i64 a b:=by
 show IntKind.i32.wrap ((BitVec.ofInt 32 a ^^^ BitVec.ofInt 32 b).toNat:Int)=IntKind.i64.wrap ((BitVec.ofInt 64 a ^^^ BitVec.ofInt 64 b).toNat:Int)
 rw[aRn,aRo,aBu ha,aBu hb,<-BitVec.signExtend_xor,BitVec.toInt_signExtend_of_le (by decide)]
theorem aZv {k s x:Int}{xs:List Int}(h:bK op k s xs=(x,0)):fT op k s xs=true/\ex op k s (xs.getD 0 0) (xs.getD 1 0) (xs.getD 2 0)=(x,0)/\w32 x:=by
 unfold bK at h
 split at h
 ·rename_i hm
  split at h
  ·rename_i h1
   split at h
   ·rename_i hw
    simp only[Prod.mk.injEq,and_true] at h
    exact⟨hm,Prod.ext h h1,by rw[<-h];exact bY.1 hw⟩
   ·simp at h
  ·rename_i h1
   simp only[Prod.mk.injEq] at h
   exact absurd h.2 h1
 ·simp at h
theorem aK7 {k s:Int}{xs:List Int}(h:fT op k s xs=true):(xs.length:Int)=ar op/\cons op k s=true/\∀ x ∈ xs,w32 x:=by
 simp only[fT,bAt,dEt,lAe] at h
 exact⟨h.1.1.2,h.1.2,fun x hx=>bY.1 (h.2 x hx)⟩
theorem aAu (op a b:Int)(w:World)(ho:fC op 18 23=true) :
  Calls Tryz.prog 323 #[.i op,.int .i32 a,.int .i32 b] w fun e w'=>e=.returned (.int .i32 (ex op 0 0 a b 0).1)/\w'=w:=by
 have h:=aK.1 ho
 clear ho
 rcases(show op=18\/op=19\/op=20\/op=21\/op=22\/op=23 by omega) with rfl|rfl|rfl|rfl|rfl|rfl <;>
 ·clear h
  go_enter Tryz.func323,Tryz.ntmps323
  go_wp2_with (go_at_call 353;refine(vV _ _).mono ?_;rintro e w' ⟨rfl,rfl⟩)
  go_ret
  exact⟨rfl,rfl⟩
def Two (op:Int):Prop:=∀(a b x:Int) (w:World),w32 a->w32 b->w32 x->ex op 0 0 a b 0=(x,0) ->
 Calls Tryz.prog 273 #[.i op,.int .i32 a,.int .i32 b] w fun e w'=>e=.returned (.int .i32 x)/\w'=w
theorem bB0:Two 8:=by
 rintro a b x w ⟨a1,a2⟩ ⟨b1,b2⟩ ⟨x1,x2⟩ h
 obtain rfl:a+b=x:=congrArg Prod.fst h
 clear h
 go_enter Tryz.func273,Tryz.ntmps273
 go_wp2
 go_ret
 exact⟨rfl,rfl⟩
theorem bB1:Two 9:=by
 rintro a b x w ⟨a1,a2⟩ ⟨b1,b2⟩ ⟨x1,x2⟩ h
 obtain rfl:a-b=x:=congrArg Prod.fst h
 clear h
 go_enter Tryz.func273,Tryz.ntmps273
 go_wp2
 go_ret
 exact⟨rfl,rfl⟩
theorem aZk:Two 10:=by
 rintro a b x w ⟨a1,a2⟩ ⟨b1,b2⟩ ⟨x1,x2⟩ h
 have hP:a*b=x:=congrArg Prod.fst h
 clear h
 go_enter Tryz.func273,Tryz.ntmps273
 go_wp2
 go_ret
 exact⟨rfl,rfl⟩
theorem aZl:Two 11:=by
 rintro a b x w ⟨a1,a2⟩ ⟨b1,b2⟩ ⟨x1,x2⟩ h
 have h0:b≠0:=by
  intro h0
  subst h0
  simp[ex] at h
 have hP:a.tdiv b=x:=by
  simp[ex,h0] at h
  exact h
 have h1:(b==0)=false:=by simpa using h0
 clear h
 go_enter Tryz.func273,Tryz.ntmps273
 go_wp2
 go_ret
 exact⟨rfl,rfl⟩
theorem aZm:Two 12:=by
 rintro a b x w ⟨a1,a2⟩ ⟨b1,b2⟩ ⟨x1,x2⟩ h
 have h0:b≠0:=by
  intro h0
  subst h0
  simp[ex] at h
 have hP:a.tmod b=x:=by
  simp[ex,h0] at h
  exact h
 have h1:(b==0)=false:=by simpa using h0
 clear h
 go_enter Tryz.func273,Tryz.ntmps273
 go_wp2
 go_ret
 exact⟨rfl,rfl⟩
theorem aZn:Two 13:=by
 rintro a b x w ⟨a1,a2⟩ ⟨b1,b2⟩ ⟨x1,x2⟩ h
 have h0:fC b 0 31=true:=by
  cases h0:fC b 0 31
  ·simp[ex,h0] at h
  ·rfl
 have hP:a*2 ^ b.toNat=x:=by
  simp[ex,h0] at h
  exact h
 obtain⟨c1,c2⟩:=aK.1 h0
 clear h h0
 go_enter Tryz.func273,Tryz.ntmps273
 go_wp2
 go_ret
 exact⟨rfl,rfl⟩
theorem aZo:Two 14:=by
 rintro a b x w ⟨a1,a2⟩ ⟨b1,b2⟩ ⟨x1,x2⟩ h
 have h0:fC b 0 31=true:=by
  cases h0:fC b 0 31
  ·simp[ex,h0] at h
  ·rfl
 have hP:a / 2 ^ b.toNat=x:=by
  simp[ex,h0] at h
  exact h
 obtain⟨c1,c2⟩:=aK.1 h0
 clear h h0
 go_enter Tryz.func273,Tryz.ntmps273
 go_wp2
 go_ret
 exact⟨rfl,rfl⟩
theorem aZp:Two 15:=by
 rintro a b x w ha hb hx h
 have hP:bits .and .i32 a b=x:=(aMt ha hb).trans (congrArg Prod.fst h)
 clear h ha hb hx
 go_enter Tryz.func273,Tryz.ntmps273
 go_wp2
 go_ret
 exact⟨rfl,rfl⟩
theorem aZq:Two 16:=by
 rintro a b x w ha hb hx h
 have hP:bits .or .i32 a b=x:=(bBi ha hb).trans (congrArg Prod.fst h)
 clear h ha hb hx
 go_enter Tryz.func273,Tryz.ntmps273
 go_wp2
 go_ret
 exact⟨rfl,rfl⟩
theorem aZr:Two 17:=by
 rintro a b x w ha hb hx h
 have hP:bits .xor .i32 a b=x:=(aZ1 ha hb).trans (congrArg Prod.fst h)
 clear h ha hb hx
 go_enter Tryz.func273,Tryz.ntmps273
 go_wp2
 go_ret
 exact⟨rfl,rfl⟩
theorem aVj (op:Int)(ho:op=18\/op=19\/op=20\/op=21\/op=22\/op=23):Two op:=by
 intro a b x w _ _ _ h
 have HC:=aA fun w=>aAu op a b w (Spn.aI3 (by omega) (by omega))
 rw[h] at HC
 clear h
 rcases ho with rfl|rfl|rfl|rfl|rfl|rfl <;>
 ·go_enter Tryz.func273,Tryz.ntmps273
  go_wp2_with (go_at_call 323;refine(HC.o _).mono ?_;rintro e w' ⟨rfl,rfl⟩)
  go_ret
  exact⟨rfl,rfl⟩
theorem aZs:Two 24:=by
 rintro a b x w ⟨a1,a2⟩ ⟨b1,b2⟩ ⟨x1,x2⟩ h
 have hP:min a b=x:=congrArg Prod.fst h
 clear h
 go_enter Tryz.func273,Tryz.ntmps273
 go_wp2
 all_goals go_ret
 all_goals exact⟨vQ (by omega),rfl⟩
theorem aZt:Two 25:=by
 rintro a b x w ⟨a1,a2⟩ ⟨b1,b2⟩ ⟨x1,x2⟩ h
 have hP:max a b=x:=congrArg Prod.fst h
 clear h
 go_enter Tryz.func273,Tryz.ntmps273
 go_wp2
 all_goals go_ret
 all_goals exact⟨vQ (by omega),rfl⟩
theorem aVi (h:fC op 8 25=true):Two op:=by
 have h:=aK.1 h
 rcases(show op=8\/op=9\/op=10\/op=11\/op=12\/op=13\/op=14\/op=15\/op=16\/op=17\/(op=18\/op=19\/op=20\/op=21\/op=22\/op=23)\/op=24\/op=25 by omega) with
  rfl|rfl|rfl|rfl|rfl|rfl|rfl|rfl|rfl|rfl|h1|rfl|rfl
 ·exact bB0
 ·exact bB1
 ·exact aZk
 ·exact aZl
 ·exact aZm
 ·exact aZn
 ·exact aZo
 ·exact aZp
 ·exact aZq
 ·exact aZr
 ·exact aVj op h1
 ·exact aZs
 ·exact aZt
theorem aId (op k s a b c x:Int)(w:World)(ho:fC op 26 28=true)(ha:w32 a)(hb:w32 b)(hc:w32 c)(hx:ex op k s a b c=(x,0)) :
  Calls Tryz.prog 272 #[.i op,.int .i32 a,.int .i32 b,.int .i32 c] w fun e w'=>e=.returned (.int .i32 x)/\w'=w:=by
 have h:=aK.1 ho
 clear ho
 obtain⟨a1,a2⟩:=ha
 obtain⟨b1,b2⟩:=hb
 obtain⟨c1,c2⟩:=hc
 rcases(show op=26\/op=27\/op=28 by omega) with rfl|rfl|rfl
 ·clear h
  have hP:min c (max a b)=x:=congrArg Prod.fst hx
  clear hx
  go_enter Tryz.func272,Tryz.ntmps272
  go_wp2
  all_goals go_ret
  all_goals exact⟨vQ (by omega),rfl⟩
 ·clear h
  have hP:max (min a b) (min (max a b) c)=x:=congrArg Prod.fst hx
  clear hx
  go_enter Tryz.func272,Tryz.ntmps272
  go_wp2
  all_goals go_ret
  all_goals exact⟨vQ (by omega),rfl⟩
 ·clear h
  by_cases h0:a=0
  ·subst h0
   obtain rfl:c=x:=by simpa [ex] using hx
   clear hx
   go_enter Tryz.func272,Tryz.ntmps272
   go_wp2
   go_ret
   exact⟨rfl,rfl⟩
  ·have h1:(a != 0)=true:=by simp[h0]
   obtain rfl:b=x:=by simpa [ex,h0] using hx
   clear hx h0
   go_enter Tryz.func272,Tryz.ntmps272
   go_wp2
   go_ret
   exact⟨rfl,rfl⟩
end
section
open Go.RowKit Go.IntWalk Knd
open Cde (In i0 ia aJ)
open Vfy (w32)
open Spn (bK ex fT ar fC aK wd bY cons)
theorem aGz (a b:Int)(w:World) :
  Calls Tryz.prog 321 #[.int .i32 a,.int .i32 b] w fun e w'=>e=.returned (.i (Spn.tr (decide (b < a))-Spn.tr (decide (a < b))))/\w'=w:=by
 go_enter Tryz.func321,Tryz.ntmps321
 go_wp2
 all_goals go_ret
 all_goals refine⟨aO ?_,rfl⟩
 all_goals simp[Spn.tr]
 all_goals omega
theorem aGl (a k s x:Int)(w:World)(ha:w32 a)(hk:1<=k/\k<=4611686018427387904)(hs:0<=s/\s<=62)(hx:w32 x)(h:ex 33 k s a 0 0=(x,0)) :
  Calls Tryz.prog 322 #[.int .i32 a,.i k,.i s] w fun e w'=>e=.returned (.int .i32 x)/\w'=w:=by
 have h2:¬4611686018427387904 < max a (-a)*k:=by
  intro h2
  simp[ex,h2] at h
 have h3:a*k / 2 ^ s.toNat=x:=by simpa [ex,h2] using h
 have h4:a*k<=max a (-a)*k:=Int.mul_le_mul_of_nonneg_right (by omega) (by omega)
 have h5:-a*k<=max a (-a)*k:=Int.mul_le_mul_of_nonneg_right (by omega) (by omega)
 rw[Int.neg_mul] at h5
 obtain⟨P,hP⟩:∃ P,a*k=P:=⟨_,rfl⟩
 rw[hP] at h3 h4 h5
 generalize max a (-a) * k=M at *
 have b1:-9223372036854775808<=P:=by omega
 have b2:P<=9223372036854775807:=by omega
 obtain⟨x1,x2⟩:=hx
 obtain⟨a1,a2⟩:=ha
 obtain⟨k1,k2⟩:=hk
 obtain⟨s1,s2⟩:=hs
 clear h h2 h4 h5
 go_enter Tryz.func322,Tryz.ntmps322
 go_wp2
 go_ret
 exact⟨rfl,rfl⟩
theorem aRk (n:In)(a x:Int)(w:World)(ho:ar n.op=1)(hc:cons n.op n.k n.s=true)(ha:w32 a)(hx:w32 x)(h:ex n.op n.k n.s a 0 0=(x,0)) :
  Calls Tryz.prog 271 #[.agg (ia n),.int .i32 a] w fun e w'=>e=.returned (.int .i32 x)/\Below w.heap.size w w':=by
 obtain⟨op,na,nb,nc,k,s⟩:=n
 dsimp only at ho hc h
 obtain⟨a1,a2⟩:=ha
 obtain⟨x1,x2⟩:=hx
 have HB:=aA (aD w (.cells (ia ⟨op,na,nb,nc,k,s⟩) 132))
 rcases Spn.nM ho with rfl|rfl|rfl|rfl|rfl|rfl|rfl|rfl <;> clear ho
 ·have hP:-a=x:=congrArg Prod.fst h
  clear h hc
  go_enter Tryz.func271,Tryz.ntmps271
  go_wp2
  go_ret
  exact⟨vQ (by omega),HB.o⟩
 ·have hP:max a (-a)=x:=congrArg Prod.fst h
  clear h hc
  go_enter Tryz.func271,Tryz.ntmps271
  go_wp2
  all_goals go_ret
  all_goals exact⟨vQ (by omega),HB.o⟩
 ·have hP:Spn.tr (decide (0 < a))-Spn.tr (decide (a < 0))=x:=congrArg Prod.fst h
  have HC:=aA fun w=>aGz a 0 w
  rw[hP] at HC
  clear h hc hP
  go_enter Tryz.func271,Tryz.ntmps271
  go_wp2_with (go_at_call 321;refine(HC.o _).mono ?_;rintro e w' ⟨rfl,rfl⟩)
  go_ret
  exact⟨rfl,HB.o⟩
 ·have hP:a*2 ^ k.toNat=x:=congrArg Prod.fst h
  have hk:fC k 0 31=true:=hc
  obtain⟨c1,c2⟩:=aK.1 hk
  clear h hc hk
  go_enter Tryz.func271,Tryz.ntmps271
  go_wp2
  go_ret
  exact⟨rfl,HB.o⟩
 ·have hP:a / 2 ^ k.toNat=x:=congrArg Prod.fst h
  have hk:fC k 0 31=true:=hc
  obtain⟨c1,c2⟩:=aK.1 hk
  clear h hc hk
  go_enter Tryz.func271,Tryz.ntmps271
  go_wp2
  go_ret
  exact⟨rfl,HB.o⟩
 ·have hk:fC k 0 2147483647=true:=hc
  obtain⟨c1,c2⟩:=aK.1 hk
  have hP:bits .and .i32 a k=x:=(aMt ⟨a1,a2⟩ ⟨by omega,c2⟩).trans (congrArg Prod.fst h)
  clear h hc hk
  go_enter Tryz.func271,Tryz.ntmps271
  go_wp2
  go_ret
  exact⟨rfl,HB.o⟩
 ·have hP:a*k=x:=congrArg Prod.fst h
  have hk:wd k=true:=hc
  obtain⟨c1,c2⟩:=bY.1 hk
  clear h hc hk
  go_enter Tryz.func271,Tryz.ntmps271
  go_wp2
  go_ret
  exact⟨rfl,HB.o⟩
 ·have hk:(fC k 1 4611686018427387904&&fC s 0 62)=true:=hc
  rw[bAt,aK,aK] at hk
  have HC:=aA fun w=>aGl a k s x w ⟨a1,a2⟩ hk.1 hk.2 ⟨x1,x2⟩ h
  clear h hc hk
  go_enter Tryz.func271,Tryz.ntmps271
  go_wp2_with (go_at_call 322;refine(HC.o _).mono ?_;rintro e w' ⟨rfl,rfl⟩)
  go_ret
  exact⟨rfl,HB.o⟩
end
section
open Go.RowKit Go.IntWalk Knd
open YticnbcfmbhjbgaaGreatDoor (Wd dQ Fits inpV)
open Cde (In i0 ia kd cd Ins sI aH aC aP aJ bE eH aF cZ gW dC mV)
open Vfy (w32)
open Spn (bK ex fT ar fC aK wd bY cons)
open YticnbcfmbhjbgaaGreatDoor (aB)
theorem yH {n:In}(h:Cde.nE n=true)(h3:n.op=3):0<=n.k/\n.k<=255:=by
 rw[Cde.nE,if_neg (by omega),if_neg (by omega),if_pos h3,bAt,aK] at h
 exact h.1
structure Sb (W V:World)(g:Nat)(cv nv wv:Array Value):Prop where
 m:aB V g 198 cv
 n:aB V W.heap.size 132 nv
 w:aB V (W.heap.size+1) 26 wv
 lo:Below W.heap.size W V
theorem Sb.new {W:World}{g:Nat}{cv:Array Value}(h:aB W g 198 cv)(nv wv:Array Value):Sb W ((W.alloc (.cells nv 132)).alloc (.cells wv 26)) g cv nv wv :=
 ⟨(h.alloc _).alloc _,(aB.new W 132 nv).alloc _,aJ W _ 26 wv,bel (aD _ _) (aD _ _)⟩
theorem Sb.name {W V:World}{g:Nat}{cv nv wv:Array Value}(h:Hid (Sb W V g cv nv wv)):∃ V2,V=V2:=⟨V,rfl⟩
theorem aL6 (f d out:Int)(m:In)(v:Wd){g:Nat}{a pa ra:Option Addr}{n cap pl pc rn rc:Nat}{V:List Int}{x:Int}{W:World}(hM:aB W g 198 (cd f d a n cap out))(hP:Ints W pa pl pc v.ps)(hV:Regs W ra rn rc V)
  (hF:Fits f d v) (ho:bE m rn=true) (hx:cZ f d v V m=(x,0)) (hw:w32 x) (hr:∀ i,i < rn->w32 (V.getD i 0)) :
  Calls Tryz.prog 195 #[.pointer (some ⟨g,0,none⟩),.agg (ia m),.agg (dQ v pa pl pc),.slice ra rn rc] W fun e W'=>e=.returned (.int .i32 x)/\Below W.heap.size W W':=by
 have HS:=aA (Sb.new hM (ia m) (dQ v pa pl pc))
 have hVl:=hV.len
 have HP2:=aA (hP.later HS.o.lo)
 have HV2:=aA (hV.later HS.o.lo)
 clear hM hP hV
 obtain⟨w1,w2⟩:=hw
 by_cases h1:m.op=1
 ·have hk:m.k=x:=by
   rw[cZ,if_pos h1] at hx
   exact congrArg Prod.fst hx
  have p1:(m.op==1)=true:=by simpa using h1
  clear hx h1
  go_enter Tryz.func195,Tryz.ntmps195
  go_wp2
  go_ret
  exact⟨rfl,HS.o.lo⟩
 have p1:(m.op==1)=false:=by simpa using h1
 by_cases h2:m.op=2
 ·have hk:inpV f d v m.k=x:=by
   rw[cZ,if_neg h1,if_pos h2] at hx
   exact congrArg Prod.fst hx
  have HI:=aA fun W=>aHj f d m.k v pa pl pc W
  rw[hk] at HI
  have p2:(m.op==2)=true:=by simpa using h2
  clear hx h1 h2 hk
  go_enter Tryz.func195,Tryz.ntmps195
  go_wp2_with fail
  obtain⟨W2,hW2⟩:∃ W2,(W.alloc (.cells (ia m) 132)).alloc (.cells (dQ v pa pl pc) 26)=W2:=⟨_,rfl⟩
  rw[hW2] at HS ⊢
  clear hW2
  obtain⟨m0,m1,m2,m3⟩:=aC HS.o.m
  obtain⟨y0,y1,y2,y3⟩:=aC HS.o.w
  obtain⟨f0,f1,f2,f3,f4,f5⟩:=aH HS.o.n
  have r0:=cell_regrown m0
  have r1:=cell_regrown m1
  have r2:=cell_regrown y0
  have r3:=cell_regrown y1
  have r4:=cell_regrown y2
  have r5:=cell_regrown y3
  have r6:=cell_regrown f4
  refine wp_region_quiet_below Cde.lL (by kernel_rfl) ?_
  repeat (go_big_quiet_step (fail))
  go_big_quiet_step ((go_at_call 270;exact Calls.regrown_of (HI.o _)))
  repeat (go_big_quiet_step (fail))
  refine wpQuiet_nil ?_
  intro V6 hw'
  obtain⟨⟨dq,osq⟩,hw''⟩:=hw'
  have hb:=below_regrown W2 dq osq
  simp only at hw''
  rw[<-hw''] at hb
  have HB:=aA (bel HS.o.lo hb)
  clear hw'' r0 r1 r2 r3 r4 r5 r6 hb
  go_wp2_with fail
  go_ret
  exact⟨rfl,HB.o⟩
 have p2:(m.op==2)=false:=by simpa using h2
 by_cases h3:m.op=3
 ·obtain⟨k0,k5⟩:=yH (Cde.qE ho) h3
  obtain⟨q,hq⟩:∃ q:Nat,m.k=(q:Int):=⟨m.k.toNat,by omega⟩
  rw[cZ,if_neg h1,if_neg h2,if_pos h3] at hx
  have hlp:=HP2.o.len
  have hfl:=Cde.aCn hF
  rw[hlp] at hfl
  have hkc:¬Knd.bX f d<=m.k:=fun h=>by rw[if_pos h] at hx;simp at hx
  rw[if_neg hkc,hq,iTn] at hx
  have hql:q < pl:=by omega
  have hx2:v.ps.getD q 0=x:=congrArg Prod.fst hx
  obtain⟨pb,po,rfl,-,hpat⟩:=HP2.o.at (by omega)
  have px:=hpat q hql
  rw[hx2] at px
  have p3:(m.op==3)=true:=by simpa using h3
  have i0:(0:Int)<=q:=by omega
  have i1:(q:Int) < pl:=by omega
  obtain⟨-,-,-,-,f4,-⟩:=aH HS.o.n
  rw[hq] at f4
  obtain⟨-,-,-,y3⟩:=aC HS.o.w
  clear hx hx2 hpat hfl hlp hkc k0 k5 h1 h2 h3
  go_enter Tryz.func195,Tryz.ntmps195
  go_wp2_with fail
  go_ret
  exact⟨rfl,HS.o.lo⟩
 have p3:(m.op==3)=false:=by simpa using h3
 have hv:bK m.op m.k m.s (gW V m)=(x,0):=by rw[cZ,if_neg h1,if_neg h2,if_neg h3] at hx;exact hx
 obtain⟨hmay,hex,-⟩:=aZv hv
 obtain⟨hlen,hc,-⟩:=aK7 hmay
 rw[Cde.fU] at hlen
 have HR:=aA fun j (hj:j < dC m)=>Cde.qF ho (j:=j) hj
 have HA:=aA fun j (hj:j < dC m)=>Cde.aB5 V m j hj
 have HG:=aA fun j (hj:j < rn)=>hr j hj
 have hr3:dC m<=3:=Cde.kX m
 have h1a:1<=ar m.op:=by
  simp only[fT,bAt,dEt] at hmay
  exact hmay.1.1.1
 clear hx hv hmay p1 p2 p3 h1 h2 h3 ho hr hF
 have h0r:0 < rn:=by have:=HR.o 0 (by omega);omega
 obtain⟨rb,ro,rfl,hrb,hat⟩:=HV2.o.at h0r
 rcases(show dC m=1\/dC m=2\/dC m=3 by omega) with e|e|e
 ·obtain⟨op,ma,mb,mc,k,s⟩:=m
  dsimp only at hlen hc hex h1a
  rw[e] at hlen HR HA
  obtain⟨g00,g01⟩:=HR.o 0 (by omega)
  change 0<=ma at g00
  change ma.toNat < rn at g01
  obtain⟨p,rfl⟩:∃ p:Nat,ma=(p:Int):=⟨ma.toNat,by omega⟩
  rw[iTn] at g01
  have t0:=hat p g01
  have b0:=HG.o p g01
  have e0:=HA.o 0 (by omega)
  rw[show (mV ⟨op,(p:Int),mb,mc,k,s⟩ 0).toNat=p from iTn _] at e0
  rw[e0] at hex
  rw[show (gW V ⟨op,(p:Int),mb,mc,k,s⟩).getD 1 0=0 from by rw[gdE,List.getElem?_eq_none (by rw[Cde.fU,e];omega)];rfl] at hex
  rw[show (gW V ⟨op,(p:Int),mb,mc,k,s⟩).getD 2 0=0 from by rw[gdE,List.getElem?_eq_none (by rw[Cde.fU,e];omega)];rfl] at hex
  generalize V.getD p 0=A at *
  have i0:(0:Int)<=p:=by omega
  have j0:(p:Int) < rn:=by omega
  have HO:=aA fun w=>aRk ⟨op,(p:Int),mb,mc,k,s⟩ A x w (by dsimp only;omega) hc b0 ⟨w1,w2⟩ hex
  have ho:=Spn.nM (show ar op=1 by omega)
  clear hlen hc hex h1a HR HA HG hr3 e hat h0r g00 g01 e0 b0
  rcases ho with rfl|rfl|rfl|rfl|rfl|rfl|rfl|rfl
  all_goals
   go_enter Tryz.func195,Tryz.ntmps195
   go_wp2_with fail
   obtain⟨W2,hW2⟩:=Sb.name HS
   rw[hW2] at HS ⊢
   rw[hW2] at t0
   clear hW2
   obtain⟨f0,f1,f2,f3,f4,f5⟩:=aH HS.o.n
   have r0:=cell_regrown f0
   have r1:=cell_regrown f1
   have r2:=cell_regrown f2
   have r3:=cell_regrown f3
   have r4:=cell_regrown f4
   have r5:=cell_regrown f5
   have y0:=cell_regrown t0
   refine wp_region_quiet_below Cde.lL (by kernel_rfl) ?_
   repeat (go_big_quiet_step (fail))
   go_big_quiet_step ((go_at_call 271;exact Calls.regrown_of (HO.o _)))
   repeat (go_big_quiet_step (fail))
   refine wpQuiet_nil ?_
   intro V6 hw'
   obtain⟨⟨dq,osq⟩,hw''⟩:=hw'
   have hb:=below_regrown W2 dq osq
   simp only at hw''
   rw[<-hw''] at hb
   have HB:=aA (bel HS.o.lo hb)
   clear hw'' r0 r1 r2 r3 r4 r5 y0 hb
   go_wp2_with fail
   go_ret
   exact⟨rfl,HB.o⟩
 ·obtain⟨op,ma,mb,mc,k,s⟩:=m
  dsimp only at hlen hc hex h1a
  rw[e] at hlen HR HA
  obtain⟨g00,g01⟩:=HR.o 0 (by omega)
  change 0<=ma at g00
  change ma.toNat < rn at g01
  obtain⟨p,rfl⟩:∃ p:Nat,ma=(p:Int):=⟨ma.toNat,by omega⟩
  rw[iTn] at g01
  have t0:=hat p g01
  have b0:=HG.o p g01
  have e0:=HA.o 0 (by omega)
  obtain⟨g10,g11⟩:=HR.o 1 (by omega)
  change 0<=mb at g10
  change mb.toNat < rn at g11
  obtain⟨q,rfl⟩:∃ q:Nat,mb=(q:Int):=⟨mb.toNat,by omega⟩
  rw[iTn] at g11
  have t1:=hat q g11
  have b1:=HG.o q g11
  have e1:=HA.o 1 (by omega)
  rw[show (mV ⟨op,(p:Int),(q:Int),mc,k,s⟩ 0).toNat=p from iTn _] at e0
  rw[e0] at hex
  rw[show (mV ⟨op,(p:Int),(q:Int),mc,k,s⟩ 1).toNat=q from iTn _] at e1
  rw[e1] at hex
  rw[show (gW V ⟨op,(p:Int),(q:Int),mc,k,s⟩).getD 2 0=0 from by rw[gdE,List.getElem?_eq_none (by rw[Cde.fU,e];omega)];rfl] at hex
  generalize V.getD p 0=A at *
  generalize V.getD q 0=B at *
  have i0:(0:Int)<=p:=by omega
  have j0:(p:Int) < rn:=by omega
  have i1:(0:Int)<=q:=by omega
  have j1:(q:Int) < rn:=by omega
  have HO:=aA fun w=>aVi (Spn.jT (show ar op=2 by omega)) A B x w b0 b1 ⟨w1,w2⟩ (by rw[<-Spn.aNr op k s A B 0 (Spn.jT (show ar op=2 by omega))];exact hex)
  have ho:=aK.1 (Spn.jT (show ar op=2 by omega))
  clear hlen hc hex h1a HR HA HG hr3 e hat h0r g00 g01 e0 b0 g10 g11 e1 b1
  rcases(show op=8\/op=9\/op=10\/op=11\/op=12\/op=13\/op=14\/op=15\/op=16\/op=17\/op=18\/op=19\/op=20\/op=21\/op=22\/op=23\/op=24\/op=25 by omega) with rfl|rfl|rfl|rfl|rfl|rfl|rfl|rfl|rfl|rfl|rfl|rfl|rfl|rfl|rfl|rfl|rfl|rfl
  all_goals
   clear ho
   go_enter Tryz.func195,Tryz.ntmps195
   go_wp2_with fail
   obtain⟨W2,hW2⟩:=Sb.name HS
   rw[hW2] at HS ⊢
   rw[hW2] at t0 t1
   clear hW2
   obtain⟨f0,f1,f2,f3,f4,f5⟩:=aH HS.o.n
   have r0:=cell_regrown f0
   have r1:=cell_regrown f1
   have r2:=cell_regrown f2
   have r3:=cell_regrown f3
   have r4:=cell_regrown f4
   have r5:=cell_regrown f5
   have y0:=cell_regrown t0
   have y1:=cell_regrown t1
   refine wp_region_quiet_below Cde.lL (by kernel_rfl) ?_
   repeat (go_big_quiet_step (fail))
   go_big_quiet_step ((go_at_call 273;exact Calls.regrown_of (Cde.aGe (HO.o _))))
   repeat (go_big_quiet_step (fail))
   refine wpQuiet_nil ?_
   intro V6 hw'
   obtain⟨⟨dq,osq⟩,hw''⟩:=hw'
   have hb:=below_regrown W2 dq osq
   simp only at hw''
   rw[<-hw''] at hb
   have HB:=aA (bel HS.o.lo hb)
   clear hw'' r0 r1 r2 r3 r4 r5 y0 y1 hb
   go_wp2_with fail
   go_ret
   exact⟨rfl,HB.o⟩
 ·obtain⟨op,ma,mb,mc,k,s⟩:=m
  dsimp only at hlen hc hex h1a
  rw[e] at hlen HR HA
  obtain⟨g00,g01⟩:=HR.o 0 (by omega)
  change 0<=ma at g00
  change ma.toNat < rn at g01
  obtain⟨p,rfl⟩:∃ p:Nat,ma=(p:Int):=⟨ma.toNat,by omega⟩
  rw[iTn] at g01
  have t0:=hat p g01
  have b0:=HG.o p g01
  have e0:=HA.o 0 (by omega)
  obtain⟨g10,g11⟩:=HR.o 1 (by omega)
  change 0<=mb at g10
  change mb.toNat < rn at g11
  obtain⟨q,rfl⟩:∃ q:Nat,mb=(q:Int):=⟨mb.toNat,by omega⟩
  rw[iTn] at g11
  have t1:=hat q g11
  have b1:=HG.o q g11
  have e1:=HA.o 1 (by omega)
  obtain⟨g20,g21⟩:=HR.o 2 (by omega)
  change 0<=mc at g20
  change mc.toNat < rn at g21
  obtain⟨u,rfl⟩:∃ u:Nat,mc=(u:Int):=⟨mc.toNat,by omega⟩
  rw[iTn] at g21
  have t2:=hat u g21
  have b2:=HG.o u g21
  have e2:=HA.o 2 (by omega)
  rw[show (mV ⟨op,(p:Int),(q:Int),(u:Int),k,s⟩ 0).toNat=p from iTn _] at e0
  rw[e0] at hex
  rw[show (mV ⟨op,(p:Int),(q:Int),(u:Int),k,s⟩ 1).toNat=q from iTn _] at e1
  rw[e1] at hex
  rw[show (mV ⟨op,(p:Int),(q:Int),(u:Int),k,s⟩ 2).toNat=u from iTn _] at e2
  rw[e2] at hex
  generalize V.getD p 0=A at *
  generalize V.getD q 0=B at *
  generalize V.getD u 0=C at *
  have i0:(0:Int)<=p:=by omega
  have j0:(p:Int) < rn:=by omega
  have i1:(0:Int)<=q:=by omega
  have j1:(q:Int) < rn:=by omega
  have i2:(0:Int)<=u:=by omega
  have j2:(u:Int) < rn:=by omega
  have HO:=aA fun w=>aId op k s A B C x w (Spn.iU (show ar op=3 by omega)) b0 b1 b2 hex
  have ho:=aK.1 (Spn.iU (show ar op=3 by omega))
  clear hlen hc hex h1a HR HA HG hr3 e hat h0r g00 g01 e0 b0 g10 g11 e1 b1 g20 g21 e2 b2
  rcases(show op=26\/op=27\/op=28 by omega) with rfl|rfl|rfl
  all_goals
   clear ho
   go_enter Tryz.func195,Tryz.ntmps195
   go_wp2_with fail
   obtain⟨W2,hW2⟩:=Sb.name HS
   rw[hW2] at HS ⊢
   rw[hW2] at t0 t1 t2
   clear hW2
   obtain⟨f0,f1,f2,f3,f4,f5⟩:=aH HS.o.n
   have r0:=cell_regrown f0
   have r1:=cell_regrown f1
   have r2:=cell_regrown f2
   have r3:=cell_regrown f3
   have r4:=cell_regrown f4
   have r5:=cell_regrown f5
   have y0:=cell_regrown t0
   have y1:=cell_regrown t1
   have y2:=cell_regrown t2
   refine wp_region_quiet_below Cde.lL (by kernel_rfl) ?_
   repeat (go_big_quiet_step (fail))
   go_big_quiet_step ((go_at_call 272;exact Calls.regrown_of (Cde.aGe (HO.o _))))
   repeat (go_big_quiet_step (fail))
   refine wpQuiet_nil ?_
   intro V6 hw'
   obtain⟨⟨dq,osq⟩,hw''⟩:=hw'
   have hb:=below_regrown W2 dq osq
   simp only at hw''
   rw[<-hw''] at hb
   have HB:=aA (bel HS.o.lo hb)
   clear hw'' r0 r1 r2 r3 r4 r5 y0 y1 y2 hb
   go_wp2_with fail
   go_ret
   exact⟨rfl,HB.o⟩
end
section
open Go.RowKit Go.IntWalk Knd
open YticnbcfmbhjbgaaGreatDoor (Wd dQ Fits inpV)
open Cde (In i0 ia kd cd Ins dL sI aH aC aP aJ bE eH dE aF aG cZ nA dZ tK fZ TwP aQ)
open Vfy (aW w32 qO aRj tC aI qN jY)
open YticnbcfmbhjbgaaGreatDoor (aB)
open Chn (run_in)
theorem aHx {f d out:Int}{L:List In}{v:Wd}(h:aW f d L out=0)(hF:Fits f d v){k:Nat}(hk:k < L.length){D:List Int}(hD:nA f d v (L.take k)=(0,D)) :
  D.length=k/\(∀ i,i < k->w32 (D.getD i 0))/\bE (L.getD k i0) k=true/\∃ x,cZ f d v D (L.getD k i0)=(x,0)/\w32 x/\nA f d v (L.take (k+1))=(0,D++[x]):=by
 obtain⟨D',h1,h2,h3⟩:=run_in h hF (Nat.le_of_lt hk)
 rw[hD] at h1
 cases h1
 obtain⟨E,g1,g2,g3⟩:=run_in h hF (show k+1<=L.length from hk)
 obtain⟨m,-,-,-,-,-⟩:=aI h
 obtain⟨-,-,-,-,-,hok⟩:=aQ m
 have e:=g1
 rw[aG i0 hk,dZ,hD,tK,if_pos rfl] at e
 by_cases hz:(cZ f d v D (L.getD k i0)).2=0
 ·rw[if_pos hz] at e
  have e2:D++[(cZ f d v D (L.getD k i0)).1]=E:=congrArg Prod.snd e
  refine⟨h2,h3,dE hok hk,(cZ f d v D (L.getD k i0)).1,Prod.ext rfl hz,?_,by rw[g1,<-e2]⟩
  have:=g3 k (by omega)
  rw[<-e2,gdE,gAr (by omega),h2,Nat.sub_self] at this
  exact this
 ·rw[if_neg hz] at e
  exact absurd (congrArg Prod.fst e) hz
theorem aO4 {f d out:Int}(v:Wd){lo g:Nat}{a pa:Option Addr}{n cap pl pc:Nat}{L:List In}{W:World}(hM:Mc W lo g f d L out a n cap)(hP:Ints W pa pl pc v.ps)(h:aW f d L out=0) :
  Calls Tryz.prog 118 #[.pointer (some ⟨g,0,none⟩),.agg (dQ v pa pl pc)] W (RwP W (fZ f d v L out)):=by
 have hb1:=aD W (.cells (dQ v pa pl pc) 26)
 have HM0:=aA (hM.later hb1)
 have HW0:=aA (aB.new W 26 (dQ v pa pl pc))
 have HB0:=aA hb1
 have HPI:=aA hP
 have HLn:=aA hM.ins.len
 have HF:=aA fun w h=>yM f d v.x v.y v.c pa pl pc v.ps w h
 obtain⟨mc,-⟩:=aI h
 obtain⟨-,m1,m2,-,-,-⟩:=aQ mc
 rw[HLn.o] at m1 m2
 clear hb1 hM hP
 rcases YticnbcfmbhjbgaaGreatDoor.dX f d v with⟨hF,h1⟩|⟨hF,h1⟩
 ·rw[h1] at HF
  rw[show fZ f d v L out=nA f d v L by rw[fZ,if_pos mc,if_pos hF]]
  have HAt:=aA fun(k:Nat) (hk:k < L.length) (D:List Int) hD=>aHx h hF hk (D:=D) hD
  have HFt:=aA hF
  have hmk:=fun w=>aTv n (by omega) w
  clear mc h h1 hF
  go_enter Tryz.func118,Tryz.ntmps118
  go_wp2_with fail
  obtain⟨W1,hW1⟩:∃ W1,W.alloc (.cells (dQ v pa pl pc) 26)=W1:=⟨_,rfl⟩
  rw[hW1] at HM0 HW0 HB0 ⊢
  clear hW1
  obtain⟨c0,c1,c2,c3⟩:=aC HM0.o.b
  obtain⟨y0,y1,y2,y3⟩:=aC HW0.o
  have r0:=cell_regrown c0
  have r1:=cell_regrown c1
  have r2:=cell_regrown y0
  have r3:=cell_regrown y1
  have r4:=cell_regrown y2
  have r5:=cell_regrown y3
  have HFi:=aA fun(V:World) (hb:Below W1.heap.size W1 V)=>HF.o V (HPI.o.later (bel HB0.o hb))
  refine wp_region_quiet_below Cde.lL (by kernel_rfl) ?_
  repeat (go_big_quiet_step (fail))
  go_big_quiet_step ((go_at_call 114;exact Calls.regrown_of (HFi.o _ (below_regrown _ _ _))))
  repeat (go_big_quiet_step (fail))
  refine wpQuiet_nil ?_
  intro V1 hw'
  obtain⟨⟨dq,osq⟩,hw''⟩:=hw'
  have hb:=below_regrown W1 dq osq
  simp only at hw''
  rw[<-hw''] at hb
  have HM1:=aA (HM0.o.later hb)
  have HW1:=aA (HW0.o.below hb)
  have HB1:=aA (bel HB0.o hb)
  clear hw'' hb r0 r1 r2 r3 r4 r5 c0 c1 c2 c3 y0 y1 y2 y3 HFi HM0 HW0 HB0 HF
  obtain⟨c0,c1,c2,c3⟩:=aC HM1.o.b
  obtain⟨V2,hmk2,hL2⟩:=hmk V1
  have HM2:=aA (HM1.o.later hL2.bel)
  have HW2:=aA (HW1.o.below hL2.bel)
  have HB2:=aA (bel HB1.o hL2.bel)
  have HL2:=aA hL2
  have HS2:=aA (show W.heap.size<=V1.heap.size from HB1.o.size)
  obtain⟨-,-,q2,-⟩:=aC HM2.o.b
  clear hmk hL2
  go_wp2_with fail
  clear hmk2 c0 c1 c2 c3 q2
  go_loopw [7,35] (fun vv i wr=>∃(k:Nat) (D:List Int),k<=n/\i=.i k/\Hid (nA f d v (L.take k)=(0,D))/\Hid (D.length=k)/\Hid (L32 V1 wr vv D)) (fun _ i _=>n-(intOf i).toNat)
  case atStart=>exact⟨0,[],nZl _,rfl,aA rfl,aA rfl,HL2⟩
  case round =>
   obtain⟨k,D,hk,rfl,HD,HDl,HE⟩:=hrel
   rename World=>V
   have HMv:=aA (HM1.o.later HE.o.bel)
   have HWv:=aA (HW1.o.below HE.o.bel)
   have HBv:=aA (bel HB1.o HE.o.bel)
   clear HM2 HW2 HB2 HL2
   by_cases hlt:k < n
   ·obtain⟨b,off,rfl,-,hat⟩:=HMv.o.ins.at (by omega)
    obtain⟨e0,e1,e2,e3,e4,e5⟩:=hat k hlt
    obtain⟨ra,rc,rfl,hR⟩:=HE.o.regs
    rw[HDl.o] at hR
    obtain⟨-,h32,hok,x,hx,hwx,hS⟩:=HAt.o k (by rw[HLn.o];exact hlt) D HD.o
    have hi0:(0:Int)<=k:=by omega
    have hi1:(k:Int) < n:=by omega
    generalize L.getD k i0=m at *
    have hb:=aD V (.cells (ia m) 132)
    have HM5:=aA (HMv.o.later hb)
    have HW5:=aA (HWv.o.below hb)
    have HE5:=aA (HE.o.later hb)
    have HB5:=aA (bel HBv.o hb)
    have HSt:=aA (aL6 f d out m v HM5.o.b (HPI.o.later HB5.o) (hR.later hb) HFt.o hok hx hwx h32)
    have HS:=aA hS
    have HJ:Hid (D.length<=2000000):=aA (by rw[HDl.o];omega)
    obtain⟨y0,y1,y2,y3⟩:=aC HWv.o
    have hz1:=HWv.o.lt
    rw[HDl.o]
    clear hb hat hR h32 hok hx hwx hS
    go_wp2_with fail
    refine HSt.o.mono ?_
    rintro e V6 ⟨rfl,hb⟩
    have HE6:=aA (HE5.o.later hb)
    clear hb e0 e1 e2 e3 e4 e5 y0 y1 y2 y3 HSt
    go_wp2_with (at_builtin;refine aTm (w:=V1) (L:=D) rfl _ _ rfl (by rw[HDl.o];rfl) (HE6.o.later (aD _ _)) _ x rfl (aB.new _ _ _) HJ.o ?_;intro g2 cap2 w2 HE2;rw[HDl.o] at HE2 ⊢)
    go_roundw
    case rel=>exact⟨k+1,D++[x],by omega,by go_num,HS,aA (by simp[HDl.o]),aA HE2⟩
    case measure=>simp[intOf];omega
   ·obtain rfl:k=n:=by omega
    have hD:=HD.o
    rw[lTl (by rw[HLn.o];exact nLr _)] at hD
    have HD2:=aA hD
    obtain⟨ra,rc,rfl,-⟩:=HE.o.regs
    clear hD
    go_wp2_with fail
    exact bPr (v:=.tuple #[.slice ra D.length rc,.i 0]) (by simp[results,Tryz.results118,go_sem]) rfl (by rw[HD2.o];exact⟨ra,rc,rfl,Cde.bS HE.o.a HS2.o,HBv.o⟩)
 ·rw[h1] at HF
  rw[show fZ f d v L out=(1,[]) by rw[fZ,if_pos mc,if_neg hF]]
  clear mc h h1 hF
  go_enter Tryz.func118,Tryz.ntmps118
  go_wp2_with fail
  obtain⟨W1,hW1⟩:∃ W1,W.alloc (.cells (dQ v pa pl pc) 26)=W1:=⟨_,rfl⟩
  rw[hW1] at HM0 HW0 HB0 ⊢
  clear hW1
  obtain⟨c0,c1,c2,c3⟩:=aC HM0.o.b
  obtain⟨y0,y1,y2,y3⟩:=aC HW0.o
  have r0:=cell_regrown c0
  have r1:=cell_regrown c1
  have r2:=cell_regrown y0
  have r3:=cell_regrown y1
  have r4:=cell_regrown y2
  have r5:=cell_regrown y3
  have HFi:=aA fun(V:World) (hb:Below W1.heap.size W1 V)=>HF.o V (HPI.o.later (bel HB0.o hb))
  refine wp_region_quiet_below Cde.lL (by kernel_rfl) ?_
  repeat (go_big_quiet_step (fail))
  go_big_quiet_step ((go_at_call 114;exact Calls.regrown_of (HFi.o _ (below_regrown _ _ _))))
  repeat (go_big_quiet_step (fail))
  refine wpQuiet_nil ?_
  intro V1 hw'
  obtain⟨⟨dq,osq⟩,hw''⟩:=hw'
  have hb:=below_regrown W1 dq osq
  simp only at hw''
  rw[<-hw''] at hb
  have HB1:=aA (bel HB0.o hb)
  clear hw'' hb r0 r1 r2 r3 r4 r5 c0 c1 c2 c3 y0 y1 y2 y3 HFi HM0 HW0 HB0 HF
  go_wp2_with fail
  exact bPr (v:=.tuple #[.slice none 0 0,.i 1]) (by simp[results,Tryz.results118,go_sem]) rfl (RwP.no HB1.o)
end
section
open Go.RowKit Go.IntWalk Knd
open Cde (In Ins dL ia i0)

end
open Go.RowKit Go.IntWalk Knd
open YticnbcfmbhjbgaaGreatDoor (Wd dQ Fits inpV)
open Cde (In i0 ia kd cd Ins dL sI aH aC aP aJ bE zA gZ aJq aG cZ nA fZ TwP aQ)
open Vfy (aW rM pJ w32 aI qN jY tC)
open YticnbcfmbhjbgaaGreatDoor (aB)
open Chn (run_in)
open Fld (fE)
def rnX (Z:Int × List Int)(o:Int):Int:=if Z.1=0 then Z.2.getD o.toNat 0 else 0
def rnN (Z:Int × List Int):Int:=if Z.1=0 then Z.2.length else 0
def rT (Z:Int × List Int)(o:Int):Value:=.tuple #[.i (rnX Z o),.i (rnN Z),.i Z.1]
theorem aDm {f d out:Int}{L:List In}(h:aW f d L out=0)(v:Wd):(Fits f d v/\∃ D,fZ f d v L out=(0,D)/\D.length=L.length/\(∀ i,i < L.length->w32 (D.getD i 0))/\0<=out/\out < L.length)\/(¬Fits f d v/\fZ f d v L out=(1,[])):=by
 by_cases hF:Fits f d v
 ·refine .inl ⟨hF,?_⟩
  obtain⟨D,h1,h2,h3⟩:=run_in h hF (nLr _)
  rw[lTg] at h1
  obtain⟨m,-⟩:=aI h
  obtain⟨-,-,-,m3,m4,-⟩:=aQ m
  exact⟨D,by rw[fZ,if_pos m,if_pos hF,h1],h2,h3,m3,m4⟩
 ·exact .inr ⟨hF,jY h hF⟩
theorem zL {f d out:Int}(v:Wd){lo g:Nat}{a pa:Option Addr}{n cap pl pc:Nat}{L:List In}{W:World}(hM:Mc W lo g f d L out a n cap)(hP:Ints W pa pl pc v.ps)(h:aW f d L out=0) :
  Calls Tryz.prog 60 #[.pointer (some ⟨g,0,none⟩),.agg (dQ v pa pl pc)] W fun e W'=>e=.returned (rT (fZ f d v L out) out)/\Below W.heap.size W W':=by
 have hb1:=aD W (.cells (dQ v pa pl pc) 26)
 have HM0:=aA (hM.later hb1)
 have HR:=aA (aO4 v (hM.later hb1) (hP.later hb1) h)
 have HB0:=aA hb1
 have h2:=aDm h v
 rw[hM.ins.len] at h2
 clear hb1 hM hP h
 rcases h2 with⟨hF,D,h1,h2,h3,h4,h5⟩|⟨hF,h1⟩
 ·rw[h1] at HR ⊢
  obtain⟨q,rfl⟩:∃ q:Nat,out=q:=⟨out.toNat,by omega⟩
  have hv:rT (0,D) q=.tuple #[.i (D.getD q 0),.i n,.i 0]:=by simp[rT,rnX,rnN,h2]
  rw[hv]
  obtain⟨x,hx⟩:∃ x,D.getD q 0=x:=⟨_,rfl⟩
  obtain⟨x1,x2⟩:=h3 q (by omega)
  rw[hx] at x1 x2 ⊢
  have HX:=aA hx
  have HDl:=aA h2
  clear hF h1 h2 h3 hv hx h4
  go_enter Tryz.func60,Tryz.ntmps60
  go_wp2_with fail
  refine HR.o.mono ?_
  rintro e V1 ⟨ra,rc,rfl,hO,hb⟩
  have HM1:=aA (HM0.o.later hb)
  have HB1:=aA (bel HB0.o hb)
  obtain⟨a',c',e',hI,-⟩:=Regs.of_owns hO
  cases e'
  dsimp only at hI ⊢
  rw[HDl.o] at hI ⊢
  obtain⟨rb,ro,rfl,-,hat⟩:=hI.at (by omega)
  have px:=hat q (by omega)
  rw[HX.o] at px
  obtain⟨-,-,-,c3⟩:=aC HM1.o.b
  have i0:(0:Int)<=q:=by omega
  clear hb hO hI hat HR HM0 HB0
  go_wp2_with fail
  exact bPr (v:=.tuple #[.i x,.i n,.i 0]) (by simp[results,Tryz.results60,go_sem]) rfl ⟨rfl,HB1.o⟩
 ·rw[h1] at HR ⊢
  clear hF h1
  go_enter Tryz.func60,Tryz.ntmps60
  go_wp2_with fail
  refine HR.o.mono ?_
  rintro e V1 ⟨ra,rc,rfl,-,hb⟩
  have HB1:=aA (bel HB0.o hb)
  clear hb HR HM0 HB0
  go_wp2_with fail
  exact bPr (v:=.tuple #[.i 0,.i 0,.i 1]) (by simp[results,Tryz.results60,go_sem]) rfl ⟨rfl,HB1.o⟩
def NwP (w:World)(f d:Int)(L:List In)(out:Int)(e:Ending)(W':World):Prop :=
 Below w.heap.size w W'/\((aW f d L out≠0/\e=.returned (.tuple #[.pointer none,.i (aW f d L out)]))\/(aW f d L out=0/\∃ g a n c,e=.returned (.tuple #[.pointer (some ⟨g,0,none⟩),.i 0])/\Mc W' w.heap.size g f d L out a n c))
theorem aE7 (f d out:Int){a:Option Addr}{n cap:Nat}{L:List In}{W:World}(hL:Ins W a n cap L) :
  Calls Tryz.prog 78 #[.agg (cd f d a n cap out)] W (NwP W f d L out):=by
 have hb1:=aD W (.cells (cd f d a n cap out) 33)
 have HC0:=aA (aB.new W 33 (cd f d a n cap out))
 have HV:=aA (Vfy.dR f d out (hL.later hb1))
 have HB0:=aA hb1
 have HLI:=aA hL
 clear hb1
 by_cases h0:aW f d L out=0
 ·obtain⟨mc,-⟩:=aI h0
  obtain⟨-,m1,m2,-,-,-⟩:=aQ mc
  rw[hL.len] at m1 m2
  unfold Vfy.VfP at HV
  rw[h0] at HV
  have H0:=aA h0
  generalize rM f d L out=vm at *
  generalize pJ f d L out=vc at *
  generalize Vfy.sD f d L out=vs at *
  clear mc h0 hL
  go_enter Tryz.func78,Tryz.ntmps78
  go_wp2_with fail
  refine HV.o.mono ?_
  rintro e V1 ⟨ga,gc,rfl,hS,hb,-,-⟩
  have hb2:=bel hb (aD V1 (.cells #[.slice ga vm gc,.i vc,.i 0] 55))
  have HC1:=aA (HC0.o.below hb2)
  have HB1:=aA (bel HB0.o hb2)
  have HCl:=aA (fE (HLI.o.later HB1.o) (by omega) (by omega))
  obtain⟨c0,c1,c2,c3⟩:=aC (HC0.o.below hb)
  have hz:=(HC0.o.below hb).lt
  clear hb hb2 hS HV HC0 HB0
  go_wp2_with fail
  refine HCl.o.mono ?_
  rintro e V2 ⟨a2,k2,rfl,hO,hb⟩
  have HC2:=HC1.o.below hb
  have hne:Value.ownBlock (.slice a2 n k2)≠some W.heap.size:=fun hk=>by
   have:=(hO.lt _ hk).1
   have:=HC1.o.lt
   omega
  have HO2:=aA (Cde.bS (ownsRow_setCell_other hO (a:=⟨W.heap.size,2,none⟩) hne (.slice a2 n k2)) HB1.o.size)
  have HC3:=aA (HC2.set 2 (.slice a2 n k2))
  have HB3:=aA ((bel HB1.o hb).setCell (p:=⟨W.heap.size,2,none⟩) (nLr _) (.slice a2 n k2))
  obtain⟨c0,c1,c2',c3⟩:=aC HC2
  have z2:=HC2.frozen 2
  have hz2:=HC2.lt
  obtain⟨d0,d1,d2,d3⟩:=aC HC3.o
  clear hb hO hne HC2
  go_wp2_with fail
  have hb4:=aD (V2.setCell ⟨W.heap.size,2,none⟩ (.slice a2 n k2)) (.cells (cd f d a2 n k2 out) 198)
  have hn:=aB.new (V2.setCell ⟨W.heap.size,2,none⟩ (.slice a2 n k2)) 198 (cd f d a2 n k2 out)
  rw[World.size_setCell] at hn
  have hlo:W.heap.size<=V2.heap.size:=by have:=HB3.o.size;rwa[World.size_setCell] at this
  exact bPr (v:=.tuple #[.pointer (some ⟨V2.heap.size,0,none⟩),.i 0]) (by simp[results,Tryz.results78,go_sem]) rfl ⟨bel HB3.o hb4,.inr ⟨H0.o,_,_,_,_,rfl,⟨hn,Cde.bI HO2.o hb4,hlo⟩⟩⟩
 ·unfold Vfy.VfP at HV
  obtain⟨er,her⟩:∃ er,aW f d L out=er:=⟨_,rfl⟩
  have HE:Hid (∀ e W',Below W.heap.size W W'->e=.returned (.tuple #[.pointer none,.i er])->NwP W f d L out e W'):=aA fun e W' hb he=>⟨hb,.inl ⟨h0,by rw[her];exact he⟩⟩
  have hr:(er != 0)=true:=by rw[<-her];simpa using h0
  rw[her] at HV
  generalize rM f d L out=vm at *
  generalize pJ f d L out=vc at *
  generalize Vfy.sD f d L out=vs at *
  clear h0 her hL
  go_enter Tryz.func78,Tryz.ntmps78
  go_wp2_with fail
  refine HV.o.mono ?_
  rintro e V1 ⟨ga,gc,rfl,hS,hb,-,-⟩
  have HB1:=aA (bel HB0.o (bel hb (aD V1 (.cells #[.slice ga vm gc,.i vc,.i 0] 55))))
  clear hb hS HV HC0 HB0
  go_wp2_with fail
  exact bPr (v:=.tuple #[.pointer none,.i er]) (by simp[results,Tryz.results78,go_sem]) rfl (HE.o _ _ HB1.o rfl)
end Go.Proofs.Vmm
