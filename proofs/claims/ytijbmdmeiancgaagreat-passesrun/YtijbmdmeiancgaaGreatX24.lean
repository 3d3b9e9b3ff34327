import Derived.Test.YtijbmdmeiancgaaGreatXH
import Derived.Deep.AppendLies
import Derived.Lib.SliceRun
import Derived.Deep.CutRange
import Derived.Test.YtijbmdmeiancgaaGreatX23
import Derived.Test.YtijbmdmeiancgaaGreatX22
import Derived.Test.YtijbmdmeiancgaaGreatX20
set_option maxRecDepth 100000
set_option maxHeartbeats 32000000
set_option linter.unusedVariables false
namespace Go.Proofs.Fld
open Go.RowKit Go.IntWalk Knd
open Cde (In i0 ia kd cd Ins kM aJ aG bB aL bJ eO aD bG i6 zA aM)
variable {L M:List In} {V W w w':World} {b base c n size:Nat} {mv tv v:Value} {a:Option Addr} {e t:TypeId} {xs:List Value} {cs cv:Array Value} {T:List Int}
theorem aNn (f d:Int)(m:In){va:Option Addr}{vn vc:Nat}(hM:Ins W va vn vc M)(ho:bJ m vn=true) :
  Calls Tryz.prog 133 #[.slice va vn vc,.agg (kd f d),.agg (ia m)] W fun e W'=>e=.returned (.tuple #[.int .i64 (pQ f d M m).1,.bool (pQ f d M m).2])/\Below W.heap.size W W':=by
 have hb2:=bel (aH W (.cells (kd f d) 23)) (aH (W.alloc (.cells (kd f d) 23)) (.cells (ia m) 57))
 have HB:=aC hb2
 have HM:=aC (hM.later hb2)
 have HN:=aC (aL W (.cells (kd f d) 23) 57 (ia m))
 have HBn:=aC fun V=>aCc f d m V
 have HRk:=aC fun V (h:Ins V va vn vc M)=>aMu m h ho
 have HSe:=aC fun V (h:Ins V va vn vc M)=>aM5 m h ho
 unfold pQ
 generalize bnZ f d m=X at *
 generalize xQ M m=Y at *
 generalize qV M m=Z at *
 obtain⟨X1,X2⟩:=X
 obtain⟨Y1,Y2⟩:=Y
 obtain⟨Z1,Z2⟩:=Z
 clear hM ho hb2
 dsimp only at *
 cases X2
 ·rw[if_neg (by decide)]
  cases Y2
  ·rw[if_neg (by decide)]
   go_enter Tryz.func133,Tryz.ntmps133
   go_wp2_with fail
   refine(HBn.o _).mono ?_
   rintro e V1 ⟨rfl,hb⟩
   have HB1:=aC (bel HB.o hb)
   have HM1:=aC (HM.o.later hb)
   have HN1:=aC (HN.o.below hb)
   obtain⟨e0,e1,e2,e3,e4,e5⟩:=aJ HN1.o
   clear hb
   go_wp2_with fail
   refine(HRk.o _ HM1.o).mono ?_
   rintro e V2 ⟨rfl,hb⟩
   have HB2:=aC (bel HB1.o hb)
   have HM2:=aC (HM1.o.later hb)
   have HN2:=aC (HN1.o.below hb)
   clear hb e0 e1 e2 e3 e4 e5
   obtain⟨e0,e1,e2,e3,e4,e5⟩:=aJ HN2.o
   go_wp2_with fail
   refine(HSe.o _ HM2.o).mono ?_
   rintro e V3 ⟨rfl,hb⟩
   have HB3:=aC (bel HB2.o hb)
   clear hb e0 e1 e2 e3 e4 e5
   go_wp2_with fail
   exact bodyPost_ret (v:=.tuple #[.int .i64 Z1,.bool Z2]) (by simp[results,Tryz.results133,go_sem]) rfl ⟨rfl,HB3.o⟩
  ·rw[if_pos rfl]
   go_enter Tryz.func133,Tryz.ntmps133
   go_wp2_with fail
   refine(HBn.o _).mono ?_
   rintro e V1 ⟨rfl,hb⟩
   have HB1:=aC (bel HB.o hb)
   have HM1:=aC (HM.o.later hb)
   have HN1:=aC (HN.o.below hb)
   obtain⟨e0,e1,e2,e3,e4,e5⟩:=aJ HN1.o
   clear hb
   go_wp2_with fail
   refine(HRk.o _ HM1.o).mono ?_
   rintro e V2 ⟨rfl,hb⟩
   have HB2:=aC (bel HB1.o hb)
   clear hb e0 e1 e2 e3 e4 e5
   go_wp2_with fail
   exact bodyPost_ret (v:=.tuple #[.int .i64 Y1,.bool true]) (by simp[results,Tryz.results133,go_sem]) rfl ⟨rfl,HB2.o⟩
 ·rw[if_pos rfl]
  go_enter Tryz.func133,Tryz.ntmps133
  go_wp2_with fail
  refine(HBn.o _).mono ?_
  rintro e V1 ⟨rfl,hb⟩
  have HB1:=aC (bel HB.o hb)
  clear hb
  go_wp2_with fail
  exact bodyPost_ret (v:=.tuple #[.int .i64 X1,.bool true]) (by simp[results,Tryz.results133,go_sem]) rfl ⟨rfl,HB1.o⟩
theorem iK:(Tryz.prog.info? 57).map (fun i=>(i.zero,i.size,i.bytes))=some (some (.agg (ia i0)),6,48):=by kernel_rfl
theorem jH {n:In}(h:aI W b 57 (ia n)):∀ j u,(i6 n)[j]?=some u->W.cell? ((⟨b,0,none⟩:Addr).add j)=some u:=by
 intro j u hu
 rw[Addr.add_lit,Nat.zero_add]
 exact h.cell j (by rw[<-hu];simp[ia,i6])
theorem fT {ops:Array Oper}{rest:List Oper}{o:Oper}{a:Act}{Q:Exit->Act->World->Prop}
  (hgd:o.guard=none) (s x:Operand) (ho:o.op=.call { callee:=.builtin .append,args:=#[s,x],argTypes:=#[140,140] })
  (hs:a.eval s=v) (hen:V.ownsRow base 57 6 v L.length (bG L)) (hbase:base<=V.heap.size) (b:Nat) (n:In) (hx:a.eval x=.slice (some ⟨b,0,none⟩) 1 1) (hc:aI V b 57 (ia n)) (h3:L.length<=2000000)
  (h:∀ g cap w',w'.ownsRow base 57 6 (.slice (some ⟨g,0,none⟩) (L.length+1) cap) (L++[n]).length (bG (L++[n]))->V.grownBy w' v.ownBlock->wpList Tryz.prog ops Q rest (a.put o.dst (.slice (some ⟨g,0,none⟩) (L.length+1) cap)) w') :
  wpList Tryz.prog ops Q (o::rest) a V:=by
 obtain⟨i0',hi0,hz0,hz1,hz2⟩:=Spn.info_parts iK
 refine wpList_append_lies V hgd s x 140 ho base 57 i0' _ 6 48 Tryz.underlying140 hi0 hz0 hz1 hz2 rfl (by omega) v L.length (bG L) hs hen ⟨b,0,none⟩ 1 1 (i6 n) hx rfl (jH hc) (by simp[Value.oneCell',i6]) (by omega) (by unfold maxLen;omega) (by omega) hbase V.heap.size rfl ?_
 intro g cap w' hown hgrow hat hlt
 refine h g cap w' ?_ hgrow
 rw[Cde.iO,List.length_append]
 exact hown
theorem bP {L:List Int}{ops:Array Oper}{rest:List Oper}{o:Oper}{a:Act}{Q:Exit->Act->World->Prop}
  (hgd:o.guard=none) (s x:Operand) (ho:o.op=.call { callee:=.builtin .append,args:=#[s,x],argTypes:=#[27,27] })
  (hs:a.eval s=v) (hen:V.ownsRow base 3 1 v L.length (bY L)) (hbase:base<=V.heap.size) (b:Nat) (p:Int) (hx:a.eval x=.slice (some ⟨b,0,none⟩) 1 1) (hc:aI V b 3 #[.int .i64 p]) (h3:L.length<=2000000)
  (h:∀ g cap w',w'.ownsRow base 3 1 (.slice (some ⟨g,0,none⟩) (L.length+1) cap) (L++[p]).length (bY (L++[p]))->V.grownBy w' v.ownBlock->wpList Tryz.prog ops Q rest (a.put o.dst (.slice (some ⟨g,0,none⟩) (L.length+1) cap)) w') :
  wpList Tryz.prog ops Q (o::rest) a V:=by
 obtain⟨i0',hi0,hz0,hz1,hz2⟩:=info_parts info3
 refine wpList_append_lies V hgd s x 27 ho base 3 i0' _ 1 8 Tryz.underlying27 hi0 hz0 hz1 hz2 rfl (by omega) v L.length (bY L) hs hen ⟨b,0,none⟩ 1 1 [.int .i64 p] hx rfl (Cde.oC hc) (by simp[Value.oneCell']) (by omega) (by unfold maxLen;omega) (by omega) hbase V.heap.size rfl ?_
 intro g cap w' hown hgrow hat hlt
 exact h g cap w' (by rw[List.length_append];simpa using hown) hgrow
theorem mO (h:Ins w none n c L):n=0/\c=0/\L=[]:=by
 have h1:=h.nil rfl
 have h2:=h.le
 have h3:=h.len
 exact⟨by omega,h1,List.eq_nil_of_length_eq_zero (by omega)⟩
theorem iX (hb:Ins w a n c L)(hn:n<=2000000)(hn0:0 < n) :
  Calls Tryz.prog 24 #[.slice a n c] w fun e w'=>∃ a' c',e=.returned (.slice a' n c')/\w'.ownsRow w.heap.size 57 6 (.slice a' n c') n (bG L)/\Below w.heap.size w w':=by
 obtain⟨i0',hi,hz0,hz1,hz2⟩:=Spn.info_parts iK
 have heq:∀(w:World) (a:Option Addr) (n c:Nat),(binOp .eql 24 (.slice a n c) (.slice none 0 0)).run Tryz.prog w=.ok (.bool a.isNone) w:=fun w a n c=>Lib.run_eql_slice_nil w 24 57 a n c 0 0 Tryz.underlying24
 cases a with
 | none =>
  obtain⟨rfl,-,-⟩:=mO hb
  omega
 | some ad =>
  have hl:(bG L).length=n*6:=by rw[Cde.gV,hb.len]
  have hbel:Below w.heap.size w (w.alloc (.cells #[] 57)):=aH _ _
  have HBel:=aC hbel
  have HN:=aC ((hb.later hbel).news ad rfl)
  have HO:Hid ((w.alloc (.cells #[] 57)).ownsRow w.heap.size 57 6 (.slice (some ⟨w.heap.size,0,none⟩) 0 0) 0 []):=aC ⟨rfl,.inr ⟨w.heap.size,0,#[],rfl,Nat.le_refl _,heap_alloc_new w _,Nat.le_refl _,Nat.zero_le _,rfl,rfl⟩⟩
  have HL:=aC hl
  clear hb hbel hl
  go_enter Tryz.func24,Tryz.ntmps24
  go_wp2_with (at_builtin;refine wpList_append_lies _ rfl _ _ 24 rfl w.heap.size 57 i0' _ 6 48 Tryz.underlying24 hi hz0 hz1 hz2 rfl (by omega) (.slice (some ⟨w.heap.size,0,none⟩) 0 0) 0 [] rfl HO.o ad n c (bG L) rfl HL.o HN.o (Cde.qQ L) hn0 (by unfold maxLen;omega) (by omega) (by simp) _ rfl ?_;intro g cap w2 hown hgr hat hlt)
  rw[Nat.zero_add,List.nil_append] at hown
  have HO2:=aC hown
  have HB2:=aC (HBel.o.grown hgr HBel.o.size (fun k h=>by cases h;exact Nat.le_refl _))
  clear hown hgr hat hlt
  go_wp2_with fail
  go_ret
  exact⟨_,_,rfl,HO2.o,HB2.o⟩
theorem own_ne (h:W.ownsRow base e size v n xs)(hb:aI W b t cs)(ht:t≠e):v.ownBlock≠some b:=by
 intro hk
 obtain⟨-,cs',fr,h2⟩:=Cde.aQ h b hk
 rw[hb] at h2
 cases h2
 exact ht rfl
theorem aU (h:V.ownsRow base e size v n xs)(hg:V.grownBy w' v.ownBlock)(hb:aI V b t cs)(ht:t≠e):aI w' b t cs :=
 hb.kept hg fun he=>own_ne h hb ht he.symm
theorem eQ {base':Nat}{e':TypeId}{size' n':Nat}{v':Value}{xs':List Value}(h:V.ownsRow base e size v n xs)(h':V.ownsRow base' e' size' v' n' xs')(ht:e≠e')(hg:V.grownBy w' v.ownBlock):w'.ownsRow base' e' size' v' n' xs':=by
 refine h'.kept hg ?_
 cases hv:v'.ownBlock with
 | none=>exact .inl rfl
 | some q =>
  right
  intro hq
  obtain⟨-,cs,fr,h1⟩:=Cde.aQ h q hq.symm
  obtain⟨-,cs',fr',h2⟩:=Cde.aQ h' q hv
  rw[h1] at h2
  cases h2
  exact ht rfl
abbrev bM:Array Value:=#[.int .i64 0,.int .i64 0,.slice none 0 0,.int .i64 0]
structure Fb (W V:World)(cv:Array Value)(mv tv:Value)(M:List In)(T:List Int):Prop where
 c:aI V W.heap.size 26 cv
 o:aI V (W.heap.size+1) 26 bM
 m:V.ownsRow W.heap.size 57 6 mv M.length (bG M)
 t:V.ownsRow W.heap.size 3 1 tv T.length (bY T)
 lo:Below W.heap.size W V
theorem Fb.below {W V V':World}{cv:Array Value}{mv tv:Value}{M:List In}{T:List Int}(h:Fb W V cv mv tv M T)(hb:Below V.heap.size V V'):Fb W V' cv mv tv M T :=
 ⟨h.c.below hb,h.o.below hb,Cde.aS h.m hb,Cde.aS h.t hb,bel h.lo hb⟩
theorem Fb.growM {mv':Value}{M':List In}(h:Fb W V cv mv tv M T)(hg:V.grownBy w' mv.ownBlock)(hO:w'.ownsRow W.heap.size 57 6 mv' M'.length (bG M')):Fb W w' cv mv' tv M' T :=
 ⟨aU h.m hg h.c (by decide),aU h.m hg h.o (by decide),hO,eQ h.m h.t (by decide) hg,h.lo.grown hg h.lo.size fun k hk=>(Cde.aQ h.m k hk).1⟩
theorem Fb.growT {tv':Value}{T':List Int}(h:Fb W V cv mv tv M T)(hg:V.grownBy w' tv.ownBlock)(hO:w'.ownsRow W.heap.size 3 1 tv' T'.length (bY T')):Fb W w' cv mv tv' M T' :=
 ⟨aU h.t hg h.c (by decide),aU h.t hg h.o (by decide),eQ h.t h.m (by decide) hg,hO,h.lo.grown hg h.lo.size fun k hk=>(Cde.aQ h.t k hk).1⟩
abbrev s6 (w:World)(b:Nat)(n:In):World :=
 (((((w.setCell ⟨b,0,none⟩ (.int .i64 n.op)).setCell ⟨b,1,none⟩ (.int .i64 n.a)).setCell ⟨b,2,none⟩ (.int .i64 n.b)).setCell ⟨b,3,none⟩ (.int .i64 n.c)).setCell ⟨b,4,none⟩ (.int .i64 n.k)).setCell ⟨b,5,none⟩ (.int .i64 n.s)
theorem aDj {n m:In}(h:aI w b 57 (ia n)):aI (s6 w b m) b 57 (ia m):=(((((h.set 0 _).set 1 _).set 2 _).set 3 _).set 4 _).set 5 _
theorem vL {q:Nat}(h:aI w q t cs)(hq:q≠b)(m:In):aI (s6 w b m) q t cs :=
 (((((h.other (p:=⟨b,0,none⟩) hq _).other (p:=⟨b,1,none⟩) hq _).other (p:=⟨b,2,none⟩) hq _).other (p:=⟨b,3,none⟩) hq _).other (p:=⟨b,4,none⟩) hq _).other (p:=⟨b,5,none⟩) hq _
theorem uI (h:w.ownsRow base e size v n xs)(hq:v.ownBlock≠some b)(m:In):(s6 w b m).ownsRow base e size v n xs :=
 ownsRow_setCell_other (ownsRow_setCell_other (ownsRow_setCell_other (ownsRow_setCell_other (ownsRow_setCell_other (ownsRow_setCell_other h (a:=⟨b,0,none⟩) hq _) (a:=⟨b,1,none⟩) hq _) (a:=⟨b,2,none⟩) hq _) (a:=⟨b,3,none⟩) hq _) (a:=⟨b,4,none⟩) hq _) (a:=⟨b,5,none⟩) hq _
theorem aDb (h:Below w.heap.size w V)(hb:w.heap.size<=b)(m:In):Below w.heap.size w (s6 V b m) :=
 (((((h.setCell (p:=⟨b,0,none⟩) hb _).setCell (p:=⟨b,1,none⟩) hb _).setCell (p:=⟨b,2,none⟩) hb _).setCell (p:=⟨b,3,none⟩) hb _).setCell (p:=⟨b,4,none⟩) hb _).setCell (p:=⟨b,5,none⟩) hb _
structure Fc (W V:World)(cv:Array Value)(mv tv:Value)(M:List In)(T:List Int)(b:Nat)(n:In):Prop where
 f:Fb W V cv mv tv M T
 n:aI V b 57 (ia n)
 hb:W.heap.size+1 < b
 hm:mv.ownBlock≠some b
theorem Fc.below {W V V':World}{cv:Array Value}{mv tv:Value}{M:List In}{T:List Int}{b:Nat}{n:In}(h:Fc W V cv mv tv M T b n)(hb:Below V.heap.size V V'):Fc W V' cv mv tv M T b n:=⟨h.f.below hb,h.n.below hb,h.hb,h.hm⟩
theorem Fc.put {n:In}(h:Fc W V cv mv tv M T b n)(m:In):Fc W (s6 V b m) cv mv tv M T b m :=
 have hb:=h.hb
 ⟨⟨vL h.f.c (by omega) m,vL h.f.o (by omega) m,uI h.f.m h.hm m,uI h.f.t (own_ne h.f.t h.n (by decide)) m,aDb h.f.lo (by omega) m⟩,aDj h.n,hb,h.hm⟩
theorem Fb.with (h:Fb W V cv mv tv M T)(n:In):Fc W (V.alloc (.cells (ia n) 57)) cv mv tv M T V.heap.size n :=
 ⟨h.below (aH _ _),aI.new V 57 (ia n),h.o.lt,fun hk=>by
  obtain⟨-,cs,fr,h1⟩:=Cde.aQ h.m _ hk
  have:=(Array.getElem?_eq_some_iff.1 h1).1
  omega⟩
theorem Fb.ints {k:Nat}(h:Fb W V cv mv (.slice a k c) M T)(hk:T.length=k):Ints V a k c T:=by
 obtain⟨a',c',e,hi,-⟩:=Ints.of_owns h.t
 cases e
 rw[hk] at hi
 exact hi
theorem Fb.ins {k:Nat}(h:Fb W V cv (.slice a k c) tv M T)(hk:M.length=k):Ins V a k c M:=by
 obtain⟨a',c',e,hi,-⟩:=Ins.of_owns h.m
 cases e
 rw[hk] at hi
 exact hi
theorem mQ {n:In}(h:aI W b t (ia n)):W.frozen? ⟨b,0,none⟩=false/\W.frozen? ⟨b,1,none⟩=false/\W.frozen? ⟨b,2,none⟩=false/\W.frozen? ⟨b,3,none⟩=false/\W.frozen? ⟨b,4,none⟩=false/\W.frozen? ⟨b,5,none⟩=false :=
 ⟨h.frozen 0,h.frozen 1,h.frozen 2,h.frozen 3,h.frozen 4,h.frozen 5⟩
theorem yJ (n:Nat)(h:n<=1024):∃ cs:Array Value,cs.size=n*6/\∀ w:World,(Instr.makeSlice 140 (.int .i64 0) (.int .i64 n)).run Tryz.prog w=.ok (.slice (some ⟨w.heap.size,0,none⟩) 0 n) (w.alloc (.cells cs 57)):=by
 obtain⟨i0',hi,hz0,hz1,hz2⟩:=Spn.info_parts iK
 refine⟨madeCells (Value.agg (ia i0)).cells (n*6),size_madeCells _ _,fun w=>?_⟩
 have:=run_make w 140 57 i0' _ Tryz.underlying140 hi hz0 .i64 .i64 0 n (by omega) (by omega) (by rw[hz2];omega) (by omega)
 rw[hz1] at this
 simp only[Int.toNat_natCast] at this
 exact this
theorem yO (n:Nat)(h:n<=1024):∃ cs:Array Value,cs.size=n*1/\∀ w:World,(Instr.makeSlice 27 (.int .i64 0) (.int .i64 n)).run Tryz.prog w=.ok (.slice (some ⟨w.heap.size,0,none⟩) 0 n) (w.alloc (.cells cs 3)):=by
 obtain⟨i0',hi,hz0,hz1,hz2⟩:=info_parts info3
 refine⟨madeCells (Value.int .i64 0).cells (n*1),size_madeCells _ _,fun w=>?_⟩
 have:=run_make w 27 3 i0' _ Tryz.underlying27 hi hz0 .i64 .i64 0 n (by omega) (by omega) (by rw[hz2];omega) (by omega)
 rw[hz1] at this
 simp only[Int.toNat_natCast] at this
 exact this
theorem jA (h:aI V b e cs)(hs:cs.size=n*size)(hb:W.heap.size<=b)(hn:n<=1024):V.ownsRow W.heap.size e size (.slice (some ⟨b,0,none⟩) 0 n) 0 [] :=
 ⟨by simp,.inr ⟨b,n,cs,rfl,hb,h,Nat.zero_le _,by unfold maxLen;omega,hs,by simp⟩⟩
end Go.Proofs.Fld
namespace Go.Proofs.Fld
open Go.RowKit Go.IntWalk Knd
open Cde (In i0 ia kd cd Ins kM aJ aG bB aL bJ eO aD bG i6 zA aM)
open Vfy (bL)
theorem aEy {f d:Int}{M:List In}{T:List Int}{n:In}{k:Nat}{x:Int}(hM:M.length=k)(h:pQ f d M (bS n T)=(x,true)):foS f d (M,T) n=(M++[jC x],T++[(k:Int)]):=by
 simp[foS,nwI,nwT,h,hM]
theorem aJ7 {f d:Int}{M:List In}{T:List Int}{n:In}{k:Nat}{x:Int}(hM:M.length=k)(h:pQ f d M (bS n T)=(x,false)):foS f d (M,T) n=(M++[bS n T],T++[lT k (iU M (bS n T))]):=by
 simp[foS,nwI,nwT,h,hM]
theorem aBd (f d out:Int){a:Option Addr}{n cap:Nat}{L:List In}{W:World}(hL:Ins W a n cap L)(h:bL f d L out=0) :
  Calls Tryz.prog 105 #[.agg (cd f d a n cap out)] W fun e W'=>∃ a' c',e=.returned (.agg (cd f d a' n c' (foO f d L out)))/\W'.ownsRow W.heap.size 57 6 (.slice a' n c') n (bG (gX f d L).1)/\Below W.heap.size W W':=by
 obtain⟨mc,-⟩:=Vfy.aT h
 obtain⟨-,m1,m2,o0,o1,-⟩:=Cde.bD mc
 rw[hL.len] at m1 m2 o1
 obtain⟨o,rfl⟩:∃ o:Nat,out=o:=⟨out.toNat,by omega⟩
 obtain⟨cs1,hs1,hmk1⟩:=yJ n (by omega)
 obtain⟨cs2,hs2,hmk2⟩:=yO n (by omega)
 have HLI:=aC hL
 have HLn:=aC hL.len
 have HOk:=aC fun k (hk:k < n)=>aOe h (k:=k) (by rw[hL.len];exact hk)
 have HSu:=aC fun k (hk:k < n)=>vO f d (L:=L) (k:=k) (by rw[hL.len];exact hk)
 have HF0:Hid (Fb W ((((W.alloc (.cells (cd f d a n cap (o:Int)) 26)).alloc (.cells bM 26)).alloc (.cells cs1 57)).alloc (.cells cs2 3)) (cd f d a n cap (o:Int)) (.slice (some ⟨W.heap.size+1+1,0,none⟩) 0 n) (.slice (some ⟨W.heap.size+1+1+1,0,none⟩) 0 n) [] []):=by
  have b1:=aH W (.cells (cd f d a n cap (o:Int)) 26)
  have b2:=bel b1 (aH _ (.cells bM 26))
  have b3:=bel b2 (aH _ (.cells cs1 57))
  have b4:=bel b3 (aH _ (.cells cs2 3))
  have h1:=((aI.new W 26 (cd f d a n cap (o:Int))).alloc (.cells bM 26)).alloc (.cells cs1 57)
  have h2:=((aL W (.cells (cd f d a n cap (o:Int)) 26) 26 bM).alloc (.cells cs1 57))
  have h3:=aI.new ((W.alloc (.cells (cd f d a n cap (o:Int)) 26)).alloc (.cells bM 26)) 57 cs1
  have h4:=aI.new (((W.alloc (.cells (cd f d a n cap (o:Int)) 26)).alloc (.cells bM 26)).alloc (.cells cs1 57)) 3 cs2
  rw[World.size_alloc,World.size_alloc] at h3
  rw[World.size_alloc,World.size_alloc,World.size_alloc] at h4
  exact⟨h1.alloc _,h2.alloc _,jA (h3.alloc _) hs1 (by omega) (by omega),jA h4 hs2 (by omega) (by omega),b4⟩
 clear hL h mc hs1 hs2
 go_enter Tryz.func105,Tryz.ntmps105
 go_wp2_with fail
 clear hmk1 hmk2
 go_loopw [3,4,21] (fun mv tv i wr=>∃(k gm cm gt ct:Nat) (M:List In) (T:List Int),k<=n/\i=.int .i64 k/\mv=.slice (some ⟨gm,0,none⟩) k cm/\tv=.slice (some ⟨gt,0,none⟩) k ct/\Hid (gX f d (L.take k)=(M,T))/\Hid (M.length=k)/\Hid (T.length=k)/\Hid (Fb W wr (cd f d a n cap (o:Int)) (.slice (some ⟨gm,0,none⟩) k cm) (.slice (some ⟨gt,0,none⟩) k ct) M T)) (fun _ _ i _=>n-(intOf i).toNat)
 case atStart=>exact⟨0,_,_,_,_,[],[],Nat.zero_le _,rfl,rfl,rfl,aC rfl,aC rfl,aC rfl,HF0⟩
 case round =>
  obtain⟨k,gm,cm,gt,ct,M,T,hk,rfl,rfl,rfl,HM,HMl,HTl,HF⟩:=hrel
  rename World=>V
  clear HF0
  by_cases hlt:k < n
  ·obtain⟨b,off,rfl,-,hat⟩:=(HLI.o.later HF.o.lo).at (by omega)
   obtain⟨e0,e1,e2,e3,e4,e5⟩:=hat k hlt
   clear hat
   have hi0:(0:Int)<=k:=by omega
   have hi1:(k:Int) < n:=by omega
   have hOk:=HOk.o k hlt
   have hSu:=HSu.o k hlt
   rw[HM.o] at hOk hSu
   have HOk2:=aC hOk
   generalize L.getD k i0=q at *
   have HY:=aC fun x (h:pQ f d M (bS q T)=(x,true))=>hSu.trans (aEy HMl.o h)
   have HNo:=aC fun x (h:pQ f d M (bS q T)=(x,false))=>hSu.trans (aJ7 HMl.o h)
   have HC0:=aC (HF.o.with q)
   have HTh:=aC (gF q (HC0.o.f.ints HTl.o))
   clear hOk hSu
   go_wp2_with fail
   refine HTh.o.mono ?_
   rintro e V1 ⟨rfl,hb⟩
   have HC1:=aC (HC0.o.below hb)
   clear hb HC0 HTh e0 e1 e2 e3 e4 e5
   generalize bS q T=m at *
   generalize hgb:V.heap.size=gb at *
   have hb0:=HC1.o.hb
   have hb1:W.heap.size < gb:=by omega
   obtain⟨e0,e1,e2,e3,e4,e5⟩:=aJ HC1.o.n
   obtain⟨r0,r1,r2,r3,r4,r5⟩:=mQ HC1.o.n
   obtain⟨c0,c1,c2,c3⟩:=aG HC1.o.f.c
   have HC2:=aC (HC1.o.put m)
   have HKn:=aC (aNn f d m (HC2.o.f.ins HMl.o) HOk2.o)
   obtain⟨⟨x,kb⟩,hX⟩:∃ X,pQ f d M m=X:=⟨_,rfl⟩
   rw[hX] at HKn
   have HX:=aC hX
   clear hX
   go_wp2_with fail
   refine HKn.o.mono ?_
   rintro e V2 ⟨rfl,hb⟩
   have HC3:=aC (HC2.o.below hb)
   clear hb HC2 HKn e0 e1 e2 e3 e4 e5 r0 r1 r2 r3 r4 r5 c0 c1 c2 c3
   obtain⟨e0,e1,e2,e3,e4,e5⟩:=aJ HC3.o.n
   obtain⟨r0,r1,r2,r3,r4,r5⟩:=mQ HC3.o.n
   obtain⟨c0,c1,c2,c3⟩:=aG HC3.o.f.c
   cases kb
   ·have HZ:=aC (HNo.o x HX.o)
    have HSf:=aC (aL0 m (k:Int) (HC3.o.f.ins HMl.o) HOk2.o)
    generalize lT (k:Int) (iU M m)=z at *
    clear HY HNo HX
    go_wp2_with fail
    refine HSf.o.mono ?_
    rintro e V3 ⟨rfl,hb⟩
    have HC4:=aC (HC3.o.below hb)
    clear hb HSf e0 e1 e2 e3 e4 e5 r0 r1 r2 r3 r4 r5 c0 c1 c2 c3
    obtain⟨e0,e1,e2,e3,e4,e5⟩:=aJ HC4.o.n
    have HN5:=aC (aI.new V3 57 (ia m))
    have HF5:=aC (HC4.o.f.below (aH V3 (.cells (ia m) 57)))
    go_wp2_with (first
     | (at_builtin;refine fT rfl _ _ rfl rfl HF5.o.m HF5.o.lo.size _ m rfl HN5.o (by rw[HMl.o];omega) ?_;intro g cap' w2 hown hgr;have HF6:=aC (HF5.o.growM hgr hown);have HF7:=aC (HF6.o.below (aH w2 (.cells #[.int .i64 z] 3)));have HN7:=aC (aI.new w2 3 #[.int .i64 z]);clear hown hgr e0 e1 e2 e3 e4 e5)
     | (at_builtin;refine bP rfl _ _ rfl rfl HF7.o.t HF7.o.lo.size _ z rfl HN7.o (by rw[HTl.o];omega) ?_;intro g2 cap2 w3 hown2 hgr2))
    have HF8:=aC (HF7.o.growT hgr2 hown2)
    clear hown2 hgr2
    rw[HMl.o,HTl.o] at HF8 ⊢
    go_wp2_with fail
    go_roundw
    case rel=>exact⟨k+1,_,_,_,_,M++[m],T++[z],by omega,by go_num,rfl,rfl,HZ,aC (by simp[HMl.o]),aC (by simp[HTl.o]),HF8⟩
    case measure=>simp[intOf];omega
   ·have HZ:=aC (HY.o x HX.o)
    clear HY HNo HX
    obtain⟨V4,hV4⟩:∃ V4,(((((V2.setCell ⟨gb,0,none⟩ (.int .i64 1)).setCell ⟨gb,1,none⟩ (.int .i64 0)).setCell ⟨gb,2,none⟩ (.int .i64 0)).setCell ⟨gb,3,none⟩ (.int .i64 0)).setCell ⟨gb,4,none⟩ (.int .i64 x)).setCell ⟨gb,5,none⟩ (.int .i64 0)=V4:=⟨_,rfl⟩
    have HC4:Hid (Fc W V4 (cd f d (some ⟨b,off,none⟩) n cap (o:Int)) (.slice (some ⟨gm,0,none⟩) k cm) (.slice (some ⟨gt,0,none⟩) k ct) M T gb (jC x)):=aC (by rw[<-hV4];exact HC3.o.put (jC x))
    have HN5:Hid (aI (V4.alloc (.cells #[.int .i64 1,.int .i64 0,.int .i64 0,.int .i64 0,.int .i64 x,.int .i64 0] 57)) V4.heap.size 57 (ia (jC x))):=aC (aI.new V4 57 (ia (jC x)))
    have HF5:Hid (Fb W (V4.alloc (.cells #[.int .i64 1,.int .i64 0,.int .i64 0,.int .i64 0,.int .i64 x,.int .i64 0] 57)) (cd f d (some ⟨b,off,none⟩) n cap (o:Int)) (.slice (some ⟨gm,0,none⟩) k cm) (.slice (some ⟨gt,0,none⟩) k ct) M T):=aC (HC4.o.f.below (aH V4 (.cells (ia (jC x)) 57)))
    go_upto_region 12 with fail
    clear hV4 HC3 e0 e1 e2 e3 e4 e5 r0 r1 r2 r3 r4 r5 c0 c1 c2 c3
    obtain⟨e0,e1,e2,e3,e4,e5⟩:=aJ HC4.o.n
    dsimp only [jC] at e0 e1 e2 e3 e4 e5
    go_wp2_with (first
     | (at_builtin;refine fT rfl _ _ rfl rfl HF5.o.m HF5.o.lo.size _ (jC x) rfl HN5.o (by rw[HMl.o];omega) ?_;intro g cap' w2 hown hgr;have HF6:=aC (HF5.o.growM hgr hown);have HF7:=aC (HF6.o.below (aH w2 (.cells #[.int .i64 (k:Int)] 3)));have HN7:=aC (aI.new w2 3 #[.int .i64 (k:Int)]);clear hown hgr e0 e1 e2 e3 e4 e5)
     | (at_builtin;refine bP rfl _ _ rfl rfl HF7.o.t HF7.o.lo.size _ (k:Int) rfl HN7.o (by rw[HTl.o];omega) ?_;intro g2 cap2 w3 hown2 hgr2))
    have HF8:=aC (HF7.o.growT hgr2 hown2)
    clear hown2 hgr2
    rw[HMl.o,HTl.o] at HF8 ⊢
    go_wp2_with fail
    go_roundw
    case rel=>exact⟨k+1,_,_,_,_,M++[(jC x)],T++[(k:Int)],by omega,by go_num,rfl,rfl,HZ,aC (by simp[HMl.o]),aC (by simp[HTl.o]),HF8⟩
    case measure=>simp[intOf];omega
  ·obtain rfl:k=n:=by omega
   have hM:=HM.o
   rw[List.take_of_length_le (by rw[HLn.o];exact Nat.le_refl _)] at hM
   have HM2:=aC hM
   obtain⟨c0,c1,c2,c3⟩:=aG HF.o.c
   have hf0:=HF.o.o.frozen 0
   have hf1:=HF.o.o.frozen 1
   have hf2:=HF.o.o.frozen 2
   have hf3:=HF.o.o.frozen 3
   obtain⟨p0,p1,p2,p3⟩:=aG HF.o.o
   obtain⟨b2,o2,e2',-,hat⟩:=(HF.o.ints HTl.o).at (by omega)
   cases e2'
   have t0:=hat o (by omega)
   rw[Nat.zero_add] at t0
   have hw0:W.heap.size < V.heap.size:=HF.o.c.lt
   have hw1:W.heap.size+1 < V.heap.size:=HF.o.o.lt
   have i0':(0:Int)<=o:=by omega
   have i1':(o:Int) < k:=by omega
   clear hat hM HM HOk HSu
   obtain⟨z,hz⟩:∃ z,T.getD o 0=z:=⟨_,rfl⟩
   rw[hz] at t0
   have HZ:=aC hz
   clear hz
   go_wp2_with fail
   go_region
   have hq:(Value.slice (some ⟨gm,0,none⟩) k cm).ownBlock≠some (W.heap.size+1):=own_ne HF.o.m HF.o.o (by decide)
   have HO5:=aC (((((HF.o.o.set 0 (.int .i64 f)).set 1 (.int .i64 d)).set 2 (.slice (some ⟨gm,0,none⟩) k cm)).set 3 (.int .i64 z)).below (aD _))
   have HM5:=aC ((ownsRow_setCell_other (ownsRow_setCell_other (ownsRow_setCell_other (ownsRow_setCell_other HF.o.m (a:=⟨W.heap.size+1,0,none⟩) hq (.int .i64 f)) (a:=⟨W.heap.size+1,1,none⟩) hq (.int .i64 d)) (a:=⟨W.heap.size+1,2,none⟩) hq (.slice (some ⟨gm,0,none⟩) k cm)) (a:=⟨W.heap.size+1,3,none⟩) hq (.int .i64 z)).drew)
   have HB5:=aC (((((HF.o.lo.setCell (p:=⟨W.heap.size+1,0,none⟩) (by simp) (.int .i64 f)).setCell (p:=⟨W.heap.size+1,1,none⟩) (by simp) (.int .i64 d)).setCell (p:=⟨W.heap.size+1,2,none⟩) (by simp) (.slice (some ⟨gm,0,none⟩) k cm)).setCell (p:=⟨W.heap.size+1,3,none⟩) (by simp) (.int .i64 z)).drew)
   obtain⟨V5,hV5⟩:∃ V5,((((V.setCell ⟨W.heap.size+1,0,none⟩ (.int .i64 f)).setCell ⟨W.heap.size+1,1,none⟩ (.int .i64 d)).setCell ⟨W.heap.size+1,2,none⟩ (.slice (some ⟨gm,0,none⟩) k cm)).setCell ⟨W.heap.size+1,3,none⟩ (.int .i64 z)).drew=V5:=⟨_,rfl⟩
   rw[hV5] at HO5 HM5 HB5 ⊢
   obtain⟨x0,x1,x2,x3⟩:=aG HO5.o
   rw[HMl.o] at HM5
   clear hV5 c0 c1 c2 c3 p0 p1 p2 p3 hf0 hf1 hf2 hf3 t0 hq
   go_wp2_with fail
   have HR:Hid ((gX f d L).1=M/\foO f d L (o:Int)=z):=aC (by rw[foO,HM2.o];exact⟨rfl,HZ.o⟩)
   exact bodyPost_ret (v:=.agg (cd f d (some ⟨gm,0,none⟩) k cm z)) (by simp[results,Tryz.results105,go_sem,x0,x1,x2,x3]) rfl ⟨_,_,by rw[HR.o.2],by rw[HR.o.1];exact HM5.o,HB5.o⟩
end Go.Proofs.Fld
namespace Go.Proofs.Fld
open Go.RowKit Go.IntWalk Knd
open Cde (In i0 ia kd cd Ins kM aJ aG bB aL bJ eO aD bG i6)
open Vfy (bL kN kK)
structure Fh (W V:World)(cv wv rv:Array Value):Prop where
 c:aI V W.heap.size 26 cv
 w:aI V (W.heap.size+1) 26 wv
 r:aI V (W.heap.size+1+1) 26 rv
 lo:Below W.heap.size W V
theorem Fh.below {W V V':World}{cv wv rv:Array Value}(h:Fh W V cv wv rv)(hb:Below V.heap.size V V'):Fh W V' cv wv rv:=⟨h.c.below hb,h.w.below hb,h.r.below hb,bel h.lo hb⟩
abbrev s4 (w:World)(b:Nat)(x y z u:Value):World:=(((w.setCell ⟨b,0,none⟩ x).setCell ⟨b,1,none⟩ y).setCell ⟨b,2,none⟩ z).setCell ⟨b,3,none⟩ u
theorem Fh.put {W V:World}{cv wv:Array Value}{p q r s:Value}(h:Fh W V cv wv #[p,q,r,s])(x y z u:Value):Fh W (s4 V (W.heap.size+1+1) x y z u) cv wv #[x,y,z,u]:=by
 refine⟨?_,?_,(((h.r.set 0 x).set 1 y).set 2 z).set 3 u,?_⟩
 ·exact(((h.c.other (p:=⟨W.heap.size+1+1,0,none⟩) (by simp;omega) _).other (p:=⟨W.heap.size+1+1,1,none⟩) (by simp;omega) _).other (p:=⟨W.heap.size+1+1,2,none⟩) (by simp;omega) _).other (p:=⟨W.heap.size+1+1,3,none⟩) (by simp;omega) _
 ·exact(((h.w.other (p:=⟨W.heap.size+1+1,0,none⟩) (by simp) _).other (p:=⟨W.heap.size+1+1,1,none⟩) (by simp) _).other (p:=⟨W.heap.size+1+1,2,none⟩) (by simp) _).other (p:=⟨W.heap.size+1+1,3,none⟩) (by simp) _
 ·exact(((h.lo.setCell (p:=⟨W.heap.size+1+1,0,none⟩) (by simp;omega) _).setCell (p:=⟨W.heap.size+1+1,1,none⟩) (by simp;omega) _).setCell (p:=⟨W.heap.size+1+1,2,none⟩) (by simp;omega) _).setCell (p:=⟨W.heap.size+1+1,3,none⟩) (by simp;omega) _
theorem bC {W:World}{b:Nat}{t:TypeId}{cs:Array Value}(h:aI W b t cs):W.frozen? ⟨b,0,none⟩=false/\W.frozen? ⟨b,1,none⟩=false/\W.frozen? ⟨b,2,none⟩=false/\W.frozen? ⟨b,3,none⟩=false:=⟨h.frozen 0,h.frozen 1,h.frozen 2,h.frozen 3⟩
theorem dB {w:World}{base b size n:Nat}{e:TypeId}{v:Value}{xs:List Value}(h:w.ownsRow base e size v n xs)(hq:v.ownBlock≠some b)(x y z u:Value):(s4 w b x y z u).ownsRow base e size v n xs :=
 ownsRow_setCell_other (ownsRow_setCell_other (ownsRow_setCell_other (ownsRow_setCell_other h (a:=⟨b,0,none⟩) hq _) (a:=⟨b,1,none⟩) hq _) (a:=⟨b,2,none⟩) hq _) (a:=⟨b,3,none⟩) hq _
theorem aGo (f d o1 o2:Int){a1 a2:Option Addr}{n1 n2 c1 c2:Nat}{M L:List In}{W:World}(hM:Ins W a1 n1 c1 M)(hL:Ins W a2 n2 c2 L)(hn0:0 < n2)(hn:n2<=1000) :
  Calls Tryz.prog 104 #[.agg (cd f d a1 n1 c1 o1),.agg (cd f d a2 n2 c2 o2)] W fun e W' =>
   (bL f d M o1=0/\e=.returned (.agg (cd f d a1 n1 c1 o1))/\Below W.heap.size W W') \/
   (bL f d M o1≠0/\∃ a' c',e=.returned (.agg (cd f d a' n2 c' o2))/\W'.ownsRow W.heap.size 57 6 (.slice a' n2 c') n2 (bG L)/\Below W.heap.size W W'):=by
 have b1:=aH W (.cells (cd f d a1 n1 c1 o1) 26)
 have b2:=bel b1 (aH _ (.cells (cd f d a2 n2 c2 o2) 26))
 have b3:=bel b2 (aH _ (.cells bM 26))
 have h3:=aI.new ((W.alloc (.cells (cd f d a1 n1 c1 o1) 26)).alloc (.cells (cd f d a2 n2 c2 o2) 26)) 26 bM
 rw[World.size_alloc,World.size_alloc] at h3
 have HF0:Hid (Fh W (((W.alloc (.cells (cd f d a1 n1 c1 o1) 26)).alloc (.cells (cd f d a2 n2 c2 o2) 26)).alloc (.cells bM 26)) (cd f d a1 n1 c1 o1) (cd f d a2 n2 c2 o2) bM) :=
  aC ⟨((aI.new W 26 (cd f d a1 n1 c1 o1)).alloc (.cells (cd f d a2 n2 c2 o2) 26)).alloc (.cells bM 26),(aL W (.cells (cd f d a1 n1 c1 o1) 26) 26 (cd f d a2 n2 c2 o2)).alloc (.cells bM 26),h3,b3⟩
 have HV:=aC (Vfy.fC f d o1 (hM.later b3))
 have HLI:=aC hL
 clear b1 b2 b3 h3 hM hL
 go_enter Tryz.func104,Tryz.ntmps104
 go_wp2_with fail
 refine HV.o.mono ?_
 rintro e V1 ⟨ga,gc,rfl,hS,hb,-,-⟩
 obtain⟨m,hm⟩:∃ m,kN f d M o1=m:=⟨_,rfl⟩
 obtain⟨co,hco⟩:∃ co,kK f d M o1=co:=⟨_,rfl⟩
 obtain⟨er,her⟩:∃ er,bL f d M o1=er:=⟨_,rfl⟩
 rw[hm,hco,her]
 have HEr:=aC her
 have hb2:=aH V1 (.cells #[.slice ga m gc,.int .i64 co,.int .i64 0] 47)
 have HF1:=aC ((HF0.o.below hb).below hb2)
 obtain⟨x0,x1,x2,x3⟩:=aG (HF0.o.below hb).c
 obtain⟨w0,w1,w2,w3⟩:=aG (HF0.o.below hb).w
 obtain⟨p0,p1,p2,p3⟩:=aG (HF0.o.below hb).r
 have z0:=(HF0.o.below hb).c.lt
 have z1:=(HF0.o.below hb).w.lt
 have z2:=(HF0.o.below hb).r.lt
 clear hm hco her hb hb2 hS HV HF0
 by_cases h0:er=0
 ·have hr:(er==0)=true:=by simpa using h0
  go_upto_region 3 with fail
  obtain⟨V2,hV2⟩:∃ V2,V1.alloc (.cells #[.slice ga m gc,.int .i64 co,.int .i64 0] 47)=V2:=⟨_,rfl⟩
  rw[hV2] at HF1 ⊢
  clear x0 x1 x2 x3 w0 w1 w2 w3 p0 p1 p2 p3 z0 z1 z2 hV2
  obtain⟨x0,x1,x2,x3⟩:=aG HF1.o.c
  obtain⟨p0,p1,p2,p3⟩:=aG HF1.o.r
  obtain⟨r0,r1,r2,r3⟩:=bC HF1.o.r
  obtain⟨V3,hV3⟩:∃ V3,(((V2.setCell ⟨W.heap.size+1+1,0,none⟩ (.int .i64 f)).setCell ⟨W.heap.size+1+1,1,none⟩ (.int .i64 d)).setCell ⟨W.heap.size+1+1,2,none⟩ (.slice a1 n1 c1)).setCell ⟨W.heap.size+1+1,3,none⟩ (.int .i64 o1)=V3:=⟨_,rfl⟩
  have HF2:Hid (Fh W V3 (cd f d a1 n1 c1 o1) (cd f d a2 n2 c2 o2) (cd f d a1 n1 c1 o1)):=aC (by rw[<-hV3];exact HF1.o.put (.int .i64 f) (.int .i64 d) (.slice a1 n1 c1) (.int .i64 o1))
  go_wp2_with fail
  obtain⟨q0,q1,q2,q3⟩:=aG HF2.o.r
  exact bodyPost_ret (v:=.agg (cd f d a1 n1 c1 o1)) (by simp[results,Tryz.results104,go_sem,q0,q1,q2,q3]) rfl (.inl ⟨HEr.o.trans h0,rfl,HF2.o.lo⟩)
 ·have hr:(er==0)=false:=by simpa using h0
  go_upto_region 4 with fail
  obtain⟨V2,hV2⟩:∃ V2,V1.alloc (.cells #[.slice ga m gc,.int .i64 co,.int .i64 0] 47)=V2:=⟨_,rfl⟩
  rw[hV2] at HF1 ⊢
  clear x0 x1 x2 x3 w0 w1 w2 w3 p0 p1 p2 p3 z0 z1 z2 hV2
  obtain⟨x0,x1,x2,x3⟩:=aG HF1.o.w
  have HCl:=aC (iX ((HLI.o.later HF1.o.lo).later (aD V2)) (by omega) hn0)
  have HS:=aC fun V3 (hb:Below V2.drew.heap.size V2.drew V3)=>(HF1.o.below (bel (aD V2) hb))
  go_region_held3 (fun w'=>w'.cell? ⟨W.heap.size+1,0,none⟩=some (.int .i64 f)/\w'.cell? ⟨W.heap.size+1,1,none⟩=some (.int .i64 d)/\w'.cell? ⟨W.heap.size+1,2,none⟩=some (.slice a2 n2 c2)/\w'.cell? ⟨W.heap.size+1,3,none⟩=some (.int .i64 o2))
   (first|exact⟨x0,x1,x2,x3⟩|exact⟨k0,k1,k2,k3⟩|go_keep)
   ((first
    | (go_at_call 24;refine HCl.o.mono ?_;rintro e V3 ⟨a',c',rfl,hO,hb⟩;have HF3:=aC (HS.o V3 hb);obtain⟨k0,k1,k2,k3⟩:=aG HF3.o.w;obtain⟨p0,p1,p2,p3⟩:=aG HF3.o.r;obtain⟨r0,r1,r2,r3⟩:=bC HF3.o.r)))
  all_goals
   have HO3:=aC (Cde.aW hO (show W.heap.size<=V2.drew.heap.size from HF1.o.lo.size))
   clear k0 k1 k2 k3 p0 p1 p2 p3 r0 r1 r2 r3 hO hb HCl HS x0 x1 x2 x3
   have hq:=own_ne HO3.o HF3.o.r (by decide)
   have HO4:=aC (dB HO3.o hq (.int .i64 f) (.int .i64 d) (.slice a' n2 c') (.int .i64 o2))
   have HF4:=aC (HF3.o.put (.int .i64 f) (.int .i64 d) (.slice a' n2 c') (.int .i64 o2))
   obtain⟨V4,hV4⟩:∃ V4,(((V3.setCell ⟨W.heap.size+1+1,0,none⟩ (.int .i64 f)).setCell ⟨W.heap.size+1+1,1,none⟩ (.int .i64 d)).setCell ⟨W.heap.size+1+1,2,none⟩ (.slice a' n2 c')).setCell ⟨W.heap.size+1+1,3,none⟩ (.int .i64 o2)=V4:=⟨_,rfl⟩
   unfold s4 at HO4 HF4
   rw[hV4] at HO4 HF4 ⊢
   clear hV4 hq HF3 HO3
   go_wp2_with fail
   obtain⟨q0,q1,q2,q3⟩:=aG HF4.o.r
   exact bodyPost_ret (v:=.agg (cd f d a' n2 c' o2)) (by simp[results,Tryz.results104,go_sem,q0,q1,q2,q3]) rfl (.inr ⟨by rw[HEr.o];exact h0,_,_,rfl,HO4.o,HF4.o.lo⟩)
end Go.Proofs.Fld
namespace Go.Proofs.Fld
open Go.RowKit Go.IntWalk Knd
open Cde (In i0 ia kd cd Ins kM aJ aG bB aL bJ eO aD bG i6)
open Vfy (bL kN kK)
variable {d f out:Int} {L:List In} {n:Nat} {W:World}
def jT (f d:Int)(L:List In)(out:Int):List In:=if bL f d L out=0 then zC f d L out else[]
def uK (f d:Int)(L:List In)(out:Int):Int:=if bL f d L out=0 then xJ f d L out else 0
def rJ (f d:Int)(L:List In)(out x:Int):Int:=if bL f d L out=0 then x else 0
def lM (w:World)(f d:Int)(L:List In)(out:Int)(e:Ending)(W':World):Prop :=
 ∃ a c,e=.returned (.tuple #[.agg (cd (rJ f d L out f) (rJ f d L out d) a (jT f d L out).length c (uK f d L out)),.int .i64 (bL f d L out)])/\W'.ownsRow w.heap.size 57 6 (.slice a (jT f d L out).length c) (jT f d L out).length (bG (jT f d L out))/\Below w.heap.size w W'
theorem lM.no {w W':World}{er:Int}(h:bL f d L out=er)(h0:er≠0)(hb:Below w.heap.size w W'):lM w f d L out (.returned (.tuple #[.agg bM,.int .i64 er])) W':=by
 subst h
 refine⟨none,0,?_,?_,hb⟩
 ·simp[rJ,jT,uK,h0]
 ·rw[jT,if_neg h0];exact⟨rfl,.inl ⟨rfl,rfl⟩⟩
theorem lM.row {w W':World}{I:List In}{u:Int}{a:Option Addr}{c:Nat}(h:bL f d L out=0)(hI:zC f d L out=I)(hu:xJ f d L out=u)(hn:I.length=n)(hO:W'.ownsRow w.heap.size 57 6 (.slice a n c) n (bG I))(hb:Below w.heap.size w W'):lM w f d L out (.returned (.tuple #[.agg (cd f d a n c u),.int .i64 0])) W':=by
 subst hn hI hu
 refine⟨a,c,?_,?_,hb⟩
 ·simp[rJ,jT,uK,h]
 ·rw[jT,if_pos h];exact hO
structure Fg (W V:World)(cv rv:Array Value):Prop where
 c:aI V W.heap.size 26 cv
 r:aI V (W.heap.size+1) 26 rv
 lo:Below W.heap.size W V
theorem Fg.below {W V V':World}{cv rv:Array Value}(h:Fg W V cv rv)(hb:Below V.heap.size V V'):Fg W V' cv rv:=⟨h.c.below hb,h.r.below hb,bel h.lo hb⟩
theorem Fg.put {V:World}{cv:Array Value}{p q r s:Value}(h:Fg W V cv #[p,q,r,s])(x y z u:Value):Fg W (s4 V (W.heap.size+1) x y z u) cv #[x,y,z,u]:=by
 refine⟨?_,(((h.r.set 0 x).set 1 y).set 2 z).set 3 u,?_⟩
 ·exact(((h.c.other (p:=⟨W.heap.size+1,0,none⟩) (by simp) _).other (p:=⟨W.heap.size+1,1,none⟩) (by simp) _).other (p:=⟨W.heap.size+1,2,none⟩) (by simp) _).other (p:=⟨W.heap.size+1,3,none⟩) (by simp) _
 ·exact(((h.lo.setCell (p:=⟨W.heap.size+1,0,none⟩) (by simp) _).setCell (p:=⟨W.heap.size+1,1,none⟩) (by simp) _).setCell (p:=⟨W.heap.size+1,2,none⟩) (by simp) _).setCell (p:=⟨W.heap.size+1,3,none⟩) (by simp) _
theorem nW {a1 a2:Option Addr}{c1 c2:Nat}(hL:L.length=n)(hO:W.ownsRow 0 57 6 (.slice a1 n c1) n (bG (gX f d L).1))(hI:Ins W a2 n c2 L)(hn0:0 < n)(hn:n<=1000) :
  Calls Tryz.prog 104 #[.agg (cd f d a1 n c1 (foO f d L out)),.agg (cd f d a2 n c2 out)] W fun e W'=>∃ a' c',e=.returned (.agg (cd f d a' n c' (xJ f d L out)))/\(∀ base,W.ownsRow base 57 6 (.slice a1 n c1) n (bG (gX f d L).1)->base<=W.heap.size->W'.ownsRow base 57 6 (.slice a' n c') n (bG (zC f d L out)))/\Below W.heap.size W W':=by
 obtain⟨a',c',e',hM,-⟩:=Ins.of_owns hO
 cases e'
 refine(aGo f d (foO f d L out) out hM hI hn0 hn).mono ?_
 rintro e W' (⟨h0,rfl,hb⟩|⟨h0,a',c',rfl,ho,hb⟩)
 ·exact⟨_,_,by rw[xJ,if_pos h0],fun base h _=>by rw[zC,if_pos h0];exact Cde.aS h hb,hb⟩
 ·exact⟨_,_,by rw[xJ,if_neg h0],fun base _ h=>by rw[zC,if_neg h0];exact Cde.aW ho h,hb⟩
theorem aGe (f d out:Int){a:Option Addr}{cap:Nat}(hL:Ins W a n cap L) :
  Calls Tryz.prog 74 #[.agg (cd f d a n cap out)] W (lM W f d L out):=by
 have b1:=aH W (.cells (cd f d a n cap out) 26)
 have b2:=bel b1 (aH _ (.cells bM 26))
 have HF0:Hid (Fg W ((W.alloc (.cells (cd f d a n cap out) 26)).alloc (.cells bM 26)) (cd f d a n cap out) bM) :=
  aC ⟨(aI.new W 26 (cd f d a n cap out)).alloc (.cells bM 26),aL W (.cells (cd f d a n cap out) 26) 26 bM,b2⟩
 have HV:=aC (Vfy.fC f d out (hL.later b2))
 have HLI:=aC hL
 have HLn:=aC hL.len
 clear b1 b2 hL
 go_enter Tryz.func74,Tryz.ntmps74
 go_wp2_with fail
 refine HV.o.mono ?_
 rintro e V1 ⟨ga,gc,rfl,hS,hb,-,-⟩
 obtain⟨m,hm⟩:∃ m,kN f d L out=m:=⟨_,rfl⟩
 obtain⟨co,hco⟩:∃ co,kK f d L out=co:=⟨_,rfl⟩
 obtain⟨er,her⟩:∃ er,bL f d L out=er:=⟨_,rfl⟩
 rw[hm,hco,her]
 have HEr:=aC her
 have hb2:=aH V1 (.cells #[.slice ga m gc,.int .i64 co,.int .i64 0] 47)
 have HF1:=aC ((HF0.o.below hb).below hb2)
 obtain⟨x0,x1,x2,x3⟩:=aG (HF0.o.below hb).c
 obtain⟨p0,p1,p2,p3⟩:=aG (HF0.o.below hb).r
 have z0:=(HF0.o.below hb).c.lt
 have z1:=(HF0.o.below hb).r.lt
 clear hm hco her hb hb2 hS HV HF0
 by_cases h0:er=0
 ·have hr:(er != 0)=false:=by simpa using h0
  go_upto_region 4 with fail
  obtain⟨V2,hV2⟩:∃ V2,V1.alloc (.cells #[.slice ga m gc,.int .i64 co,.int .i64 0] 47)=V2:=⟨_,rfl⟩
  rw[hV2] at HF1 ⊢
  clear x0 x1 x2 x3 p0 p1 p2 p3 z0 z1 hV2
  obtain⟨x0,x1,x2,x3⟩:=aG HF1.o.c
  have h0':=HEr.o.trans h0
  obtain⟨mc,-⟩:=Vfy.aT h0'
  obtain⟨-,m1,m2,o0,o1,-⟩:=Cde.bD mc
  rw[HLn.o] at m1 m2 o1
  have HFo:=aC (aBd f d out ((HLI.o.later HF1.o.lo).later (aD V2)) h0')
  have HHa:=aC fun(V:World) (a1:Option Addr) (c1:Nat) (hO:V.ownsRow 0 57 6 (.slice a1 n c1) n (bG (gX f d L).1)) (hI:Ins V a n cap L)=>nW (out:=out) HLn.o hO hI (by omega) (by omega)
  have HS:=aC fun V3 (hb:Below V2.drew.heap.size V2.drew V3)=>(HF1.o.below (bel (aD V2) hb))
  clear mc
  go_region_held3 (fun w'=>w'.cell? ⟨W.heap.size,0,none⟩=some (.int .i64 f)/\w'.cell? ⟨W.heap.size,1,none⟩=some (.int .i64 d)/\w'.cell? ⟨W.heap.size,2,none⟩=some (.slice a n cap)/\w'.cell? ⟨W.heap.size,3,none⟩=some (.int .i64 out))
   (first|exact⟨x0,x1,x2,x3⟩|exact⟨l0,l1,l2,l3⟩|exact⟨k0,k1,k2,k3⟩|go_keep)
   ((first
    | (go_at_call 105;refine HFo.o.mono ?_;rintro e V3 ⟨a',c',rfl,hO,hb⟩;have HF3:=aC (HS.o V3 hb);obtain⟨k0,k1,k2,k3⟩:=aG HF3.o.c)
    | (go_at_call 104;refine(HHa.o _ _ _ (Cde.aW hO (Nat.zero_le _)) (HLI.o.later HF3.o.lo)).mono ?_;rintro e V4 ⟨a2',c2',rfl,hO4,hb4⟩;have HF4:=aC (HF3.o.below hb4);obtain⟨l0,l1,l2,l3⟩:=aG HF4.o.c;obtain⟨p0,p1,p2,p3⟩:=aG HF4.o.r;obtain⟨r0,r1,r2,r3⟩:=bC HF4.o.r)))
  all_goals
   have HO4:=aC (hO4 W.heap.size (Cde.aW hO (show W.heap.size<=V2.drew.heap.size from HF1.o.lo.size)) HF3.o.lo.size)
   clear k0 k1 k2 k3 l0 l1 l2 l3 p0 p1 p2 p3 r0 r1 r2 r3 hO hb hO4 hb4 HFo HHa HS x0 x1 x2 x3 HF3 h0 hr
   have hq:=own_ne HO4.o HF4.o.r (by decide)
   have hlen:=(uF h0').2.1
   rw[HLn.o] at hlen
   generalize hu:xJ f d L out=u at *
   generalize hI:zC f d L out=I at *
   have HO5:=aC (dB HO4.o hq (.int .i64 f) (.int .i64 d) (.slice a2' n c2') (.int .i64 u))
   have HF5:=aC (HF4.o.put (.int .i64 f) (.int .i64 d) (.slice a2' n c2') (.int .i64 u))
   obtain⟨V5,hV5⟩:∃ V5,(((V4.setCell ⟨W.heap.size+1,0,none⟩ (.int .i64 f)).setCell ⟨W.heap.size+1,1,none⟩ (.int .i64 d)).setCell ⟨W.heap.size+1,2,none⟩ (.slice a2' n c2')).setCell ⟨W.heap.size+1,3,none⟩ (.int .i64 u)=V5:=⟨_,rfl⟩
   unfold s4 at HO5 HF5
   rw[hV5] at HO5 HF5 ⊢
   clear hV5 hq HF4 HO4
   go_wp2_with fail
   obtain⟨q0,q1,q2,q3⟩:=aG HF5.o.r
   exact bodyPost_ret (v:=.tuple #[.agg (cd f d a2' n c2' u),.int .i64 0]) (by simp[results,Tryz.results74,go_sem,q0,q1,q2,q3]) rfl (lM.row h0' hI hu hlen HO5.o HF5.o.lo)
 ·have hr:(er != 0)=true:=by simpa using h0
  go_upto_region 3 with fail
  obtain⟨V2,hV2⟩:∃ V2,V1.alloc (.cells #[.slice ga m gc,.int .i64 co,.int .i64 0] 47)=V2:=⟨_,rfl⟩
  rw[hV2] at HF1 ⊢
  clear x0 x1 x2 x3 p0 p1 p2 p3 z0 z1 hV2
  obtain⟨p0,p1,p2,p3⟩:=aG HF1.o.r
  obtain⟨r0,r1,r2,r3⟩:=bC HF1.o.r
  obtain⟨V3,hV3⟩:∃ V3,(((V2.setCell ⟨W.heap.size+1,0,none⟩ (.int .i64 0)).setCell ⟨W.heap.size+1,1,none⟩ (.int .i64 0)).setCell ⟨W.heap.size+1,2,none⟩ (.slice none 0 0)).setCell ⟨W.heap.size+1,3,none⟩ (.int .i64 0)=V3:=⟨_,rfl⟩
  have HF2:Hid (Fg W V3 (cd f d a n cap out) bM):=aC (by rw[<-hV3];exact HF1.o.put (.int .i64 0) (.int .i64 0) (.slice none 0 0) (.int .i64 0))
  go_wp2_with fail
  obtain⟨q0,q1,q2,q3⟩:=aG HF2.o.r
  exact bodyPost_ret (v:=.tuple #[.agg bM,.int .i64 er]) (by simp[results,Tryz.results74,go_sem,q0,q1,q2,q3]) rfl (lM.no HEr.o h0 HF2.o.lo)
end Go.Proofs.Fld
