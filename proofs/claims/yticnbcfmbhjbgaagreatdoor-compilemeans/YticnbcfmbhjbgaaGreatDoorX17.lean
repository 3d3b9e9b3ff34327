import Derived.Deep.AppendLies
import Derived.Deep.RegionHeld3
import Derived.Test.YticnbcfmbhjbgaaGreatDoorX13
set_option maxRecDepth 100000
set_option maxHeartbeats 32000000
set_option linter.unusedVariables false
namespace Go.Proofs.Cde
section
open Go.RowKit Go.IntWalk Knd
open YticnbcfmbhjbgaaGreatDoor (aB)
variable {V W w:World} {v x:Value} {b base c cap g k n size:Nat} {a:Option Addr} {D L:List Int} {e t:TypeId} {xs:List Value}
theorem lL:Tryz.prog.follows .mixedOrders=true:=by kernel_rfl
theorem aGe {P:Program}{f:FuncId}{args:Array Value}(h:Calls P f args V fun e w'=>e=.returned v/\w'=V):Calls P f args V fun e w'=>e=.returned v/\Below V.heap.size V w' :=
 h.mono fun _ _ ⟨he,hw⟩=>⟨he,hw ▸ Below.refl _ _⟩
theorem aF (w:World):Below w.heap.size w w.drew:=(Below.refl _ _).drew
theorem aM0 (w:World)(q:Nat):Below w.heap.size w (w.drewN q):=⟨rfl,rfl,rfl,nLr _,fun _ _=>rfl⟩
theorem aG {α:Type}(z:α){L:List α}(h:k < L.length):L.take (k+1)=L.take k++[L.getD k z]:=by
 rw[lTs h,gdE,gEg h]
 rfl
theorem pX {α:Type}(z:α){L:List α}(h:k < L.length):L.getD k z ∈ L:=by
 rw[gdE,gEg h]
 exact List.getElem_mem _
structure In where
 op:Int
 a:Int
 b:Int
 c:Int
 k:Int
 s:Int
 deriving DecidableEq
def i0:In:=⟨0,0,0,0,0,0⟩
abbrev ia (n:In):Array Value:=#[.i n.op,.i n.a,.i n.b,.i n.c,.i n.k,.i n.s]
def i6 (n:In):List Value:=[.i n.op,.i n.a,.i n.b,.i n.c,.i n.k,.i n.s]
def dL (L:List In):List Value:=L.flatMap i6
abbrev kd (f d:Int):Array Value:=#[.i f,.i d]
abbrev cd (f d:Int)(a:Option Addr)(n cap:Nat)(o:Int):Array Value:=#[.i f,.i d,.slice a n cap,.i o]
theorem aCx (L:List In):(dL L).length=L.length*6:=by
 induction L with
 | nil=>rfl
 | cons p L ih=>simp[dL,i6] at *;omega
theorem uE (L:List In)(n:In):dL (L++[n])=dL L++i6 n:=by simp[dL]
theorem aTf (L:List In):∀ u ∈ dL L,u.oneCell'=true:=by
 intro u hu
 simp only[dL,List.mem_flatMap] at hu
 obtain⟨n,_,hn⟩:=hu
 simp[i6] at hn
 rcases hn with rfl|rfl|rfl|rfl|rfl|rfl <;> rfl
theorem aCw:∀(L:List In) (i:Nat),i < L.length->∀ j v,(i6 (L.getD i i0))[j]?=some v->(dL L)[i*6+j]?=some v
 | [],i,h=>by simp at h
 | p::L,0,h=>fun j v hv=>by
  have hj:j < 6:=by
   rcases Nat.lt_or_ge j 6 with h|h
   ·exact h
   ·rw[List.getElem?_eq_none (by simpa [i6] using h)] at hv;cases hv
  simp only[dL,List.flatMap_cons,Nat.zero_mul,nZa]
  rw[gAl (by simpa [i6] using hj)]
  simpa using hv
 | p::L,i+1,h=>fun j v hv=>by
  have:=aCw L i (by simpa using h) j v (by simpa using hv)
  simp only[dL,List.flatMap_cons] at this ⊢
  rw[gAr (by simp[i6];omega)]
  rw[show (i+1)*6+j-(i6 p).length=i*6+j by simp[i6];omega]
  exact this
structure Ins (W:World)(a:Option Addr)(n cap:Nat)(L:List In):Prop where
 len:L.length=n
 le:n<=cap
 max:cap<=maxLen
 nil:a=none->cap=0
 cell:n=0\/∃ b off,a=some ⟨b,off,none⟩/\b < W.heap.size/\∀ i,i < n->∀ j v,(i6 (L.getD i i0))[j]?=some v->W.cell? ⟨b,off+i*6+j,none⟩=some v
theorem Ins.of_owns {L:List In}(h:W.ownsRow base 132 6 v n (dL L)):∃ a cap,v=.slice a n cap/\Ins W a n cap L/\(∀ x,a=some x->base<=x.block/\x.block < W.heap.size):=by
 have hl:L.length=n:=by have:=h.1;rw[aCx] at this;omega
 have hcs:=fun g hg=>h.cells (g:=g) hg
 have hlt:=h.lt
 rcases h.2 with⟨rfl,rfl⟩|⟨g,cap,cur,rfl,hb,hg,hnc,hcm,hsz,htake⟩
 ·exact⟨none,0,rfl,⟨hl,nLr _,nZl _,fun _=>rfl,.inl rfl⟩,fun x hx=>by cases hx⟩
 ·refine⟨some ⟨g,0,none⟩,cap,rfl,⟨hl,hnc,hcm,(fun h=>by cases h),.inr ⟨g,0,rfl,(hlt g rfl).2,fun i hi j u hu=>?_⟩⟩,fun x hx=>by cases hx;exact hlt g rfl⟩
  have:=hcs g rfl _ _ (aCw L i (by omega) j u hu)
  rw[Addr.add_lit] at this
  rw[Nat.add_assoc]
  exact this
theorem Ins.later {W':World}{L:List In}(h:Ins W a n cap L)(hb:Below W.heap.size W W'):Ins W' a n cap L:=by
 refine⟨h.len,h.le,h.max,h.nil,?_⟩
 rcases h.cell with h0|⟨b,off,ha,hlt,hc⟩
 ·exact .inl h0
 ·exact .inr ⟨b,off,ha,Nat.lt_of_lt_of_le hlt hb.size,fun i hi j v hv=>(hb.cell (p:=⟨b,off+i*6+j,none⟩) hlt).trans (hc i hi j v hv)⟩
abbrev sI (W:World)(b o:Nat)(n:In):Prop :=
 W.cell? ⟨b,o,none⟩=some (.i n.op)/\W.cell? ⟨b,o+1,none⟩=some (.i n.a)/\W.cell? ⟨b,o+2,none⟩=some (.i n.b)/\W.cell? ⟨b,o+3,none⟩=some (.i n.c)/\W.cell? ⟨b,o+4,none⟩=some (.i n.k)/\W.cell? ⟨b,o+5,none⟩=some (.i n.s)
theorem Ins.at {L:List In}(h:Ins W a n cap L)(h0:0 < n):∃ g off,a=some ⟨g,off,none⟩/\g < W.heap.size/\∀ i,i < n->sI W g (off+i*6) (L.getD i i0):=by
 rcases h.cell with h|⟨g,off,ha,hlt,hc⟩
 ·omega
 ·exact⟨g,off,ha,hlt,fun i hi=>⟨hc i hi 0 _ rfl,hc i hi 1 _ rfl,hc i hi 2 _ rfl,hc i hi 3 _ rfl,hc i hi 4 _ rfl,hc i hi 5 _ rfl⟩⟩
theorem Ins.news {L:List In}(h:Ins w a n cap L):∀ ad,a=some ad->∀ j u,(dL L)[j]?=some u->w.cell? (ad.add j)=some u:=by
 intro ad ha j u hu
 have h2:=h.len
 have hj:j < n*6:=by
  have:=(List.getElem?_eq_some_iff.1 hu).1
  rw[aCx] at this
  omega
 rcases h.cell with h0|⟨b,off,ha',hb,hc⟩
 ·omega
 ·rw[ha] at ha'
  cases ha'
  rw[Addr.add_lit]
  obtain⟨v,hv⟩:∃ v,(i6 (L.getD (j / 6) i0))[j % 6]?=some v:=⟨(i6 (L.getD (j / 6) i0))[j % 6]'(by simp[i6];omega),gEg _⟩
  have h3:=hc (j / 6) (by omega) (j % 6) v hv
  have h4:=aCw L (j / 6) (by omega) (j % 6) v hv
  rw[show j / 6*6+j % 6=j by omega] at h4
  rw[h4] at hu
  cases hu
  rw[show off+j / 6*6+j % 6=off+j by omega] at h3
  exact h3
theorem Ins.short {L:List In}(h:Ins w a n c L):n<=9223372036854775807:=by
 have:=h.le;have:=h.max;unfold maxLen at this;omega
theorem spn (h:Ints w a n c L):Knd.Ints w a n c L:=⟨h.len,h.le,h.max,h.nil,h.cell⟩
theorem aP {y:Value}(h:aB W b t #[x,y]):W.cell? ⟨b,0,none⟩=some x/\W.cell? ⟨b,1,none⟩=some y:=⟨h.cell 0 rfl,h.cell 1 rfl⟩
theorem aC {y z u:Value}(h:aB W b t #[x,y,z,u]):W.cell? ⟨b,0,none⟩=some x/\W.cell? ⟨b,1,none⟩=some y/\W.cell? ⟨b,2,none⟩=some z/\W.cell? ⟨b,3,none⟩=some u :=
 ⟨h.cell 0 rfl,h.cell 1 rfl,h.cell 2 rfl,h.cell 3 rfl⟩
theorem aH {n:In}(h:aB W b t (ia n)):sI W b 0 n:=⟨h.cell 0 rfl,h.cell 1 rfl,h.cell 2 rfl,h.cell 3 rfl,h.cell 4 rfl,h.cell 5 rfl⟩
theorem aJ (W:World)(o:Obj)(t:TypeId)(cs:Array Value):aB ((W.alloc o).alloc (.cells cs t)) (W.heap.size+1) t cs:=by
 have:=aB.new (W.alloc o) t cs
 rwa[wSa] at this
abbrev zA (L:List Int):Array Value:=(iD L).toArray
theorem gZ (L:List Int)(i:Nat)(h:i < L.length):(zA L)[i]?=some (.i (L.getD i 0)):=by
 unfold zA
 rw[List.getElem?_toArray,gEm,gdE,gEg h]
 rfl
theorem aXu (n:Nat):madeCells #[.i 0] (n*1)=zA (List.replicate n 0):=by
 apply Array.ext_getElem?
 intro i
 by_cases hi:i < n
 ·rw[gZ _ _ (by simpa using hi)]
  unfold madeCells
  rw[Array.getElem?_map,Array.getElem?_eq_getElem (by simpa using hi)]
  have hz:(List.replicate n (0:Int)).getD i 0=0:=by
   rw[gdE,List.getElem?_replicate];split <;> rfl
  rw[hz]
  simp only[Array.getElem_range,Option.map_some]
  show some ((#[Value.int .i64 0])[i % 1]!)=_
  rw[Nat.mod_one]
  rfl
 ·rw[Array.getElem?_eq_none (by rw[size_madeCells];omega),Array.getElem?_eq_none (by simp;omega)]
theorem aXy (n:Nat)(h:n<=1024)(w:World):(Instr.makeSlice 24 (.i n) (.i n)).run Tryz.prog w=.ok (.slice (some ⟨w.heap.size,0,none⟩) n n) (w.alloc (.cells (zA (List.replicate n 0)) 3)):=by
 obtain⟨i0,hi,hz0,hz1,hz2⟩:=info_parts info3
 have:=run_make w 24 3 i0 _ Tryz.underlying24 hi hz0 .i64 .i64 n n (by omega) (iLr _) (by rw[hz2];omega) (by omega)
 rw[hz1] at this
 simp only[iTn] at this
 have e:madeCells (Value.int .i64 0).cells (n*1)=zA (List.replicate n 0):=aXu n
 rw[e] at this
 exact this
theorem aJq {Z:List Int}{q:Int}(h:aB W g 3 (zA (D++q::Z)))(hk:D.length=k)(x:Int):aB (W.setCell ⟨g,k,none⟩ (.i x)) g 3 (zA (D++x::Z)):=by
 subst hk
 have:=h.set D.length (.i x)
 have e:(zA (D++q::Z)).setIfInBounds D.length (.i x)=zA (D++x::Z):=by
  apply Array.toList_inj.1
  simp only[Array.toList_setIfInBounds,List.map_append,lMc]
  rw[List.set_append_right _ _ (by simp)]
  simp
 rwa[e] at this
theorem bBw (h:aB W g 3 (zA D))(x:Int):aB (W.setCell ⟨g,k,none⟩ (.i x)) g 3 (zA (D.set k x)):=by
 have:=h.set k (.i x)
 have e:(zA D).setIfInBounds k (.i x)=zA (D.set k x):=by
  apply Array.toList_inj.1
  simp[List.map_set]
 rwa[e] at this
theorem aWc (h:aB W g 3 (zA L))(hl:L.length<=1024):Ints W (some ⟨g,0,none⟩) L.length L.length L:=by
 refine⟨rfl,nLr _,by unfold maxLen;omega,(fun h=>by cases h),.inr ⟨g,0,rfl,fun i hi=>?_⟩⟩
 rw[nZa]
 exact h.cell i (gZ L i hi)
theorem dJ {S Z:List Int}{i:Nat}(h:i < S.length):(S++Z).getD i 0=S.getD i 0:=by
 rw[gdE,gAl h,<-gdE]
structure Ls (w W:World)(v:Value)(L:List Int):Prop where
 a:W.ownsRow w.heap.size 3 1 v L.length (iD L)
 bel:Below w.heap.size w W
theorem Ls.later {W':World}(h:Ls w W v L)(hb:Below W.heap.size W W'):Ls w W' v L:=by
 have hg:W.grownBy W' none:=⟨hb.os,hb.tape,hb.output,hb.size,fun k hk _=>hb.block k hk⟩
 refine⟨h.a.kept hg ?_,h.bel.trans (hb.mono h.bel.size)⟩
 cases hv:v.ownBlock with
 | none=>exact .inl rfl
 | some q=>exact .inr (by simp)
theorem aR (h:W.ownsRow base e size v n xs):∀ k,v.ownBlock=some k->base<=k/\∃ cs fr,W.heap[k]?=some (.cells cs e fr):=by
 intro k hk
 rcases h.2 with⟨rfl,_⟩|⟨g,cap,cur,rfl,hb,hgg,rest⟩
 ·simp[Value.ownBlock] at hk
 ·simp[Value.ownBlock] at hk
  subst hk
  exact⟨hb,_,_,hgg⟩
theorem bS {base':Nat}(h:w.ownsRow base e size v n xs)(hb:base'<=base):w.ownsRow base' e size v n xs:=by
 obtain⟨h1,h2⟩:=h
 refine⟨h1,?_⟩
 rcases h2 with h2|⟨g,cap,cur,hv,hg,rest⟩
 ·exact .inl h2
 ·exact .inr ⟨g,cap,cur,hv,Nat.le_trans hb hg,rest⟩
theorem bI {V':World}{lo:Nat}(h:V.ownsRow lo e size v n xs)(hb:Below V.heap.size V V'):V'.ownsRow lo e size v n xs:=by
 have hg:V.grownBy V' none:=⟨hb.os,hb.tape,hb.output,hb.size,fun k hk _=>hb.block k hk⟩
 refine h.kept hg ?_
 cases hv:v.ownBlock with
 | none=>exact .inl rfl
 | some q=>exact .inr (by simp)
theorem lN {q:Nat}(h:aB W q t #[x]):∀ j u,[x][j]?=some u->W.cell? ((⟨q,0,none⟩:Addr).add j)=some u:=by
 intro j u hu
 have hj:j=0:=by
  by_cases hj:j=0
  ·exact hj
  ·simp[hj] at hu
 subst hj
 simp at hu
 subst hu
 rw[Addr.add_lit]
 exact h.cell 0 rfl
theorem kL {ops:Array Oper}{rest:List Oper}{o:Oper}{a:Act}{Q:Exit->Act->World->Prop}
  (hgd:o.guard=none) (s x:Operand) (ho:o.op=.call { callee:=.builtin .append,args:=#[s,x],argTypes:=#[24,24] })
  (hs:a.eval s=v) (hen:Ls w W v L) (b:Nat) (p:Int) (hx:a.eval x=.slice (some ⟨b,0,none⟩) 1 1) (hc:aB W b 3 #[.i p]) (h3:L.length<=2000000)
  (h:∀ g cap w',Ls w w' (.slice (some ⟨g,0,none⟩) (L.length+1) cap) (L++[p])->wpList Tryz.prog ops Q rest (a.put o.dst (.slice (some ⟨g,0,none⟩) (L.length+1) cap)) w') :
  wpList Tryz.prog ops Q (o::rest) a W:=by
 obtain⟨i0,hi0,hz0,hz1,hz2⟩:=info_parts info3
 refine wpList_append_lies W hgd s x 24 ho w.heap.size 3 i0 _ 1 8 Tryz.underlying24 hi0 hz0 hz1 hz2 rfl (by omega) v L.length (iD L) hs hen.a ⟨b,0,none⟩ 1 1 [.i p] hx rfl (lN hc) (by simp[Value.oneCell']) (by omega) (by unfold maxLen;omega) (by omega) hen.bel.size W.heap.size rfl ?_
 intro g cap w' hown hgrow hat hlt
 exact h g cap w' ⟨by rw[lLa];simpa using hown,hen.bel.grown hgrow hen.bel.size fun k hk=>(aR hen.a k hk).1⟩
theorem aVh (h:V.ownsRow w.heap.size 3 1 (.slice a D.length c) D.length (iD D)):Ints V a D.length c D:=by
 obtain⟨a',c',e,hi,-⟩:=Ints.of_owns h
 cases e
 exact hi
def jK (o:Int):Int:=if o=4 then 0 else if o=11 then 4 else if o=12 then 6 else 1
theorem aNb (o:Int):0<=jK o/\jK o<=6:=by
 unfold jK
 split
 ·omega
 ·split
  ·omega
  ·split <;> omega
end
section
open Go.RowKit Go.IntWalk Knd
theorem iT {a b:Bool}(h:a=b):Ending.returned (.bool a)=.returned (.bool b):=by rw[h]
theorem pR (x lo hi:Int)(w:World) :
  Calls Tryz.prog 128 #[.i x,.i lo,.i hi] w fun e w'=>e=.returned (.bool (Spn.fC x lo hi))/\w'=w:=by
 by_cases h1:lo<=x
 ·go_enter Tryz.func128,Tryz.ntmps128
  go_wp2
  go_ret
  exact⟨iT (by simp[Spn.fC,h1]),rfl⟩
 ·rw[show Spn.fC x lo hi=false from Spn.aWd (by omega)]
  go_enter Tryz.func128,Tryz.ntmps128
  go_wp2
  go_ret
  exact⟨rfl,rfl⟩
theorem iY (o:Int)(W:World):Calls Tryz.prog 100 #[.i o] W fun e W'=>e=.returned (.i (jK o))/\W'=W:=by
 by_cases h1:o=4
 ·subst h1
  go_enter Tryz.func100,Tryz.ntmps100
  go_wp2
  go_ret
  exact⟨rfl,rfl⟩
 by_cases h2:o=11
 ·subst h2
  go_enter Tryz.func100,Tryz.ntmps100
  go_wp2
  go_ret
  exact⟨rfl,rfl⟩
 by_cases h3:o=12
 ·subst h3
  go_enter Tryz.func100,Tryz.ntmps100
  go_wp2
  go_ret
  exact⟨rfl,rfl⟩
 have e:jK o=1:=by unfold jK;rw[if_neg h1,if_neg h2,if_neg h3]
 rw[e]
 have e1:(o==4)=false:=by simpa using h1
 have e2:(o==11)=false:=by simpa using h2
 have e3:(o==12)=false:=by simpa using h3
 clear h1 h2 h3 e
 go_enter Tryz.func100,Tryz.ntmps100
 go_wp2
 go_ret
 exact⟨rfl,rfl⟩
def tH (r:Int)(used:Bool)(i:Int):Bool:=if used then Spn.fC r 0 (i-1) else r==0
def mV (n:In)(j:Nat):Int:=[n.a,n.b,n.c].getD j 0
def tJ (n:In)(i:Int):Bool:=tH n.a (decide (0 < Spn.ar n.op)) i&&tH n.b (decide (1 < Spn.ar n.op)) i&&tH n.c (decide (2 < Spn.ar n.op)) i
def rgT (n:In)(i:Int)(k:Nat):Bool:=(List.range k).all fun j=>tH (mV n j) (decide ((j:Int) < Spn.ar n.op)) i
theorem aBs (n:In)(i:Int):rgT n i 3=tJ n i:=by
 simp[rgT,tJ,List.range_succ,mV]
 rw[Bool.and_assoc]
theorem aQa (n:In)(i:Int)(k:Nat):rgT n i (k+1)=(rgT n i k&&tH (mV n k) (decide ((k:Int) < Spn.ar n.op)) i):=by
 simp[rgT,List.range_succ]
theorem aP9 {n:In}{i:Int}{k m:Nat}(h:rgT n i m=true)(hk:k<=m):rgT n i k=true:=by
 simp only[rgT,lAe,List.mem_range] at *
 exact fun j hj=>h j (by omega)
def nE (n:In):Bool :=
 if n.op=1 then Spn.wd n.k&&n.s==0 else if n.op=2 then Spn.fC n.k 0 5&&n.s==0 else if n.op=3 then Spn.fC n.k 0 255&&n.s==0 else
 if n.op=29\/n.op=30\/n.op=31\/n.op=32 then Spn.cons n.op n.k n.s&&n.s==0 else if n.op=33 then Spn.cons n.op n.k n.s else n.k==0&&n.s==0
theorem aYy (n:In)(j:Nat)(h:j < 3):(#[Value.int .i64 n.a,.i n.b,.i n.c])[j]?=some (.i (mV n j)):=by
 rcases(show j=0\/j=1\/j=2 by omega) with rfl|rfl|rfl <;> rfl
theorem yG (n:In)(i:Int)(hi:-9223372036854775808<=i-1/\i-1<=9223372036854775807)(W:World) :
  Calls Tryz.prog 130 #[.agg (ia n),.i i] W fun e W'=>e=.returned (.bool (tJ n i))/\Below W.heap.size W W':=by
 have HA:=aA fun W=>Spn.bQ n.op W
 have HWi:=aA fun x lo hi W=>pR x lo hi W
 have HB:=aA (bel (aD W (.cells (ia n) 132)) (aD (W.alloc (.cells (ia n) 132)) (.cells #[.i n.a,.i n.b,.i n.c] 3)))
 have HG:=aA (aJ W (.cells (ia n) 132) 3 #[.i n.a,.i n.b,.i n.c])
 obtain⟨i1,i2⟩:=hi
 rw[<-aBs]
 have HT:=aA fun k=>aQa n i k
 have HD:=aA fun k m (h:rgT n i m=true) (hk:k<=m)=>aP9 h hk
 have H0:Hid (rgT n i 0=true):=aA rfl
 generalize rgT n i=T at *
 generalize Spn.ar n.op=ar at *
 have HR:=aA fun j h=>aYy n j h
 go_enter Tryz.func130,Tryz.ntmps130
 go_wp2_with fail
 refine(HA.o _).mono ?_
 rintro e w1 ⟨rfl,rfl⟩
 go_wp2_with fail
 obtain⟨V,hV⟩:∃ V,(W.alloc (.cells (ia n) 132)).alloc (.cells #[.i n.a,.i n.b,.i n.c] 3)=V:=⟨_,rfl⟩
 rw[hV] at HB HG ⊢
 clear hV HA
 go_loop [19] (fun j=>∃ k:Nat,k<=3/\j=.i k/\Hid (T k=true)) (fun j=>3-(intOf j).toNat)
 case atStart=>exact⟨0,by omega,rfl,aA H0.o⟩
 case round =>
  obtain⟨k,hk,rfl,HK⟩:=hrel
  by_cases hlt:k < 3
  ·have c0:=HG.o.cell k (HR.o k hlt)
   have hs:=HT.o k
   rw[HK.o,Bool.true_and] at hs
   generalize mV n k=r at *
   have j0:(0:Int)<=k:=by omega
   have j1:(k:Int) < 3:=by omega
   by_cases hu:(k:Int) < ar
   ·rw[show tH r (decide ((k:Int) < ar)) i=Spn.fC r 0 (i-1) by simp[tH,hu]] at hs
    have HS:=aA hs
    clear hs
    cases hB:Spn.fC r 0 (i-1)
    ·go_wp2_with (go_at_call 128;refine(HWi.o _ _ _ _).mono ?_;rintro e w' ⟨rfl,rfl⟩)
     go_ret
     refine⟨iT ?_,HB.o⟩
     cases h3:T 3
     ·rfl
     ·have:=HD.o (k+1) 3 h3 (by omega)
      rw[HS.o,hB] at this
      exact this
    ·have hu2:decide (ar<=(k:Int))=false:=by simp;omega
     go_wp2_with (go_at_call 128;refine(HWi.o _ _ _ _).mono ?_;rintro e w' ⟨rfl,rfl⟩)
     go_round
     case rel=>exact⟨k+1,by omega,by go_num,aA (by rw[HS.o];exact hB)⟩
     case measure=>simp[intOf];omega
   ·rw[show tH r (decide ((k:Int) < ar)) i=(r==0) by simp[tH,hu]] at hs
    have HS:=aA hs
    clear hs
    have hu2:ar<=(k:Int):=by omega
    have hu3:decide ((k:Int) < ar)=false:=by simpa using hu
    by_cases hr:r=0
    ·subst hr
     go_wp2_with fail
     go_round
     case rel=>exact⟨k+1,by omega,by go_num,aA HS.o⟩
     case measure=>simp[intOf];omega
    ·have hr2:(r != 0)=true:=by simpa using hr
     go_wp2_with fail
     go_ret
     refine⟨iT ?_,HB.o⟩
     cases h3:T 3
     ·rfl
     ·have:=HD.o (k+1) 3 h3 (by omega)
      rw[HS.o] at this
      simp[hr] at this
  ·obtain rfl:k=3:=by omega
   go_wp2_with fail
   go_ret
   exact⟨iT HK.o.symm,HB.o⟩
theorem xX (n:In)(W:World) :
  Calls Tryz.prog 131 #[.agg (ia n)] W fun e W'=>e=.returned (.bool (nE n))/\Below W.heap.size W W':=by
 have HB:=aA (aD W (.cells (ia n) 132))
 have HWi:=aA fun x lo hi W=>pR x lo hi W
 have HWd:=aA fun x W=>Spn.eQ x W
 have HC:=aA fun op k s W=>Spn.iC op k s W
 obtain⟨op,a,b,c,k,s⟩:=n
 unfold nE
 dsimp only at *
 by_cases h1:op=1
 ·subst h1
  rw[if_pos rfl]
  cases hq:Spn.wd k
  ·go_enter Tryz.func131,Tryz.ntmps131
   go_wp2_with (go_at_call 202;refine(HWd.o _ _).mono ?_;rintro e w' ⟨rfl,rfl⟩)
   go_ret
   exact⟨iT rfl,HB.o⟩
  ·go_enter Tryz.func131,Tryz.ntmps131
   go_wp2_with (go_at_call 202;refine(HWd.o _ _).mono ?_;rintro e w' ⟨rfl,rfl⟩)
   go_ret
   exact⟨iT (by simp),HB.o⟩
 rw[if_neg h1]
 have q1:(op==1)=false:=by simpa using h1
 by_cases h2:op=2
 ·subst h2
  clear q1 h1
  rw[if_pos rfl]
  cases hq:Spn.fC k 0 5
  ·go_enter Tryz.func131,Tryz.ntmps131
   go_wp2_with (go_at_call 128;refine(HWi.o _ _ _ _).mono ?_;rintro e w' ⟨rfl,rfl⟩)
   go_ret
   exact⟨iT rfl,HB.o⟩
  ·go_enter Tryz.func131,Tryz.ntmps131
   go_wp2_with (go_at_call 128;refine(HWi.o _ _ _ _).mono ?_;rintro e w' ⟨rfl,rfl⟩)
   go_ret
   exact⟨iT (by simp),HB.o⟩
 rw[if_neg h2]
 have q2:(op==2)=false:=by simpa using h2
 by_cases h3:op=3
 ·subst h3
  clear q1 h1 q2 h2
  rw[if_pos rfl]
  cases hq:Spn.fC k 0 255
  ·go_enter Tryz.func131,Tryz.ntmps131
   go_wp2_with (go_at_call 128;refine(HWi.o _ _ _ _).mono ?_;rintro e w' ⟨rfl,rfl⟩)
   go_ret
   exact⟨iT rfl,HB.o⟩
  ·go_enter Tryz.func131,Tryz.ntmps131
   go_wp2_with (go_at_call 128;refine(HWi.o _ _ _ _).mono ?_;rintro e w' ⟨rfl,rfl⟩)
   go_ret
   exact⟨iT (by simp),HB.o⟩
 rw[if_neg h3]
 have q3:(op==3)=false:=by simpa using h3
 by_cases h4:op=29\/op=30\/op=31\/op=32
 ·rw[if_pos h4]
  clear q1 h1 q2 h2 q3 h3
  rcases h4 with rfl|rfl|rfl|rfl
  ·cases hq:Spn.cons 29 k s
   ·go_enter Tryz.func131,Tryz.ntmps131
    go_wp2_with (go_at_call 203;refine(HC.o _ _ _ _).mono ?_;rintro e w' ⟨rfl,rfl⟩)
    go_ret
    exact⟨iT rfl,HB.o⟩
   ·go_enter Tryz.func131,Tryz.ntmps131
    go_wp2_with (go_at_call 203;refine(HC.o _ _ _ _).mono ?_;rintro e w' ⟨rfl,rfl⟩)
    go_ret
    exact⟨iT (by simp),HB.o⟩
  ·cases hq:Spn.cons 30 k s
   ·go_enter Tryz.func131,Tryz.ntmps131
    go_wp2_with (go_at_call 203;refine(HC.o _ _ _ _).mono ?_;rintro e w' ⟨rfl,rfl⟩)
    go_ret
    exact⟨iT rfl,HB.o⟩
   ·go_enter Tryz.func131,Tryz.ntmps131
    go_wp2_with (go_at_call 203;refine(HC.o _ _ _ _).mono ?_;rintro e w' ⟨rfl,rfl⟩)
    go_ret
    exact⟨iT (by simp),HB.o⟩
  ·cases hq:Spn.cons 31 k s
   ·go_enter Tryz.func131,Tryz.ntmps131
    go_wp2_with (go_at_call 203;refine(HC.o _ _ _ _).mono ?_;rintro e w' ⟨rfl,rfl⟩)
    go_ret
    exact⟨iT rfl,HB.o⟩
   ·go_enter Tryz.func131,Tryz.ntmps131
    go_wp2_with (go_at_call 203;refine(HC.o _ _ _ _).mono ?_;rintro e w' ⟨rfl,rfl⟩)
    go_ret
    exact⟨iT (by simp),HB.o⟩
  ·cases hq:Spn.cons 32 k s
   ·go_enter Tryz.func131,Tryz.ntmps131
    go_wp2_with (go_at_call 203;refine(HC.o _ _ _ _).mono ?_;rintro e w' ⟨rfl,rfl⟩)
    go_ret
    exact⟨iT rfl,HB.o⟩
   ·go_enter Tryz.func131,Tryz.ntmps131
    go_wp2_with (go_at_call 203;refine(HC.o _ _ _ _).mono ?_;rintro e w' ⟨rfl,rfl⟩)
    go_ret
    exact⟨iT (by simp),HB.o⟩
 rw[if_neg h4]
 by_cases h5:op=33
 ·subst h5
  rw[if_pos rfl]
  clear q1 h1 q2 h2 q3 h3 h4
  go_enter Tryz.func131,Tryz.ntmps131
  go_wp2_with (go_at_call 203;refine(HC.o _ _ _ _).mono ?_;rintro e w' ⟨rfl,rfl⟩)
  go_ret
  exact⟨rfl,HB.o⟩
 rw[if_neg h5]
 have q4:(op==29)=false:=by simp;omega
 have q5:(op==30)=false:=by simp;omega
 have q6:(op==31)=false:=by simp;omega
 have q7:(op==32)=false:=by simp;omega
 have q8:(op==33)=false:=by simpa using h5
 clear h1 h2 h3 h4 h5
 by_cases hk:k=0
 ·subst hk
  go_enter Tryz.func131,Tryz.ntmps131
  go_wp2_with fail
  go_ret
  exact⟨iT (by simp),HB.o⟩
 ·have hk2:(k==0)=false:=by simpa using hk
  clear hk
  go_enter Tryz.func131,Tryz.ntmps131
  go_wp2_with fail
  go_ret
  exact⟨iT (by simp[hk2]),HB.o⟩
end
section
open Go.RowKit Go.IntWalk Knd
open YticnbcfmbhjbgaaGreatDoor (aB)
variable {L:List In} {n:Nat}
def bE (n:In)(i:Nat):Bool:=decide (0<=Spn.ar n.op)&&tJ n i&&nE n
def eH (L:List In)(k:Nat):Bool:=(List.range k).all fun i=>bE (L.getD i i0) i
theorem aFm (L:List In)(k:Nat):eH L (k+1)=(eH L k&&bE (L.getD k i0) k):=by
 simp[eH,List.range_succ]
theorem dE {m:Nat}(h:eH L m=true){k:Nat}(hk:k < m):bE (L.getD k i0) k=true:=by
 simp only[eH,lAe,List.mem_range] at h
 exact h k hk
def kM (f d:Int)(L:List In)(out:Int):Bool:=decide (May f d)&&Spn.fC L.length 1 200&&Spn.fC out 0 ((L.length:Int)-1)&&eH L L.length
def ccE (f d:Int)(L:List In)(out:Int):Int:=if kM f d L out=true then 0 else 15
def okE (L:List In)(n:Nat):Int:=if eH L n=true then 0 else 15
theorem aDa (h:eH L n=true->False):(15:Int)=okE L n:=by unfold okE;rw[if_neg h]
theorem aYc (h:eH L n=true):(0:Int)=okE L n:=by unfold okE;rw[if_pos h]
theorem lH (f d:Int)(w:World):Calls Tryz.prog 30 #[.agg (kd f d)] w fun e w'=>e=.returned (.i (if May f d then 0 else 1))/\Below w.heap.size w w':=by
 by_cases h:May f d
 ·rw[if_pos h];exact fK f d w h
 ·rw[if_neg h];exact iM f d w h
theorem gF (f d out:Int){a:Option Addr}{cap:Nat}{W:World}(hL:Ins W a n cap L) :
  Calls Tryz.prog 67 #[.agg (cd f d a n cap out)] W fun e W'=>e=.returned (.i (ccE f d L out))/\Below W.heap.size W W':=by
 have HB0:=aA (aD W (.cells (cd f d a n cap out) 33))
 have HC0:=aA (aB.new W 33 (cd f d a n cap out))
 have hn:=hL.short
 have HLn:=aA hL.len
 have HK:=aA fun w=>lH f d w
 have HWi:=aA fun x lo hi w=>pR x lo hi w
 have HL0:=aA hL
 clear hL
 have n1:-9223372036854775808<=(n:Int)-1/\(n:Int)-1<=9223372036854775807:=by omega
 have n0:0<=(n:Int):=by omega
 by_cases hm:May f d
 ·rw[if_pos hm] at HK
  cases hc:Spn.fC (n:Int) 1 200
  ·rw[show ccE f d L out=15 by simp[ccE,kM,HLn.o,hc]]
   go_enter Tryz.func67,Tryz.ntmps67
   go_wp2_with (first
    | (go_at_call 30;refine(HK.o _).mono ?_;rintro e w1 ⟨rfl,hb⟩;have HB1:=aA (bel HB0.o hb);obtain⟨c0,c1,c2,c3⟩:=aC (HC0.o.below hb);clear hb)
    | (go_at_call 128;refine(HWi.o _ _ _ _).mono ?_;rintro e w' ⟨rfl,rfl⟩))
   go_ret
   exact⟨rfl,HB1.o⟩
  ·cases ho:Spn.fC out 0 ((n:Int)-1)
   ·rw[show ccE f d L out=15 by simp[ccE,kM,HLn.o,ho]]
    go_enter Tryz.func67,Tryz.ntmps67
    go_wp2_with (first
     | (go_at_call 30;refine(HK.o _).mono ?_;rintro e w1 ⟨rfl,hb⟩;have HB1:=aA (bel HB0.o hb);obtain⟨c0,c1,c2,c3⟩:=aC (HC0.o.below hb);clear hb)
     | (go_at_call 128;refine(HWi.o _ _ _ _).mono ?_;rintro e w' ⟨rfl,rfl⟩))
    go_ret
    exact⟨rfl,HB1.o⟩
   ·have hE:ccE f d L out=okE L n:=by simp[okE,ccE,kM,HLn.o,ho,hm,hc]
    rw[hE]
    clear hE
    have hcc:=Spn.aK.1 hc
    go_enter Tryz.func67,Tryz.ntmps67
    go_wp2_with (first
     | (go_at_call 30;refine(HK.o _).mono ?_;rintro e w1 ⟨rfl,hb⟩;have HB1:=aA (bel HB0.o hb);obtain⟨c0,c1,c2,c3⟩:=aC (HC0.o.below hb);clear hb)
     | (go_at_call 128;refine(HWi.o _ _ _ _).mono ?_;rintro e w' ⟨rfl,rfl⟩))
    clear c0 c1 c2 c3 HB0 HC0 HK ho hc
    go_loopw [29] (fun i wr=>∃ k:Nat,k<=n/\i=.i k/\Hid (eH L k=true)/\Hid (Below W.heap.size W wr)) (fun i _=>n-(intOf i).toNat)
    case atStart=>exact⟨0,nZl _,rfl,aA rfl,HB1⟩
    case round =>
     obtain⟨k,hk,rfl,HT,HB⟩:=hrel
     rename World=>V
     clear HB1
     by_cases hlt:k < n
     ·obtain⟨g,off,rfl,-,hat⟩:=(HL0.o.later HB.o).at (by omega)
      obtain⟨e0,e1,e2,e3,e4,e5⟩:=hat k hlt
      clear hat
      have hi0:(0:Int)<=k:=by omega
      have hi1:(k:Int) < n:=by omega
      have hS:=aFm L k
      have HD:=aA fun h=>dE (L:=L) (m:=n) h hlt
      generalize L.getD k i0=m at *
      rw[HT.o,Bool.true_and] at hS
      have HS:=aA hS
      clear hS
      have HA:=aA fun w=>Spn.bQ m.op w
      have HR:=aA fun w=>yG m k (by omega) w
      have HCs:=aA fun w=>xX m w
      have HBm:=aA (bel HB.o (aD V (.cells (ia m) 132)))
      have HG:=aA (aB.new V 132 (ia m))
      by_cases ha:Spn.ar m.op < 0
      ·have hF:bE m k=false:=by simp[bE];omega
       have HF:=aA hF
       clear hF
       go_wp2_with (go_at_call 129;refine(HA.o _).mono ?_;rintro e w' ⟨rfl,rfl⟩)
       go_ret
       exact⟨aO (aDa fun h=>by have:=HD.o h;rw[HF.o] at this;cases this),HBm.o⟩
      have ha2:decide (Spn.ar m.op < 0)=false:=by simpa using ha
      cases hr:tJ m k
      ·have HF:Hid (bE m k=false):=aA (by simp[bE,hr])
       rw[hr] at HR
       go_wp2_with (first
        | (go_at_call 129;refine(HA.o _).mono ?_;rintro e w' ⟨rfl,rfl⟩)
        | (go_at_call 130;refine(HR.o _).mono ?_;rintro e w2 ⟨rfl,hb⟩;have HB2:=aA (bel HBm.o hb);obtain⟨f0,f1,f2,f3,f4,f5⟩:=aH (HG.o.below hb);clear hb))
       go_ret
       exact⟨aO (aDa fun h=>by have:=HD.o h;rw[HF.o] at this;cases this),HB2.o⟩
      ·rw[hr] at HR
       cases hs:nE m
       ·have HF:Hid (bE m k=false):=aA (by simp[bE,hs])
        rw[hs] at HCs
        go_wp2_with (first
         | (go_at_call 129;refine(HA.o _).mono ?_;rintro e w' ⟨rfl,rfl⟩)
         | (go_at_call 130;refine(HR.o _).mono ?_;rintro e w2 ⟨rfl,hb⟩;have HB2:=aA (bel HBm.o hb);obtain⟨f0,f1,f2,f3,f4,f5⟩:=aH (HG.o.below hb);clear hb)
         | (go_at_call 131;refine(HCs.o _).mono ?_;rintro e w3 ⟨rfl,hb⟩;have HB3:=aA (bel HB2.o hb);clear hb))
        go_ret
        exact⟨aO (aDa fun h=>by have:=HD.o h;rw[HF.o] at this;cases this),HB3.o⟩
       ·have HF:Hid (bE m k=true):=aA (by simp[bE,hs,hr];omega)
        rw[hs] at HCs
        go_wp2_with (first
         | (go_at_call 129;refine(HA.o _).mono ?_;rintro e w' ⟨rfl,rfl⟩)
         | (go_at_call 130;refine(HR.o _).mono ?_;rintro e w2 ⟨rfl,hb⟩;have HB2:=aA (bel HBm.o hb);obtain⟨f0,f1,f2,f3,f4,f5⟩:=aH (HG.o.below hb);clear hb)
         | (go_at_call 131;refine(HCs.o _).mono ?_;rintro e w3 ⟨rfl,hb⟩;have HB3:=aA (bel HB2.o hb);clear hb))
        go_roundw
        case rel=>exact⟨k+1,by omega,by go_num,aA (by rw[HS.o];exact HF.o),HB3⟩
        case measure=>simp[intOf];omega
     ·obtain rfl:k=n:=by omega
      go_wp2_with fail
      go_ret
      exact⟨aO (aYc HT.o),HB.o⟩
 ·rw[if_neg hm] at HK
  rw[show ccE f d L out=15 by simp[ccE,kM,hm]]
  go_enter Tryz.func67,Tryz.ntmps67
  go_wp2_with (go_at_call 30;refine(HK.o _).mono ?_;rintro e w1 ⟨rfl,hb⟩;have HB1:=aA (bel HB0.o hb);obtain⟨c0,c1,c2,c3⟩:=aC (HC0.o.below hb);clear hb)
  go_ret
  exact⟨rfl,HB1.o⟩
end
section
open Go.RowKit Go.IntWalk Knd
open YticnbcfmbhjbgaaGreatDoor (aB)
def dC (n:In):Nat:=(Spn.ar n.op).toNat
def abc (n:In):List Int:=[n.a,n.b,n.c]
def eF (n:In):List Int:=(abc n).take (dC n)
theorem kX (n:In):dC n<=3:=by have:=Spn.xS n.op;unfold dC;omega
theorem gN (n:In):(eF n).length=dC n:=by have:=kX n;simp[eF,abc];omega
theorem jU (op:Int):Spn.ar op=-1\/Spn.ar op=0\/Spn.ar op=1\/Spn.ar op=2\/Spn.ar op=3:=by
 unfold Spn.ar
 repeat' split
 all_goals omega
theorem xO (n:In)(j:Nat)(h:j < 3):(abc n).getD j 0=mV n j:=rfl
theorem aA1 (n:In)(W:World) :
  Calls Tryz.prog 197 #[.agg (ia n)] W fun e W'=>e=.returned (.slice (some ⟨W.heap.size+1,0,none⟩) (dC n) 3)/\aB W' (W.heap.size+1) 3 (zA (abc n))/\Below W.heap.size W W':=by
 have HA:=aA fun W=>Spn.bQ n.op W
 have HB:=aA (aD W (.cells (ia n) 132))
 have HN0:=aA (aB.new W 132 (ia n))
 obtain⟨f0,f1,f2,f3,f4,f5⟩:=aH (aB.new W 132 (ia n))
 have hz:W.heap.size < (W.alloc (.cells (ia n) 132)).heap.size:=by simp
 rcases jU n.op with h|h|h|h|h
 all_goals
  first
   | rw[show dC n=0 by unfold dC;rw[h];rfl]
   | rw[show dC n=1 by unfold dC;rw[h];rfl]
   | rw[show dC n=2 by unfold dC;rw[h];rfl]
   | rw[show dC n=3 by unfold dC;rw[h];rfl]
  rw[h] at HA
  clear h
  go_enter Tryz.func197,Tryz.ntmps197
  go_wp2_with fail
  go_region_held3 (fun w'=>w'.cell? ⟨W.heap.size,0,none⟩=some (.i n.op)/\w'.cell? ⟨W.heap.size,1,none⟩=some (.i n.a)/\w'.cell? ⟨W.heap.size,2,none⟩=some (.i n.b)/\w'.cell? ⟨W.heap.size,3,none⟩=some (.i n.c))
   (first|exact⟨f0,f1,f2,f3⟩|go_keep)
   ((first
    | (go_at_call 129;refine(HA.o _).mono ?_;rintro e w2 ⟨rfl,rfl⟩)))
  all_goals
   have h5:=aB.new (W.alloc (.cells (ia n) 132)) 3 (zA (abc n))
   rw[wSa] at h5
   have hb5:=(aD (W.alloc (.cells (ia n) 132)) (.cells (zA (abc n)) 3)).drew
   have HG:=aA (h5.below (aF _))
   have HB1:=aA (bel HB.o hb5)
   clear h5 hb5
   go_wp2_with fail
   go_ret
   exact⟨rfl,HG.o,HB1.o⟩
end
section
open Go.RowKit Go.IntWalk Knd

end
open Go.RowKit Go.IntWalk Knd
open YticnbcfmbhjbgaaGreatDoor (aB)

end Go.Proofs.Cde
