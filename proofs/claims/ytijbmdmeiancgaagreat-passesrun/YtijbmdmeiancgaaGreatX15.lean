import Derived.Test.YtijbmdmeiancgaaGreatXH
import Derived.Laws.MakeOwn
import Derived.Deep.AppendLies
import Derived.Lib.QuietBelow
import Derived.BigQuiet
import Derived.Deep.RegionHeld3
import Derived.Laws.StructEq
import Derived.Deep.QuietTactic
import Derived.Orders
import Derived.Tactics
import Derived.Test.YtijbmdmeiancgaaGreatX00
import Derived.Test.YtijbmdmeiancgaaGreatX02
set_option maxRecDepth 100000
set_option maxHeartbeats 32000000
set_option linter.unusedVariables false
namespace Go.Proofs.Cde
open Go.RowKit Go.IntWalk Knd
variable {b base c cap g k n size:Nat} {W w:World} {v x:Value} {a:Option Addr} {D L:List Int} {e t:TypeId} {xs:List Value}
theorem aJy:Tryz.prog.follows .mixedOrders=true:=by kernel_rfl
theorem aD (w:World):Below w.heap.size w w.drew:=(Below.refl _ _).drew
theorem cO (w:World)(q:Nat):Below w.heap.size w (w.drewN q):=⟨rfl,rfl,rfl,Nat.le_refl _,fun _ _=>rfl⟩
theorem aM {α:Type}(z:α){L:List α}(h:k < L.length):L.take (k+1)=L.take k++[L.getD k z]:=by
 rw[List.take_succ_eq_append_getElem h,List.getD_eq_getElem?_getD,List.getElem?_eq_getElem h]
 rfl
theorem oF {α:Type}(z:α){L:List α}(h:k < L.length):L.getD k z ∈ L:=by
 rw[List.getD_eq_getElem?_getD,List.getElem?_eq_getElem h]
 exact List.getElem_mem _
structure In where
 op:Int
 a:Int
 b:Int
 c:Int
 k:Int
 s:Int
 deriving DecidableEq
def i0:In:=⟨0,0,0,0,0,0⟩
abbrev ia (n:In):Array Value:=#[.int .i64 n.op,.int .i64 n.a,.int .i64 n.b,.int .i64 n.c,.int .i64 n.k,.int .i64 n.s]
def i6 (n:In):List Value:=[.int .i64 n.op,.int .i64 n.a,.int .i64 n.b,.int .i64 n.c,.int .i64 n.k,.int .i64 n.s]
def bG (L:List In):List Value:=L.flatMap i6
abbrev kd (f d:Int):Array Value:=#[.int .i64 f,.int .i64 d]
abbrev cd (f d:Int)(a:Option Addr)(n cap:Nat)(o:Int):Array Value:=#[.int .i64 f,.int .i64 d,.slice a n cap,.int .i64 o]
theorem gV (L:List In):(bG L).length=L.length*6:=by
 induction L with
 | nil=>rfl
 | cons p L ih=>simp[bG,i6] at *;omega
theorem iO (L:List In)(n:In):bG (L++[n])=bG L++i6 n:=by simp[bG]
theorem qQ (L:List In):∀ u ∈ bG L,u.oneCell'=true:=by
 intro u hu
 simp only[bG,List.mem_flatMap] at hu
 obtain⟨n,_,hn⟩:=hu
 simp[i6] at hn
 rcases hn with rfl|rfl|rfl|rfl|rfl|rfl <;> rfl
theorem qG:∀(L:List In) (i:Nat),i < L.length->∀ j v,(i6 (L.getD i i0))[j]?=some v->(bG L)[i*6+j]?=some v
 | [],i,h=>by simp at h
 | p::L,0,h=>fun j v hv=>by
  have hj:j < 6:=by
   rcases Nat.lt_or_ge j 6 with h|h
   ·exact h
   ·rw[List.getElem?_eq_none (by simpa [i6] using h)] at hv;cases hv
  simp only[bG,List.flatMap_cons,Nat.zero_mul,Nat.zero_add]
  rw[List.getElem?_append_left (by simpa [i6] using hj)]
  simpa using hv
 | p::L,i+1,h=>fun j v hv=>by
  have:=qG L i (by simpa using h) j v (by simpa using hv)
  simp only[bG,List.flatMap_cons] at this ⊢
  rw[List.getElem?_append_right (by simp[i6];omega)]
  rw[show (i+1)*6+j-(i6 p).length=i*6+j by simp[i6];omega]
  exact this
structure Ins (W:World)(a:Option Addr)(n cap:Nat)(L:List In):Prop where
 len:L.length=n
 le:n<=cap
 max:cap<=maxLen
 nil:a=none->cap=0
 cell:n=0\/∃ b off,a=some ⟨b,off,none⟩/\b < W.heap.size/\∀ i,i < n->∀ j v,(i6 (L.getD i i0))[j]?=some v->W.cell? ⟨b,off+i*6+j,none⟩=some v
theorem Ins.of_owns {L:List In}(h:W.ownsRow base 57 6 v n (bG L)):∃ a cap,v=.slice a n cap/\Ins W a n cap L/\(∀ x,a=some x->base<=x.block/\x.block < W.heap.size):=by
 have hl:L.length=n:=by have:=h.1;rw[gV] at this;omega
 have hcs:=fun g hg=>h.cells (g:=g) hg
 have hlt:=h.lt
 rcases h.2 with⟨rfl,rfl⟩|⟨g,cap,cur,rfl,hb,hg,hnc,hcm,hsz,htake⟩
 ·exact⟨none,0,rfl,⟨hl,Nat.le_refl _,Nat.zero_le _,fun _=>rfl,.inl rfl⟩,fun x hx=>by cases hx⟩
 ·refine⟨some ⟨g,0,none⟩,cap,rfl,⟨hl,hnc,hcm,(fun h=>by cases h),.inr ⟨g,0,rfl,(hlt g rfl).2,fun i hi j u hu=>?_⟩⟩,fun x hx=>by cases hx;exact hlt g rfl⟩
  have:=hcs g rfl _ _ (qG L i (by omega) j u hu)
  rw[Addr.add_lit] at this
  rw[Nat.add_assoc]
  exact this
theorem Ins.later {W':World}{L:List In}(h:Ins W a n cap L)(hb:Below W.heap.size W W'):Ins W' a n cap L:=by
 refine⟨h.len,h.le,h.max,h.nil,?_⟩
 rcases h.cell with h0|⟨b,off,ha,hlt,hc⟩
 ·exact .inl h0
 ·exact .inr ⟨b,off,ha,Nat.lt_of_lt_of_le hlt hb.size,fun i hi j v hv=>(hb.cell (p:=⟨b,off+i*6+j,none⟩) hlt).trans (hc i hi j v hv)⟩
abbrev kM (W:World)(b o:Nat)(n:In):Prop :=
 W.cell? ⟨b,o,none⟩=some (.int .i64 n.op)/\W.cell? ⟨b,o+1,none⟩=some (.int .i64 n.a)/\W.cell? ⟨b,o+2,none⟩=some (.int .i64 n.b)/\W.cell? ⟨b,o+3,none⟩=some (.int .i64 n.c)/\W.cell? ⟨b,o+4,none⟩=some (.int .i64 n.k)/\W.cell? ⟨b,o+5,none⟩=some (.int .i64 n.s)
theorem Ins.at {L:List In}(h:Ins W a n cap L)(h0:0 < n):∃ g off,a=some ⟨g,off,none⟩/\g < W.heap.size/\∀ i,i < n->kM W g (off+i*6) (L.getD i i0):=by
 rcases h.cell with h|⟨g,off,ha,hlt,hc⟩
 ·omega
 ·exact⟨g,off,ha,hlt,fun i hi=>⟨hc i hi 0 _ rfl,hc i hi 1 _ rfl,hc i hi 2 _ rfl,hc i hi 3 _ rfl,hc i hi 4 _ rfl,hc i hi 5 _ rfl⟩⟩
theorem Ins.news {L:List In}(h:Ins w a n cap L):∀ ad,a=some ad->∀ j u,(bG L)[j]?=some u->w.cell? (ad.add j)=some u:=by
 intro ad ha j u hu
 have h2:=h.len
 have hj:j < n*6:=by
  have:=(List.getElem?_eq_some_iff.1 hu).1
  rw[gV] at this
  omega
 rcases h.cell with h0|⟨b,off,ha',hb,hc⟩
 ·omega
 ·rw[ha] at ha'
  cases ha'
  rw[Addr.add_lit]
  obtain⟨v,hv⟩:∃ v,(i6 (L.getD (j / 6) i0))[j % 6]?=some v:=⟨(i6 (L.getD (j / 6) i0))[j % 6]'(by simp[i6];omega),List.getElem?_eq_getElem _⟩
  have h3:=hc (j / 6) (by omega) (j % 6) v hv
  have h4:=qG L (j / 6) (by omega) (j % 6) v hv
  rw[show j / 6*6+j % 6=j by omega] at h4
  rw[h4] at hu
  cases hu
  rw[show off+j / 6*6+j % 6=off+j by omega] at h3
  exact h3
theorem Ins.take {w:World}{a:Option Addr}{n c:Nat}{L:List In}(h:Ins w a n c L){k:Nat}(hk:k<=n):Ins w a k c (L.take k):=by
 have hl:=h.len
 refine⟨by rw[List.length_take];omega,Nat.le_trans hk h.le,h.max,h.nil,?_⟩
 rcases h.cell with h0|⟨b,off,ha,hlt,hc⟩
 ·exact .inl (by omega)
 ·refine .inr ⟨b,off,ha,hlt,fun i hi j v hv=>hc i (by omega) j v ?_⟩
  rw[List.getD_eq_getElem?_getD,List.getElem?_take_of_lt hi,<-List.getD_eq_getElem?_getD] at hv
  exact hv
theorem Ins.short {L:List In}(h:Ins w a n c L):n<=9223372036854775807:=by
 have:=h.le;have:=h.max;unfold maxLen at this;omega
theorem spn (h:Ints w a n c L):Spn.Ints w a n c L:=⟨h.len,h.le,h.max,h.nil,h.cell⟩
theorem bB {y:Value}(h:aI W b t #[x,y]):W.cell? ⟨b,0,none⟩=some x/\W.cell? ⟨b,1,none⟩=some y:=⟨h.cell 0 rfl,h.cell 1 rfl⟩
theorem aG {y z u:Value}(h:aI W b t #[x,y,z,u]):W.cell? ⟨b,0,none⟩=some x/\W.cell? ⟨b,1,none⟩=some y/\W.cell? ⟨b,2,none⟩=some z/\W.cell? ⟨b,3,none⟩=some u :=
 ⟨h.cell 0 rfl,h.cell 1 rfl,h.cell 2 rfl,h.cell 3 rfl⟩
theorem aJ {n:In}(h:aI W b t (ia n)):kM W b 0 n:=⟨h.cell 0 rfl,h.cell 1 rfl,h.cell 2 rfl,h.cell 3 rfl,h.cell 4 rfl,h.cell 5 rfl⟩
theorem aL (W:World)(o:Obj)(t:TypeId)(cs:Array Value):aI ((W.alloc o).alloc (.cells cs t)) (W.heap.size+1) t cs:=by
 have:=aI.new (W.alloc o) t cs
 rwa[World.size_alloc] at this
abbrev zA (L:List Int):Array Value:=(bY L).toArray
theorem dS (L:List Int)(i:Nat)(h:i < L.length):(zA L)[i]?=some (.int .i64 (L.getD i 0)):=by
 unfold zA
 rw[List.getElem?_toArray,List.getElem?_map,List.getD_eq_getElem?_getD,List.getElem?_eq_getElem h]
 rfl
theorem aPu (n:Nat):madeCells #[.int .i64 0] (n*1)=zA (List.replicate n 0):=by
 apply Array.ext_getElem?
 intro i
 by_cases hi:i < n
 ·rw[dS _ _ (by simpa using hi)]
  unfold madeCells
  rw[Array.getElem?_map,Array.getElem?_eq_getElem (by simpa using hi)]
  have hz:(List.replicate n (0:Int)).getD i 0=0:=by
   rw[List.getD_eq_getElem?_getD,List.getElem?_replicate];split <;> rfl
  rw[hz]
  simp only[Array.getElem_range,Option.map_some]
  show some ((#[Value.int .i64 0])[i % 1]!)=_
  rw[Nat.mod_one]
  rfl
 ·rw[Array.getElem?_eq_none (by rw[size_madeCells];omega),Array.getElem?_eq_none (by simp;omega)]
theorem aDg (n:Nat)(h:n<=1024)(w:World):(Instr.makeSlice 27 (.int .i64 n) (.int .i64 n)).run Tryz.prog w=.ok (.slice (some ⟨w.heap.size,0,none⟩) n n) (w.alloc (.cells (zA (List.replicate n 0)) 3)):=by
 obtain⟨i0,hi,hz0,hz1,hz2⟩:=info_parts info3
 have:=run_make w 27 3 i0 _ Tryz.underlying27 hi hz0 .i64 .i64 n n (by omega) (Int.le_refl _) (by rw[hz2];omega) (by omega)
 rw[hz1] at this
 simp only[Int.toNat_natCast] at this
 have e:madeCells (Value.int .i64 0).cells (n*1)=zA (List.replicate n 0):=aPu n
 rw[e] at this
 exact this
theorem aN7 {Z:List Int}{q:Int}(h:aI W g 3 (zA (D++q::Z)))(hk:D.length=k)(x:Int):aI (W.setCell ⟨g,k,none⟩ (.int .i64 x)) g 3 (zA (D++x::Z)):=by
 subst hk
 have:=h.set D.length (.int .i64 x)
 have e:(zA (D++q::Z)).setIfInBounds D.length (.int .i64 x)=zA (D++x::Z):=by
  apply Array.toList_inj.1
  simp only[Array.toList_setIfInBounds,List.map_append,List.map_cons]
  rw[List.set_append_right _ _ (by simp)]
  simp
 rwa[e] at this
theorem aKu (h:aI W g 3 (zA D))(x:Int):aI (W.setCell ⟨g,k,none⟩ (.int .i64 x)) g 3 (zA (D.set k x)):=by
 have:=h.set k (.int .i64 x)
 have e:(zA D).setIfInBounds k (.int .i64 x)=zA (D.set k x):=by
  apply Array.toList_inj.1
  simp[List.map_set]
 rwa[e] at this
theorem aD8 (h:aI W g 3 (zA L))(hl:L.length<=1024):Ints W (some ⟨g,0,none⟩) L.length L.length L:=by
 refine⟨rfl,Nat.le_refl _,by unfold maxLen;omega,(fun h=>by cases h),.inr ⟨g,0,rfl,fun i hi=>?_⟩⟩
 rw[Nat.zero_add]
 exact h.cell i (dS L i hi)
theorem gP {S Z:List Int}{i:Nat}(h:i < S.length):(S++Z).getD i 0=S.getD i 0:=by
 rw[List.getD_eq_getElem?_getD,List.getElem?_append_left h,<-List.getD_eq_getElem?_getD]
structure Ls (w W:World)(v:Value)(L:List Int):Prop where
 a:W.ownsRow w.heap.size 3 1 v L.length (bY L)
 bel:Below w.heap.size w W
theorem Ls.alloc {w W:World}{v:Value}{L:List Int}(h:Ls w W v L)(o:Obj):Ls w (W.alloc o) v L:=⟨h.a.alloc o,h.bel.alloc h.bel.size o⟩
theorem Ls.start (W:World):Ls W W (.slice none 0 0) []:=⟨⟨rfl,.inl ⟨rfl,rfl⟩⟩,Below.refl _ _⟩
theorem aQ (h:W.ownsRow base e size v n xs):∀ k,v.ownBlock=some k->base<=k/\∃ cs fr,W.heap[k]?=some (.cells cs e fr):=by
 intro k hk
 rcases h.2 with⟨rfl,_⟩|⟨g,cap,cur,rfl,hb,hgg,rest⟩
 ·simp[Value.ownBlock] at hk
 ·simp[Value.ownBlock] at hk
  subst hk
  exact⟨hb,_,_,hgg⟩
theorem aW {base':Nat}(h:w.ownsRow base e size v n xs)(hb:base'<=base):w.ownsRow base' e size v n xs:=by
 obtain⟨h1,h2⟩:=h
 refine⟨h1,?_⟩
 rcases h2 with h2|⟨g,cap,cur,hv,hg,rest⟩
 ·exact .inl h2
 ·exact .inr ⟨g,cap,cur,hv,Nat.le_trans hb hg,rest⟩
theorem aS {V V':World}{lo:Nat}(h:V.ownsRow lo e size v n xs)(hb:Below V.heap.size V V'):V'.ownsRow lo e size v n xs:=by
 have hg:V.grownBy V' none:=⟨hb.os,hb.tape,hb.output,hb.size,fun k hk _=>hb.block k hk⟩
 refine h.kept hg ?_
 cases hv:v.ownBlock with
 | none=>exact .inl rfl
 | some q=>exact .inr (by simp)
theorem oC {q:Nat}(h:aI W q t #[x]):∀ j u,[x][j]?=some u->W.cell? ((⟨q,0,none⟩:Addr).add j)=some u:=by
 intro j u hu
 have hj:j=0:=by
  by_cases hj:j=0
  ·exact hj
  ·simp[hj] at hu
 subst hj
 simp at hu
 subst hu
 rw[Addr.add_lit]
 exact h.cell 0 rfl
theorem aL4 {ops:Array Oper}{rest:List Oper}{o:Oper}{a:Act}{Q:Exit->Act->World->Prop}
  (hgd:o.guard=none) (s x:Operand) (ho:o.op=.call { callee:=.builtin .append,args:=#[s,x],argTypes:=#[27,27] })
  (hs:a.eval s=v) (hen:Ls w W v L) (b:Nat) (p:Int) (hx:a.eval x=.slice (some ⟨b,0,none⟩) 1 1) (hc:aI W b 3 #[.int .i64 p]) (h3:L.length<=2000000)
  (h:∀ g cap w',Ls w w' (.slice (some ⟨g,0,none⟩) (L.length+1) cap) (L++[p])->wpList Tryz.prog ops Q rest (a.put o.dst (.slice (some ⟨g,0,none⟩) (L.length+1) cap)) w') :
  wpList Tryz.prog ops Q (o::rest) a W:=by
 obtain⟨i0,hi0,hz0,hz1,hz2⟩:=info_parts info3
 refine wpList_append_lies W hgd s x 27 ho w.heap.size 3 i0 _ 1 8 Tryz.underlying27 hi0 hz0 hz1 hz2 rfl (by omega) v L.length (bY L) hs hen.a ⟨b,0,none⟩ 1 1 [.int .i64 p] hx rfl (oC hc) (by simp[Value.oneCell']) (by omega) (by unfold maxLen;omega) (by omega) hen.bel.size W.heap.size rfl ?_
 intro g cap w' hown hgrow hat hlt
 exact h g cap w' ⟨by rw[List.length_append];simpa using hown,hen.bel.grown hgrow hen.bel.size fun k hk=>(aQ hen.a k hk).1⟩
theorem aFe {V:World}(h:V.ownsRow w.heap.size 3 1 (.slice a D.length c) D.length (bY D)):Ints V a D.length c D:=by
 obtain⟨a',c',e,hi,-⟩:=Ints.of_owns h
 cases e
 exact hi
def lL (o:Int):Int:=if o=4 then 0 else if o=11 then 4 else if o=12 then 6 else 1
theorem aCl (o:Int):0<=lL o/\lL o<=6:=by
 unfold lL
 split
 ·omega
 ·split
  ·omega
  ·split <;> omega
end Go.Proofs.Cde
namespace Go.Proofs.Cde
open Go.RowKit Go.IntWalk Knd
theorem bX {a b:Bool}(h:a=b):Ending.returned (.bool a)=.returned (.bool b):=by rw[h]
theorem nJ (x lo hi:Int)(w:World) :
  Calls Tryz.prog 65 #[.int .i64 x,.int .i64 lo,.int .i64 hi] w fun e w'=>e=.returned (.bool (Spn.dW x lo hi))/\w'=w:=by
 by_cases h1:lo<=x
 ·go_enter Tryz.func65,Tryz.ntmps65
  go_wp2
  go_ret
  exact⟨bX (by simp[Spn.dW,h1]),rfl⟩
 ·rw[show Spn.dW x lo hi=false from Spn.fI (by omega)]
  go_enter Tryz.func65,Tryz.ntmps65
  go_wp2
  go_ret
  exact⟨rfl,rfl⟩
theorem aJz (o:Int)(W:World):Calls Tryz.prog 33 #[.int .i64 o] W fun e W'=>e=.returned (.int .i64 (lL o))/\W'=W:=by
 by_cases h1:o=4
 ·subst h1
  go_enter Tryz.func33,Tryz.ntmps33
  go_wp2
  go_ret
  exact⟨rfl,rfl⟩
 by_cases h2:o=11
 ·subst h2
  go_enter Tryz.func33,Tryz.ntmps33
  go_wp2
  go_ret
  exact⟨rfl,rfl⟩
 by_cases h3:o=12
 ·subst h3
  go_enter Tryz.func33,Tryz.ntmps33
  go_wp2
  go_ret
  exact⟨rfl,rfl⟩
 have e:lL o=1:=by unfold lL;rw[if_neg h1,if_neg h2,if_neg h3]
 rw[e]
 have e1:(o==4)=false:=by simpa using h1
 have e2:(o==11)=false:=by simpa using h2
 have e3:(o==12)=false:=by simpa using h3
 clear h1 h2 h3 e
 go_enter Tryz.func33,Tryz.ntmps33
 go_wp2
 go_ret
 exact⟨rfl,rfl⟩
def nI (r:Int)(used:Bool)(i:Int):Bool:=if used then Spn.dW r 0 (i-1) else r==0
def jS (n:In)(j:Nat):Int:=[n.a,n.b,n.c].getD j 0
def oP (n:In)(i:Int):Bool:=nI n.a (decide (0 < Spn.ar n.op)) i&&nI n.b (decide (1 < Spn.ar n.op)) i&&nI n.c (decide (2 < Spn.ar n.op)) i
def rgT (n:In)(i:Int)(k:Nat):Bool:=(List.range k).all fun j=>nI (jS n j) (decide ((j:Int) < Spn.ar n.op)) i
theorem rM (n:In)(i:Int):rgT n i 3=oP n i:=by
 simp[rgT,oP,List.range_succ,jS]
 rw[Bool.and_assoc]
theorem aAm (n:In)(i:Int)(k:Nat):rgT n i (k+1)=(rgT n i k&&nI (jS n k) (decide ((k:Int) < Spn.ar n.op)) i):=by
 simp[rgT,List.range_succ]
theorem aA0 {n:In}{i:Int}{k m:Nat}(h:rgT n i m=true)(hk:k<=m):rgT n i k=true:=by
 simp only[rgT,List.all_eq_true,List.mem_range] at *
 exact fun j hj=>h j (by omega)
def kZ (n:In):Bool :=
 if n.op=1 then Spn.wd n.k&&n.s==0 else if n.op=2 then Spn.dW n.k 0 5&&n.s==0 else if n.op=3 then Spn.dW n.k 0 255&&n.s==0 else
 if n.op=29\/n.op=30\/n.op=31\/n.op=32 then Spn.cons n.op n.k n.s&&n.s==0 else if n.op=33 then Spn.cons n.op n.k n.s else n.k==0&&n.s==0
theorem aHw (n:In)(j:Nat)(h:j < 3):(#[Value.int .i64 n.a,.int .i64 n.b,.int .i64 n.c])[j]?=some (.int .i64 (jS n j)):=by
 rcases(show j=0\/j=1\/j=2 by omega) with rfl|rfl|rfl <;> rfl
theorem uJ (n:In)(i:Int)(hi:-9223372036854775808<=i-1/\i-1<=9223372036854775807)(W:World) :
  Calls Tryz.prog 67 #[.agg (ia n),.int .i64 i] W fun e W'=>e=.returned (.bool (oP n i))/\Below W.heap.size W W':=by
 have HA:=aC fun W=>Spn.dX n.op W
 have HWi:=aC fun x lo hi W=>nJ x lo hi W
 have HB:=aC (bel (aH W (.cells (ia n) 57)) (aH (W.alloc (.cells (ia n) 57)) (.cells #[.int .i64 n.a,.int .i64 n.b,.int .i64 n.c] 3)))
 have HG:=aC (aL W (.cells (ia n) 57) 3 #[.int .i64 n.a,.int .i64 n.b,.int .i64 n.c])
 obtain⟨i1,i2⟩:=hi
 rw[<-rM]
 have HT:=aC fun k=>aAm n i k
 have HD:=aC fun k m (h:rgT n i m=true) (hk:k<=m)=>aA0 h hk
 have H0:Hid (rgT n i 0=true):=aC rfl
 generalize rgT n i=T at *
 generalize Spn.ar n.op=ar at *
 have HR:=aC fun j h=>aHw n j h
 go_enter Tryz.func67,Tryz.ntmps67
 go_wp2_with fail
 refine(HA.o _).mono ?_
 rintro e w1 ⟨rfl,rfl⟩
 go_wp2_with fail
 obtain⟨V,hV⟩:∃ V,(W.alloc (.cells (ia n) 57)).alloc (.cells #[.int .i64 n.a,.int .i64 n.b,.int .i64 n.c] 3)=V:=⟨_,rfl⟩
 rw[hV] at HB HG ⊢
 clear hV HA
 go_loop [19] (fun j=>∃ k:Nat,k<=3/\j=.int .i64 k/\Hid (T k=true)) (fun j=>3-(intOf j).toNat)
 case atStart=>exact⟨0,by omega,rfl,aC H0.o⟩
 case round =>
  obtain⟨k,hk,rfl,HK⟩:=hrel
  by_cases hlt:k < 3
  ·have c0:=HG.o.cell k (HR.o k hlt)
   have hs:=HT.o k
   rw[HK.o,Bool.true_and] at hs
   generalize jS n k=r at *
   have j0:(0:Int)<=k:=by omega
   have j1:(k:Int) < 3:=by omega
   by_cases hu:(k:Int) < ar
   ·rw[show nI r (decide ((k:Int) < ar)) i=Spn.dW r 0 (i-1) by simp[nI,hu]] at hs
    have HS:=aC hs
    clear hs
    cases hB:Spn.dW r 0 (i-1)
    ·go_wp2_with (go_at_call 65;refine(HWi.o _ _ _ _).mono ?_;rintro e w' ⟨rfl,rfl⟩)
     go_ret
     refine⟨bX ?_,HB.o⟩
     cases h3:T 3
     ·rfl
     ·have:=HD.o (k+1) 3 h3 (by omega)
      rw[HS.o,hB] at this
      exact this
    ·have hu2:decide (ar<=(k:Int))=false:=by simp;omega
     go_wp2_with (go_at_call 65;refine(HWi.o _ _ _ _).mono ?_;rintro e w' ⟨rfl,rfl⟩)
     go_round
     case rel=>exact⟨k+1,by omega,by go_num,aC (by rw[HS.o];exact hB)⟩
     case measure=>simp[intOf];omega
   ·rw[show nI r (decide ((k:Int) < ar)) i=(r==0) by simp[nI,hu]] at hs
    have HS:=aC hs
    clear hs
    have hu2:ar<=(k:Int):=by omega
    have hu3:decide ((k:Int) < ar)=false:=by simpa using hu
    by_cases hr:r=0
    ·subst hr
     go_wp2_with fail
     go_round
     case rel=>exact⟨k+1,by omega,by go_num,aC HS.o⟩
     case measure=>simp[intOf];omega
    ·have hr2:(r != 0)=true:=by simpa using hr
     go_wp2_with fail
     go_ret
     refine⟨bX ?_,HB.o⟩
     cases h3:T 3
     ·rfl
     ·have:=HD.o (k+1) 3 h3 (by omega)
      rw[HS.o] at this
      simp[hr] at this
  ·obtain rfl:k=3:=by omega
   go_wp2_with fail
   go_ret
   exact⟨bX HK.o.symm,HB.o⟩
theorem vM (n:In)(W:World) :
  Calls Tryz.prog 68 #[.agg (ia n)] W fun e W'=>e=.returned (.bool (kZ n))/\Below W.heap.size W W':=by
 have HB:=aC (aH W (.cells (ia n) 57))
 have HWi:=aC fun x lo hi W=>nJ x lo hi W
 have HWd:=aC fun x W=>Spn.fP x W
 have HC:=aC fun op k s W=>Spn.gM op k s W
 obtain⟨op,a,b,c,k,s⟩:=n
 unfold kZ
 dsimp only at *
 by_cases h1:op=1
 ·subst h1
  rw[if_pos rfl]
  cases hq:Spn.wd k
  ·go_enter Tryz.func68,Tryz.ntmps68
   go_wp2_with (go_at_call 96;refine(HWd.o _ _).mono ?_;rintro e w' ⟨rfl,rfl⟩)
   go_ret
   exact⟨bX rfl,HB.o⟩
  ·go_enter Tryz.func68,Tryz.ntmps68
   go_wp2_with (go_at_call 96;refine(HWd.o _ _).mono ?_;rintro e w' ⟨rfl,rfl⟩)
   go_ret
   exact⟨bX (by simp),HB.o⟩
 rw[if_neg h1]
 have q1:(op==1)=false:=by simpa using h1
 by_cases h2:op=2
 ·subst h2
  clear q1 h1
  rw[if_pos rfl]
  cases hq:Spn.dW k 0 5
  ·go_enter Tryz.func68,Tryz.ntmps68
   go_wp2_with (go_at_call 65;refine(HWi.o _ _ _ _).mono ?_;rintro e w' ⟨rfl,rfl⟩)
   go_ret
   exact⟨bX rfl,HB.o⟩
  ·go_enter Tryz.func68,Tryz.ntmps68
   go_wp2_with (go_at_call 65;refine(HWi.o _ _ _ _).mono ?_;rintro e w' ⟨rfl,rfl⟩)
   go_ret
   exact⟨bX (by simp),HB.o⟩
 rw[if_neg h2]
 have q2:(op==2)=false:=by simpa using h2
 by_cases h3:op=3
 ·subst h3
  clear q1 h1 q2 h2
  rw[if_pos rfl]
  cases hq:Spn.dW k 0 255
  ·go_enter Tryz.func68,Tryz.ntmps68
   go_wp2_with (go_at_call 65;refine(HWi.o _ _ _ _).mono ?_;rintro e w' ⟨rfl,rfl⟩)
   go_ret
   exact⟨bX rfl,HB.o⟩
  ·go_enter Tryz.func68,Tryz.ntmps68
   go_wp2_with (go_at_call 65;refine(HWi.o _ _ _ _).mono ?_;rintro e w' ⟨rfl,rfl⟩)
   go_ret
   exact⟨bX (by simp),HB.o⟩
 rw[if_neg h3]
 have q3:(op==3)=false:=by simpa using h3
 by_cases h4:op=29\/op=30\/op=31\/op=32
 ·rw[if_pos h4]
  clear q1 h1 q2 h2 q3 h3
  rcases h4 with rfl|rfl|rfl|rfl
  ·cases hq:Spn.cons 29 k s
   ·go_enter Tryz.func68,Tryz.ntmps68
    go_wp2_with (go_at_call 97;refine(HC.o _ _ _ _).mono ?_;rintro e w' ⟨rfl,rfl⟩)
    go_ret
    exact⟨bX rfl,HB.o⟩
   ·go_enter Tryz.func68,Tryz.ntmps68
    go_wp2_with (go_at_call 97;refine(HC.o _ _ _ _).mono ?_;rintro e w' ⟨rfl,rfl⟩)
    go_ret
    exact⟨bX (by simp),HB.o⟩
  ·cases hq:Spn.cons 30 k s
   ·go_enter Tryz.func68,Tryz.ntmps68
    go_wp2_with (go_at_call 97;refine(HC.o _ _ _ _).mono ?_;rintro e w' ⟨rfl,rfl⟩)
    go_ret
    exact⟨bX rfl,HB.o⟩
   ·go_enter Tryz.func68,Tryz.ntmps68
    go_wp2_with (go_at_call 97;refine(HC.o _ _ _ _).mono ?_;rintro e w' ⟨rfl,rfl⟩)
    go_ret
    exact⟨bX (by simp),HB.o⟩
  ·cases hq:Spn.cons 31 k s
   ·go_enter Tryz.func68,Tryz.ntmps68
    go_wp2_with (go_at_call 97;refine(HC.o _ _ _ _).mono ?_;rintro e w' ⟨rfl,rfl⟩)
    go_ret
    exact⟨bX rfl,HB.o⟩
   ·go_enter Tryz.func68,Tryz.ntmps68
    go_wp2_with (go_at_call 97;refine(HC.o _ _ _ _).mono ?_;rintro e w' ⟨rfl,rfl⟩)
    go_ret
    exact⟨bX (by simp),HB.o⟩
  ·cases hq:Spn.cons 32 k s
   ·go_enter Tryz.func68,Tryz.ntmps68
    go_wp2_with (go_at_call 97;refine(HC.o _ _ _ _).mono ?_;rintro e w' ⟨rfl,rfl⟩)
    go_ret
    exact⟨bX rfl,HB.o⟩
   ·go_enter Tryz.func68,Tryz.ntmps68
    go_wp2_with (go_at_call 97;refine(HC.o _ _ _ _).mono ?_;rintro e w' ⟨rfl,rfl⟩)
    go_ret
    exact⟨bX (by simp),HB.o⟩
 rw[if_neg h4]
 by_cases h5:op=33
 ·subst h5
  rw[if_pos rfl]
  clear q1 h1 q2 h2 q3 h3 h4
  go_enter Tryz.func68,Tryz.ntmps68
  go_wp2_with (go_at_call 97;refine(HC.o _ _ _ _).mono ?_;rintro e w' ⟨rfl,rfl⟩)
  go_ret
  exact⟨rfl,HB.o⟩
 rw[if_neg h5]
 have q4:(op==29)=false:=by simp;omega
 have q5:(op==30)=false:=by simp;omega
 have q6:(op==31)=false:=by simp;omega
 have q7:(op==32)=false:=by simp;omega
 have q8:(op==33)=false:=by simpa using h5
 clear h1 h2 h3 h4 h5
 by_cases hk:k=0
 ·subst hk
  go_enter Tryz.func68,Tryz.ntmps68
  go_wp2_with fail
  go_ret
  exact⟨bX (by simp),HB.o⟩
 ·have hk2:(k==0)=false:=by simpa using hk
  clear hk
  go_enter Tryz.func68,Tryz.ntmps68
  go_wp2_with fail
  go_ret
  exact⟨bX (by simp[hk2]),HB.o⟩
end Go.Proofs.Cde
namespace Go.Proofs.Cde
open Go.RowKit Go.IntWalk Knd
variable {L:List In} {n:Nat}
def bJ (n:In)(i:Nat):Bool:=decide (0<=Spn.ar n.op)&&oP n i&&kZ n
def eO (L:List In)(k:Nat):Bool:=(List.range k).all fun i=>bJ (L.getD i i0) i
theorem aBu (L:List In)(k:Nat):eO L (k+1)=(eO L k&&bJ (L.getD k i0) k):=by
 simp[eO,List.range_succ]
theorem bW {m:Nat}(h:eO L m=true){k:Nat}(hk:k < m):bJ (L.getD k i0) k=true:=by
 simp only[eO,List.all_eq_true,List.mem_range] at h
 exact h k hk
def jG (f d:Int)(L:List In)(out:Int):Bool:=decide (May f d)&&Spn.dW L.length 1 200&&Spn.dW out 0 ((L.length:Int)-1)&&eO L L.length
def ccE (f d:Int)(L:List In)(out:Int):Int:=if jG f d L out=true then 0 else 15
def okE (L:List In)(n:Nat):Int:=if eO L n=true then 0 else 15
theorem zJ (h:eO L n=true->False):(15:Int)=okE L n:=by unfold okE;rw[if_neg h]
theorem aQb (h:eO L n=true):(0:Int)=okE L n:=by unfold okE;rw[if_pos h]
theorem aC3 (f d:Int)(w:World):Calls Tryz.prog 64 #[.agg (kd f d)] w fun e w'=>e=.returned (.int .i64 (if May f d then 0 else 1))/\Below w.heap.size w w':=by
 by_cases h:May f d
 ·rw[if_pos h];exact dN f d w h
 ·rw[if_neg h];exact kD f d w h
theorem vK (f d out:Int){a:Option Addr}{cap:Nat}{W:World}(hL:Ins W a n cap L) :
  Calls Tryz.prog 34 #[.agg (cd f d a n cap out)] W fun e W'=>e=.returned (.int .i64 (ccE f d L out))/\Below W.heap.size W W':=by
 have HB0:=aC (aH W (.cells (cd f d a n cap out) 26))
 have HC0:=aC (aI.new W 26 (cd f d a n cap out))
 have hn:=hL.short
 have HLn:=aC hL.len
 have HK:=aC fun w=>aC3 f d w
 have HWi:=aC fun x lo hi w=>nJ x lo hi w
 have HL0:=aC hL
 clear hL
 have n1:-9223372036854775808<=(n:Int)-1/\(n:Int)-1<=9223372036854775807:=by omega
 have n0:0<=(n:Int):=by omega
 by_cases hm:May f d
 ·rw[if_pos hm] at HK
  cases hc:Spn.dW (n:Int) 1 200
  ·rw[show ccE f d L out=15 by simp[ccE,jG,HLn.o,hc]]
   go_enter Tryz.func34,Tryz.ntmps34
   go_wp2_with (first
    | (go_at_call 64;refine(HK.o _).mono ?_;rintro e w1 ⟨rfl,hb⟩;have HB1:=aC (bel HB0.o hb);obtain⟨c0,c1,c2,c3⟩:=aG (HC0.o.below hb);clear hb)
    | (go_at_call 65;refine(HWi.o _ _ _ _).mono ?_;rintro e w' ⟨rfl,rfl⟩))
   go_ret
   exact⟨rfl,HB1.o⟩
  ·cases ho:Spn.dW out 0 ((n:Int)-1)
   ·rw[show ccE f d L out=15 by simp[ccE,jG,HLn.o,ho]]
    go_enter Tryz.func34,Tryz.ntmps34
    go_wp2_with (first
     | (go_at_call 64;refine(HK.o _).mono ?_;rintro e w1 ⟨rfl,hb⟩;have HB1:=aC (bel HB0.o hb);obtain⟨c0,c1,c2,c3⟩:=aG (HC0.o.below hb);clear hb)
     | (go_at_call 65;refine(HWi.o _ _ _ _).mono ?_;rintro e w' ⟨rfl,rfl⟩))
    go_ret
    exact⟨rfl,HB1.o⟩
   ·have hE:ccE f d L out=okE L n:=by simp[okE,ccE,jG,HLn.o,ho,hm,hc]
    rw[hE]
    clear hE
    have hcc:=Spn.aP.1 hc
    go_enter Tryz.func34,Tryz.ntmps34
    go_wp2_with (first
     | (go_at_call 64;refine(HK.o _).mono ?_;rintro e w1 ⟨rfl,hb⟩;have HB1:=aC (bel HB0.o hb);obtain⟨c0,c1,c2,c3⟩:=aG (HC0.o.below hb);clear hb)
     | (go_at_call 65;refine(HWi.o _ _ _ _).mono ?_;rintro e w' ⟨rfl,rfl⟩))
    clear c0 c1 c2 c3 HB0 HC0 HK ho hc
    go_loopw [29] (fun i wr=>∃ k:Nat,k<=n/\i=.int .i64 k/\Hid (eO L k=true)/\Hid (Below W.heap.size W wr)) (fun i _=>n-(intOf i).toNat)
    case atStart=>exact⟨0,Nat.zero_le _,rfl,aC rfl,HB1⟩
    case round =>
     obtain⟨k,hk,rfl,HT,HB⟩:=hrel
     rename World=>V
     clear HB1
     by_cases hlt:k < n
     ·obtain⟨g,off,rfl,-,hat⟩:=(HL0.o.later HB.o).at (by omega)
      obtain⟨e0,e1,e2,e3,e4,e5⟩:=hat k hlt
      clear hat
      have hi0:(0:Int)<=k:=by omega
      have hi1:(k:Int) < n:=by omega
      have hS:=aBu L k
      have HD:=aC fun h=>bW (L:=L) (m:=n) h hlt
      generalize L.getD k i0=m at *
      rw[HT.o,Bool.true_and] at hS
      have HS:=aC hS
      clear hS
      have HA:=aC fun w=>Spn.dX m.op w
      have HR:=aC fun w=>uJ m k (by omega) w
      have HCs:=aC fun w=>vM m w
      have HBm:=aC (bel HB.o (aH V (.cells (ia m) 57)))
      have HG:=aC (aI.new V 57 (ia m))
      by_cases ha:Spn.ar m.op < 0
      ·have hF:bJ m k=false:=by simp[bJ];omega
       have HF:=aC hF
       clear hF
       go_wp2_with (go_at_call 66;refine(HA.o _).mono ?_;rintro e w' ⟨rfl,rfl⟩)
       go_ret
       exact⟨aN (zJ fun h=>by have:=HD.o h;rw[HF.o] at this;cases this),HBm.o⟩
      have ha2:decide (Spn.ar m.op < 0)=false:=by simpa using ha
      cases hr:oP m k
      ·have HF:Hid (bJ m k=false):=aC (by simp[bJ,hr])
       rw[hr] at HR
       go_wp2_with (first
        | (go_at_call 66;refine(HA.o _).mono ?_;rintro e w' ⟨rfl,rfl⟩)
        | (go_at_call 67;refine(HR.o _).mono ?_;rintro e w2 ⟨rfl,hb⟩;have HB2:=aC (bel HBm.o hb);obtain⟨f0,f1,f2,f3,f4,f5⟩:=aJ (HG.o.below hb);clear hb))
       go_ret
       exact⟨aN (zJ fun h=>by have:=HD.o h;rw[HF.o] at this;cases this),HB2.o⟩
      ·rw[hr] at HR
       cases hs:kZ m
       ·have HF:Hid (bJ m k=false):=aC (by simp[bJ,hs])
        rw[hs] at HCs
        go_wp2_with (first
         | (go_at_call 66;refine(HA.o _).mono ?_;rintro e w' ⟨rfl,rfl⟩)
         | (go_at_call 67;refine(HR.o _).mono ?_;rintro e w2 ⟨rfl,hb⟩;have HB2:=aC (bel HBm.o hb);obtain⟨f0,f1,f2,f3,f4,f5⟩:=aJ (HG.o.below hb);clear hb)
         | (go_at_call 68;refine(HCs.o _).mono ?_;rintro e w3 ⟨rfl,hb⟩;have HB3:=aC (bel HB2.o hb);clear hb))
        go_ret
        exact⟨aN (zJ fun h=>by have:=HD.o h;rw[HF.o] at this;cases this),HB3.o⟩
       ·have HF:Hid (bJ m k=true):=aC (by simp[bJ,hs,hr];omega)
        rw[hs] at HCs
        go_wp2_with (first
         | (go_at_call 66;refine(HA.o _).mono ?_;rintro e w' ⟨rfl,rfl⟩)
         | (go_at_call 67;refine(HR.o _).mono ?_;rintro e w2 ⟨rfl,hb⟩;have HB2:=aC (bel HBm.o hb);obtain⟨f0,f1,f2,f3,f4,f5⟩:=aJ (HG.o.below hb);clear hb)
         | (go_at_call 68;refine(HCs.o _).mono ?_;rintro e w3 ⟨rfl,hb⟩;have HB3:=aC (bel HB2.o hb);clear hb))
        go_roundw
        case rel=>exact⟨k+1,by omega,by go_num,aC (by rw[HS.o];exact HF.o),HB3⟩
        case measure=>simp[intOf];omega
     ·obtain rfl:k=n:=by omega
      go_wp2_with fail
      go_ret
      exact⟨aN (aQb HT.o),HB.o⟩
 ·rw[if_neg hm] at HK
  rw[show ccE f d L out=15 by simp[ccE,jG,hm]]
  go_enter Tryz.func34,Tryz.ntmps34
  go_wp2_with (go_at_call 64;refine(HK.o _).mono ?_;rintro e w1 ⟨rfl,hb⟩;have HB1:=aC (bel HB0.o hb);obtain⟨c0,c1,c2,c3⟩:=aG (HC0.o.below hb);clear hb)
  go_ret
  exact⟨rfl,HB1.o⟩
end Go.Proofs.Cde
namespace Go.Proofs.Cde
open Go.RowKit Go.IntWalk Knd
def dG (n:In):Nat:=(Spn.ar n.op).toNat
def abc (n:In):List Int:=[n.a,n.b,n.c]
def dP (n:In):List Int:=(abc n).take (dG n)
theorem lQ (n:In):dG n<=3:=by have:=Spn.wT n.op;unfold dG;omega
theorem fD (n:In):(dP n).length=dG n:=by have:=lQ n;simp[dP,abc];omega
theorem gT (op:Int):Spn.ar op=-1\/Spn.ar op=0\/Spn.ar op=1\/Spn.ar op=2\/Spn.ar op=3:=by
 unfold Spn.ar
 repeat' split
 all_goals omega
theorem rD (n:In)(j:Nat)(h:j < 3):(abc n).getD j 0=jS n j:=rfl
theorem aGg (n:In)(W:World) :
  Calls Tryz.prog 70 #[.agg (ia n)] W fun e W'=>e=.returned (.slice (some ⟨W.heap.size+1,0,none⟩) (dG n) 3)/\aI W' (W.heap.size+1) 3 (zA (abc n))/\Below W.heap.size W W':=by
 have HA:=aC fun W=>Spn.dX n.op W
 have HB:=aC (aH W (.cells (ia n) 57))
 have HN0:=aC (aI.new W 57 (ia n))
 obtain⟨f0,f1,f2,f3,f4,f5⟩:=aJ (aI.new W 57 (ia n))
 have hz:W.heap.size < (W.alloc (.cells (ia n) 57)).heap.size:=by simp
 rcases gT n.op with h|h|h|h|h
 all_goals
  first
   | rw[show dG n=0 by unfold dG;rw[h];rfl]
   | rw[show dG n=1 by unfold dG;rw[h];rfl]
   | rw[show dG n=2 by unfold dG;rw[h];rfl]
   | rw[show dG n=3 by unfold dG;rw[h];rfl]
  rw[h] at HA
  clear h
  go_enter Tryz.func70,Tryz.ntmps70
  go_wp2_with fail
  go_region_held3 (fun w'=>w'.cell? ⟨W.heap.size,0,none⟩=some (.int .i64 n.op)/\w'.cell? ⟨W.heap.size,1,none⟩=some (.int .i64 n.a)/\w'.cell? ⟨W.heap.size,2,none⟩=some (.int .i64 n.b)/\w'.cell? ⟨W.heap.size,3,none⟩=some (.int .i64 n.c))
   (first|exact⟨f0,f1,f2,f3⟩|go_keep)
   ((first
    | (go_at_call 66;refine(HA.o _).mono ?_;rintro e w2 ⟨rfl,rfl⟩)))
  all_goals
   have h5:=aI.new (W.alloc (.cells (ia n) 57)) 3 (zA (abc n))
   rw[World.size_alloc] at h5
   have hb5:=(aH (W.alloc (.cells (ia n) 57)) (.cells (zA (abc n)) 3)).drew
   have HG:=aC (h5.below (aD _))
   have HB1:=aC (bel HB.o hb5)
   clear h5 hb5
   go_wp2_with fail
   go_ret
   exact⟨rfl,HG.o,HB1.o⟩
theorem aLv {α:Type}{L M:List α}(d:α)(hl:L.length=M.length)(h:∀ j,j < L.length->L.getD j d=M.getD j d):L=M:=by
 apply List.ext_getElem hl
 intro j h1 h2
 have:=h j h1
 rw[List.getD_eq_getElem?_getD,List.getD_eq_getElem?_getD,List.getElem?_eq_getElem h1,List.getElem?_eq_getElem h2] at this
 exact this
theorem aJ2 {α:Type}{L M:List α}{d:α}{k:Nat}(h:∀ j,j < k->L.getD j d=M.getD j d)(h2:L.getD k d=M.getD k d):∀ j,j < k+1->L.getD j d=M.getD j d:=by
 intro j hj
 rcases Nat.lt_succ_iff_lt_or_eq.1 hj with h1|rfl
 ·exact h j h1
 ·exact h2
theorem aOx (f d g e:Int)(w:World):(Op.equalIn 10000 23 (.agg (kd f d)) (.agg (kd g e))).run Tryz.prog w=.ok (decide (f=g)&&decide (d=e)) w:=by
 have u3:=Tryz.underlying3
 have a3:=Tryz.isAgg3
 have z3:=Tryz.sizeOf3
 have hS:Tryz.prog.underlying 23=some (.struct (Tryz.prog.fieldsOf 23)):=by kernel_rfl
 have hp:Tryz.prog.stoodInHeld 23=false:=by kernel_rfl
 rw[show (10000:Nat)=9999+1 from rfl,run_equalIn_agg w 9999 23 _ _ hS hp]
 simp only[Program.fieldsOf,Tryz.underlying23]
 go_simp
 by_cases h1:f=g <;> by_cases h2:d=e <;> simp[h1,h2]
theorem aDo (n m:In)(w:World):(Op.equalIn 10000 57 (.agg (ia n)) (.agg (ia m))).run Tryz.prog w=.ok (decide (n=m)) w:=by
 have u3:=Tryz.underlying3
 have a3:=Tryz.isAgg3
 have z3:=Tryz.sizeOf3
 have hS:Tryz.prog.underlying 57=some (.struct (Tryz.prog.fieldsOf 57)):=by kernel_rfl
 have hp:Tryz.prog.stoodInHeld 57=false:=by kernel_rfl
 rw[show (10000:Nat)=9999+1 from rfl,run_equalIn_agg w 9999 57 _ _ hS hp]
 simp only[Program.fieldsOf,Tryz.underlying57]
 obtain⟨z0,z1,z2,z3,z4,z5⟩:=n
 obtain⟨y0,y1,y2,y3,y4,y5⟩:=m
 go_simp
 by_cases h0:z0=y0
 ·by_cases h1:z1=y1
  ·by_cases h2:z2=y2
   ·by_cases h3:z3=y3
    ·by_cases h4:z4=y4
     ·by_cases h5:z5=y5
      ·simp[h0,h1,h2,h3,h4,h5]
      ·simp[h0,h1,h2,h3,h4,h5]
     ·simp[h0,h1,h2,h3,h4]
    ·simp[h0,h1,h2,h3]
   ·simp[h0,h1,h2]
  ·simp[h0,h1]
 ·simp[h0]
end Go.Proofs.Cde
namespace Go.Proofs.Cde
def cnt (n:Nat)(l:Array Bool):Nat:=((List.range n).filter fun j=>!l.getD j true).length
theorem pV (n:Nat)(l:Array Bool):cnt (n+1) l=cnt n l+(if l.getD n true=false then 1 else 0):=by
 unfold cnt
 rw[List.range_succ,List.filter_append,List.length_append]
 congr 1
 cases h:l.getD n true with
 | true=>rw[List.filter_cons_of_neg (by rw[h];decide)];rfl
 | false=>rw[List.filter_cons_of_pos (by rw[h];rfl)];rfl
theorem aAn (l:Array Bool)(i j:Nat):(l.setIfInBounds i true).getD j true=if j=i then true else l.getD j true:=by
 simp only[Array.getD_eq_getD_getElem?,Array.getElem?_setIfInBounds]
 by_cases h:i=j
 ·subst h
  rw[if_pos rfl,if_pos rfl]
  split <;> rfl
 ·rw[if_neg h,if_neg (fun e=>h e.symm)]
theorem aE8 (l:Array Bool)(i:Nat):∀ n,n<=i->cnt n (l.setIfInBounds i true)=cnt n l
 | 0,_=>rfl
 | n+1,h=>by
  have hne:¬n=i:=by omega
  rw[pV,pV,aE8 l i n (by omega),aAn,if_neg hne]
theorem aEo (l:Array Bool)(i:Nat)(h:l.getD i true=false):∀ n,i < n->cnt n (l.setIfInBounds i true)+1=cnt n l
 | 0,hn=>by omega
 | n+1,hn=>by
  rw[pV,pV,aAn]
  by_cases e:i=n
  ·subst e
   rw[aE8 l i i (Nat.le_refl _),if_pos rfl,if_pos h]
   rfl
  ·have:=aEo l i h n (by omega)
   have hne:¬n=i:=fun e'=>e e'.symm
   rw[if_neg hne]
   omega
theorem aJm {n:Nat}{l:Array Bool}(h:cnt n l=0):∀ j,j < n->l.getD j true=true:=by
 intro j hj
 unfold cnt at h
 have h2:=List.length_eq_zero_iff.1 h
 rw[List.filter_eq_nil_iff] at h2
 have:=h2 j (List.mem_range.2 hj)
 simpa using this
theorem aHj (n:Nat):cnt n (Array.replicate n false)<=n:=by
 unfold cnt
 refine Nat.le_trans (List.length_filter_le _ _) ?_
 simp
theorem oL {md:Region.Mode}{ops:Array Oper}{listed:Array Bool}{i:Nat}(h:i ∈ Region.ready md ops listed):i < ops.size/\listed.getD i true=false/\∃ o,ops[i]?=some o/\∀ e ∈ o.after,Region.binds md e=true->listed.getD e.on false=true:=by
 unfold Region.ready at h
 rw[List.mem_filter,List.mem_range] at h
 obtain⟨h1,h2⟩:=h
 rw[Bool.and_eq_true] at h2
 refine⟨h1,by simpa using h2.1,?_⟩
 cases ho:ops[i]? with
 | none=>rw[ho] at h2;simp at h2
 | some o =>
  refine⟨o,rfl,?_⟩
  rw[ho] at h2
  have h3:=h2.2
  simp only[Option.map_some,Option.getD_some,Array.all_eq_true] at h3
  intro e he hb
  obtain⟨k,hk,rfl⟩:=Array.mem_iff_getElem.1 he
  have:=h3 k hk
  rw[hb] at this
  simpa using this
theorem oZ {P:Program}{ops:Array Oper}{Q:Exit->Act->World->Prop}{id:Nat}{a:Act}{w:World}(hm:P.follows .mixedOrders=true)(I:Array Bool->Act->World->Prop)
  (h0:I (Array.replicate ops.size false) a { w with drawn:=w.drawn+1 })
  (hs:∀ listed a w i,I listed a w->i ∈ Region.ready .any ops listed->wpOp P ops Q i (I (listed.setIfInBounds i true)) a w)
  (he:∀ listed a w,I listed a w->Region.ready .any ops listed=[]->Q .normal a w):(Code.region id ops true).wp P Q a w:=by
 refine wp_region_any hm ?_
 have key:∀(fuel:Nat) (listed:Array Bool) (a:Act) (w:World),cnt ops.size listed<=fuel->I listed a w->wpAny P .any ops Q fuel listed a w:=by
  intro fuel
  induction fuel with
  | zero =>
   intro listed a w hc hI
   have hr:Region.ready .any ops listed=[]:=by
    rw[List.eq_nil_iff_forall_not_mem]
    intro i hi
    obtain⟨h1,h2,-⟩:=oL hi
    have:=aJm (show cnt ops.size listed=0 by omega) i h1
    rw[this] at h2
    cases h2
   exact⟨hr,he listed a w hI hr⟩
  | succ fuel ih =>
   intro listed a w hc hI
   refine⟨fun hr=>he listed a w hI hr,fun i hi=>?_⟩
   obtain⟨h1,h2,-⟩:=oL hi
   have:=aEo listed i h2 ops.size h1
   exact wpOp_mono (fun a' w' h'=>ih _ a' w' (by omega) h') (hs listed a w i hI hi)
 exact key _ _ _ _ (aHj _) h0
end Go.Proofs.Cde
namespace Go.Proofs.Cde
theorem wN {P:Program}{ops:Array Oper}{Q:Exit->Act->World->Prop}{i:Nat}{o:Oper}{K:Act->World->Prop}{a:Act}{w:World}(ho:ops[i]?=some o)
  (h:∀ Q':Exit->Act->World->Prop,(∀ a w,K a w->Q' .normal a w)->(∀ e a w,e≠.normal->Q e a w->Q' e a w)->wpList P ops Q' [o] a w):wpOp P ops Q i K a w:=by
 have h1:=h (fun e a w=>(e=.normal/\K a w)\/(e≠.normal/\Q e a w)) (fun a w hk=>.inl ⟨rfl,hk⟩) (fun e a w he hq=>.inr ⟨he,hq⟩)
 unfold wpOp
 rw[ho]
 unfold wpList at h1
 have hn:∀ a w,wpList P ops (fun e a w=>(e=.normal/\K a w)\/(e≠.normal/\Q e a w)) [] a w->K a w:=by
  intro a w hh
  rcases hh with⟨-,hk⟩|⟨hne,-⟩
  ·exact hk
  ·exact absurd rfl hne
 have hl:LetsOut (fun e a w=>(e=.normal/\K a w)\/(e≠.normal/\Q e a w))->LetsOut Q:=by
  rintro⟨a,w,hh⟩
  rcases hh with⟨he,-⟩|⟨-,hq⟩
  ·cases he
  ·exact⟨a,w,hq⟩
 show if _ then _ else _
 split
 ·rename_i hw
  rw[if_pos hw] at h1
  rcases h1 with h1|⟨h1,h2⟩
  ·refine .inl ?_
   unfold Oper.wp at *
   generalize (execOp a.eval o).run P w=r at *
   cases r with
   | ok n w' =>
    cases n with
    | value v=>exact hn _ _ h1
    | skip=>exact hn _ _ h1
    | defer d=>exact hn _ _ h1
    | enter f args =>
     refine Calls.mono h1 fun e w'' he=>?_
     cases e with
     | returned v=>exact hn _ _ he
     | panicked c =>
      rcases he with⟨he,-⟩|⟨-,hq⟩
      ·cases he
      ·exact hq
     | outgrown=>exact hl he
    | row r args=>exact Rows.mono h1 fun _ _ he=>hn _ _ he
    | _=>exact h1
   | halt x w' =>
    cases x with
    | panic v =>
     rcases h1 with⟨he,-⟩|⟨-,hq⟩
     ·cases he
     ·exact hq
    | _=>exact h1
  ·exact .inr ⟨h1,hl h2⟩
 ·rename_i hw
  rw[if_neg hw] at h1
  exact hn _ _ h1
theorem nC {P:Program}{ops:Array Oper}{Q:Exit->Act->World->Prop}{id:Nat}{a:Act}{w:World}(hm:P.follows .mixedOrders=true)
  (hord:∀(i:Nat) (o:Oper),ops[i]?=some o->∀ e ∈ o.after,e.on < i) (I:(Nat->Bool)->Act->World->Prop)
  (h0:I (fun _=>false) a { w with drawn:=w.drawn+1 })
  (hs:∀ d a w i o,I d a w->d i=false->ops[i]?=some o->(∀ e ∈ o.after,Region.binds .any e=true->d e.on=true)->∀ Q':Exit->Act->World->Prop,(∀ a w,I (fun j=>j==i || d j) a w->Q' .normal a w)->wpList P ops Q' [o] a w)
  (he:∀ d a w,I d a w->(∀ i,i < ops.size->d i=true)->Q .normal a w):(Code.region id ops true).wp P Q a w:=by
 refine oZ hm (fun listed a w=>listed.size=ops.size/\I (fun j=>listed.getD j false) a w) ⟨by simp,?_⟩ ?_ ?_
 ·have:(fun j=>(Array.replicate ops.size false).getD j false)=fun _=>false:=by
   funext j
   simp only[Array.getD_eq_getD_getElem?,Array.getElem?_replicate]
   split <;> rfl
  rw[this]
  exact h0
 ·rintro listed a w i ⟨hsz,hI⟩ hi
  obtain⟨h1,h2,o,ho,h3⟩:=oL hi
  refine wN ho fun Q' hk _=>?_
  refine hs _ a w i o hI ?_ ho h3 Q' fun a w hI'=>hk a w ⟨by simp[hsz],?_⟩
  ·have hlt:i < listed.size:=by omega
   simpa [Array.getD_eq_getD_getElem?,hlt] using h2
  ·have:(fun j=>(listed.setIfInBounds i true).getD j false)=fun j=>j==i || listed.getD j false:=by
    funext j
    simp only[Array.getD_eq_getD_getElem?,Array.getElem?_setIfInBounds]
    by_cases hj:i=j
    ·subst hj
     have hlt:i < listed.size:=by omega
     simp[hlt]
    ·have:(j==i)=false:=by simpa using fun e=>hj e.symm
     rw[if_neg hj,this]
     simp
   rw[this]
   exact hI'
 ·rintro listed a w ⟨hsz,hI⟩ hr
  refine he _ a w hI ?_
  intro i
  induction i using Nat.strongRecOn with
  | _ i ih =>
   intro hi
   cases hd:listed.getD i false with
   | true=>rfl
   | false =>
    exfalso
    have hm':i ∈ Region.ready .any ops listed:=by
     unfold Region.ready
     rw[List.mem_filter,List.mem_range]
     refine⟨hi,?_⟩
     have hlt:i < listed.size:=by omega
     have e1:listed.getD i true=false:=by
      simpa [Array.getD_eq_getD_getElem?,hlt] using hd
     rw[e1]
     obtain⟨o,ho⟩:∃ o,ops[i]?=some o:=⟨ops[i],Array.getElem?_eq_getElem hi⟩
     rw[ho]
     simp only[Option.map_some,Option.getD_some,Bool.not_false,Bool.true_and,Array.all_eq_true]
     intro k hk
     have hlt2:=hord i o ho o.after[k] (Array.getElem_mem hk)
     have:=ih o.after[k].on hlt2 (by omega)
     rw[this]
     simp
    rw[hr] at hm'
    cases hm'
theorem aDn {ops:Array Oper}(h:(ops.toList.zipIdx.all fun x=>x.1.after.all fun e=>decide (e.on < x.2))=true):∀(i:Nat) (o:Oper),ops[i]?=some o->∀ e ∈ o.after,e.on < i:=by
 intro i o ho e he
 rw[List.all_eq_true] at h
 have h1:=h (o,i) (by
  rw[List.mem_zipIdx_iff_getElem?]
  simpa using ho)
 rw[Array.all_eq_true] at h1
 obtain⟨k,hk,rfl⟩:=Array.mem_iff_getElem.1 he
 simpa using h1 k hk
end Go.Proofs.Cde
