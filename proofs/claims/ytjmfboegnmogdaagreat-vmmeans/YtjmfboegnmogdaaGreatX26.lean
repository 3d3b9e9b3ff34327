import Derived.Test.YtjmfboegnmogdaaGreatXH
import Derived.Laws.MakeOwn
import Derived.Deep.AppendLies
import Derived.Lib.QuietBelow
import Derived.BigQuiet
import Derived.Deep.RegionHeld3
import Derived.Deep.RegionWith
import Derived.Laws.StructEq
import Derived.Deep.QuietTactic
import Derived.Test.YtjmfboegnmogdaaGreatX10
import Derived.Test.YtjmfboegnmogdaaGreatX14
import Derived.Test.YtjmfboegnmogdaaGreatX11
import Derived.Test.YtjmfboegnmogdaaGreatX24
set_option maxRecDepth 100000
set_option maxHeartbeats 32000000
set_option linter.unusedVariables false
namespace Go.Proofs.Cde
open Go.RowKit Go.IntWalk Knd
variable {V W w:World} {v x:Value} {b base c cap g k n size:Nat} {a:Option Addr} {e t:TypeId} {D:List Int} {xs:List Value}
theorem tX:Tryz.prog.follows .mixedOrders=true:=by kernel_rfl
theorem aEz {P:Program}{f:FuncId}{args:Array Value}(h:Calls P f args V fun e w'=>e=.returned v/\w'=V):Calls P f args V fun e w'=>e=.returned v/\Below V.heap.size V w' :=
 h.mono fun _ _ ⟨he,hw⟩=>⟨he,hw ▸ Below.refl _ _⟩
theorem aF (w:World):Below w.heap.size w w.drew:=(Below.refl _ _).drew
theorem aKq (w:World)(q:Nat):Below w.heap.size w (w.drewN q):=⟨rfl,rfl,rfl,Nat.le_refl _,fun _ _=>rfl⟩
theorem aH {α:Type}(z:α){L:List α}(h:k < L.length):L.take (k+1)=L.take k++[L.getD k z]:=by
 rw[List.take_succ_eq_append_getElem h,List.getD_eq_getElem?_getD,List.getElem?_eq_getElem h]
 rfl
theorem oL {α:Type}(z:α){L:List α}(h:k < L.length):L.getD k z ∈ L:=by
 rw[List.getD_eq_getElem?_getD,List.getElem?_eq_getElem h]
 exact List.getElem_mem _
structure In where
 op:Int
 a:Int
 b:Int
 c:Int
 k:Int
 s:Int
 deriving DecidableEq
def i0:In:=⟨0,0,0,0,0,0⟩
abbrev ia (n:In):Array Value:=#[.int .i64 n.op,.int .i64 n.a,.int .i64 n.b,.int .i64 n.c,.int .i64 n.k,.int .i64 n.s]
def i6 (n:In):List Value:=[.int .i64 n.op,.int .i64 n.a,.int .i64 n.b,.int .i64 n.c,.int .i64 n.k,.int .i64 n.s]
def bU (L:List In):List Value:=L.flatMap i6
abbrev kd (f d:Int):Array Value:=#[.int .i64 f,.int .i64 d]
abbrev cd (f d:Int)(a:Option Addr)(n cap:Nat)(o:Int):Array Value:=#[.int .i64 f,.int .i64 d,.slice a n cap,.int .i64 o]
theorem pQ (L:List In):(bU L).length=L.length*6:=by
 induction L with
 | nil=>rfl
 | cons p L ih=>simp[bU,i6] at *;omega
theorem oN (L:List In)(n:In):bU (L++[n])=bU L++i6 n:=by simp[bU]
theorem vP (L:List In):∀ u ∈ bU L,u.oneCell'=true:=by
 intro u hu
 simp only[bU,List.mem_flatMap] at hu
 obtain⟨n,_,hn⟩:=hu
 simp[i6] at hn
 rcases hn with rfl|rfl|rfl|rfl|rfl|rfl <;> rfl
theorem vO:∀(L:List In) (i:Nat),i < L.length->∀ j v,(i6 (L.getD i i0))[j]?=some v->(bU L)[i*6+j]?=some v
 | [],i,h=>by simp at h
 | p::L,0,h=>fun j v hv=>by
  have hj:j < 6:=by
   rcases Nat.lt_or_ge j 6 with h|h
   ·exact h
   ·rw[List.getElem?_eq_none (by simpa [i6] using h)] at hv;cases hv
  simp only[bU,List.flatMap_cons,Nat.zero_mul,Nat.zero_add]
  rw[List.getElem?_append_left (by simpa [i6] using hj)]
  simpa using hv
 | p::L,i+1,h=>fun j v hv=>by
  have:=vO L i (by simpa using h) j v (by simpa using hv)
  simp only[bU,List.flatMap_cons] at this ⊢
  rw[List.getElem?_append_right (by simp[i6];omega)]
  rw[show (i+1)*6+j-(i6 p).length=i*6+j by simp[i6];omega]
  exact this
structure Ins (W:World)(a:Option Addr)(n cap:Nat)(L:List In):Prop where
 len:L.length=n
 le:n<=cap
 max:cap<=maxLen
 nil:a=none->cap=0
 cell:n=0\/∃ b off,a=some ⟨b,off,none⟩/\b < W.heap.size/\∀ i,i < n->∀ j v,(i6 (L.getD i i0))[j]?=some v->W.cell? ⟨b,off+i*6+j,none⟩=some v
theorem Ins.of_owns {L:List In}(h:W.ownsRow base 41 6 v n (bU L)):∃ a cap,v=.slice a n cap/\Ins W a n cap L/\(∀ x,a=some x->base<=x.block/\x.block < W.heap.size):=by
 have hl:L.length=n:=by have:=h.1;rw[pQ] at this;omega
 have hcs:=fun g hg=>h.cells (g:=g) hg
 have hlt:=h.lt
 rcases h.2 with⟨rfl,rfl⟩|⟨g,cap,cur,rfl,hb,hg,hnc,hcm,hsz,htake⟩
 ·exact⟨none,0,rfl,⟨hl,Nat.le_refl _,Nat.zero_le _,fun _=>rfl,.inl rfl⟩,fun x hx=>by cases hx⟩
 ·refine⟨some ⟨g,0,none⟩,cap,rfl,⟨hl,hnc,hcm,(fun h=>by cases h),.inr ⟨g,0,rfl,(hlt g rfl).2,fun i hi j u hu=>?_⟩⟩,fun x hx=>by cases hx;exact hlt g rfl⟩
  have:=hcs g rfl _ _ (vO L i (by omega) j u hu)
  rw[Addr.add_lit] at this
  rw[Nat.add_assoc]
  exact this
theorem Ins.later {W':World}{L:List In}(h:Ins W a n cap L)(hb:Below W.heap.size W W'):Ins W' a n cap L:=by
 refine⟨h.len,h.le,h.max,h.nil,?_⟩
 rcases h.cell with h0|⟨b,off,ha,hlt,hc⟩
 ·exact .inl h0
 ·exact .inr ⟨b,off,ha,Nat.lt_of_lt_of_le hlt hb.size,fun i hi j v hv=>(hb.cell (p:=⟨b,off+i*6+j,none⟩) hlt).trans (hc i hi j v hv)⟩
abbrev qO (W:World)(b o:Nat)(n:In):Prop :=
 W.cell? ⟨b,o,none⟩=some (.int .i64 n.op)/\W.cell? ⟨b,o+1,none⟩=some (.int .i64 n.a)/\W.cell? ⟨b,o+2,none⟩=some (.int .i64 n.b)/\W.cell? ⟨b,o+3,none⟩=some (.int .i64 n.c)/\W.cell? ⟨b,o+4,none⟩=some (.int .i64 n.k)/\W.cell? ⟨b,o+5,none⟩=some (.int .i64 n.s)
theorem Ins.at {L:List In}(h:Ins W a n cap L)(h0:0 < n):∃ g off,a=some ⟨g,off,none⟩/\g < W.heap.size/\∀ i,i < n->qO W g (off+i*6) (L.getD i i0):=by
 rcases h.cell with h|⟨g,off,ha,hlt,hc⟩
 ·omega
 ·exact⟨g,off,ha,hlt,fun i hi=>⟨hc i hi 0 _ rfl,hc i hi 1 _ rfl,hc i hi 2 _ rfl,hc i hi 3 _ rfl,hc i hi 4 _ rfl,hc i hi 5 _ rfl⟩⟩
theorem Ins.news {L:List In}(h:Ins w a n cap L):∀ ad,a=some ad->∀ j u,(bU L)[j]?=some u->w.cell? (ad.add j)=some u:=by
 intro ad ha j u hu
 have h2:=h.len
 have hj:j < n*6:=by
  have:=(List.getElem?_eq_some_iff.1 hu).1
  rw[pQ] at this
  omega
 rcases h.cell with h0|⟨b,off,ha',hb,hc⟩
 ·omega
 ·rw[ha] at ha'
  cases ha'
  rw[Addr.add_lit]
  obtain⟨v,hv⟩:∃ v,(i6 (L.getD (j / 6) i0))[j % 6]?=some v:=⟨(i6 (L.getD (j / 6) i0))[j % 6]'(by simp[i6];omega),List.getElem?_eq_getElem _⟩
  have h3:=hc (j / 6) (by omega) (j % 6) v hv
  have h4:=vO L (j / 6) (by omega) (j % 6) v hv
  rw[show j / 6*6+j % 6=j by omega] at h4
  rw[h4] at hu
  cases hu
  rw[show off+j / 6*6+j % 6=off+j by omega] at h3
  exact h3
theorem Ins.short {L:List In}(h:Ins w a n c L):n<=9223372036854775807:=by
 have:=h.le;have:=h.max;unfold maxLen at this;omega
theorem spn {L:List Int}(h:Ints w a n c L):Spn.Ints w a n c L:=⟨h.len,h.le,h.max,h.nil,h.cell⟩
theorem aR {y:Value}(h:aB W b t #[x,y]):W.cell? ⟨b,0,none⟩=some x/\W.cell? ⟨b,1,none⟩=some y:=⟨h.cell 0 rfl,h.cell 1 rfl⟩
theorem aD {y z u:Value}(h:aB W b t #[x,y,z,u]):W.cell? ⟨b,0,none⟩=some x/\W.cell? ⟨b,1,none⟩=some y/\W.cell? ⟨b,2,none⟩=some z/\W.cell? ⟨b,3,none⟩=some u :=
 ⟨h.cell 0 rfl,h.cell 1 rfl,h.cell 2 rfl,h.cell 3 rfl⟩
theorem aJ {n:In}(h:aB W b t (ia n)):qO W b 0 n:=⟨h.cell 0 rfl,h.cell 1 rfl,h.cell 2 rfl,h.cell 3 rfl,h.cell 4 rfl,h.cell 5 rfl⟩
theorem aL (W:World)(o:Obj)(t:TypeId)(cs:Array Value):aB ((W.alloc o).alloc (.cells cs t)) (W.heap.size+1) t cs:=by
 have:=aB.new (W.alloc o) t cs
 rwa[World.size_alloc] at this
abbrev zA (L:List Int):Array Value:=(eH L).toArray
theorem jR (L:List Int)(i:Nat)(h:i < L.length):(zA L)[i]?=some (.int .i64 (L.getD i 0)):=by
 unfold zA
 rw[List.getElem?_toArray,List.getElem?_map,List.getD_eq_getElem?_getD,List.getElem?_eq_getElem h]
 rfl
theorem aUv (n:Nat):madeCells #[.int .i64 0] (n*1)=zA (List.replicate n 0):=by
 apply Array.ext_getElem?
 intro i
 by_cases hi:i < n
 ·rw[jR _ _ (by simpa using hi)]
  unfold madeCells
  rw[Array.getElem?_map,Array.getElem?_eq_getElem (by simpa using hi)]
  have hz:(List.replicate n (0:Int)).getD i 0=0:=by
   rw[List.getD_eq_getElem?_getD,List.getElem?_replicate];split <;> rfl
  rw[hz]
  simp only[Array.getElem_range,Option.map_some]
  show some ((#[Value.int .i64 0])[i % 1]!)=_
  rw[Nat.mod_one]
  rfl
 ·rw[Array.getElem?_eq_none (by rw[size_madeCells];omega),Array.getElem?_eq_none (by simp;omega)]
theorem aMb (n:Nat)(h:n<=1024)(w:World):(Instr.makeSlice 43 (.int .i64 n) (.int .i64 n)).run Tryz.prog w=.ok (.slice (some ⟨w.heap.size,0,none⟩) n n) (w.alloc (.cells (zA (List.replicate n 0)) 3)):=by
 obtain⟨i0,hi,hz0,hz1,hz2⟩:=info_parts info3
 have:=run_make w 43 3 i0 _ Tryz.underlying43 hi hz0 .i64 .i64 n n (by omega) (Int.le_refl _) (by rw[hz2];omega) (by omega)
 rw[hz1] at this
 simp only[Int.toNat_natCast] at this
 have e:madeCells (Value.int .i64 0).cells (n*1)=zA (List.replicate n 0):=aUv n
 rw[e] at this
 exact this
theorem aNh {Z:List Int}{q:Int}(h:aB W g 3 (zA (D++q::Z)))(hk:D.length=k)(x:Int):aB (W.setCell ⟨g,k,none⟩ (.int .i64 x)) g 3 (zA (D++x::Z)):=by
 subst hk
 have:=h.set D.length (.int .i64 x)
 have e:(zA (D++q::Z)).setIfInBounds D.length (.int .i64 x)=zA (D++x::Z):=by
  apply Array.toList_inj.1
  simp only[Array.toList_setIfInBounds,List.map_append,List.map_cons]
  rw[List.set_append_right _ _ (by simp)]
  simp
 rwa[e] at this
theorem aX9 (h:aB W g 3 (zA D))(x:Int):aB (W.setCell ⟨g,k,none⟩ (.int .i64 x)) g 3 (zA (D.set k x)):=by
 have:=h.set k (.int .i64 x)
 have e:(zA D).setIfInBounds k (.int .i64 x)=zA (D.set k x):=by
  apply Array.toList_inj.1
  simp[List.map_set]
 rwa[e] at this
theorem aLq {L:List Int}(h:aB W g 3 (zA L))(hl:L.length<=1024):Ints W (some ⟨g,0,none⟩) L.length L.length L:=by
 refine⟨rfl,Nat.le_refl _,by unfold maxLen;omega,(fun h=>by cases h),.inr ⟨g,0,rfl,fun i hi=>?_⟩⟩
 rw[Nat.zero_add]
 exact h.cell i (jR L i hi)
theorem dH {S Z:List Int}{i:Nat}(h:i < S.length):(S++Z).getD i 0=S.getD i 0:=by
 rw[List.getD_eq_getElem?_getD,List.getElem?_append_left h,<-List.getD_eq_getElem?_getD]
structure Ls (w W:World)(v:Value)(L:List Int):Prop where
 a:W.ownsRow w.heap.size 3 1 v L.length (eH L)
 bel:Below w.heap.size w W
theorem aN (h:W.ownsRow base e size v n xs):∀ k,v.ownBlock=some k->base<=k/\∃ cs fr,W.heap[k]?=some (.cells cs e fr):=by
 intro k hk
 rcases h.2 with⟨rfl,_⟩|⟨g,cap,cur,rfl,hb,hgg,rest⟩
 ·simp[Value.ownBlock] at hk
 ·simp[Value.ownBlock] at hk
  subst hk
  exact⟨hb,_,_,hgg⟩
theorem bO {base':Nat}(h:w.ownsRow base e size v n xs)(hb:base'<=base):w.ownsRow base' e size v n xs:=by
 obtain⟨h1,h2⟩:=h
 refine⟨h1,?_⟩
 rcases h2 with h2|⟨g,cap,cur,hv,hg,rest⟩
 ·exact .inl h2
 ·exact .inr ⟨g,cap,cur,hv,Nat.le_trans hb hg,rest⟩
theorem aW {V':World}{lo:Nat}(h:V.ownsRow lo e size v n xs)(hb:Below V.heap.size V V'):V'.ownsRow lo e size v n xs:=by
 have hg:V.grownBy V' none:=⟨hb.os,hb.tape,hb.output,hb.size,fun k hk _=>hb.block k hk⟩
 refine h.kept hg ?_
 cases hv:v.ownBlock with
 | none=>exact .inl rfl
 | some q=>exact .inr (by simp)
theorem jK {q:Nat}(h:aB W q t #[x]):∀ j u,[x][j]?=some u->W.cell? ((⟨q,0,none⟩:Addr).add j)=some u:=by
 intro j u hu
 have hj:j=0:=by
  by_cases hj:j=0
  ·exact hj
  ·simp[hj] at hu
 subst hj
 simp at hu
 subst hu
 rw[Addr.add_lit]
 exact h.cell 0 rfl
theorem aSf (h:V.ownsRow w.heap.size 3 1 (.slice a D.length c) D.length (eH D)):Ints V a D.length c D:=by
 obtain⟨a',c',e,hi,-⟩:=Ints.of_owns h
 cases e
 exact hi
def iU (o:Int):Int:=if o=4 then 0 else if o=11 then 4 else if o=12 then 6 else 1
theorem aK0 (o:Int):0<=iU o/\iU o<=6:=by
 unfold iU
 split
 ·omega
 ·split
  ·omega
  ·split <;> omega
end Go.Proofs.Cde
namespace Go.Proofs.Cde
open Go.RowKit Go.IntWalk Knd
theorem iA {a b:Bool}(h:a=b):Ending.returned (.bool a)=.returned (.bool b):=by rw[h]
theorem oJ (x lo hi:Int)(w:World) :
  Calls Tryz.prog 116 #[.int .i64 x,.int .i64 lo,.int .i64 hi] w fun e w'=>e=.returned (.bool (Spn.eP x lo hi))/\w'=w:=by
 by_cases h1:lo<=x
 ·go_enter Tryz.func116,Tryz.ntmps116
  go_wp2
  go_ret
  exact⟨iA (by simp[Spn.eP,h1]),rfl⟩
 ·rw[show Spn.eP x lo hi=false from Spn.aS3 (by omega)]
  go_enter Tryz.func116,Tryz.ntmps116
  go_wp2
  go_ret
  exact⟨rfl,rfl⟩
theorem wM (o:Int)(W:World):Calls Tryz.prog 40 #[.int .i64 o] W fun e W'=>e=.returned (.int .i64 (iU o))/\W'=W:=by
 by_cases h1:o=4
 ·subst h1
  go_enter Tryz.func40,Tryz.ntmps40
  go_wp2
  go_ret
  exact⟨rfl,rfl⟩
 by_cases h2:o=11
 ·subst h2
  go_enter Tryz.func40,Tryz.ntmps40
  go_wp2
  go_ret
  exact⟨rfl,rfl⟩
 by_cases h3:o=12
 ·subst h3
  go_enter Tryz.func40,Tryz.ntmps40
  go_wp2
  go_ret
  exact⟨rfl,rfl⟩
 have e:iU o=1:=by unfold iU;rw[if_neg h1,if_neg h2,if_neg h3]
 rw[e]
 have e1:(o==4)=false:=by simpa using h1
 have e2:(o==11)=false:=by simpa using h2
 have e3:(o==12)=false:=by simpa using h3
 clear h1 h2 h3 e
 go_enter Tryz.func40,Tryz.ntmps40
 go_wp2
 go_ret
 exact⟨rfl,rfl⟩
def rJ (r:Int)(used:Bool)(i:Int):Bool:=if used then Spn.eP r 0 (i-1) else r==0
def nQ (n:In)(j:Nat):Int:=[n.a,n.b,n.c].getD j 0
def rM (n:In)(i:Int):Bool:=rJ n.a (decide (0 < Spn.ar n.op)) i&&rJ n.b (decide (1 < Spn.ar n.op)) i&&rJ n.c (decide (2 < Spn.ar n.op)) i
def rgT (n:In)(i:Int)(k:Nat):Bool:=(List.range k).all fun j=>rJ (nQ n j) (decide ((j:Int) < Spn.ar n.op)) i
theorem aAu (n:In)(i:Int):rgT n i 3=rM n i:=by
 simp[rgT,rM,List.range_succ,nQ]
 rw[Bool.and_assoc]
theorem aNq (n:In)(i:Int)(k:Nat):rgT n i (k+1)=(rgT n i k&&rJ (nQ n k) (decide ((k:Int) < Spn.ar n.op)) i):=by
 simp[rgT,List.range_succ]
theorem aNp {n:In}{i:Int}{k m:Nat}(h:rgT n i m=true)(hk:k<=m):rgT n i k=true:=by
 simp only[rgT,List.all_eq_true,List.mem_range] at *
 exact fun j hj=>h j (by omega)
def nJ (n:In):Bool :=
 if n.op=1 then Spn.wd n.k&&n.s==0 else if n.op=2 then Spn.eP n.k 0 5&&n.s==0 else if n.op=3 then Spn.eP n.k 0 255&&n.s==0 else
 if n.op=29\/n.op=30\/n.op=31\/n.op=32 then Spn.cons n.op n.k n.s&&n.s==0 else if n.op=33 then Spn.cons n.op n.k n.s else n.k==0&&n.s==0
theorem aVr (n:In)(j:Nat)(h:j < 3):(#[Value.int .i64 n.a,.int .i64 n.b,.int .i64 n.c])[j]?=some (.int .i64 (nQ n j)):=by
 rcases(show j=0\/j=1\/j=2 by omega) with rfl|rfl|rfl <;> rfl
theorem wN (n:In)(i:Int)(hi:-9223372036854775808<=i-1/\i-1<=9223372036854775807)(W:World) :
  Calls Tryz.prog 117 #[.agg (ia n),.int .i64 i] W fun e W'=>e=.returned (.bool (rM n i))/\Below W.heap.size W W':=by
 have HA:=aA fun W=>Spn.bI n.op W
 have HWi:=aA fun x lo hi W=>oJ x lo hi W
 have HB:=aA (bel (aC W (.cells (ia n) 41)) (aC (W.alloc (.cells (ia n) 41)) (.cells #[.int .i64 n.a,.int .i64 n.b,.int .i64 n.c] 3)))
 have HG:=aA (aL W (.cells (ia n) 41) 3 #[.int .i64 n.a,.int .i64 n.b,.int .i64 n.c])
 obtain⟨i1,i2⟩:=hi
 rw[<-aAu]
 have HT:=aA fun k=>aNq n i k
 have HD:=aA fun k m (h:rgT n i m=true) (hk:k<=m)=>aNp h hk
 have H0:Hid (rgT n i 0=true):=aA rfl
 generalize rgT n i=T at *
 generalize Spn.ar n.op=ar at *
 have HR:=aA fun j h=>aVr n j h
 go_enter Tryz.func117,Tryz.ntmps117
 go_wp2_with fail
 refine(HA.o _).mono ?_
 rintro e w1 ⟨rfl,rfl⟩
 go_wp2_with fail
 obtain⟨V,hV⟩:∃ V,(W.alloc (.cells (ia n) 41)).alloc (.cells #[.int .i64 n.a,.int .i64 n.b,.int .i64 n.c] 3)=V:=⟨_,rfl⟩
 rw[hV] at HB HG ⊢
 clear hV HA
 go_loop [19] (fun j=>∃ k:Nat,k<=3/\j=.int .i64 k/\Hid (T k=true)) (fun j=>3-(intOf j).toNat)
 case atStart=>exact⟨0,by omega,rfl,aA H0.o⟩
 case round =>
  obtain⟨k,hk,rfl,HK⟩:=hrel
  by_cases hlt:k < 3
  ·have c0:=HG.o.cell k (HR.o k hlt)
   have hs:=HT.o k
   rw[HK.o,Bool.true_and] at hs
   generalize nQ n k=r at *
   have j0:(0:Int)<=k:=by omega
   have j1:(k:Int) < 3:=by omega
   by_cases hu:(k:Int) < ar
   ·rw[show rJ r (decide ((k:Int) < ar)) i=Spn.eP r 0 (i-1) by simp[rJ,hu]] at hs
    have HS:=aA hs
    clear hs
    cases hB:Spn.eP r 0 (i-1)
    ·go_wp2_with (go_at_call 116;refine(HWi.o _ _ _ _).mono ?_;rintro e w' ⟨rfl,rfl⟩)
     go_ret
     refine⟨iA ?_,HB.o⟩
     cases h3:T 3
     ·rfl
     ·have:=HD.o (k+1) 3 h3 (by omega)
      rw[HS.o,hB] at this
      exact this
    ·have hu2:decide (ar<=(k:Int))=false:=by simp;omega
     go_wp2_with (go_at_call 116;refine(HWi.o _ _ _ _).mono ?_;rintro e w' ⟨rfl,rfl⟩)
     go_round
     case rel=>exact⟨k+1,by omega,by go_num,aA (by rw[HS.o];exact hB)⟩
     case measure=>simp[intOf];omega
   ·rw[show rJ r (decide ((k:Int) < ar)) i=(r==0) by simp[rJ,hu]] at hs
    have HS:=aA hs
    clear hs
    have hu2:ar<=(k:Int):=by omega
    have hu3:decide ((k:Int) < ar)=false:=by simpa using hu
    by_cases hr:r=0
    ·subst hr
     go_wp2_with fail
     go_round
     case rel=>exact⟨k+1,by omega,by go_num,aA HS.o⟩
     case measure=>simp[intOf];omega
    ·have hr2:(r != 0)=true:=by simpa using hr
     go_wp2_with fail
     go_ret
     refine⟨iA ?_,HB.o⟩
     cases h3:T 3
     ·rfl
     ·have:=HD.o (k+1) 3 h3 (by omega)
      rw[HS.o] at this
      simp[hr] at this
  ·obtain rfl:k=3:=by omega
   go_wp2_with fail
   go_ret
   exact⟨iA HK.o.symm,HB.o⟩
theorem wG (n:In)(W:World) :
  Calls Tryz.prog 118 #[.agg (ia n)] W fun e W'=>e=.returned (.bool (nJ n))/\Below W.heap.size W W':=by
 have HB:=aA (aC W (.cells (ia n) 41))
 have HWi:=aA fun x lo hi W=>oJ x lo hi W
 have HWd:=aA fun x W=>Spn.dR x W
 have HC:=aA fun op k s W=>Spn.gH op k s W
 obtain⟨op,a,b,c,k,s⟩:=n
 unfold nJ
 dsimp only at *
 by_cases h1:op=1
 ·subst h1
  rw[if_pos rfl]
  cases hq:Spn.wd k
  ·go_enter Tryz.func118,Tryz.ntmps118
   go_wp2_with (go_at_call 150;refine(HWd.o _ _).mono ?_;rintro e w' ⟨rfl,rfl⟩)
   go_ret
   exact⟨iA rfl,HB.o⟩
  ·go_enter Tryz.func118,Tryz.ntmps118
   go_wp2_with (go_at_call 150;refine(HWd.o _ _).mono ?_;rintro e w' ⟨rfl,rfl⟩)
   go_ret
   exact⟨iA (by simp),HB.o⟩
 rw[if_neg h1]
 have q1:(op==1)=false:=by simpa using h1
 by_cases h2:op=2
 ·subst h2
  clear q1 h1
  rw[if_pos rfl]
  cases hq:Spn.eP k 0 5
  ·go_enter Tryz.func118,Tryz.ntmps118
   go_wp2_with (go_at_call 116;refine(HWi.o _ _ _ _).mono ?_;rintro e w' ⟨rfl,rfl⟩)
   go_ret
   exact⟨iA rfl,HB.o⟩
  ·go_enter Tryz.func118,Tryz.ntmps118
   go_wp2_with (go_at_call 116;refine(HWi.o _ _ _ _).mono ?_;rintro e w' ⟨rfl,rfl⟩)
   go_ret
   exact⟨iA (by simp),HB.o⟩
 rw[if_neg h2]
 have q2:(op==2)=false:=by simpa using h2
 by_cases h3:op=3
 ·subst h3
  clear q1 h1 q2 h2
  rw[if_pos rfl]
  cases hq:Spn.eP k 0 255
  ·go_enter Tryz.func118,Tryz.ntmps118
   go_wp2_with (go_at_call 116;refine(HWi.o _ _ _ _).mono ?_;rintro e w' ⟨rfl,rfl⟩)
   go_ret
   exact⟨iA rfl,HB.o⟩
  ·go_enter Tryz.func118,Tryz.ntmps118
   go_wp2_with (go_at_call 116;refine(HWi.o _ _ _ _).mono ?_;rintro e w' ⟨rfl,rfl⟩)
   go_ret
   exact⟨iA (by simp),HB.o⟩
 rw[if_neg h3]
 have q3:(op==3)=false:=by simpa using h3
 by_cases h4:op=29\/op=30\/op=31\/op=32
 ·rw[if_pos h4]
  clear q1 h1 q2 h2 q3 h3
  rcases h4 with rfl|rfl|rfl|rfl
  ·cases hq:Spn.cons 29 k s
   ·go_enter Tryz.func118,Tryz.ntmps118
    go_wp2_with (go_at_call 154;refine(HC.o _ _ _ _).mono ?_;rintro e w' ⟨rfl,rfl⟩)
    go_ret
    exact⟨iA rfl,HB.o⟩
   ·go_enter Tryz.func118,Tryz.ntmps118
    go_wp2_with (go_at_call 154;refine(HC.o _ _ _ _).mono ?_;rintro e w' ⟨rfl,rfl⟩)
    go_ret
    exact⟨iA (by simp),HB.o⟩
  ·cases hq:Spn.cons 30 k s
   ·go_enter Tryz.func118,Tryz.ntmps118
    go_wp2_with (go_at_call 154;refine(HC.o _ _ _ _).mono ?_;rintro e w' ⟨rfl,rfl⟩)
    go_ret
    exact⟨iA rfl,HB.o⟩
   ·go_enter Tryz.func118,Tryz.ntmps118
    go_wp2_with (go_at_call 154;refine(HC.o _ _ _ _).mono ?_;rintro e w' ⟨rfl,rfl⟩)
    go_ret
    exact⟨iA (by simp),HB.o⟩
  ·cases hq:Spn.cons 31 k s
   ·go_enter Tryz.func118,Tryz.ntmps118
    go_wp2_with (go_at_call 154;refine(HC.o _ _ _ _).mono ?_;rintro e w' ⟨rfl,rfl⟩)
    go_ret
    exact⟨iA rfl,HB.o⟩
   ·go_enter Tryz.func118,Tryz.ntmps118
    go_wp2_with (go_at_call 154;refine(HC.o _ _ _ _).mono ?_;rintro e w' ⟨rfl,rfl⟩)
    go_ret
    exact⟨iA (by simp),HB.o⟩
  ·cases hq:Spn.cons 32 k s
   ·go_enter Tryz.func118,Tryz.ntmps118
    go_wp2_with (go_at_call 154;refine(HC.o _ _ _ _).mono ?_;rintro e w' ⟨rfl,rfl⟩)
    go_ret
    exact⟨iA rfl,HB.o⟩
   ·go_enter Tryz.func118,Tryz.ntmps118
    go_wp2_with (go_at_call 154;refine(HC.o _ _ _ _).mono ?_;rintro e w' ⟨rfl,rfl⟩)
    go_ret
    exact⟨iA (by simp),HB.o⟩
 rw[if_neg h4]
 by_cases h5:op=33
 ·subst h5
  rw[if_pos rfl]
  clear q1 h1 q2 h2 q3 h3 h4
  go_enter Tryz.func118,Tryz.ntmps118
  go_wp2_with (go_at_call 154;refine(HC.o _ _ _ _).mono ?_;rintro e w' ⟨rfl,rfl⟩)
  go_ret
  exact⟨rfl,HB.o⟩
 rw[if_neg h5]
 have q4:(op==29)=false:=by simp;omega
 have q5:(op==30)=false:=by simp;omega
 have q6:(op==31)=false:=by simp;omega
 have q7:(op==32)=false:=by simp;omega
 have q8:(op==33)=false:=by simpa using h5
 clear h1 h2 h3 h4 h5
 by_cases hk:k=0
 ·subst hk
  go_enter Tryz.func118,Tryz.ntmps118
  go_wp2_with fail
  go_ret
  exact⟨iA (by simp),HB.o⟩
 ·have hk2:(k==0)=false:=by simpa using hk
  clear hk
  go_enter Tryz.func118,Tryz.ntmps118
  go_wp2_with fail
  go_ret
  exact⟨iA (by simp[hk2]),HB.o⟩
end Go.Proofs.Cde
namespace Go.Proofs.Cde
open Go.RowKit Go.IntWalk Knd
variable {L:List In} {n:Nat}
def bC (n:In)(i:Nat):Bool:=decide (0<=Spn.ar n.op)&&rM n i&&nJ n
def dN (L:List In)(k:Nat):Bool:=(List.range k).all fun i=>bC (L.getD i i0) i
theorem aD5 (L:List In)(k:Nat):dN L (k+1)=(dN L k&&bC (L.getD k i0) k):=by
 simp[dN,List.range_succ]
theorem cZ {m:Nat}(h:dN L m=true){k:Nat}(hk:k < m):bC (L.getD k i0) k=true:=by
 simp only[dN,List.all_eq_true,List.mem_range] at h
 exact h k hk
def jS (f d:Int)(L:List In)(out:Int):Bool:=decide (May f d)&&Spn.eP L.length 1 200&&Spn.eP out 0 ((L.length:Int)-1)&&dN L L.length
def ccE (f d:Int)(L:List In)(out:Int):Int:=if jS f d L out=true then 0 else 15
def okE (L:List In)(n:Nat):Int:=if dN L n=true then 0 else 15
theorem aB7 (h:dN L n=true->False):(15:Int)=okE L n:=by unfold okE;rw[if_neg h]
theorem aU9 (h:dN L n=true):(0:Int)=okE L n:=by unfold okE;rw[if_pos h]
theorem aFy (f d:Int)(w:World):Calls Tryz.prog 98 #[.agg (kd f d)] w fun e w'=>e=.returned (.int .i64 (if May f d then 0 else 1))/\Below w.heap.size w w':=by
 by_cases h:May f d
 ·rw[if_pos h];exact bS f d w h
 ·rw[if_neg h];exact gV f d w h
theorem kM (f d out:Int){a:Option Addr}{cap:Nat}{W:World}(hL:Ins W a n cap L) :
  Calls Tryz.prog 71 #[.agg (cd f d a n cap out)] W fun e W'=>e=.returned (.int .i64 (ccE f d L out))/\Below W.heap.size W W':=by
 have HB0:=aA (aC W (.cells (cd f d a n cap out) 26))
 have HC0:=aA (aB.new W 26 (cd f d a n cap out))
 have hn:=hL.short
 have HLn:=aA hL.len
 have HK:=aA fun w=>aFy f d w
 have HWi:=aA fun x lo hi w=>oJ x lo hi w
 have HL0:=aA hL
 clear hL
 have n1:-9223372036854775808<=(n:Int)-1/\(n:Int)-1<=9223372036854775807:=by omega
 have n0:0<=(n:Int):=by omega
 by_cases hm:May f d
 ·rw[if_pos hm] at HK
  cases hc:Spn.eP (n:Int) 1 200
  ·rw[show ccE f d L out=15 by simp[ccE,jS,HLn.o,hc]]
   go_enter Tryz.func71,Tryz.ntmps71
   go_wp2_with (first
    | (go_at_call 98;refine(HK.o _).mono ?_;rintro e w1 ⟨rfl,hb⟩;have HB1:=aA (bel HB0.o hb);obtain⟨c0,c1,c2,c3⟩:=aD (HC0.o.below hb);clear hb)
    | (go_at_call 116;refine(HWi.o _ _ _ _).mono ?_;rintro e w' ⟨rfl,rfl⟩))
   go_ret
   exact⟨rfl,HB1.o⟩
  ·cases ho:Spn.eP out 0 ((n:Int)-1)
   ·rw[show ccE f d L out=15 by simp[ccE,jS,HLn.o,ho]]
    go_enter Tryz.func71,Tryz.ntmps71
    go_wp2_with (first
     | (go_at_call 98;refine(HK.o _).mono ?_;rintro e w1 ⟨rfl,hb⟩;have HB1:=aA (bel HB0.o hb);obtain⟨c0,c1,c2,c3⟩:=aD (HC0.o.below hb);clear hb)
     | (go_at_call 116;refine(HWi.o _ _ _ _).mono ?_;rintro e w' ⟨rfl,rfl⟩))
    go_ret
    exact⟨rfl,HB1.o⟩
   ·have hE:ccE f d L out=okE L n:=by simp[okE,ccE,jS,HLn.o,ho,hm,hc]
    rw[hE]
    clear hE
    have hcc:=Spn.aK.1 hc
    go_enter Tryz.func71,Tryz.ntmps71
    go_wp2_with (first
     | (go_at_call 98;refine(HK.o _).mono ?_;rintro e w1 ⟨rfl,hb⟩;have HB1:=aA (bel HB0.o hb);obtain⟨c0,c1,c2,c3⟩:=aD (HC0.o.below hb);clear hb)
     | (go_at_call 116;refine(HWi.o _ _ _ _).mono ?_;rintro e w' ⟨rfl,rfl⟩))
    clear c0 c1 c2 c3 HB0 HC0 HK ho hc
    go_loopw [29] (fun i wr=>∃ k:Nat,k<=n/\i=.int .i64 k/\Hid (dN L k=true)/\Hid (Below W.heap.size W wr)) (fun i _=>n-(intOf i).toNat)
    case atStart=>exact⟨0,Nat.zero_le _,rfl,aA rfl,HB1⟩
    case round =>
     obtain⟨k,hk,rfl,HT,HB⟩:=hrel
     rename World=>V
     clear HB1
     by_cases hlt:k < n
     ·obtain⟨g,off,rfl,-,hat⟩:=(HL0.o.later HB.o).at (by omega)
      obtain⟨e0,e1,e2,e3,e4,e5⟩:=hat k hlt
      clear hat
      have hi0:(0:Int)<=k:=by omega
      have hi1:(k:Int) < n:=by omega
      have hS:=aD5 L k
      have HD:=aA fun h=>cZ (L:=L) (m:=n) h hlt
      generalize L.getD k i0=m at *
      rw[HT.o,Bool.true_and] at hS
      have HS:=aA hS
      clear hS
      have HA:=aA fun w=>Spn.bI m.op w
      have HR:=aA fun w=>wN m k (by omega) w
      have HCs:=aA fun w=>wG m w
      have HBm:=aA (bel HB.o (aC V (.cells (ia m) 41)))
      have HG:=aA (aB.new V 41 (ia m))
      by_cases ha:Spn.ar m.op < 0
      ·have hF:bC m k=false:=by simp[bC];omega
       have HF:=aA hF
       clear hF
       go_wp2_with (go_at_call 63;refine(HA.o _).mono ?_;rintro e w' ⟨rfl,rfl⟩)
       go_ret
       exact⟨aO (aB7 fun h=>by have:=HD.o h;rw[HF.o] at this;cases this),HBm.o⟩
      have ha2:decide (Spn.ar m.op < 0)=false:=by simpa using ha
      cases hr:rM m k
      ·have HF:Hid (bC m k=false):=aA (by simp[bC,hr])
       rw[hr] at HR
       go_wp2_with (first
        | (go_at_call 63;refine(HA.o _).mono ?_;rintro e w' ⟨rfl,rfl⟩)
        | (go_at_call 117;refine(HR.o _).mono ?_;rintro e w2 ⟨rfl,hb⟩;have HB2:=aA (bel HBm.o hb);obtain⟨f0,f1,f2,f3,f4,f5⟩:=aJ (HG.o.below hb);clear hb))
       go_ret
       exact⟨aO (aB7 fun h=>by have:=HD.o h;rw[HF.o] at this;cases this),HB2.o⟩
      ·rw[hr] at HR
       cases hs:nJ m
       ·have HF:Hid (bC m k=false):=aA (by simp[bC,hs])
        rw[hs] at HCs
        go_wp2_with (first
         | (go_at_call 63;refine(HA.o _).mono ?_;rintro e w' ⟨rfl,rfl⟩)
         | (go_at_call 117;refine(HR.o _).mono ?_;rintro e w2 ⟨rfl,hb⟩;have HB2:=aA (bel HBm.o hb);obtain⟨f0,f1,f2,f3,f4,f5⟩:=aJ (HG.o.below hb);clear hb)
         | (go_at_call 118;refine(HCs.o _).mono ?_;rintro e w3 ⟨rfl,hb⟩;have HB3:=aA (bel HB2.o hb);clear hb))
        go_ret
        exact⟨aO (aB7 fun h=>by have:=HD.o h;rw[HF.o] at this;cases this),HB3.o⟩
       ·have HF:Hid (bC m k=true):=aA (by simp[bC,hs,hr];omega)
        rw[hs] at HCs
        go_wp2_with (first
         | (go_at_call 63;refine(HA.o _).mono ?_;rintro e w' ⟨rfl,rfl⟩)
         | (go_at_call 117;refine(HR.o _).mono ?_;rintro e w2 ⟨rfl,hb⟩;have HB2:=aA (bel HBm.o hb);obtain⟨f0,f1,f2,f3,f4,f5⟩:=aJ (HG.o.below hb);clear hb)
         | (go_at_call 118;refine(HCs.o _).mono ?_;rintro e w3 ⟨rfl,hb⟩;have HB3:=aA (bel HB2.o hb);clear hb))
        go_roundw
        case rel=>exact⟨k+1,by omega,by go_num,aA (by rw[HS.o];exact HF.o),HB3⟩
        case measure=>simp[intOf];omega
     ·obtain rfl:k=n:=by omega
      go_wp2_with fail
      go_ret
      exact⟨aO (aU9 HT.o),HB.o⟩
 ·rw[if_neg hm] at HK
  rw[show ccE f d L out=15 by simp[ccE,jS,hm]]
  go_enter Tryz.func71,Tryz.ntmps71
  go_wp2_with (go_at_call 98;refine(HK.o _).mono ?_;rintro e w1 ⟨rfl,hb⟩;have HB1:=aA (bel HB0.o hb);obtain⟨c0,c1,c2,c3⟩:=aD (HC0.o.below hb);clear hb)
  go_ret
  exact⟨rfl,HB1.o⟩
end Go.Proofs.Cde
namespace Go.Proofs.Cde
open Go.RowKit Go.IntWalk Knd
def dE (n:In):Nat:=(Spn.ar n.op).toNat
def abc (n:In):List Int:=[n.a,n.b,n.c]
def dL (n:In):List Int:=(abc n).take (dE n)
theorem oG (n:In):dE n<=3:=by have:=Spn.wC n.op;unfold dE;omega
theorem fT (n:In):(dL n).length=dE n:=by have:=oG n;simp[dL,abc];omega
theorem jE (op:Int):Spn.ar op=-1\/Spn.ar op=0\/Spn.ar op=1\/Spn.ar op=2\/Spn.ar op=3:=by
 unfold Spn.ar
 repeat' split
 all_goals omega
theorem aFb (n:In)(j:Nat)(h:j < 3):(abc n).getD j 0=nQ n j:=rfl
theorem aIm (n:In)(W:World) :
  Calls Tryz.prog 120 #[.agg (ia n)] W fun e W'=>e=.returned (.slice (some ⟨W.heap.size+1,0,none⟩) (dE n) 3)/\aB W' (W.heap.size+1) 3 (zA (abc n))/\Below W.heap.size W W':=by
 have HA:=aA fun W=>Spn.bI n.op W
 have HB:=aA (aC W (.cells (ia n) 41))
 have HN0:=aA (aB.new W 41 (ia n))
 obtain⟨f0,f1,f2,f3,f4,f5⟩:=aJ (aB.new W 41 (ia n))
 have hz:W.heap.size < (W.alloc (.cells (ia n) 41)).heap.size:=by simp
 rcases jE n.op with h|h|h|h|h
 all_goals
  first
   | rw[show dE n=0 by unfold dE;rw[h];rfl]
   | rw[show dE n=1 by unfold dE;rw[h];rfl]
   | rw[show dE n=2 by unfold dE;rw[h];rfl]
   | rw[show dE n=3 by unfold dE;rw[h];rfl]
  rw[h] at HA
  clear h
  go_enter Tryz.func120,Tryz.ntmps120
  go_wp2_with fail
  go_region_held3 (fun w'=>w'.cell? ⟨W.heap.size,0,none⟩=some (.int .i64 n.op)/\w'.cell? ⟨W.heap.size,1,none⟩=some (.int .i64 n.a)/\w'.cell? ⟨W.heap.size,2,none⟩=some (.int .i64 n.b)/\w'.cell? ⟨W.heap.size,3,none⟩=some (.int .i64 n.c))
   (first|exact⟨f0,f1,f2,f3⟩|go_keep)
   ((first
    | (go_at_call 63;refine(HA.o _).mono ?_;rintro e w2 ⟨rfl,rfl⟩)))
  all_goals
   have h5:=aB.new (W.alloc (.cells (ia n) 41)) 3 (zA (abc n))
   rw[World.size_alloc] at h5
   have hb5:=(aC (W.alloc (.cells (ia n) 41)) (.cells (zA (abc n)) 3)).drew
   have HG:=aA (h5.below (aF _))
   have HB1:=aA (bel HB.o hb5)
   clear h5 hb5
   go_wp2_with fail
   go_ret
   exact⟨rfl,HG.o,HB1.o⟩
end Go.Proofs.Cde
namespace Go.Proofs.Cde
open Go.RowKit Go.IntWalk Knd
open YtjmfboegnmogdaaGreat (Wd gM Fits inpV dW)
variable {i k:Nat} {n:In}
def iE (V:List Int)(n:In):List Int:=(dL n).map fun r=>V.getD r.toNat 0
def dU (f d:Int)(v:Wd)(V:List Int)(n:In):Int × Int :=
 if n.op=1 then(n.k,0) else if n.op=2 then(inpV f d v n.k,0) else if n.op=3 then(if bL f d<=n.k then(0,11) else(v.ps.getD n.k.toNat 0,0)) else Spn.bE n.op n.k n.s (iE V n)
theorem jW (V:List Int)(n:In):(iE V n).length=dE n:=by rw[iE,List.length_map,fT]
theorem qN (n:In)(k:Nat)(h:k < dE n):(dL n).getD k 0=nQ n k:=by
 rw[dL,List.getD_eq_getElem?_getD,List.getElem?_take_of_lt h]
 rfl
theorem aKn (V:List Int)(n:In)(k:Nat)(h:k < dE n):(iE V n).getD k 0=V.getD (nQ n k).toNat 0:=by
 rw[<-qN n k h,iE]
 simp[List.getD_eq_getElem?_getD,List.getElem?_map,List.getElem?_eq_getElem (show k < (dL n).length by rw[fT];exact h)]
def arM (V:List Int)(n:In)(k:Nat):List Int:=(iE V n).take k++(abc n).drop k
theorem aO6 (V:List Int)(n:In)(h:k<=dE n):(arM V n k).length=3:=by
 have:=oG n
 simp[arM,jW,abc]
 omega
theorem zP (V:List Int)(n:In)(h:k < dE n):arM V n k=(iE V n).take k++nQ n k::(abc n).drop (k+1):=by
 have:=oG n
 rw[arM,List.drop_eq_getElem_cons (show k < (abc n).length by simp[abc];omega)]
 congr 2
 rw[<-aFb n k (by omega),List.getD_eq_getElem?_getD,List.getElem?_eq_getElem (by simp[abc];omega)]
 rfl
theorem aKm (V:List Int)(n:In)(h:k < dE n):(iE V n).take k++V.getD (nQ n k).toNat 0::(abc n).drop (k+1)=arM V n (k+1):=by
 rw[arM,aH 0 (by rw[jW];exact h),aKn V n k h]
 simp
theorem aO5 (V:List Int)(n:In)(h:k < dE n):(arM V n k).getD k 0=nQ n k:=by
 rw[zP V n h,List.getD_eq_getElem?_getD,List.getElem?_append_right (by rw[List.length_take];omega)]
 have e:k-((iE V n).take k).length=0:=by rw[List.length_take,jW];omega
 rw[e]
 rfl
theorem aKl (V:List Int)(n:In):arM V n (dE n)=iE V n++(abc n).drop (dE n):=by
 rw[arM,List.take_of_length_le (by rw[jW];exact Nat.le_refl _)]
theorem aTc {W:World}{g:Nat}{L M:List Int}(h:aB W g 3 (zA (L++M)))(hl:(L++M).length=3):Ints W (some ⟨g,0,none⟩) L.length 3 L:=by
 have h2:L.length<=3:=by rw[<-hl];simp
 refine⟨rfl,h2,by decide,(fun h=>by cases h),.inr ⟨g,0,rfl,fun i hi=>?_⟩⟩
 rw[Nat.zero_add,h.cell i (jR _ i (by simp;omega)),dH hi]
theorem aHc {f d:Int}{v:Wd}(h:Fits f d v):(v.ps.length:Int)=bL f d:=h.2.1
theorem uA (h:bC n i=true){j:Nat}(hj:j < dE n):0<=nQ n j/\(nQ n j).toNat < i:=by
 simp only[bC,Bool.and_eq_true] at h
 have h3:=oG n
 have hr:=h.1.2
 rw[<-aAu] at hr
 simp only[rgT,List.all_eq_true,List.mem_range] at hr
 have:=hr j (by omega)
 rw[rJ,if_pos (by simp[dE] at *;omega),Spn.aK] at this
 omega
theorem qU (h:bC n i=true):nJ n=true:=by
 simp only[bC,Bool.and_eq_true] at h
 exact h.2
theorem aAq (h:bC n i=true):0<=Spn.ar n.op:=by
 simp only[bC,Bool.and_eq_true,decide_eq_true_eq] at h
 exact h.1.1
theorem wF (n:In)(W:World) :
  Calls Tryz.prog 120 #[.agg (ia n)] W fun e W'=>∃ g,e=.returned (.slice (some ⟨g,0,none⟩) (dE n) 3)/\W.heap.size<=g/\aB W' g 3 (zA (abc n))/\Below W.heap.size W W' :=
 (aIm n W).mono fun e W' ⟨h1,h2,h3⟩=>⟨_,h1,by omega,h2,h3⟩
end Go.Proofs.Cde
namespace Go.Proofs.Cde
open YtjmfboegnmogdaaGreat (Wd gM Fits inpV dW)
open Go.RowKit Go.IntWalk Knd
def tL (f d:Int)(v:Wd)(s:Int × List Int)(n:In):Int × List Int :=
 if s.1=0 then(if (dU f d v s.2 n).2=0 then(0,s.2++[(dU f d v s.2 n).1]) else((dU f d v s.2 n).2,[])) else s
def oD (f d:Int)(v:Wd)(L:List In):Int × List Int:=L.foldl (tL f d v) (0,[])
theorem eG (f d:Int)(v:Wd)(L:List In)(n:In):oD f d v (L++[n])=tL f d v (oD f d v L) n:=by simp[oD]
open Classical in
noncomputable def iG (f d:Int)(v:Wd)(L:List In)(out:Int):Int × List Int:=if jS f d L out=true then(if Fits f d v then oD f d v L else(1,[])) else(15,[])
def TwP (w:World)(Z:Int × List Int)(e:Ending)(W':World):Prop :=
 ∃ a c,e=.returned (.tuple #[.slice a Z.2.length c,.int .i64 Z.1])/\W'.ownsRow w.heap.size 3 1 (.slice a Z.2.length c) Z.2.length (eH Z.2)/\Below w.heap.size w W'
theorem aIn (f d:Int)(L:List In)(out:Int):(jS f d L out=true/\ccE f d L out=0)\/(¬jS f d L out=true/\ccE f d L out=15):=by
 unfold ccE
 by_cases h:jS f d L out=true
 ·exact .inl ⟨h,if_pos h⟩
 ·exact .inr ⟨h,if_neg h⟩
theorem aS {f d:Int}{L:List In}{out:Int}(h:jS f d L out=true):May f d/\1<=L.length/\L.length<=200/\0<=out/\out < L.length/\dN L L.length=true:=by
 simp only[jS,Bool.and_eq_true,decide_eq_true_eq,Spn.aK] at h
 obtain⟨⟨⟨h1,h2⟩,h3⟩,h4⟩:=h
 exact⟨h1,by omega,by omega,by omega,by omega,h4⟩
theorem aC2 {f d:Int}{v:Wd}{D Z:List Int}{n:In}(h:bC n D.length=true):dU f d v (D++Z) n=dU f d v D n:=by
 have e:iE (D++Z) n=iE D n:=by
  unfold iE
  apply List.map_congr_left
  intro r hr
  obtain⟨j,hj,rfl⟩:=List.getElem_of_mem hr
  rw[fT] at hj
  have:=uA h hj
  rw[<-qN n j hj,List.getD_eq_getElem?_getD,List.getElem?_eq_getElem (by rw[fT];exact hj)] at this
  exact dH this.2
 rw[dU,dU,e]
end Go.Proofs.Cde
namespace Go.Proofs.Cde
open YtjmfboegnmogdaaGreat (Wd gM Fits inpV dW)
open Go.RowKit Go.IntWalk Knd
def dV (L:List In):Int:=L.foldl (fun s n=>s+iU n.op) 0
theorem fI (L:List In)(n:In):dV (L++[n])=dV L+iU n.op:=by simp[dV]
theorem zU (f d out:Int){a:Option Addr}{n cap:Nat}{L:List In}{W:World}(hL:Ins W a n cap L)(hn:n<=1000000000000000) :
  Calls Tryz.prog 16 #[.agg (cd f d a n cap out)] W fun e W'=>e=.returned (.int .i64 (dV L))/\Below W.heap.size W W':=by
 have HB0:=aA (aC W (.cells (cd f d a n cap out) 26))
 have HLI:=aA hL
 have HLn:=aA hL.len
 clear hL
 go_enter Tryz.func16,Tryz.ntmps16
 go_wp2_with fail
 go_loopw [3,9] (fun s i wr=>∃(k:Nat) (c:Int),k<=n/\i=.int .i64 k/\s=.int .i64 c/\0<=c/\c<=6*k/\Hid (c=dV (L.take k))/\Hid (Below W.heap.size W wr)) (fun _ i _=>n-(intOf i).toNat)
 case atStart=>exact⟨0,0,Nat.zero_le _,rfl,rfl,Int.le_refl _,Int.le_refl _,aA rfl,HB0⟩
 case round =>
  obtain⟨k,c,hk,rfl,rfl,hc0,hc6,HC,HB⟩:=hrel
  rename World=>V
  clear HB0
  by_cases hlt:k < n
  ·obtain⟨g,off,rfl,-,hat⟩:=(HLI.o.later HB.o).at (by omega)
   obtain⟨e0,e1,e2,e3,e4,e5⟩:=hat k hlt
   clear hat
   have hi0:(0:Int)<=k:=by omega
   have hi1:(k:Int) < n:=by omega
   have HC2:=aA (show c+iU (L.getD k i0).op=dV (L.take (k+1)) by rw[aH i0 (by rw[HLn.o];exact hlt),fI,HC.o])
   generalize L.getD k i0=m at *
   have HCo:=aA fun w=>wM m.op w
   obtain⟨z0,z1⟩:=aK0 m.op
   generalize iU m.op=z at *
   have HB2:=aA (bel HB.o (aC V (.cells (ia m) 41)))
   go_wp2_with (go_at_call 40;refine(HCo.o _).mono ?_;rintro e w' ⟨rfl,rfl⟩)
   go_roundw
   case rel=>exact⟨k+1,c+z,by omega,by go_num,rfl,by omega,by omega,HC2,HB2⟩
   case measure=>simp[intOf];omega
  ·obtain rfl:k=n:=by omega
   have hC:=HC.o
   rw[List.take_of_length_le (by rw[HLn.o];exact Nat.le_refl _)] at hC
   have HC2:=aA hC
   clear hC
   go_wp2_with fail
   go_ret
   exact⟨aO HC2.o,HB.o⟩
theorem aP5 {W:World}{g:Nat}{L:List In}(h:aB W g 41 (bU L).toArray)(hl:L.length<=1024):Ins W (some ⟨g,0,none⟩) L.length L.length L:=by
 refine⟨rfl,Nat.le_refl _,by unfold maxLen;omega,(fun h=>by cases h),.inr ⟨g,0,rfl,h.lt,fun i hi j v hv=>?_⟩⟩
 rw[Nat.add_assoc,Nat.zero_add]
 refine h.cell _ ?_
 rw[List.getElem?_toArray]
 exact vO L i hi j v hv
end Go.Proofs.Cde
namespace Go.Proofs.Cde
open Go.RowKit Go.IntWalk Knd


end Go.Proofs.Cde
namespace Go.Proofs.Cde
open YtjmfboegnmogdaaGreat (Wd gM Fits inpV dW)
open Knd
def ctR (r:Nat)(A:List Int):Int:=((A.filter fun x=>decide (x.toNat=r)).length:Nat)
def agA (L:List In):List Int:=L.flatMap dL
def usU (L:List In)(out:Int):List Int:=(List.range L.length).map fun(r:Nat)=>(if out=(r:Int) then 1 else 0)+ctR r (agA L)
theorem aKh (n:In){q:Nat}(h:q < dE n):(dL n).take (q+1)=(dL n).take q++[nQ n q]:=by
 rw[aH 0 (by rw[fT];exact h),qN n q h]
theorem aKg (n:In):(dL n).take (dE n)=dL n:=List.take_of_length_le (by rw[fT];exact Nat.le_refl _)
end Go.Proofs.Cde
