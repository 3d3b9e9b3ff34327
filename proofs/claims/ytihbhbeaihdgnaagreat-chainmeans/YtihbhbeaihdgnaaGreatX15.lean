import Derived.Test.YtihbhbeaihdgnaaGreatXH
import Derived.StillTail
import Derived.Lib.QuietBelow
import Derived.LoopN
import Derived.ArgAppend
import Derived.Laws.AppendOwnNone
import Derived.Lib.SliceRun
import Derived.Deep.RegionHeld3
import Derived.Deep.AppendLies
import Derived.Test.YtihbhbeaihdgnaaGreatX14
import Derived.Test.YtihbhbeaihdgnaaGreatX13
set_option maxRecDepth 100000
set_option maxHeartbeats 32000000
set_option linter.unusedVariables false
namespace Go.Proofs.Spn
open Go.RowKit Go.Sort Go
def uN (ops:Array Oper):Bool:=(List.range ops.size).all fun j=>((ops[j]?).map fun o=>o.after.all fun e=>decide (e.on < j)).getD true
theorem aFa {ops:Array Oper}(h:uN ops=true){j:Nat}{o:Oper}(ho:ops[j]?=some o):∀ e ∈ o.after,e.on < j:=by
 intro e he
 have hj:j < ops.size:=(Array.getElem?_eq_some_iff.1 ho).1
 have h1:=List.all_eq_true.1 h j (List.mem_range.2 hj)
 rw[ho] at h1
 simp only[Option.map_some,Option.getD_some] at h1
 simpa using Array.all_eq_true'.1 h1 e he
def wZ (l:List Oper):Bool:=l.all fun o=>match o.guard with|none=>true|some (j,_)=>decide (j < l.length)
theorem aLe {listed:Array Bool}{i:Nat}(hi:i < listed.size)(h:listed.getD i false≠true):listed.getD i true=false:=by
 simp[hi] at h ⊢;exact h
theorem aEi {ops:Array Oper}{listed:Array Bool}(hb:uN ops=true)(hsz:listed.size=ops.size):∀ j,j < ops.size->listed.getD j true=false->Region.ready .any ops listed≠[]:=by
 intro j
 induction j using Nat.strongRecOn with
 | _ j ih =>
  intro hj hun h0
  obtain⟨o,ho⟩:∃ o,ops[j]?=some o:=⟨ops[j],by simp[hj]⟩
  by_cases hall:∀ e ∈ o.after,Region.binds .any e=true->listed.getD e.on false=true
  ·have:j ∈ Region.ready .any ops listed:=mem_ready.2 ⟨hun,o,ho,hall⟩
   rw[h0] at this;cases this
  ·simp only[Classical.not_forall] at hall
   obtain⟨e,he,hbi,hne⟩:=hall
   have hlt:=aFa hb ho e he
   exact ih e.on hlt (by omega) (aLe (by omega) hne) h0
theorem aIw {listed:Array Bool}(k:Nat):(listed.push false).getD k false=listed.getD k false:=by
 rcases Nat.lt_trichotomy k listed.size with h|h|h
 ·simp[Array.getElem?_push,Nat.ne_of_lt h]
 ·subst h;simp
 ·simp[Array.getElem?_push,Nat.ne_of_gt h]
theorem nI {listed:Array Bool}{k:Nat}(b:Bool)(h:k < listed.size):(listed.push false).getD k b=listed.getD k b:=by
 simp[Array.getElem?_push,Nat.ne_of_lt h]
theorem aNs {x:Array Bool}{i:Nat}(hi:i < x.size):(x.push false).setIfInBounds i true=(x.setIfInBounds i true).push false:=by
 apply Array.ext_getElem?
 intro j
 rw[Array.getElem?_setIfInBounds,Array.getElem?_push,Array.getElem?_push,Array.getElem?_setIfInBounds,Array.size_push,Array.size_setIfInBounds]
 by_cases hij:i=j
 ·subst hij
  rw[if_pos rfl,if_pos (by omega),if_neg (by omega),if_pos rfl,if_pos hi]
 ·rw[if_neg hij,if_neg hij]
section
variable {l : List Oper} {o : Oper}
theorem aF5 {i:Nat}(h:i < l.length):(l++[o]).toArray[i]?=l.toArray[i]?:=by simp[List.getElem?_append_left h]
theorem aMs:(l++[o]).toArray[l.length]?=some o:=by simp
theorem aEh {listed:Array Bool}(hsz:listed.size=l.length){i:Nat}(hi:i < l.length):i ∈ Region.ready .any (l++[o]).toArray (listed.push false)↔i ∈ Region.ready .any l.toArray listed:=by
 rw[mem_ready,mem_ready,aF5 hi,nI true (by omega)]
 simp only[aIw]
theorem aE5 (hg:wZ l=true){x:Oper}(hx:x ∈ l)(t:Array Value):Region.wanted x (yielded (l++[o]).toArray t)=Region.wanted x (yielded l.toArray t):=by
 have h1:=List.all_eq_true.1 hg x hx
 unfold Region.wanted
 split
 ·rfl
 ·rename_i j want hj
  rw[hj] at h1
  simp only[decide_eq_true_eq] at h1
  unfold yielded
  rw[aF5 h1]
theorem aM9 {P:Program}{C:World->Prop}(hg:wZ l=true){i:Nat}(hi:i < l.length){K:Act->Prop}{a:Act}(h:qOp P l.toArray C i K a):qOp P (l++[o]).toArray C i K a:=by
 unfold qOp at *
 rw[aF5 hi]
 have hx:l.toArray[i]?=some l[i]:=by simp[hi]
 rw[hx] at h ⊢
 simp only at h ⊢
 rw[aE5 hg (List.getElem_mem hi)]
 exact h
theorem vX {listed:Array Bool}(h:∀ j,j < listed.size->listed.getD j true=true)(ops:Array Oper):Region.ready .any ops listed=[]:=by
 apply List.eq_nil_iff_forall_not_mem.2
 intro j hj
 obtain⟨h1,-⟩:=mem_ready.1 hj
 rcases Nat.lt_or_ge j listed.size with h'|h'
 ·rw[h j h'] at h1;cases h1
 ·simp[Array.getElem?_eq_none h'] at h1
theorem aGu {P:Program}{C:World->Prop}{Q:Exit->Act->World->Prop}(hog:o.guard=none)(hb0:uN l.toArray=true)(hb:uN (l++[o]).toArray=true)(hg:wZ l=true)
  (hs:Region.sinkB .any (l++[o]).toArray l.length=true) (hc:Region.chainB .any (l++[o]).toArray l.length=true) :
  ∀(fuel:Nat) (listed:Array Bool) (a:Act) (w:World),C w->listed.size=l.length->HeadInv .any (l++[o]).toArray l.length (listed.push false) ->
   wpAnyQ P .any l.toArray C (fun a'=>∀ w',C w'->wpList P (l++[o]).toArray Q [o] a' w') fuel listed a ->
   wpAny P .any (l++[o]).toArray Q (fuel+1) (listed.push false) a w:=by
 have hne:∀ listed:Array Bool,listed.size=l.length->Region.ready .any (l++[o]).toArray (listed.push false)≠[]:=fun listed hsz =>
  aEi hb (by simp[hsz]) l.length (by simp) (by simp[<-hsz])
 have hend:∀(fuel:Nat) (listed:Array Bool) (a:Act) (w:World),listed.size=l.length->(∀ j,j < l.length->listed.getD j true=true)->Q .normal a w->wpAny P .any (l++[o]).toArray Q fuel ((listed.push false).setIfInBounds l.length true) a w:=by
  intro fuel listed a w hsz hall hq
  have h0:Region.ready .any (l++[o]).toArray ((listed.push false).setIfInBounds l.length true)=[]:=by
   refine vX (fun j hj=>?_) _
   simp at hj
   by_cases hjl:j=l.length
   ·subst hjl;simp[hsz]
   ·rw[getD_set_ne true (Ne.symm hjl),nI true (by omega)]
    exact hall j (by omega)
  cases fuel with
  | zero=>exact⟨h0,hq⟩
  | succ fuel=>exact⟨fun _=>hq,fun i hi=>by rw[h0] at hi;cases hi⟩
 have hlast:∀(fuel:Nat) (listed:Array Bool) (a:Act) (w:World),listed.size=l.length->(∀ j,j < l.length->listed.getD j true=true)->wpList P (l++[o]).toArray Q [o] a w ->
   wpOp P (l++[o]).toArray Q l.length (wpAny P .any (l++[o]).toArray Q fuel ((listed.push false).setIfInBounds l.length true)) a w:=by
  intro fuel listed a w hsz hall hq
  unfold wpOp
  rw[aMs]
  simp only[wpList,Region.wanted,hog,if_true] at hq ⊢
  exact hq.imp (Oper.wp_mono (fun a' w' h'=>hend fuel listed a' w' hsz hall h')) id
 have hlist:∀ listed:Array Bool,listed.size=l.length->Region.ready .any l.toArray listed=[]->∀ j,j < l.length->listed.getD j true=true:=fun listed hsz h0 j hj=>by
  cases hv:listed.getD j true with
  | true=>rfl
  | false=>exact absurd h0 (aEi hb0 (by simpa using hsz) j (by simpa using hj) hv)
 have hle:∀(listed:Array Bool) (i:Nat),i ∈ Region.ready .any (l++[o]).toArray (listed.push false)->i < l.length\/i=l.length:=fun listed i hi=>by
  obtain⟨-,oi,hoi,-⟩:=mem_ready.1 hi
  have:=(Array.getElem?_eq_some_iff.1 hoi).1
  simp at this
  omega
 intro fuel
 induction fuel with
 | zero =>
  intro listed a w hw hsz inv h
  refine⟨fun h0=>absurd h0 (hne listed hsz),fun i hi=>?_⟩
  have hall:=hlist listed hsz h.1
  rcases hle listed i hi with hil|rfl
  ·rw[aEh hsz hil,h.1] at hi;cases hi
  ·exact hlast 0 listed a w hsz hall (h.2 w hw)
 | succ fuel ih =>
  intro listed a w hw hsz inv h
  refine⟨fun h0=>absurd h0 (hne listed hsz),fun i hi=>?_⟩
  rcases hle listed i hi with hil|rfl
  ·have hi0:=(aEh hsz hil).1 hi
   refine wpOp_of_qOp hw (fun a' w' hw' hk=>?_) (aM9 hg hil (h.2 i hi0))
   have e:=aNs (x:=listed) (i:=i) (by omega)
   have inv':=inv.set hi hil
   rw[e] at inv' ⊢
   exact ih (listed.setIfInBounds i true) a' w' hw' (by simpa using hsz) inv' hk
  ·have hall:∀ j,j < l.length->listed.getD j true=true:=fun j hj=>by
    cases hv:listed.getD j true with
    | true=>rfl
    | false=>exact absurd hi (tail_waits hs hc (by simp) inv (l.length-j) j rfl hj (by rw[nI true (by omega)];exact hv) l.length (Nat.le_refl _))
   exact hlast (fuel+1) listed a w hsz hall (h.1 (vX (fun j hj=>hall j (by omega)) _) w hw)
theorem oZ {P:Program}{C:World->Prop}{id:Nat}{Q:Exit->Act->World->Prop}{a:Act}{w:World}(hm:P.follows .mixedOrders=true)(hB:Region.lexB .any l.toArray=true)
  (hog:o.guard=none) (hb0:uN l.toArray=true) (hb:uN (l++[o]).toArray=true) (hg:wZ l=true)
  (hs:Region.sinkB .any (l++[o]).toArray l.length=true) (hc:Region.chainB .any (l++[o]).toArray l.length=true) (hC:C { w with drawn:=w.drawn+1 })
  (h:wpQuiet P l.toArray C (fun a'=>∀ w',C w'->wpList P (l++[o]).toArray Q [o] a' w') l a):(Code.region id (l++[o]).toArray true).wp P Q a w:=by
 simp only[Region.lexB,Bool.and_eq_true] at hB
 refine wp_region_any hm ?_
 have e:Array.replicate (l++[o]).toArray.size false=(Array.replicate l.length false).push false:=by
  rw[<-Array.replicate_succ];simp
 rw[e,show (l++[o]).toArray.size=l.length+1 by simp]
 refine aGu hog hb0 hb hg hs hc l.length _ a _ hC (by simp) ?_ ?_
 ·exact⟨by simp,fun j oj _ hl=>(by rw[<-Array.replicate_succ,getD_replicate_false] at hl;cases hl),fun t _ ht=>getD_in (by simpa using ht) (by rw[<-Array.replicate_succ];exact getD_replicate_false _ _)⟩
 ·have:=wpAnyQ_lex (P:=P) (C:=C) (md:=.any) hB.1 l 0 (Array.replicate l.length false) a (by simp) (by simpa using hB.2) h
  simpa using this
theorem dW {P:Program}{id:Nat}{Q:Exit->Act->World->Prop}{a:Act}{w:World}{full:List Oper}(hf:full=l++[o])(hm:P.follows .mixedOrders=true)(hB:Region.lexB .any l.toArray=true)
  (hog:o.guard=none) (hb0:uN l.toArray=true) (hb:uN (l++[o]).toArray=true) (hg:wZ l=true)
  (hs:Region.sinkB .any (l++[o]).toArray l.length=true) (hc:Region.chainB .any (l++[o]).toArray l.length=true)
  (h:wpQuiet P l.toArray (fun w'=>∃ p:Regrown,w'=grow (redrawn w p.d) p.os) (fun a'=>∀ w',(∃ p:Regrown,w'=grow (redrawn w p.d) p.os)->wpList P (l++[o]).toArray Q [o] a' w') l a):(Code.region id full.toArray true).wp P Q a w:=by
 subst hf
 exact oZ hm hB hog hb0 hb hg hs hc ⟨⟨w.drawn+1,#[]⟩,by rw[grow_empty];rfl⟩ h
end
end Go.Proofs.Spn
namespace Go.Proofs.Spn
open Go.RowKit Go.IntWalk Go.Sort
variable {w:World} {b1 b2 b3:Nat} {a b c d k op s x y:Int}
abbrev ptr (b:Nat):Value:=.pointer (some ⟨b,0,none⟩)
structure Cap (w:World)(b1 b2 b3:Nat)(op k s:Int):Prop where
 o:aB w b1 3 #[.int .i64 op]
 k:aB w b2 3 #[.int .i64 k]
 s:aB w b3 3 #[.int .i64 s]
theorem Cap.later {w':World}(h:Cap w b1 b2 b3 op k s)(hb:Below w.heap.size w w'):Cap w' b1 b2 b3 op k s:=⟨h.o.below hb,h.k.below hb,h.s.below hb⟩
theorem aA2 (op k s:Int)(b1 b2 b3:Nat)(a:Option Addr)(n cap:Nat)(xs:List Int)(w:World)(h:Ints w a n cap xs)(hc:Cap w b1 b2 b3 op k s) :
  Calls Tryz.prog 189 #[.slice a n cap,ptr b1,ptr b2,ptr b3] w fun e w'=>e=.returned (.tuple #[.int .i64 (bK op k s xs).1,.int .i64 (bK op k s xs).2])/\Below w.heap.size w w':=by
 have c1:=hc.o.cell 0 rfl
 have c2:=hc.k.cell 0 rfl
 have c3:=hc.s.cell 0 rfl
 have HV:=aA (qC op k s a n cap xs w h)
 obtain⟨⟨x,e⟩,hZ⟩:∃ Z,bK op k s xs=Z:=⟨_,rfl⟩
 rw[hZ] at HV ⊢
 clear hZ h hc
 go_enter Tryz.func189,Tryz.ntmps189
 go_wp2_with fail
 refine HV.o.mono ?_
 rintro e w2 ⟨rfl,hb⟩
 go_wp2_with fail
 go_ret2
 exact⟨rfl,hb⟩
structure Cn (w0 w:World)(a b c d x y:Int)(b1 b2 b3:Nat)(op k s:Int):Prop where
 a:aB w w0.heap.size 74 #[.int .i64 a,.int .i64 b]
 b:aB w (w0.heap.size+1) 74 #[.int .i64 c,.int .i64 d]
 r:aB w (w0.heap.size+1+1) 74 #[.int .i64 0,.int .i64 0]
 q:aB w (w0.heap.size+1+1+1) 74 #[.int .i64 x,.int .i64 y]
 cap:Cap w b1 b2 b3 op k s
 lt:b1 < w0.heap.size/\b2 < w0.heap.size/\b3 < w0.heap.size
 bel:Below w0.heap.size w0 w
theorem Cn.later {w0 w w':World}{a b c d x y:Int}{b1 b2 b3:Nat}{op k s:Int}(h:Cn w0 w a b c d x y b1 b2 b3 op k s)(hb:Below w.heap.size w w'):Cn w0 w' a b c d x y b1 b2 b3 op k s :=
 ⟨h.a.below hb,h.b.below hb,h.r.below hb,h.q.below hb,h.cap.later hb,h.lt,h.bel.trans (hb.mono h.bel.size)⟩
theorem Cn.start (h:Cap w b1 b2 b3 op k s):Cn w ((((w.alloc (cs a b)).alloc (cs c d)).alloc (cs 0 0)).alloc (cs x y)) a b c d x y b1 b2 b3 op k s:=by
 obtain⟨h1,h2,h3,h4,hB⟩:=aKo (w:=w) (a:=a) (b:=b) (c:=c) (d:=d) (e:=0) (f:=0) (x:=x) (y:=y) (Below.refl _ _)
 exact⟨h1,h2,h3,h4,h.later hB,⟨h.o.lt,h.k.lt,h.s.lt⟩,hB⟩
theorem Cn.put {w0:World}(h:Cn w0 w a b c d x y b1 b2 b3 op k s)(x' y':Int) :
  Cn w0 ((w.setCell ⟨w0.heap.size+1+1+1,0,none⟩ (.int .i64 x')).setCell ⟨w0.heap.size+1+1+1,1,none⟩ (.int .i64 y')) a b c d x' y' b1 b2 b3 op k s:=by
 obtain⟨l1,l2,l3⟩:=h.lt
 have o:=fun {n:Nat} {t:TypeId} {cs:Array Value} (hn:n≠w0.heap.size+1+1+1) (hh:aB w n t cs)=>(hh.other (p:=⟨w0.heap.size+1+1+1,0,none⟩) hn (.int .i64 x')).other (p:=⟨w0.heap.size+1+1+1,1,none⟩) hn (.int .i64 y')
 refine⟨o (by omega) h.a,o (by omega) h.b,o (by omega) h.r,?_,⟨o (by omega) h.cap.o,o (by omega) h.cap.k,o (by omega) h.cap.s⟩,h.lt,?_⟩
 ·exact(h.q.set 0 (.int .i64 x')).set 1 (.int .i64 y')
 ·exact(h.bel.setCell (p:=⟨w0.heap.size+1+1+1,0,none⟩) (by simp;omega) _).setCell (p:=⟨w0.heap.size+1+1+1,1,none⟩) (by simp;omega) _
def pk (i:Nat)(x y:Int):Int:=if i=0 then x else y
theorem aHg (x y:Int)(i:Nat)(hi:i < 2)(w:World):(Instr.index 234 (.agg #[.int .i64 x,.int .i64 y]) (.int .i64 i)).run Tryz.prog w=.ok (.int .i64 (pk i x y)) w:=by
 rcases(show i=0\/i=1 by omega) with rfl|rfl <;> simp[Instr.index,go_sem,pk]
def cv (f:Int->Int->Int × Int)(a b c d:Int)(n:Nat):Int × Int:=f (pk (n / 2) a b) (pk (n % 2) c d)
def cLo (f:Int->Int->Int × Int)(a b c d:Int):Nat->Int
 | 0=>9223372036854775807
 | n+1=>min (cLo f a b c d n) (cv f a b c d n).1
def cHi (f:Int->Int->Int × Int)(a b c d:Int):Nat->Int
 | 0=>-9223372036854775808
 | n+1=>max (cHi f a b c d n) (cv f a b c d n).1
def cOk (f:Int->Int->Int × Int)(a b c d:Int)(n:Nat):Prop:=∀ m,m < n->(cv f a b c d m).2=0
theorem aKt {f:Int->Int->Int × Int}{n:Nat}(h:cOk f a b c d n)(h1:(cv f a b c d n).2=0):cOk f a b c d (n+1):=by
 intro m hm
 by_cases e:m=n
 ·subst e;exact h1
 ·exact h m (by omega)
def eO (f:Int->Int->Int × Int)(a b c d:Int):(Int × Int) × Int :=
 if (cv f a b c d 0).2≠0 then((0,0),(cv f a b c d 0).2) else if (cv f a b c d 1).2≠0 then((0,0),(cv f a b c d 1).2) else if (cv f a b c d 2).2≠0 then((0,0),(cv f a b c d 2).2) else if (cv f a b c d 3).2≠0 then((0,0),(cv f a b c d 3).2) else
 ((cLo f a b c d 4,cHi f a b c d 4),0)
theorem aIq {f:Int->Int->Int × Int}{n:Nat}(h:cOk f a b c d n)(hn:n < 4)(he:(cv f a b c d n).2≠0):eO f a b c d=((0,0),(cv f a b c d n).2):=by
 unfold eO
 rcases(show n=0\/n=1\/n=2\/n=3 by omega) with rfl|rfl|rfl|rfl
 ·rw[if_pos he]
 ·rw[if_neg (by simpa using h 0 (by omega)),if_pos he]
 ·rw[if_neg (by simpa using h 0 (by omega)),if_neg (by simpa using h 1 (by omega)),if_pos he]
 ·rw[if_neg (by simpa using h 0 (by omega)),if_neg (by simpa using h 1 (by omega)),if_neg (by simpa using h 2 (by omega)),if_pos he]
theorem aKz {f:Int->Int->Int × Int}(h:cOk f a b c d 4):eO f a b c d=((cLo f a b c d 4,cHi f a b c d 4),0):=by
 unfold eO
 rw[if_neg (by simpa using h 0 (by omega)),if_neg (by simpa using h 1 (by omega)),if_neg (by simpa using h 2 (by omega)),if_neg (by simpa using h 3 (by omega))]
def wI (f:Int->Int->Int × Int)(a b c d:Int):Value:=.tuple #[.agg #[.int .i64 (eO f a b c d).1.1,.int .i64 (eO f a b c d).1.2],.int .i64 (eO f a b c d).2]
theorem uQ (op k s a b c d:Int)(b1 b2 b3:Nat)(w:World)(hc:Cap w b1 b2 b3 op k s)(f:Int->Int->Int × Int)(hf:∀ u v,bK op k s [u,v]=f u v) :
  Calls Tryz.prog 193 #[.agg #[.int .i64 a,.int .i64 b],.agg #[.int .i64 c,.int .i64 d],.func (.func 189) #[] #[ptr b1,ptr b2,ptr b3]] w fun e w' =>
   e=.returned (wI f a b c d)/\Below w.heap.size w w':=by
 have HC0:=aA (Cn.start (a:=a) (b:=b) (c:=c) (d:=d) (x:=9223372036854775807) (y:=-9223372036854775808) hc)
 have HF:=aA hf
 clear hc hf
 go_enter Tryz.func193,Tryz.ntmps193
 go_wp2_with fail
 go_loopw [21] (fun i wr=>∃ n:Nat,n<=2/\i=.int .i64 n/\cOk f a b c d (2*n)/\Cn w wr a b c d (cLo f a b c d (2*n)) (cHi f a b c d (2*n)) b1 b2 b3 op k s) (fun i _=>2-(intOf i).toNat)
 case atStart=>exact⟨0,by omega,rfl,(fun m hm=>by omega),HC0.o⟩
 case round =>
  obtain⟨n,hn,rfl,hok,hcn⟩:=hrel
  have HOK:=aA hok
  have HCN:=aA hcn
  clear hok hcn
  obtain⟨q1,q2,-,-⟩:=aG HCN.o.a
  obtain⟨r1,r2,-,-⟩:=aG HCN.o.b
  by_cases hlt:n < 2
  ·have hix:=aHg a b n hlt
   have hd:decide ((n:Int) < 2)=true:=by simp;omega
   go_wp2_with fail
   go_loopw [29] (fun i wr=>∃ m:Nat,m<=2/\i=.int .i64 m/\cOk f a b c d (2*n+m)/\Cn w wr a b c d (cLo f a b c d (2*n+m)) (cHi f a b c d (2*n+m)) b1 b2 b3 op k s) (fun i _=>2-(intOf i).toNat)
   case atStart=>exact⟨0,by omega,rfl,HOK.o,HCN.o⟩
   case round =>
    obtain⟨m,hm,rfl,hok',hcn'⟩:=hrel
    have HOK2:=aA hok'
    have HCN2:=aA hcn'
    clear hok' hcn'
    by_cases hlt':m < 2
    ·have hix':=aHg c d m hlt'
     have hcv:cv f a b c d (2*n+m)=f (pk n a b) (pk m c d):=by
      unfold cv
      rw[show (2*n+m) / 2=n by omega,show (2*n+m) % 2=m by omega]
     have HCV:=aA hcv
     clear hcv
     rename_i wr
     have CA:=aA2 op k s b1 b2 b3 _ _ _ _ _ (aYc wr 3 (pk n a b) (pk m c d)) (HCN2.o.cap.later (aC _ _))
     rw[HF.o] at CA
     obtain⟨⟨z,e⟩,hZ⟩:∃ Z,f (pk n a b) (pk m c d)=Z:=⟨_,rfl⟩
     rw[hZ] at CA HCV
     clear hZ
     have HCA:=aA CA
     clear CA
     go_wp2_with fail
     refine HCA.o.mono ?_
     rintro e' w2 ⟨rfl,hb2⟩
     have HC2:=aA (HCN2.o.later (bel (aC _ _) hb2))
     clear hb2 HCA HCN2 HCN q1 q2 r1 r2
     obtain⟨s1,s2,s3,s4⟩:=aG HC2.o.r
     by_cases he:e=0
     ·subst he
      obtain⟨x,hx⟩:∃ x,cLo f a b c d (2*n+m)=x:=⟨_,rfl⟩
      obtain⟨y,hy⟩:∃ y,cHi f a b c d (2*n+m)=y:=⟨_,rfl⟩
      rw[hx,hy] at HC2
      have HX:=aA hx
      have HY:=aA hy
      clear hx hy
      obtain⟨t1,t2,t3,t4⟩:=aG HC2.o.q
      go_wp2_with fail
      have u1:=cell_regrown t1
      have u2:=cell_regrown t2
      refine dW (hf:=(List.dropLast_concat_getLast (by simp)).symm) mixed (by kernel_rfl) rfl (by kernel_rfl) (by kernel_rfl) (by kernel_rfl) (by kernel_rfl) (by kernel_rfl) ?_
      simp only[List.dropLast_cons_cons,List.dropLast_singleton,List.getLast_cons_cons,List.getLast_singleton,-Int.reduceNeg]
      repeat (go_big_quiet_step ((first|(go_at_call 190;exact Calls.regrown_of (dF _ _))|(go_at_call 225;exact Calls.regrown_of (xE _ _ _ _ _)))))
      refine wpQuiet_nil ?_
      intro _ hw'
      obtain⟨pq,hw''⟩:=hw'
      subst hw''
      have HC3:=aA (HC2.o.later (below_regrown w2 pq.d pq.os))
      clear HC2 t1 t2 t3 t4 s1 s2 s3 s4 u1 u2
      generalize grow (redrawn w2 pq.d) pq.os=G at *
      obtain⟨t1,t2,t3,t4⟩:=aG HC3.o.q
      obtain⟨x',hx'⟩:∃ x',min x z=x':=⟨_,rfl⟩
      obtain⟨y',hy'⟩:∃ y',max y z=y':=⟨_,rfl⟩
      rw[hx',hy']
      have HX':=aA hx'
      have HY':=aA hy'
      clear hx' hy'
      go_wp2_with fail
      go_roundw
      case rel =>
       refine⟨m+1,by omega,by go_num,aKt (n:=2*n+m) HOK2.o (by rw[HCV.o]),?_⟩
       have h:=HC3.o.put x' y'
       rw[show cLo f a b c d (2*n+(m+1))=x' by
        show min (cLo f a b c d (2*n+m)) (cv f a b c d (2*n+m)).1=x'
        rw[HX.o,HCV.o,HX'.o],show cHi f a b c d (2*n+(m+1))=y' by
        show max (cHi f a b c d (2*n+m)) (cv f a b c d (2*n+m)).1=y'
        rw[HY.o,HCV.o,HY'.o]]
       exact h
      case measure=>simp[intOf];omega
     ·have he':(e != 0)=true:=by simp[he]
      have hv:wI f a b c d=.tuple #[.agg #[.int .i64 0,.int .i64 0],.int .i64 e]:=by
       unfold wI
       rw[aIq HOK2.o (by omega) (by rw[HCV.o];exact he),HCV.o]
      have HV:=aA hv
      clear hv he
      go_wp2_with fail
      obtain⟨c0,c1,hB2⟩:=aI HC2.o.r HC2.o.bel (by omega) 0 0
      exact bodyPost_ret (v:=.tuple #[.agg #[.int .i64 0,.int .i64 0],.int .i64 e]) (by simp[results,Tryz.results193,go_sem,c0,c1]) rfl ⟨by rw[HV.o],hB2⟩
    ·obtain rfl:m=2:=by omega
     go_wp2_with fail
     go_roundw
     case rel=>exact⟨n+1,by omega,by go_num,HOK2.o,HCN2.o⟩
     case measure=>simp[intOf];omega
  ·obtain rfl:n=2:=by omega
   have hv:wI f a b c d=.tuple #[.agg #[.int .i64 (cLo f a b c d 4),.int .i64 (cHi f a b c d 4)],.int .i64 0]:=by
    unfold wI
    rw[aKz HOK.o]
   obtain⟨x,hx⟩:∃ x,cLo f a b c d 4=x:=⟨_,rfl⟩
   obtain⟨y,hy⟩:∃ y,cHi f a b c d 4=y:=⟨_,rfl⟩
   rw[show 2*2=4 from rfl,hx,hy] at HCN
   rw[hx,hy] at hv
   have HV:=aA hv
   clear hx hy hv
   obtain⟨t1,t2,t3,t4⟩:=aG HCN.o.q
   obtain⟨s1,s2,s3,s4⟩:=aG HCN.o.r
   go_wp2_with fail
   obtain⟨c0,c1,hB2⟩:=aI HCN.o.r HCN.o.bel (by omega) x y
   exact bodyPost_ret (v:=.tuple #[.agg #[.int .i64 x,.int .i64 y],.int .i64 0]) (by simp[results,Tryz.results193,go_sem,c0,c1]) rfl ⟨by rw[HV.o],hB2⟩
end Go.Proofs.Spn
namespace Go.Proofs.Spn
open Go.RowKit
theorem info3:(Tryz.prog.info? 3).map (fun i=>(i.zero,i.size,i.bytes))=some (some (.int .i64 0),1,8):=by kernel_rfl
abbrev eG (xs:List Int):List Value:=xs.map (Value.int .i64)
theorem info_parts {P:Program}{e:TypeId}{z:Value}{s b:Nat}(h:(P.info? e).map (fun i=>(i.zero,i.size,i.bytes))=some (some z,s,b)) :
  ∃ i,P.info? e=some i/\i.zero=some z/\i.size=s/\i.bytes=b:=by
 cases hi:P.info? e with
 | none=>rw[hi] at h;cases h
 | some i=>rw[hi] at h;simp at h;exact⟨i,rfl,h.1,h.2.1,h.2.2⟩
theorem Ints.of_owns {w:World}{base:Nat}{v:Value}{n:Nat}{xs:List Int}(h:w.ownsRow base 3 1 v n (eG xs)) :
  ∃ a cap,v=.slice a n cap/\Ints w a n cap xs/\(∀ x,a=some x->base<=x.block/\x.block < w.heap.size):=by
 have hl:xs.length=n:=by simpa using h.1
 have hlt:=h.lt
 have hcs:=fun g hg=>h.cells (g:=g) hg
 rcases h.2 with⟨rfl,rfl⟩|⟨g,cap,cur,rfl,hb,hg,hnc,hcm,hsz,htake⟩
 ·exact⟨none,0,rfl,⟨hl,Nat.le_refl _,Nat.zero_le _,fun _=>rfl,.inl rfl⟩,fun x hx=>by cases hx⟩
 ·refine⟨some ⟨g,0,none⟩,cap,rfl,⟨hl,hnc,hcm,(fun h=>by cases h),.inr ⟨g,0,rfl,fun i hi=>?_⟩⟩,fun x hx=>by cases hx;exact hlt g rfl⟩
  have:=hcs g rfl i (.int .i64 (xs.getD i 0)) (by simp[List.getD,hl,hi])
  rw[Addr.add_lit] at this
  exact this
end Go.Proofs.Spn
namespace Go.Proofs.Spn
open Go.RowKit Go.IntWalk Go.Sort
structure Spans (w:World)(a:Option Addr)(n cap:Nat)(L:List (Int × Int)):Prop where
 len:L.length=n
 le:n<=cap
 max:cap<=maxLen
 nil:a=none->cap=0
 cell:n=0\/∃ b off,a=some ⟨b,off,none⟩/\∀ i,i < n->w.cell? ⟨b,off+i*2,none⟩=some (.int .i64 (L.getD i (0,0)).1)/\w.cell? ⟨b,off+i*2+1,none⟩=some (.int .i64 (L.getD i (0,0)).2)
theorem Spans.at {w:World}{a:Option Addr}{n cap:Nat}{L:List (Int × Int)}(h:Spans w a n cap L)(hn:n≠0) :
  ∃ b off,a=some ⟨b,off,none⟩/\b < w.heap.size/\∀ i,i < n->w.cell? ⟨b,off+i*2,none⟩=some (.int .i64 (L.getD i (0,0)).1)/\w.cell? ⟨b,off+i*2+1,none⟩=some (.int .i64 (L.getD i (0,0)).2):=by
 rcases h.cell with h0|⟨b,off,ha,hc⟩
 ·exact absurd h0 hn
 ·exact⟨b,off,ha,World.block_lt_of_cell? w _ (hc 0 (by omega)).1,hc⟩
theorem Spans.later {w w':World}{a:Option Addr}{n cap:Nat}{L:List (Int × Int)}(h:Spans w a n cap L)(hb:Below w.heap.size w w'):Spans w' a n cap L:=by
 refine⟨h.len,h.le,h.max,h.nil,?_⟩
 by_cases hn:n=0
 ·exact .inl hn
 ·obtain⟨b,off,ha,hlt,hc⟩:=h.at hn
  exact .inr ⟨b,off,ha,fun i hi=>⟨(hb.cell (p:=⟨b,off+i*2,none⟩) hlt).trans (hc i hi).1,(hb.cell (p:=⟨b,off+i*2+1,none⟩) hlt).trans (hc i hi).2⟩⟩
end Go.Proofs.Spn
namespace Go.Proofs.Spn
open Go.RowKit Go.IntWalk Go.Sort
variable {W w:World} {v1 v2:Value} {n1 n2:Nat} {xs ys:List Int}
structure En (w wr:World)(v1 v2:Value)(n1 n2:Nat)(xs ys:List Int):Prop where
 a:wr.ownsRow w.heap.size 3 1 v1 n1 (eG xs)
 b:wr.ownsRow w.heap.size 3 1 v2 n2 (eG ys)
 ap:∀ g,v1.ownBlock=some g->v2.ownBlock≠some g
 bel:Below w.heap.size w wr
theorem En.alloc {w W:World}{v1 v2:Value}{n1 n2:Nat}{xs ys:List Int}(h:En w W v1 v2 n1 n2 xs ys)(o:Obj):En w (W.alloc o) v1 v2 n1 n2 xs ys :=
 ⟨h.a.alloc o,h.b.alloc o,h.ap,h.bel.alloc h.bel.size o⟩
theorem En.drew {w W:World}{v1 v2:Value}{n1 n2:Nat}{xs ys:List Int}(h:En w W v1 v2 n1 n2 xs ys):En w W.drew v1 v2 n1 n2 xs ys :=
 ⟨h.a.drew,h.b.drew,h.ap,h.bel.trans ⟨rfl,rfl,rfl,Nat.le_refl _,fun _ _=>rfl⟩⟩
theorem En.swap (h:En w W v1 v2 n1 n2 xs ys):En w W v2 v1 n2 n1 ys xs :=
 ⟨h.b,h.a,fun g hg hg'=>h.ap g hg' hg,h.bel⟩
theorem En.grow {w':World}(h:En w W v1 v2 n1 n2 xs ys){g cap m:Nat}{zs:List Int}
  (hown:w'.ownsRow w.heap.size 3 1 (.slice (some ⟨g,0,none⟩) m cap) m (eG zs)) (hgrow:W.grownBy w' v1.ownBlock) (hat:v1.ownBlock=some g\/g=W.heap.size) :
  En w w' (.slice (some ⟨g,0,none⟩) m cap) v2 m n2 zs ys:=by
 have l2:=h.b.lt
 refine⟨hown,h.b.kept hgrow ?_,?_,h.bel.grown hgrow h.bel.size (fun k hk=>(h.a.lt k hk).1)⟩
 ·cases hv:v2.ownBlock with
  | none=>exact .inl rfl
  | some q=>exact .inr fun e=>h.ap q e.symm hv
 ·intro g' hg' hv
  have e:g=g':=by simpa [Value.ownBlock] using hg'
  subst e
  rcases hat with hat|hat
  ·exact h.ap g hat hv
  ·have:=(l2 g hv).2
   omega
theorem aN8 {ops:Array Oper}{o:Oper}{a:Act}{K:Act->World->Prop}{Q:Exit->Act->World->Prop}{E:Prop}
  (hgd:o.guard=none) (s x:Operand) (ho:o.op=.call { callee:=.builtin .append,args:=#[s,x],argTypes:=#[42,42] })
  (hs:a.eval s=v1) (hen:En w W v1 v2 n1 n2 xs ys) (ad:Addr) (z:Int) (hx:a.eval x=.slice (some ad) 1 1) (hc:W.cell? ad=some (.int .i64 z)) (h3:n1<=140737488355327 / 8)
  (h:∀ g cap w',En w w' (.slice (some ⟨g,0,none⟩) (n1+1) cap) v2 (n1+1) n2 (xs++[z]) ys->(∀ p:Addr,p.block < W.heap.size->v1.ownBlock≠some p.block->w'.cell? p=W.cell? p)->W.heap.size<=w'.heap.size->K (a.put o.dst (.slice (some ⟨g,0,none⟩) (n1+1) cap)) w') :
  if Region.wanted o (yielded ops a.tmps)=true then Oper.wp Tryz.prog o a W K Q else E:=by
 obtain⟨i0,hi0,hz0,hz1,hz2⟩:=info_parts info3
 refine step_append_lies W hgd s x 42 ho w.heap.size 3 i0 _ 1 8 Tryz.underlying42 hi0 hz0 hz1 hz2 rfl (by omega) v1 n1 (eG xs) hs hen.a ad 1 1 [.int .i64 z] hx rfl ?_ (by simp[Value.oneCell']) (by omega) (by unfold maxLen;omega) (by omega) hen.bel.size W.heap.size rfl ?_
 ·intro j u hu
  cases j with
  | zero =>
   simp at hu
   subst hu
   have:ad.add 0=ad:=by cases ad;simp[Addr.add]
   rw[this]
   exact hc
  | succ j=>simp at hu
 ·intro g cap w' hown hgrow hat hlt
  have hown':w'.ownsRow w.heap.size 3 1 (.slice (some ⟨g,0,none⟩) (n1+1) cap) (n1+1) (eG (xs++[z])):=by simpa [eG] using hown
  exact h g cap w' (hen.grow hown' hgrow hat) (fun p hp hne=>hgrow.cell_far p hp (fun e=>hne e.symm)) hgrow.size
theorem aVx {ops:Array Oper}{o:Oper}{a:Act}{K:Act->World->Prop}{Q:Exit->Act->World->Prop}{E:Prop}
  (hgd:o.guard=none) (s x:Operand) (ho:o.op=.call { callee:=.builtin .append,args:=#[s,x],argTypes:=#[42,42] })
  (hs:a.eval s=v2) (hen:En w W v1 v2 n1 n2 xs ys) (ad:Addr) (z:Int) (hx:a.eval x=.slice (some ad) 1 1) (hc:W.cell? ad=some (.int .i64 z)) (h3:n2<=140737488355327 / 8)
  (h:∀ g cap w',En w w' v1 (.slice (some ⟨g,0,none⟩) (n2+1) cap) n1 (n2+1) xs (ys++[z])->(∀ p:Addr,p.block < W.heap.size->v2.ownBlock≠some p.block->w'.cell? p=W.cell? p)->W.heap.size<=w'.heap.size->K (a.put o.dst (.slice (some ⟨g,0,none⟩) (n2+1) cap)) w') :
  if Region.wanted o (yielded ops a.tmps)=true then Oper.wp Tryz.prog o a W K Q else E :=
 aN8 hgd s x ho hs hen.swap ad z hx hc h3 fun g cap w' he hk hl=>h g cap w' he.swap hk hl
end Go.Proofs.Spn
namespace Go.Proofs.Spn
open Go.RowKit Go.IntWalk Go.Sort
def qN (L:List (Int × Int)):List Int:=L.map (·.1)
def uJ (L:List (Int × Int)):List Int:=L.map (·.2)
theorem aIv {L:List (Int × Int)}{j:Nat}{x y:Int}(hj:j < L.length)(h:L.getD j (0,0)=(x,y)):qN (L.take (j+1))=qN (L.take j)++[x]/\uJ (L.take (j+1))=uJ (L.take j)++[y]:=by
 have e:L[j]=(x,y):=by simpa [List.getD,hj] using h
 rw[List.take_succ_eq_append_getElem hj,e]
 simp[qN,uJ]
def kK (f:List Int->Int × Int)(L:List (Int × Int)):(Int × Int) × Int :=
 if (f (qN L)).2≠0 then((0,0),(f (qN L)).2) else(((f (qN L)).1,(f (uJ L)).1),(f (uJ L)).2)
def aHa (f:List Int->Int × Int)(L:List (Int × Int)):Value:=.tuple #[.agg #[.int .i64 (kK f L).1.1,.int .i64 (kK f L).1.2],.int .i64 (kK f L).2]
theorem aV {W:World}{o:Obj}{b i:Nat}(h:b < W.heap.size):(W.alloc o).cell? ⟨b,i,none⟩=W.cell? ⟨b,i,none⟩:=(aC W o).cell (p:=⟨b,i,none⟩) h
theorem c3 (W:World)(x y p q:Int) :
  (((W.alloc (cs x y)).alloc (.cells #[.int .i64 p] 3)).alloc (.cells #[.int .i64 q] 3)).cell? ⟨W.heap.size,0,none⟩=some (.int .i64 x) /\
  (((W.alloc (cs x y)).alloc (.cells #[.int .i64 p] 3)).alloc (.cells #[.int .i64 q] 3)).cell? ⟨W.heap.size,1,none⟩=some (.int .i64 y) /\
  (((W.alloc (cs x y)).alloc (.cells #[.int .i64 p] 3)).alloc (.cells #[.int .i64 q] 3)).cell? ⟨W.heap.size+1,0,none⟩=some (.int .i64 p) /\
  (((W.alloc (cs x y)).alloc (.cells #[.int .i64 p] 3)).alloc (.cells #[.int .i64 q] 3)).cell? ⟨W.heap.size+1+1,0,none⟩=some (.int .i64 q):=by
 have h1:=((aB.new W 74 #[.int .i64 x,.int .i64 y]).alloc (.cells #[.int .i64 p] 3)).alloc (.cells #[.int .i64 q] 3)
 have h2:=(aB.new (W.alloc (cs x y)) 3 #[.int .i64 p]).alloc (.cells #[.int .i64 q] 3)
 have h3:=aB.new ((W.alloc (cs x y)).alloc (.cells #[.int .i64 p] 3)) 3 #[.int .i64 q]
 simp only[World.size_alloc] at h2 h3
 exact⟨h1.cell 0 rfl,h1.cell 1 rfl,h2.cell 0 rfl,h3.cell 0 rfl⟩
theorem wO (op k s:Int)(b1 b2 b3:Nat)(a:Option Addr)(n cap:Nat)(L:List (Int × Int))(w:World)(hc:Cap w b1 b2 b3 op k s)(h:Spans w a n cap L)(hn3:n<=3)(f:List Int->Int × Int)(hf:∀ xs,bK op k s xs=f xs) :
  Calls Tryz.prog 194 #[.slice a n cap,.func (.func 189) #[] #[ptr b1,ptr b2,ptr b3]] w fun e w'=>e=.returned (aHa f L)/\Below w.heap.size w w':=by
 have hl:=h.len
 have HC:=aA hc
 have H:=aA h
 have HL:=aA hl
 have HF:=aA hf
 clear hl hc h hf
 have R0:=aB.new w 74 #[.int .i64 0,.int .i64 0]
 have B0:=aC w (cs 0 0)
 have hs0:(w.alloc (cs 0 0)).heap.size=w.heap.size+1:=by simp
 obtain⟨w0,hw0⟩:∃ w0,w.alloc (cs 0 0)=w0:=⟨_,rfl⟩
 rw[hw0] at R0 B0 hs0
 have HR0:=aA R0
 have HB0:=aA B0
 have HW0:=aA hw0
 clear R0 B0 hw0
 have hE0:En w0 w0 (.slice none 0 0) (.slice none 0 0) 0 0 [] []:=by
  refine⟨⟨rfl,.inl ⟨rfl,rfl⟩⟩,⟨rfl,.inl ⟨rfl,rfl⟩⟩,?_,Below.refl _ _⟩
  intro g hg
  simp[Value.ownBlock] at hg
 have HE0:=aA hE0
 clear hE0
 go_enter Tryz.func194,Tryz.ntmps194
 go_wp2_with fail
 rw[show w.alloc (.cells #[.int .i64 0,.int .i64 0] 74)=w0 from HW0.o]
 go_loopw [6,7,15] (fun v1 v2 i wr=>∃ j:Nat,j<=n/\i=.int .i64 j/\En w0 wr v1 v2 j j (qN (L.take j)) (uJ (L.take j))) (fun _ _ i _=>n-(intOf i).toNat)
 case atStart=>exact⟨0,by omega,rfl,HE0.o⟩
 case round =>
  rename_i wr
  obtain⟨j,hj,rfl,hen⟩:=hrel
  have HEN:=aA hen
  clear hen
  have HBW:=aA (bel HB0.o HEN.o.bel)
  by_cases hlt:j < n
  ·obtain⟨bb,off,rfl,hbb,hcell⟩:=(H.o.later HBW.o).at (by omega)
   obtain⟨g1,g2⟩:=hcell j hlt
   clear hcell
   obtain⟨⟨x,y⟩,hxy⟩:∃ p,L.getD j (0,0)=p:=⟨_,rfl⟩
   rw[hxy] at g1 g2
   have HXY:=aA hxy
   clear hxy
   have hj0:(0:Int)<=(j:Int):=by omega
   have hj1:(j:Int) < (n:Int):=by omega
   have hv1:∀ g,u6.ownBlock=some g->g < wr.heap.size:=fun g hg=>(HEN.o.a.lt g hg).2
   have HV1:=aA hv1
   clear hv1
   have hv2:∀ g,u7.ownBlock=some g->g < wr.heap.size:=fun g hg=>(HEN.o.b.lt g hg).2
   have HV2:=aA hv2
   clear hv2
   go_wp2_with fail
   go_region_held3 (fun w'=>w'.cell? ⟨wr.heap.size,0,none⟩=some (.int .i64 x)/\w'.cell? ⟨wr.heap.size,1,none⟩=some (.int .i64 y))
    (first|exact⟨t1,t2⟩|exact⟨t3,t4⟩|go_keep)
    (first
     | (refine aN8 (by rfl) _ _ (by rfl) (by rfl) (by first | exact((HEN.o.alloc _).alloc _).drew | exact(((HEN.o.alloc _).alloc _).alloc _).drew) _ x (by rfl) (by first | (simp;done) | exact(c3 wr x y x y).2.2.1 | exact(c3 wr x y y x).2.2.2) (by omega) ?_;intro g cap1 w1 hen1 hk1 hsz1;have t1:w1.cell? ⟨wr.heap.size,0,none⟩=some (.int .i64 x):=(by rw[hk1 _ (by simp;omega) (fun h=>by have:=HV1.o _ h;simp at this)];first | (simp;done) | exact(c3 wr x y x y).1 | exact(c3 wr x y y x).1);have t2:w1.cell? ⟨wr.heap.size,1,none⟩=some (.int .i64 y):=(by rw[hk1 _ (by simp;omega) (fun h=>by have:=HV1.o _ h;simp at this)];first | (simp;done) | exact(c3 wr x y x y).2.1 | exact(c3 wr x y y x).2.1);have hl1:wr.heap.size < w1.heap.size:=World.block_lt_of_cell? w1 _ t1)
     | (refine aVx (by rfl) _ _ (by rfl) (by rfl) (by first | exact hen1 | exact hen1.alloc _) _ y (by rfl) (by first | (simp;done) | (rw[hk1 _ (by simp) (fun h=>by have:=HV1.o _ h;simp at this;omega)];first | exact(c3 wr x y x y).2.2.2 | exact(c3 wr x y y x).2.2.1)) (by omega) ?_;intro gb cap2 w2 hen2 hk2 hsz2;have t3:w2.cell? ⟨wr.heap.size,0,none⟩=some (.int .i64 x):=(by rw[hk2 _ (by first | exact hl1 | (simp;omega)) (fun h=>by have:=HV2.o _ h;simp at this)];first | exact t1 | exact(aV hl1).trans t1);have t4:w2.cell? ⟨wr.heap.size,1,none⟩=some (.int .i64 y):=(by rw[hk2 _ (by first | exact hl1 | (simp;omega)) (fun h=>by have:=HV2.o _ h;simp at this)];first | exact t2 | exact(aV hl1).trans t2)))
   all_goals
    clear hk1 hk2 t1 t2 t3 t4 hl1 hsz1 hsz2 hen1 g1 g2 HEN HV1 HV2 HBW hbb
    have HEN2:=aA hen2
    clear hen2
    go_wp2_with fail
    go_roundw
    case rel =>
     refine⟨j+1,by omega,by go_num,?_⟩
     have hs:=aIv (by rw[HL.o];exact hlt) HXY.o
     rw[hs.1,hs.2]
     exact HEN2.o
    case measure=>simp[intOf];omega
  ·obtain rfl:j=n:=by omega
   have he:=HEN.o
   rw[List.take_of_length_le (by rw[HL.o];omega)] at he
   obtain⟨a1,c1,rfl,hI1,-⟩:=Ints.of_owns he.a
   obtain⟨a2,c2,rfl,hI2,-⟩:=Ints.of_owns he.b
   have HI2:=aA hI2
   have CA:=aA2 op k s b1 b2 b3 a1 j c1 (qN L) wr hI1 (HC.o.later HBW.o)
   have HR:=aA (HR0.o.below HEN.o.bel)
   clear he hI1 hI2 HEN
   rw[HF.o] at CA
   obtain⟨⟨z1,e1⟩,hZ1⟩:∃ Z,f (qN L)=Z:=⟨_,rfl⟩
   rw[hZ1] at CA
   have HZ1:=aA hZ1
   have HCA:=aA CA
   clear hZ1 CA
   go_wp2_with fail
   refine HCA.o.mono ?_
   rintro e' w2 ⟨rfl,hb2⟩
   have HB2:=aA (bel HBW.o hb2)
   have HR2:=aA (HR.o.below hb2)
   have HI22:=aA (HI2.o.later hb2)
   clear hb2 HBW HR HI2 HCA
   by_cases he1:e1=0
   ·subst he1
    have CB:=aA2 op k s b1 b2 b3 a2 j c2 (uJ L) w2 HI22.o (HC.o.later HB2.o)
    rw[HF.o] at CB
    obtain⟨⟨z2,e2⟩,hZ2⟩:∃ Z,f (uJ L)=Z:=⟨_,rfl⟩
    rw[hZ2] at CB
    have HZ2:=aA hZ2
    have HCB:=aA CB
    clear hZ2 CB
    go_wp2_with fail
    refine HCB.o.mono ?_
    rintro e' w3 ⟨rfl,hb3⟩
    have HB3:=aA (bel HB2.o hb3)
    have HR3:=aA (HR2.o.below hb3)
    clear hb3 HB2 HR2 HCB
    obtain⟨s1,s2,s3,s4⟩:=aG HR3.o
    go_wp2_with fail
    obtain⟨d0,d1,hB2⟩:=aI HR3.o HB3.o (by omega) z1 z2
    exact bodyPost_ret (v:=.tuple #[.agg #[.int .i64 z1,.int .i64 z2],.int .i64 e2]) (by simp[results,Tryz.results194,go_sem,d0,d1]) rfl ⟨by simp[aHa,kK,HZ1.o,HZ2.o],hB2⟩
   ·have he':(e1 != 0)=true:=by simp[he1]
    have HE1:=aA he1
    clear he1
    obtain⟨s1,s2,s3,s4⟩:=aG HR2.o
    go_wp2_with fail
    obtain⟨d0,d1,hB2⟩:=aI HR2.o HB2.o (by omega) 0 0
    exact bodyPost_ret (v:=.tuple #[.agg #[.int .i64 0,.int .i64 0],.int .i64 e1]) (by simp[results,Tryz.results194,go_sem,d0,d1]) rfl ⟨by simp[aHa,kK,HZ1.o,HE1.o],hB2⟩
end Go.Proofs.Spn
