import Derived.Test.YtihbhbeaihdgnaaGreatXH
import Derived.Deep.RegionWith
import Derived.Deep.RegionHeld3
import Derived.BigRegion
import Derived.Test.YtihbhbeaihdgnaaGreatX09
import Derived.Test.YtihbhbeaihdgnaaGreatX18
import Derived.Test.YtihbhbeaihdgnaaGreatX12
import Derived.Test.YtihbhbeaihdgnaaGreatX10
import Derived.Test.YtihbhbeaihdgnaaGreatX19
set_option maxRecDepth 100000
set_option maxHeartbeats 32000000
set_option linter.unusedVariables false
namespace Go.Proofs.YtihbhbeaihdgnaaGreat
open Lx Pz
variable {BS D:List Int} {d f o:Int} {i:Nat}
structure Dec (NM:List aR)(BS:List Int)(NS:List Nd)(root:Int)(es:List E)(ex:E):Prop where
 nodes:NS=jK es 0++ex.flat (cZ es)
 binds:BS=kG es 0
 names:NM.length=es.length
 gd:∀ j e,es[j]?=some e->Gd j e
 gx:Gd es.length ex
 ok:nmB NM=true
 root:root=(NS.length:Int)-1
 few:NS.length<=1024
theorem jS {NM:List aR}{NS:List Nd}{root:Int}:qD NM BS NS root=true↔∃ es ex,Dec NM BS NS root es ex:=by
 constructor
 ·intro h
  simp only[qD,Bool.and_eq_true,beq_iff_eq] at h
  obtain⟨h1,h2,h3,h4⟩:=h
  simp only[wN,bR,Bool.and_eq_true,decide_eq_true_eq,beq_iff_eq] at h2
  obtain⟨es,ex,e1,e2,e3,e4⟩:=aD8.1 h3
  refine⟨es,ex,e1,e2,?_,e3,e4,h4,h2.2,by omega⟩
  rw[h1,e2,fE]
 ·rintro⟨es,ex,h⟩
  simp only[qD,Bool.and_eq_true,beq_iff_eq]
  refine⟨by rw[h.names,h.binds,fE],?_,aD8.2 ⟨es,ex,h.nodes,h.binds,h.gd,h.gx⟩,h.ok⟩
  simp only[wN,bR,Bool.and_eq_true,decide_eq_true_eq,beq_iff_eq]
  have:=h.few
  have h2:1<=NS.length:=by rw[h.nodes,List.length_append,E.flat_len];have:=ex.size_pos;omega
  exact⟨⟨by omega,by omega⟩,h.root⟩
def bV (n:Nd):List Int:=[n.a,n.b,n.c].take (gN n.op).toNat
abbrev dM:=List (Int × Int)
abbrev jJ (n:Nd):Knd.Plc:=⟨n.back,n.co,n.x,n.y⟩
def qX (f d:Int)(BS:List Int)(S:dM)(n:Nd):(Int × Int) × Int :=
 if n.op=4 then(S.getD (BS.getD n.k.toNat 0).toNat (0,0),0) else
 if n.op=1 then((n.k,n.k),0) else
 if n.op=2 then((Knd.fM f d n.k).getD (0,0),0) else
 if n.op=3 then((Knd.dR f d,Knd.bH f d),0) else
 Spn.ofZ n.op 0 0 ((bV n).map fun p=>S.getD p.toNat (0,0))
def nX (f d:Int)(BS:List Int):List Nd->dM->dM × Int
 | [],S=>(S,0)
 | n::NS,S=>if (qX f d BS S n).2=0 then nX f d BS NS (S++[(qX f d BS S n).1]) else([],(qX f d BS S n).2)
def dpN (BS:List Int)(D:List Int)(n:Nd):Int :=
 if n.op=4 then D.getD (BS.getD n.k.toNat 0).toNat 0 else((bV n).map fun p=>D.getD p.toNat 0).foldl max 0+1
def tK (BS:List Int):List Nd->List Int->List Int
 | [],D=>D
 | n::NS,D=>tK BS NS (D++[dpN BS D n])
def jE (o:Int):Int:=if o=4 then 0 else if o=11 then 4 else if o=12 then 6 else 1
def vK (NS:List Nd):Int:=NS.foldl (fun s n=>s+jE n.op) 0
def mxR (D:List Int):Int:=D.foldl max 0
def ahB (f d:Int)(n:Nd):Bool:=n.op==3&&(Knd.lV f d (jJ n)).isNone
def nD (f d:Int)(NM:List aR)(BS:List Int)(NS:List Nd)(root:Int):Int :=
 if ¬Knd.May f d then 1 else if qD NM BS NS root=false then 3 else if NS.any (ahB f d)=true then 11 else if (nX f d BS NS []).2≠0 then(nX f d BS NS []).2 else
 if 200 < vK NS\/24 < mxR (tK BS NS []) then 14 else 0
structure Wn (BS:List Int)(i:Nat)(n:Nd):Prop where
 lo:1<=n.op
 hi:n.op<=28
 pr:0<=gN n.op
 ar:n.op≠4->mE n.op=gN n.op
 use:n.op=4->0<=n.k/\n.k.toNat < BS.length/\0<=BS.getD n.k.toNat 0/\(BS.getD n.k.toNat 0).toNat < i
 prt:∀ p ∈ bV n,0<=p/\p.toNat < i
 num:n.op=1->0<=n.k/\n.k<=2147483647
 inp:n.op=2->0<=n.k/\n.k<=5
 wf:(jJ n).wf
def Wl (BS:List Int):Nat->List Nd->Prop
 | _,[]=>True
 | i,n::r=>Wn BS i n/\Wl BS (i+1) r
theorem mD (BS:List Int):∀(A B:List Nd) (i:Nat),Wl BS i (A++B)↔Wl BS i A/\Wl BS (i+A.length) B
 | [],B,i=>by simp[Wl]
 | n::A,B,i=>by
  simp only[List.cons_append,Wl,List.length_cons]
  rw[mD BS A B (i+1),show i+1+A.length=i+(A.length+1) by omega]
  constructor
  ·rintro⟨a,b,c⟩;exact⟨⟨a,b⟩,c⟩
  ·rintro⟨⟨a,b⟩,c⟩;exact⟨a,b,c⟩
theorem aAz {BS:List Int}:∀ {NS:List Nd} {s i:Nat},Wl BS s NS->i < NS.length->Wn BS (s+i) (NS.getD i n0)
 | [],s,i,h,hi=>by simp at hi
 | n::NS,s,0,h,hi=>by simpa using h.1
 | n::NS,s,i+1,h,hi=>by
  have:=aAz (i:=i) h.2 (by simpa using hi)
  rw[show s+1+i=s+(i+1) by omega] at this
  simpa using this
theorem aCa (h:gN o=0):o=1\/o=2\/o=3\/o=4:=by
 unfold gN mE at h
 repeat' split at h
 all_goals omega
theorem aVf (h:0 < gN o):5<=o/\o<=28/\mE o=gN o:=by
 have h0:=h
 unfold gN at h
 split at h
 ·omega
 ·split at h
  ·omega
  ·rename_i h1 h2
   refine⟨?_,by omega,by unfold gN;rw[if_neg h1,if_neg h2]⟩
   unfold mE at h
   repeat' split at h
   all_goals omega
theorem vG (o:Int):Spn.ar o=mE o:=by
 unfold Spn.ar mE Spn.gG
 by_cases h1:o=1\/o=2\/o=3
 ·rw[if_pos h1,if_pos h1]
 rw[if_neg h1,if_neg h1]
 by_cases h2:5<=o/\o<=7
 ·rw[if_pos (.inl (by simp;omega)),if_pos h2]
 by_cases h3:29<=o/\o<=33
 ·rw[if_pos (.inr (by simp;omega)),if_neg h2,if_pos h3]
 rw[if_neg (by simp;omega),if_neg h2,if_neg h3]
 by_cases h4:8<=o/\o<=25
 ·rw[if_pos (by simp;omega),if_pos h4]
 rw[if_neg (by simp;omega),if_neg h4]
 by_cases h5:26<=o/\o<=28
 ·rw[if_pos (by simp;omega),if_pos h5]
 rw[if_neg (by simp;omega),if_neg h5]
theorem aSg {bd:Nat}{n:Nd}(h:Gd bd (.leaf n))(hb:bd<=BS.length)(hu:∀ k,k < bd->0<=BS.getD k 0/\(BS.getD k 0).toNat < i):Wn BS i n:=by
 obtain⟨h1,h2,h3,h4,h5⟩:=h
 have hp:bV n=[]:=by unfold bV;rw[h4];rfl
 unfold lS at h5
 have hw:(jJ n).wf:=by
  unfold Knd.Plc.wf Knd.gB jJ
  dsimp only
  split at h5
  ·simp only[zD,bR,MX,Bool.and_eq_true,decide_eq_true_eq,beq_iff_eq,Bool.or_eq_true] at h5
   omega
  ·simp only[uD,Bool.and_eq_true,beq_iff_eq] at h5
   obtain⟨⟨⟨⟨a,b⟩,c⟩,e⟩,-⟩:=h5
   simp only[a,b,c,e]
   omega
 have hk:n.op≠3->0<=n.k/\n.k<=jP n.op bd:=by
  intro h
  rw[if_neg h] at h5
  simp only[bR,Bool.and_eq_true,decide_eq_true_eq] at h5
  exact h5.2
 refine⟨by have:=aCa h4;omega,by have:=aCa h4;omega,by omega,fun h=>?_,fun h=>?_,by rw[hp];simp,fun h=>?_,fun h=>?_,hw⟩
 ·rcases aCa h4 with e|e|e|e
  ·rw[h4,e];rfl
  ·rw[h4,e];rfl
  ·rw[h4,e];rfl
  ·exact absurd e h
 ·obtain⟨a,b⟩:=hk (by omega)
  rw[h] at b
  have e:jP 4 bd=(bd:Int)-1:=rfl
  rw[e] at b
  have:=hu n.k.toNat (by omega)
  exact⟨a,by omega,this.1,this.2⟩
 ·obtain⟨a,b⟩:=hk (by omega)
  rw[h] at b
  have e:jP 1 bd=2147483647:=rfl
  rw[e] at b
  exact⟨a,b⟩
 ·obtain⟨a,b⟩:=hk (by omega)
  rw[h] at b
  have e:jP 2 bd=5:=rfl
  rw[e] at b
  exact⟨a,b⟩
theorem aOm {a b c:Int}(h:0 < gN o)(hp:∀ p ∈ [a,b,c].take (gN o).toNat,0<=p/\p.toNat < i):Wn BS i ⟨o,a,b,c,0,0,0,0,0⟩:=by
 obtain⟨h1,h2,h3⟩:=aVf h
 refine⟨?_,h2,?_,fun _=>h3,fun e=>?_,hp,fun e=>?_,fun e=>?_,?_⟩
 ·show (1:Int)<=o;omega
 ·show 0<=gN o;omega
 ·exfalso;have:o=4:=e;omega
 ·exfalso;have:o=1:=e;omega
 ·exfalso;have:o=2:=e;omega
 ·unfold Knd.Plc.wf Knd.gB jJ;simp only;omega
theorem aE6 {BS:List Int}{bd:Nat}(hb:bd<=BS.length):∀(e:E) (s:Nat),Gd bd e->(∀ k,k < bd->0<=BS.getD k 0/\(BS.getD k 0).toNat < s)->Wl BS s (e.flat s)
 | .leaf n,s,h,hu=>⟨aSg h hb hu,trivial⟩
 | .un o a,s,h,hu=>by
  have h1:=a.size_pos
  rw[E.flat,mD,E.flat_len]
  refine⟨aE6 hb a s h.2 hu,aOm (by rw[h.1];decide) ?_,trivial⟩
  rw[h.1]
  simp only[show ((1:Int)).toNat=1 from rfl,List.take_succ_cons,List.take_zero,List.mem_cons,List.not_mem_nil,or_false,forall_eq]
  omega
 | .bin o a b,s,h,hu=>by
  have h1:=a.size_pos
  have h2:=b.size_pos
  rw[E.flat,mD,mD,List.length_append,E.flat_len,E.flat_len]
  refine⟨⟨aE6 hb a s h.2.1 hu,aE6 hb b _ h.2.2 fun k hk=>⟨(hu k hk).1,by have:=(hu k hk).2;omega⟩⟩,aOm (by rw[h.1];decide) ?_,trivial⟩
  rw[h.1]
  simp only[show ((2:Int)).toNat=2 from rfl,List.take_succ_cons,List.take_zero,List.mem_cons,List.not_mem_nil,or_false,forall_eq_or_imp,forall_eq]
  omega
 | .tri o a b c,s,h,hu=>by
  have h1:=a.size_pos
  have h2:=b.size_pos
  have h3:=c.size_pos
  rw[E.flat,mD,mD,mD]
  simp only[List.length_append,E.flat_len]
  refine⟨⟨⟨aE6 hb a s h.2.1 hu,aE6 hb b _ h.2.2.1 fun k hk=>⟨(hu k hk).1,by have:=(hu k hk).2;omega⟩⟩,?_⟩,aOm (by rw[h.1];decide) ?_,trivial⟩
  ·rw[show s+(a.size+b.size)=s+a.size+b.size by omega]
   exact aE6 hb c _ h.2.2.2 fun k hk=>⟨(hu k hk).1,by have:=(hu k hk).2;omega⟩
  ·rw[h.1]
   simp only[show ((3:Int)).toNat=3 from rfl,List.take_succ_cons,List.take_zero,List.mem_cons,List.not_mem_nil,or_false,forall_eq_or_imp,forall_eq]
   omega
theorem yI:∀(es:List E) (m:Nat),cZ (es.take m)<=cZ es
 | [],m=>by simp
 | a::es,0=>by simp[cZ]
 | a::es,m+1=>by simp only[List.take_succ_cons,cZ];have:=yI es m;omega
theorem aKl:∀(es:List E) (s k:Nat),k < es.length->0<=(kG es s).getD k 0/\((kG es s).getD k 0).toNat < s+cZ (es.take (k+1))
 | [],s,k,h=>by simp at h
 | a::es,s,0,h=>by
  have:=a.size_pos
  simp only[kG,List.getD_cons_zero,List.take_succ_cons,List.take_zero,cZ]
  omega
 | a::es,s,k+1,h=>by
  have:=aKl es (s+a.size) k (by simpa using h)
  simp only[kG,List.getD_cons_succ,List.take_succ_cons,cZ]
  omega
theorem aX2 {BS:List Int}:∀(es pre:List E),BS=kG (pre++es) 0->(∀ j e,es[j]?=some e->Gd (pre.length+j) e)->Wl BS (cZ pre) (jK es (cZ pre))
 | [],pre,h,hg=>trivial
 | a::es,pre,h,hg=>by
  have hl:BS.length=pre.length+(es.length+1):=by rw[h,fE];simp
  rw[jK,mD,E.flat_len]
  constructor
  ·refine aE6 (bd:=pre.length) (by omega) a _ (by simpa using hg 0 a rfl) fun k hk=>?_
   have h1:=aKl (pre++a::es) 0 k (by simp;omega)
   rw[<-h,List.take_append_of_le_length (by omega)] at h1
   have h2:=yI pre (k+1)
   omega
  ·have:=aX2 (BS:=BS) es (pre++[a]) (by rw[h];simp) fun j e he=>by
    have:=hg (j+1) e (by simpa using he)
    simp only[List.length_append,List.length_cons,List.length_nil]
    rw[show pre.length+(0+1)+j=pre.length+(j+1) by omega]
    exact this
   rwa[aCq,show cZ [a]=a.size by simp[cZ]] at this
theorem Dec.wl {NM:List aR}{NS:List Nd}{root:Int}{es:List E}{ex:E}(h:Dec NM BS NS root es ex):Wl BS 0 NS:=by
 rw[h.nodes,mD,dC,Nat.zero_add]
 constructor
 ·have:=aX2 (BS:=BS) es [] (by simpa using h.binds) (by simpa using h.gd)
  simpa [cZ] using this
 ·refine aE6 (bd:=es.length) (by rw[h.binds,fE];exact Nat.le_refl _) ex _ h.gx fun k hk=>?_
  have h1:=aKl es 0 k hk
  rw[<-h.binds] at h1
  have h2:=yI es (k+1)
  omega
theorem aCo (f d:Int)(BS:List Int):∀(A B:List Nd) (S:dM),nX f d BS (A++B) S=if (nX f d BS A S).2=0 then nX f d BS B (nX f d BS A S).1 else([],(nX f d BS A S).2)
 | [],B,S=>by simp[nX]
 | n::A,B,S=>by
  simp only[List.cons_append,nX]
  split
  ·exact aCo f d BS A B _
  ·rfl
theorem aH5 {f d:Int}{BS:List Int}:∀ {A:List Nd} {S T:dM},nX f d BS A S=(T,0)->T.length=S.length+A.length
 | [],S,T,h=>by cases h;rfl
 | n::A,S,T,h=>by
  simp only[nX] at h
  split at h
  ·have:=aH5 h
   simp only[List.length_append,List.length_cons,List.length_nil] at this ⊢
   omega
  ·rename_i h1;exact absurd (congrArg Prod.snd h) h1
theorem aN3 {A:List Nd}{n:Nd}{S T:dM}(h:nX f d BS A S=(T,0)):nX f d BS (A++[n]) S=if (qX f d BS T n).2=0 then(T++[(qX f d BS T n).1],0) else([],(qX f d BS T n).2):=by
 rw[aCo,h];simp only[nX,if_true]
theorem aRt {A B:List Nd}{S T:dM}{e:Int}(h:nX f d BS A S=(T,e))(he:e≠0):nX f d BS (A++B) S=([],e):=by
 rw[aCo,h];exact if_neg he
theorem aG8 (BS:List Int):∀(A B:List Nd) (D:List Int),tK BS (A++B) D=tK BS B (tK BS A D)
 | [],B,D=>rfl
 | n::A,B,D=>aG8 BS A B _
theorem aBf (BS:List Int):∀(A:List Nd) (D:List Int),(tK BS A D).length=D.length+A.length
 | [],D=>rfl
 | n::A,D=>by rw[tK,aBf BS A];simp;omega
theorem oG:∀(L:List Int) (a m:Int),a<=m->(∀ x ∈ L,x<=m)->L.foldl max a<=m
 | [],a,m,h,_=>h
 | x::L,a,m,h,hl=>oG L _ m (by have:=hl x (by simp);omega) fun y hy=>hl y (by simp[hy])
theorem lH:∀(L:List Int) (a:Int),a<=L.foldl max a
 | [],a=>Int.le_refl _
 | x::L,a=>Int.le_trans (Int.le_max_left a x) (lH L _)
theorem sM:∀(L:List Int) (a x:Int),x ∈ L->x<=L.foldl max a
 | y::L,a,x,h=>by
  rcases List.mem_cons.1 h with rfl|h
  ·exact Int.le_trans (Int.le_max_right a x) (lH L _)
  ·exact sM L _ x h
def Db (D:List Int):Prop:=∀ x ∈ D,1<=x/\x<=D.length
theorem Db.at (h:Db D)(hi:i < D.length):1<=D.getD i 0/\D.getD i 0<=D.length:=by
 rw[List.getD_eq_getElem?_getD,List.getElem?_eq_getElem hi]
 exact h _ (List.getElem_mem hi)
theorem aK1 {n:Nd}(h:Db D)(hn:Wn BS D.length n):1<=dpN BS D n/\dpN BS D n<=D.length+1:=by
 unfold dpN
 split
 ·rename_i h4
  obtain⟨-,-,-,h2⟩:=hn.use h4
  have:=h.at h2
  omega
 ·have h1:=lH ((bV n).map fun p=>D.getD p.toNat 0) 0
  have h2:=oG ((bV n).map fun p=>D.getD p.toNat 0) 0 D.length (by omega) fun x hx=>by
   obtain⟨p,hp,rfl⟩:=List.mem_map.1 hx
   exact(h.at (hn.prt p hp).2).2
  omega
theorem Db.snoc {n:Nd}(h:Db D)(hn:Wn BS D.length n):Db (D++[dpN BS D n]):=by
 have h1:=aK1 h hn
 intro x hx
 simp only[List.length_append,List.length_cons,List.length_nil]
 rcases List.mem_append.1 hx with hx|hx
 ·have:=h x hx;omega
 ·simp at hx;subst hx;omega
theorem Db.all {BS:List Int}:∀ {A:List Nd} {D:List Int},Db D->Wl BS D.length A->Db (tK BS A D)
 | [],D,h,_=>h
 | n::A,D,h,hw=>by
  rw[tK]
  exact Db.all (h.snoc hw.1) (by simpa using hw.2)
theorem oD (A:List Nd)(n:Nd):vK (A++[n])=vK A+jE n.op:=by
 unfold vK;rw[List.foldl_append];rfl
theorem aTc (o:Int):0<=jE o/\jE o<=6:=by unfold jE;repeat' split <;> omega
theorem aH {α:Type}(z:α){L:List α}{k:Nat}(h:k < L.length):L.take (k+1)=L.take k++[L.getD k z]:=by
 rw[List.take_add_one,List.getElem?_eq_getElem h,List.getD_eq_getElem?_getD,List.getElem?_eq_getElem h]
 rfl
end Go.Proofs.YtihbhbeaihdgnaaGreat
namespace Go.Proofs.YtihbhbeaihdgnaaGreat
open Go.RowKit Go.IntWalk Lx Pz
abbrev ab3 (n:Nd):Array Value:=#[.int .i64 n.a,.int .i64 n.b,.int .i64 n.c]
def PaP (w:World)(n:Nd)(k:Nat)(e:Ending)(W':World):Prop:=∃ g,e=.returned (.slice (some ⟨g,0,none⟩) k 3)/\w.heap.size<=g/\aB W' g 3 (ab3 n)/\Below w.heap.size w W'
theorem uW (n:Nd)(k:Nat)(hk:mE n.op=(k:Int))(h3:k<=3)(w:World):Calls Tryz.prog 118 #[.agg (dY n)] w (PaP w n k):=by
 have HA:=aA fun W=>bI n.op W
 rw[hk] at HA
 have HB:=aA (aC w (.cells (dY n) 93))
 obtain⟨f0,f1,f2,f3,f4,f5,f6,f7,f8⟩:=(aB.new w 93 (dY n)).nine
 have hz:w.heap.size < (w.alloc (.cells (dY n) 93)).heap.size:=by simp
 clear hk
 have hk0:(0:Int)<=k:=by omega
 have hk1:(k:Int)<=3:=by omega
 go_enter Tryz.func118,Tryz.ntmps118
 go_wp2_with fail
 go_region_held3 (fun w'=>w'.cell? ⟨w.heap.size,0,none⟩=some (.int .i64 n.op)/\w'.cell? ⟨w.heap.size,1,none⟩=some (.int .i64 n.a)/\w'.cell? ⟨w.heap.size,2,none⟩=some (.int .i64 n.b)/\w'.cell? ⟨w.heap.size,3,none⟩=some (.int .i64 n.c))
  (first|exact⟨f0,f1,f2,f3⟩|go_keep)
  ((first
   | (go_at_call 69;refine(HA.o _).mono ?_;rintro e w2 ⟨rfl,rfl⟩)))
 all_goals
  go_wp2
  go_ret
  have h5:=aB.new (w.alloc (.cells (dY n) 93)) 3 (ab3 n)
  rw[World.size_alloc] at h5
  exact⟨w.heap.size+1,rfl,Nat.le_succ _,h5,(HB.o.alloc HB.o.size _).drew⟩
abbrev bX (f d:Int):Array Value:=#[.int .i64 f,.int .i64 d]
def qO (f d:Int)(NM:List aR)(BS:List Int)(NS:List Nd)(root:Int):Int :=
 if ¬Knd.May f d then 1 else if qD NM BS NS root=false then 3 else if NS.any (ahB f d)=true then 11 else 0
theorem aKh {f d:Int}{NS:List Nd}{k:Nat}(hk:k < NS.length)(h:(NS.take k).any (ahB f d)=false)(h2:ahB f d (NS.getD k n0)=false):(NS.take (k+1)).any (ahB f d)=false:=by
 rw[aH n0 hk,List.any_append,h,List.any_cons,h2];rfl
theorem aS3 {f d:Int}{NS:List Nd}{k:Nat}(hk:k < NS.length)(h2:ahB f d (NS.getD k n0)=true):NS.any (ahB f d)=true:=by
 rw[List.any_eq_true]
 refine⟨NS.getD k n0,?_,h2⟩
 rw[List.getD_eq_getElem?_getD,List.getElem?_eq_getElem hk]
 exact List.getElem_mem hk
theorem aK3 (f d:Int){W:World}{na ba da:Option Addr}{nl nc bl bc dl dc:Nat}{root:Int}{NM:List aR}{BS:List Int}{NS:List Nd}(hX:Tx W na nl nc NM)(hB:Iz W ba bl bc BS)(hN:Nz W da dl dc NS)(hs:∀ s ∈ NM,s.length<=9223372036854775807) :
  Calls Tryz.prog 64 #[.agg (bX f d),.agg (fC (.slice na nl nc) (.slice ba bl bc) (.slice da dl dc) (.int .i64 root))] W fun e W'=>e=.returned (.int .i64 (qO f d NM BS NS root))/\Below W.heap.size W W':=by
 have hb1:=aC W (.cells (bX f d) 23)
 have hb2:=bel hb1 (aC (W.alloc (.cells (bX f d) 23)) (.cells (fC (.slice na nl nc) (.slice ba bl bc) (.slice da dl dc) (.int .i64 root)) 55))
 have HK0:=aA ((aB.new W 23 (bX f d)).alloc (.cells (fC (.slice na nl nc) (.slice ba bl bc) (.slice da dl dc) (.int .i64 root)) 55))
 have HT0:Hid (aB ((W.alloc (.cells (bX f d) 23)).alloc (.cells (fC (.slice na nl nc) (.slice ba bl bc) (.slice da dl dc) (.int .i64 root)) 55)) (W.heap.size+1) 55 (fC (.slice na nl nc) (.slice ba bl bc) (.slice da dl dc) (.int .i64 root))):=by
  have:=aB.new (W.alloc (.cells (bX f d) 23)) 55 (fC (.slice na nl nc) (.slice ba bl bc) (.slice da dl dc) (.int .i64 root))
  rw[World.size_alloc] at this
  exact aA this
 have HX:=aA (hX.later hb2)
 have HBI:=aA (hB.later hb2)
 have HNI:=aA (hN.later hb2)
 have HLN:=aA hN.len
 have HS:=aA hs
 have HB0:=aA hb2
 have hdl:dl<=9223372036854775807:=by have:=hN.le;have:=hN.max;unfold maxLen at *;omega
 clear hX hB hN hb1 hb2 hs
 by_cases hm:Knd.May f d
 ·have HCK:=aA fun w=>Knd.bP f d w hm
  cases hc:qD NM BS NS root with
  | false =>
   rw[show qO f d NM BS NS root=3 by unfold qO;rw[if_neg (by simpa using hm),if_pos hc]]
   go_enter Tryz.func64,Tryz.ntmps64
   go_wp2_with fail
   refine(HCK.o _).mono ?_
   rintro e V1 ⟨rfl,hb⟩
   have HT1:=aA (HT0.o.below hb)
   obtain⟨t0,t1,t2,t3⟩:V1.cell? ⟨W.heap.size+1,0,none⟩=some (.slice na nl nc)/\V1.cell? ⟨W.heap.size+1,1,none⟩=some (.slice ba bl bc)/\V1.cell? ⟨W.heap.size+1,2,none⟩=some (.slice da dl dc)/\V1.cell? ⟨W.heap.size+1,3,none⟩=some (.int .i64 root):=⟨HT1.o.cell 0 rfl,HT1.o.cell 1 rfl,HT1.o.cell 2 rfl,HT1.o.cell 3 rfl⟩
   have HB1:=aA (bel HB0.o hb)
   have HPC:=aA (zT (root:=root) (HX.o.later hb) (HBI.o.later hb) (HNI.o.later hb) HS.o)
   rw[hc] at HPC
   clear hb HX HBI HNI HK0 HT0 HB0 HCK
   go_wp2_with fail
   refine HPC.o.mono ?_
   rintro e V2 ⟨rfl,hb⟩
   simp only[Bool.false_eq_true,if_false]
   go_wp2_with fail
   go_ret
   exact⟨rfl,bel HB1.o hb⟩
  | true =>
   obtain⟨es,ex,hD⟩:=jS.1 hc
   have HW:=aA hD.wl
   have hfew:dl<=1024:=by rw[<-HLN.o];exact hD.few
   clear hD
   rw[show qO f d NM BS NS root=if NS.any (ahB f d)=true then 11 else 0 by unfold qO;rw[if_neg (by simpa using hm),if_neg (by rw[hc];simp)]]
   obtain⟨R,hR⟩:∃ R:Int,(if NS.any (ahB f d)=true then 11 else 0)=R:=⟨_,rfl⟩
   rw[hR]
   have HR:=aA hR
   clear hR
   go_enter Tryz.func64,Tryz.ntmps64
   go_wp2_with fail
   refine(HCK.o _).mono ?_
   rintro e V1 ⟨rfl,hb⟩
   have HT1:=aA (HT0.o.below hb)
   have HK1:=aA (HK0.o.below hb)
   obtain⟨t0,t1,t2,t3⟩:V1.cell? ⟨W.heap.size+1,0,none⟩=some (.slice na nl nc)/\V1.cell? ⟨W.heap.size+1,1,none⟩=some (.slice ba bl bc)/\V1.cell? ⟨W.heap.size+1,2,none⟩=some (.slice da dl dc)/\V1.cell? ⟨W.heap.size+1,3,none⟩=some (.int .i64 root):=⟨HT1.o.cell 0 rfl,HT1.o.cell 1 rfl,HT1.o.cell 2 rfl,HT1.o.cell 3 rfl⟩
   have HB1:=aA (bel HB0.o hb)
   have HNI1:=aA (HNI.o.later hb)
   have HPC:=aA (zT (root:=root) (HX.o.later hb) (HBI.o.later hb) (HNI.o.later hb) HS.o)
   rw[hc] at HPC
   clear hb HX HBI HNI HK0 HT0 HB0 HCK
   go_wp2_with fail
   refine HPC.o.mono ?_
   rintro e V2 ⟨rfl,hb⟩
   simp only[if_true]
   have HT2:=aA (HT1.o.below hb)
   have HK2:=aA (HK1.o.below hb)
   have HB2:=aA (bel HB1.o hb)
   have HNI2:=aA (HNI1.o.later hb)
   have x2:=HT2.o.cell 2 rfl
   clear hb HPC HB1 HNI1 HK1 HT1 t0 t1 t2 t3
   go_wp2_with fail
   go_loopw [24] (fun i wr=>∃ k:Nat,k<=dl/\i=.int .i64 k/\Hid ((NS.take k).any (ahB f d)=false)/\Hid (Below V2.heap.size V2 wr)) (fun i _=>dl-(intOf i).toNat)
   case atStart=>exact⟨0,Nat.zero_le _,rfl,aA rfl,aA (Below.refl _ _)⟩
   case round =>
    obtain⟨k,hk,rfl,HA,HB⟩:=hrel
    rename World=>V
    by_cases hlt:k < dl
    ·obtain⟨g,off,rfl,hat⟩:=(HNI2.o.later HB.o).at (by omega)
     obtain⟨e0,e1,e2,e3,e4,e5,e6,e7,e8⟩:=hat k hlt
     clear hat
     have hi0:(0:Int)<=k:=by omega
     have hi1:(k:Int) < dl:=by omega
     have hw:=(aAz HW.o (by rw[HLN.o];exact hlt:k < NS.length)).wf
     have HA2:=aA fun h=>aKh (f:=f) (d:=d) (by rw[HLN.o];exact hlt) HA.o h
     have HA3:=aA fun h=>aS3 (f:=f) (d:=d) (NS:=NS) (k:=k) (by rw[HLN.o];exact hlt) h
     obtain⟨f0,f1⟩:V.cell? ⟨W.heap.size,0,none⟩=some (.int .i64 f)/\V.cell? ⟨W.heap.size,1,none⟩=some (.int .i64 d):=⟨(HK2.o.below HB.o).cell 0 rfl,(HK2.o.below HB.o).cell 1 rfl⟩
     have hz0:W.heap.size < V.heap.size:=(HK2.o.below HB.o).lt
     generalize NS.getD k n0=n at *
     by_cases ho:n.op=3
     ·have ho1:(n.op != 3)=false:=by simpa using ho
      have HNum:=aA fun w=>Knd.iY f d (jJ n) hw w
      unfold Knd.aMl at HNum
      cases hz:Knd.lV f d (jJ n) with
      | none =>
       rw[hz] at HNum
       simp only[Option.getD_none,Option.isSome_none] at HNum
       have HE:=aA (HA3.o (by unfold ahB;rw[hz,ho];rfl))
       clear hz ho hw HA2 HA3
       go_wp2_with fail
       refine(HNum.o _).mono ?_
       rintro e V3 ⟨rfl,hb⟩
       go_wp2_with fail
       go_ret
       exact⟨aN (by rw[<-HR.o,HE.o];rfl),bel (bel (bel HB2.o HB.o) (aC _ _)) hb⟩
      | some z =>
       rw[hz] at HNum
       simp only[Option.getD_some,Option.isSome_some] at HNum
       have HE:=aA (HA2.o (by unfold ahB;rw[hz];simp))
       clear hz ho hw HA2 HA3
       go_wp2_with fail
       refine(HNum.o _).mono ?_
       rintro e V3 ⟨rfl,hb⟩
       have HB3:=aA (bel (bel HB.o (aC _ _)) hb)
       clear hb
       go_wp2_with fail
       go_roundw
       case rel=>exact⟨k+1,by omega,by go_num,aA HE.o,aA HB3.o⟩
       case measure=>simp[intOf];omega
     ·have ho1:(n.op != 3)=true:=by simpa using ho
      have HE:=aA (HA2.o (by unfold ahB;rw[show (n.op==3)=false by simpa using ho];rfl))
      clear ho hw HA2 HA3
      have HB3:=aA (bel HB.o (aC V (.cells (dY n) 93)))
      go_wp2_with fail
      go_roundw
      case rel=>exact⟨k+1,by omega,by go_num,aA HE.o,aA HB3.o⟩
      case measure=>simp[intOf];omega
    ·obtain rfl:k=dl:=by omega
     have HE:Hid (NS.any (ahB f d)=false):=aA (by have e:NS.take k=NS:=List.take_of_length_le (by rw[HLN.o];exact Nat.le_refl _);have:=HA.o;rwa[e] at this)
     go_wp2_with fail
     go_ret
     exact⟨aN (by rw[<-HR.o,HE.o];rfl),bel HB2.o HB.o⟩
 ·have HCK:=aA fun w=>Knd.gT f d w hm
  rw[show qO f d NM BS NS root=1 by unfold qO;rw[if_pos hm]]
  go_enter Tryz.func64,Tryz.ntmps64
  go_wp2_with fail
  refine(HCK.o _).mono ?_
  rintro e V1 ⟨rfl,hb⟩
  go_wp2_with fail
  go_ret
  exact⟨rfl,bel HB0.o hb⟩
end Go.Proofs.YtihbhbeaihdgnaaGreat
namespace Go.Proofs.YtihbhbeaihdgnaaGreat
open Go.RowKit Go.IntWalk Lx Pz
variable {b k:Nat} {W:World} {t:TypeId}
theorem aRu {S:dM}{n:Nd}(hk:k < (bV n).length):((bV n).map fun p=>S.getD p.toNat (0,0)).take (k+1)=((bV n).map fun p=>S.getD p.toNat (0,0)).take k++[S.getD ((bV n).getD k 0).toNat (0,0)]:=by
 rw[aH (0,0) (by simpa using hk)]
 congr 2
 simp[List.getD_eq_getElem?_getD,List.getElem?_map,List.getElem?_eq_getElem hk]
theorem sQ {n:Nd}(hp:gN n.op=k)(h3:k<=3):(bV n).length=k:=by
 unfold bV;rw[hp];simp;omega
theorem aCb {n:Nd}{j:Nat}(hp:gN n.op=k)(h3:k<=3)(hj:j < k):(ab3 n)[j]?=some (.int .i64 ((bV n).getD j 0))/\(bV n).getD j 0 ∈ bV n:=by
 have hl:=sQ hp h3
 refine⟨?_,?_⟩
 ·unfold bV
  rw[hp]
  rcases(show k=1\/k=2\/k=3 by omega) with rfl|rfl|rfl
  ·obtain rfl:j=0:=by omega
   rfl
  ·rcases(show j=0\/j=1 by omega) with rfl|rfl <;> rfl
  ·rcases(show j=0\/j=1\/j=2 by omega) with rfl|rfl|rfl <;> rfl
 ·rw[List.getD_eq_getElem?_getD,List.getElem?_eq_getElem (by omega)]
  exact List.getElem_mem _
theorem aQ {x y:Value}(h:aB W b t #[x,y]):W.cell? ⟨b,0,none⟩=some x/\W.cell? ⟨b,1,none⟩=some y/\W.frozen? ⟨b,0,none⟩=false/\W.frozen? ⟨b,1,none⟩=false :=
 Spn.aG h
theorem nM {w w2:World}{p q:Value}(h:aB w2 b t #[p,q])(hB:Below w.heap.size w w2)(hb:w.heap.size<=b)(x y:Int) :
  ((w2.setCell ⟨b,0,none⟩ (.int .i64 x)).setCell ⟨b,1,none⟩ (.int .i64 y)).cell? ⟨b,0,none⟩=some (.int .i64 x)/\((w2.setCell ⟨b,0,none⟩ (.int .i64 x)).setCell ⟨b,1,none⟩ (.int .i64 y)).cell? ⟨b,1,none⟩=some (.int .i64 y) /\
  Below w.heap.size w ((w2.setCell ⟨b,0,none⟩ (.int .i64 x)).setCell ⟨b,1,none⟩ (.int .i64 y)) :=
 Spn.aI h hB hb x y
theorem aMv {r:Nat}{cs:Array Value}(h:aB W b t cs)(hr:b≠r)(x y:Value):aB ((W.setCell ⟨r,0,none⟩ x).setCell ⟨r,1,none⟩ y) b t cs:=(h.other (p:=⟨r,0,none⟩) hr x).other (p:=⟨r,1,none⟩) hr y
theorem set2 {p q:Value}(h:aB W b t #[p,q])(x y:Value):aB ((W.setCell ⟨b,0,none⟩ x).setCell ⟨b,1,none⟩ y) b t #[x,y]:=(h.set 0 x).set 1 y
theorem aEs (f d:Int)(n:Nd)(hm:Knd.May f d)(v:Value)(hv:∃ a k c,v=.slice a k c)(h:n.op=1\/n.op=2\/n.op=3)(BS:List Int)(S:dM)(W:World) :
  Calls Tryz.prog 117 #[.agg (bX f d),.agg (dY n),v] W fun e W'=>e=.returned (Spn.spV (qX f d BS S n))/\Below W.heap.size W W':=by
 obtain⟨a,kk,c,rfl⟩:=hv
 obtain⟨o,pa,pb,pc,pk,back,co,x,y⟩:=n
 simp only at h
 have hb1:=aC W (.cells (bX f d) 23)
 have hb2:=bel hb1 (aC (W.alloc (.cells (bX f d) 23)) (.cells (dY ⟨o,pa,pb,pc,pk,back,co,x,y⟩) 93))
 have hb3:=bel hb2 (aC ((W.alloc (.cells (bX f d) 23)).alloc (.cells (dY ⟨o,pa,pb,pc,pk,back,co,x,y⟩) 93)) (.cells #[.int .i64 0,.int .i64 0] 74))
 have HB0:=aA hb3
 have HBk:=aA hb2
 have HK0:=aA (((aB.new W 23 (bX f d)).alloc (.cells (dY ⟨o,pa,pb,pc,pk,back,co,x,y⟩) 93)).alloc (.cells #[.int .i64 0,.int .i64 0] 74))
 have HR0:Hid (aB (((W.alloc (.cells (bX f d) 23)).alloc (.cells (dY ⟨o,pa,pb,pc,pk,back,co,x,y⟩) 93)).alloc (.cells #[.int .i64 0,.int .i64 0] 74)) (W.heap.size+1+1) 74 #[.int .i64 0,.int .i64 0]):=by
  have:=aB.new ((W.alloc (.cells (bX f d) 23)).alloc (.cells (dY ⟨o,pa,pb,pc,pk,back,co,x,y⟩) 93)) 74 #[.int .i64 0,.int .i64 0]
  simp only[World.size_alloc] at this
  exact aA this
 clear hb1 hb2 hb3
 rcases h with rfl|rfl|rfl
 ·rw[show qX f d BS S ⟨1,pa,pb,pc,pk,back,co,x,y⟩=((pk,pk),0) from rfl]
  go_enter Tryz.func117,Tryz.ntmps117
  go_wp2
  exact bodyPost_ret (v:=.tuple #[.agg #[.int .i64 pk,.int .i64 pk],.int .i64 0]) (by simp[results,Tryz.results117,go_sem]) rfl ⟨rfl,bel HBk.o (aC _ _)⟩
 ·rw[show qX f d BS S ⟨2,pa,pb,pc,pk,back,co,x,y⟩=((Knd.fM f d pk).getD (0,0),0) from rfl]
  have HI:=aA fun w=>Knd.fQ f d pk w
  unfold Knd.qE at HI
  obtain⟨⟨lo,hi⟩,hp⟩:∃ p,(Knd.fM f d pk).getD (0,0)=p:=⟨_,rfl⟩
  rw[hp] at HI ⊢
  generalize (Knd.fM f d pk).isSome=q at HI
  clear hp
  go_enter Tryz.func117,Tryz.ntmps117
  go_wp2_with fail
  refine(HI.o _).mono ?_
  rintro e V1 ⟨rfl,hb⟩
  have HB1:=aA (bel HB0.o hb)
  have hz:=(HR0.o.below hb).lt
  obtain⟨-,-,hB⟩:=nM (HR0.o.below hb) HB1.o (by omega) lo hi
  have h3:=(set2 (HR0.o.below hb) (.int .i64 lo) (.int .i64 hi)).alloc (.cells #[.int .i64 lo,.int .i64 hi] 74)
  have r0:=h3.cell 0 rfl
  have r1:=h3.cell 1 rfl
  have HB2:=aA (bel hB (aC _ (.cells #[.int .i64 lo,.int .i64 hi] 74)))
  have HR2:=aA r0
  have HR3:=aA r1
  clear r0 r1 h3 hB
  obtain⟨c0,c1,c2,c3⟩:=aQ (HR0.o.below hb)
  clear hb
  go_wp2_with fail
  have r0:=HR2.o
  have r1:=HR3.o
  exact bodyPost_ret (v:=.tuple #[.agg #[.int .i64 lo,.int .i64 hi],.int .i64 0]) (by simp only[results,Tryz.results117];simp[go_sem,r0,r1]) rfl ⟨rfl,HB2.o⟩
 ·rw[show qX f d BS S ⟨3,pa,pb,pc,pk,back,co,x,y⟩=((Knd.dR f d,Knd.bH f d),0) from rfl]
  have HLo:=aA fun w=>Knd.nL f d w
  have HHi:=aA fun w=>Knd.kN f d w
  generalize Knd.dR f d=lo at *
  generalize Knd.bH f d=hi at *
  have x0:=HK0.o.cell 0 rfl
  have y0:=HK0.o.cell 1 rfl
  go_enter Tryz.func117,Tryz.ntmps117
  go_wp2_with fail
  obtain⟨W0,hW0⟩:∃ W0,(((W.alloc (.cells (bX f d) 23)).alloc (.cells (dY ⟨3,pa,pb,pc,pk,back,co,x,y⟩) 93)).alloc (.cells #[.int .i64 0,.int .i64 0] 74))=W0:=⟨_,rfl⟩
  rw[hW0] at HR0 HK0 HB0 x0 y0 ⊢
  clear hW0
  have HRd:Hid (aB W0.drew (W.heap.size+1+1) 74 #[.int .i64 0,.int .i64 0]):=HR0.o
  have HKd:Hid (aB W0.drew W.heap.size 23 (bX f d)):=HK0.o
  have HBd:=aA HB0.o.drew
  go_region_held3 (fun w'=>w'.cell? ⟨W.heap.size,0,none⟩=some (.int .i64 f)/\w'.cell? ⟨W.heap.size,1,none⟩=some (.int .i64 d))
   (first|exact⟨x0,y0⟩|exact⟨x3,y3⟩|exact⟨x4,y4⟩|exact⟨(aMv HK4.o (by omega) _ _).cell 0 rfl,(aMv HK4.o (by omega) _ _).cell 1 rfl⟩|go_keep)
   ((first
    | (go_at_call 57;refine(HLo.o _).mono ?_;rintro e w3 ⟨rfl,hb3⟩;have HR3:=aA (HRd.o.below hb3);have HK3:=aA (HKd.o.below hb3);have HB3:=aA (bel HBd.o hb3);clear hb3;obtain⟨x3,y3,-,-⟩:=aQ HK3.o)
    | (go_at_call 58;refine(HHi.o _).mono ?_;rintro e w4 ⟨rfl,hb4⟩;have HR4:=aA (HR3.o.below hb4);have HK4:=aA (HK3.o.below hb4);have HB4:=aA (bel HB3.o hb4);clear hb4;obtain⟨x4,y4,-,-⟩:=aQ HK4.o;obtain⟨g0,g1,g2,g3⟩:=aQ HR4.o)))
  all_goals
   obtain⟨r0,r1,hB⟩:=nM HR4.o HB4.o (by omega) lo hi
   go_wp2
   exact bodyPost_ret (v:=.tuple #[.agg #[.int .i64 lo,.int .i64 hi],.int .i64 0]) (by simp[results,Tryz.results117,go_sem,r0,r1]) rfl ⟨rfl,hB⟩
theorem aJs (f d:Int)(n:Nd){BS:List Int}{i sl sc:Nat}{a:Option Addr}{S:dM}(hn:Wn BS i n)(h5:5<=n.op)(hS:Spn.Spans W a sl sc S)(hi:i<=sl) :
  Calls Tryz.prog 117 #[.agg (bX f d),.agg (dY n),.slice a sl sc] W fun e W'=>e=.returned (Spn.spV (qX f d BS S n))/\Below W.heap.size W W':=by
 obtain⟨k,hk⟩:∃ k:Nat,gN n.op=k:=⟨(gN n.op).toNat,by have:=hn.pr;omega⟩
 have h3:k<=3:=by
  have:gN n.op<=3:=by unfold gN mE;repeat' split <;> omega
  omega
 have har:mE n.op=k:=by rw[hn.ar (by omega),hk]
 have hsl:sl<=9223372036854775807:=by have:=hS.le;have:=hS.max;unfold maxLen at *;omega
 rw[show qX f d BS S n=Spn.ofZ n.op 0 0 ((bV n).map fun p=>S.getD p.toNat (0,0)) by unfold qX;rw[if_neg (by omega),if_neg (by omega),if_neg (by omega),if_neg (by omega)]]
 have HPt:=aA fun j hj=>aCb (n:=n) (j:=j) hk h3 hj
 have HPl:=aA (sQ hk h3)
 have HPr:=aA hn.prt
 have HSg:=aA fun j hj=>aRu (S:=S) (n:=n) (k:=j) hj
 obtain⟨L,hL⟩:∃ L,((bV n).map fun p=>S.getD p.toNat (0,0))=L:=⟨_,rfl⟩
 have HLl:Hid (L.length=k):=aA (by rw[<-hL,List.length_map,HPl.o])
 rw[hL] at HSg ⊢
 have HPO:=aA fun w=>uW n k har h3 w
 have q1:(n.op==1)=false:=by simp;omega
 have q2:(n.op==2)=false:=by simp;omega
 have q3:(n.op==3)=false:=by simp;omega
 have hb1:=aC W (.cells (bX f d) 23)
 have hb2:=bel hb1 (aC (W.alloc (.cells (bX f d) 23)) (.cells (dY n) 93))
 have hb3:=bel hb2 (aC ((W.alloc (.cells (bX f d) 23)).alloc (.cells (dY n) 93)) (.cells #[.int .i64 0,.int .i64 0] 74))
 have HB0:=aA hb3
 have HN0:Hid (aB (((W.alloc (.cells (bX f d) 23)).alloc (.cells (dY n) 93)).alloc (.cells #[.int .i64 0,.int .i64 0] 74)) (W.heap.size+1) 93 (dY n)):=by
  have:=(aB.new (W.alloc (.cells (bX f d) 23)) 93 (dY n)).alloc (.cells #[.int .i64 0,.int .i64 0] 74)
  simp only[World.size_alloc] at this
  exact aA this
 have HR0:Hid (aB (((W.alloc (.cells (bX f d) 23)).alloc (.cells (dY n) 93)).alloc (.cells #[.int .i64 0,.int .i64 0] 74)) (W.heap.size+1+1) 74 #[.int .i64 0,.int .i64 0]):=by
  have:=aB.new ((W.alloc (.cells (bX f d) 23)).alloc (.cells (dY n) 93)) 74 #[.int .i64 0,.int .i64 0]
  simp only[World.size_alloc] at this
  exact aA this
 have HS0:=aA (hS.later hb3)
 clear hb1 hb2 hb3 hS hL har hk hn h5
 go_enter Tryz.func117,Tryz.ntmps117
 go_wp2_with fail
 refine(HPO.o _).mono ?_
 rintro e V1 ⟨g,rfl,-,hG,hb⟩
 have HG:=aA hG
 have HR1:=aA (HR0.o.below hb)
 have HN1:=aA (HN0.o.below hb)
 have HB1:=aA (bel HB0.o hb)
 have HS1:=aA (HS0.o.later hb)
 have hgl:=hG.lt
 clear hG hb HR0 HN0 HB0 HS0 HPO
 go_wp2_with fail
 go_loopw [10,42] (fun v i wr=>∃ j:Nat,j<=k/\i=.int .i64 j/\Hid (Spn.Es V1 wr v j (L.take j))) (fun _ i _=>k-(intOf i).toNat)
 case atStart=>exact⟨0,Nat.zero_le _,rfl,aA (Spn.Es.start V1)⟩
 case round =>
  obtain⟨j,hj,rfl,HE⟩:=hrel
  rename World=>V
  by_cases hlt:j < k
  ·have cp:=(HG.o.below HE.o.bel).cell j (HPt.o j hlt).1
   obtain⟨p0,p1⟩:=HPr.o _ (HPt.o j hlt).2
   have HT:=aA (HSg.o j (by rw[HPl.o];exact hlt))
   obtain⟨q,hq⟩:∃ q:Nat,(bV n).getD j 0=(q:Int):=⟨((bV n).getD j 0).toNat,by omega⟩
   rw[hq] at cp p1 HT
   simp only[Int.toNat_natCast] at p1 HT
   obtain⟨b,off,rfl,-,hcs⟩:=(HS1.o.later HE.o.bel).at (by omega)
   obtain⟨s0,s1⟩:=hcs q (by omega)
   generalize S.getD q (0,0)=sv at *
   obtain⟨lo,hi2⟩:=sv
   simp only at s0 s1
   have j0:(0:Int)<=j:=by omega
   have j1:(j:Int) < k:=by omega
   have j2:(j:Int) < 3:=by omega
   have i0:(0:Int)<=q:=by omega
   have i1:(q:Int) < sl:=by omega
   clear hcs p0 p1 hq
   go_wp2_with (at_builtin;refine Spn.aAe (w:=V1) (L:=L.take j) rfl _ _ rfl rfl (HE.o.alloc _) _ lo hi2 rfl (Spn.aB.new _ _ _) (by omega) ?_;intro g2 cap2 w2 HE2 hsz)
   go_roundw
   case rel=>exact⟨j+1,by omega,by go_num,aA (by rw[HT.o];exact HE2)⟩
   case measure=>simp[intOf];omega
  ·obtain rfl:j=k:=by omega
   have e:L.take j=L:=List.take_of_length_le (by rw[HLl.o];exact Nat.le_refl _)
   have HE1:=HE.o
   rw[e] at HE1
   obtain⟨va,vc,rfl,hA⟩:=Spn.Spans.of_owns HE1.a HLl.o
   have HOf:=aA (Spn.aMo n.op 0 0 _ _ _ _ _ hA)
   have HR2:=aA (HR1.o.below HE1.bel)
   have HB2:=aA (bel HB1.o HE1.bel)
   have x0:=(HN1.o.below HE1.bel).cell 0 rfl
   obtain⟨⟨⟨lo,hi2⟩,er⟩,hZ⟩:∃ Z,Spn.ofZ n.op 0 0 L=Z:=⟨_,rfl⟩
   rw[hZ] at HOf
   have HZ:=aA hZ
   clear hZ hA e HE HE1
   go_wp2_with fail
   refine HOf.o.mono ?_
   rintro e V2 ⟨rfl,hb⟩
   have HR3:=aA (HR2.o.below hb)
   have HB3:=aA (bel HB2.o hb)
   obtain⟨g0,g1,g2,g3⟩:=aQ HR3.o
   clear hb
   go_wp2_with fail
   obtain⟨r0,r1,hB⟩:=nM HR3.o HB3.o (by omega) lo hi2
   exact bodyPost_ret (v:=.tuple #[.agg #[.int .i64 lo,.int .i64 hi2],.int .i64 er]) (by simp[results,Tryz.results117,go_sem,r0,r1]) rfl ⟨by rw[HZ.o],hB⟩
end Go.Proofs.YtihbhbeaihdgnaaGreat
