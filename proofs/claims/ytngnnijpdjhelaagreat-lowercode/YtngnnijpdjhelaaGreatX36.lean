import Derived.Test.YtngnnijpdjhelaaGreatX35
import Derived.Test.YtngnnijpdjhelaaGreatX10
import Derived.Test.YtngnnijpdjhelaaGreatX02
namespace Go.Proofs.YtngnnijpdjhelaaGreat
open Lx Pz
set_option linter.unusedVariables false
set_option maxRecDepth 100000
set_option maxHeartbeats 16000000
structure Dec (NM:List Txt)(BS:List Int)(NS:List Nd)(root:Int)(es:List E)(ex:E):Prop where
 nodes:NS=flL es 0++ex.flat (szL es)
 binds:BS=bdL es 0
 names:NM.length=es.length
 gd:∀ j e,es[j]?=some e->Gd j e
 gx:Gd es.length ex
 ok:nmB NM=true
 root:root=(NS.length:Int)-1
 few:NS.length<=1024
theorem chk_dec {NM:List Txt}{BS:List Int}{NS:List Nd}{root:Int}:chkP NM BS NS root=true↔∃ es ex,Dec NM BS NS root es ex:=by
 constructor
 ·intro h
  simp only[chkP,Bool.and_eq_true,beq_iff_eq] at h
  obtain⟨h1,h2,h3,h4⟩:=h
  simp only[endsP,wthn,Bool.and_eq_true,decide_eq_true_eq,beq_iff_eq] at h2
  obtain⟨es,ex,e1,e2,e3,e4⟩:=ord_good.1 h3
  refine⟨es,ex,e1,e2,?_,e3,e4,h4,h2.2,by omega⟩
  rw[h1,e2,bdL_len]
 ·rintro⟨es,ex,h⟩
  simp only[chkP,Bool.and_eq_true,beq_iff_eq]
  refine⟨by rw[h.names,h.binds,bdL_len],?_,ord_good.2 ⟨es,ex,h.nodes,h.binds,h.gd,h.gx⟩,h.ok⟩
  simp only[endsP,wthn,Bool.and_eq_true,decide_eq_true_eq,beq_iff_eq]
  have:=h.few
  have h2:1<=NS.length:=by rw[h.nodes,List.length_append,E.flat_len];have:=ex.size_pos;omega
  exact⟨⟨by omega,by omega⟩,h.root⟩
def prts (n:Nd):List Int:=[n.a,n.b,n.c].take (prZ n.op).toNat
abbrev Sps:=List (Int × Int)
abbrev plOf (n:Nd):Knd.Plc:=⟨n.back,n.co,n.x,n.y⟩
def spN (f d:Int)(BS:List Int)(S:Sps)(n:Nd):(Int × Int) × Int :=
 if n.op=4 then(S.getD (BS.getD n.k.toNat 0).toNat (0,0),0) else
 if n.op=1 then((n.k,n.k),0) else
 if n.op=2 then((Knd.inZ f d n.k).getD (0,0),0) else
 if n.op=3 then((Knd.lowZ f d,Knd.highZ f d),0) else
 Spn.ofZ n.op 0 0 ((prts n).map fun p=>S.getD p.toNat (0,0))
def spR (f d:Int)(BS:List Int):List Nd->Sps->Sps × Int
 | [],S=>(S,0)
 | n::NS,S=>if (spN f d BS S n).2=0 then spR f d BS NS (S++[(spN f d BS S n).1]) else([],(spN f d BS S n).2)
def dpN (BS:List Int)(D:List Int)(n:Nd):Int :=
 if n.op=4 then D.getD (BS.getD n.k.toNat 0).toNat 0 else((prts n).map fun p=>D.getD p.toNat 0).foldl max 0+1
def dpR (BS:List Int):List Nd->List Int->List Int
 | [],D=>D
 | n::NS,D=>dpR BS NS (D++[dpN BS D n])
def coZ (o:Int):Int:=if o=4 then 0 else if o=11 then 4 else if o=12 then 6 else 1
def coR (NS:List Nd):Int:=NS.foldl (fun s n=>s+coZ n.op) 0
def mxR (D:List Int):Int:=D.foldl max 0
def ahB (f d:Int)(n:Nd):Bool:=n.op==3&&(Knd.numZ f d (plOf n)).isNone
def ckE (f d:Int)(NM:List Txt)(BS:List Int)(NS:List Nd)(root:Int):Int :=
 if ¬Knd.May f d then 1 else if chkP NM BS NS root=false then 3 else if NS.any (ahB f d)=true then 11 else if (spR f d BS NS []).2≠0 then(spR f d BS NS []).2 else
 if 200 < coR NS\/24 < mxR (dpR BS NS []) then 14 else 0
structure Wn (BS:List Int)(i:Nat)(n:Nd):Prop where
 lo:1<=n.op
 hi:n.op<=28
 pr:0<=prZ n.op
 ar:n.op≠4->arZ n.op=prZ n.op
 use:n.op=4->0<=n.k/\n.k.toNat < BS.length/\0<=BS.getD n.k.toNat 0/\(BS.getD n.k.toNat 0).toNat < i
 prt:∀ p ∈ prts n,0<=p/\p.toNat < i
 num:n.op=1->0<=n.k/\n.k<=2147483647
 inp:n.op=2->0<=n.k/\n.k<=5
 wf:(plOf n).wf
def Wl (BS:List Int):Nat->List Nd->Prop
 | _,[]=>True
 | i,n::r=>Wn BS i n/\Wl BS (i+1) r
theorem wl_app (BS:List Int):∀(A B:List Nd) (i:Nat),Wl BS i (A++B)↔Wl BS i A/\Wl BS (i+A.length) B
 | [],B,i=>by simp[Wl]
 | n::A,B,i=>by
  simp only[List.cons_append,Wl,List.length_cons]
  rw[wl_app BS A B (i+1),show i+1+A.length=i+(A.length+1) by omega]
  constructor
  ·rintro⟨a,b,c⟩;exact⟨⟨a,b⟩,c⟩
  ·rintro⟨⟨a,b⟩,c⟩;exact⟨a,b,c⟩
theorem wl_at {BS:List Int}:∀ {NS:List Nd} {s i:Nat},Wl BS s NS->i < NS.length->Wn BS (s+i) (NS.getD i n0)
 | [],s,i,h,hi=>by simp at hi
 | n::NS,s,0,h,hi=>by simpa using h.1
 | n::NS,s,i+1,h,hi=>by
  have:=wl_at (i:=i) h.2 (by simpa using hi)
  rw[show s+1+i=s+(i+1) by omega] at this
  simpa using this
theorem pr_zero {o:Int}(h:prZ o=0):o=1\/o=2\/o=3\/o=4:=by
 unfold prZ arZ at h
 repeat' split at h
 all_goals omega
theorem pr_pos {o:Int}(h:0 < prZ o):5<=o/\o<=28/\arZ o=prZ o:=by
 have h0:=h
 unfold prZ at h
 split at h
 ·omega
 ·split at h
  ·omega
  ·rename_i h1 h2
   refine⟨?_,by omega,by unfold prZ;rw[if_neg h1,if_neg h2]⟩
   unfold arZ at h
   repeat' split at h
   all_goals omega
theorem ar_same (o:Int):Spn.ar o=arZ o:=by
 unfold Spn.ar arZ Spn.inB
 by_cases h1:o=1\/o=2\/o=3
 ·rw[if_pos h1,if_pos h1]
 rw[if_neg h1,if_neg h1]
 by_cases h2:5<=o/\o<=7
 ·rw[if_pos (.inl (by simp;omega)),if_pos h2]
 by_cases h3:29<=o/\o<=33
 ·rw[if_pos (.inr (by simp;omega)),if_neg h2,if_pos h3]
 rw[if_neg (by simp;omega),if_neg h2,if_neg h3]
 by_cases h4:8<=o/\o<=25
 ·rw[if_pos (by simp;omega),if_pos h4]
 rw[if_neg (by simp;omega),if_neg h4]
 by_cases h5:26<=o/\o<=28
 ·rw[if_pos (by simp;omega),if_pos h5]
 rw[if_neg (by simp;omega),if_neg h5]
theorem wn_leaf {BS:List Int}{bd i:Nat}{n:Nd}(h:Gd bd (.leaf n))(hb:bd<=BS.length)(hu:∀ k,k < bd->0<=BS.getD k 0/\(BS.getD k 0).toNat < i):Wn BS i n:=by
 obtain⟨h1,h2,h3,h4,h5⟩:=h
 have hp:prts n=[]:=by unfold prts;rw[h4];rfl
 unfold fldP at h5
 have hw:(plOf n).wf:=by
  unfold Knd.Plc.wf Knd.wf64 plOf
  dsimp only
  split at h5
  ·simp only[mayP,wthn,MX,Bool.and_eq_true,decide_eq_true_eq,beq_iff_eq,Bool.or_eq_true] at h5
   omega
  ·simp only[plc0,Bool.and_eq_true,beq_iff_eq] at h5
   obtain⟨⟨⟨⟨a,b⟩,c⟩,e⟩,-⟩:=h5
   simp only[a,b,c,e]
   omega
 have hk:n.op≠3->0<=n.k/\n.k<=mostZ n.op bd:=by
  intro h
  rw[if_neg h] at h5
  simp only[wthn,Bool.and_eq_true,decide_eq_true_eq] at h5
  exact h5.2
 refine⟨by have:=pr_zero h4;omega,by have:=pr_zero h4;omega,by omega,fun h=>?_,fun h=>?_,by rw[hp];simp,fun h=>?_,fun h=>?_,hw⟩
 ·rcases pr_zero h4 with e|e|e|e
  ·rw[h4,e];rfl
  ·rw[h4,e];rfl
  ·rw[h4,e];rfl
  ·exact absurd e h
 ·obtain⟨a,b⟩:=hk (by omega)
  rw[h] at b
  have e:mostZ 4 bd=(bd:Int)-1:=rfl
  rw[e] at b
  have:=hu n.k.toNat (by omega)
  exact⟨a,by omega,this.1,this.2⟩
 ·obtain⟨a,b⟩:=hk (by omega)
  rw[h] at b
  have e:mostZ 1 bd=2147483647:=rfl
  rw[e] at b
  exact⟨a,b⟩
 ·obtain⟨a,b⟩:=hk (by omega)
  rw[h] at b
  have e:mostZ 2 bd=5:=rfl
  rw[e] at b
  exact⟨a,b⟩
theorem wn_in {BS:List Int}{i:Nat}{o a b c:Int}(h:0 < prZ o)(hp:∀ p ∈ [a,b,c].take (prZ o).toNat,0<=p/\p.toNat < i):Wn BS i ⟨o,a,b,c,0,0,0,0,0⟩:=by
 obtain⟨h1,h2,h3⟩:=pr_pos h
 refine⟨?_,h2,?_,fun _=>h3,fun e=>?_,hp,fun e=>?_,fun e=>?_,?_⟩
 ·show (1:Int)<=o;omega
 ·show 0<=prZ o;omega
 ·exfalso;have:o=4:=e;omega
 ·exfalso;have:o=1:=e;omega
 ·exfalso;have:o=2:=e;omega
 ·unfold Knd.Plc.wf Knd.wf64 plOf;simp only;omega
theorem wl_e {BS:List Int}{bd:Nat}(hb:bd<=BS.length):∀(e:E) (s:Nat),Gd bd e->(∀ k,k < bd->0<=BS.getD k 0/\(BS.getD k 0).toNat < s)->Wl BS s (e.flat s)
 | .leaf n,s,h,hu=>⟨wn_leaf h hb hu,trivial⟩
 | .un o a,s,h,hu=>by
  have h1:=a.size_pos
  rw[E.flat,wl_app,E.flat_len]
  refine⟨wl_e hb a s h.2 hu,wn_in (by rw[h.1];decide) ?_,trivial⟩
  rw[h.1]
  simp only[show ((1:Int)).toNat=1 from rfl,List.take_succ_cons,List.take_zero,List.mem_cons,List.not_mem_nil,or_false,forall_eq]
  omega
 | .bin o a b,s,h,hu=>by
  have h1:=a.size_pos
  have h2:=b.size_pos
  rw[E.flat,wl_app,wl_app,List.length_append,E.flat_len,E.flat_len]
  refine⟨⟨wl_e hb a s h.2.1 hu,wl_e hb b _ h.2.2 fun k hk=>⟨(hu k hk).1,by have:=(hu k hk).2;omega⟩⟩,wn_in (by rw[h.1];decide) ?_,trivial⟩
  rw[h.1]
  simp only[show ((2:Int)).toNat=2 from rfl,List.take_succ_cons,List.take_zero,List.mem_cons,List.not_mem_nil,or_false,forall_eq_or_imp,forall_eq]
  omega
 | .tri o a b c,s,h,hu=>by
  have h1:=a.size_pos
  have h2:=b.size_pos
  have h3:=c.size_pos
  rw[E.flat,wl_app,wl_app,wl_app]
  simp only[List.length_append,E.flat_len]
  refine⟨⟨⟨wl_e hb a s h.2.1 hu,wl_e hb b _ h.2.2.1 fun k hk=>⟨(hu k hk).1,by have:=(hu k hk).2;omega⟩⟩,?_⟩,wn_in (by rw[h.1];decide) ?_,trivial⟩
  ·rw[show s+(a.size+b.size)=s+a.size+b.size by omega]
   exact wl_e hb c _ h.2.2.2 fun k hk=>⟨(hu k hk).1,by have:=(hu k hk).2;omega⟩
  ·rw[h.1]
   simp only[show ((3:Int)).toNat=3 from rfl,List.take_succ_cons,List.take_zero,List.mem_cons,List.not_mem_nil,or_false,forall_eq_or_imp,forall_eq]
   omega
theorem szL_take:∀(es:List E) (m:Nat),szL (es.take m)<=szL es
 | [],m=>by simp
 | a::es,0=>by simp[szL]
 | a::es,m+1=>by simp only[List.take_succ_cons,szL];have:=szL_take es m;omega
theorem bd_lt:∀(es:List E) (s k:Nat),k < es.length->0<=(bdL es s).getD k 0/\((bdL es s).getD k 0).toNat < s+szL (es.take (k+1))
 | [],s,k,h=>by simp at h
 | a::es,s,0,h=>by
  have:=a.size_pos
  simp only[bdL,List.getD_cons_zero,List.take_succ_cons,List.take_zero,szL]
  omega
 | a::es,s,k+1,h=>by
  have:=bd_lt es (s+a.size) k (by simpa using h)
  simp only[bdL,List.getD_cons_succ,List.take_succ_cons,szL]
  omega
theorem wl_L {BS:List Int}:∀(es pre:List E),BS=bdL (pre++es) 0->(∀ j e,es[j]?=some e->Gd (pre.length+j) e)->Wl BS (szL pre) (flL es (szL pre))
 | [],pre,h,hg=>trivial
 | a::es,pre,h,hg=>by
  have hl:BS.length=pre.length+(es.length+1):=by rw[h,bdL_len];simp
  rw[flL,wl_app,E.flat_len]
  constructor
  ·refine wl_e (bd:=pre.length) (by omega) a _ (by simpa using hg 0 a rfl) fun k hk=>?_
   have h1:=bd_lt (pre++a::es) 0 k (by simp;omega)
   rw[<-h,List.take_append_of_le_length (by omega)] at h1
   have h2:=szL_take pre (k+1)
   omega
  ·have:=wl_L (BS:=BS) es (pre++[a]) (by rw[h];simp) fun j e he=>by
    have:=hg (j+1) e (by simpa using he)
    simp only[List.length_append,List.length_cons,List.length_nil]
    rw[show pre.length+(0+1)+j=pre.length+(j+1) by omega]
    exact this
   rwa[szL_app,show szL [a]=a.size by simp[szL]] at this
theorem Dec.wl {NM:List Txt}{BS:List Int}{NS:List Nd}{root:Int}{es:List E}{ex:E}(h:Dec NM BS NS root es ex):Wl BS 0 NS:=by
 rw[h.nodes,wl_app,flL_len,Nat.zero_add]
 constructor
 ·have:=wl_L (BS:=BS) es [] (by simpa using h.binds) (by simpa using h.gd)
  simpa [szL] using this
 ·refine wl_e (bd:=es.length) (by rw[h.binds,bdL_len];exact Nat.le_refl _) ex _ h.gx fun k hk=>?_
  have h1:=bd_lt es 0 k hk
  rw[<-h.binds] at h1
  have h2:=szL_take es (k+1)
  omega
theorem spR_app (f d:Int)(BS:List Int):∀(A B:List Nd) (S:Sps),spR f d BS (A++B) S=if (spR f d BS A S).2=0 then spR f d BS B (spR f d BS A S).1 else([],(spR f d BS A S).2)
 | [],B,S=>by simp[spR]
 | n::A,B,S=>by
  simp only[List.cons_append,spR]
  split
  ·exact spR_app f d BS A B _
  ·rfl
theorem spR_len {f d:Int}{BS:List Int}:∀ {A:List Nd} {S T:Sps},spR f d BS A S=(T,0)->T.length=S.length+A.length
 | [],S,T,h=>by cases h;rfl
 | n::A,S,T,h=>by
  simp only[spR] at h
  split at h
  ·have:=spR_len h
   simp only[List.length_append,List.length_cons,List.length_nil] at this ⊢
   omega
  ·rename_i h1;exact absurd (congrArg Prod.snd h) h1
theorem spR_snoc {f d:Int}{BS:List Int}{A:List Nd}{n:Nd}{S T:Sps}(h:spR f d BS A S=(T,0)):spR f d BS (A++[n]) S=if (spN f d BS T n).2=0 then(T++[(spN f d BS T n).1],0) else([],(spN f d BS T n).2):=by
 rw[spR_app,h];simp only[spR,if_true]
theorem spR_bad {f d:Int}{BS:List Int}{A B:List Nd}{S T:Sps}{e:Int}(h:spR f d BS A S=(T,e))(he:e≠0):spR f d BS (A++B) S=([],e):=by
 rw[spR_app,h];exact if_neg he
theorem dpR_app (BS:List Int):∀(A B:List Nd) (D:List Int),dpR BS (A++B) D=dpR BS B (dpR BS A D)
 | [],B,D=>rfl
 | n::A,B,D=>dpR_app BS A B _
theorem dpR_len (BS:List Int):∀(A:List Nd) (D:List Int),(dpR BS A D).length=D.length+A.length
 | [],D=>rfl
 | n::A,D=>by rw[dpR,dpR_len BS A];simp;omega
theorem fold_max_le:∀(L:List Int) (a m:Int),a<=m->(∀ x ∈ L,x<=m)->L.foldl max a<=m
 | [],a,m,h,_=>h
 | x::L,a,m,h,hl=>fold_max_le L _ m (by have:=hl x (by simp);omega) fun y hy=>hl y (by simp[hy])
theorem le_fold_max:∀(L:List Int) (a:Int),a<=L.foldl max a
 | [],a=>Int.le_refl _
 | x::L,a=>Int.le_trans (Int.le_max_left a x) (le_fold_max L _)
theorem mem_fold_max:∀(L:List Int) (a x:Int),x ∈ L->x<=L.foldl max a
 | y::L,a,x,h=>by
  rcases List.mem_cons.1 h with rfl|h
  ·exact Int.le_trans (Int.le_max_right a x) (le_fold_max L _)
  ·exact mem_fold_max L _ x h
def Db (D:List Int):Prop:=∀ x ∈ D,1<=x/\x<=D.length
theorem Db.at {D:List Int}(h:Db D){i:Nat}(hi:i < D.length):1<=D.getD i 0/\D.getD i 0<=D.length:=by
 rw[List.getD_eq_getElem?_getD,List.getElem?_eq_getElem hi]
 exact h _ (List.getElem_mem hi)
theorem dpN_in {BS D:List Int}{n:Nd}(h:Db D)(hn:Wn BS D.length n):1<=dpN BS D n/\dpN BS D n<=D.length+1:=by
 unfold dpN
 split
 ·rename_i h4
  obtain⟨-,-,-,h2⟩:=hn.use h4
  have:=h.at h2
  omega
 ·have h1:=le_fold_max ((prts n).map fun p=>D.getD p.toNat 0) 0
  have h2:=fold_max_le ((prts n).map fun p=>D.getD p.toNat 0) 0 D.length (by omega) fun x hx=>by
   obtain⟨p,hp,rfl⟩:=List.mem_map.1 hx
   exact(h.at (hn.prt p hp).2).2
  omega
theorem Db.snoc {BS D:List Int}{n:Nd}(h:Db D)(hn:Wn BS D.length n):Db (D++[dpN BS D n]):=by
 have h1:=dpN_in h hn
 intro x hx
 simp only[List.length_append,List.length_cons,List.length_nil]
 rcases List.mem_append.1 hx with hx|hx
 ·have:=h x hx;omega
 ·simp at hx;subst hx;omega
theorem Db.all {BS:List Int}:∀ {A:List Nd} {D:List Int},Db D->Wl BS D.length A->Db (dpR BS A D)
 | [],D,h,_=>h
 | n::A,D,h,hw=>by
  rw[dpR]
  exact Db.all (h.snoc hw.1) (by simpa using hw.2)
theorem coR_from:∀(A:List Nd) (a:Int),A.foldl (fun s n=>s+coZ n.op) a=a+coR A
 | [],a=>by simp[coR]
 | n::A,a=>by
  rw[List.foldl_cons,coR_from A]
  show a+coZ n.op+coR A=a+(n::A).foldl (fun s n=>s+coZ n.op) 0
  rw[List.foldl_cons,coR_from A]
  omega
theorem coR_snoc (A:List Nd)(n:Nd):coR (A++[n])=coR A+coZ n.op:=by
 unfold coR;rw[List.foldl_append];rfl
theorem coZ_in (o:Int):0<=coZ o/\coZ o<=6:=by unfold coZ;repeat' split <;> omega
theorem coR_in (A:List Nd):0<=coR A/\coR A<=6*A.length:=by
 induction A with
 | nil=>simp[coR]
 | cons n A ih =>
  have:=coZ_in n.op
  rw[coR,List.foldl_cons,coR_from]
  simp only[List.length_cons]
  omega
theorem take_snoc {α:Type}(z:α){L:List α}{k:Nat}(h:k < L.length):L.take (k+1)=L.take k++[L.getD k z]:=by
 rw[List.take_add_one,List.getElem?_eq_getElem h,List.getD_eq_getElem?_getD,List.getElem?_eq_getElem h]
 rfl
end Go.Proofs.YtngnnijpdjhelaaGreat
namespace Go.Proofs.YtngnnijpdjhelaaGreat
open Go.RowKit Go.IntWalk Lx Pz
set_option linter.unusedVariables false
set_option maxRecDepth 100000
set_option maxHeartbeats 16000000
abbrev ab3 (n:Nd):Array Value:=#[.int .i64 n.a,.int .i64 n.b,.int .i64 n.c]
def PaP (w:World)(n:Nd)(k:Nat)(e:Ending)(W':World):Prop:=∃ g,e=.returned (.slice (some ⟨g,0,none⟩) k 3)/\w.heap.size<=g/\HasC W' g 3 (ab3 n)/\Below w.heap.size w W'
theorem partsOf_any (n:Nd)(k:Nat)(hk:arZ n.op=(k:Int))(h3:k<=3)(w:World):Calls Tryz.prog 66 #[.agg (ndA n)] w (PaP w n k):=by
 have HA:=hide fun W=>arity_any n.op W
 rw[hk] at HA
 have HB:=hide (bel1 w (.cells (ndA n) 65))
 obtain⟨f0,f1,f2,f3,f4,f5,f6,f7,f8⟩:=(HasC.new w 65 (ndA n)).nine
 have hz:w.heap.size < (w.alloc (.cells (ndA n) 65)).heap.size:=by simp
 clear hk
 have hk0:(0:Int)<=k:=by omega
 have hk1:(k:Int)<=3:=by omega
 go_enter Tryz.func66,Tryz.ntmps66
 go_wp2_with fail
 go_region_held3 (fun w'=>w'.cell? ⟨w.heap.size,0,none⟩=some (.int .i64 n.op)/\w'.cell? ⟨w.heap.size,1,none⟩=some (.int .i64 n.a)/\w'.cell? ⟨w.heap.size,2,none⟩=some (.int .i64 n.b)/\w'.cell? ⟨w.heap.size,3,none⟩=some (.int .i64 n.c))
  (first|exact⟨f0,f1,f2,f3⟩|go_keep)
  ((first
   | (go_at_call 40;refine(HA.out _).mono ?_;rintro e w2 ⟨rfl,rfl⟩)))
 all_goals
  go_wp2
  go_ret
  have h5:=HasC.new (w.alloc (.cells (ndA n) 65)) 3 (ab3 n)
  rw[World.size_alloc] at h5
  exact⟨w.heap.size+1,rfl,Nat.le_succ _,h5,(HB.out.alloc HB.out.size _).drew⟩
abbrev kdA (f d:Int):Array Value:=#[.int .i64 f,.int .i64 d]
def mayE (f d:Int)(NM:List Txt)(BS:List Int)(NS:List Nd)(root:Int):Int :=
 if ¬Knd.May f d then 1 else if chkP NM BS NS root=false then 3 else if NS.any (ahB f d)=true then 11 else 0
theorem any_snoc {f d:Int}{NS:List Nd}{k:Nat}(hk:k < NS.length)(h:(NS.take k).any (ahB f d)=false)(h2:ahB f d (NS.getD k n0)=false):(NS.take (k+1)).any (ahB f d)=false:=by
 rw[take_snoc n0 hk,List.any_append,h,List.any_cons,h2];rfl
theorem any_of {f d:Int}{NS:List Nd}{k:Nat}(hk:k < NS.length)(h2:ahB f d (NS.getD k n0)=true):NS.any (ahB f d)=true:=by
 rw[List.any_eq_true]
 refine⟨NS.getD k n0,?_,h2⟩
 rw[List.getD_eq_getElem?_getD,List.getElem?_eq_getElem hk]
 exact List.getElem_mem hk
theorem emay_any (f d:Int){W:World}{na ba da:Option Addr}{nl nc bl bc dl dc:Nat}{root:Int}{NM:List Txt}{BS:List Int}{NS:List Nd}(hX:Tx W na nl nc NM)(hB:Iz W ba bl bc BS)(hN:Nz W da dl dc NS)(hs:∀ s ∈ NM,s.length<=9223372036854775807) :
  Calls Tryz.prog 33 #[.agg (kdA f d),.agg (tr4 (.slice na nl nc) (.slice ba bl bc) (.slice da dl dc) (.int .i64 root))] W fun e W'=>e=.returned (.int .i64 (mayE f d NM BS NS root))/\Below W.heap.size W W':=by
 have hb1:=bel1 W (.cells (kdA f d) 23)
 have hb2:=bel hb1 (bel1 (W.alloc (.cells (kdA f d) 23)) (.cells (tr4 (.slice na nl nc) (.slice ba bl bc) (.slice da dl dc) (.int .i64 root)) 28))
 have HK0:=hide ((HasC.new W 23 (kdA f d)).alloc (.cells (tr4 (.slice na nl nc) (.slice ba bl bc) (.slice da dl dc) (.int .i64 root)) 28))
 have HT0:Hid (HasC ((W.alloc (.cells (kdA f d) 23)).alloc (.cells (tr4 (.slice na nl nc) (.slice ba bl bc) (.slice da dl dc) (.int .i64 root)) 28)) (W.heap.size+1) 28 (tr4 (.slice na nl nc) (.slice ba bl bc) (.slice da dl dc) (.int .i64 root))):=by
  have:=HasC.new (W.alloc (.cells (kdA f d) 23)) 28 (tr4 (.slice na nl nc) (.slice ba bl bc) (.slice da dl dc) (.int .i64 root))
  rw[World.size_alloc] at this
  exact hide this
 have HX:=hide (hX.later hb2)
 have HBI:=hide (hB.later hb2)
 have HNI:=hide (hN.later hb2)
 have HLN:=hide hN.len
 have HS:=hide hs
 have HB0:=hide hb2
 have hdl:dl<=9223372036854775807:=by have:=hN.le;have:=hN.max;unfold maxLen at *;omega
 clear hX hB hN hb1 hb2 hs
 by_cases hm:Knd.May f d
 ·have HCK:=hide fun w=>Knd.check_ok f d w hm
  cases hc:chkP NM BS NS root with
  | false =>
   rw[show mayE f d NM BS NS root=3 by unfold mayE;rw[if_neg (by simpa using hm),if_pos hc]]
   go_enter Tryz.func33,Tryz.ntmps33
   go_wp2_with fail
   refine(HCK.out _).mono ?_
   rintro e V1 ⟨rfl,hb⟩
   have HT1:=hide (HT0.out.below hb)
   obtain⟨t0,t1,t2,t3⟩:V1.cell? ⟨W.heap.size+1,0,none⟩=some (.slice na nl nc)/\V1.cell? ⟨W.heap.size+1,1,none⟩=some (.slice ba bl bc)/\V1.cell? ⟨W.heap.size+1,2,none⟩=some (.slice da dl dc)/\V1.cell? ⟨W.heap.size+1,3,none⟩=some (.int .i64 root):=⟨HT1.out.cell 0 rfl,HT1.out.cell 1 rfl,HT1.out.cell 2 rfl,HT1.out.cell 3 rfl⟩
   have HB1:=hide (bel HB0.out hb)
   have HPC:=hide (check_any (root:=root) (HX.out.later hb) (HBI.out.later hb) (HNI.out.later hb) HS.out)
   rw[hc] at HPC
   clear hb HX HBI HNI HK0 HT0 HB0 HCK
   go_wp2_with fail
   refine HPC.out.mono ?_
   rintro e V2 ⟨rfl,hb⟩
   simp only[Bool.false_eq_true,if_false]
   go_wp2_with fail
   go_ret
   exact⟨rfl,bel HB1.out hb⟩
  | true =>
   obtain⟨es,ex,hD⟩:=chk_dec.1 hc
   have HW:=hide hD.wl
   have hfew:dl<=1024:=by rw[<-HLN.out];exact hD.few
   clear hD
   rw[show mayE f d NM BS NS root=if NS.any (ahB f d)=true then 11 else 0 by unfold mayE;rw[if_neg (by simpa using hm),if_neg (by rw[hc];simp)]]
   obtain⟨R,hR⟩:∃ R:Int,(if NS.any (ahB f d)=true then 11 else 0)=R:=⟨_,rfl⟩
   rw[hR]
   have HR:=hide hR
   clear hR
   go_enter Tryz.func33,Tryz.ntmps33
   go_wp2_with fail
   refine(HCK.out _).mono ?_
   rintro e V1 ⟨rfl,hb⟩
   have HT1:=hide (HT0.out.below hb)
   have HK1:=hide (HK0.out.below hb)
   obtain⟨t0,t1,t2,t3⟩:V1.cell? ⟨W.heap.size+1,0,none⟩=some (.slice na nl nc)/\V1.cell? ⟨W.heap.size+1,1,none⟩=some (.slice ba bl bc)/\V1.cell? ⟨W.heap.size+1,2,none⟩=some (.slice da dl dc)/\V1.cell? ⟨W.heap.size+1,3,none⟩=some (.int .i64 root):=⟨HT1.out.cell 0 rfl,HT1.out.cell 1 rfl,HT1.out.cell 2 rfl,HT1.out.cell 3 rfl⟩
   have HB1:=hide (bel HB0.out hb)
   have HNI1:=hide (HNI.out.later hb)
   have HPC:=hide (check_any (root:=root) (HX.out.later hb) (HBI.out.later hb) (HNI.out.later hb) HS.out)
   rw[hc] at HPC
   clear hb HX HBI HNI HK0 HT0 HB0 HCK
   go_wp2_with fail
   refine HPC.out.mono ?_
   rintro e V2 ⟨rfl,hb⟩
   simp only[if_true]
   have HT2:=hide (HT1.out.below hb)
   have HK2:=hide (HK1.out.below hb)
   have HB2:=hide (bel HB1.out hb)
   have HNI2:=hide (HNI1.out.later hb)
   have x2:=HT2.out.cell 2 rfl
   clear hb HPC HB1 HNI1 HK1 HT1 t0 t1 t2 t3
   go_wp2_with fail
   go_loopw [24] (fun i wr=>∃ k:Nat,k<=dl/\i=.int .i64 k/\Hid ((NS.take k).any (ahB f d)=false)/\Hid (Below V2.heap.size V2 wr)) (fun i _=>dl-(intOf i).toNat)
   case atStart=>exact⟨0,Nat.zero_le _,rfl,hide rfl,hide (Below.refl _ _)⟩
   case round =>
    obtain⟨k,hk,rfl,HA,HB⟩:=hrel
    rename World=>V
    by_cases hlt:k < dl
    ·obtain⟨g,off,rfl,hat⟩:=(HNI2.out.later HB.out).at (by omega)
     obtain⟨e0,e1,e2,e3,e4,e5,e6,e7,e8⟩:=hat k hlt
     clear hat
     have hi0:(0:Int)<=k:=by omega
     have hi1:(k:Int) < dl:=by omega
     have hw:=(wl_at HW.out (by rw[HLN.out];exact hlt:k < NS.length)).wf
     have HA2:=hide fun h=>any_snoc (f:=f) (d:=d) (by rw[HLN.out];exact hlt) HA.out h
     have HA3:=hide fun h=>any_of (f:=f) (d:=d) (NS:=NS) (k:=k) (by rw[HLN.out];exact hlt) h
     obtain⟨f0,f1⟩:V.cell? ⟨W.heap.size,0,none⟩=some (.int .i64 f)/\V.cell? ⟨W.heap.size,1,none⟩=some (.int .i64 d):=⟨(HK2.out.below HB.out).cell 0 rfl,(HK2.out.below HB.out).cell 1 rfl⟩
     have hz0:W.heap.size < V.heap.size:=(HK2.out.below HB.out).lt
     generalize NS.getD k n0=n at *
     by_cases ho:n.op=3
     ·have ho1:(n.op != 3)=false:=by simpa using ho
      have HNum:=hide fun w=>Knd.number_any f d (plOf n) hw w
      unfold Knd.numV at HNum
      cases hz:Knd.numZ f d (plOf n) with
      | none =>
       rw[hz] at HNum
       simp only[Option.getD_none,Option.isSome_none] at HNum
       have HE:=hide (HA3.out (by unfold ahB;rw[hz,ho];rfl))
       clear hz ho hw HA2 HA3
       go_wp2_with fail
       refine(HNum.out _).mono ?_
       rintro e V3 ⟨rfl,hb⟩
       go_wp2_with fail
       go_ret
       exact⟨ret_int (by rw[<-HR.out,HE.out];rfl),bel (bel (bel HB2.out HB.out) (bel1 _ _)) hb⟩
      | some z =>
       rw[hz] at HNum
       simp only[Option.getD_some,Option.isSome_some] at HNum
       have HE:=hide (HA2.out (by unfold ahB;rw[hz];simp))
       clear hz ho hw HA2 HA3
       go_wp2_with fail
       refine(HNum.out _).mono ?_
       rintro e V3 ⟨rfl,hb⟩
       have HB3:=hide (bel (bel HB.out (bel1 _ _)) hb)
       clear hb
       go_wp2_with fail
       go_roundw
       case rel=>exact⟨k+1,by omega,by go_num,hide HE.out,hide HB3.out⟩
       case measure=>simp[intOf];omega
     ·have ho1:(n.op != 3)=true:=by simpa using ho
      have HE:=hide (HA2.out (by unfold ahB;rw[show (n.op==3)=false by simpa using ho];rfl))
      clear ho hw HA2 HA3
      have HB3:=hide (bel HB.out (bel1 V (.cells (ndA n) 65)))
      go_wp2_with fail
      go_roundw
      case rel=>exact⟨k+1,by omega,by go_num,hide HE.out,hide HB3.out⟩
      case measure=>simp[intOf];omega
    ·obtain rfl:k=dl:=by omega
     have HE:Hid (NS.any (ahB f d)=false):=hide (by have e:NS.take k=NS:=List.take_of_length_le (by rw[HLN.out];exact Nat.le_refl _);have:=HA.out;rwa[e] at this)
     go_wp2_with fail
     go_ret
     exact⟨ret_int (by rw[<-HR.out,HE.out];rfl),bel HB2.out HB.out⟩
 ·have HCK:=hide fun w=>Knd.check_bad f d w hm
  rw[show mayE f d NM BS NS root=1 by unfold mayE;rw[if_pos hm]]
  go_enter Tryz.func33,Tryz.ntmps33
  go_wp2_with fail
  refine(HCK.out _).mono ?_
  rintro e V1 ⟨rfl,hb⟩
  go_wp2_with fail
  go_ret
  exact⟨rfl,bel HB0.out hb⟩
end Go.Proofs.YtngnnijpdjhelaaGreat
