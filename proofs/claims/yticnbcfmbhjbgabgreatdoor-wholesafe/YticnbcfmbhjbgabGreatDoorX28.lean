import Derived.Test.YticnbcfmbhjbgabGreatDoorXH
import Derived.Deep.RegionWith
import Derived.Deep.RegionHeld3
import Derived.BigRegion
import Derived.Laws.MakeOwn
import Derived.Test.YticnbcfmbhjbgabGreatDoorX10
import Derived.Test.YticnbcfmbhjbgabGreatDoorX15
import Derived.Test.YticnbcfmbhjbgabGreatDoorX11
import Derived.Test.YticnbcfmbhjbgabGreatDoorX04
import Derived.Test.YticnbcfmbhjbgabGreatDoorX16
import Derived.Test.YticnbcfmbhjbgabGreatDoorX20
set_option maxRecDepth 100000
set_option maxHeartbeats 32000000
set_option linter.unusedVariables false
namespace Go.Proofs.YticnbcfmbhjbgabGreatDoor
open Lx Pz
variable {BS D:List Int} {d f o:Int} {i:Nat}
structure Dec (NM:List aN)(BS:List Int)(NS:List Nd)(root:Int)(es:List E)(ex:E):Prop where
 nodes:NS=jH es 0++ex.flat (bY es)
 binds:BS=fU es 0
 names:NM.length=es.length
 gd:∀ j e,es[j]?=some e->Gd j e
 gx:Gd es.length ex
 ok:zO NM=true
 root:root=(NS.length:Int)-1
 few:NS.length<=1024
theorem jS {NM:List aN}{NS:List Nd}{root:Int}:pQ NM BS NS root=true↔∃ es ex,Dec NM BS NS root es ex:=by
 constructor
 ·intro h
  simp only[pQ,bAt,beq_iff_eq] at h
  obtain⟨h1,h2,h3,h4⟩:=h
  simp only[yJ,bT,bAt,dEt,beq_iff_eq] at h2
  obtain⟨es,ex,e1,e2,e3,e4⟩:=zW.1 h3
  refine⟨es,ex,e1,e2,?_,e3,e4,h4,h2.2,by omega⟩
  rw[h1,e2,eU]
 ·rintro⟨es,ex,h⟩
  simp only[pQ,bAt,beq_iff_eq]
  refine⟨by rw[h.names,h.binds,eU],?_,zW.2 ⟨es,ex,h.nodes,h.binds,h.gd,h.gx⟩,h.ok⟩
  simp only[yJ,bT,bAt,dEt,beq_iff_eq]
  have:=h.few
  have h2:1<=NS.length:=by rw[h.nodes,lLa,E.flat_len];have:=ex.size_pos;omega
  exact⟨⟨by omega,by omega⟩,h.root⟩
def eY (n:Nd):List Int:=[n.a,n.b,n.c].take (gY n.op).toNat
abbrev eT:=List (Int × Int)
abbrev oH (n:Nd):Knd.Plc:=⟨n.back,n.co,n.x,n.y⟩
def wT (f d:Int)(BS:List Int)(S:eT)(n:Nd):(Int × Int) × Int :=
 if n.op=4 then(S.getD (BS.getD n.k.toNat 0).toNat (0,0),0) else
 if n.op=1 then((n.k,n.k),0) else
 if n.op=2 then((Knd.jK f d n.k).getD (0,0),0) else
 if n.op=3 then((Knd.gD f d,Knd.dD f d),0) else
 Spn.ofZ n.op 0 0 ((eY n).map fun p=>S.getD p.toNat (0,0))
def pK (f d:Int)(BS:List Int):List Nd->eT->eT × Int
 | [],S=>(S,0)
 | n::NS,S=>if (wT f d BS S n).2=0 then pK f d BS NS (S++[(wT f d BS S n).1]) else([],(wT f d BS S n).2)
def dpN (BS:List Int)(D:List Int)(n:Nd):Int :=
 if n.op=4 then D.getD (BS.getD n.k.toNat 0).toNat 0 else((eY n).map fun p=>D.getD p.toNat 0).foldl max 0+1
def uV (BS:List Int):List Nd->List Int->List Int
 | [],D=>D
 | n::NS,D=>uV BS NS (D++[dpN BS D n])
def jT (o:Int):Int:=if o=4 then 0 else if o=11 then 4 else if o=12 then 6 else 1
def rO (NS:List Nd):Int:=NS.foldl (fun s n=>s+jT n.op) 0
def mxR (D:List Int):Int:=D.foldl max 0
def ahB (f d:Int)(n:Nd):Bool:=n.op==3&&(Knd.sK f d (oH n)).isNone
def kN (f d:Int)(NM:List aN)(BS:List Int)(NS:List Nd)(root:Int):Int :=
 if ¬Knd.May f d then 1 else if pQ NM BS NS root=false then 3 else if NS.any (ahB f d)=true then 11 else if (pK f d BS NS []).2≠0 then(pK f d BS NS []).2 else
 if 200 < rO NS\/24 < mxR (uV BS NS []) then 14 else 0
structure Wn (BS:List Int)(i:Nat)(n:Nd):Prop where
 lo:1<=n.op
 hi:n.op<=28
 pr:0<=gY n.op
 ar:n.op≠4->mU n.op=gY n.op
 use:n.op=4->0<=n.k/\n.k.toNat < BS.length/\0<=BS.getD n.k.toNat 0/\(BS.getD n.k.toNat 0).toNat < i
 prt:∀ p ∈ eY n,0<=p/\p.toNat < i
 num:n.op=1->0<=n.k/\n.k<=2147483647
 inp:n.op=2->0<=n.k/\n.k<=5
 wf:(oH n).wf
def Wl (BS:List Int):Nat->List Nd->Prop
 | _,[]=>True
 | i,n::r=>Wn BS i n/\Wl BS (i+1) r
theorem mR (BS:List Int):∀(A B:List Nd) (i:Nat),Wl BS i (A++B)↔Wl BS i A/\Wl BS (i+A.length) B
 | [],B,i=>by simp[Wl]
 | n::A,B,i=>by
  simp only[List.cons_append,Wl,lLc]
  rw[mR BS A B (i+1),show i+1+A.length=i+(A.length+1) by omega]
  constructor
  ·rintro⟨a,b,c⟩;exact⟨⟨a,b⟩,c⟩
  ·rintro⟨⟨a,b⟩,c⟩;exact⟨a,b,c⟩
theorem aGe {BS:List Int}:∀ {NS:List Nd} {s i:Nat},Wl BS s NS->i < NS.length->Wn BS (s+i) (NS.getD i n0)
 | [],s,i,h,hi=>by simp at hi
 | n::NS,s,0,h,hi=>by simpa using h.1
 | n::NS,s,i+1,h,hi=>by
  have:=aGe (i:=i) h.2 (by simpa using hi)
  rw[show s+1+i=s+(i+1) by omega] at this
  simpa using this
theorem aDf (h:gY o=0):o=1\/o=2\/o=3\/o=4:=by
 unfold gY mU at h
 repeat' split at h
 all_goals omega
theorem aYg (h:0 < gY o):5<=o/\o<=28/\mU o=gY o:=by
 have h0:=h
 unfold gY at h
 split at h
 ·omega
 ·split at h
  ·omega
  ·rename_i h1 h2
   refine⟨?_,by omega,by unfold gY;rw[if_neg h1,if_neg h2]⟩
   unfold mU at h
   repeat' split at h
   all_goals omega
theorem aB4 (o:Int):Spn.ar o=mU o:=by
 unfold Spn.ar mU Spn.fC
 by_cases h1:o=1\/o=2\/o=3
 ·rw[if_pos h1,if_pos h1]
 rw[if_neg h1,if_neg h1]
 by_cases h2:5<=o/\o<=7
 ·rw[if_pos (.inl (by simp;omega)),if_pos h2]
 by_cases h3:29<=o/\o<=33
 ·rw[if_pos (.inr (by simp;omega)),if_neg h2,if_pos h3]
 rw[if_neg (by simp;omega),if_neg h2,if_neg h3]
 by_cases h4:8<=o/\o<=25
 ·rw[if_pos (by simp;omega),if_pos h4]
 rw[if_neg (by simp;omega),if_neg h4]
 by_cases h5:26<=o/\o<=28
 ·rw[if_pos (by simp;omega),if_pos h5]
 rw[if_neg (by simp;omega),if_neg h5]
theorem aVf {bd:Nat}{n:Nd}(h:Gd bd (.leaf n))(hb:bd<=BS.length)(hu:∀ k,k < bd->0<=BS.getD k 0/\(BS.getD k 0).toNat < i):Wn BS i n:=by
 obtain⟨h1,h2,h3,h4,h5⟩:=h
 have hp:eY n=[]:=by unfold eY;rw[h4];rfl
 unfold jX at h5
 have hw:(oH n).wf:=by
  unfold Knd.Plc.wf Knd.gX oH
  dsimp only
  split at h5
  ·simp only[zM,bT,MX,bAt,dEt,beq_iff_eq,Bool.or_eq_true] at h5
   omega
  ·simp only[rQ,bAt,beq_iff_eq] at h5
   obtain⟨⟨⟨⟨a,b⟩,c⟩,e⟩,-⟩:=h5
   simp only[a,b,c,e]
   omega
 have hk:n.op≠3->0<=n.k/\n.k<=iZ n.op bd:=by
  intro h
  rw[if_neg h] at h5
  simp only[bT,bAt,dEt] at h5
  exact h5.2
 refine⟨by have:=aDf h4;omega,by have:=aDf h4;omega,by omega,fun h=>?_,fun h=>?_,by rw[hp];simp,fun h=>?_,fun h=>?_,hw⟩
 ·rcases aDf h4 with e|e|e|e
  ·rw[h4,e];rfl
  ·rw[h4,e];rfl
  ·rw[h4,e];rfl
  ·exact absurd e h
 ·obtain⟨a,b⟩:=hk (by omega)
  rw[h] at b
  have e:iZ 4 bd=(bd:Int)-1:=rfl
  rw[e] at b
  have:=hu n.k.toNat (by omega)
  exact⟨a,by omega,this.1,this.2⟩
 ·obtain⟨a,b⟩:=hk (by omega)
  rw[h] at b
  have e:iZ 1 bd=2147483647:=rfl
  rw[e] at b
  exact⟨a,b⟩
 ·obtain⟨a,b⟩:=hk (by omega)
  rw[h] at b
  have e:iZ 2 bd=5:=rfl
  rw[e] at b
  exact⟨a,b⟩
theorem aQ7 {a b c:Int}(h:0 < gY o)(hp:∀ p ∈ [a,b,c].take (gY o).toNat,0<=p/\p.toNat < i):Wn BS i ⟨o,a,b,c,0,0,0,0,0⟩:=by
 obtain⟨h1,h2,h3⟩:=aYg h
 refine⟨?_,h2,?_,fun _=>h3,fun e=>?_,hp,fun e=>?_,fun e=>?_,?_⟩
 ·show (1:Int)<=o;omega
 ·show 0<=gY o;omega
 ·exfalso;have:o=4:=e;omega
 ·exfalso;have:o=1:=e;omega
 ·exfalso;have:o=2:=e;omega
 ·unfold Knd.Plc.wf Knd.gX oH;simp only;omega
theorem aGf {BS:List Int}{bd:Nat}(hb:bd<=BS.length):∀(e:E) (s:Nat),Gd bd e->(∀ k,k < bd->0<=BS.getD k 0/\(BS.getD k 0).toNat < s)->Wl BS s (e.flat s)
 | .leaf n,s,h,hu=>⟨aVf h hb hu,trivial⟩
 | .un o a,s,h,hu=>by
  have h1:=a.size_pos
  rw[E.flat,mR,E.flat_len]
  refine⟨aGf hb a s h.2 hu,aQ7 (by rw[h.1];decide) ?_,trivial⟩
  rw[h.1]
  simp only[show ((1:Int)).toNat=1 from rfl,List.take_succ_cons,List.take_zero,lMm,lNm,or_false,forall_eq]
  omega
 | .bin o a b,s,h,hu=>by
  have h1:=a.size_pos
  have h2:=b.size_pos
  rw[E.flat,mR,mR,lLa,E.flat_len,E.flat_len]
  refine⟨⟨aGf hb a s h.2.1 hu,aGf hb b _ h.2.2 fun k hk=>⟨(hu k hk).1,by have:=(hu k hk).2;omega⟩⟩,aQ7 (by rw[h.1];decide) ?_,trivial⟩
  rw[h.1]
  simp only[show ((2:Int)).toNat=2 from rfl,List.take_succ_cons,List.take_zero,lMm,lNm,or_false,forall_eq_or_imp,forall_eq]
  omega
 | .tri o a b c,s,h,hu=>by
  have h1:=a.size_pos
  have h2:=b.size_pos
  have h3:=c.size_pos
  rw[E.flat,mR,mR,mR]
  simp only[lLa,E.flat_len]
  refine⟨⟨⟨aGf hb a s h.2.1 hu,aGf hb b _ h.2.2.1 fun k hk=>⟨(hu k hk).1,by have:=(hu k hk).2;omega⟩⟩,?_⟩,aQ7 (by rw[h.1];decide) ?_,trivial⟩
  ·rw[show s+(a.size+b.size)=s+a.size+b.size by omega]
   exact aGf hb c _ h.2.2.2 fun k hk=>⟨(hu k hk).1,by have:=(hu k hk).2;omega⟩
  ·rw[h.1]
   simp only[show ((3:Int)).toNat=3 from rfl,List.take_succ_cons,List.take_zero,lMm,lNm,or_false,forall_eq_or_imp,forall_eq]
   omega
theorem aAh:∀(es:List E) (m:Nat),bY (es.take m)<=bY es
 | [],m=>by simp
 | a::es,0=>by simp[bY]
 | a::es,m+1=>by simp only[List.take_succ_cons,bY];have:=aAh es m;omega
theorem aMr:∀(es:List E) (s k:Nat),k < es.length->0<=(fU es s).getD k 0/\((fU es s).getD k 0).toNat < s+bY (es.take (k+1))
 | [],s,k,h=>by simp at h
 | a::es,s,0,h=>by
  have:=a.size_pos
  simp only[fU,List.getD_cons_zero,List.take_succ_cons,List.take_zero,bY]
  omega
 | a::es,s,k+1,h=>by
  have:=aMr es (s+a.size) k (by simpa using h)
  simp only[fU,List.getD_cons_succ,List.take_succ_cons,bY]
  omega
theorem bBp {BS:List Int}:∀(es pre:List E),BS=fU (pre++es) 0->(∀ j e,es[j]?=some e->Gd (pre.length+j) e)->Wl BS (bY pre) (jH es (bY pre))
 | [],pre,h,hg=>trivial
 | a::es,pre,h,hg=>by
  have hl:BS.length=pre.length+(es.length+1):=by rw[h,eU];simp
  rw[jH,mR,E.flat_len]
  constructor
  ·refine aGf (bd:=pre.length) (by omega) a _ (by simpa using hg 0 a rfl) fun k hk=>?_
   have h1:=aMr (pre++a::es) 0 k (by simp;omega)
   rw[<-h,List.take_append_of_le_length (by omega)] at h1
   have h2:=aAh pre (k+1)
   omega
  ·have:=bBp (BS:=BS) es (pre++[a]) (by rw[h];simp) fun j e he=>by
    have:=hg (j+1) e (by simpa using he)
    simp only[lLa,lLc,lLn]
    rw[show pre.length+(0+1)+j=pre.length+(j+1) by omega]
    exact this
   rwa[aDv,show bY [a]=a.size by simp[bY]] at this
theorem Dec.wl {NM:List aN}{NS:List Nd}{root:Int}{es:List E}{ex:E}(h:Dec NM BS NS root es ex):Wl BS 0 NS:=by
 rw[h.nodes,mR,cZ,nZa]
 constructor
 ·have:=bBp (BS:=BS) es [] (by simpa using h.binds) (by simpa using h.gd)
  simpa [bY] using this
 ·refine aGf (bd:=es.length) (by rw[h.binds,eU];exact nLr _) ex _ h.gx fun k hk=>?_
  have h1:=aMr es 0 k hk
  rw[<-h.binds] at h1
  have h2:=aAh es (k+1)
  omega
theorem aDt (f d:Int)(BS:List Int):∀(A B:List Nd) (S:eT),pK f d BS (A++B) S=if (pK f d BS A S).2=0 then pK f d BS B (pK f d BS A S).1 else([],(pK f d BS A S).2)
 | [],B,S=>by simp[pK]
 | n::A,B,S=>by
  simp only[List.cons_append,pK]
  split
  ·exact aDt f d BS A B _
  ·rfl
theorem aJt {f d:Int}{BS:List Int}:∀ {A:List Nd} {S T:eT},pK f d BS A S=(T,0)->T.length=S.length+A.length
 | [],S,T,h=>by cases h;rfl
 | n::A,S,T,h=>by
  simp only[pK] at h
  split at h
  ·have:=aJt h
   simp only[lLa,lLc,lLn] at this ⊢
   omega
  ·rename_i h1;exact absurd (congrArg Prod.snd h) h1
theorem aQk {A:List Nd}{n:Nd}{S T:eT}(h:pK f d BS A S=(T,0)):pK f d BS (A++[n]) S=if (wT f d BS T n).2=0 then(T++[(wT f d BS T n).1],0) else([],(wT f d BS T n).2):=by
 rw[aDt,h];simp only[pK,if_true]
theorem aUs {A B:List Nd}{S T:eT}{e:Int}(h:pK f d BS A S=(T,e))(he:e≠0):pK f d BS (A++B) S=([],e):=by
 rw[aDt,h];exact if_neg he
theorem aIn (BS:List Int):∀(A B:List Nd) (D:List Int),uV BS (A++B) D=uV BS B (uV BS A D)
 | [],B,D=>rfl
 | n::A,B,D=>aIn BS A B _
theorem aCj (BS:List Int):∀(A:List Nd) (D:List Int),(uV BS A D).length=D.length+A.length
 | [],D=>rfl
 | n::A,D=>by rw[uV,aCj BS A];simp;omega
theorem pX:∀(L:List Int) (a m:Int),a<=m->(∀ x ∈ L,x<=m)->L.foldl max a<=m
 | [],a,m,h,_=>h
 | x::L,a,m,h,hl=>pX L _ m (by have:=hl x (by simp);omega) fun y hy=>hl y (by simp[hy])
theorem lY:∀(L:List Int) (a:Int),a<=L.foldl max a
 | [],a=>iLr _
 | x::L,a=>Int.le_trans (Int.le_max_left a x) (lY L _)
theorem uG:∀(L:List Int) (a x:Int),x ∈ L->x<=L.foldl max a
 | y::L,a,x,h=>by
  rcases lMm.1 h with rfl|h
  ·exact Int.le_trans (Int.le_max_right a x) (lY L _)
  ·exact uG L _ x h
def Db (D:List Int):Prop:=∀ x ∈ D,1<=x/\x<=D.length
theorem Db.at (h:Db D)(hi:i < D.length):1<=D.getD i 0/\D.getD i 0<=D.length:=by
 rw[gdE,gEg hi]
 exact h _ (List.getElem_mem hi)
theorem aNc {n:Nd}(h:Db D)(hn:Wn BS D.length n):1<=dpN BS D n/\dpN BS D n<=D.length+1:=by
 unfold dpN
 split
 ·rename_i h4
  obtain⟨-,-,-,h2⟩:=hn.use h4
  have:=h.at h2
  omega
 ·have h1:=lY ((eY n).map fun p=>D.getD p.toNat 0) 0
  have h2:=pX ((eY n).map fun p=>D.getD p.toNat 0) 0 D.length (by omega) fun x hx=>by
   obtain⟨p,hp,rfl⟩:=List.mem_map.1 hx
   exact(h.at (hn.prt p hp).2).2
  omega
theorem Db.snoc {n:Nd}(h:Db D)(hn:Wn BS D.length n):Db (D++[dpN BS D n]):=by
 have h1:=aNc h hn
 intro x hx
 simp only[lLa,lLc,lLn]
 rcases List.mem_append.1 hx with hx|hx
 ·have:=h x hx;omega
 ·simp at hx;subst hx;omega
theorem Db.all {BS:List Int}:∀ {A:List Nd} {D:List Int},Db D->Wl BS D.length A->Db (uV BS A D)
 | [],D,h,_=>h
 | n::A,D,h,hw=>by
  rw[uV]
  exact Db.all (h.snoc hw.1) (by simpa using hw.2)
theorem pR (A:List Nd)(n:Nd):rO (A++[n])=rO A+jT n.op:=by
 unfold rO;rw[List.foldl_append];rfl
theorem aWm (o:Int):0<=jT o/\jT o<=6:=by unfold jT;repeat' split <;> omega
theorem aG {α:Type}(z:α){L:List α}{k:Nat}(h:k < L.length):L.take (k+1)=L.take k++[L.getD k z]:=by
 rw[List.take_add_one,gEg h,gdE,gEg h]
 rfl
end Go.Proofs.YticnbcfmbhjbgabGreatDoor
namespace Go.Proofs.YticnbcfmbhjbgabGreatDoor
open Go.RowKit Go.IntWalk Lx Pz
abbrev ab3 (n:Nd):Array Value:=#[.i n.a,.i n.b,.i n.c]
def PaP (w:World)(n:Nd)(k:Nat)(e:Ending)(W':World):Prop:=∃ g,e=.returned (.slice (some ⟨g,0,none⟩) k 3)/\w.heap.size<=g/\aB W' g 3 (ab3 n)/\Below w.heap.size w W'
theorem wF (n:Nd)(k:Nat)(hk:mU n.op=(k:Int))(h3:k<=3)(w:World):Calls Tryz.prog 157 #[.agg (bN n)] w (PaP w n k):=by
 have HA:=aA fun W=>bR n.op W
 rw[hk] at HA
 have HB:=aA (aD w (.cells (bN n) 124))
 obtain⟨f0,f1,f2,f3,f4,f5,f6,f7,f8⟩:=(aB.new w 124 (bN n)).nine
 have hz:w.heap.size < (w.alloc (.cells (bN n) 124)).heap.size:=by simp
 clear hk
 have hk0:(0:Int)<=k:=by omega
 have hk1:(k:Int)<=3:=by omega
 go_enter Tryz.func157,Tryz.ntmps157
 go_wp2_with fail
 go_region_held3 (fun w'=>w'.cell? ⟨w.heap.size,0,none⟩=some (.i n.op)/\w'.cell? ⟨w.heap.size,1,none⟩=some (.i n.a)/\w'.cell? ⟨w.heap.size,2,none⟩=some (.i n.b)/\w'.cell? ⟨w.heap.size,3,none⟩=some (.i n.c))
  (first|exact⟨f0,f1,f2,f3⟩|go_keep)
  ((first
   | (go_at_call 81;refine(HA.o _).mono ?_;rintro e w2 ⟨rfl,rfl⟩)))
 all_goals
  go_wp2
  go_ret
  have h5:=aB.new (w.alloc (.cells (bN n) 124)) 3 (ab3 n)
  rw[wSa] at h5
  exact⟨w.heap.size+1,rfl,Nat.le_succ _,h5,(HB.o.alloc HB.o.size _).drew⟩
abbrev dX (f d:Int):Array Value:=#[.i f,.i d]
def sJ (f d:Int)(NM:List aN)(BS:List Int)(NS:List Nd)(root:Int):Int :=
 if ¬Knd.May f d then 1 else if pQ NM BS NS root=false then 3 else if NS.any (ahB f d)=true then 11 else 0
theorem aMn {f d:Int}{NS:List Nd}{k:Nat}(hk:k < NS.length)(h:(NS.take k).any (ahB f d)=false)(h2:ahB f d (NS.getD k n0)=false):(NS.take (k+1)).any (ahB f d)=false:=by
 rw[aG n0 hk,List.any_append,h,List.any_cons,h2];rfl
theorem aWf {f d:Int}{NS:List Nd}{k:Nat}(hk:k < NS.length)(h2:ahB f d (NS.getD k n0)=true):NS.any (ahB f d)=true:=by
 rw[List.any_eq_true]
 refine⟨NS.getD k n0,?_,h2⟩
 rw[gdE,gEg hk]
 exact List.getElem_mem hk
theorem aNe (f d:Int){W:World}{na ba da:Option Addr}{nl nc bl bc dl dc:Nat}{root:Int}{NM:List aN}{BS:List Int}{NS:List Nd}(hX:Tx W na nl nc NM)(hB:Iz W ba bl bc BS)(hN:Nz W da dl dc NS)(hs:∀ s ∈ NM,s.length<=9223372036854775807) :
  Calls Tryz.prog 98 #[.agg (dX f d),.agg (iG (.slice na nl nc) (.slice ba bl bc) (.slice da dl dc) (.i root))] W fun e W'=>e=.returned (.i (sJ f d NM BS NS root))/\Below W.heap.size W W':=by
 have hb1:=aD W (.cells (dX f d) 35)
 have hb2:=bel hb1 (aD (W.alloc (.cells (dX f d) 35)) (.cells (iG (.slice na nl nc) (.slice ba bl bc) (.slice da dl dc) (.i root)) 51))
 have HK0:=aA ((aB.new W 35 (dX f d)).alloc (.cells (iG (.slice na nl nc) (.slice ba bl bc) (.slice da dl dc) (.i root)) 51))
 have HT0:Hid (aB ((W.alloc (.cells (dX f d) 35)).alloc (.cells (iG (.slice na nl nc) (.slice ba bl bc) (.slice da dl dc) (.i root)) 51)) (W.heap.size+1) 51 (iG (.slice na nl nc) (.slice ba bl bc) (.slice da dl dc) (.i root))):=by
  have:=aB.new (W.alloc (.cells (dX f d) 35)) 51 (iG (.slice na nl nc) (.slice ba bl bc) (.slice da dl dc) (.i root))
  rw[wSa] at this
  exact aA this
 have HX:=aA (hX.later hb2)
 have HBI:=aA (hB.later hb2)
 have HNI:=aA (hN.later hb2)
 have HLN:=aA hN.len
 have HS:=aA hs
 have HB0:=aA hb2
 have hdl:dl<=9223372036854775807:=by have:=hN.le;have:=hN.max;unfold maxLen at *;omega
 clear hX hB hN hb1 hb2 hs
 by_cases hm:Knd.May f d
 ·have HCK:=aA fun w=>Knd.fK f d w hm
  cases hc:pQ NM BS NS root with
  | false =>
   rw[show sJ f d NM BS NS root=3 by unfold sJ;rw[if_neg (by simpa using hm),if_pos hc]]
   go_enter Tryz.func98,Tryz.ntmps98
   go_wp2_with fail
   refine(HCK.o _).mono ?_
   rintro e V1 ⟨rfl,hb⟩
   have HT1:=aA (HT0.o.below hb)
   obtain⟨t0,t1,t2,t3⟩:V1.cell? ⟨W.heap.size+1,0,none⟩=some (.slice na nl nc)/\V1.cell? ⟨W.heap.size+1,1,none⟩=some (.slice ba bl bc)/\V1.cell? ⟨W.heap.size+1,2,none⟩=some (.slice da dl dc)/\V1.cell? ⟨W.heap.size+1,3,none⟩=some (.i root):=⟨HT1.o.cell 0 rfl,HT1.o.cell 1 rfl,HT1.o.cell 2 rfl,HT1.o.cell 3 rfl⟩
   have HB1:=aA (bel HB0.o hb)
   have HPC:=aA (uU (root:=root) (HX.o.later hb) (HBI.o.later hb) (HNI.o.later hb) HS.o)
   rw[hc] at HPC
   clear hb HX HBI HNI HK0 HT0 HB0 HCK
   go_wp2_with fail
   refine HPC.o.mono ?_
   rintro e V2 ⟨rfl,hb⟩
   simp only[Bool.false_eq_true,if_false]
   go_wp2_with fail
   go_ret
   exact⟨rfl,bel HB1.o hb⟩
  | true =>
   obtain⟨es,ex,hD⟩:=jS.1 hc
   have HW:=aA hD.wl
   have hfew:dl<=1024:=by rw[<-HLN.o];exact hD.few
   clear hD
   rw[show sJ f d NM BS NS root=if NS.any (ahB f d)=true then 11 else 0 by unfold sJ;rw[if_neg (by simpa using hm),if_neg (by rw[hc];simp)]]
   obtain⟨R,hR⟩:∃ R:Int,(if NS.any (ahB f d)=true then 11 else 0)=R:=⟨_,rfl⟩
   rw[hR]
   have HR:=aA hR
   clear hR
   go_enter Tryz.func98,Tryz.ntmps98
   go_wp2_with fail
   refine(HCK.o _).mono ?_
   rintro e V1 ⟨rfl,hb⟩
   have HT1:=aA (HT0.o.below hb)
   have HK1:=aA (HK0.o.below hb)
   obtain⟨t0,t1,t2,t3⟩:V1.cell? ⟨W.heap.size+1,0,none⟩=some (.slice na nl nc)/\V1.cell? ⟨W.heap.size+1,1,none⟩=some (.slice ba bl bc)/\V1.cell? ⟨W.heap.size+1,2,none⟩=some (.slice da dl dc)/\V1.cell? ⟨W.heap.size+1,3,none⟩=some (.i root):=⟨HT1.o.cell 0 rfl,HT1.o.cell 1 rfl,HT1.o.cell 2 rfl,HT1.o.cell 3 rfl⟩
   have HB1:=aA (bel HB0.o hb)
   have HNI1:=aA (HNI.o.later hb)
   have HPC:=aA (uU (root:=root) (HX.o.later hb) (HBI.o.later hb) (HNI.o.later hb) HS.o)
   rw[hc] at HPC
   clear hb HX HBI HNI HK0 HT0 HB0 HCK
   go_wp2_with fail
   refine HPC.o.mono ?_
   rintro e V2 ⟨rfl,hb⟩
   simp only[if_true]
   have HT2:=aA (HT1.o.below hb)
   have HK2:=aA (HK1.o.below hb)
   have HB2:=aA (bel HB1.o hb)
   have HNI2:=aA (HNI1.o.later hb)
   have x2:=HT2.o.cell 2 rfl
   clear hb HPC HB1 HNI1 HK1 HT1 t0 t1 t2 t3
   go_wp2_with fail
   go_loopw [24] (fun i wr=>∃ k:Nat,k<=dl/\i=.i k/\Hid ((NS.take k).any (ahB f d)=false)/\Hid (Below V2.heap.size V2 wr)) (fun i _=>dl-(intOf i).toNat)
   case atStart=>exact⟨0,nZl _,rfl,aA rfl,aA (Below.refl _ _)⟩
   case round =>
    obtain⟨k,hk,rfl,HA,HB⟩:=hrel
    rename World=>V
    by_cases hlt:k < dl
    ·obtain⟨g,off,rfl,hat⟩:=(HNI2.o.later HB.o).at (by omega)
     obtain⟨e0,e1,e2,e3,e4,e5,e6,e7,e8⟩:=hat k hlt
     clear hat
     have hi0:(0:Int)<=k:=by omega
     have hi1:(k:Int) < dl:=by omega
     have hw:=(aGe HW.o (by rw[HLN.o];exact hlt:k < NS.length)).wf
     have HA2:=aA fun h=>aMn (f:=f) (d:=d) (by rw[HLN.o];exact hlt) HA.o h
     have HA3:=aA fun h=>aWf (f:=f) (d:=d) (NS:=NS) (k:=k) (by rw[HLN.o];exact hlt) h
     obtain⟨f0,f1⟩:V.cell? ⟨W.heap.size,0,none⟩=some (.i f)/\V.cell? ⟨W.heap.size,1,none⟩=some (.i d):=⟨(HK2.o.below HB.o).cell 0 rfl,(HK2.o.below HB.o).cell 1 rfl⟩
     have hz0:W.heap.size < V.heap.size:=(HK2.o.below HB.o).lt
     generalize NS.getD k n0=n at *
     by_cases ho:n.op=3
     ·have ho1:(n.op != 3)=false:=by simpa using ho
      have HNum:=aA fun w=>Knd.lG f d (oH n) hw w
      unfold Knd.aTo at HNum
      cases hz:Knd.sK f d (oH n) with
      | none =>
       rw[hz] at HNum
       simp only[Option.getD_none,Option.isSome_none] at HNum
       have HE:=aA (HA3.o (by unfold ahB;rw[hz,ho];rfl))
       clear hz ho hw HA2 HA3
       go_wp2_with fail
       refine(HNum.o _).mono ?_
       rintro e V3 ⟨rfl,hb⟩
       go_wp2_with fail
       go_ret
       exact⟨aO (by rw[<-HR.o,HE.o];rfl),bel (bel (bel HB2.o HB.o) (aD _ _)) hb⟩
      | some z =>
       rw[hz] at HNum
       simp only[oGs,Option.isSome_some] at HNum
       have HE:=aA (HA2.o (by unfold ahB;rw[hz];simp))
       clear hz ho hw HA2 HA3
       go_wp2_with fail
       refine(HNum.o _).mono ?_
       rintro e V3 ⟨rfl,hb⟩
       have HB3:=aA (bel (bel HB.o (aD _ _)) hb)
       clear hb
       go_wp2_with fail
       go_roundw
       case rel=>exact⟨k+1,by omega,by go_num,aA HE.o,aA HB3.o⟩
       case measure=>simp[intOf];omega
     ·have ho1:(n.op != 3)=true:=by simpa using ho
      have HE:=aA (HA2.o (by unfold ahB;rw[show (n.op==3)=false by simpa using ho];rfl))
      clear ho hw HA2 HA3
      have HB3:=aA (bel HB.o (aD V (.cells (bN n) 124)))
      go_wp2_with fail
      go_roundw
      case rel=>exact⟨k+1,by omega,by go_num,aA HE.o,aA HB3.o⟩
      case measure=>simp[intOf];omega
    ·obtain rfl:k=dl:=by omega
     have HE:Hid (NS.any (ahB f d)=false):=aA (by have e:NS.take k=NS:=lTl (by rw[HLN.o];exact nLr _);have:=HA.o;rwa[e] at this)
     go_wp2_with fail
     go_ret
     exact⟨aO (by rw[<-HR.o,HE.o];rfl),bel HB2.o HB.o⟩
 ·have HCK:=aA fun w=>Knd.iJ f d w hm
  rw[show sJ f d NM BS NS root=1 by unfold sJ;rw[if_pos hm]]
  go_enter Tryz.func98,Tryz.ntmps98
  go_wp2_with fail
  refine(HCK.o _).mono ?_
  rintro e V1 ⟨rfl,hb⟩
  go_wp2_with fail
  go_ret
  exact⟨rfl,bel HB0.o hb⟩
end Go.Proofs.YticnbcfmbhjbgabGreatDoor
namespace Go.Proofs.YticnbcfmbhjbgabGreatDoor
open Go.RowKit Go.IntWalk Lx Pz
variable {b k:Nat} {W:World} {t:TypeId}
theorem aUt {S:eT}{n:Nd}(hk:k < (eY n).length):((eY n).map fun p=>S.getD p.toNat (0,0)).take (k+1)=((eY n).map fun p=>S.getD p.toNat (0,0)).take k++[S.getD ((eY n).getD k 0).toNat (0,0)]:=by
 rw[aG (0,0) (by simpa using hk)]
 congr 2
 simp[List.getD_eq_getElem?_getD,List.getElem?_map,List.getElem?_eq_getElem hk]
theorem zZ {n:Nd}(hp:gY n.op=k)(h3:k<=3):(eY n).length=k:=by
 unfold eY;rw[hp];simp;omega
theorem aJj {n:Nd}{j:Nat}(hp:gY n.op=k)(h3:k<=3)(hj:j < k):(ab3 n)[j]?=some (.i ((eY n).getD j 0))/\(eY n).getD j 0 ∈ eY n:=by
 have hl:=zZ hp h3
 refine⟨?_,?_⟩
 ·unfold eY
  rw[hp]
  rcases(show k=1\/k=2\/k=3 by omega) with rfl|rfl|rfl
  ·obtain rfl:j=0:=by omega
   rfl
  ·rcases(show j=0\/j=1 by omega) with rfl|rfl <;> rfl
  ·rcases(show j=0\/j=1\/j=2 by omega) with rfl|rfl|rfl <;> rfl
 ·rw[gdE,gEg (by omega)]
  exact List.getElem_mem _
theorem aQ {x y:Value}(h:aB W b t #[x,y]):W.cell? ⟨b,0,none⟩=some x/\W.cell? ⟨b,1,none⟩=some y/\W.frozen? ⟨b,0,none⟩=false/\W.frozen? ⟨b,1,none⟩=false :=
 Spn.aL h
theorem oI {w w2:World}{p q:Value}(h:aB w2 b t #[p,q])(hB:Below w.heap.size w w2)(hb:w.heap.size<=b)(x y:Int) :
  ((w2.setCell ⟨b,0,none⟩ (.i x)).setCell ⟨b,1,none⟩ (.i y)).cell? ⟨b,0,none⟩=some (.i x)/\((w2.setCell ⟨b,0,none⟩ (.i x)).setCell ⟨b,1,none⟩ (.i y)).cell? ⟨b,1,none⟩=some (.i y) /\
  Below w.heap.size w ((w2.setCell ⟨b,0,none⟩ (.i x)).setCell ⟨b,1,none⟩ (.i y)) :=
 Spn.aS h hB hb x y
theorem aPb {r:Nat}{cs:Array Value}(h:aB W b t cs)(hr:b≠r)(x y:Value):aB ((W.setCell ⟨r,0,none⟩ x).setCell ⟨r,1,none⟩ y) b t cs:=(h.other (p:=⟨r,0,none⟩) hr x).other (p:=⟨r,1,none⟩) hr y
theorem set2 {p q:Value}(h:aB W b t #[p,q])(x y:Value):aB ((W.setCell ⟨b,0,none⟩ x).setCell ⟨b,1,none⟩ y) b t #[x,y]:=(h.set 0 x).set 1 y
theorem aF0 (f d:Int)(n:Nd)(hm:Knd.May f d)(v:Value)(hv:∃ a k c,v=.slice a k c)(h:n.op=1\/n.op=2\/n.op=3)(BS:List Int)(S:eT)(W:World) :
  Calls Tryz.prog 156 #[.agg (dX f d),.agg (bN n),v] W fun e W'=>e=.returned (Spn.spV (wT f d BS S n))/\Below W.heap.size W W':=by
 obtain⟨a,kk,c,rfl⟩:=hv
 obtain⟨o,pa,pb,pc,pk,back,co,x,y⟩:=n
 simp only at h
 have hb1:=aD W (.cells (dX f d) 35)
 have hb2:=bel hb1 (aD (W.alloc (.cells (dX f d) 35)) (.cells (bN ⟨o,pa,pb,pc,pk,back,co,x,y⟩) 124))
 have hb3:=bel hb2 (aD ((W.alloc (.cells (dX f d) 35)).alloc (.cells (bN ⟨o,pa,pb,pc,pk,back,co,x,y⟩) 124)) (.cells #[.i 0,.i 0] 80))
 have HB0:=aA hb3
 have HBk:=aA hb2
 have HK0:=aA (((aB.new W 35 (dX f d)).alloc (.cells (bN ⟨o,pa,pb,pc,pk,back,co,x,y⟩) 124)).alloc (.cells #[.i 0,.i 0] 80))
 have HR0:Hid (aB (((W.alloc (.cells (dX f d) 35)).alloc (.cells (bN ⟨o,pa,pb,pc,pk,back,co,x,y⟩) 124)).alloc (.cells #[.i 0,.i 0] 80)) (W.heap.size+1+1) 80 #[.i 0,.i 0]):=by
  have:=aB.new ((W.alloc (.cells (dX f d) 35)).alloc (.cells (bN ⟨o,pa,pb,pc,pk,back,co,x,y⟩) 124)) 80 #[.i 0,.i 0]
  simp only[wSa] at this
  exact aA this
 clear hb1 hb2 hb3
 rcases h with rfl|rfl|rfl
 ·rw[show wT f d BS S ⟨1,pa,pb,pc,pk,back,co,x,y⟩=((pk,pk),0) from rfl]
  go_enter Tryz.func156,Tryz.ntmps156
  go_wp2
  exact bPr (v:=.tuple #[.agg #[.i pk,.i pk],.i 0]) (by simp[results,Tryz.results156,go_sem]) rfl ⟨rfl,bel HBk.o (aD _ _)⟩
 ·rw[show wT f d BS S ⟨2,pa,pb,pc,pk,back,co,x,y⟩=((Knd.jK f d pk).getD (0,0),0) from rfl]
  have HI:=aA fun w=>Knd.gN f d pk w
  unfold Knd.wB at HI
  obtain⟨⟨lo,hi⟩,hp⟩:∃ p,(Knd.jK f d pk).getD (0,0)=p:=⟨_,rfl⟩
  rw[hp] at HI ⊢
  generalize (Knd.jK f d pk).isSome=q at HI
  clear hp
  go_enter Tryz.func156,Tryz.ntmps156
  go_wp2_with fail
  refine(HI.o _).mono ?_
  rintro e V1 ⟨rfl,hb⟩
  have HB1:=aA (bel HB0.o hb)
  have hz:=(HR0.o.below hb).lt
  obtain⟨-,-,hB⟩:=oI (HR0.o.below hb) HB1.o (by omega) lo hi
  have h3:=(set2 (HR0.o.below hb) (.i lo) (.i hi)).alloc (.cells #[.i lo,.i hi] 80)
  have r0:=h3.cell 0 rfl
  have r1:=h3.cell 1 rfl
  have HB2:=aA (bel hB (aD _ (.cells #[.i lo,.i hi] 80)))
  have HR2:=aA r0
  have HR3:=aA r1
  clear r0 r1 h3 hB
  obtain⟨c0,c1,c2,c3⟩:=aQ (HR0.o.below hb)
  clear hb
  go_wp2_with fail
  have r0:=HR2.o
  have r1:=HR3.o
  exact bPr (v:=.tuple #[.agg #[.i lo,.i hi],.i 0]) (by simp only[results,Tryz.results156];simp[go_sem,r0,r1]) rfl ⟨rfl,HB2.o⟩
 ·rw[show wT f d BS S ⟨3,pa,pb,pc,pk,back,co,x,y⟩=((Knd.gD f d,Knd.dD f d),0) from rfl]
  have HLo:=aA fun w=>Knd.oD f d w
  have HHi:=aA fun w=>Knd.kX f d w
  generalize Knd.gD f d=lo at *
  generalize Knd.dD f d=hi at *
  have x0:=HK0.o.cell 0 rfl
  have y0:=HK0.o.cell 1 rfl
  go_enter Tryz.func156,Tryz.ntmps156
  go_wp2_with fail
  obtain⟨W0,hW0⟩:∃ W0,(((W.alloc (.cells (dX f d) 35)).alloc (.cells (bN ⟨3,pa,pb,pc,pk,back,co,x,y⟩) 124)).alloc (.cells #[.i 0,.i 0] 80))=W0:=⟨_,rfl⟩
  rw[hW0] at HR0 HK0 HB0 x0 y0 ⊢
  clear hW0
  have HRd:Hid (aB W0.drew (W.heap.size+1+1) 80 #[.i 0,.i 0]):=HR0.o
  have HKd:Hid (aB W0.drew W.heap.size 35 (dX f d)):=HK0.o
  have HBd:=aA HB0.o.drew
  go_region_held3 (fun w'=>w'.cell? ⟨W.heap.size,0,none⟩=some (.i f)/\w'.cell? ⟨W.heap.size,1,none⟩=some (.i d))
   (first|exact⟨x0,y0⟩|exact⟨x3,y3⟩|exact⟨x4,y4⟩|exact⟨(aPb HK4.o (by omega) _ _).cell 0 rfl,(aPb HK4.o (by omega) _ _).cell 1 rfl⟩|go_keep)
   ((first
    | (go_at_call 75;refine(HLo.o _).mono ?_;rintro e w3 ⟨rfl,hb3⟩;have HR3:=aA (HRd.o.below hb3);have HK3:=aA (HKd.o.below hb3);have HB3:=aA (bel HBd.o hb3);clear hb3;obtain⟨x3,y3,-,-⟩:=aQ HK3.o)
    | (go_at_call 76;refine(HHi.o _).mono ?_;rintro e w4 ⟨rfl,hb4⟩;have HR4:=aA (HR3.o.below hb4);have HK4:=aA (HK3.o.below hb4);have HB4:=aA (bel HB3.o hb4);clear hb4;obtain⟨x4,y4,-,-⟩:=aQ HK4.o;obtain⟨g0,g1,g2,g3⟩:=aQ HR4.o)))
  all_goals
   obtain⟨r0,r1,hB⟩:=oI HR4.o HB4.o (by omega) lo hi
   go_wp2
   exact bPr (v:=.tuple #[.agg #[.i lo,.i hi],.i 0]) (by simp[results,Tryz.results156,go_sem,r0,r1]) rfl ⟨rfl,hB⟩
theorem aLq (f d:Int)(n:Nd){BS:List Int}{i sl sc:Nat}{a:Option Addr}{S:eT}(hn:Wn BS i n)(h5:5<=n.op)(hS:Spn.Spans W a sl sc S)(hi:i<=sl) :
  Calls Tryz.prog 156 #[.agg (dX f d),.agg (bN n),.slice a sl sc] W fun e W'=>e=.returned (Spn.spV (wT f d BS S n))/\Below W.heap.size W W':=by
 obtain⟨k,hk⟩:∃ k:Nat,gY n.op=k:=⟨(gY n.op).toNat,by have:=hn.pr;omega⟩
 have h3:k<=3:=by
  have:gY n.op<=3:=by unfold gY mU;repeat' split <;> omega
  omega
 have har:mU n.op=k:=by rw[hn.ar (by omega),hk]
 have hsl:sl<=9223372036854775807:=by have:=hS.le;have:=hS.max;unfold maxLen at *;omega
 rw[show wT f d BS S n=Spn.ofZ n.op 0 0 ((eY n).map fun p=>S.getD p.toNat (0,0)) by unfold wT;rw[if_neg (by omega),if_neg (by omega),if_neg (by omega),if_neg (by omega)]]
 have HPt:=aA fun j hj=>aJj (n:=n) (j:=j) hk h3 hj
 have HPl:=aA (zZ hk h3)
 have HPr:=aA hn.prt
 have HSg:=aA fun j hj=>aUt (S:=S) (n:=n) (k:=j) hj
 obtain⟨L,hL⟩:∃ L,((eY n).map fun p=>S.getD p.toNat (0,0))=L:=⟨_,rfl⟩
 have HLl:Hid (L.length=k):=aA (by rw[<-hL,List.length_map,HPl.o])
 rw[hL] at HSg ⊢
 have HPO:=aA fun w=>wF n k har h3 w
 have q1:(n.op==1)=false:=by simp;omega
 have q2:(n.op==2)=false:=by simp;omega
 have q3:(n.op==3)=false:=by simp;omega
 have hb1:=aD W (.cells (dX f d) 35)
 have hb2:=bel hb1 (aD (W.alloc (.cells (dX f d) 35)) (.cells (bN n) 124))
 have hb3:=bel hb2 (aD ((W.alloc (.cells (dX f d) 35)).alloc (.cells (bN n) 124)) (.cells #[.i 0,.i 0] 80))
 have HB0:=aA hb3
 have HN0:Hid (aB (((W.alloc (.cells (dX f d) 35)).alloc (.cells (bN n) 124)).alloc (.cells #[.i 0,.i 0] 80)) (W.heap.size+1) 124 (bN n)):=by
  have:=(aB.new (W.alloc (.cells (dX f d) 35)) 124 (bN n)).alloc (.cells #[.i 0,.i 0] 80)
  simp only[wSa] at this
  exact aA this
 have HR0:Hid (aB (((W.alloc (.cells (dX f d) 35)).alloc (.cells (bN n) 124)).alloc (.cells #[.i 0,.i 0] 80)) (W.heap.size+1+1) 80 #[.i 0,.i 0]):=by
  have:=aB.new ((W.alloc (.cells (dX f d) 35)).alloc (.cells (bN n) 124)) 80 #[.i 0,.i 0]
  simp only[wSa] at this
  exact aA this
 have HS0:=aA (hS.later hb3)
 clear hb1 hb2 hb3 hS hL har hk hn h5
 go_enter Tryz.func156,Tryz.ntmps156
 go_wp2_with fail
 refine(HPO.o _).mono ?_
 rintro e V1 ⟨g,rfl,-,hG,hb⟩
 have HG:=aA hG
 have HR1:=aA (HR0.o.below hb)
 have HN1:=aA (HN0.o.below hb)
 have HB1:=aA (bel HB0.o hb)
 have HS1:=aA (HS0.o.later hb)
 have hgl:=hG.lt
 clear hG hb HR0 HN0 HB0 HS0 HPO
 go_wp2_with fail
 go_loopw [10,42] (fun v i wr=>∃ j:Nat,j<=k/\i=.i j/\Hid (Spn.Es V1 wr v j (L.take j))) (fun _ i _=>k-(intOf i).toNat)
 case atStart=>exact⟨0,nZl _,rfl,aA (Spn.Es.start V1)⟩
 case round =>
  obtain⟨j,hj,rfl,HE⟩:=hrel
  rename World=>V
  by_cases hlt:j < k
  ·have cp:=(HG.o.below HE.o.bel).cell j (HPt.o j hlt).1
   obtain⟨p0,p1⟩:=HPr.o _ (HPt.o j hlt).2
   have HT:=aA (HSg.o j (by rw[HPl.o];exact hlt))
   obtain⟨q,hq⟩:∃ q:Nat,(eY n).getD j 0=(q:Int):=⟨((eY n).getD j 0).toNat,by omega⟩
   rw[hq] at cp p1 HT
   simp only[iTn] at p1 HT
   obtain⟨b,off,rfl,-,hcs⟩:=(HS1.o.later HE.o.bel).at (by omega)
   obtain⟨s0,s1⟩:=hcs q (by omega)
   generalize S.getD q (0,0)=sv at *
   obtain⟨lo,hi2⟩:=sv
   simp only at s0 s1
   have j0:(0:Int)<=j:=by omega
   have j1:(j:Int) < k:=by omega
   have j2:(j:Int) < 3:=by omega
   have i0:(0:Int)<=q:=by omega
   have i1:(q:Int) < sl:=by omega
   clear hcs p0 p1 hq
   go_wp2_with (at_builtin;refine Spn.aBg (w:=V1) (L:=L.take j) rfl _ _ rfl rfl (HE.o.alloc _) _ lo hi2 rfl (Spn.aB.new _ _ _) (by omega) ?_;intro g2 cap2 w2 HE2 hsz)
   go_roundw
   case rel=>exact⟨j+1,by omega,by go_num,aA (by rw[HT.o];exact HE2)⟩
   case measure=>simp[intOf];omega
  ·obtain rfl:j=k:=by omega
   have e:L.take j=L:=lTl (by rw[HLl.o];exact nLr _)
   have HE1:=HE.o
   rw[e] at HE1
   obtain⟨va,vc,rfl,hA⟩:=Spn.Spans.of_owns HE1.a HLl.o
   have HOf:=aA (Spn.aO3 n.op 0 0 _ _ _ _ _ hA)
   have HR2:=aA (HR1.o.below HE1.bel)
   have HB2:=aA (bel HB1.o HE1.bel)
   have x0:=(HN1.o.below HE1.bel).cell 0 rfl
   obtain⟨⟨⟨lo,hi2⟩,er⟩,hZ⟩:∃ Z,Spn.ofZ n.op 0 0 L=Z:=⟨_,rfl⟩
   rw[hZ] at HOf
   have HZ:=aA hZ
   clear hZ hA e HE HE1
   go_wp2_with fail
   refine HOf.o.mono ?_
   rintro e V2 ⟨rfl,hb⟩
   have HR3:=aA (HR2.o.below hb)
   have HB3:=aA (bel HB2.o hb)
   obtain⟨g0,g1,g2,g3⟩:=aQ HR3.o
   clear hb
   go_wp2_with fail
   obtain⟨r0,r1,hB⟩:=oI HR3.o HB3.o (by omega) lo hi2
   exact bPr (v:=.tuple #[.agg #[.i lo,.i hi2],.i er]) (by simp[results,Tryz.results156,go_sem,r0,r1]) rfl ⟨by rw[HZ.o],hB⟩
end Go.Proofs.YticnbcfmbhjbgabGreatDoor
namespace Go.Proofs.YticnbcfmbhjbgabGreatDoor
open Go.RowKit Go.IntWalk Lx Pz
open Vfy (aC4 nK aHs jV)
variable {W:World} {BS:List Int}
abbrev oP (L:eT):Array Value:=(Spn.mP L).toArray
theorem rG {g:Nat}{L:eT}(h:aB W g 80 (oP L))(hl:L.length<=1024):Spn.Spans W (some ⟨g,0,none⟩) L.length L.length L:=by
 refine⟨rfl,nLr _,by unfold maxLen;omega,(fun e=>by cases e),.inr ⟨g,0,rfl,fun i hi=>?_⟩⟩
 obtain⟨a,b⟩:=jV L i hi
 rw[nZa]
 exact⟨h.cell (i*2) a,h.cell (i*2+1) b⟩
theorem aDg {g k:Nat}{S Z:eT}{q:Int × Int}(h:aB W g 80 (oP (S++q::Z)))(hk:S.length=k)(x y:Int):aB ((W.setCell ⟨g,k*2,none⟩ (.i x)).setCell ⟨g,k*2+1,none⟩ (.i y)) g 80 (oP (S++(x,y)::Z)):=by
 subst hk
 have:=(h.set (S.length*2) (.i x)).set (S.length*2+1) (.i y)
 rwa[show ((oP (S++q::Z)).setIfInBounds (S.length*2) (.i x)).setIfInBounds (S.length*2+1) (.i y)=oP (S++(x,y)::Z) from aHs S Z (x,y) q] at this
theorem dN {S Z:eT}{i:Nat}(h:i < S.length):(S++Z).getD i (0,0)=S.getD i (0,0):=by
 rw[gdE,gAl h,<-gdE]
theorem aUr {f d:Int}{S Z:eT}{n:Nd}(hn:Wn BS S.length n):wT f d BS (S++Z) n=wT f d BS S n:=by
 unfold wT
 split
 ·rename_i h4
  rw[dN (hn.use h4).2.2.2]
 ·split
  ·rfl
  ·split
   ·rfl
   ·split
    ·rfl
    ·congr 1
     apply List.map_congr_left
     intro p hp
     exact dN (hn.prt p hp).2
theorem aBp {b r k:Nat}{t:TypeId}{cs:Array Value}(h:aB W b t cs)(hr:b≠r)(x y:Value):aB ((W.setCell ⟨r,k*2,none⟩ x).setCell ⟨r,k*2+1,none⟩ y) b t cs:=(h.other (p:=⟨r,k*2,none⟩) hr x).other (p:=⟨r,k*2+1,none⟩) hr y
theorem aHv (f d:Int){n:Nd}{i sl sc:Nat}{a:Option Addr}{S:eT}(hm:Knd.May f d)(hn:Wn BS i n)(h4:n.op≠4)(hS:Spn.Spans W a sl sc S)(hi:i<=sl) :
  Calls Tryz.prog 156 #[.agg (dX f d),.agg (bN n),.slice a sl sc] W fun e W'=>e=.returned (Spn.spV (wT f d BS S n))/\Below W.heap.size W W':=by
 by_cases h:n.op=1\/n.op=2\/n.op=3
 ·exact aF0 f d n hm _ ⟨_,_,_,rfl⟩ h BS S W
 ·exact aLq f d n hn (by have:=hn.lo;omega) hS hi
def SpP (w:World)(n:Nat)(Z:eT × Int)(e:Ending)(W':World):Prop :=
 (Z.2≠0/\e=.returned (.tuple #[.slice none 0 0,.i Z.2])/\Below w.heap.size w W') \/
 (Z.2=0/\∃ g,e=.returned (.tuple #[.slice (some ⟨g,0,none⟩) n n,.i 0])/\w.heap.size<=g/\aB W' g 80 (oP Z.1)/\Below w.heap.size w W')
theorem aF1 (f d:Int){ba da:Option Addr}{bl bc dl dc:Nat}{nv:Value}(hnv:∃ a k c,nv=.slice a k c){root:Int}{NS:List Nd}(hm:Knd.May f d)(hB:Iz W ba bl bc BS)(hN:Nz W da dl dc NS)(hw:Wl BS 0 NS)(hd:dl<=1024) :
  Calls Tryz.prog 99 #[.agg (dX f d),.agg (iG nv (.slice ba bl bc) (.slice da dl dc) (.i root))] W (SpP W dl (pK f d BS NS [])):=by
 obtain⟨a1,n1,c1,rfl⟩:=hnv
 have hmk:=aC4 dl hd
 have hb1:=aD W (.cells (dX f d) 35)
 have hb2:=bel hb1 (aD (W.alloc (.cells (dX f d) 35)) (.cells (iG (.slice a1 n1 c1) (.slice ba bl bc) (.slice da dl dc) (.i root)) 51))
 have hb3:=bel hb2 (aD ((W.alloc (.cells (dX f d) 35)).alloc (.cells (iG (.slice a1 n1 c1) (.slice ba bl bc) (.slice da dl dc) (.i root)) 51)) (.cells (oP (List.replicate dl (0,0))) 80))
 have HK0:=aA (((aB.new W 35 (dX f d)).alloc (.cells (iG (.slice a1 n1 c1) (.slice ba bl bc) (.slice da dl dc) (.i root)) 51)).alloc (.cells (oP (List.replicate dl (0,0))) 80))
 have HT0:Hid (aB (((W.alloc (.cells (dX f d) 35)).alloc (.cells (iG (.slice a1 n1 c1) (.slice ba bl bc) (.slice da dl dc) (.i root)) 51)).alloc (.cells (oP (List.replicate dl (0,0))) 80)) (W.heap.size+1) 51 (iG (.slice a1 n1 c1) (.slice ba bl bc) (.slice da dl dc) (.i root))):=by
  have:=(aB.new (W.alloc (.cells (dX f d) 35)) 51 (iG (.slice a1 n1 c1) (.slice ba bl bc) (.slice da dl dc) (.i root))).alloc (.cells (oP (List.replicate dl (0,0))) 80)
  simp only[wSa] at this
  exact aA this
 have HG0:Hid (aB (((W.alloc (.cells (dX f d) 35)).alloc (.cells (iG (.slice a1 n1 c1) (.slice ba bl bc) (.slice da dl dc) (.i root)) 51)).alloc (.cells (oP (List.replicate dl (0,0))) 80)) (W.heap.size+1+1) 80 (oP (List.replicate dl (0,0)))):=by
  have:=aB.new ((W.alloc (.cells (dX f d) 35)).alloc (.cells (iG (.slice a1 n1 c1) (.slice ba bl bc) (.slice da dl dc) (.i root)) 51)) 80 (oP (List.replicate dl (0,0)))
  simp only[wSa] at this
  exact aA this
 have HB0:=aA hb3
 have HBI:=aA hB
 have HNI:=aA hN
 have HLN:=aA hN.len
 have HLB:=aA hB.len
 have HW:=aA hw
 clear hb1 hb2 hb3 hB hN hw
 go_enter Tryz.func99,Tryz.ntmps99
 go_wp2_with fail
 go_loopw [18] (fun i wr=>∃(k:Nat) (S:eT),k<=dl/\i=.i k/\Hid (pK f d BS (NS.take k) []=(S,0))/\Hid (aB wr (W.heap.size+1+1) 80 (oP (S++List.replicate (dl-k) (0,0))))/\Hid (aB wr W.heap.size 35 (dX f d))/\Hid (aB wr (W.heap.size+1) 51 (iG (.slice a1 n1 c1) (.slice ba bl bc) (.slice da dl dc) (.i root)))/\Hid (Below W.heap.size W wr)) (fun i _=>dl-(intOf i).toNat)
 case atStart=>exact⟨0,[],nZl _,rfl,aA rfl,HG0,HK0,HT0,HB0⟩
 case round =>
  obtain⟨k,S,hk,rfl,HS,HG,HK,HT,HB⟩:=hrel
  rename World=>V
  by_cases hlt:k < dl
  ·obtain⟨g,off,rfl,hat⟩:=(HNI.o.later HB.o).at (by omega)
   obtain⟨e0,e1,e2,e3,e4,e5,e6,e7,e8⟩:=hat k hlt
   clear hat
   have hi0:(0:Int)<=k:=by omega
   have hi1:(k:Int) < dl:=by omega
   have hSl:S.length=k:=by have:=aJt HS.o;simp at this;rw[HLN.o] at this;omega
   have HWn:=aA (aGe HW.o (by rw[HLN.o];exact hlt:k < NS.length))
   rw[nZa] at HWn
   have HS2:=aA (aQk (n:=NS.getD k n0) HS.o)
   rw[<-aG n0 (by rw[HLN.o];exact hlt)] at HS2
   have HSe:=aA fun(e:Int) (he:e≠0) (h:pK f d BS (NS.take (k+1)) []=([],e))=>(show pK f d BS NS []=([],e) by rw[<-lTd (k+1) NS];exact aUs h he)
   rw[nK hlt] at HG
   obtain⟨f0,f1⟩:V.cell? ⟨W.heap.size,0,none⟩=some (.i f)/\V.cell? ⟨W.heap.size,1,none⟩=some (.i d):=⟨HK.o.cell 0 rfl,HK.o.cell 1 rfl⟩
   have x1:=HT.o.cell 1 rfl
   have hz0:W.heap.size < V.heap.size:=HK.o.lt
   have hz1:W.heap.size+1 < V.heap.size:=HT.o.lt
   have hz2:W.heap.size+1+1 < V.heap.size:=HG.o.lt
   have y0:=HG.o.frozen (k*2)
   have y1:=HG.o.frozen (k*2+1)
   generalize NS.getD k n0=n at *
   by_cases ho:n.op=4
   ·have ho1:(n.op==4)=true:=by simpa using ho
    obtain⟨u0,u1,u2,u3⟩:=HWn.o.use ho
    have hspn:wT f d BS S n=(S.getD (BS.getD n.k.toNat 0).toNat (0,0),0):=by unfold wT;rw[if_pos ho]
    rw[hspn,if_pos rfl] at HS2
    obtain⟨kk,hkk⟩:∃ kk:Nat,n.k=(kk:Int):=⟨n.k.toNat,by omega⟩
    rw[hkk] at e4 u1 u2 u3 HS2
    simp only[iTn] at u1 u2 u3 HS2
    obtain⟨bb,boff,rfl,hbb,hbc⟩:∃ b off,ba=some ⟨b,off,none⟩/\b < V.heap.size/\V.cell? ⟨b,off+kk,none⟩=some (.i (BS.getD kk 0)):=by
     rcases(HBI.o.later HB.o).cell with h0|⟨b,off,ha,hlb,hc⟩
     ·rw[HLB.o] at u1;omega
     ·exact⟨b,off,ha,hlb,hc kk (by rw[<-HLB.o];exact u1)⟩
    obtain⟨q,hq⟩:∃ q:Nat,BS.getD kk 0=(q:Int):=⟨(BS.getD kk 0).toNat,by omega⟩
    rw[hq] at hbc u3 HS2
    simp only[iTn] at u3 HS2
    obtain⟨s0,s1⟩:=jV (S++(0,0)::List.replicate (dl-(k+1)) (0,0)) q (by simp;omega)
    rw[dN (by rw[hSl];exact u3)] at s0 s1
    have d0:=HG.o.cell (q*2) s0
    have d1:=HG.o.cell (q*2+1) s1
    generalize S.getD q (0,0)=sv at *
    obtain⟨lo,hi⟩:=sv
    simp only at d0 d1
    have HG2:=aA ((aDg HG.o hSl lo hi).alloc (.cells #[.i n.op,.i n.a,.i n.b,.i n.c,.i kk,.i n.back,.i n.co,.i n.x,.i n.y] 124))
    have HK2:=aA ((aBp HK.o (r:=W.heap.size+1+1) (k:=k) (by omega) (.i lo) (.i hi)).alloc (.cells #[.i n.op,.i n.a,.i n.b,.i n.c,.i kk,.i n.back,.i n.co,.i n.x,.i n.y] 124))
    have HT2:=aA ((aBp HT.o (r:=W.heap.size+1+1) (k:=k) (by omega) (.i lo) (.i hi)).alloc (.cells #[.i n.op,.i n.a,.i n.b,.i n.c,.i kk,.i n.back,.i n.co,.i n.x,.i n.y] 124))
    have HB2:=aA (bel ((HB.o.setCell (p:=⟨W.heap.size+1+1,k*2,none⟩) (by simp;omega) (.i lo)).setCell (p:=⟨W.heap.size+1+1,k*2+1,none⟩) (by simp;omega) (.i hi)) (aD _ (.cells #[.i n.op,.i n.a,.i n.b,.i n.c,.i kk,.i n.back,.i n.co,.i n.x,.i n.y] 124)))
    obtain⟨ca,hca⟩:=jV (S++(0,0)::List.replicate (dl-(k+1)) (0,0)) k (by simp;omega)
    have da:=HG.o.cell (k*2) ca
    have db:=HG.o.cell (k*2+1) hca
    clear ca hca
    have w0:(kk:Int) < bl:=by have:=HLB.o;omega
    have w1:(q:Int) < dl:=by omega
    have w2:(0:Int)<=kk:=by omega
    have w3:(0:Int)<=q:=by omega
    clear s0 s1 hq u0 u1 u2 u3 hspn ho HWn HSe hmk
    go_wp2_with fail
    go_roundw
    case rel=>exact⟨k+1,S++[(lo,hi)],by omega,by go_num,aA HS2.o,aA (by rw[lAa];exact HG2.o),aA HK2.o,aA HT2.o,aA HB2.o⟩
    case measure=>simp[intOf];omega
   ·have ho1:(n.op==4)=false:=by simpa using ho
    have HSp:=aA (rG HG.o (by simp;omega))
    rw[show (S++(0,0)::List.replicate (dl-(k+1)) ((0:Int),(0:Int))).length=dl by simp;omega] at HSp
    have hl:=aD V (.cells (bN n) 124)
    have HOf:=aA (aHv f d hm HWn.o ho (HSp.o.later hl) (by omega))
    rw[aUr (by rw[hSl];exact HWn.o)] at HOf
    have HG1:=aA (HG.o.alloc (.cells (bN n) 124))
    have HK1:=aA (HK.o.alloc (.cells (bN n) 124))
    have HT1:=aA (HT.o.alloc (.cells (bN n) 124))
    have HN1:=aA (aB.new V 124 (bN n))
    have HB1:=aA (bel HB.o hl)
    obtain⟨⟨⟨lo,hi⟩,er⟩,hZ⟩:∃ Z,wT f d BS S n=Z:=⟨_,rfl⟩
    rw[hZ] at HOf HS2
    clear hZ hl ho HWn HSp hmk
    go_wp2_with fail
    refine HOf.o.mono ?_
    rintro e V1 ⟨rfl,hb⟩
    by_cases he:er=0
    ·subst he
     rw[if_pos rfl] at HS2
     have HGa:=aA (HG1.o.below hb)
     have HKa:=aA (HK1.o.below hb)
     have HTa:=aA (HT1.o.below hb)
     have HBa:=aA (bel HB1.o hb)
     have hza:=HGa.o.lt
     have ya:=HGa.o.frozen (k*2)
     have yb:=HGa.o.frozen (k*2+1)
     obtain⟨ca,hca⟩:=jV (S++(0,0)::List.replicate (dl-(k+1)) (0,0)) k (by simp;omega)
     have da:=HGa.o.cell (k*2) ca
     have db:=HGa.o.cell (k*2+1) hca
     have HG2:=aA ((aDg HGa.o hSl lo hi).alloc (.cells #[.i lo,.i hi] 80))
     have HK2:=aA ((aBp HKa.o (r:=W.heap.size+1+1) (k:=k) (by omega) (.i lo) (.i hi)).alloc (.cells #[.i lo,.i hi] 80))
     have HT2:=aA ((aBp HTa.o (r:=W.heap.size+1+1) (k:=k) (by omega) (.i lo) (.i hi)).alloc (.cells #[.i lo,.i hi] 80))
     have HB2:=aA (bel ((HBa.o.setCell (p:=⟨W.heap.size+1+1,k*2,none⟩) (by simp;omega) (.i lo)).setCell (p:=⟨W.heap.size+1+1,k*2+1,none⟩) (by simp;omega) (.i hi)) (aD _ (.cells #[.i lo,.i hi] 80)))
     clear hb HG1 HK1 HT1 HB1 HN1 HG HK HT HB HOf e0 e1 e2 e3 e4 e5 e6 e7 e8 ca hca f0 f1 x1 y0 y1 HSe
     go_wp2_with fail
     go_roundw
     case rel=>exact⟨k+1,S++[(lo,hi)],by omega,by go_num,aA HS2.o,aA (by rw[lAa];exact HG2.o),aA HK2.o,aA HT2.o,aA HB2.o⟩
     case measure=>simp[intOf];omega
    ·rw[if_neg he] at HS2
     have hne:(er != 0)=true:=by simpa using he
     have HF:=aA (HSe.o er he HS2.o)
     have HBa:=aA (bel HB1.o hb)
     clear hb
     have HE:=aA he
     clear he
     go_wp2_with fail
     exact bPr (v:=.tuple #[.slice none 0 0,.i er]) (by simp[results,Tryz.results99,go_sem]) rfl (.inl (by rw[HF.o];exact⟨HE.o,rfl,bel HBa.o (aD _ _)⟩))
  ·obtain rfl:k=dl:=by omega
   have e:NS.take k=NS:=lTl (by rw[HLN.o];exact nLr _)
   have hZ:=HS.o
   rw[e] at hZ
   have HZ:=aA hZ
   have HG1:=aA HG.o
   rw[Nat.sub_self,List.replicate_zero,List.append_nil] at HG1
   clear hZ
   go_wp2_with fail
   exact bPr (v:=.tuple #[.slice (some ⟨W.heap.size+1+1,0,none⟩) k k,.i 0]) (by simp[results,Tryz.results99,go_sem]) rfl (.inr (by rw[HZ.o];exact⟨rfl,_,rfl,by omega,HG1.o,HB.o⟩))
end Go.Proofs.YticnbcfmbhjbgabGreatDoor
namespace Go.Proofs.YticnbcfmbhjbgabGreatDoor
open Go.RowKit Go.IntWalk Lx Pz
theorem pU (o:Int)(W:World):Calls Tryz.prog 105 #[.i o] W fun e W'=>e=.returned (.i (jT o))/\W'=W:=by
 by_cases h1:o=4
 ·subst h1
  go_enter Tryz.func105,Tryz.ntmps105
  go_wp2
  go_ret
  exact⟨rfl,rfl⟩
 by_cases h2:o=11
 ·subst h2
  go_enter Tryz.func105,Tryz.ntmps105
  go_wp2
  go_ret
  exact⟨rfl,rfl⟩
 by_cases h3:o=12
 ·subst h3
  go_enter Tryz.func105,Tryz.ntmps105
  go_wp2
  go_ret
  exact⟨rfl,rfl⟩
 have e:jT o=1:=by unfold jT;rw[if_neg h1,if_neg h2,if_neg h3]
 rw[e]
 have e1:(o==4)=false:=by simpa using h1
 have e2:(o==11)=false:=by simpa using h2
 have e3:(o==12)=false:=by simpa using h3
 clear h1 h2 h3 e
 go_enter Tryz.func105,Tryz.ntmps105
 go_wp2
 go_ret
 exact⟨rfl,rfl⟩
theorem aGq {W:World}{da:Option Addr}{dl dc:Nat}{NS:List Nd}(hN:Nz W da dl dc NS)(hd:dl<=1024) :
  Calls Tryz.prog 100 #[.slice da dl dc] W fun e W'=>e=.returned (.i (rO NS))/\Below W.heap.size W W':=by
 have HNI:=aA hN
 have HLN:=aA hN.len
 clear hN
 go_enter Tryz.func100,Tryz.ntmps100
 go_wp2_with fail
 go_loopw [3,8] (fun s i wr=>∃(k:Nat) (c:Int),k<=dl/\i=.i k/\s=.i c/\0<=c/\c<=6*k/\Hid (c=rO (NS.take k))/\Hid (Below W.heap.size W wr)) (fun _ i _=>dl-(intOf i).toNat)
 case atStart=>exact⟨0,0,nZl _,rfl,rfl,iLr _,iLr _,aA rfl,aA (Below.refl _ _)⟩
 case round =>
  obtain⟨k,c,hk,rfl,rfl,hc0,hc6,HC,HB⟩:=hrel
  rename World=>V
  by_cases hlt:k < dl
  ·obtain⟨g,off,rfl,hat⟩:=(HNI.o.later HB.o).at (by omega)
   obtain⟨e0,e1,e2,e3,e4,e5,e6,e7,e8⟩:=hat k hlt
   clear hat
   have hi0:(0:Int)<=k:=by omega
   have hi1:(k:Int) < dl:=by omega
   have HC2:=aA (show c+jT (NS.getD k n0).op=rO (NS.take (k+1)) by rw[aG n0 (by rw[HLN.o];exact hlt),pR,HC.o])
   obtain⟨z0,z6⟩:=aWm (NS.getD k n0).op
   generalize NS.getD k n0=n at *
   go_wp2_with fail
   refine(pU _ _).mono ?_
   rintro e V1 ⟨rfl,rfl⟩
   generalize jT n.op=z at *
   go_wp2_with fail
   go_roundw
   case rel=>exact⟨k+1,c+z,by omega,by go_num,by go_num,by omega,by omega,aA HC2.o,aA (bel HB.o (aD _ _))⟩
   case measure=>simp[intOf];omega
  ·obtain rfl:k=dl:=by omega
   go_wp2_with fail
   go_ret
   have e:NS.take k=NS:=lTl (by rw[HLN.o];exact nLr _)
   exact⟨aO (show c=rO NS by rw[HC.o,e]),HB.o⟩
theorem aE1 (D:List Int)(k:Nat)(hk:k < D.length):(D.take (k+1)).foldl max 0=max ((D.take k).foldl max 0) (D.getD k 0):=by
 rw[aG 0 hk,List.foldl_append];rfl
theorem aQg {W:World}{a:Option Addr}{n cap:Nat}{D:List Int}(hD:Iz W a n cap D)(hn:1<=n)(h1:∀ x ∈ D,1<=x) :
  Calls Tryz.prog 101 #[.slice a n cap] W fun e W'=>e=.returned (.i (mxR D))/\W'=W:=by
 have hm:n<=9223372036854775807:=by have:=hD.le;have:=hD.max;unfold maxLen at *;omega
 obtain⟨b,off,rfl,hc⟩:∃ b off,a=some ⟨b,off,none⟩/\∀ i,i < n->W.cell? ⟨b,off+i,none⟩=some (.i (D.getD i 0)):=by
  rcases hD.cell with h0|⟨b,off,ha,-,hc⟩
  ·omega
  ·exact⟨b,off,ha,hc⟩
 have HLN:=aA hD.len
 have c0:=hc 0 (by omega)
 rw[Nat.add_zero] at c0
 have hi0:(1:Int)<=n:=by omega
 have hi1:(0:Int) < n:=by omega
 have H0:=aA (show D.getD 0 0=(D.take 1).foldl max 0 by
  have h2:=aE1 D 0 (by rw[hD.len];omega)
  have h3:1<=D.getD 0 0:=by
   rw[gdE,gEg (by rw[hD.len];omega)]
   exact h1 _ (List.getElem_mem _)
  rw[h2]
  simp only[List.take_zero,List.foldl_nil]
  omega)
 have HC:=aA hc
 clear hc hD h1
 generalize D.getD 0 0=d0 at *
 go_enter Tryz.func101,Tryz.ntmps101
 go_wp2_with fail
 go_loop [3,4] (fun m i=>∃(k:Nat) (c:Int),1<=k/\k<=n/\i=.i k/\m=.i c/\Hid (c=(D.take k).foldl max 0)) (fun _ i=>n-(intOf i).toNat)
 case atStart=>exact⟨1,d0,nLr _,hn,rfl,rfl,H0⟩
 case round =>
  obtain⟨k,c,hk1,hk,rfl,rfl,HM⟩:=hrel
  by_cases hlt:k < n
  ·have c1:=HC.o k hlt
   have j0:(0:Int)<=k:=by omega
   have j1:(k:Int) < n:=by omega
   have HM2:=aA (show max c (D.getD k 0)=(D.take (k+1)).foldl max 0 by rw[aE1 D k (by rw[HLN.o];exact hlt),HM.o])
   generalize D.getD k 0=x at *
   go_wp2_with fail
   go_round
   case rel=>exact⟨k+1,max c x,by omega,by omega,by go_num,rfl,HM2⟩
   case measure=>simp[intOf];omega
  ·obtain rfl:k=n:=by omega
   go_wp2_with fail
   go_ret
   have e:D.take k=D:=lTl (by rw[HLN.o];exact nLr _)
   exact⟨aO (show c=mxR D by rw[HM.o,e];rfl),rfl⟩
end Go.Proofs.YticnbcfmbhjbgabGreatDoor
