import Derived.Test.YticnbcfmbhjbgaaGreatDoorX11
import Derived.Test.YticnbcfmbhjbgaaGreatDoorX20
set_option maxRecDepth 100000
set_option maxHeartbeats 32000000
set_option linter.unusedVariables false
namespace Go.Proofs.YticnbcfmbhjbgaaGreatDoor
section
open Lx Pz
variable {BS D:List Int} {d f o:Int} {i:Nat}
structure Dec (NM:List aM)(BS:List Int)(NS:List Nd)(root:Int)(es:List E)(ex:E):Prop where
 nodes:NS=jL es 0++ex.flat (bZ es)
 binds:BS=iA es 0
 names:NM.length=es.length
 gd:∀ j e,es[j]?=some e->Gd j e
 gx:Gd es.length ex
 ok:zO NM=true
 root:root=(NS.length:Int)-1
 few:NS.length<=1024
theorem iK {NM:List aM}{NS:List Nd}{root:Int}:pO NM BS NS root=true↔∃ es ex,Dec NM BS NS root es ex:=by
 constructor
 ·intro h
  simp only[pO,bAt,beq_iff_eq] at h
  obtain⟨h1,h2,h3,h4⟩:=h
  simp only[yJ,bW,bAt,dEt,beq_iff_eq] at h2
  obtain⟨es,ex,e1,e2,e3,e4⟩:=zU.1 h3
  refine⟨es,ex,e1,e2,?_,e3,e4,h4,h2.2,by omega⟩
  rw[h1,e2,eX]
 ·rintro⟨es,ex,h⟩
  simp only[pO,bAt,beq_iff_eq]
  refine⟨by rw[h.names,h.binds,eX],?_,zU.2 ⟨es,ex,h.nodes,h.binds,h.gd,h.gx⟩,h.ok⟩
  simp only[yJ,bW,bAt,dEt,beq_iff_eq]
  have:=h.few
  have h2:1<=NS.length:=by rw[h.nodes,lLa,E.flat_len];have:=ex.size_pos;omega
  exact⟨⟨by omega,by omega⟩,h.root⟩
def dG (n:Nd):List Int:=[n.a,n.b,n.c].take (gM n.op).toNat
abbrev eO:=List (Int × Int)
abbrev jX (n:Nd):Knd.Plc:=⟨n.back,n.co,n.x,n.y⟩
def sV (f d:Int)(BS:List Int)(S:eO)(n:Nd):(Int × Int) × Int :=
 if n.op=4 then(S.getD (BS.getD n.k.toNat 0).toNat (0,0),0) else
 if n.op=1 then((n.k,n.k),0) else
 if n.op=2 then((Knd.gL f d n.k).getD (0,0),0) else
 if n.op=3 then((Knd.fG f d,Knd.cK f d),0) else
 Spn.ofZ n.op 0 0 ((dG n).map fun p=>S.getD p.toNat (0,0))
def oQ (f d:Int)(BS:List Int):List Nd->eO->eO × Int
 | [],S=>(S,0)
 | n::NS,S=>if (sV f d BS S n).2=0 then oQ f d BS NS (S++[(sV f d BS S n).1]) else([],(sV f d BS S n).2)
def dpN (BS:List Int)(D:List Int)(n:Nd):Int :=
 if n.op=4 then D.getD (BS.getD n.k.toNat 0).toNat 0 else((dG n).map fun p=>D.getD p.toNat 0).foldl max 0+1
def rY (BS:List Int):List Nd->List Int->List Int
 | [],D=>D
 | n::NS,D=>rY BS NS (D++[dpN BS D n])
def jK (o:Int):Int:=if o=4 then 0 else if o=11 then 4 else if o=12 then 6 else 1
def oW (NS:List Nd):Int:=NS.foldl (fun s n=>s+jK n.op) 0
def mxR (D:List Int):Int:=D.foldl max 0
def ahB (f d:Int)(n:Nd):Bool:=n.op==3&&(Knd.mP f d (jX n)).isNone
def jZ (f d:Int)(NM:List aM)(BS:List Int)(NS:List Nd)(root:Int):Int :=
 if ¬Knd.May f d then 1 else if pO NM BS NS root=false then 3 else if NS.any (ahB f d)=true then 11 else if (oQ f d BS NS []).2≠0 then(oQ f d BS NS []).2 else
 if 200 < oW NS\/24 < mxR (rY BS NS []) then 14 else 0
structure Wn (BS:List Int)(i:Nat)(n:Nd):Prop where
 lo:1<=n.op
 hi:n.op<=28
 pr:0<=gM n.op
 ar:n.op≠4->lW n.op=gM n.op
 use:n.op=4->0<=n.k/\n.k.toNat < BS.length/\0<=BS.getD n.k.toNat 0/\(BS.getD n.k.toNat 0).toNat < i
 prt:∀ p ∈ dG n,0<=p/\p.toNat < i
 num:n.op=1->0<=n.k/\n.k<=2147483647
 inp:n.op=2->0<=n.k/\n.k<=5
 wf:(jX n).wf
def Wl (BS:List Int):Nat->List Nd->Prop
 | _,[]=>True
 | i,n::r=>Wn BS i n/\Wl BS (i+1) r
theorem mZ (BS:List Int):∀(A B:List Nd) (i:Nat),Wl BS i (A++B)↔Wl BS i A/\Wl BS (i+A.length) B
 | [],B,i=>by simp[Wl]
 | n::A,B,i=>by
  simp only[List.cons_append,Wl,lLc]
  rw[mZ BS A B (i+1),show i+1+A.length=i+(A.length+1) by omega]
  constructor
  ·rintro⟨a,b,c⟩;exact⟨⟨a,b⟩,c⟩
  ·rintro⟨⟨a,b⟩,c⟩;exact⟨a,b,c⟩
theorem aB2 {BS:List Int}:∀ {NS:List Nd} {s i:Nat},Wl BS s NS->i < NS.length->Wn BS (s+i) (NS.getD i n0)
 | [],s,i,h,hi=>by simp at hi
 | n::NS,s,0,h,hi=>by simpa using h.1
 | n::NS,s,i+1,h,hi=>by
  have:=aB2 (i:=i) h.2 (by simpa using hi)
  rw[show s+1+i=s+(i+1) by omega] at this
  simpa using this
theorem aDg (h:gM o=0):o=1\/o=2\/o=3\/o=4:=by
 unfold gM lW at h
 repeat' split at h
 all_goals omega
theorem aYt (h:0 < gM o):5<=o/\o<=28/\lW o=gM o:=by
 have h0:=h
 unfold gM at h
 split at h
 ·omega
 ·split at h
  ·omega
  ·rename_i h1 h2
   refine⟨?_,by omega,by unfold gM;rw[if_neg h1,if_neg h2]⟩
   unfold lW at h
   repeat' split at h
   all_goals omega
theorem wV (o:Int):Spn.ar o=lW o:=by
 unfold Spn.ar lW Spn.fC
 by_cases h1:o=1\/o=2\/o=3
 ·rw[if_pos h1,if_pos h1]
 rw[if_neg h1,if_neg h1]
 by_cases h2:5<=o/\o<=7
 ·rw[if_pos (.inl (by simp;omega)),if_pos h2]
 by_cases h3:29<=o/\o<=33
 ·rw[if_pos (.inr (by simp;omega)),if_neg h2,if_pos h3]
 rw[if_neg (by simp;omega),if_neg h2,if_neg h3]
 by_cases h4:8<=o/\o<=25
 ·rw[if_pos (by simp;omega),if_pos h4]
 rw[if_neg (by simp;omega),if_neg h4]
 by_cases h5:26<=o/\o<=28
 ·rw[if_pos (by simp;omega),if_pos h5]
 rw[if_neg (by simp;omega),if_neg h5]
theorem aVt {bd:Nat}{n:Nd}(h:Gd bd (.leaf n))(hb:bd<=BS.length)(hu:∀ k,k < bd->0<=BS.getD k 0/\(BS.getD k 0).toNat < i):Wn BS i n:=by
 obtain⟨h1,h2,h3,h4,h5⟩:=h
 have hp:dG n=[]:=by unfold dG;rw[h4];rfl
 unfold kC at h5
 have hw:(jX n).wf:=by
  unfold Knd.Plc.wf Knd.gY jX
  dsimp only
  split at h5
  ·simp only[zM,bW,MX,bAt,dEt,beq_iff_eq,Bool.or_eq_true] at h5
   omega
  ·simp only[rR,bAt,beq_iff_eq] at h5
   obtain⟨⟨⟨⟨a,b⟩,c⟩,e⟩,-⟩:=h5
   simp only[a,b,c,e]
   omega
 have hk:n.op≠3->0<=n.k/\n.k<=jC n.op bd:=by
  intro h
  rw[if_neg h] at h5
  simp only[bW,bAt,dEt] at h5
  exact h5.2
 refine⟨by have:=aDg h4;omega,by have:=aDg h4;omega,by omega,fun h=>?_,fun h=>?_,by rw[hp];simp,fun h=>?_,fun h=>?_,hw⟩
 ·rcases aDg h4 with e|e|e|e
  ·rw[h4,e];rfl
  ·rw[h4,e];rfl
  ·rw[h4,e];rfl
  ·exact absurd e h
 ·obtain⟨a,b⟩:=hk (by omega)
  rw[h] at b
  have e:jC 4 bd=(bd:Int)-1:=rfl
  rw[e] at b
  have:=hu n.k.toNat (by omega)
  exact⟨a,by omega,this.1,this.2⟩
 ·obtain⟨a,b⟩:=hk (by omega)
  rw[h] at b
  have e:jC 1 bd=2147483647:=rfl
  rw[e] at b
  exact⟨a,b⟩
 ·obtain⟨a,b⟩:=hk (by omega)
  rw[h] at b
  have e:jC 2 bd=5:=rfl
  rw[e] at b
  exact⟨a,b⟩
theorem aRm {a b c:Int}(h:0 < gM o)(hp:∀ p ∈ [a,b,c].take (gM o).toNat,0<=p/\p.toNat < i):Wn BS i ⟨o,a,b,c,0,0,0,0,0⟩:=by
 obtain⟨h1,h2,h3⟩:=aYt h
 refine⟨?_,h2,?_,fun _=>h3,fun e=>?_,hp,fun e=>?_,fun e=>?_,?_⟩
 ·show (1:Int)<=o;omega
 ·show 0<=gM o;omega
 ·exfalso;have:o=4:=e;omega
 ·exfalso;have:o=1:=e;omega
 ·exfalso;have:o=2:=e;omega
 ·unfold Knd.Plc.wf Knd.gY jX;simp only;omega
theorem aGn {BS:List Int}{bd:Nat}(hb:bd<=BS.length):∀(e:E) (s:Nat),Gd bd e->(∀ k,k < bd->0<=BS.getD k 0/\(BS.getD k 0).toNat < s)->Wl BS s (e.flat s)
 | .leaf n,s,h,hu=>⟨aVt h hb hu,trivial⟩
 | .un o a,s,h,hu=>by
  have h1:=a.size_pos
  rw[E.flat,mZ,E.flat_len]
  refine⟨aGn hb a s h.2 hu,aRm (by rw[h.1];decide) ?_,trivial⟩
  rw[h.1]
  simp only[show ((1:Int)).toNat=1 from rfl,List.take_succ_cons,List.take_zero,lMm,lNm,or_false,forall_eq]
  omega
 | .bin o a b,s,h,hu=>by
  have h1:=a.size_pos
  have h2:=b.size_pos
  rw[E.flat,mZ,mZ,lLa,E.flat_len,E.flat_len]
  refine⟨⟨aGn hb a s h.2.1 hu,aGn hb b _ h.2.2 fun k hk=>⟨(hu k hk).1,by have:=(hu k hk).2;omega⟩⟩,aRm (by rw[h.1];decide) ?_,trivial⟩
  rw[h.1]
  simp only[show ((2:Int)).toNat=2 from rfl,List.take_succ_cons,List.take_zero,lMm,lNm,or_false,forall_eq_or_imp,forall_eq]
  omega
 | .tri o a b c,s,h,hu=>by
  have h1:=a.size_pos
  have h2:=b.size_pos
  have h3:=c.size_pos
  rw[E.flat,mZ,mZ,mZ]
  simp only[lLa,E.flat_len]
  refine⟨⟨⟨aGn hb a s h.2.1 hu,aGn hb b _ h.2.2.1 fun k hk=>⟨(hu k hk).1,by have:=(hu k hk).2;omega⟩⟩,?_⟩,aRm (by rw[h.1];decide) ?_,trivial⟩
  ·rw[show s+(a.size+b.size)=s+a.size+b.size by omega]
   exact aGn hb c _ h.2.2.2 fun k hk=>⟨(hu k hk).1,by have:=(hu k hk).2;omega⟩
  ·rw[h.1]
   simp only[show ((3:Int)).toNat=3 from rfl,List.take_succ_cons,List.take_zero,lMm,lNm,or_false,forall_eq_or_imp,forall_eq]
   omega
theorem aAg:∀(es:List E) (m:Nat),bZ (es.take m)<=bZ es
 | [],m=>by simp
 | a::es,0=>by simp[bZ]
 | a::es,m+1=>by simp only[List.take_succ_cons,bZ];have:=aAg es m;omega
theorem aMz:∀(es:List E) (s k:Nat),k < es.length->0<=(iA es s).getD k 0/\((iA es s).getD k 0).toNat < s+bZ (es.take (k+1))
 | [],s,k,h=>by simp at h
 | a::es,s,0,h=>by
  have:=a.size_pos
  simp only[iA,List.getD_cons_zero,List.take_succ_cons,List.take_zero,bZ]
  omega
 | a::es,s,k+1,h=>by
  have:=aMz es (s+a.size) k (by simpa using h)
  simp only[iA,List.getD_cons_succ,List.take_succ_cons,bZ]
  omega
theorem bB9 {BS:List Int}:∀(es pre:List E),BS=iA (pre++es) 0->(∀ j e,es[j]?=some e->Gd (pre.length+j) e)->Wl BS (bZ pre) (jL es (bZ pre))
 | [],pre,h,hg=>trivial
 | a::es,pre,h,hg=>by
  have hl:BS.length=pre.length+(es.length+1):=by rw[h,eX];simp
  rw[jL,mZ,E.flat_len]
  constructor
  ·refine aGn (bd:=pre.length) (by omega) a _ (by simpa using hg 0 a rfl) fun k hk=>?_
   have h1:=aMz (pre++a::es) 0 k (by simp;omega)
   rw[<-h,List.take_append_of_le_length (by omega)] at h1
   have h2:=aAg pre (k+1)
   omega
  ·have:=bB9 (BS:=BS) es (pre++[a]) (by rw[h];simp) fun j e he=>by
    have:=hg (j+1) e (by simpa using he)
    simp only[lLa,lLc,lLn]
    rw[show pre.length+(0+1)+j=pre.length+(j+1) by omega]
    exact this
   rwa[aDz,show bZ [a]=a.size by simp[bZ]] at this
theorem Dec.wl {NM:List aM}{NS:List Nd}{root:Int}{es:List E}{ex:E}(h:Dec NM BS NS root es ex):Wl BS 0 NS:=by
 rw[h.nodes,mZ,dD,nZa]
 constructor
 ·have:=bB9 (BS:=BS) es [] (by simpa using h.binds) (by simpa using h.gd)
  simpa [bZ] using this
 ·refine aGn (bd:=es.length) (by rw[h.binds,eX];exact nLr _) ex _ h.gx fun k hk=>?_
  have h1:=aMz es 0 k hk
  rw[<-h.binds] at h1
  have h2:=aAg es (k+1)
  omega
theorem aDx (f d:Int)(BS:List Int):∀(A B:List Nd) (S:eO),oQ f d BS (A++B) S=if (oQ f d BS A S).2=0 then oQ f d BS B (oQ f d BS A S).1 else([],(oQ f d BS A S).2)
 | [],B,S=>by simp[oQ]
 | n::A,B,S=>by
  simp only[List.cons_append,oQ]
  split
  ·exact aDx f d BS A B _
  ·rfl
theorem aJ1 {f d:Int}{BS:List Int}:∀ {A:List Nd} {S T:eO},oQ f d BS A S=(T,0)->T.length=S.length+A.length
 | [],S,T,h=>by cases h;rfl
 | n::A,S,T,h=>by
  simp only[oQ] at h
  split at h
  ·have:=aJ1 h
   simp only[lLa,lLc,lLn] at this ⊢
   omega
  ·rename_i h1;exact absurd (congrArg Prod.snd h) h1
theorem aQx {A:List Nd}{n:Nd}{S T:eO}(h:oQ f d BS A S=(T,0)):oQ f d BS (A++[n]) S=if (sV f d BS T n).2=0 then(T++[(sV f d BS T n).1],0) else([],(sV f d BS T n).2):=by
 rw[aDx,h];simp only[oQ,if_true]
theorem aU6 {A B:List Nd}{S T:eO}{e:Int}(h:oQ f d BS A S=(T,e))(he:e≠0):oQ f d BS (A++B) S=([],e):=by
 rw[aDx,h];exact if_neg he
theorem aIu (BS:List Int):∀(A B:List Nd) (D:List Int),rY BS (A++B) D=rY BS B (rY BS A D)
 | [],B,D=>rfl
 | n::A,B,D=>aIu BS A B _
theorem aCl (BS:List Int):∀(A:List Nd) (D:List Int),(rY BS A D).length=D.length+A.length
 | [],D=>rfl
 | n::A,D=>by rw[rY,aCl BS A];simp;omega
theorem pW:∀(L:List Int) (a m:Int),a<=m->(∀ x ∈ L,x<=m)->L.foldl max a<=m
 | [],a,m,h,_=>h
 | x::L,a,m,h,hl=>pW L _ m (by have:=hl x (by simp);omega) fun y hy=>hl y (by simp[hy])
theorem mF:∀(L:List Int) (a:Int),a<=L.foldl max a
 | [],a=>iLr _
 | x::L,a=>Int.le_trans (Int.le_max_left a x) (mF L _)
theorem uL:∀(L:List Int) (a x:Int),x ∈ L->x<=L.foldl max a
 | y::L,a,x,h=>by
  rcases lMm.1 h with rfl|h
  ·exact Int.le_trans (Int.le_max_right a x) (mF L _)
  ·exact uL L _ x h
def Db (D:List Int):Prop:=∀ x ∈ D,1<=x/\x<=D.length
theorem Db.at (h:Db D)(hi:i < D.length):1<=D.getD i 0/\D.getD i 0<=D.length:=by
 rw[gdE,gEg hi]
 exact h _ (List.getElem_mem hi)
theorem aNl {n:Nd}(h:Db D)(hn:Wn BS D.length n):1<=dpN BS D n/\dpN BS D n<=D.length+1:=by
 unfold dpN
 split
 ·rename_i h4
  obtain⟨-,-,-,h2⟩:=hn.use h4
  have:=h.at h2
  omega
 ·have h1:=mF ((dG n).map fun p=>D.getD p.toNat 0) 0
  have h2:=pW ((dG n).map fun p=>D.getD p.toNat 0) 0 D.length (by omega) fun x hx=>by
   obtain⟨p,hp,rfl⟩:=List.mem_map.1 hx
   exact(h.at (hn.prt p hp).2).2
  omega
theorem Db.snoc {n:Nd}(h:Db D)(hn:Wn BS D.length n):Db (D++[dpN BS D n]):=by
 have h1:=aNl h hn
 intro x hx
 simp only[lLa,lLc,lLn]
 rcases List.mem_append.1 hx with hx|hx
 ·have:=h x hx;omega
 ·simp at hx;subst hx;omega
theorem Db.all {BS:List Int}:∀ {A:List Nd} {D:List Int},Db D->Wl BS D.length A->Db (rY BS A D)
 | [],D,h,_=>h
 | n::A,D,h,hw=>by
  rw[rY]
  exact Db.all (h.snoc hw.1) (by simpa using hw.2)
theorem pQ (A:List Nd)(n:Nd):oW (A++[n])=oW A+jK n.op:=by
 unfold oW;rw[List.foldl_append];rfl
theorem aWx (o:Int):0<=jK o/\jK o<=6:=by unfold jK;repeat' split <;> omega
theorem aG {α:Type}(z:α){L:List α}{k:Nat}(h:k < L.length):L.take (k+1)=L.take k++[L.getD k z]:=by
 rw[List.take_add_one,gEg h,gdE,gEg h]
 rfl
end
section
open Go.RowKit Go.IntWalk Lx Pz
abbrev ab3 (n:Nd):Array Value:=#[.i n.a,.i n.b,.i n.c]
def PaP (w:World)(n:Nd)(k:Nat)(e:Ending)(W':World):Prop:=∃ g,e=.returned (.slice (some ⟨g,0,none⟩) k 3)/\w.heap.size<=g/\aB W' g 3 (ab3 n)/\Below w.heap.size w W'
theorem wK (n:Nd)(k:Nat)(hk:lW n.op=(k:Int))(h3:k<=3)(w:World):Calls Tryz.prog 113 #[.agg (bH n)] w (PaP w n k):=by
 have HA:=aA fun W=>bQ n.op W
 rw[hk] at HA
 have HB:=aA (aD w (.cells (bH n) 137))
 obtain⟨f0,f1,f2,f3,f4,f5,f6,f7,f8⟩:=(aB.new w 137 (bH n)).nine
 have hz:w.heap.size < (w.alloc (.cells (bH n) 137)).heap.size:=by simp
 clear hk
 have hk0:(0:Int)<=k:=by omega
 have hk1:(k:Int)<=3:=by omega
 go_enter Tryz.func113,Tryz.ntmps113
 go_wp2_with fail
 go_region_held3 (fun w'=>w'.cell? ⟨w.heap.size,0,none⟩=some (.i n.op)/\w'.cell? ⟨w.heap.size,1,none⟩=some (.i n.a)/\w'.cell? ⟨w.heap.size,2,none⟩=some (.i n.b)/\w'.cell? ⟨w.heap.size,3,none⟩=some (.i n.c))
  (first|exact⟨f0,f1,f2,f3⟩|go_keep)
  ((first
   | (go_at_call 129;refine(HA.o _).mono ?_;rintro e w2 ⟨rfl,rfl⟩)))
 all_goals
  go_wp2
  go_ret
  have h5:=aB.new (w.alloc (.cells (bH n) 137)) 3 (ab3 n)
  rw[wSa] at h5
  exact⟨w.heap.size+1,rfl,Nat.le_succ _,h5,(HB.o.alloc HB.o.size _).drew⟩
abbrev dB (f d:Int):Array Value:=#[.i f,.i d]
def sN (f d:Int)(NM:List aM)(BS:List Int)(NS:List Nd)(root:Int):Int :=
 if ¬Knd.May f d then 1 else if pO NM BS NS root=false then 3 else if NS.any (ahB f d)=true then 11 else 0
theorem aMu {f d:Int}{NS:List Nd}{k:Nat}(hk:k < NS.length)(h:(NS.take k).any (ahB f d)=false)(h2:ahB f d (NS.getD k n0)=false):(NS.take (k+1)).any (ahB f d)=false:=by
 rw[aG n0 hk,List.any_append,h,List.any_cons,h2];rfl
theorem aWq {f d:Int}{NS:List Nd}{k:Nat}(hk:k < NS.length)(h2:ahB f d (NS.getD k n0)=true):NS.any (ahB f d)=true:=by
 rw[List.any_eq_true]
 refine⟨NS.getD k n0,?_,h2⟩
 rw[gdE,gEg hk]
 exact List.getElem_mem hk
theorem aNn (f d:Int){W:World}{na ba da:Option Addr}{nl nc bl bc dl dc:Nat}{root:Int}{NM:List aM}{BS:List Int}{NS:List Nd}(hX:Tx W na nl nc NM)(hB:Iz W ba bl bc BS)(hN:Nz W da dl dc NS)(hs:∀ s ∈ NM,s.length<=9223372036854775807) :
  Calls Tryz.prog 54 #[.agg (dB f d),.agg (eY (.slice na nl nc) (.slice ba bl bc) (.slice da dl dc) (.i root))] W fun e W'=>e=.returned (.i (sN f d NM BS NS root))/\Below W.heap.size W W':=by
 have hb1:=aD W (.cells (dB f d) 23)
 have hb2:=bel hb1 (aD (W.alloc (.cells (dB f d) 23)) (.cells (eY (.slice na nl nc) (.slice ba bl bc) (.slice da dl dc) (.i root)) 50))
 have HK0:=aA ((aB.new W 23 (dB f d)).alloc (.cells (eY (.slice na nl nc) (.slice ba bl bc) (.slice da dl dc) (.i root)) 50))
 have HT0:Hid (aB ((W.alloc (.cells (dB f d) 23)).alloc (.cells (eY (.slice na nl nc) (.slice ba bl bc) (.slice da dl dc) (.i root)) 50)) (W.heap.size+1) 50 (eY (.slice na nl nc) (.slice ba bl bc) (.slice da dl dc) (.i root))):=by
  have:=aB.new (W.alloc (.cells (dB f d) 23)) 50 (eY (.slice na nl nc) (.slice ba bl bc) (.slice da dl dc) (.i root))
  rw[wSa] at this
  exact aA this
 have HX:=aA (hX.later hb2)
 have HBI:=aA (hB.later hb2)
 have HNI:=aA (hN.later hb2)
 have HLN:=aA hN.len
 have HS:=aA hs
 have HB0:=aA hb2
 have hdl:dl<=9223372036854775807:=by have:=hN.le;have:=hN.max;unfold maxLen at *;omega
 clear hX hB hN hb1 hb2 hs
 by_cases hm:Knd.May f d
 ·have HCK:=aA fun w=>Knd.fK f d w hm
  cases hc:pO NM BS NS root with
  | false =>
   rw[show sN f d NM BS NS root=3 by unfold sN;rw[if_neg (by simpa using hm),if_pos hc]]
   go_enter Tryz.func54,Tryz.ntmps54
   go_wp2_with fail
   refine(HCK.o _).mono ?_
   rintro e V1 ⟨rfl,hb⟩
   have HT1:=aA (HT0.o.below hb)
   obtain⟨t0,t1,t2,t3⟩:V1.cell? ⟨W.heap.size+1,0,none⟩=some (.slice na nl nc)/\V1.cell? ⟨W.heap.size+1,1,none⟩=some (.slice ba bl bc)/\V1.cell? ⟨W.heap.size+1,2,none⟩=some (.slice da dl dc)/\V1.cell? ⟨W.heap.size+1,3,none⟩=some (.i root):=⟨HT1.o.cell 0 rfl,HT1.o.cell 1 rfl,HT1.o.cell 2 rfl,HT1.o.cell 3 rfl⟩
   have HB1:=aA (bel HB0.o hb)
   have HPC:=aA (uX (root:=root) (HX.o.later hb) (HBI.o.later hb) (HNI.o.later hb) HS.o)
   rw[hc] at HPC
   clear hb HX HBI HNI HK0 HT0 HB0 HCK
   go_wp2_with fail
   refine HPC.o.mono ?_
   rintro e V2 ⟨rfl,hb⟩
   simp only[Bool.false_eq_true,if_false]
   go_wp2_with fail
   go_ret
   exact⟨rfl,bel HB1.o hb⟩
  | true =>
   obtain⟨es,ex,hD⟩:=iK.1 hc
   have HW:=aA hD.wl
   have hfew:dl<=1024:=by rw[<-HLN.o];exact hD.few
   clear hD
   rw[show sN f d NM BS NS root=if NS.any (ahB f d)=true then 11 else 0 by unfold sN;rw[if_neg (by simpa using hm),if_neg (by rw[hc];simp)]]
   obtain⟨R,hR⟩:∃ R:Int,(if NS.any (ahB f d)=true then 11 else 0)=R:=⟨_,rfl⟩
   rw[hR]
   have HR:=aA hR
   clear hR
   go_enter Tryz.func54,Tryz.ntmps54
   go_wp2_with fail
   refine(HCK.o _).mono ?_
   rintro e V1 ⟨rfl,hb⟩
   have HT1:=aA (HT0.o.below hb)
   have HK1:=aA (HK0.o.below hb)
   obtain⟨t0,t1,t2,t3⟩:V1.cell? ⟨W.heap.size+1,0,none⟩=some (.slice na nl nc)/\V1.cell? ⟨W.heap.size+1,1,none⟩=some (.slice ba bl bc)/\V1.cell? ⟨W.heap.size+1,2,none⟩=some (.slice da dl dc)/\V1.cell? ⟨W.heap.size+1,3,none⟩=some (.i root):=⟨HT1.o.cell 0 rfl,HT1.o.cell 1 rfl,HT1.o.cell 2 rfl,HT1.o.cell 3 rfl⟩
   have HB1:=aA (bel HB0.o hb)
   have HNI1:=aA (HNI.o.later hb)
   have HPC:=aA (uX (root:=root) (HX.o.later hb) (HBI.o.later hb) (HNI.o.later hb) HS.o)
   rw[hc] at HPC
   clear hb HX HBI HNI HK0 HT0 HB0 HCK
   go_wp2_with fail
   refine HPC.o.mono ?_
   rintro e V2 ⟨rfl,hb⟩
   simp only[if_true]
   have HT2:=aA (HT1.o.below hb)
   have HK2:=aA (HK1.o.below hb)
   have HB2:=aA (bel HB1.o hb)
   have HNI2:=aA (HNI1.o.later hb)
   have x2:=HT2.o.cell 2 rfl
   clear hb HPC HB1 HNI1 HK1 HT1 t0 t1 t2 t3
   go_wp2_with fail
   go_loopw [24] (fun i wr=>∃ k:Nat,k<=dl/\i=.i k/\Hid ((NS.take k).any (ahB f d)=false)/\Hid (Below V2.heap.size V2 wr)) (fun i _=>dl-(intOf i).toNat)
   case atStart=>exact⟨0,nZl _,rfl,aA rfl,aA (Below.refl _ _)⟩
   case round =>
    obtain⟨k,hk,rfl,HA,HB⟩:=hrel
    rename World=>V
    by_cases hlt:k < dl
    ·obtain⟨g,off,rfl,hat⟩:=(HNI2.o.later HB.o).at (by omega)
     obtain⟨e0,e1,e2,e3,e4,e5,e6,e7,e8⟩:=hat k hlt
     clear hat
     have hi0:(0:Int)<=k:=by omega
     have hi1:(k:Int) < dl:=by omega
     have hw:=(aB2 HW.o (by rw[HLN.o];exact hlt:k < NS.length)).wf
     have HA2:=aA fun h=>aMu (f:=f) (d:=d) (by rw[HLN.o];exact hlt) HA.o h
     have HA3:=aA fun h=>aWq (f:=f) (d:=d) (NS:=NS) (k:=k) (by rw[HLN.o];exact hlt) h
     obtain⟨f0,f1⟩:V.cell? ⟨W.heap.size,0,none⟩=some (.i f)/\V.cell? ⟨W.heap.size,1,none⟩=some (.i d):=⟨(HK2.o.below HB.o).cell 0 rfl,(HK2.o.below HB.o).cell 1 rfl⟩
     have hz0:W.heap.size < V.heap.size:=(HK2.o.below HB.o).lt
     generalize NS.getD k n0=n at *
     by_cases ho:n.op=3
     ·have ho1:(n.op != 3)=false:=by simpa using ho
      have HNum:=aA fun w=>Knd.jP f d (jX n) hw w
      unfold Knd.aPe at HNum
      cases hz:Knd.mP f d (jX n) with
      | none =>
       rw[hz] at HNum
       simp only[Option.getD_none,Option.isSome_none] at HNum
       have HE:=aA (HA3.o (by unfold ahB;rw[hz,ho];rfl))
       clear hz ho hw HA2 HA3
       go_wp2_with fail
       refine(HNum.o _).mono ?_
       rintro e V3 ⟨rfl,hb⟩
       go_wp2_with fail
       go_ret
       exact⟨aO (by rw[<-HR.o,HE.o];rfl),bel (bel (bel HB2.o HB.o) (aD _ _)) hb⟩
      | some z =>
       rw[hz] at HNum
       simp only[oGs,Option.isSome_some] at HNum
       have HE:=aA (HA2.o (by unfold ahB;rw[hz];simp))
       clear hz ho hw HA2 HA3
       go_wp2_with fail
       refine(HNum.o _).mono ?_
       rintro e V3 ⟨rfl,hb⟩
       have HB3:=aA (bel (bel HB.o (aD _ _)) hb)
       clear hb
       go_wp2_with fail
       go_roundw
       case rel=>exact⟨k+1,by omega,by go_num,aA HE.o,aA HB3.o⟩
       case measure=>simp[intOf];omega
     ·have ho1:(n.op != 3)=true:=by simpa using ho
      have HE:=aA (HA2.o (by unfold ahB;rw[show (n.op==3)=false by simpa using ho];rfl))
      clear ho hw HA2 HA3
      have HB3:=aA (bel HB.o (aD V (.cells (bH n) 137)))
      go_wp2_with fail
      go_roundw
      case rel=>exact⟨k+1,by omega,by go_num,aA HE.o,aA HB3.o⟩
      case measure=>simp[intOf];omega
    ·obtain rfl:k=dl:=by omega
     have HE:Hid (NS.any (ahB f d)=false):=aA (by have e:NS.take k=NS:=lTl (by rw[HLN.o];exact nLr _);have:=HA.o;rwa[e] at this)
     go_wp2_with fail
     go_ret
     exact⟨aO (by rw[<-HR.o,HE.o];rfl),bel HB2.o HB.o⟩
 ·have HCK:=aA fun w=>Knd.iM f d w hm
  rw[show sN f d NM BS NS root=1 by unfold sN;rw[if_pos hm]]
  go_enter Tryz.func54,Tryz.ntmps54
  go_wp2_with fail
  refine(HCK.o _).mono ?_
  rintro e V1 ⟨rfl,hb⟩
  go_wp2_with fail
  go_ret
  exact⟨rfl,bel HB0.o hb⟩
end
section
open Go.RowKit Go.IntWalk Lx Pz
variable {b k:Nat} {W:World} {t:TypeId}
theorem aU7 {S:eO}{n:Nd}(hk:k < (dG n).length):((dG n).map fun p=>S.getD p.toNat (0,0)).take (k+1)=((dG n).map fun p=>S.getD p.toNat (0,0)).take k++[S.getD ((dG n).getD k 0).toNat (0,0)]:=by
 rw[aG (0,0) (by simpa using hk)]
 congr 2
 simp[List.getD_eq_getElem?_getD,List.getElem?_map,List.getElem?_eq_getElem hk]
theorem uP {n:Nd}(hp:gM n.op=k)(h3:k<=3):(dG n).length=k:=by
 unfold dG;rw[hp];simp;omega
theorem aDh {n:Nd}{j:Nat}(hp:gM n.op=k)(h3:k<=3)(hj:j < k):(ab3 n)[j]?=some (.i ((dG n).getD j 0))/\(dG n).getD j 0 ∈ dG n:=by
 have hl:=uP hp h3
 refine⟨?_,?_⟩
 ·unfold dG
  rw[hp]
  rcases(show k=1\/k=2\/k=3 by omega) with rfl|rfl|rfl
  ·obtain rfl:j=0:=by omega
   rfl
  ·rcases(show j=0\/j=1 by omega) with rfl|rfl <;> rfl
  ·rcases(show j=0\/j=1\/j=2 by omega) with rfl|rfl|rfl <;> rfl
 ·rw[gdE,gEg (by omega)]
  exact List.getElem_mem _
theorem aP {x y:Value}(h:aB W b t #[x,y]):W.cell? ⟨b,0,none⟩=some x/\W.cell? ⟨b,1,none⟩=some y/\W.frozen? ⟨b,0,none⟩=false/\W.frozen? ⟨b,1,none⟩=false :=
 Spn.aL h
theorem oI {w w2:World}{p q:Value}(h:aB w2 b t #[p,q])(hB:Below w.heap.size w w2)(hb:w.heap.size<=b)(x y:Int) :
  ((w2.setCell ⟨b,0,none⟩ (.i x)).setCell ⟨b,1,none⟩ (.i y)).cell? ⟨b,0,none⟩=some (.i x)/\((w2.setCell ⟨b,0,none⟩ (.i x)).setCell ⟨b,1,none⟩ (.i y)).cell? ⟨b,1,none⟩=some (.i y) /\
  Below w.heap.size w ((w2.setCell ⟨b,0,none⟩ (.i x)).setCell ⟨b,1,none⟩ (.i y)) :=
 Spn.aS h hB hb x y
theorem aPp {r:Nat}{cs:Array Value}(h:aB W b t cs)(hr:b≠r)(x y:Value):aB ((W.setCell ⟨r,0,none⟩ x).setCell ⟨r,1,none⟩ y) b t cs:=(h.other (p:=⟨r,0,none⟩) hr x).other (p:=⟨r,1,none⟩) hr y
theorem set2 {p q:Value}(h:aB W b t #[p,q])(x y:Value):aB ((W.setCell ⟨b,0,none⟩ x).setCell ⟨b,1,none⟩ y) b t #[x,y]:=(h.set 0 x).set 1 y
theorem aF7 (f d:Int)(n:Nd)(hm:Knd.May f d)(v:Value)(hv:∃ a k c,v=.slice a k c)(h:n.op=1\/n.op=2\/n.op=3)(BS:List Int)(S:eO)(W:World) :
  Calls Tryz.prog 112 #[.agg (dB f d),.agg (bH n),v] W fun e W'=>e=.returned (Spn.spV (sV f d BS S n))/\Below W.heap.size W W':=by
 obtain⟨a,kk,c,rfl⟩:=hv
 obtain⟨o,pa,pb,pc,pk,back,co,x,y⟩:=n
 simp only at h
 have hb1:=aD W (.cells (dB f d) 23)
 have hb2:=bel hb1 (aD (W.alloc (.cells (dB f d) 23)) (.cells (bH ⟨o,pa,pb,pc,pk,back,co,x,y⟩) 137))
 have hb3:=bel hb2 (aD ((W.alloc (.cells (dB f d) 23)).alloc (.cells (bH ⟨o,pa,pb,pc,pk,back,co,x,y⟩) 137)) (.cells #[.i 0,.i 0] 165))
 have HB0:=aA hb3
 have HBk:=aA hb2
 have HK0:=aA (((aB.new W 23 (dB f d)).alloc (.cells (bH ⟨o,pa,pb,pc,pk,back,co,x,y⟩) 137)).alloc (.cells #[.i 0,.i 0] 165))
 have HR0:Hid (aB (((W.alloc (.cells (dB f d) 23)).alloc (.cells (bH ⟨o,pa,pb,pc,pk,back,co,x,y⟩) 137)).alloc (.cells #[.i 0,.i 0] 165)) (W.heap.size+1+1) 165 #[.i 0,.i 0]):=by
  have:=aB.new ((W.alloc (.cells (dB f d) 23)).alloc (.cells (bH ⟨o,pa,pb,pc,pk,back,co,x,y⟩) 137)) 165 #[.i 0,.i 0]
  simp only[wSa] at this
  exact aA this
 clear hb1 hb2 hb3
 rcases h with rfl|rfl|rfl
 ·rw[show sV f d BS S ⟨1,pa,pb,pc,pk,back,co,x,y⟩=((pk,pk),0) from rfl]
  go_enter Tryz.func112,Tryz.ntmps112
  go_wp2
  exact bPr (v:=.tuple #[.agg #[.i pk,.i pk],.i 0]) (by simp[results,Tryz.results112,go_sem]) rfl ⟨rfl,bel HBk.o (aD _ _)⟩
 ·rw[show sV f d BS S ⟨2,pa,pb,pc,pk,back,co,x,y⟩=((Knd.gL f d pk).getD (0,0),0) from rfl]
  have HI:=aA fun w=>Knd.gQ f d pk w
  unfold Knd.wF at HI
  obtain⟨⟨lo,hi⟩,hp⟩:∃ p,(Knd.gL f d pk).getD (0,0)=p:=⟨_,rfl⟩
  rw[hp] at HI ⊢
  generalize (Knd.gL f d pk).isSome=q at HI
  clear hp
  go_enter Tryz.func112,Tryz.ntmps112
  go_wp2_with fail
  refine(HI.o _).mono ?_
  rintro e V1 ⟨rfl,hb⟩
  have HB1:=aA (bel HB0.o hb)
  have hz:=(HR0.o.below hb).lt
  obtain⟨-,-,hB⟩:=oI (HR0.o.below hb) HB1.o (by omega) lo hi
  have h3:=(set2 (HR0.o.below hb) (.i lo) (.i hi)).alloc (.cells #[.i lo,.i hi] 165)
  have r0:=h3.cell 0 rfl
  have r1:=h3.cell 1 rfl
  have HB2:=aA (bel hB (aD _ (.cells #[.i lo,.i hi] 165)))
  have HR2:=aA r0
  have HR3:=aA r1
  clear r0 r1 h3 hB
  obtain⟨c0,c1,c2,c3⟩:=aP (HR0.o.below hb)
  clear hb
  go_wp2_with fail
  have r0:=HR2.o
  have r1:=HR3.o
  exact bPr (v:=.tuple #[.agg #[.i lo,.i hi],.i 0]) (by simp only[results,Tryz.results112];simp[go_sem,r0,r1]) rfl ⟨rfl,HB2.o⟩
 ·rw[show sV f d BS S ⟨3,pa,pb,pc,pk,back,co,x,y⟩=((Knd.fG f d,Knd.cK f d),0) from rfl]
  have HLo:=aA fun w=>Knd.mH f d w
  have HHi:=aA fun w=>Knd.jW f d w
  generalize Knd.fG f d=lo at *
  generalize Knd.cK f d=hi at *
  have x0:=HK0.o.cell 0 rfl
  have y0:=HK0.o.cell 1 rfl
  go_enter Tryz.func112,Tryz.ntmps112
  go_wp2_with fail
  obtain⟨W0,hW0⟩:∃ W0,(((W.alloc (.cells (dB f d) 23)).alloc (.cells (bH ⟨3,pa,pb,pc,pk,back,co,x,y⟩) 137)).alloc (.cells #[.i 0,.i 0] 165))=W0:=⟨_,rfl⟩
  rw[hW0] at HR0 HK0 HB0 x0 y0 ⊢
  clear hW0
  have HRd:Hid (aB W0.drew (W.heap.size+1+1) 165 #[.i 0,.i 0]):=HR0.o
  have HKd:Hid (aB W0.drew W.heap.size 23 (dB f d)):=HK0.o
  have HBd:=aA HB0.o.drew
  go_region_held3 (fun w'=>w'.cell? ⟨W.heap.size,0,none⟩=some (.i f)/\w'.cell? ⟨W.heap.size,1,none⟩=some (.i d))
   (first|exact⟨x0,y0⟩|exact⟨x3,y3⟩|exact⟨x4,y4⟩|exact⟨(aPp HK4.o (by omega) _ _).cell 0 rfl,(aPp HK4.o (by omega) _ _).cell 1 rfl⟩|go_keep)
   ((first
    | (go_at_call 189;refine(HLo.o _).mono ?_;rintro e w3 ⟨rfl,hb3⟩;have HR3:=aA (HRd.o.below hb3);have HK3:=aA (HKd.o.below hb3);have HB3:=aA (bel HBd.o hb3);clear hb3;obtain⟨x3,y3,-,-⟩:=aP HK3.o)
    | (go_at_call 190;refine(HHi.o _).mono ?_;rintro e w4 ⟨rfl,hb4⟩;have HR4:=aA (HR3.o.below hb4);have HK4:=aA (HK3.o.below hb4);have HB4:=aA (bel HB3.o hb4);clear hb4;obtain⟨x4,y4,-,-⟩:=aP HK4.o;obtain⟨g0,g1,g2,g3⟩:=aP HR4.o)))
  all_goals
   obtain⟨r0,r1,hB⟩:=oI HR4.o HB4.o (by omega) lo hi
   go_wp2
   exact bPr (v:=.tuple #[.agg #[.i lo,.i hi],.i 0]) (by simp[results,Tryz.results112,go_sem,r0,r1]) rfl ⟨rfl,hB⟩
theorem aLv (f d:Int)(n:Nd){BS:List Int}{i sl sc:Nat}{a:Option Addr}{S:eO}(hn:Wn BS i n)(h5:5<=n.op)(hS:Spn.Spans W a sl sc S)(hi:i<=sl) :
  Calls Tryz.prog 112 #[.agg (dB f d),.agg (bH n),.slice a sl sc] W fun e W'=>e=.returned (Spn.spV (sV f d BS S n))/\Below W.heap.size W W':=by
 obtain⟨k,hk⟩:∃ k:Nat,gM n.op=k:=⟨(gM n.op).toNat,by have:=hn.pr;omega⟩
 have h3:k<=3:=by
  have:gM n.op<=3:=by unfold gM lW;repeat' split <;> omega
  omega
 have har:lW n.op=k:=by rw[hn.ar (by omega),hk]
 have hsl:sl<=9223372036854775807:=by have:=hS.le;have:=hS.max;unfold maxLen at *;omega
 rw[show sV f d BS S n=Spn.ofZ n.op 0 0 ((dG n).map fun p=>S.getD p.toNat (0,0)) by unfold sV;rw[if_neg (by omega),if_neg (by omega),if_neg (by omega),if_neg (by omega)]]
 have HPt:=aA fun j hj=>aDh (n:=n) (j:=j) hk h3 hj
 have HPl:=aA (uP hk h3)
 have HPr:=aA hn.prt
 have HSg:=aA fun j hj=>aU7 (S:=S) (n:=n) (k:=j) hj
 obtain⟨L,hL⟩:∃ L,((dG n).map fun p=>S.getD p.toNat (0,0))=L:=⟨_,rfl⟩
 have HLl:Hid (L.length=k):=aA (by rw[<-hL,List.length_map,HPl.o])
 rw[hL] at HSg ⊢
 have HPO:=aA fun w=>wK n k har h3 w
 have q1:(n.op==1)=false:=by simp;omega
 have q2:(n.op==2)=false:=by simp;omega
 have q3:(n.op==3)=false:=by simp;omega
 have hb1:=aD W (.cells (dB f d) 23)
 have hb2:=bel hb1 (aD (W.alloc (.cells (dB f d) 23)) (.cells (bH n) 137))
 have hb3:=bel hb2 (aD ((W.alloc (.cells (dB f d) 23)).alloc (.cells (bH n) 137)) (.cells #[.i 0,.i 0] 165))
 have HB0:=aA hb3
 have HN0:Hid (aB (((W.alloc (.cells (dB f d) 23)).alloc (.cells (bH n) 137)).alloc (.cells #[.i 0,.i 0] 165)) (W.heap.size+1) 137 (bH n)):=by
  have:=(aB.new (W.alloc (.cells (dB f d) 23)) 137 (bH n)).alloc (.cells #[.i 0,.i 0] 165)
  simp only[wSa] at this
  exact aA this
 have HR0:Hid (aB (((W.alloc (.cells (dB f d) 23)).alloc (.cells (bH n) 137)).alloc (.cells #[.i 0,.i 0] 165)) (W.heap.size+1+1) 165 #[.i 0,.i 0]):=by
  have:=aB.new ((W.alloc (.cells (dB f d) 23)).alloc (.cells (bH n) 137)) 165 #[.i 0,.i 0]
  simp only[wSa] at this
  exact aA this
 have HS0:=aA (hS.later hb3)
 clear hb1 hb2 hb3 hS hL har hk hn h5
 go_enter Tryz.func112,Tryz.ntmps112
 go_wp2_with fail
 refine(HPO.o _).mono ?_
 rintro e V1 ⟨g,rfl,-,hG,hb⟩
 have HG:=aA hG
 have HR1:=aA (HR0.o.below hb)
 have HN1:=aA (HN0.o.below hb)
 have HB1:=aA (bel HB0.o hb)
 have HS1:=aA (HS0.o.later hb)
 have hgl:=hG.lt
 clear hG hb HR0 HN0 HB0 HS0 HPO
 go_wp2_with fail
 go_loopw [10,42] (fun v i wr=>∃ j:Nat,j<=k/\i=.i j/\Hid (Spn.Es V1 wr v j (L.take j))) (fun _ i _=>k-(intOf i).toNat)
 case atStart=>exact⟨0,nZl _,rfl,aA (Spn.Es.start V1)⟩
 case round =>
  obtain⟨j,hj,rfl,HE⟩:=hrel
  rename World=>V
  by_cases hlt:j < k
  ·have cp:=(HG.o.below HE.o.bel).cell j (HPt.o j hlt).1
   obtain⟨p0,p1⟩:=HPr.o _ (HPt.o j hlt).2
   have HT:=aA (HSg.o j (by rw[HPl.o];exact hlt))
   obtain⟨q,hq⟩:∃ q:Nat,(dG n).getD j 0=(q:Int):=⟨((dG n).getD j 0).toNat,by omega⟩
   rw[hq] at cp p1 HT
   simp only[iTn] at p1 HT
   obtain⟨b,off,rfl,-,hcs⟩:=(HS1.o.later HE.o.bel).at (by omega)
   obtain⟨s0,s1⟩:=hcs q (by omega)
   generalize S.getD q (0,0)=sv at *
   obtain⟨lo,hi2⟩:=sv
   simp only at s0 s1
   have j0:(0:Int)<=j:=by omega
   have j1:(j:Int) < k:=by omega
   have j2:(j:Int) < 3:=by omega
   have i0:(0:Int)<=q:=by omega
   have i1:(q:Int) < sl:=by omega
   clear hcs p0 p1 hq
   go_wp2_with (at_builtin;refine Spn.aBf (w:=V1) (L:=L.take j) rfl _ _ rfl rfl (HE.o.alloc _) _ lo hi2 rfl (Spn.aB.new _ _ _) (by omega) ?_;intro g2 cap2 w2 HE2 hsz)
   go_roundw
   case rel=>exact⟨j+1,by omega,by go_num,aA (by rw[HT.o];exact HE2)⟩
   case measure=>simp[intOf];omega
  ·obtain rfl:j=k:=by omega
   have e:L.take j=L:=lTl (by rw[HLl.o];exact nLr _)
   have HE1:=HE.o
   rw[e] at HE1
   obtain⟨va,vc,rfl,hA⟩:=Spn.Spans.of_owns HE1.a HLl.o
   have HOf:=aA (Spn.aPh n.op 0 0 _ _ _ _ _ hA)
   have HR2:=aA (HR1.o.below HE1.bel)
   have HB2:=aA (bel HB1.o HE1.bel)
   have x0:=(HN1.o.below HE1.bel).cell 0 rfl
   obtain⟨⟨⟨lo,hi2⟩,er⟩,hZ⟩:∃ Z,Spn.ofZ n.op 0 0 L=Z:=⟨_,rfl⟩
   rw[hZ] at HOf
   have HZ:=aA hZ
   clear hZ hA e HE HE1
   go_wp2_with fail
   refine HOf.o.mono ?_
   rintro e V2 ⟨rfl,hb⟩
   have HR3:=aA (HR2.o.below hb)
   have HB3:=aA (bel HB2.o hb)
   obtain⟨g0,g1,g2,g3⟩:=aP HR3.o
   clear hb
   go_wp2_with fail
   obtain⟨r0,r1,hB⟩:=oI HR3.o HB3.o (by omega) lo hi2
   exact bPr (v:=.tuple #[.agg #[.i lo,.i hi2],.i er]) (by simp[results,Tryz.results112,go_sem,r0,r1]) rfl ⟨by rw[HZ.o],hB⟩
end
section
open Go.RowKit Go.IntWalk Lx Pz
open Vfy (aC5 zX aHz jV)
variable {W:World} {BS:List Int}
abbrev oP (L:eO):Array Value:=(Spn.mX L).toArray
theorem rH {g:Nat}{L:eO}(h:aB W g 165 (oP L))(hl:L.length<=1024):Spn.Spans W (some ⟨g,0,none⟩) L.length L.length L:=by
 refine⟨rfl,nLr _,by unfold maxLen;omega,(fun e=>by cases e),.inr ⟨g,0,rfl,fun i hi=>?_⟩⟩
 obtain⟨a,b⟩:=jV L i hi
 rw[nZa]
 exact⟨h.cell (i*2) a,h.cell (i*2+1) b⟩
theorem aDk {g k:Nat}{S Z:eO}{q:Int × Int}(h:aB W g 165 (oP (S++q::Z)))(hk:S.length=k)(x y:Int):aB ((W.setCell ⟨g,k*2,none⟩ (.i x)).setCell ⟨g,k*2+1,none⟩ (.i y)) g 165 (oP (S++(x,y)::Z)):=by
 subst hk
 have:=(h.set (S.length*2) (.i x)).set (S.length*2+1) (.i y)
 rwa[show ((oP (S++q::Z)).setIfInBounds (S.length*2) (.i x)).setIfInBounds (S.length*2+1) (.i y)=oP (S++(x,y)::Z) from aHz S Z (x,y) q] at this
theorem dJ {S Z:eO}{i:Nat}(h:i < S.length):(S++Z).getD i (0,0)=S.getD i (0,0):=by
 rw[gdE,gAl h,<-gdE]
theorem aU5 {f d:Int}{S Z:eO}{n:Nd}(hn:Wn BS S.length n):sV f d BS (S++Z) n=sV f d BS S n:=by
 unfold sV
 split
 ·rename_i h4
  rw[dJ (hn.use h4).2.2.2]
 ·split
  ·rfl
  ·split
   ·rfl
   ·split
    ·rfl
    ·congr 1
     apply List.map_congr_left
     intro p hp
     exact dJ (hn.prt p hp).2
theorem aBp {b r k:Nat}{t:TypeId}{cs:Array Value}(h:aB W b t cs)(hr:b≠r)(x y:Value):aB ((W.setCell ⟨r,k*2,none⟩ x).setCell ⟨r,k*2+1,none⟩ y) b t cs:=(h.other (p:=⟨r,k*2,none⟩) hr x).other (p:=⟨r,k*2+1,none⟩) hr y
theorem aH2 (f d:Int){n:Nd}{i sl sc:Nat}{a:Option Addr}{S:eO}(hm:Knd.May f d)(hn:Wn BS i n)(h4:n.op≠4)(hS:Spn.Spans W a sl sc S)(hi:i<=sl) :
  Calls Tryz.prog 112 #[.agg (dB f d),.agg (bH n),.slice a sl sc] W fun e W'=>e=.returned (Spn.spV (sV f d BS S n))/\Below W.heap.size W W':=by
 by_cases h:n.op=1\/n.op=2\/n.op=3
 ·exact aF7 f d n hm _ ⟨_,_,_,rfl⟩ h BS S W
 ·exact aLv f d n hn (by have:=hn.lo;omega) hS hi
def SpP (w:World)(n:Nat)(Z:eO × Int)(e:Ending)(W':World):Prop :=
 (Z.2≠0/\e=.returned (.tuple #[.slice none 0 0,.i Z.2])/\Below w.heap.size w W') \/
 (Z.2=0/\∃ g,e=.returned (.tuple #[.slice (some ⟨g,0,none⟩) n n,.i 0])/\w.heap.size<=g/\aB W' g 165 (oP Z.1)/\Below w.heap.size w W')
theorem aF8 (f d:Int){ba da:Option Addr}{bl bc dl dc:Nat}{nv:Value}(hnv:∃ a k c,nv=.slice a k c){root:Int}{NS:List Nd}(hm:Knd.May f d)(hB:Iz W ba bl bc BS)(hN:Nz W da dl dc NS)(hw:Wl BS 0 NS)(hd:dl<=1024) :
  Calls Tryz.prog 55 #[.agg (dB f d),.agg (eY nv (.slice ba bl bc) (.slice da dl dc) (.i root))] W (SpP W dl (oQ f d BS NS [])):=by
 obtain⟨a1,n1,c1,rfl⟩:=hnv
 have hmk:=aC5 dl hd
 have hb1:=aD W (.cells (dB f d) 23)
 have hb2:=bel hb1 (aD (W.alloc (.cells (dB f d) 23)) (.cells (eY (.slice a1 n1 c1) (.slice ba bl bc) (.slice da dl dc) (.i root)) 50))
 have hb3:=bel hb2 (aD ((W.alloc (.cells (dB f d) 23)).alloc (.cells (eY (.slice a1 n1 c1) (.slice ba bl bc) (.slice da dl dc) (.i root)) 50)) (.cells (oP (List.replicate dl (0,0))) 165))
 have HK0:=aA (((aB.new W 23 (dB f d)).alloc (.cells (eY (.slice a1 n1 c1) (.slice ba bl bc) (.slice da dl dc) (.i root)) 50)).alloc (.cells (oP (List.replicate dl (0,0))) 165))
 have HT0:Hid (aB (((W.alloc (.cells (dB f d) 23)).alloc (.cells (eY (.slice a1 n1 c1) (.slice ba bl bc) (.slice da dl dc) (.i root)) 50)).alloc (.cells (oP (List.replicate dl (0,0))) 165)) (W.heap.size+1) 50 (eY (.slice a1 n1 c1) (.slice ba bl bc) (.slice da dl dc) (.i root))):=by
  have:=(aB.new (W.alloc (.cells (dB f d) 23)) 50 (eY (.slice a1 n1 c1) (.slice ba bl bc) (.slice da dl dc) (.i root))).alloc (.cells (oP (List.replicate dl (0,0))) 165)
  simp only[wSa] at this
  exact aA this
 have HG0:Hid (aB (((W.alloc (.cells (dB f d) 23)).alloc (.cells (eY (.slice a1 n1 c1) (.slice ba bl bc) (.slice da dl dc) (.i root)) 50)).alloc (.cells (oP (List.replicate dl (0,0))) 165)) (W.heap.size+1+1) 165 (oP (List.replicate dl (0,0)))):=by
  have:=aB.new ((W.alloc (.cells (dB f d) 23)).alloc (.cells (eY (.slice a1 n1 c1) (.slice ba bl bc) (.slice da dl dc) (.i root)) 50)) 165 (oP (List.replicate dl (0,0)))
  simp only[wSa] at this
  exact aA this
 have HB0:=aA hb3
 have HBI:=aA hB
 have HNI:=aA hN
 have HLN:=aA hN.len
 have HLB:=aA hB.len
 have HW:=aA hw
 clear hb1 hb2 hb3 hB hN hw
 go_enter Tryz.func55,Tryz.ntmps55
 go_wp2_with fail
 go_loopw [18] (fun i wr=>∃(k:Nat) (S:eO),k<=dl/\i=.i k/\Hid (oQ f d BS (NS.take k) []=(S,0))/\Hid (aB wr (W.heap.size+1+1) 165 (oP (S++List.replicate (dl-k) (0,0))))/\Hid (aB wr W.heap.size 23 (dB f d))/\Hid (aB wr (W.heap.size+1) 50 (eY (.slice a1 n1 c1) (.slice ba bl bc) (.slice da dl dc) (.i root)))/\Hid (Below W.heap.size W wr)) (fun i _=>dl-(intOf i).toNat)
 case atStart=>exact⟨0,[],nZl _,rfl,aA rfl,HG0,HK0,HT0,HB0⟩
 case round =>
  obtain⟨k,S,hk,rfl,HS,HG,HK,HT,HB⟩:=hrel
  rename World=>V
  by_cases hlt:k < dl
  ·obtain⟨g,off,rfl,hat⟩:=(HNI.o.later HB.o).at (by omega)
   obtain⟨e0,e1,e2,e3,e4,e5,e6,e7,e8⟩:=hat k hlt
   clear hat
   have hi0:(0:Int)<=k:=by omega
   have hi1:(k:Int) < dl:=by omega
   have hSl:S.length=k:=by have:=aJ1 HS.o;simp at this;rw[HLN.o] at this;omega
   have HWn:=aA (aB2 HW.o (by rw[HLN.o];exact hlt:k < NS.length))
   rw[nZa] at HWn
   have HS2:=aA (aQx (n:=NS.getD k n0) HS.o)
   rw[<-aG n0 (by rw[HLN.o];exact hlt)] at HS2
   have HSe:=aA fun(e:Int) (he:e≠0) (h:oQ f d BS (NS.take (k+1)) []=([],e))=>(show oQ f d BS NS []=([],e) by rw[<-lTd (k+1) NS];exact aU6 h he)
   rw[zX hlt] at HG
   obtain⟨f0,f1⟩:V.cell? ⟨W.heap.size,0,none⟩=some (.i f)/\V.cell? ⟨W.heap.size,1,none⟩=some (.i d):=⟨HK.o.cell 0 rfl,HK.o.cell 1 rfl⟩
   have x1:=HT.o.cell 1 rfl
   have hz0:W.heap.size < V.heap.size:=HK.o.lt
   have hz1:W.heap.size+1 < V.heap.size:=HT.o.lt
   have hz2:W.heap.size+1+1 < V.heap.size:=HG.o.lt
   have y0:=HG.o.frozen (k*2)
   have y1:=HG.o.frozen (k*2+1)
   generalize NS.getD k n0=n at *
   by_cases ho:n.op=4
   ·have ho1:(n.op==4)=true:=by simpa using ho
    obtain⟨u0,u1,u2,u3⟩:=HWn.o.use ho
    have hspn:sV f d BS S n=(S.getD (BS.getD n.k.toNat 0).toNat (0,0),0):=by unfold sV;rw[if_pos ho]
    rw[hspn,if_pos rfl] at HS2
    obtain⟨kk,hkk⟩:∃ kk:Nat,n.k=(kk:Int):=⟨n.k.toNat,by omega⟩
    rw[hkk] at e4 u1 u2 u3 HS2
    simp only[iTn] at u1 u2 u3 HS2
    obtain⟨bb,boff,rfl,hbb,hbc⟩:∃ b off,ba=some ⟨b,off,none⟩/\b < V.heap.size/\V.cell? ⟨b,off+kk,none⟩=some (.i (BS.getD kk 0)):=by
     rcases(HBI.o.later HB.o).cell with h0|⟨b,off,ha,hlb,hc⟩
     ·rw[HLB.o] at u1;omega
     ·exact⟨b,off,ha,hlb,hc kk (by rw[<-HLB.o];exact u1)⟩
    obtain⟨q,hq⟩:∃ q:Nat,BS.getD kk 0=(q:Int):=⟨(BS.getD kk 0).toNat,by omega⟩
    rw[hq] at hbc u3 HS2
    simp only[iTn] at u3 HS2
    obtain⟨s0,s1⟩:=jV (S++(0,0)::List.replicate (dl-(k+1)) (0,0)) q (by simp;omega)
    rw[dJ (by rw[hSl];exact u3)] at s0 s1
    have d0:=HG.o.cell (q*2) s0
    have d1:=HG.o.cell (q*2+1) s1
    generalize S.getD q (0,0)=sv at *
    obtain⟨lo,hi⟩:=sv
    simp only at d0 d1
    have HG2:=aA ((aDk HG.o hSl lo hi).alloc (.cells #[.i n.op,.i n.a,.i n.b,.i n.c,.i kk,.i n.back,.i n.co,.i n.x,.i n.y] 137))
    have HK2:=aA ((aBp HK.o (r:=W.heap.size+1+1) (k:=k) (by omega) (.i lo) (.i hi)).alloc (.cells #[.i n.op,.i n.a,.i n.b,.i n.c,.i kk,.i n.back,.i n.co,.i n.x,.i n.y] 137))
    have HT2:=aA ((aBp HT.o (r:=W.heap.size+1+1) (k:=k) (by omega) (.i lo) (.i hi)).alloc (.cells #[.i n.op,.i n.a,.i n.b,.i n.c,.i kk,.i n.back,.i n.co,.i n.x,.i n.y] 137))
    have HB2:=aA (bel ((HB.o.setCell (p:=⟨W.heap.size+1+1,k*2,none⟩) (by simp;omega) (.i lo)).setCell (p:=⟨W.heap.size+1+1,k*2+1,none⟩) (by simp;omega) (.i hi)) (aD _ (.cells #[.i n.op,.i n.a,.i n.b,.i n.c,.i kk,.i n.back,.i n.co,.i n.x,.i n.y] 137)))
    obtain⟨ca,hca⟩:=jV (S++(0,0)::List.replicate (dl-(k+1)) (0,0)) k (by simp;omega)
    have da:=HG.o.cell (k*2) ca
    have db:=HG.o.cell (k*2+1) hca
    clear ca hca
    have w0:(kk:Int) < bl:=by have:=HLB.o;omega
    have w1:(q:Int) < dl:=by omega
    have w2:(0:Int)<=kk:=by omega
    have w3:(0:Int)<=q:=by omega
    clear s0 s1 hq u0 u1 u2 u3 hspn ho HWn HSe hmk
    go_wp2_with fail
    go_roundw
    case rel=>exact⟨k+1,S++[(lo,hi)],by omega,by go_num,aA HS2.o,aA (by rw[lAa];exact HG2.o),aA HK2.o,aA HT2.o,aA HB2.o⟩
    case measure=>simp[intOf];omega
   ·have ho1:(n.op==4)=false:=by simpa using ho
    have HSp:=aA (rH HG.o (by simp;omega))
    rw[show (S++(0,0)::List.replicate (dl-(k+1)) ((0:Int),(0:Int))).length=dl by simp;omega] at HSp
    have hl:=aD V (.cells (bH n) 137)
    have HOf:=aA (aH2 f d hm HWn.o ho (HSp.o.later hl) (by omega))
    rw[aU5 (by rw[hSl];exact HWn.o)] at HOf
    have HG1:=aA (HG.o.alloc (.cells (bH n) 137))
    have HK1:=aA (HK.o.alloc (.cells (bH n) 137))
    have HT1:=aA (HT.o.alloc (.cells (bH n) 137))
    have HN1:=aA (aB.new V 137 (bH n))
    have HB1:=aA (bel HB.o hl)
    obtain⟨⟨⟨lo,hi⟩,er⟩,hZ⟩:∃ Z,sV f d BS S n=Z:=⟨_,rfl⟩
    rw[hZ] at HOf HS2
    clear hZ hl ho HWn HSp hmk
    go_wp2_with fail
    refine HOf.o.mono ?_
    rintro e V1 ⟨rfl,hb⟩
    by_cases he:er=0
    ·subst he
     rw[if_pos rfl] at HS2
     have HGa:=aA (HG1.o.below hb)
     have HKa:=aA (HK1.o.below hb)
     have HTa:=aA (HT1.o.below hb)
     have HBa:=aA (bel HB1.o hb)
     have hza:=HGa.o.lt
     have ya:=HGa.o.frozen (k*2)
     have yb:=HGa.o.frozen (k*2+1)
     obtain⟨ca,hca⟩:=jV (S++(0,0)::List.replicate (dl-(k+1)) (0,0)) k (by simp;omega)
     have da:=HGa.o.cell (k*2) ca
     have db:=HGa.o.cell (k*2+1) hca
     have HG2:=aA ((aDk HGa.o hSl lo hi).alloc (.cells #[.i lo,.i hi] 165))
     have HK2:=aA ((aBp HKa.o (r:=W.heap.size+1+1) (k:=k) (by omega) (.i lo) (.i hi)).alloc (.cells #[.i lo,.i hi] 165))
     have HT2:=aA ((aBp HTa.o (r:=W.heap.size+1+1) (k:=k) (by omega) (.i lo) (.i hi)).alloc (.cells #[.i lo,.i hi] 165))
     have HB2:=aA (bel ((HBa.o.setCell (p:=⟨W.heap.size+1+1,k*2,none⟩) (by simp;omega) (.i lo)).setCell (p:=⟨W.heap.size+1+1,k*2+1,none⟩) (by simp;omega) (.i hi)) (aD _ (.cells #[.i lo,.i hi] 165)))
     clear hb HG1 HK1 HT1 HB1 HN1 HG HK HT HB HOf e0 e1 e2 e3 e4 e5 e6 e7 e8 ca hca f0 f1 x1 y0 y1 HSe
     go_wp2_with fail
     go_roundw
     case rel=>exact⟨k+1,S++[(lo,hi)],by omega,by go_num,aA HS2.o,aA (by rw[lAa];exact HG2.o),aA HK2.o,aA HT2.o,aA HB2.o⟩
     case measure=>simp[intOf];omega
    ·rw[if_neg he] at HS2
     have hne:(er != 0)=true:=by simpa using he
     have HF:=aA (HSe.o er he HS2.o)
     have HBa:=aA (bel HB1.o hb)
     clear hb
     have HE:=aA he
     clear he
     go_wp2_with fail
     exact bPr (v:=.tuple #[.slice none 0 0,.i er]) (by simp[results,Tryz.results55,go_sem]) rfl (.inl (by rw[HF.o];exact⟨HE.o,rfl,bel HBa.o (aD _ _)⟩))
  ·obtain rfl:k=dl:=by omega
   have e:NS.take k=NS:=lTl (by rw[HLN.o];exact nLr _)
   have hZ:=HS.o
   rw[e] at hZ
   have HZ:=aA hZ
   have HG1:=aA HG.o
   rw[Nat.sub_self,List.replicate_zero,List.append_nil] at HG1
   clear hZ
   go_wp2_with fail
   exact bPr (v:=.tuple #[.slice (some ⟨W.heap.size+1+1,0,none⟩) k k,.i 0]) (by simp[results,Tryz.results55,go_sem]) rfl (.inr (by rw[HZ.o];exact⟨rfl,_,rfl,by omega,HG1.o,HB.o⟩))
end
open Go.RowKit Go.IntWalk Lx Pz
theorem iY (o:Int)(W:World):Calls Tryz.prog 100 #[.i o] W fun e W'=>e=.returned (.i (jK o))/\W'=W:=by
 by_cases h1:o=4
 ·subst h1
  go_enter Tryz.func100,Tryz.ntmps100
  go_wp2
  go_ret
  exact⟨rfl,rfl⟩
 by_cases h2:o=11
 ·subst h2
  go_enter Tryz.func100,Tryz.ntmps100
  go_wp2
  go_ret
  exact⟨rfl,rfl⟩
 by_cases h3:o=12
 ·subst h3
  go_enter Tryz.func100,Tryz.ntmps100
  go_wp2
  go_ret
  exact⟨rfl,rfl⟩
 have e:jK o=1:=by unfold jK;rw[if_neg h1,if_neg h2,if_neg h3]
 rw[e]
 have e1:(o==4)=false:=by simpa using h1
 have e2:(o==11)=false:=by simpa using h2
 have e3:(o==12)=false:=by simpa using h3
 clear h1 h2 h3 e
 go_enter Tryz.func100,Tryz.ntmps100
 go_wp2
 go_ret
 exact⟨rfl,rfl⟩
theorem aG0 {W:World}{da:Option Addr}{dl dc:Nat}{NS:List Nd}(hN:Nz W da dl dc NS)(hd:dl<=1024) :
  Calls Tryz.prog 56 #[.slice da dl dc] W fun e W'=>e=.returned (.i (oW NS))/\Below W.heap.size W W':=by
 have HNI:=aA hN
 have HLN:=aA hN.len
 clear hN
 go_enter Tryz.func56,Tryz.ntmps56
 go_wp2_with fail
 go_loopw [3,8] (fun s i wr=>∃(k:Nat) (c:Int),k<=dl/\i=.i k/\s=.i c/\0<=c/\c<=6*k/\Hid (c=oW (NS.take k))/\Hid (Below W.heap.size W wr)) (fun _ i _=>dl-(intOf i).toNat)
 case atStart=>exact⟨0,0,nZl _,rfl,rfl,iLr _,iLr _,aA rfl,aA (Below.refl _ _)⟩
 case round =>
  obtain⟨k,c,hk,rfl,rfl,hc0,hc6,HC,HB⟩:=hrel
  rename World=>V
  by_cases hlt:k < dl
  ·obtain⟨g,off,rfl,hat⟩:=(HNI.o.later HB.o).at (by omega)
   obtain⟨e0,e1,e2,e3,e4,e5,e6,e7,e8⟩:=hat k hlt
   clear hat
   have hi0:(0:Int)<=k:=by omega
   have hi1:(k:Int) < dl:=by omega
   have HC2:=aA (show c+jK (NS.getD k n0).op=oW (NS.take (k+1)) by rw[aG n0 (by rw[HLN.o];exact hlt),pQ,HC.o])
   obtain⟨z0,z6⟩:=aWx (NS.getD k n0).op
   generalize NS.getD k n0=n at *
   go_wp2_with fail
   refine(iY _ _).mono ?_
   rintro e V1 ⟨rfl,rfl⟩
   generalize jK n.op=z at *
   go_wp2_with fail
   go_roundw
   case rel=>exact⟨k+1,c+z,by omega,by go_num,by go_num,by omega,by omega,aA HC2.o,aA (bel HB.o (aD _ _))⟩
   case measure=>simp[intOf];omega
  ·obtain rfl:k=dl:=by omega
   go_wp2_with fail
   go_ret
   have e:NS.take k=NS:=lTl (by rw[HLN.o];exact nLr _)
   exact⟨aO (show c=oW NS by rw[HC.o,e]),HB.o⟩
theorem aE9 (D:List Int)(k:Nat)(hk:k < D.length):(D.take (k+1)).foldl max 0=max ((D.take k).foldl max 0) (D.getD k 0):=by
 rw[aG 0 hk,List.foldl_append];rfl
theorem aQt {W:World}{a:Option Addr}{n cap:Nat}{D:List Int}(hD:Iz W a n cap D)(hn:1<=n)(h1:∀ x ∈ D,1<=x) :
  Calls Tryz.prog 57 #[.slice a n cap] W fun e W'=>e=.returned (.i (mxR D))/\W'=W:=by
 have hm:n<=9223372036854775807:=by have:=hD.le;have:=hD.max;unfold maxLen at *;omega
 obtain⟨b,off,rfl,hc⟩:∃ b off,a=some ⟨b,off,none⟩/\∀ i,i < n->W.cell? ⟨b,off+i,none⟩=some (.i (D.getD i 0)):=by
  rcases hD.cell with h0|⟨b,off,ha,-,hc⟩
  ·omega
  ·exact⟨b,off,ha,hc⟩
 have HLN:=aA hD.len
 have c0:=hc 0 (by omega)
 rw[Nat.add_zero] at c0
 have hi0:(1:Int)<=n:=by omega
 have hi1:(0:Int) < n:=by omega
 have H0:=aA (show D.getD 0 0=(D.take 1).foldl max 0 by
  have h2:=aE9 D 0 (by rw[hD.len];omega)
  have h3:1<=D.getD 0 0:=by
   rw[gdE,gEg (by rw[hD.len];omega)]
   exact h1 _ (List.getElem_mem _)
  rw[h2]
  simp only[List.take_zero,List.foldl_nil]
  omega)
 have HC:=aA hc
 clear hc hD h1
 generalize D.getD 0 0=d0 at *
 go_enter Tryz.func57,Tryz.ntmps57
 go_wp2_with fail
 go_loop [3,4] (fun m i=>∃(k:Nat) (c:Int),1<=k/\k<=n/\i=.i k/\m=.i c/\Hid (c=(D.take k).foldl max 0)) (fun _ i=>n-(intOf i).toNat)
 case atStart=>exact⟨1,d0,nLr _,hn,rfl,rfl,H0⟩
 case round =>
  obtain⟨k,c,hk1,hk,rfl,rfl,HM⟩:=hrel
  by_cases hlt:k < n
  ·have c1:=HC.o k hlt
   have j0:(0:Int)<=k:=by omega
   have j1:(k:Int) < n:=by omega
   have HM2:=aA (show max c (D.getD k 0)=(D.take (k+1)).foldl max 0 by rw[aE9 D k (by rw[HLN.o];exact hlt),HM.o])
   generalize D.getD k 0=x at *
   go_wp2_with fail
   go_round
   case rel=>exact⟨k+1,max c x,by omega,by omega,by go_num,rfl,HM2⟩
   case measure=>simp[intOf];omega
  ·obtain rfl:k=n:=by omega
   go_wp2_with fail
   go_ret
   have e:D.take k=D:=lTl (by rw[HLN.o];exact nLr _)
   exact⟨aO (show c=mxR D by rw[HM.o,e];rfl),rfl⟩
end Go.Proofs.YticnbcfmbhjbgaaGreatDoor
