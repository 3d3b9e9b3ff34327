import Derived.Test.YtihbhbeaihdgnaaGreatXH
import Derived.WalkLawsBesides
import Derived.Test.YtihbhbeaihdgnaaGreatX01
set_option maxRecDepth 100000
set_option maxHeartbeats 32000000
set_option linter.unusedVariables false
namespace Pz
open Lx
theorem pM {α:Type}{a:α}{p:Prop}(h:none=some a):p:=by cases h
theorem sV {α:Type}{a:α}{p:Prop}(h:some a=none):p:=by cases h
theorem eP {l:List Tk}{p:Prop}(h:begins l=false)(h2:begins l=true):p:=by rw[h] at h2;cases h2
theorem vH {s:aR}{n:Nat}(h:rE (aY s)=n)(hn:1<=n):aY s≠0:=fF (by omega)
theorem aO2 {s:aR}(h:2<=rE (aY s)):aY s≠0:=fF (by omega)
theorem det {nm:List aR}{x:NR}{l:List Tk}{r1:Option (E × List Tk)}(h:R nm x l r1):∀ r2,R nm x l r2->r1=r2:=by
 induction h with
 | ch_none h ih =>
  intro r2 h2
  cases h2 with
  | ch_none h1=>rfl
  | ch_up h1 _=>exact pM (ih _ h1)
  | ch_no h1 _ _=>exact pM (ih _ h1)
  | ch_sel h1 _ _ _=>exact pM (ih _ h1)
 | ch_up h hq ih =>
  intro r2 h2
  cases h2 with
  | ch_none h1=>exact sV (ih _ h1)
  | ch_up h1 _=>exact ih _ h1
  | ch_no h1 _ _=>have:=ih _ h1;cases this;exact absurd rfl hq
  | ch_sel h1 _ _ _=>have:=ih _ h1;cases this;exact absurd rfl hq
 | ch_no h1 h2 h3 ih1 ih2 =>
  intro r2 h
  cases h with
  | ch_none g1=>rfl
  | ch_up g1 hq=>have:=ih1 _ g1;cases this;exact absurd rfl hq
  | ch_no g1 _ _=>rfl
  | ch_sel g1 g2 g3 _=>have:=ih1 _ g1;cases this;have:=ih2 _ g2;subst this;rw[h3] at g3;cases g3
 | ch_sel h1 h2 h3 h4 ih1 ih2 ih4 =>
  intro r2 h
  cases h with
  | ch_none g1=>exact sV (ih1 _ g1)
  | ch_up g1 hq=>have:=ih1 _ g1;cases this;exact absurd rfl hq
  | ch_no g1 g2 g3=>have:=ih1 _ g1;cases this;have:=ih2 _ g2;subst this;rw[h3] at g3;cases g3
  | ch_sel g1 g2 g3 g4=>have:=ih1 _ g1;cases this;have:=ih2 _ g2;subst this;rw[h3] at g3;cases g3;rw[ih4 _ g4]
 | lv_none hk h ih =>
  intro r2 h2
  cases h2 with
  | lv_none _ g=>rfl
  | lv_go _ g _=>exact pM (ih _ g)
  | _=>omega
 | lv_go hk h1 h2 ih1 ih2 =>
  intro r2 h
  cases h with
  | lv_none _ g=>exact sV (ih1 _ g)
  | lv_go _ g g2=>have:=ih1 _ g;cases this;exact ih2 _ g2
  | _=>omega
 | lp_stop h =>
  intro r2 h2
  cases h2 with
  | lp_stop _=>rfl
  | lp_none _=>exact absurd rfl (h _)
  | lp_cmp _=>exact absurd rfl (h _)
  | lp_go _ _ _=>exact absurd rfl (h _)
 | lp_none h ih =>
  intro r2 h2
  cases h2 with
  | lp_stop g=>exact absurd rfl (g _)
  | lp_none _=>rfl
  | lp_cmp g=>exact pM (ih _ g)
  | lp_go _ g _=>exact pM (ih _ g)
 | lp_cmp h ih =>
  intro r2 h2
  cases h2 with
  | lp_stop g=>exact absurd rfl (g _)
  | lp_none g=>exact sV (ih _ g)
  | lp_cmp g=>have:=ih _ g;cases this;rfl
  | lp_go g _ _=>exact absurd rfl g
 | lp_go h3 h1 h2 ih1 ih2 =>
  intro r2 h
  cases h with
  | lp_stop g=>exact absurd rfl (g _)
  | lp_none g=>exact sV (ih1 _ g)
  | lp_cmp g=>exact absurd rfl h3
  | lp_go _ g g2=>have:=ih1 _ g;cases this;exact ih2 _ g2
 | neg h ih =>
  intro r2 h2
  cases h2 with
  | neg g=>rw[ih _ g]
  | lv_none g _=>omega
  | lv_go g _ _=>omega
  | bad g=>exact eP g rfl
 | par h ih =>
  intro r2 h2
  cases h2 with
  | par g=>rw[ih _ g]
  | lv_none g _=>omega
  | lv_go g _ _=>omega
  | bad g=>exact eP g rfl
 | num v l =>
  intro r2 h2
  cases h2 with
  | num _ _=>rfl
  | lv_none g _=>omega
  | lv_go g _ _=>omega
  | bad g=>exact eP g rfl
 | word h1 h2 h3 =>
  intro r2 h
  cases h with
  | word _ _ _=>rfl
  | place g=>rcases g with g | g <;> contradiction
  | callx g _=>contradiction
  | call1 g _=>exact absurd h3 (fF (by omega))
  | calln g _ _=>exact absurd h3 (fF (by omega))
  | call2 g _ _ _=>exact absurd h3 (fF (by omega))
  | call3n g _ _ _ _=>exact absurd h3 (fF (by omega))
  | call3 g _ _ _ _ _=>exact absurd h3 (fF (by omega))
  | lv_none g _=>omega
  | lv_go g _ _=>omega
  | bad g=>exact eP g rfl
 | place h1 =>
  intro r2 h
  have hc:∀ {s:aR},s=wP\/s=wQ->aY s=0:=by rintro s (rfl|rfl) <;> decide
  cases h with
  | word g1 g2 _=>rcases h1 with h1 | h1 <;> contradiction
  | place g=>rfl
  | callx g _=>exact absurd (hc h1) g
  | call1 g _=>exact absurd (hc h1) (fF (by omega))
  | calln g _ _=>exact absurd (hc h1) (fF (by omega))
  | call2 g _ _ _=>exact absurd (hc h1) (fF (by omega))
  | call3n g _ _ _ _=>exact absurd (hc h1) (fF (by omega))
  | call3 g _ _ _ _ _=>exact absurd (hc h1) (fF (by omega))
  | lv_none g _=>omega
  | lv_go g _ _=>omega
  | bad g=>exact eP g rfl
 | callx h1 h2 =>
  intro r2 h
  cases h with
  | word _ _ g=>contradiction
  | place g=>rcases g with g | g <;> (subst g;exact absurd (by decide) h1)
  | callx g _=>rfl
  | call1 g _=>exact absurd rfl h2
  | calln g _ _=>exact absurd rfl h2
  | call2 g _ _ _=>exact absurd rfl h2
  | call3n g _ _ _ _=>exact absurd rfl h2
  | call3 g _ _ _ _ _=>exact absurd rfl h2
  | lv_none g _=>omega
  | lv_go g _ _=>omega
  | bad g=>rfl
 | call1 ha h1 ih =>
  intro r2 h
  have hc:=vH ha (by omega)
  cases h with
  | word _ _ g=>contradiction
  | place g=>rcases g with g | g <;> (subst g;exact absurd (by decide) hc)
  | callx g h2=>exact absurd rfl h2
  | call1 g g1=>rw[ih _ g1]
  | calln g _ _=>omega
  | call2 g _ _ _=>omega
  | call3n g _ _ _ _=>omega
  | call3 g _ _ _ _ _=>omega
  | lv_none g _=>omega
  | lv_go g _ _=>omega
  | bad g=>exact eP g rfl
 | calln ha h1 he ih =>
  intro r2 h
  have hc:=aO2 ha
  cases h with
  | word _ _ g=>contradiction
  | place g=>rcases g with g | g <;> (subst g;exact absurd (by decide) hc)
  | callx g h2=>exact absurd rfl h2
  | call1 g g1=>omega
  | calln g _ _=>rfl
  | call2 g g1 g2 _=>have:=ih _ g1;subst this;rw[he] at g2;cases g2
  | call3n g g1 g2 _ _=>rfl
  | call3 g g1 g2 _ _ _=>have:=ih _ g1;subst this;rw[he] at g2;cases g2
  | lv_none g _=>omega
  | lv_go g _ _=>omega
  | bad g=>rfl
 | call2 ha h1 he h2 ih ih2 =>
  intro r2 h
  have hc:=vH ha (by omega)
  cases h with
  | word _ _ g=>contradiction
  | place g=>rcases g with g | g <;> (subst g;exact absurd (by decide) hc)
  | callx g h2=>exact absurd rfl h2
  | call1 g g1=>omega
  | calln g g1 g2=>have:=ih _ g1;subst this;rw[he] at g2;cases g2
  | call2 g g1 g2 g3=>have:=ih _ g1;subst this;rw[he] at g2;cases g2;rw[ih2 _ g3]
  | call3n g g1 g2 _ _=>omega
  | call3 g g1 g2 _ _ _=>omega
  | lv_none g _=>omega
  | lv_go g _ _=>omega
  | bad g=>exact eP g rfl
 | call3n ha h1 he h2 he2 ih ih2 =>
  intro r2 h
  have hc:=vH ha (by omega)
  cases h with
  | word _ _ g=>contradiction
  | place g=>rcases g with g | g <;> (subst g;exact absurd (by decide) hc)
  | callx g h2=>exact absurd rfl h2
  | call1 g g1=>omega
  | calln g g1 g2=>rfl
  | call2 g g1 g2 g3=>omega
  | call3n g g1 g2 _ _=>rfl
  | call3 g g1 g2 g3 g4 _=>have:=ih _ g1;subst this;rw[he] at g2;cases g2;have:=ih2 _ g3;subst this;rw[he2] at g4;cases g4
  | lv_none g _=>omega
  | lv_go g _ _=>omega
  | bad g=>rfl
 | call3 ha h1 he h2 he2 h3 ih ih2 ih3 =>
  intro r2 h
  have hc:=vH ha (by omega)
  cases h with
  | word _ _ g=>contradiction
  | place g=>rcases g with g | g <;> (subst g;exact absurd (by decide) hc)
  | callx g h2=>exact absurd rfl h2
  | call1 g g1=>omega
  | calln g g1 g2=>have:=ih _ g1;subst this;rw[he] at g2;cases g2
  | call2 g g1 g2 g3=>omega
  | call3n g g1 g2 g3 g4=>have:=ih _ g1;subst this;rw[he] at g2;cases g2;have:=ih2 _ g3;subst this;rw[he2] at g4;cases g4
  | call3 g g1 g2 g3 g4 g5=>have:=ih _ g1;subst this;rw[he] at g2;cases g2;have:=ih2 _ g3;subst this;rw[he2] at g4;cases g4;rw[ih3 _ g5]
  | lv_none g _=>omega
  | lv_go g _ _=>omega
  | bad g=>exact eP g rfl
 | bad hb =>
  intro r2 h
  cases h with
  | bad g=>rfl
  | callx _ _=>rfl
  | calln _ _ _=>rfl
  | call3n _ _ _ _ _=>rfl
  | lv_none g _=>omega
  | lv_go g _ _=>omega
  | _=>exact eP hb rfl
theorem aEg {nm:List aR}{l:List Tk}{res:Option (E × List Tk)}(h:R nm (.at 0) l res)(e:E):res=some (e,[])↔G nm 0 l e:=by
 constructor
 ·intro he
  obtain⟨p,hp,hg⟩:=sound h e [] he
  rw[List.append_nil] at hp
  rw[hp];exact hg
 ·intro hg
  have:=(wH hg).1 [] (uY.nil 0)
  rw[List.append_nil] at this
  exact det h _ this
def Nok (nm:List aR):Prop:=∀ s ∈ nm,mU s=false
def plain:Tk->Bool
 | .semi=>false
 | .eq=>false
 | .word s=>s != mV
 | _=>true
theorem aIy {t:Tk}(h:inP t=true):plain t=true:=by cases t <;> simp_all [inP,plain]
theorem aA7 {s:aR}(h:0 < rE (aY s)):(s != mV)=true:=by
 have:=fF h
 simp only[bne_iff_ne,ne_eq]
 intro e
 subst e
 exact this (by decide)
theorem aBk {nm:List aR}(hn:Nok nm){c:Nat}{l:List Tk}{e:E}(h:G nm c l e):l.all plain=true/\l≠[]:=by
 induction h with
 | up _ _ ih=>exact ih
 | sel _ _ _ ih1 ih2 ih3=>simp[ih1.1,ih2.1,ih3.1,plain]
 | bin _ _ _ ih1 ih2=>simp[ih1.1,ih2.1,plain]
 | neg _ ih=>simp[ih.1,plain]
 | par _ ih=>simp[ih.1,plain]
 | num v=>simp[plain]
 | @word s e h1 h2 h3 h4 =>
  simp only[List.all_cons,List.all_nil,Bool.and_true,plain,bne_iff_ne,ne_eq,reduceCtorEq,not_false_eq_true,and_true]
  intro he
  subst he
  have:nm.contains mV=true:=by
   unfold wd at h4
   rw[if_neg (by decide)] at h4
   split at h4
   ·assumption
   ·cases h4
  have:=hn mV (by simpa using this)
  exact absurd this (by decide)
 | @place s l e h1 h2 =>
  obtain⟨m,rfl,hm,-,-⟩:=pU h2
  have:m.all plain=true:=by
   rw[List.all_eq_true] at hm ⊢
   exact fun t ht=>aIy (hm t ht)
  have h3:(s != mV)=true:=by rcases h1 with rfl|rfl <;> decide
  simp[this,plain,h3]
 | call1 ha _ ih=>simp[ih.1,plain,(by simpa using aA7 (show 0 < rE (aY _) by rw[ha];decide):¬_=mV)]
 | call2 ha _ _ ih ih2=>simp[ih.1,ih2.1,plain,(by simpa using aA7 (show 0 < rE (aY _) by rw[ha];decide):¬_=mV)]
 | call3 ha _ _ _ ih ih2 ih3=>simp[ih.1,ih2.1,ih3.1,plain,(by simpa using aA7 (show 0 < rE (aY _) by rw[ha];decide):¬_=mV)]
abbrev Out:=List aR × List E × E
def hdr (nm:List aR):List Tk->Option (aR × List Tk)
 | .word s::.eq::r=>if mU s || nm.contains s then none else some (s,r)
 | _=>none
def fin (nm:List aR)(es:List E):Option (E × List Tk)->Option Out
 | some (e,[])=>some (nm,es,e)
 | _=>none
inductive GP:List aR->List E->List Tk->Out->Prop
 | last {nm:List aR} {es:List E} {l:List Tk} {e:E}:G nm 0 l e->GP nm es l (nm,es,e)
 | bind {nm:List aR} {es:List E} {s:aR} {l1 l2:List Tk} {e:E} {o:Out}:mU s=false->nm.contains s=false->G nm 0 l1 e->GP (nm++[s]) (es++[e]) l2 o->GP nm es (.word mV::.word s::.eq::(l1++.semi::l2)) o
inductive RP:List aR->List E->List Tk->Option Out->Prop
 | last {nm:List aR} {es:List E} {l:List Tk} {res:Option (E × List Tk)}:l.head?≠some (.word mV)->R nm (.at 0) l res->RP nm es l (fin nm es res)
 | bad {nm:List aR} {es:List E} {l:List Tk}:hdr nm l=none->RP nm es (.word mV::l) none
 | body {nm:List aR} {es:List E} {s:aR} {l l2:List Tk} {res:Option (E × List Tk)}:hdr nm l=some (s,l2)->R nm (.at 0) l2 res->rZ .semi res=none->RP nm es (.word mV::l) none
 | go {nm:List aR} {es:List E} {s:aR} {l l2 r:List Tk} {e:E} {res:Option (E × List Tk)} {o:Option Out}:hdr nm l=some (s,l2)->R nm (.at 0) l2 res->rZ .semi res=some (e,r)->RP (nm++[s]) (es++[e]) r o->RP nm es (.word mV::l) o
theorem aDp {nm:List aR}{l l2:List Tk}{s:aR}(h:hdr nm l=some (s,l2)):l=.word s::.eq::l2/\mU s=false/\nm.contains s=false:=by
 unfold hdr at h
 split at h
 ·split at h
  ·cases h
  ·rename_i hr
   cases h
   simp only[Bool.or_eq_true,not_or,Bool.not_eq_true] at hr
   exact⟨rfl,hr.1,hr.2⟩
 ·cases h
theorem aLk {nm:List aR}{s:aR}(h1:mU s=false)(h2:nm.contains s=false)(l:List Tk):hdr nm (.word s::.eq::l)=some (s,l):=by
 simp only[hdr,h1,h2,Bool.or_self,Bool.false_eq_true,if_false]
theorem aK8 {nm:List aR}{es:List E}{res:Option (E × List Tk)}{o:Out}(h:fin nm es res=some o):∃ e,res=some (e,[])/\o=(nm,es,e):=by
 unfold fin at h
 split at h
 ·cases h;exact⟨_,rfl,rfl⟩
 ·cases h
theorem Nok.snoc {nm:List aR}{s:aR}(h:Nok nm)(hs:mU s=false):Nok (nm++[s]):=by
 intro t ht
 rw[List.mem_append] at ht
 rcases ht with ht|ht
 ·exact h t ht
 ·simp at ht;rw[ht];exact hs
theorem aM5 {nm:List aR}{es:List E}{l:List Tk}{res:Option Out}(h:RP nm es l res):Nok nm->∀ o,(res=some o↔GP nm es l o):=by
 induction h with
 | @last nm es l res hl hr =>
  intro hn o
  constructor
  ·intro he
   obtain⟨e,h1,rfl⟩:=aK8 he
   exact GP.last ((aEg hr e).1 h1)
  ·intro hg
   cases hg with
   | last g=>rw[(aEg hr _).2 g];rfl
   | bind _ _ _ _=>exact absurd rfl hl
 | @bad nm es l hh =>
  intro hn o
  constructor
  ·intro he;cases he
  ·intro hg
   cases hg with
   | last g =>
    have:=(aBk hn g).1
    simp[plain] at this
   | bind h1 h2 _ _=>rw[aLk h1 h2] at hh;cases hh
 | @body nm es s l l2 res hh hr he =>
  intro hn o
  constructor
  ·intro he;cases he
  ·intro hg
   obtain⟨rfl,hs1,hs2⟩:=aDp hh
   cases hg with
   | last g =>
    have:=(aBk hn g).1
    simp[plain] at this
   | bind h1 h2 g gp =>
    have:=det hr _ ((wH g).1 (.semi::_) (uY.cons _ (by intro k' o' e;cases e) (by intro e;cases e)))
    rw[this,dH] at he
    cases he
 | @go nm es s l l2 r e res o' hh hr he hp ih =>
  intro hn o
  obtain⟨rfl,hs1,hs2⟩:=aDp hh
  have hn2:=hn.snoc hs1
  constructor
  ·intro ho
   obtain⟨p,rfl,hg⟩:=sound hr e _ (iD he)
   exact GP.bind hs1 hs2 hg ((ih hn2 o).1 ho)
  ·intro hg
   cases hg with
   | last g =>
    have:=(aBk hn g).1
    simp[plain] at this
   | bind h1 h2 g gp =>
    have:=det hr _ ((wH g).1 (.semi::_) (uY.cons _ (by intro k' o' e;cases e) (by intro e;cases e)))
    rw[this,dH] at he
    cases he
    exact(ih hn2 o).2 gp
def Ans (l:List Tk)(res:Option Out):Prop:=∀ o,(res=some o↔GP [] [] l o)
theorem RP.ans {l:List Tk}{res:Option Out}(h:RP [] [] l res):Ans l res:=aM5 h (by intro s hs;simp at hs)
def marks:List (aR × Tk):=[([43],.op 5 8),([45],.op 5 9),([42],.op 6 10),([47],.op 6 11),([37],.op 6 12),([40],.lp),([41],.rp),([44],.comma),([59],.semi),([61],.eq),([63],.ques),([58],.colon),
 ([60],.op 3 18),([62],.op 3 20),([38],.op 2 15),([124],.op 0 16),([94],.op 1 17),([60,61],.op 3 19),([62,61],.op 3 21),([61,61],.op 3 22),([33,61],.op 3 23),([60,60],.op 4 13),([62,62],.op 4 14)]
def mkT (s:aR):Tk:=((marks.find? fun r=>r.1==s).map (·.2)).getD .eq
def ab (t:Tok):Tk:=if t.kind=1 then .num (vl t.text) else if t.kind=2 then .word t.text else mkT t.text
def Wf (t:Tok):Prop:=(t.kind=1/\num t.text=true)\/(t.kind=2/\uX t.text=true)\/(t.kind=3/\t.text ∈ marks.map (·.1))
theorem aX0 {t:Tok}(h:Fm t.kind t.text)(hm:may t.kind t.text=true):Wf t:=by
 obtain⟨hne,h⟩:=h
 rcases h with⟨hk,h⟩|⟨hk,hA,h⟩|⟨hk,h⟩
 ·left;rw[hk] at hm;exact⟨hk,by simpa [may] using hm⟩
 ·right;left;rw[hk] at hm;exact⟨hk,by simpa [may] using hm⟩
 ·right;right
  refine⟨hk,?_⟩
  rcases h with h|⟨c,hc,h⟩
  ·rcases nE h with h|h|h|h|h|h <;> rw[h] <;> decide
  ·rw[h]
   have:c ∈ sh:=by simpa using hc
   simp only[sh,List.mem_cons,List.not_mem_nil,or_false] at this
   rcases this with rfl|rfl|rfl|rfl|rfl|rfl|rfl|rfl|rfl|rfl|rfl|rfl|rfl|rfl|rfl|rfl|rfl <;> decide
theorem aOd {l:List UInt8}{T:List Tok}(h:tks l=some T):∀ t ∈ T,Wf t:=fun t ht=>by
 have:=aC9 T l 0 (aCs h).1 t ht
 exact aX0 this.1 this.2
end Pz
namespace Go.Proofs.YtihbhbeaihdgnaaGreat
open Go.RowKit Go.IntWalk Lx Pz
def nd9 (n:Nd):List Value:=[.int .i64 n.op,.int .i64 n.a,.int .i64 n.b,.int .i64 n.c,.int .i64 n.k,.int .i64 n.back,.int .i64 n.co,.int .i64 n.x,.int .i64 n.y]
def sO (NS:List Nd):List Value:=NS.flatMap nd9
theorem aMf (NS:List Nd):(sO NS).length=NS.length*9:=by
 induction NS with
 | nil=>rfl
 | cons p L ih=>simp[sO,nd9] at *;omega
theorem aJa (NS:List Nd)(n:Nd):sO (NS++[n])=sO NS++nd9 n:=by simp[sO]
abbrev aJx (L:List aR):List Value:=L.map fun s=>.string (sB s)
abbrev jT (L:List Int):List Value:=L.map fun k=>.int .i64 k
structure Kp (S:List TypeId)(W W':World):Prop where
 size:W.heap.size<=W'.heap.size
 block:∀(k:Nat) (cs:Array Value) (t:TypeId) (fr:Nat × Nat),W.heap[k]?=some (.cells cs t fr)->t ∉ S->W'.heap[k]?=some (.cells cs t fr)
theorem Kp.refl (S:List TypeId)(W:World):Kp S W W:=⟨Nat.le_refl _,fun _ _ _ _ h _=>h⟩
theorem Kp.trans {S:List TypeId}{a b c:World}(h:Kp S a b)(k:Kp S b c):Kp S a c :=
 ⟨Nat.le_trans h.size k.size,fun i cs t fr hi ht=>k.block i cs t fr (h.block i cs t fr hi ht) ht⟩
theorem Kp.mono {S S':List TypeId}{a b:World}(h:Kp S a b)(hs:∀ t ∈ S,t ∈ S'):Kp S' a b:=⟨h.size,fun i cs t fr hi ht=>h.block i cs t fr hi fun hm=>ht (hs t hm)⟩
theorem Kp.of_below (S:List TypeId){a b:World}(h:Below a.heap.size a b):Kp S a b :=
 ⟨h.size,fun i cs t fr hi _=>(h.block i (Array.getElem?_eq_some_iff.1 hi).1).trans hi⟩
theorem Kp.grown {S:List TypeId}{W W':World}{row:Option Nat}(hg:W.grownBy W' row)(hr:∀ k,row=some k->∃ cs t fr,W.heap[k]?=some (.cells cs t fr)/\t ∈ S):Kp S W W':=by
 refine⟨hg.size,fun i cs t fr hi ht=>(hg.block i (Array.getElem?_eq_some_iff.1 hi).1 ?_).trans hi⟩
 intro e
 obtain⟨cs',t',fr',h',hm⟩:=hr i e.symm
 rw[hi] at h'
 cases h'
 exact ht hm
theorem Kp.set {S:List TypeId}{W:World}{b:Nat}{t:TypeId}{cs:Array Value}(h:aB W b t cs)(ht:t ∈ S)(i:Nat)(u:Value):Kp S W (W.setCell ⟨b,i,none⟩ u):=by
 refine⟨by simp[World.setCell],fun k cs' t' fr hk hn=>?_⟩
 by_cases e:k=b
 ·subst e
  rw[show W.heap[k]?=_ from h] at hk
  cases hk
  exact absurd ht hn
 ·exact(Below.heap_setCell W ⟨b,i,none⟩ u k e).trans hk
theorem aB.kp {S:List TypeId}{W W':World}{b:Nat}{t:TypeId}{cs:Array Value}(h:aB W b t cs)(hk:Kp S W W')(ht:t ∉ S):aB W' b t cs:=hk.block b cs t (0,0) h ht
theorem aU {S:List TypeId}{W W':World}{base:Nat}{e:TypeId}{size:Nat}{v:Value}{n:Nat}{xs:List Value}(h:W.ownsRow base e size v n xs)(hk:Kp S W W')(ht:e ∉ S):W'.ownsRow base e size v n xs:=by
 refine⟨h.1,?_⟩
 rcases h.2 with hn|⟨g,cap,cur,rfl,hb,hgg,rest⟩
 ·exact .inl hn
 ·exact .inr ⟨g,cap,cur,rfl,hb,hk.block g _ _ _ hgg ht,rest⟩
theorem aM {W:World}{base:Nat}{e:TypeId}{size:Nat}{v:Value}{n:Nat}{xs:List Value}(h:W.ownsRow base e size v n xs):∀ k,v.ownBlock=some k->base<=k/\∃ cs fr,W.heap[k]?=some (.cells cs e fr):=by
 intro k hk
 rcases h.2 with⟨rfl,_⟩|⟨g,cap,cur,rfl,hb,hgg,rest⟩
 ·simp[Value.ownBlock] at hk
 ·simp[Value.ownBlock] at hk
  subst hk
  exact⟨hb,_,_,hgg⟩
structure Tz (W:World)(a:Option Addr)(n cap:Nat)(T:List Tok):Prop where
 t:Toks W a n cap T
 ty:∀ x,a=some x->∃ cs fr,W.heap[x.block]?=some (.cells cs 118 fr)
theorem Tz.kp {S:List TypeId}{W W':World}{a:Option Addr}{n cap:Nat}{T:List Tok}(h:Tz W a n cap T)(hk:Kp S W W')(ht:118 ∉ S):Tz W' a n cap T:=by
 refine⟨h.t.of_cells fun b off ha hn i=>?_,fun x hx=>?_⟩
 ·obtain⟨cs,fr,hc⟩:=h.ty _ ha
  have h2:=hk.block _ _ _ _ hc ht
  exact World.cell?_of_block (a:=⟨b,i,none⟩) (h2.trans hc.symm)
 ·obtain⟨cs,fr,hc⟩:=h.ty x hx
  exact⟨cs,fr,hk.block _ _ _ _ hc ht⟩
structure Mm where
 la:Option Addr
 ln:Nat
 lc:Nat
 nv:Value
 bv:Value
 dv:Value
 root:Int
abbrev Mm.cs (m:Mm):Array Value:=#[.slice m.la m.ln m.lc,m.nv,m.bv,m.dv,.int .i64 m.root]
structure Rd (w W:World)(b:Nat)(m:Mm)(T:List Tok)(NM:List aR)(BS:List Int)(NS:List Nd):Prop where
 blk:aB W b 88 m.cs
 base:w.heap.size<=b
 toks:Tz W m.la m.ln m.lc T
 names:W.ownsRow w.heap.size 9 1 m.nv NM.length (aJx NM)
 binds:W.ownsRow w.heap.size 3 1 m.bv BS.length (jT BS)
 nodes:W.ownsRow w.heap.size 93 9 m.dv NS.length (sO NS)
 wf:∀ t ∈ T,Wf t
 old:Below w.heap.size w W
theorem Rd.later {w W W':World}{b:Nat}{m:Mm}{T:List Tok}{NM:List aR}{BS:List Int}{NS:List Nd}(h:Rd w W b m T NM BS NS)(hb:Below W.heap.size W W'):Rd w W' b m T NM BS NS:=by
 have hk:=Kp.of_below [] hb
 exact⟨h.blk.kp hk (by simp),h.base,h.toks.kp hk (by simp),aU h.names hk (by simp),aU h.binds hk (by simp),aU h.nodes hk (by simp),h.wf,Go.Proofs.YtihbhbeaihdgnaaGreat.bel h.old hb⟩
theorem aLd {W F:World}(b:Nat)(h:Below W.heap.size W F):W.grownBy F (some b):=⟨h.os,h.tape,h.output,h.size,fun k hk _=>h.block k hk⟩
theorem aBl {W F:World}{b:Nat}(h:W.grownBy F (some b)){p:Addr}(hp:p.block=b\/W.heap.size<=p.block)(u:Value):W.grownBy (F.setCell p u) (some b):=by
 refine⟨h.os,h.tape,h.output,by have:=h.size;simp[World.setCell];omega,fun k hk hne=>(Below.heap_setCell F p u k ?_).trans (h.block k hk hne)⟩
 rcases hp with hp|hp
 ·rw[hp];simpa using hne
 ·omega
theorem aLc {W F:World}{b:Nat}(h:W.grownBy F (some b))(o:Obj):W.grownBy (F.alloc o) (some b) :=
 ⟨h.os,h.tape,h.output,by have:=h.size;simp;omega,fun k hk hne=>(Below.heap_alloc F o k (by have:=h.size;omega)).trans (h.block k hk hne)⟩
theorem Kp.gb {S:List TypeId}{W F:World}{b:Nat}{t:TypeId}{cs:Array Value}(h:W.grownBy F (some b))(hb:aB W b t cs)(ht:t ∈ S):Kp S W F :=
 Kp.grown h fun k hk=>by cases hk;exact⟨cs,t,_,hb,ht⟩
theorem Rd.moved {w W F:World}{b:Nat}{m m':Mm}{T T':List Tok}{NM:List aR}{BS:List Int}{NS:List Nd}(h:Rd w W b m T NM BS NS)(hF:W.grownBy F (some b))
  (hb:aB F b 88 m'.cs) (h1:m'.nv=m.nv) (h2:m'.bv=m.bv) (h3:m'.dv=m.dv) (ht:Tz W m'.la m'.ln m'.lc T') (hw:∀ t ∈ T',t ∈ T):Rd w F b m' T' NM BS NS:=by
 have hk:Kp [88] W F:=Kp.gb hF h.blk (by simp)
 exact⟨hb,h.base,ht.kp hk (by decide),by rw[h1];exact aU h.names hk (by decide),by rw[h2];exact aU h.binds hk (by decide),by rw[h3];exact aU h.nodes hk (by decide),fun t ht=>h.wf t (hw t ht),
  h.old.grown hF h.old.size (fun k hk=>by cases hk;exact h.base)⟩
theorem Tz.tail {W:World}{g off n cap:Nat}{t:Tok}{T:List Tok}(h:Tz W (some ⟨g,off,none⟩) n cap (t::T)) :
  (cap=1->Tz W (some ⟨g,off,none⟩) (n-1) 0 T)/\(cap≠1->Tz W (some ⟨g,off+3,none⟩) (n-1) (cap-1) T):=by
 have hl:=h.t.len
 have hle:=h.t.le
 have hmx:=h.t.max
 rw[List.length_cons] at hl
 constructor
 ·intro hc
  exact⟨⟨by omega,by omega,by unfold maxLen;omega,(fun e=>by cases e),.inl (by omega)⟩,h.ty⟩
 ·intro hc
  refine⟨⟨by omega,by omega,by omega,(fun e=>by cases e),?_⟩,fun x hx=>by cases hx;exact h.ty ⟨g,off,none⟩ rfl⟩
  by_cases hn:n-1=0
  ·exact .inl hn
  ·obtain⟨b,o,hb,_,hcell⟩:=h.t.at (by omega)
   cases hb
   refine .inr ⟨g,off+3,rfl,fun i hi=>?_⟩
   have:=hcell (i+1) (by omega)
   rw[List.getD_cons_succ,show off+(i+1)*3=off+3+i*3 by omega] at this
   exact this
def hd (T:List Tok):Tok:=T.headD t0
abbrev pan:Ending:=.panicked [{ v:=.iface 30 (.int .i64 10),recovered:=false }]
abbrev ptr (b:Nat):Value:=.pointer (some ⟨b,0,none⟩)
theorem eZ {w W:World}{b:Nat}{m:Mm}{T:List Tok}{NM:List aR}{BS:List Int}{NS:List Nd}(h:Rd w W b m T NM BS NS) :
  Calls Tryz.prog 108 #[ptr b] W fun e W'=>e=.returned (.agg (tc (hd T).kind (sB (hd T).text) (hd T).pos))/\Below W.heap.size W W':=by
 obtain⟨la,ln,lc,nv,bv,dv,root⟩:=m
 have c0:=aV (o:=.cells (tc 0 ⟨#[]⟩ 0) 118) h.blk.lt (i:=0) |>.trans (h.blk.cell 0 rfl)
 have hl:=h.toks.t.len
 have hmx:=h.toks.t.max
 have hle:=h.toks.t.le
 simp only at c0 hl hmx hle
 unfold maxLen at hmx
 cases T with
 | nil =>
  obtain rfl:ln=0:=by simpa using hl.symm
  clear hl h
  go_enter Tryz.func108,Tryz.ntmps108
  go_wp2
  exact bodyPost_ret (v:=.agg (tc 0 ⟨#[]⟩ 0)) (by simp[results,Tryz.results108,go_sem]) rfl ⟨rfl,aC _ _⟩
 | cons t T =>
  rw[List.length_cons] at hl
  obtain⟨g,off,rfl,hg,hc⟩:=h.toks.t.at (by simp only;omega)
  obtain⟨d0,d1,d2⟩:=hc 0 (by simp only;omega)
  simp only[Nat.zero_mul,Nat.add_zero,List.getD_cons_zero] at d0 d1 d2
  have e0:=(aV (o:=.cells (tc 0 ⟨#[]⟩ 0) 118) hg (i:=off)).trans d0
  have e1:=(aV (o:=.cells (tc 0 ⟨#[]⟩ 0) 118) hg (i:=off+1)).trans d1
  have e2:=(aV (o:=.cells (tc 0 ⟨#[]⟩ 0) 118) hg (i:=off+2)).trans d2
  have h0:0 < ln:=by omega
  clear hc d0 d1 d2 h hg
  have hn:((ln:Int)==0)=false:=by simp;omega
  go_enter Tryz.func108,Tryz.ntmps108
  go_wp2
  exact bodyPost_ret (v:=.agg (tc t.kind (sB t.text) t.pos)) (by simp[results,Tryz.results108,go_sem]) rfl ⟨rfl,aC _ _⟩
end Go.Proofs.YtihbhbeaihdgnaaGreat
namespace Go.Proofs.YtihbhbeaihdgnaaGreat
open Go.RowKit Go.IntWalk Lx Pz
abbrev SX:List TypeId:=[93,88]
theorem aSe {t:Tok}(h:Wf t):(t.kind==0)=false:=by
 rcases h with⟨h,-⟩|⟨h,-⟩|⟨h,-⟩ <;> rw[h] <;> decide
theorem aDx {w W:World}{b:Nat}{m:Mm}{NM:List aR}{BS:List Int}{NS:List Nd}(h:Rd w W b m [] NM BS NS) :
  Calls Tryz.prog 109 #[ptr b] W fun e W'=>e=pan/\Below W.heap.size W W':=by
 have HR:=aA (h.later (aC W (.cells (tc 0 ⟨#[]⟩ 0) 118)))
 clear h
 go_enter Tryz.func109,Tryz.ntmps109
 go_wp2_with fail
 refine(eZ HR.o).mono ?_
 rintro e W1 ⟨rfl,hb⟩
 have HB:=aA (bel (aC W (.cells (tc 0 ⟨#[]⟩ 0) 118)) hb)
 clear hb
 rw[show (hd []).kind=0 from rfl,show sB (hd []).text=⟨#[]⟩ from rfl,show ((hd []).pos:Int)=0 from rfl]
 go_wp2_with fail
 exact⟨rfl,rfl,bel HB.o (aC _ _)⟩
theorem aDw {w W W1:World}{b:Nat}{m:Mm}{t:Tok}{T:List Tok}{NM:List aR}{BS:List Int}{NS:List Nd}(hW:Rd w W b m (t::T) NM BS NS)(hB:Below W.heap.size W W1)
  (hH:aB W1 W.heap.size 118 (tc 0 ⟨#[]⟩ 0)) {la:Option Addr} {ln lc:Nat} (hz:Tz W la ln lc T) :
  ∃ F,(((((W1.setCell ⟨b,0,none⟩ (.slice la ln lc)).alloc (.cells (tc t.kind (sB t.text) t.pos) 118)).setCell ⟨W.heap.size,0,none⟩ (.int .i64 t.kind)).setCell ⟨W.heap.size,1,none⟩ (.string (sB t.text))).setCell ⟨W.heap.size,2,none⟩ (.int .i64 t.pos))=F /\
   (F.cell? ⟨W.heap.size,0,none⟩=some (.int .i64 t.kind)/\F.cell? ⟨W.heap.size,1,none⟩=some (.string (sB t.text))/\F.cell? ⟨W.heap.size,2,none⟩=some (.int .i64 t.pos))/\(∃ m',Rd w F b m' T NM BS NS)/\Kp SX W F:=by
 refine⟨_,rfl,?_⟩
 have hbW:=hW.blk.lt
 have h1:=(hH.other (p:=⟨b,0,none⟩) (show W.heap.size≠b by omega) (.slice la ln lc)).alloc (.cells (tc t.kind (sB t.text) t.pos) 118)
 have h2:=((h1.set 0 (.int .i64 t.kind)).set 1 (.string (sB t.text))).set 2 (.int .i64 t.pos)
 have hg:W.grownBy _ (some b):=aBl (aBl (aBl (aLc (aBl (aLd b hB) (p:=⟨b,0,none⟩) (.inl rfl) (.slice la ln lc)) (.cells (tc t.kind (sB t.text) t.pos) 118)) (p:=⟨W.heap.size,0,none⟩) (.inr (Nat.le_refl _)) (.int .i64 t.kind)) (p:=⟨W.heap.size,1,none⟩) (.inr (Nat.le_refl _)) (.string (sB t.text))) (p:=⟨W.heap.size,2,none⟩) (.inr (Nat.le_refl _)) (.int .i64 t.pos)
 have hb:=((((hW.blk.below hB).set 0 (.slice la ln lc)).alloc (.cells (tc t.kind (sB t.text) t.pos) 118)).other (p:=⟨W.heap.size,0,none⟩) (show b≠W.heap.size by omega) (.int .i64 t.kind)).other (p:=⟨W.heap.size,1,none⟩) (show b≠W.heap.size by omega) (.string (sB t.text)) |>.other (p:=⟨W.heap.size,2,none⟩) (show b≠W.heap.size by omega) (.int .i64 t.pos)
 exact⟨⟨h2.cell 0 rfl,h2.cell 1 rfl,h2.cell 2 rfl⟩,⟨⟨la,ln,lc,m.nv,m.bv,m.dv,m.root⟩,hW.moved hg hb rfl rfl rfl hz (fun t h=>List.mem_cons_of_mem _ h)⟩,Kp.gb hg hW.blk (by decide)⟩
theorem dP {w W:World}{b:Nat}{m:Mm}{t:Tok}{T:List Tok}{NM:List aR}{BS:List Int}{NS:List Nd}(h:Rd w W b m (t::T) NM BS NS) :
  Calls Tryz.prog 109 #[ptr b] W fun e W'=>e=.returned (.agg (tc t.kind (sB t.text) t.pos))/\(∃ m',Rd w W' b m' T NM BS NS)/\Kp SX W W':=by
 have HR:=aA (h.later (aC W (.cells (tc 0 ⟨#[]⟩ 0) 118)))
 have hk:=aSe (h.wf t (by simp))
 have HW:=aA h
 clear h
 go_enter Tryz.func109,Tryz.ntmps109
 go_wp2_with fail
 refine(eZ HR.o).mono ?_
 rintro e W1 ⟨rfl,hb⟩
 have HB:=aA (bel (aC W (.cells (tc 0 ⟨#[]⟩ 0) 118)) hb)
 have HR1:=aA (HR.o.later hb)
 have HH:=aA ((aB.new W 118 (tc 0 ⟨#[]⟩ 0)).below hb)
 clear hb HR
 obtain⟨la,ln,lc,nv,bv,dv,root⟩:=m
 have hlt:=HR1.o.blk.lt
 have c0:=(aV (o:=.cells (tc t.kind (sB t.text) t.pos) 118) hlt (i:=0)).trans (HR1.o.blk.cell 0 rfl)
 have z0:=(HR1.o.blk.alloc (.cells (tc t.kind (sB t.text) t.pos) 118)).frozen 0
 have hl:=HR1.o.toks.t.len
 have hmx:=HR1.o.toks.t.max
 have hle:=HR1.o.toks.t.le
 simp only[List.length_cons] at c0 hl hmx hle
 unfold maxLen at hmx
 obtain⟨g,off,hla,hg,-⟩:=HR1.o.toks.t.at (by simp only;omega)
 simp only at hla
 subst hla
 have h0:1<=ln:=by omega
 clear hg hl
 rw[show (hd (t::T)).kind=t.kind from rfl,show sB (hd (t::T)).text=sB t.text from rfl,show ((hd (t::T)).pos:Int)=(t.pos:Int) from rfl]
 have hbW:=HW.o.blk.lt
 by_cases h1:lc=1
 ·subst h1
  obtain rfl:ln=1:=by omega
  have HC1:=aA ((HH.o.other (p:=⟨b,0,none⟩) (show W.heap.size≠b by omega) (.slice (some ⟨g,off,none⟩) 0 0)).alloc (.cells (tc t.kind (sB t.text) t.pos) 118))
  obtain⟨s0,s1,s2⟩:=iE HC1.o
  obtain⟨y0,y1,y2⟩:=zY HC1.o
  go_wp2_with fail
  obtain⟨F,hF,⟨f0,f1,f2⟩,hR,hK⟩:=aDw (la:=some ⟨g,off,none⟩) (ln:=0) (lc:=0) HW.o HB.o HH.o (HW.o.toks.tail.1 rfl)
  exact bodyPost_ret (v:=.agg (tc t.kind (sB t.text) t.pos)) (by rw[hF];simp[results,Tryz.results109,go_sem,f0,f1,f2]) rfl ⟨rfl,by rw[hF];exact hR,by rw[hF];exact hK⟩
 ·have HC1:=aA ((HH.o.other (p:=⟨b,0,none⟩) (show W.heap.size≠b by omega) (.slice (some ⟨g,off+3,none⟩) (ln-1) (lc-1))).alloc (.cells (tc t.kind (sB t.text) t.pos) 118))
  obtain⟨s0,s1,s2⟩:=iE HC1.o
  obtain⟨y0,y1,y2⟩:=zY HC1.o
  go_wp2_with fail
  obtain⟨F,hF,⟨f0,f1,f2⟩,hR,hK⟩:=aDw (la:=some ⟨g,off+3,none⟩) (ln:=ln-1) (lc:=lc-1) HW.o HB.o HH.o (HW.o.toks.tail.2 h1)
  exact bodyPost_ret (v:=.agg (tc t.kind (sB t.text) t.pos)) (by rw[hF];simp[results,Tryz.results109,go_sem,f0,f1,f2]) rfl ⟨rfl,by rw[hF];exact hR,by rw[hF];exact hK⟩
def aWb (w W:World)(b:Nat)(T:List Tok)(NM:List aR)(BS:List Int)(NS:List Nd)(e:Ending)(W':World):Prop :=
 (T=[]/\e=pan/\Below w.heap.size w W')\/(∃ t T',T=t::T'/\Wf t/\e=.returned (.agg (tc t.kind (sB t.text) t.pos))/\(∃ m',Rd w W' b m' T' NM BS NS)/\Kp SX W W')
theorem aMi {w W:World}{b:Nat}{m:Mm}{T:List Tok}{NM:List aR}{BS:List Int}{NS:List Nd}(h:Rd w W b m T NM BS NS) :
  Calls Tryz.prog 109 #[ptr b] W fun e W'=>aWb w W b T NM BS NS e W':=by
 cases T with
 | nil=>exact(aDx h).mono fun e W' ⟨h1,h2⟩=>.inl ⟨rfl,h1,bel h.old h2⟩
 | cons t T=>exact(dP h).mono fun e W' ⟨h1,h2,h3⟩=>.inr ⟨t,T,rfl,h.wf t (by simp),h1,h2,h3⟩
theorem aWk:∀(k:Int) (s:ByteArray) (p:Int) (w:World),(Instr.field 118 (.agg (tc k s p)) 0).run Tryz.prog w=.ok (.int .i64 k) w:=by
 intro k s p w;simp[Instr.field,asAgg,go_sem]
theorem aDg:∀(k:Int) (s:ByteArray) (p:Int) (w:World),(Instr.field 118 (.agg (tc k s p)) 1).run Tryz.prog w=.ok (.string s) w:=by
 intro k s p w;simp[Instr.field,asAgg,go_sem]
theorem aH6 {s t:ByteArray}(h:bs s≠bs t):(s.toList==t.toList)=false:=by
 rw[gZ,gZ]
 simpa using h
theorem kT {w W:World}{b:Nat}{m:Mm}{t:Tok}{T:List Tok}{NM:List aR}{BS:List Int}{NS:List Nd}(h:Rd w W b m (t::T) NM BS NS)(s:ByteArray)(hs:t.text=bs s) :
  Calls Tryz.prog 61 #[ptr b,.string s] W fun e W'=>e=.returned (.bool true)/\(∃ m',Rd w W' b m' T NM BS NS)/\Kp SX W W':=by
 have HW:=aA h
 clear h
 have F1:=aDg
 go_enter Tryz.func61,Tryz.ntmps61
 go_wp2_with fail
 refine(eZ HW.o).mono ?_
 rintro e W1 ⟨rfl,hb⟩
 have HR:=aA (HW.o.later hb)
 have HK:=aA (Kp.of_below SX hb)
 rw[show sB (hd (t::T)).text=s by show sB t.text=s;rw[hs,aEm]]
 clear hb HW hs
 go_wp2_with fail
 refine(dP HR.o).mono ?_
 rintro e W2 ⟨rfl,hR,hk⟩
 have HR2:=aA hR
 have HK2:=aA (HK.o.trans hk)
 clear hR hk HK
 go_wp2_with fail
 go_ret
 exact⟨rfl,HR2.o,HK2.o⟩
theorem lK {w W:World}{b:Nat}{m:Mm}{T:List Tok}{NM:List aR}{BS:List Int}{NS:List Nd}(h:Rd w W b m T NM BS NS)(s:ByteArray)(hs:(hd T).text≠bs s) :
  Calls Tryz.prog 61 #[ptr b,.string s] W fun e W'=>e=.returned (.bool false)/\Below W.heap.size W W':=by
 have HW:=aA h
 have hne:=aH6 (s:=sB (hd T).text) (t:=s) hs
 clear h hs
 have F1:=aDg
 go_enter Tryz.func61,Tryz.ntmps61
 go_wp2_with fail
 refine(eZ HW.o).mono ?_
 rintro e W1 ⟨rfl,hb⟩
 have HB:=aA hb
 generalize sB (hd T).text=u at hne ⊢
 clear hb HW
 go_wp2_with fail
 go_ret
 exact⟨rfl,HB.o⟩
theorem dK {w W:World}{b:Nat}{m:Mm}{t:Tok}{T:List Tok}{NM:List aR}{BS:List Int}{NS:List Nd}(h:Rd w W b m (t::T) NM BS NS)(s:ByteArray)(hs:t.text=bs s) :
  Calls Tryz.prog 112 #[ptr b,.string s] W fun e W'=>e=.returned (.tuple #[])/\(∃ m',Rd w W' b m' T NM BS NS)/\Kp SX W W':=by
 have HW:=aA h
 have hs:=aA hs
 clear h
 go_enter Tryz.func112,Tryz.ntmps112
 go_wp2_with fail
 refine(kT HW.o _ hs.o).mono ?_
 rintro e W1 ⟨rfl,hR,hk⟩
 have HR:=aA hR
 have HK:=aA hk
 clear hR hk
 go_wp2_with fail
 refine bodyPost_end (results_none rfl _ _ _) rfl ?_
 exact⟨rfl,HR.o,HK.o⟩
theorem eT {w W:World}{b:Nat}{m:Mm}{T:List Tok}{NM:List aR}{BS:List Int}{NS:List Nd}(h:Rd w W b m T NM BS NS)(s:ByteArray)(hs:(hd T).text≠bs s) :
  Calls Tryz.prog 112 #[ptr b,.string s] W fun e W'=>e=pan/\Below W.heap.size W W':=by
 have HW:=aA h
 have hs:=aA hs
 clear h
 go_enter Tryz.func112,Tryz.ntmps112
 go_wp2_with fail
 refine(lK HW.o _ hs.o).mono ?_
 rintro e W1 ⟨rfl,hb⟩
 have HB:=aA hb
 clear hb
 go_wp2_with fail
 exact⟨rfl,rfl,HB.o⟩
end Go.Proofs.YtihbhbeaihdgnaaGreat
