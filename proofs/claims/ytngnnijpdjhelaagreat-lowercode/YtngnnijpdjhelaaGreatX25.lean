import Derived.Test.YtngnnijpdjhelaaGreatX24
namespace Pz
open Lx
set_option linter.unusedVariables false
set_option maxRecDepth 100000
set_option maxHeartbeats 16000000
theorem no_some {α:Type}{a:α}{p:Prop}(h:none=some a):p:=by cases h
theorem so_none {α:Type}{a:α}{p:Prop}(h:some a=none):p:=by cases h
theorem begins_bad {l:List Tk}{p:Prop}(h:begins l=false)(h2:begins l=true):p:=by rw[h] at h2;cases h2
theorem ari_ne1 {s:Txt}{n:Nat}(h:ari (calO s)=n)(hn:1<=n):calO s≠0:=ari_ne (by omega)
theorem ari_ne2 {s:Txt}(h:2<=ari (calO s)):calO s≠0:=ari_ne (by omega)
theorem det {nm:List Txt}{x:NR}{l:List Tk}{r1:Option (E × List Tk)}(h:R nm x l r1):∀ r2,R nm x l r2->r1=r2:=by
 induction h with
 | ch_none h ih =>
  intro r2 h2
  cases h2 with
  | ch_none h1=>rfl
  | ch_up h1 _=>exact no_some (ih _ h1)
  | ch_no h1 _ _=>exact no_some (ih _ h1)
  | ch_sel h1 _ _ _=>exact no_some (ih _ h1)
 | ch_up h hq ih =>
  intro r2 h2
  cases h2 with
  | ch_none h1=>exact so_none (ih _ h1)
  | ch_up h1 _=>exact ih _ h1
  | ch_no h1 _ _=>have:=ih _ h1;cases this;exact absurd rfl hq
  | ch_sel h1 _ _ _=>have:=ih _ h1;cases this;exact absurd rfl hq
 | ch_no h1 h2 h3 ih1 ih2 =>
  intro r2 h
  cases h with
  | ch_none g1=>rfl
  | ch_up g1 hq=>have:=ih1 _ g1;cases this;exact absurd rfl hq
  | ch_no g1 _ _=>rfl
  | ch_sel g1 g2 g3 _=>have:=ih1 _ g1;cases this;have:=ih2 _ g2;subst this;rw[h3] at g3;cases g3
 | ch_sel h1 h2 h3 h4 ih1 ih2 ih4 =>
  intro r2 h
  cases h with
  | ch_none g1=>exact so_none (ih1 _ g1)
  | ch_up g1 hq=>have:=ih1 _ g1;cases this;exact absurd rfl hq
  | ch_no g1 g2 g3=>have:=ih1 _ g1;cases this;have:=ih2 _ g2;subst this;rw[h3] at g3;cases g3
  | ch_sel g1 g2 g3 g4=>have:=ih1 _ g1;cases this;have:=ih2 _ g2;subst this;rw[h3] at g3;cases g3;rw[ih4 _ g4]
 | lv_none hk h ih =>
  intro r2 h2
  cases h2 with
  | lv_none _ g=>rfl
  | lv_go _ g _=>exact no_some (ih _ g)
  | _=>omega
 | lv_go hk h1 h2 ih1 ih2 =>
  intro r2 h
  cases h with
  | lv_none _ g=>exact so_none (ih1 _ g)
  | lv_go _ g g2=>have:=ih1 _ g;cases this;exact ih2 _ g2
  | _=>omega
 | lp_stop h =>
  intro r2 h2
  cases h2 with
  | lp_stop _=>rfl
  | lp_none _=>exact absurd rfl (h _)
  | lp_cmp _=>exact absurd rfl (h _)
  | lp_go _ _ _=>exact absurd rfl (h _)
 | lp_none h ih =>
  intro r2 h2
  cases h2 with
  | lp_stop g=>exact absurd rfl (g _)
  | lp_none _=>rfl
  | lp_cmp g=>exact no_some (ih _ g)
  | lp_go _ g _=>exact no_some (ih _ g)
 | lp_cmp h ih =>
  intro r2 h2
  cases h2 with
  | lp_stop g=>exact absurd rfl (g _)
  | lp_none g=>exact so_none (ih _ g)
  | lp_cmp g=>have:=ih _ g;cases this;rfl
  | lp_go g _ _=>exact absurd rfl g
 | lp_go h3 h1 h2 ih1 ih2 =>
  intro r2 h
  cases h with
  | lp_stop g=>exact absurd rfl (g _)
  | lp_none g=>exact so_none (ih1 _ g)
  | lp_cmp g=>exact absurd rfl h3
  | lp_go _ g g2=>have:=ih1 _ g;cases this;exact ih2 _ g2
 | neg h ih =>
  intro r2 h2
  cases h2 with
  | neg g=>rw[ih _ g]
  | lv_none g _=>omega
  | lv_go g _ _=>omega
  | bad g=>exact begins_bad g rfl
 | par h ih =>
  intro r2 h2
  cases h2 with
  | par g=>rw[ih _ g]
  | lv_none g _=>omega
  | lv_go g _ _=>omega
  | bad g=>exact begins_bad g rfl
 | num v l =>
  intro r2 h2
  cases h2 with
  | num _ _=>rfl
  | lv_none g _=>omega
  | lv_go g _ _=>omega
  | bad g=>exact begins_bad g rfl
 | word h1 h2 h3 =>
  intro r2 h
  cases h with
  | word _ _ _=>rfl
  | place g=>rcases g with g | g <;> contradiction
  | callx g _=>contradiction
  | call1 g _=>exact absurd h3 (ari_ne (by omega))
  | calln g _ _=>exact absurd h3 (ari_ne (by omega))
  | call2 g _ _ _=>exact absurd h3 (ari_ne (by omega))
  | call3n g _ _ _ _=>exact absurd h3 (ari_ne (by omega))
  | call3 g _ _ _ _ _=>exact absurd h3 (ari_ne (by omega))
  | lv_none g _=>omega
  | lv_go g _ _=>omega
  | bad g=>exact begins_bad g rfl
 | place h1 =>
  intro r2 h
  have hc:∀ {s:Txt},s=wP\/s=wQ->calO s=0:=by rintro s (rfl|rfl) <;> decide
  cases h with
  | word g1 g2 _=>rcases h1 with h1 | h1 <;> contradiction
  | place g=>rfl
  | callx g _=>exact absurd (hc h1) g
  | call1 g _=>exact absurd (hc h1) (ari_ne (by omega))
  | calln g _ _=>exact absurd (hc h1) (ari_ne (by omega))
  | call2 g _ _ _=>exact absurd (hc h1) (ari_ne (by omega))
  | call3n g _ _ _ _=>exact absurd (hc h1) (ari_ne (by omega))
  | call3 g _ _ _ _ _=>exact absurd (hc h1) (ari_ne (by omega))
  | lv_none g _=>omega
  | lv_go g _ _=>omega
  | bad g=>exact begins_bad g rfl
 | callx h1 h2 =>
  intro r2 h
  cases h with
  | word _ _ g=>contradiction
  | place g=>rcases g with g | g <;> (subst g;exact absurd (by decide) h1)
  | callx g _=>rfl
  | call1 g _=>exact absurd rfl h2
  | calln g _ _=>exact absurd rfl h2
  | call2 g _ _ _=>exact absurd rfl h2
  | call3n g _ _ _ _=>exact absurd rfl h2
  | call3 g _ _ _ _ _=>exact absurd rfl h2
  | lv_none g _=>omega
  | lv_go g _ _=>omega
  | bad g=>rfl
 | call1 ha h1 ih =>
  intro r2 h
  have hc:=ari_ne1 ha (by omega)
  cases h with
  | word _ _ g=>contradiction
  | place g=>rcases g with g | g <;> (subst g;exact absurd (by decide) hc)
  | callx g h2=>exact absurd rfl h2
  | call1 g g1=>rw[ih _ g1]
  | calln g _ _=>omega
  | call2 g _ _ _=>omega
  | call3n g _ _ _ _=>omega
  | call3 g _ _ _ _ _=>omega
  | lv_none g _=>omega
  | lv_go g _ _=>omega
  | bad g=>exact begins_bad g rfl
 | calln ha h1 he ih =>
  intro r2 h
  have hc:=ari_ne2 ha
  cases h with
  | word _ _ g=>contradiction
  | place g=>rcases g with g | g <;> (subst g;exact absurd (by decide) hc)
  | callx g h2=>exact absurd rfl h2
  | call1 g g1=>omega
  | calln g _ _=>rfl
  | call2 g g1 g2 _=>have:=ih _ g1;subst this;rw[he] at g2;cases g2
  | call3n g g1 g2 _ _=>rfl
  | call3 g g1 g2 _ _ _=>have:=ih _ g1;subst this;rw[he] at g2;cases g2
  | lv_none g _=>omega
  | lv_go g _ _=>omega
  | bad g=>rfl
 | call2 ha h1 he h2 ih ih2 =>
  intro r2 h
  have hc:=ari_ne1 ha (by omega)
  cases h with
  | word _ _ g=>contradiction
  | place g=>rcases g with g | g <;> (subst g;exact absurd (by decide) hc)
  | callx g h2=>exact absurd rfl h2
  | call1 g g1=>omega
  | calln g g1 g2=>have:=ih _ g1;subst this;rw[he] at g2;cases g2
  | call2 g g1 g2 g3=>have:=ih _ g1;subst this;rw[he] at g2;cases g2;rw[ih2 _ g3]
  | call3n g g1 g2 _ _=>omega
  | call3 g g1 g2 _ _ _=>omega
  | lv_none g _=>omega
  | lv_go g _ _=>omega
  | bad g=>exact begins_bad g rfl
 | call3n ha h1 he h2 he2 ih ih2 =>
  intro r2 h
  have hc:=ari_ne1 ha (by omega)
  cases h with
  | word _ _ g=>contradiction
  | place g=>rcases g with g | g <;> (subst g;exact absurd (by decide) hc)
  | callx g h2=>exact absurd rfl h2
  | call1 g g1=>omega
  | calln g g1 g2=>rfl
  | call2 g g1 g2 g3=>omega
  | call3n g g1 g2 _ _=>rfl
  | call3 g g1 g2 g3 g4 _=>have:=ih _ g1;subst this;rw[he] at g2;cases g2;have:=ih2 _ g3;subst this;rw[he2] at g4;cases g4
  | lv_none g _=>omega
  | lv_go g _ _=>omega
  | bad g=>rfl
 | call3 ha h1 he h2 he2 h3 ih ih2 ih3 =>
  intro r2 h
  have hc:=ari_ne1 ha (by omega)
  cases h with
  | word _ _ g=>contradiction
  | place g=>rcases g with g | g <;> (subst g;exact absurd (by decide) hc)
  | callx g h2=>exact absurd rfl h2
  | call1 g g1=>omega
  | calln g g1 g2=>have:=ih _ g1;subst this;rw[he] at g2;cases g2
  | call2 g g1 g2 g3=>omega
  | call3n g g1 g2 g3 g4=>have:=ih _ g1;subst this;rw[he] at g2;cases g2;have:=ih2 _ g3;subst this;rw[he2] at g4;cases g4
  | call3 g g1 g2 g3 g4 g5=>have:=ih _ g1;subst this;rw[he] at g2;cases g2;have:=ih2 _ g3;subst this;rw[he2] at g4;cases g4;rw[ih3 _ g5]
  | lv_none g _=>omega
  | lv_go g _ _=>omega
  | bad g=>exact begins_bad g rfl
 | bad hb =>
  intro r2 h
  cases h with
  | bad g=>rfl
  | callx _ _=>rfl
  | calln _ _ _=>rfl
  | call3n _ _ _ _ _=>rfl
  | lv_none g _=>omega
  | lv_go g _ _=>omega
  | _=>exact begins_bad hb rfl
theorem read_iff {nm:List Txt}{l:List Tk}{res:Option (E × List Tk)}(h:R nm (.at 0) l res)(e:E):res=some (e,[])↔G nm 0 l e:=by
 constructor
 ·intro he
  obtain⟨p,hp,hg⟩:=sound h e [] he
  rw[List.append_nil] at hp
  rw[hp];exact hg
 ·intro hg
  have:=(complete hg).1 [] (Fol.nil 0)
  rw[List.append_nil] at this
  exact det h _ this
def Nok (nm:List Txt):Prop:=∀ s ∈ nm,resv s=false
def plain:Tk->Bool
 | .semi=>false
 | .eq=>false
 | .word s=>s != wLet
 | _=>true
theorem inP_plain {t:Tk}(h:inP t=true):plain t=true:=by cases t <;> simp_all [inP,plain]
theorem call_ne {s:Txt}(h:0 < ari (calO s)):(s != wLet)=true:=by
 have:=ari_ne h
 simp only[bne_iff_ne,ne_eq]
 intro e
 subst e
 exact this (by decide)
theorem g_plain {nm:List Txt}(hn:Nok nm){c:Nat}{l:List Tk}{e:E}(h:G nm c l e):l.all plain=true/\l≠[]:=by
 induction h with
 | up _ _ ih=>exact ih
 | sel _ _ _ ih1 ih2 ih3=>simp[ih1.1,ih2.1,ih3.1,plain]
 | bin _ _ _ ih1 ih2=>simp[ih1.1,ih2.1,plain]
 | neg _ ih=>simp[ih.1,plain]
 | par _ ih=>simp[ih.1,plain]
 | num v=>simp[plain]
 | @word s e h1 h2 h3 h4 =>
  simp only[List.all_cons,List.all_nil,Bool.and_true,plain,bne_iff_ne,ne_eq,reduceCtorEq,not_false_eq_true,and_true]
  intro he
  subst he
  have:nm.contains wLet=true:=by
   unfold wd at h4
   rw[if_neg (by decide)] at h4
   split at h4
   ·assumption
   ·cases h4
  have:=hn wLet (by simpa using this)
  exact absurd this (by decide)
 | @place s l e h1 h2 =>
  obtain⟨m,rfl,hm,-,-⟩:=plc_split h2
  have:m.all plain=true:=by
   rw[List.all_eq_true] at hm ⊢
   exact fun t ht=>inP_plain (hm t ht)
  have h3:(s != wLet)=true:=by rcases h1 with rfl|rfl <;> decide
  simp[this,plain,h3]
 | call1 ha _ ih=>simp[ih.1,plain,(by simpa using call_ne (show 0 < ari (calO _) by rw[ha];decide):¬_=wLet)]
 | call2 ha _ _ ih ih2=>simp[ih.1,ih2.1,plain,(by simpa using call_ne (show 0 < ari (calO _) by rw[ha];decide):¬_=wLet)]
 | call3 ha _ _ _ ih ih2 ih3=>simp[ih.1,ih2.1,ih3.1,plain,(by simpa using call_ne (show 0 < ari (calO _) by rw[ha];decide):¬_=wLet)]
abbrev Out:=List Txt × List E × E
def hdr (nm:List Txt):List Tk->Option (Txt × List Tk)
 | .word s::.eq::r=>if resv s || nm.contains s then none else some (s,r)
 | _=>none
def fin (nm:List Txt)(es:List E):Option (E × List Tk)->Option Out
 | some (e,[])=>some (nm,es,e)
 | _=>none
inductive GP:List Txt->List E->List Tk->Out->Prop
 | last {nm:List Txt} {es:List E} {l:List Tk} {e:E}:G nm 0 l e->GP nm es l (nm,es,e)
 | bind {nm:List Txt} {es:List E} {s:Txt} {l1 l2:List Tk} {e:E} {o:Out}:resv s=false->nm.contains s=false->G nm 0 l1 e->GP (nm++[s]) (es++[e]) l2 o->GP nm es (.word wLet::.word s::.eq::(l1++.semi::l2)) o
inductive RP:List Txt->List E->List Tk->Option Out->Prop
 | last {nm:List Txt} {es:List E} {l:List Tk} {res:Option (E × List Tk)}:l.head?≠some (.word wLet)->R nm (.at 0) l res->RP nm es l (fin nm es res)
 | bad {nm:List Txt} {es:List E} {l:List Tk}:hdr nm l=none->RP nm es (.word wLet::l) none
 | body {nm:List Txt} {es:List E} {s:Txt} {l l2:List Tk} {res:Option (E × List Tk)}:hdr nm l=some (s,l2)->R nm (.at 0) l2 res->eat .semi res=none->RP nm es (.word wLet::l) none
 | go {nm:List Txt} {es:List E} {s:Txt} {l l2 r:List Tk} {e:E} {res:Option (E × List Tk)} {o:Option Out}:hdr nm l=some (s,l2)->R nm (.at 0) l2 res->eat .semi res=some (e,r)->RP (nm++[s]) (es++[e]) r o->RP nm es (.word wLet::l) o
theorem hdr_some {nm:List Txt}{l l2:List Tk}{s:Txt}(h:hdr nm l=some (s,l2)):l=.word s::.eq::l2/\resv s=false/\nm.contains s=false:=by
 unfold hdr at h
 split at h
 ·split at h
  ·cases h
  ·rename_i hr
   cases h
   simp only[Bool.or_eq_true,not_or,Bool.not_eq_true] at hr
   exact⟨rfl,hr.1,hr.2⟩
 ·cases h
theorem hdr_mk {nm:List Txt}{s:Txt}(h1:resv s=false)(h2:nm.contains s=false)(l:List Tk):hdr nm (.word s::.eq::l)=some (s,l):=by
 simp only[hdr,h1,h2,Bool.or_self,Bool.false_eq_true,if_false]
theorem fin_some {nm:List Txt}{es:List E}{res:Option (E × List Tk)}{o:Out}(h:fin nm es res=some o):∃ e,res=some (e,[])/\o=(nm,es,e):=by
 unfold fin at h
 split at h
 ·cases h;exact⟨_,rfl,rfl⟩
 ·cases h
theorem Nok.snoc {nm:List Txt}{s:Txt}(h:Nok nm)(hs:resv s=false):Nok (nm++[s]):=by
 intro t ht
 rw[List.mem_append] at ht
 rcases ht with ht|ht
 ·exact h t ht
 ·simp at ht;rw[ht];exact hs
theorem prog_iff {nm:List Txt}{es:List E}{l:List Tk}{res:Option Out}(h:RP nm es l res):Nok nm->∀ o,(res=some o↔GP nm es l o):=by
 induction h with
 | @last nm es l res hl hr =>
  intro hn o
  constructor
  ·intro he
   obtain⟨e,h1,rfl⟩:=fin_some he
   exact GP.last ((read_iff hr e).1 h1)
  ·intro hg
   cases hg with
   | last g=>rw[(read_iff hr _).2 g];rfl
   | bind _ _ _ _=>exact absurd rfl hl
 | @bad nm es l hh =>
  intro hn o
  constructor
  ·intro he;cases he
  ·intro hg
   cases hg with
   | last g =>
    have:=(g_plain hn g).1
    simp[plain] at this
   | bind h1 h2 _ _=>rw[hdr_mk h1 h2] at hh;cases hh
 | @body nm es s l l2 res hh hr he =>
  intro hn o
  constructor
  ·intro he;cases he
  ·intro hg
   obtain⟨rfl,hs1,hs2⟩:=hdr_some hh
   cases hg with
   | last g =>
    have:=(g_plain hn g).1
    simp[plain] at this
   | bind h1 h2 g gp =>
    have:=det hr _ ((complete g).1 (.semi::_) (Fol.cons _ (by intro k' o' e;cases e) (by intro e;cases e)))
    rw[this,eat_mk] at he
    cases he
 | @go nm es s l l2 r e res o' hh hr he hp ih =>
  intro hn o
  obtain⟨rfl,hs1,hs2⟩:=hdr_some hh
  have hn2:=hn.snoc hs1
  constructor
  ·intro ho
   obtain⟨p,rfl,hg⟩:=sound hr e _ (eat_some he)
   exact GP.bind hs1 hs2 hg ((ih hn2 o).1 ho)
  ·intro hg
   cases hg with
   | last g =>
    have:=(g_plain hn g).1
    simp[plain] at this
   | bind h1 h2 g gp =>
    have:=det hr _ ((complete g).1 (.semi::_) (Fol.cons _ (by intro k' o' e;cases e) (by intro e;cases e)))
    rw[this,eat_mk] at he
    cases he
    exact(ih hn2 o).2 gp
def Ans (l:List Tk)(res:Option Out):Prop:=∀ o,(res=some o↔GP [] [] l o)
theorem RP.ans {l:List Tk}{res:Option Out}(h:RP [] [] l res):Ans l res:=prog_iff h (by intro s hs;simp at hs)
def marks:List (Txt × Tk):=[([43],.op 5 8),([45],.op 5 9),([42],.op 6 10),([47],.op 6 11),([37],.op 6 12),([40],.lp),([41],.rp),([44],.comma),([59],.semi),([61],.eq),([63],.ques),([58],.colon),
 ([60],.op 3 18),([62],.op 3 20),([38],.op 2 15),([124],.op 0 16),([94],.op 1 17),([60,61],.op 3 19),([62,61],.op 3 21),([61,61],.op 3 22),([33,61],.op 3 23),([60,60],.op 4 13),([62,62],.op 4 14)]
def mkT (s:Txt):Tk:=((marks.find? fun r=>r.1==s).map (·.2)).getD .eq
def ab (t:Tok):Tk:=if t.kind=1 then .num (vl t.text) else if t.kind=2 then .word t.text else mkT t.text
def Wf (t:Tok):Prop:=(t.kind=1/\num t.text=true)\/(t.kind=2/\wrd t.text=true)\/(t.kind=3/\t.text ∈ marks.map (·.1))
theorem wf_of {t:Tok}(h:Fm t.kind t.text)(hm:may t.kind t.text=true):Wf t:=by
 obtain⟨hne,h⟩:=h
 rcases h with⟨hk,h⟩|⟨hk,hA,h⟩|⟨hk,h⟩
 ·left;rw[hk] at hm;exact⟨hk,by simpa [may] using hm⟩
 ·right;left;rw[hk] at hm;exact⟨hk,by simpa [may] using hm⟩
 ·right;right
  refine⟨hk,?_⟩
  rcases h with h|⟨c,hc,h⟩
  ·rcases contains_two h with h|h|h|h|h|h <;> rw[h] <;> decide
  ·rw[h]
   have:c ∈ sh:=by simpa using hc
   simp only[sh,List.mem_cons,List.not_mem_nil,or_false] at this
   rcases this with rfl|rfl|rfl|rfl|rfl|rfl|rfl|rfl|rfl|rfl|rfl|rfl|rfl|rfl|rfl|rfl|rfl <;> decide
theorem tks_wf {l:List UInt8}{T:List Tok}(h:tks l=some T):∀ t ∈ T,Wf t:=fun t ht=>by
 have:=cov_good T l 0 (tks_cov h).1 t ht
 exact wf_of this.1 this.2
end Pz
