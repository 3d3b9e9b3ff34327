import Derived.Test.YticnbcfmbhjbgaaGreatDoorX00
set_option maxRecDepth 100000
set_option maxHeartbeats 32000000
set_option linter.unusedVariables false
namespace Lx
def gp:Bool->List UInt8->Option Bool
 | r,[]=>some r
 | r,c::t=>if ((r || c==35)&&c != 10)=false/\bl c=false then none else gp ((r || c==35)&&c != 10) t
theorem qU:∀(a b:List UInt8) (r:Bool),gp r (a++b)=(gp r a).bind fun q=>gp q b
 | [],b,r=>rfl
 | c::a,b,r=>by
  rw[List.cons_append,gp,gp]
  split
  ·rfl
  ·exact qU a b _
theorem aN5 {c:UInt8}(h:bl c=true)(t:List UInt8):gp false (c::t)=gp false t:=by
 have h35:(c==35)=false:=by
  cases h':(c==35)
  ·rfl
  ·simp only[beq_iff_eq] at h';subst h';exact absurd h (by decide)
 rw[gp,if_neg (by simp[h])]
 simp[h35]
theorem aN6:∀(x:List UInt8),x.all nl=true->gp true x=some true
 | [],_=>rfl
 | c::x,h=>by
  simp only[lAc,bAt] at h
  have hc:(c != 10)=true:=h.1
  rw[gp,if_neg (by simp[hc])]
  simp only[Bool.true_or,Bool.true_and,hc]
  exact aN6 x h.2
theorem aA9 {x:List UInt8}(h:x.all nl=true):gp false (35::x)=some true:=by
 rw[gp,if_neg (by decide)]
 exact aN6 x h
theorem aS6 {x:List UInt8}(h:x.all nl=true):gp false (35::(x++[10]))=some false:=by
 have:gp false ((35::x)++[10])=some false:=by
  rw[qU,aA9 h]
  rfl
 exact this
def Cov:List UInt8->Nat->List Tok->Prop
 | l,p,[]=>∃ r,gp false l=some r
 | l,p,t::T=>∃ g rest,l=g++(t.text++rest)/\t.pos=p+g.length/\gp false g=some false/\Fm t.kind t.text/\may t.kind t.text=true/\Cov rest (t.pos+t.text.length) T
theorem Cov.ahead {g0 r:List UInt8}{p:Nat}{T:List Tok}(h0:gp false g0=some false)(h:Cov r (p+g0.length) T):Cov (g0++r) p T:=by
 cases T with
 | nil =>
  obtain⟨q,hq⟩:=h
  exact⟨q,by rw[qU,h0];exact hq⟩
 | cons t T =>
  obtain⟨g,rest,rfl,hp,hg,hf,hm,hc⟩:=h
  exact⟨g0++g,rest,by simp,by rw[hp,lLa];omega,by rw[qU,h0];exact hg,hf,hm,hc⟩
theorem aWz:∀(n:Nat) (l:List UInt8) (p:Nat) (T:List Tok),l.length<=n->sc l p=some T->Cov l p T:=by
 intro n
 induction n with
 | zero =>
  intro l p T hl h
  have:l=[]:=List.eq_nil_of_length_eq_zero (by omega)
  subst this
  rw[mW] at h
  cases h
  exact⟨false,rfl⟩
 | succ n ih =>
  intro l p T hl h
  cases l with
  | nil =>
   rw[mW] at h
   cases h
   exact⟨false,rfl⟩
  | cons c r =>
   have hr:r.length<=n:=by simpa using hl
   by_cases hb:bl c=true
   ·rw[qL hb] at h
    exact Cov.ahead (g0:=[c]) (by rw[aN5 hb];rfl) (ih r _ T hr h)
   ·simp only[Bool.not_eq_true] at hb
    by_cases h35:c=35
    ·subst h35
     rw[aDp] at h
     have ha:=iH nl r
     have hs:=kF nl r
     cases hd:r.dropWhile nl with
     | nil =>
      rw[hd,mW] at h
      cases h
      rw[hd,List.append_nil] at hs
      rw[hs] at ha
      exact⟨true,aA9 ha⟩
     | cons d t =>
      have hd10:d=10:=by
       have:=List.head?_dropWhile_not nl r
       rw[hd] at this
       simpa [nl] using this
      subst hd10
      rw[hd,qL (by decide)] at h
      have hlen:t.length<=n:=by
       have:=kJ nl r
       rw[hd] at this
       simp at this
       omega
      have hc:=ih t _ T hlen h
      have e:35::r=(35::(r.takeWhile nl++[10]))++t:=by
       rw[hd] at hs
       simp[hs]
      rw[e]
      refine Cov.ahead (aS6 ha) ?_
      have e2:p+1+rn nl r+1=p+(35::(r.takeWhile nl++[10])).length:=by
       simp[rn];omega
      rw[<-e2]
      exact hc
    ·cases hg:gd (c::r) with
     | false=>rw[aDo hb h35 hg] at h;cases h
     | true =>
      have hp:=yQ hg
      have hf:=aCp (by simp) hg
      rw[aAa hb h35 hg] at h
      cases h1:sc ((c::r).drop (sz (c::r))) (p+sz (c::r)) with
      | none=>rw[h1] at h;cases h
      | some T' =>
       rw[h1] at h
       simp only[Option.map_some,Option.some.injEq] at h
       subst h
       have hne:(c::r).take (sz (c::r))≠[]:=hf.1.1
       refine⟨[],(c::r).drop (sz (c::r)),by simp,rfl,rfl,hf.1,hf.2,?_⟩
       have hcov:=ih _ _ T' (by rw[List.length_drop];simp at hl ⊢;omega) h1
       have hl2:(List.take (sz (c::r)) (c::r)).length=sz (c::r)\/(List.drop (sz (c::r)) (c::r))=[]:=by
        rcases Nat.le_total (sz (c::r)) (c::r).length with h|h
        ·left;rw[lLt];omega
        ·right;exact List.drop_of_length_le h
       rcases hl2 with hl2|hl2
       ·show Cov _ (p+(List.take (sz (c::r)) (c::r)).length) T'
        rw[hl2]
        exact hcov
       ·rw[hl2,mW] at h1
        cases h1
        rw[hl2]
        exact⟨false,rfl⟩
theorem aEp:∀(T:List Tok) (l:List UInt8) (p:Nat),Cov l p T->∀ t ∈ T,Fm t.kind t.text/\may t.kind t.text=true
 | [],_,_,_=>by simp
 | t::T,l,p,⟨g,rest,e,hp,hg,hf,hm,hc⟩=>by
  intro q hq
  rcases lMm.1 hq with rfl|hq
  ·exact⟨hf,hm⟩
  ·exact aEp T rest _ hc q hq
theorem aD1 {l:List UInt8}{T:List Tok}(h:tks l=some T):Cov l 0 T/\l.length<=1024:=by
 unfold tks at h
 split at h
 ·cases h
 ·exact⟨aWz _ l 0 T (nLr _) h,by omega⟩
end Lx
namespace Pz
open Lx
theorem qZ {α:Type}{a:α}{p:Prop}(h:none=some a):p:=by cases h
theorem uS {α:Type}{a:α}{p:Prop}(h:some a=none):p:=by cases h
theorem fD {l:List Tk}{p:Prop}(h:begins l=false)(h2:begins l=true):p:=by rw[h] at h2;cases h2
theorem wW {s:aM}{n:Nat}(h:tF (bG s)=n)(hn:1<=n):bG s≠0:=gB (by omega)
theorem aR9 {s:aM}(h:2<=tF (bG s)):bG s≠0:=gB (by omega)
theorem det {nm:List aM}{x:NR}{l:List Tk}{r1:Option (E × List Tk)}(h:R nm x l r1):∀ r2,R nm x l r2->r1=r2:=by
 induction h with
 | ch_none h ih =>
  intro r2 h2
  cases h2 with
  | ch_none h1=>rfl
  | ch_up h1 _=>exact qZ (ih _ h1)
  | ch_no h1 _ _=>exact qZ (ih _ h1)
  | ch_sel h1 _ _ _=>exact qZ (ih _ h1)
 | ch_up h hq ih =>
  intro r2 h2
  cases h2 with
  | ch_none h1=>exact uS (ih _ h1)
  | ch_up h1 _=>exact ih _ h1
  | ch_no h1 _ _=>have:=ih _ h1;cases this;exact absurd rfl hq
  | ch_sel h1 _ _ _=>have:=ih _ h1;cases this;exact absurd rfl hq
 | ch_no h1 h2 h3 ih1 ih2 =>
  intro r2 h
  cases h with
  | ch_none g1=>rfl
  | ch_up g1 hq=>have:=ih1 _ g1;cases this;exact absurd rfl hq
  | ch_no g1 _ _=>rfl
  | ch_sel g1 g2 g3 _=>have:=ih1 _ g1;cases this;have:=ih2 _ g2;subst this;rw[h3] at g3;cases g3
 | ch_sel h1 h2 h3 h4 ih1 ih2 ih4 =>
  intro r2 h
  cases h with
  | ch_none g1=>exact uS (ih1 _ g1)
  | ch_up g1 hq=>have:=ih1 _ g1;cases this;exact absurd rfl hq
  | ch_no g1 g2 g3=>have:=ih1 _ g1;cases this;have:=ih2 _ g2;subst this;rw[h3] at g3;cases g3
  | ch_sel g1 g2 g3 g4=>have:=ih1 _ g1;cases this;have:=ih2 _ g2;subst this;rw[h3] at g3;cases g3;rw[ih4 _ g4]
 | lv_none hk h ih =>
  intro r2 h2
  cases h2 with
  | lv_none _ g=>rfl
  | lv_go _ g _=>exact qZ (ih _ g)
  | _=>omega
 | lv_go hk h1 h2 ih1 ih2 =>
  intro r2 h
  cases h with
  | lv_none _ g=>exact uS (ih1 _ g)
  | lv_go _ g g2=>have:=ih1 _ g;cases this;exact ih2 _ g2
  | _=>omega
 | lp_stop h =>
  intro r2 h2
  cases h2 with
  | lp_stop _=>rfl
  | lp_none _=>exact absurd rfl (h _)
  | lp_cmp _=>exact absurd rfl (h _)
  | lp_go _ _ _=>exact absurd rfl (h _)
 | lp_none h ih =>
  intro r2 h2
  cases h2 with
  | lp_stop g=>exact absurd rfl (g _)
  | lp_none _=>rfl
  | lp_cmp g=>exact qZ (ih _ g)
  | lp_go _ g _=>exact qZ (ih _ g)
 | lp_cmp h ih =>
  intro r2 h2
  cases h2 with
  | lp_stop g=>exact absurd rfl (g _)
  | lp_none g=>exact uS (ih _ g)
  | lp_cmp g=>have:=ih _ g;cases this;rfl
  | lp_go g _ _=>exact absurd rfl g
 | lp_go h3 h1 h2 ih1 ih2 =>
  intro r2 h
  cases h with
  | lp_stop g=>exact absurd rfl (g _)
  | lp_none g=>exact uS (ih1 _ g)
  | lp_cmp g=>exact absurd rfl h3
  | lp_go _ g g2=>have:=ih1 _ g;cases this;exact ih2 _ g2
 | neg h ih =>
  intro r2 h2
  cases h2 with
  | neg g=>rw[ih _ g]
  | lv_none g _=>omega
  | lv_go g _ _=>omega
  | bad g=>exact fD g rfl
 | par h ih =>
  intro r2 h2
  cases h2 with
  | par g=>rw[ih _ g]
  | lv_none g _=>omega
  | lv_go g _ _=>omega
  | bad g=>exact fD g rfl
 | num v l =>
  intro r2 h2
  cases h2 with
  | num _ _=>rfl
  | lv_none g _=>omega
  | lv_go g _ _=>omega
  | bad g=>exact fD g rfl
 | word h1 h2 h3 =>
  intro r2 h
  cases h with
  | word _ _ _=>rfl
  | place g=>rcases g with g | g <;> contradiction
  | callx g _=>contradiction
  | call1 g _=>exact absurd h3 (gB (by omega))
  | calln g _ _=>exact absurd h3 (gB (by omega))
  | call2 g _ _ _=>exact absurd h3 (gB (by omega))
  | call3n g _ _ _ _=>exact absurd h3 (gB (by omega))
  | call3 g _ _ _ _ _=>exact absurd h3 (gB (by omega))
  | lv_none g _=>omega
  | lv_go g _ _=>omega
  | bad g=>exact fD g rfl
 | place h1 =>
  intro r2 h
  have hc:∀ {s:aM},s=wP\/s=wQ->bG s=0:=by rintro s (rfl|rfl) <;> decide
  cases h with
  | word g1 g2 _=>rcases h1 with h1 | h1 <;> contradiction
  | place g=>rfl
  | callx g _=>exact absurd (hc h1) g
  | call1 g _=>exact absurd (hc h1) (gB (by omega))
  | calln g _ _=>exact absurd (hc h1) (gB (by omega))
  | call2 g _ _ _=>exact absurd (hc h1) (gB (by omega))
  | call3n g _ _ _ _=>exact absurd (hc h1) (gB (by omega))
  | call3 g _ _ _ _ _=>exact absurd (hc h1) (gB (by omega))
  | lv_none g _=>omega
  | lv_go g _ _=>omega
  | bad g=>exact fD g rfl
 | callx h1 h2 =>
  intro r2 h
  cases h with
  | word _ _ g=>contradiction
  | place g=>rcases g with g | g <;> (subst g;exact absurd (by decide) h1)
  | callx g _=>rfl
  | call1 g _=>exact absurd rfl h2
  | calln g _ _=>exact absurd rfl h2
  | call2 g _ _ _=>exact absurd rfl h2
  | call3n g _ _ _ _=>exact absurd rfl h2
  | call3 g _ _ _ _ _=>exact absurd rfl h2
  | lv_none g _=>omega
  | lv_go g _ _=>omega
  | bad g=>rfl
 | call1 ha h1 ih =>
  intro r2 h
  have hc:=wW ha (by omega)
  cases h with
  | word _ _ g=>contradiction
  | place g=>rcases g with g | g <;> (subst g;exact absurd (by decide) hc)
  | callx g h2=>exact absurd rfl h2
  | call1 g g1=>rw[ih _ g1]
  | calln g _ _=>omega
  | call2 g _ _ _=>omega
  | call3n g _ _ _ _=>omega
  | call3 g _ _ _ _ _=>omega
  | lv_none g _=>omega
  | lv_go g _ _=>omega
  | bad g=>exact fD g rfl
 | calln ha h1 he ih =>
  intro r2 h
  have hc:=aR9 ha
  cases h with
  | word _ _ g=>contradiction
  | place g=>rcases g with g | g <;> (subst g;exact absurd (by decide) hc)
  | callx g h2=>exact absurd rfl h2
  | call1 g g1=>omega
  | calln g _ _=>rfl
  | call2 g g1 g2 _=>have:=ih _ g1;subst this;rw[he] at g2;cases g2
  | call3n g g1 g2 _ _=>rfl
  | call3 g g1 g2 _ _ _=>have:=ih _ g1;subst this;rw[he] at g2;cases g2
  | lv_none g _=>omega
  | lv_go g _ _=>omega
  | bad g=>rfl
 | call2 ha h1 he h2 ih ih2 =>
  intro r2 h
  have hc:=wW ha (by omega)
  cases h with
  | word _ _ g=>contradiction
  | place g=>rcases g with g | g <;> (subst g;exact absurd (by decide) hc)
  | callx g h2=>exact absurd rfl h2
  | call1 g g1=>omega
  | calln g g1 g2=>have:=ih _ g1;subst this;rw[he] at g2;cases g2
  | call2 g g1 g2 g3=>have:=ih _ g1;subst this;rw[he] at g2;cases g2;rw[ih2 _ g3]
  | call3n g g1 g2 _ _=>omega
  | call3 g g1 g2 _ _ _=>omega
  | lv_none g _=>omega
  | lv_go g _ _=>omega
  | bad g=>exact fD g rfl
 | call3n ha h1 he h2 he2 ih ih2 =>
  intro r2 h
  have hc:=wW ha (by omega)
  cases h with
  | word _ _ g=>contradiction
  | place g=>rcases g with g | g <;> (subst g;exact absurd (by decide) hc)
  | callx g h2=>exact absurd rfl h2
  | call1 g g1=>omega
  | calln g g1 g2=>rfl
  | call2 g g1 g2 g3=>omega
  | call3n g g1 g2 _ _=>rfl
  | call3 g g1 g2 g3 g4 _=>have:=ih _ g1;subst this;rw[he] at g2;cases g2;have:=ih2 _ g3;subst this;rw[he2] at g4;cases g4
  | lv_none g _=>omega
  | lv_go g _ _=>omega
  | bad g=>rfl
 | call3 ha h1 he h2 he2 h3 ih ih2 ih3 =>
  intro r2 h
  have hc:=wW ha (by omega)
  cases h with
  | word _ _ g=>contradiction
  | place g=>rcases g with g | g <;> (subst g;exact absurd (by decide) hc)
  | callx g h2=>exact absurd rfl h2
  | call1 g g1=>omega
  | calln g g1 g2=>have:=ih _ g1;subst this;rw[he] at g2;cases g2
  | call2 g g1 g2 g3=>omega
  | call3n g g1 g2 g3 g4=>have:=ih _ g1;subst this;rw[he] at g2;cases g2;have:=ih2 _ g3;subst this;rw[he2] at g4;cases g4
  | call3 g g1 g2 g3 g4 g5=>have:=ih _ g1;subst this;rw[he] at g2;cases g2;have:=ih2 _ g3;subst this;rw[he2] at g4;cases g4;rw[ih3 _ g5]
  | lv_none g _=>omega
  | lv_go g _ _=>omega
  | bad g=>exact fD g rfl
 | bad hb =>
  intro r2 h
  cases h with
  | bad g=>rfl
  | callx _ _=>rfl
  | calln _ _ _=>rfl
  | call3n _ _ _ _ _=>rfl
  | lv_none g _=>omega
  | lv_go g _ _=>omega
  | _=>exact fD hb rfl
theorem aFx {nm:List aM}{l:List Tk}{res:Option (E × List Tk)}(h:R nm (.at 0) l res)(e:E):res=some (e,[])↔G nm 0 l e:=by
 constructor
 ·intro he
  obtain⟨p,hp,hg⟩:=sound h e [] he
  rw[List.append_nil] at hp
  rw[hp];exact hg
 ·intro hg
  have:=(yC hg).1 [] (wL.nil 0)
  rw[List.append_nil] at this
  exact det h _ this
def Nok (nm:List aM):Prop:=∀ s ∈ nm,mU s=false
def plain:Tk->Bool
 | .semi=>false
 | .eq=>false
 | .word s=>s != nS
 | _=>true
theorem aKx {t:Tk}(h:inP t=true):plain t=true:=by cases t <;> simp_all [inP,plain]
theorem aCc {s:aM}(h:0 < tF (bG s)):(s != nS)=true:=by
 have:=gB h
 simp only[bne_iff_ne,ne_eq]
 intro e
 subst e
 exact this (by decide)
theorem aCq {nm:List aM}(hn:Nok nm){c:Nat}{l:List Tk}{e:E}(h:G nm c l e):l.all plain=true/\l≠[]:=by
 induction h with
 | up _ _ ih=>exact ih
 | sel _ _ _ ih1 ih2 ih3=>simp[ih1.1,ih2.1,ih3.1,plain]
 | bin _ _ _ ih1 ih2=>simp[ih1.1,ih2.1,plain]
 | neg _ ih=>simp[ih.1,plain]
 | par _ ih=>simp[ih.1,plain]
 | num v=>simp[plain]
 | @word s e h1 h2 h3 h4 =>
  simp only[lAc,List.all_nil,Bool.and_true,plain,bne_iff_ne,ne_eq,reduceCtorEq,not_false_eq_true,and_true]
  intro he
  subst he
  have:nm.contains nS=true:=by
   unfold wd at h4
   rw[if_neg (by decide)] at h4
   split at h4
   ·assumption
   ·cases h4
  have:=hn nS (by simpa using this)
  exact absurd this (by decide)
 | @place s l e h1 h2 =>
  obtain⟨m,rfl,hm,-,-⟩:=rD h2
  have:m.all plain=true:=by
   rw[lAe] at hm ⊢
   exact fun t ht=>aKx (hm t ht)
  have h3:(s != nS)=true:=by rcases h1 with rfl|rfl <;> decide
  simp[this,plain,h3]
 | call1 ha _ ih=>simp[ih.1,plain,(by simpa using aCc (show 0 < tF (bG _) by rw[ha];decide):¬_=nS)]
 | call2 ha _ _ ih ih2=>simp[ih.1,ih2.1,plain,(by simpa using aCc (show 0 < tF (bG _) by rw[ha];decide):¬_=nS)]
 | call3 ha _ _ _ ih ih2 ih3=>simp[ih.1,ih2.1,ih3.1,plain,(by simpa using aCc (show 0 < tF (bG _) by rw[ha];decide):¬_=nS)]
abbrev Out:=List aM × List E × E
def hdr (nm:List aM):List Tk->Option (aM × List Tk)
 | .word s::.eq::r=>if mU s || nm.contains s then none else some (s,r)
 | _=>none
def fin (nm:List aM)(es:List E):Option (E × List Tk)->Option Out
 | some (e,[])=>some (nm,es,e)
 | _=>none
inductive GP:List aM->List E->List Tk->Out->Prop
 | last {nm:List aM} {es:List E} {l:List Tk} {e:E}:G nm 0 l e->GP nm es l (nm,es,e)
 | bind {nm:List aM} {es:List E} {s:aM} {l1 l2:List Tk} {e:E} {o:Out}:mU s=false->nm.contains s=false->G nm 0 l1 e->GP (nm++[s]) (es++[e]) l2 o->GP nm es (.word nS::.word s::.eq::(l1++.semi::l2)) o
inductive RP:List aM->List E->List Tk->Option Out->Prop
 | last {nm:List aM} {es:List E} {l:List Tk} {res:Option (E × List Tk)}:l.head?≠some (.word nS)->R nm (.at 0) l res->RP nm es l (fin nm es res)
 | bad {nm:List aM} {es:List E} {l:List Tk}:hdr nm l=none->RP nm es (.word nS::l) none
 | body {nm:List aM} {es:List E} {s:aM} {l l2:List Tk} {res:Option (E × List Tk)}:hdr nm l=some (s,l2)->R nm (.at 0) l2 res->uB .semi res=none->RP nm es (.word nS::l) none
 | go {nm:List aM} {es:List E} {s:aM} {l l2 r:List Tk} {e:E} {res:Option (E × List Tk)} {o:Option Out}:hdr nm l=some (s,l2)->R nm (.at 0) l2 res->uB .semi res=some (e,r)->RP (nm++[s]) (es++[e]) r o->RP nm es (.word nS::l) o
theorem aE3 {nm:List aM}{l l2:List Tk}{s:aM}(h:hdr nm l=some (s,l2)):l=.word s::.eq::l2/\mU s=false/\nm.contains s=false:=by
 unfold hdr at h
 split at h
 ·split at h
  ·cases h
  ·rename_i hr
   cases h
   simp only[Bool.or_eq_true,not_or,Bool.not_eq_true] at hr
   exact⟨rfl,hr.1,hr.2⟩
 ·cases h
theorem aN8 {nm:List aM}{s:aM}(h1:mU s=false)(h2:nm.contains s=false)(l:List Tk):hdr nm (.word s::.eq::l)=some (s,l):=by
 simp only[hdr,h1,h2,Bool.or_self,Bool.false_eq_true,if_false]
theorem aNu {nm:List aM}{es:List E}{res:Option (E × List Tk)}{o:Out}(h:fin nm es res=some o):∃ e,res=some (e,[])/\o=(nm,es,e):=by
 unfold fin at h
 split at h
 ·cases h;exact⟨_,rfl,rfl⟩
 ·cases h
theorem Nok.snoc {nm:List aM}{s:aM}(h:Nok nm)(hs:mU s=false):Nok (nm++[s]):=by
 intro t ht
 rw[List.mem_append] at ht
 rcases ht with ht|ht
 ·exact h t ht
 ·simp at ht;rw[ht];exact hs
theorem aPz {nm:List aM}{es:List E}{l:List Tk}{res:Option Out}(h:RP nm es l res):Nok nm->∀ o,(res=some o↔GP nm es l o):=by
 induction h with
 | @last nm es l res hl hr =>
  intro hn o
  constructor
  ·intro he
   obtain⟨e,h1,rfl⟩:=aNu he
   exact GP.last ((aFx hr e).1 h1)
  ·intro hg
   cases hg with
   | last g=>rw[(aFx hr _).2 g];rfl
   | bind _ _ _ _=>exact absurd rfl hl
 | @bad nm es l hh =>
  intro hn o
  constructor
  ·intro he;cases he
  ·intro hg
   cases hg with
   | last g =>
    have:=(aCq hn g).1
    simp[plain] at this
   | bind h1 h2 _ _=>rw[aN8 h1 h2] at hh;cases hh
 | @body nm es s l l2 res hh hr he =>
  intro hn o
  constructor
  ·intro he;cases he
  ·intro hg
   obtain⟨rfl,hs1,hs2⟩:=aE3 hh
   cases hg with
   | last g =>
    have:=(aCq hn g).1
    simp[plain] at this
   | bind h1 h2 g gp =>
    have:=det hr _ ((yC g).1 (.semi::_) (wL.cons _ (by intro k' o' e;cases e) (by intro e;cases e)))
    rw[this,dV] at he
    cases he
 | @go nm es s l l2 r e res o' hh hr he hp ih =>
  intro hn o
  obtain⟨rfl,hs1,hs2⟩:=aE3 hh
  have hn2:=hn.snoc hs1
  constructor
  ·intro ho
   obtain⟨p,rfl,hg⟩:=sound hr e _ (iZ he)
   exact GP.bind hs1 hs2 hg ((ih hn2 o).1 ho)
  ·intro hg
   cases hg with
   | last g =>
    have:=(aCq hn g).1
    simp[plain] at this
   | bind h1 h2 g gp =>
    have:=det hr _ ((yC g).1 (.semi::_) (wL.cons _ (by intro k' o' e;cases e) (by intro e;cases e)))
    rw[this,dV] at he
    cases he
    exact(ih hn2 o).2 gp
def Ans (l:List Tk)(res:Option Out):Prop:=∀ o,(res=some o↔GP [] [] l o)
theorem RP.ans {l:List Tk}{res:Option Out}(h:RP [] [] l res):Ans l res:=aPz h (by intro s hs;simp at hs)
def marks:List (aM × Tk):=[([43],.op 5 8),([45],.op 5 9),([42],.op 6 10),([47],.op 6 11),([37],.op 6 12),([40],.lp),([41],.rp),([44],.comma),([59],.semi),([61],.eq),([63],.ques),([58],.colon),
 ([60],.op 3 18),([62],.op 3 20),([38],.op 2 15),([124],.op 0 16),([94],.op 1 17),([60,61],.op 3 19),([62,61],.op 3 21),([61,61],.op 3 22),([33,61],.op 3 23),([60,60],.op 4 13),([62,62],.op 4 14)]
def mkT (s:aM):Tk:=((marks.find? fun r=>r.1==s).map (·.2)).getD .eq
def ab (t:Tok):Tk:=if t.kind=1 then .num (vl t.text) else if t.kind=2 then .word t.text else mkT t.text
def Wf (t:Tok):Prop:=(t.kind=1/\num t.text=true)\/(t.kind=2/\rW t.text=true)\/(t.kind=3/\t.text ∈ marks.map (·.1))
theorem bB7 {t:Tok}(h:Fm t.kind t.text)(hm:may t.kind t.text=true):Wf t:=by
 obtain⟨hne,h⟩:=h
 rcases h with⟨hk,h⟩|⟨hk,hA,h⟩|⟨hk,h⟩
 ·left;rw[hk] at hm;exact⟨hk,by simpa [may] using hm⟩
 ·right;left;rw[hk] at hm;exact⟨hk,by simpa [may] using hm⟩
 ·right;right
  refine⟨hk,?_⟩
  rcases h with h|⟨c,hc,h⟩
  ·rcases oC h with h|h|h|h|h|h <;> rw[h] <;> decide
  ·rw[h]
   have:c ∈ sh:=by simpa using hc
   simp only[sh,lMm,lNm,or_false] at this
   rcases this with rfl|rfl|rfl|rfl|rfl|rfl|rfl|rfl|rfl|rfl|rfl|rfl|rfl|rfl|rfl|rfl|rfl <;> decide
theorem aQ8 {l:List UInt8}{T:List Tok}(h:tks l=some T):∀ t ∈ T,Wf t:=fun t ht=>by
 have:=aEp T l 0 (aD1 h).1 t ht
 exact bB7 this.1 this.2
theorem aVq {nm:List aM}{s:aM}{e:E}(h:wd nm s=some e):∃ n,e=.leaf n:=by
 unfold wd at h
 split at h
 ·cases h;exact⟨_,rfl⟩
 ·split at h
  ·cases h;exact⟨_,rfl⟩
  ·cases h
theorem bAm {nm:List aM}{c:Nat}{l:List Tk}{e:E}(h:G nm c l e):e.size<=l.length:=by
 induction h with
 | up _ _ ih=>exact ih
 | sel _ _ _ ih1 ih2 ih3=>simp[E.size];omega
 | bin _ _ _ ih1 ih2=>simp[E.size];omega
 | neg _ ih=>simp[E.size];omega
 | par _ ih=>simp;omega
 | num v=>simp[E.size]
 | word _ _ _ h=>obtain⟨n,rfl⟩:=aVq h;simp[E.size]
 | place _ h=>obtain⟨m,-,-,⟨n,rfl,-⟩,-⟩:=rD h;simp[E.size]
 | call1 _ _ ih=>simp[E.size];omega
 | call2 _ _ _ ih ih2=>simp[E.size];omega
 | call3 _ _ _ _ ih ih2 ih3=>simp[E.size];omega
theorem qI {nm:List aM}{c:Nat}{l r:List Tk}{e:E}(h:R nm (.at c) l (some (e,r))):e.size+r.length<=l.length:=by
 obtain⟨p,rfl,hg⟩:=sound h e r rfl
 have:=bAm hg
 rw[lLa];omega
def bZ:List E->Nat
 | []=>0
 | a::es=>a.size+bZ es
def jL:List E->Nat->List Nd
 | [],_=>[]
 | a::es,s=>a.flat s++jL es (s+a.size)
theorem aGa (es:List E)(a:E):bZ (es++[a])=bZ es+a.size:=by
 induction es with
 | nil=>simp[bZ]
 | cons b es ih=>simp[bZ,ih];omega
theorem uC:∀(es:List E) (a:E) (s:Nat),jL (es++[a]) s=jL es s++a.flat (s+bZ es)
 | [],a,s=>by simp[jL,bZ]
 | b::es,a,s=>by simp[jL,bZ,uC es a,Nat.add_assoc]
theorem dD:∀(es:List E) (s:Nat),(jL es s).length=bZ es
 | [],s=>rfl
 | a::es,s=>by simp[jL,bZ,E.flat_len,dD es]
def p1:List E->Nat->Int
 | [],_=>0
 | a::_,s=>(s+a.size:Nat)-1
def p2:List E->Nat->Int
 | a::b::_,s=>(s+a.size+b.size:Nat)-1
 | _,_=>0
def p3:List E->Nat->Int
 | a::b::c::_,s=>(s+a.size+b.size+c.size:Nat)-1
 | _,_=>0
def mkE (o:Int):List E->E
 | [a]=>.un o a
 | [a,b]=>.bin o a b
 | a::b::c::_=>.tri o a b c
 | _=>.leaf (lf o 0 0 0 0 0)
theorem aO2 {o:Int}{es:List E}(h:es.length=1\/es.length=2\/es.length=3)(s:Nat):(mkE o es).flat s=jL es s++[⟨o,p1 es s,p2 es s,p3 es s,0,0,0,0,0⟩]/\(mkE o es).size=bZ es+1:=by
 match es,h with
 | [a],_=>simp[mkE,E.flat,E.size,jL,bZ,p1,p2,p3]
 | [a,b],_=>simp[mkE,E.flat,E.size,jL,bZ,p1,p2,p3]
 | [a,b,c],_=>simp[mkE,E.flat,E.size,jL,bZ,p1,p2,p3,Nat.add_assoc]
 | [],h=>simp at h
 | _::_::_::_::_,h=>simp at h
inductive AR (nm:List aM) (l0:List Tk):List E->List Tk->Prop
 | nil:AR nm l0 [] l0
 | one {a:E} {r:List Tk}:R nm (.at 0) l0 (some (a,r))->AR nm l0 [a] r
 | more {es:List E} {a:E} {l r:List Tk}:es≠[]->AR nm l0 es (.comma::l)->R nm (.at 0) l (some (a,r))->AR nm l0 (es++[a]) r
theorem AR.len {nm:List aM}{l0:List Tk}{es:List E}{l:List Tk}(h:AR nm l0 es l):bZ es+l.length<=l0.length:=by
 induction h with
 | nil=>simp[bZ]
 | one h=>have:=qI h;simp[bZ];omega
 | more _ _ h ih=>have:=qI h;rw[aGa];simp at ih;omega
theorem AR.nil_inv {nm:List aM}{l0 l:List Tk}(h:AR nm l0 [] l):l=l0:=by
 generalize hx:([]:List E)=x at h
 cases h with
 | nil=>rfl
 | one _=>cases hx
 | more _ _ _=>simp at hx
theorem AR.one_inv {nm:List aM}{l0 l:List Tk}{a:E}(h:AR nm l0 [a] l):R nm (.at 0) l0 (some (a,l)):=by
 generalize hx:[a]=x at h
 cases h with
 | nil=>cases hx
 | one h=>cases hx;exact h
 | @more es a' _ _ h1 _ _ =>
  cases es with
  | nil=>exact absurd rfl h1
  | cons b es=>simp at hx
theorem AR.two_inv {nm:List aM}{l0 l:List Tk}{a b:E}(h:AR nm l0 [a,b] l):∃ r,R nm (.at 0) l0 (some (a,.comma::r))/\R nm (.at 0) r (some (b,l)):=by
 generalize hx:[a,b]=x at h
 cases h with
 | nil=>cases hx
 | one h=>cases hx
 | @more es a' _ _ h1 h2 h3 =>
  match es,hx,h2 with
  | [],hx,_=>simp at hx
  | [c],hx,h2=>simp at hx;obtain⟨rfl,rfl⟩:=hx;exact⟨_,h2.one_inv,h3⟩
  | _::_::_,hx,_=>simp at hx
theorem AR.three_inv {nm:List aM}{l0 l:List Tk}{a b c:E}(h:AR nm l0 [a,b,c] l):∃ r r2,R nm (.at 0) l0 (some (a,.comma::r))/\R nm (.at 0) r (some (b,.comma::r2))/\R nm (.at 0) r2 (some (c,l)):=by
 generalize hx:[a,b,c]=x at h
 cases h with
 | nil=>cases hx
 | one h=>cases hx
 | @more es a' _ _ h1 h2 h3 =>
  match es,hx,h2 with
  | [],hx,_=>simp at hx
  | [_],hx,_=>simp at hx
  | [c,d],hx,h2=>simp at hx;obtain⟨rfl,rfl,rfl⟩:=hx;obtain⟨r,h4,h5⟩:=h2.two_inv;exact⟨_,_,h4,h5,h3⟩
  | _::_::_::_,hx,_=>simp at hx
theorem uZ {t:Tk}{a:E}{l:List Tk}(h:l.head?≠some t):uB t (some (a,l))=none:=by
 unfold uB
 split
 ·rename_i heq
  cases heq
  split
  ·rename_i hk;subst hk;exact absurd rfl h
  ·rfl
 ·rfl
theorem AR.no_comma {nm:List aM}{l0 l:List Tk}{es:List E}(h:AR nm l0 es l){s:aM}(h0:0 < es.length)(h1:es.length < tF (bG s))(hc:l.head?≠some .comma):R nm (.at 8) (.word s::.lp::l0) none:=by
 have h3:tF (bG s)<=3:=by
  have:=tV (gB (by omega:0 < tF (bG s)));omega
 match es,h with
 | [],_=>simp at h0
 | [a],h=>exact R.calln (by simp at h1;omega) h.one_inv (uZ hc)
 | [a,b],h =>
  obtain⟨r,h4,h5⟩:=h.two_inv
  exact R.call3n (by simp at h1;omega) h4 (dV _ _ _) h5 (uZ hc)
 | _::_::_::_,_=>simp at h1;omega
theorem AR.no_part {nm:List aM}{l0 l:List Tk}{es:List E}(h:AR nm l0 es l){s:aM}(h1:es.length < tF (bG s)){l':List Tk}(hl:(es=[]/\l'=l)\/(es≠[]/\l=.comma::l'))(hr:R nm (.at 0) l' none):R nm (.at 8) (.word s::.lp::l0) none:=by
 have h3:=tV (gB (by omega:0 < tF (bG s)))
 match es,h with
 | [],h =>
  have hl':l'=l0:=by
   rcases hl with⟨-,e⟩|⟨e,-⟩
   ·rw[e];exact h.nil_inv
   ·exact absurd rfl e
  subst hl'
  rcases h3 with h3|h3
  ·have:=R.call1 h3 hr;exact this
  ·exact R.calln (by omega) hr rfl
 | [a],h =>
  obtain rfl:l=.comma::l':=by
   rcases hl with⟨e,-⟩|⟨-,e⟩
   ·cases e
   ·exact e
  simp at h1
  rcases h3 with h3|h3|h3
  ·omega
  ·have:=R.call2 h3 h.one_inv (dV _ _ _) hr;exact this
  ·exact R.call3n h3 h.one_inv (dV _ _ _) hr rfl
 | [a,b],h =>
  obtain rfl:l=.comma::l':=by
   rcases hl with⟨e,-⟩|⟨-,e⟩
   ·cases e
   ·exact e
  simp at h1
  obtain⟨r,h4,h5⟩:=h.two_inv
  have:=R.call3 (s:=s) (by omega) h4 (dV _ _ _) h5 (dV _ _ _) hr
  exact this
 | _::_::_::_,_=>simp at h1;omega
theorem AR.ends {nm:List aM}{l0 l:List Tk}{es:List E}(h:AR nm l0 es l){s:aM}(h0:0 < es.length)(h1:es.length=tF (bG s)):R nm (.at 8) (.word s::.lp::l0) ((uB .rp (some (mkE (bG s) es,l)))):=by
 have h3:tF (bG s)<=3:=by
  have:=tV (gB (by omega:0 < tF (bG s)));omega
 have key:∀(f:E->E) (a:E),Option.map (fun p:E × List Tk=>(f p.1,p.2)) (uB .rp (some (a,l)))=uB .rp (some (f a,l)):=by
  intro f a
  cases l with
  | nil=>rfl
  | cons t l =>
   simp only[uB]
   split <;> rfl
 match es,h with
 | [],_=>simp at h0
 | [a],h =>
  have:=R.call1 (nm:=nm) h1.symm h.one_inv
  unfold aX0 at this
  rw[key (fun e=>.un (bG s) e)] at this
  exact this
 | [a,b],h =>
  obtain⟨r,h4,h5⟩:=h.two_inv
  have:=R.call2 (nm:=nm) h1.symm h4 (dV _ _ _) h5
  unfold bA5 at this
  rw[key (fun e=>.bin (bG s) a e)] at this
  exact this
 | [a,b,c],h =>
  obtain⟨r,r2,h4,h5,h6⟩:=h.three_inv
  have:=R.call3 (nm:=nm) h1.symm h4 (dV _ _ _) h5 (dV _ _ _) h6
  unfold aXz at this
  rw[key (fun e=>.tri (bG s) a b e)] at this
  exact this
 | _::_::_::_::_,_=>simp at h1;omega
end Pz
namespace Lx
theorem aCi:∀(T:List Tok) (l:List UInt8) (p:Nat),Cov l p T->T.length<=l.length
 | [],_,_,_=>nZl _
 | t::T,l,p,⟨g,rest,e,hp,hg,hf,hm,hc⟩=>by
  subst e
  have:=aCi T rest _ hc
  have h1:0 < t.text.length:=aC7 hm
  simp only[lLc,lLa]
  omega
end Lx
namespace Go.Proofs.YticnbcfmbhjbgaaGreatDoor
section
def cnt (n:Nat)(l:Array Bool):Nat:=((List.range n).filter fun j=>!l.getD j true).length
theorem nD (n:Nat)(l:Array Bool):cnt (n+1) l=cnt n l+(if l.getD n true=false then 1 else 0):=by
 unfold cnt
 rw[List.range_succ,List.filter_append,lLa]
 congr 1
 cases h:l.getD n true with
 | true=>rw[List.filter_cons_of_neg (by rw[h];decide)];rfl
 | false=>rw[List.filter_cons_of_pos (by rw[h];rfl)];rfl
theorem aEx (l:Array Bool)(i j:Nat):(l.setIfInBounds i true).getD j true=if j=i then true else l.getD j true:=by
 simp only[Array.getD_eq_getD_getElem?,Array.getElem?_setIfInBounds]
 by_cases h:i=j
 ·subst h
  rw[if_pos rfl,if_pos rfl]
  split <;> rfl
 ·rw[if_neg h,if_neg (fun e=>h e.symm)]
theorem aIr (l:Array Bool)(i:Nat):∀ n,n<=i->cnt n (l.setIfInBounds i true)=cnt n l
 | 0,_=>rfl
 | n+1,h=>by
  have hne:¬n=i:=by omega
  rw[nD,nD,aIr l i n (by omega),aEx,if_neg hne]
theorem aIs (l:Array Bool)(i:Nat)(h:l.getD i true=false):∀ n,i < n->cnt n (l.setIfInBounds i true)+1=cnt n l
 | 0,hn=>by omega
 | n+1,hn=>by
  rw[nD,nD,aEx]
  by_cases e:i=n
  ·subst e
   rw[aIr l i i (nLr _),if_pos rfl,if_pos h]
   rfl
  ·have:=aIs l i h n (by omega)
   have hne:¬n=i:=fun e'=>e e'.symm
   rw[if_neg hne]
   omega
theorem aNa {n:Nat}{l:Array Bool}(h:cnt n l=0):∀ j,j < n->l.getD j true=true:=by
 intro j hj
 unfold cnt at h
 have h2:=List.length_eq_zero_iff.1 h
 rw[List.filter_eq_nil_iff] at h2
 have:=h2 j (List.mem_range.2 hj)
 simpa using this
theorem aKo (n:Nat):cnt n (Array.replicate n false)<=n:=by
 unfold cnt
 refine Nat.le_trans (List.length_filter_le _ _) ?_
 simp
theorem vN {md:Region.Mode}{ops:Array Oper}{listed:Array Bool}{i:Nat}(h:i ∈ Region.ready md ops listed):i < ops.size/\listed.getD i true=false/\∃ o,ops[i]?=some o/\∀ e ∈ o.after,Region.binds md e=true->listed.getD e.on false=true:=by
 unfold Region.ready at h
 rw[List.mem_filter,List.mem_range] at h
 obtain⟨h1,h2⟩:=h
 rw[bAt] at h2
 refine⟨h1,by simpa using h2.1,?_⟩
 cases ho:ops[i]? with
 | none=>rw[ho] at h2;simp at h2
 | some o =>
  refine⟨o,rfl,?_⟩
  rw[ho] at h2
  have h3:=h2.2
  simp only[Option.map_some,oGs,Array.all_eq_true] at h3
  intro e he hb
  obtain⟨k,hk,rfl⟩:=Array.mem_iff_getElem.1 he
  have:=h3 k hk
  rw[hb] at this
  simpa using this
theorem aAv {P:Program}{ops:Array Oper}{Q:Exit->Act->World->Prop}{id:Nat}{a:Act}{w:World}(hm:P.follows .mixedOrders=true)(I:Array Bool->Act->World->Prop)
  (h0:I (Array.replicate ops.size false) a { w with drawn:=w.drawn+1 })
  (hs:∀ listed a w i,I listed a w->i ∈ Region.ready .any ops listed->wpOp P ops Q i (I (listed.setIfInBounds i true)) a w)
  (he:∀ listed a w,I listed a w->Region.ready .any ops listed=[]->Q .normal a w):(Code.region id ops true).wp P Q a w:=by
 refine wp_region_any hm ?_
 have key:∀(fuel:Nat) (listed:Array Bool) (a:Act) (w:World),cnt ops.size listed<=fuel->I listed a w->wpAny P .any ops Q fuel listed a w:=by
  intro fuel
  induction fuel with
  | zero =>
   intro listed a w hc hI
   have hr:Region.ready .any ops listed=[]:=by
    rw[List.eq_nil_iff_forall_not_mem]
    intro i hi
    obtain⟨h1,h2,-⟩:=vN hi
    have:=aNa (show cnt ops.size listed=0 by omega) i h1
    rw[this] at h2
    cases h2
   exact⟨hr,he listed a w hI hr⟩
  | succ fuel ih =>
   intro listed a w hc hI
   refine⟨fun hr=>he listed a w hI hr,fun i hi=>?_⟩
   obtain⟨h1,h2,-⟩:=vN hi
   have:=aIs listed i h2 ops.size h1
   exact wpOp_mono (fun a' w' h'=>ih _ a' w' (by omega) h') (hs listed a w i hI hi)
 exact key _ _ _ _ (aKo _) h0
end
theorem aL7 {P:Program}{ops:Array Oper}{Q:Exit->Act->World->Prop}{i:Nat}{o:Oper}{K:Act->World->Prop}{a:Act}{w:World}(ho:ops[i]?=some o)
  (h:∀ Q':Exit->Act->World->Prop,(∀ a w,K a w->Q' .normal a w)->(∀ e a w,e≠.normal->Q e a w->Q' e a w)->wpList P ops Q' [o] a w):wpOp P ops Q i K a w:=by
 have h1:=h (fun e a w=>(e=.normal/\K a w)\/(e≠.normal/\Q e a w)) (fun a w hk=>.inl ⟨rfl,hk⟩) (fun e a w he hq=>.inr ⟨he,hq⟩)
 unfold wpOp
 rw[ho]
 unfold wpList at h1
 have hn:∀ a w,wpList P ops (fun e a w=>(e=.normal/\K a w)\/(e≠.normal/\Q e a w)) [] a w->K a w:=by
  intro a w hh
  rcases hh with⟨-,hk⟩|⟨hne,-⟩
  ·exact hk
  ·exact absurd rfl hne
 have hl:LetsOut (fun e a w=>(e=.normal/\K a w)\/(e≠.normal/\Q e a w))->LetsOut Q:=by
  rintro⟨a,w,hh⟩
  rcases hh with⟨he,-⟩|⟨-,hq⟩
  ·cases he
  ·exact⟨a,w,hq⟩
 show if _ then _ else _
 split
 ·rename_i hw
  rw[if_pos hw] at h1
  rcases h1 with h1|⟨h1,h2⟩
  ·refine .inl ?_
   unfold Oper.wp at *
   generalize (execOp a.eval o).run P w=r at *
   cases r with
   | ok n w' =>
    cases n with
    | value v=>exact hn _ _ h1
    | skip=>exact hn _ _ h1
    | defer d=>exact hn _ _ h1
    | enter f args =>
     refine Calls.mono h1 fun e w'' he=>?_
     cases e with
     | returned v=>exact hn _ _ he
     | panicked c =>
      rcases he with⟨he,-⟩|⟨-,hq⟩
      ·cases he
      ·exact hq
     | outgrown=>exact hl he
    | row r args=>exact Rows.mono h1 fun _ _ he=>hn _ _ he
    | _=>exact h1
   | halt x w' =>
    cases x with
    | panic v =>
     rcases h1 with⟨he,-⟩|⟨-,hq⟩
     ·cases he
     ·exact hq
    | _=>exact h1
  ·exact .inr ⟨h1,hl h2⟩
 ·rename_i hw
  rw[if_neg hw] at h1
  exact hn _ _ h1
theorem wT {P:Program}{ops:Array Oper}{Q:Exit->Act->World->Prop}{id:Nat}{a:Act}{w:World}(hm:P.follows .mixedOrders=true)
  (hord:∀(i:Nat) (o:Oper),ops[i]?=some o->∀ e ∈ o.after,e.on < i) (I:(Nat->Bool)->Act->World->Prop)
  (h0:I (fun _=>false) a { w with drawn:=w.drawn+1 })
  (hs:∀ d a w i o,I d a w->d i=false->ops[i]?=some o->(∀ e ∈ o.after,Region.binds .any e=true->d e.on=true)->∀ Q':Exit->Act->World->Prop,(∀ a w,I (fun j=>j==i || d j) a w->Q' .normal a w)->wpList P ops Q' [o] a w)
  (he:∀ d a w,I d a w->(∀ i,i < ops.size->d i=true)->Q .normal a w):(Code.region id ops true).wp P Q a w:=by
 refine aAv hm (fun listed a w=>listed.size=ops.size/\I (fun j=>listed.getD j false) a w) ⟨by simp,?_⟩ ?_ ?_
 ·have:(fun j=>(Array.replicate ops.size false).getD j false)=fun _=>false:=by
   funext j
   simp only[Array.getD_eq_getD_getElem?,Array.getElem?_replicate]
   split <;> rfl
  rw[this]
  exact h0
 ·rintro listed a w i ⟨hsz,hI⟩ hi
  obtain⟨h1,h2,o,ho,h3⟩:=vN hi
  refine aL7 ho fun Q' hk _=>?_
  refine hs _ a w i o hI ?_ ho h3 Q' fun a w hI'=>hk a w ⟨by simp[hsz],?_⟩
  ·have hlt:i < listed.size:=by omega
   simpa [Array.getD_eq_getD_getElem?,hlt] using h2
  ·have:(fun j=>(listed.setIfInBounds i true).getD j false)=fun j=>j==i || listed.getD j false:=by
    funext j
    simp only[Array.getD_eq_getD_getElem?,Array.getElem?_setIfInBounds]
    by_cases hj:i=j
    ·subst hj
     have hlt:i < listed.size:=by omega
     simp[hlt]
    ·have:(j==i)=false:=by simpa using fun e=>hj e.symm
     rw[if_neg hj,this]
     simp
   rw[this]
   exact hI'
 ·rintro listed a w ⟨hsz,hI⟩ hr
  refine he _ a w hI ?_
  intro i
  induction i using Nat.strongRecOn with
  | _ i ih =>
   intro hi
   cases hd:listed.getD i false with
   | true=>rfl
   | false =>
    exfalso
    have hm':i ∈ Region.ready .any ops listed:=by
     unfold Region.ready
     rw[List.mem_filter,List.mem_range]
     refine⟨hi,?_⟩
     have hlt:i < listed.size:=by omega
     have e1:listed.getD i true=false:=by
      simpa [Array.getD_eq_getD_getElem?,hlt] using hd
     rw[e1]
     obtain⟨o,ho⟩:∃ o,ops[i]?=some o:=⟨ops[i],Array.getElem?_eq_getElem hi⟩
     rw[ho]
     simp only[Option.map_some,oGs,Bool.not_false,Bool.true_and,Array.all_eq_true]
     intro k hk
     have hlt2:=hord i o ho o.after[k] (Array.getElem_mem hk)
     have:=ih o.after[k].on hlt2 (by omega)
     rw[this]
     simp
    rw[hr] at hm'
    cases hm'
theorem aYm {ops:Array Oper}(h:(ops.toList.zipIdx.all fun x=>x.1.after.all fun e=>decide (e.on < x.2))=true):∀(i:Nat) (o:Oper),ops[i]?=some o->∀ e ∈ o.after,e.on < i:=by
 intro i o ho e he
 rw[lAe] at h
 have h1:=h (o,i) (by
  rw[List.mem_zipIdx_iff_getElem?]
  simpa using ho)
 rw[Array.all_eq_true] at h1
 obtain⟨k,hk,rfl⟩:=Array.mem_iff_getElem.1 he
 simpa using h1 k hk
end Go.Proofs.YticnbcfmbhjbgaaGreatDoor
