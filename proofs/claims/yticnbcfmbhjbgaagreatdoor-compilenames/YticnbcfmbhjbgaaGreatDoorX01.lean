import Derived.Test.YticnbcfmbhjbgaaGreatDoorXH
import Derived.Test.YticnbcfmbhjbgaaGreatDoorX00
set_option maxRecDepth 100000
set_option maxHeartbeats 32000000
set_option linter.unusedVariables false
namespace Pz
open Lx
abbrev aL:=List UInt8
inductive Tk where
 | num (v:Int)
 | word (s:aL)
 | op (k:Nat) (o:Int)
 | ques | colon | lp | rp | comma | semi | eq
 deriving DecidableEq
structure Nd where
 op:Int
 a:Int
 b:Int
 c:Int
 k:Int
 back:Int
 co:Int
 x:Int
 y:Int
 deriving DecidableEq
abbrev lf (op k back co x y:Int):Nd:=⟨op,0,0,0,k,back,co,x,y⟩
inductive E where
 | leaf (n:Nd)
 | un (o:Int) (a:E)
 | bin (o:Int) (a b:E)
 | tri (o:Int) (a b c:E)
def E.size:E->Nat
 | .leaf _=>1
 | .un _ a=>a.size+1
 | .bin _ a b=>a.size+b.size+1
 | .tri _ a b c=>a.size+b.size+c.size+1
def E.flat:E->Nat->List Nd
 | .leaf n,_=>[n]
 | .un o a,s=>a.flat s++[⟨o,(s+a.size:Nat)-1,0,0,0,0,0,0,0⟩]
 | .bin o a b,s=>a.flat s++b.flat (s+a.size)++[⟨o,(s+a.size:Nat)-1,(s+a.size+b.size:Nat)-1,0,0,0,0,0,0⟩]
 | .tri o a b c,s=>a.flat s++b.flat (s+a.size)++c.flat (s+a.size+b.size)++[⟨o,(s+a.size:Nat)-1,(s+a.size+b.size:Nat)-1,(s+a.size+b.size+c.size:Nat)-1,0,0,0,0,0⟩]
theorem E.size_pos (e:E):0 < e.size:=by cases e <;> simp[E.size]
theorem E.flat_len:∀(e:E) (s:Nat),(e.flat s).length=e.size
 | .leaf n,s=>rfl
 | .un o a,s=>by simp[E.flat,E.size,E.flat_len a]
 | .bin o a b,s=>by simp[E.flat,E.size,E.flat_len a,E.flat_len b];omega
 | .tri o a b c,s=>by simp[E.flat,E.size,E.flat_len a,E.flat_len b,E.flat_len c];omega
def mO:aL:=[108,101,116]
def wP:aL:=[112]
def wQ:aL:=[113]
def bF (s:aL):Int :=
 if s=[97,98,115] then 6 else if s=[115,103,110] then 7 else if s=[109,105,110] then 24 else if s=[109,97,120] then 25
 else if s=[99,108,97,109,112] then 26 else if s=[109,101,100] then 27 else 0
def zL (s:aL):Int :=
 if s=[120] then 0 else if s=[121] then 1 else if s=[99] then 2 else if s=[108,111] then 3 else if s=[104,105] then 4 else if s=[109,105,100] then 5 else -1
def lL (s:aL):Bool:=s==mO || s==wP || s==wQ || bF s != 0 || decide (0<=zL s)
def rT (o:Int):Nat:=if o=6\/o=7 then 1 else if o=24\/o=25 then 2 else if o=26\/o=27 then 3 else 0
def pos (nm:List aL)(s:aL):Nat:=nm.findIdx (·==s)
def wd (nm:List aL)(s:aL):Option E :=
 if 0<=zL s then some (.leaf (lf 2 (zL s) 0 0 0 0)) else if nm.contains s then some (.leaf (lf 4 (pos nm s) 0 0 0 0)) else none
theorem sF {s:aL}(h:bF s≠0):rT (bF s)=1\/rT (bF s)=2\/rT (bF s)=3:=by
 unfold bF at h ⊢
 split
 ·exact .inl rfl
 split
 ·exact .inl rfl
 split
 ·exact .inr (.inl rfl)
 split
 ·exact .inr (.inl rfl)
 split
 ·exact .inr (.inr rfl)
 split
 ·exact .inr (.inr rfl)
 ·rename_i h1 h2 h3 h4 h5 h6
  rw[if_neg h1,if_neg h2,if_neg h3,if_neg h4,if_neg h5,if_neg h6] at h
  exact absurd rfl h
theorem fK {s:aL}(h:0 < rT (bF s)):bF s≠0:=by
 intro e
 rw[e] at h
 exact absurd h (by decide)
def sK (t:Tk):Option (E × List Tk)->Option (E × List Tk)
 | some (e,t'::r)=>if t'=t then some (e,r) else none
 | _=>none
theorem iO {t:Tk}{res:Option (E × List Tk)}{e:E}{r:List Tk}(h:sK t res=some (e,r)):res=some (e,t::r):=by
 unfold sK at h
 split at h
 ·split at h
  ·rename_i h1;cases h;rw[h1]
  ·cases h
 ·cases h
theorem dP (t:Tk)(e:E)(r:List Tk):sK t (some (e,t::r))=some (e,r):=by simp[sK]
def off:List Tk->Option (Int × List Tk)
 | .num v::r=>some (v,r)
 | .op k o::.num v::r=>if k=5/\o=9 then some (-v,r) else none
 | _=>none
def jX (back:Int)(l:List Tk):Option (E × List Tk) :=
 match off l with
 | some (x,.rp::r)=>some (.leaf (lf 3 0 back 1 x 0),r)
 | some (x,.comma::r) =>
  match off r with
  | some (y,.rp::r2)=>some (.leaf (lf 3 0 back 2 x y),r2)
  | _=>none
 | _=>none
def vP (q:Bool)(l:List Tk):Option (E × List Tk) :=
 match l with
 | .lp::r =>
  if q then
   match r with
   | .num v::.comma::r1=>if v=0 then none else jX v r1
   | _=>none
  else jX 0 r
 | _=>none
def inP:Tk->Bool
 | .num _=>true
 | .op _ _=>true
 | .comma=>true
 | _=>false
theorem uG {l:List Tk}{x:Int}{r:List Tk}(h:off l=some (x,r)):∃ m,l=m++r/\m.all inP=true/\∀ r',off (m++r')=some (x,r'):=by
 unfold off at h
 split at h
 ·rename_i v r0
  cases h
  exact⟨[.num x],rfl,rfl,fun r'=>rfl⟩
 ·rename_i k o v r0
  split at h
  ·rename_i hk
   cases h
   exact⟨[.op k o,.num v],rfl,rfl,fun r'=>by simp[off,hk]⟩
  ·cases h
 ·cases h
theorem yJ {back:Int}{l:List Tk}{e:E}{r:List Tk}(h:jX back l=some (e,r)):∃ m,l=m++.rp::r/\m.all inP=true/\(∃ n,e=.leaf n/\n.a=0/\n.b=0/\n.c=0)/\∀ r',jX back (m++.rp::r')=some (e,r'):=by
 unfold jX at h
 split at h
 ·rename_i x r0 h1
  cases h
  obtain⟨m,rfl,hm,hr⟩:=uG h1
  exact⟨m,rfl,hm,⟨_,rfl,rfl,rfl,rfl⟩,fun r'=>by unfold jX;rw[hr]⟩
 ·rename_i x r0 h1
  split at h
  ·rename_i y r2 h2
   cases h
   obtain⟨m,rfl,hm,hr⟩:=uG h1
   obtain⟨m2,rfl,hm2,hr2⟩:=uG h2
   refine⟨m++.comma::m2,by simp,by simp[inP] at *;exact⟨hm,hm2⟩,⟨_,rfl,rfl,rfl,rfl⟩,fun r'=>?_⟩
   unfold jX
   rw[lAa,hr]
   simp only[List.cons_append]
   rw[hr2]
  ·cases h
 ·cases h
theorem pW {q:Bool}{l:List Tk}{e:E}{r:List Tk}(h:vP q l=some (e,r)):∃ m,l=.lp::m++.rp::r/\m.all inP=true/\(∃ n,e=.leaf n/\n.a=0/\n.b=0/\n.c=0)/\∀ r',vP q (.lp::m++.rp::r')=some (e,r'):=by
 unfold vP at h
 split at h
 ·split at h
  ·rename_i hq
   split at h
   ·rename_i v r1
    split at h
    ·cases h
    ·rename_i hv
     obtain⟨m,rfl,hm,hn,hr⟩:=yJ h
     refine⟨.num v::.comma::m,by simp,by simp[inP] at *;exact hm,hn,fun r'=>?_⟩
     simp only[vP,List.cons_append,hq,if_true,if_neg hv]
     exact hr r'
   ·cases h
  ·rename_i hq
   obtain⟨m,rfl,hm,hn,hr⟩:=yJ h
   refine⟨m,by simp,hm,hn,fun r'=>?_⟩
   simp only[vP,List.cons_append,if_neg hq]
   exact hr r'
 ·cases h
abbrev lefts (k:Nat):Nat:=if k=3 then 5 else k+1
inductive G (nm:List aL):Nat->List Tk->E->Prop
 | up {c:Nat} {l:List Tk} {e:E}:c < 8->G nm (c+1) l e->G nm c l e
 | sel {l1 l2 l3:List Tk} {a b c:E}:G nm 1 l1 a->G nm 0 l2 b->G nm 0 l3 c->G nm 0 (l1++.ques::(l2++.colon::l3)) (.tri 28 a b c)
 | bin {k:Nat} {o:Int} {l1 l2:List Tk} {a b:E}:k < 7->G nm (lefts k) l1 a->G nm (k+2) l2 b->G nm (k+1) (l1++.op k o::l2) (.bin o a b)
 | neg {l:List Tk} {a:E}:G nm 8 l a->G nm 8 (.op 5 9::l) (.un 5 a)
 | par {l:List Tk} {e:E}:G nm 0 l e->G nm 8 (.lp::(l++[.rp])) e
 | num (v:Int):G nm 8 [.num v] (.leaf (lf 1 v 0 0 0 0))
 | word {s:aL} {e:E}:s≠wP->s≠wQ->bF s=0->wd nm s=some e->G nm 8 [.word s] e
 | place {s:aL} {l:List Tk} {e:E}:s=wP\/s=wQ->vP (s==wQ) l=some (e,[])->G nm 8 (.word s::l) e
 | call1 {s:aL} {l:List Tk} {a:E}:rT (bF s)=1->G nm 0 l a->G nm 8 (.word s::.lp::(l++[.rp])) (.un (bF s) a)
 | call2 {s:aL} {l l2:List Tk} {a b:E}:rT (bF s)=2->G nm 0 l a->G nm 0 l2 b->G nm 8 (.word s::.lp::(l++.comma::(l2++[.rp]))) (.bin (bF s) a b)
 | call3 {s:aL} {l l2 l3:List Tk} {a b c:E}:rT (bF s)=3->G nm 0 l a->G nm 0 l2 b->G nm 0 l3 c->G nm 8 (.word s::.lp::(l++.comma::(l2++.comma::(l3++[.rp])))) (.tri (bF s) a b c)
inductive NR where
 | at (c:Nat)
 | lp (k:Nat) (a:E)
def begins:List Tk->Bool
 | .num _::_=>true
 | .word _::_=>true
 | .lp::_=>true
 | .op k o::_=>decide (k=5/\o=9)
 | _=>false
abbrev aWc (o:Int)(res:Option (E × List Tk)):Option (E × List Tk):=res.map fun p=>(.un o p.1,p.2)
abbrev aY2 (o:Int)(a:E)(res:Option (E × List Tk)):Option (E × List Tk):=res.map fun p=>(.bin o a p.1,p.2)
abbrev aWb (o:Int)(a b:E)(res:Option (E × List Tk)):Option (E × List Tk):=res.map fun p=>(.tri o a b p.1,p.2)
inductive R (nm:List aL):NR->List Tk->Option (E × List Tk)->Prop
 | ch_none {l:List Tk}:R nm (.at 1) l none->R nm (.at 0) l none
 | ch_up {l r:List Tk} {a:E}:R nm (.at 1) l (some (a,r))->r.head?≠some .ques->R nm (.at 0) l (some (a,r))
 | ch_no {l r:List Tk} {a:E} {res:Option (E × List Tk)}:R nm (.at 1) l (some (a,.ques::r))->R nm (.at 0) r res->sK .colon res=none->R nm (.at 0) l none
 | ch_sel {l r r2:List Tk} {a b:E} {res res2:Option (E × List Tk)}:R nm (.at 1) l (some (a,.ques::r))->R nm (.at 0) r res->sK .colon res=some (b,r2)->R nm (.at 0) r2 res2->R nm (.at 0) l (aWb 28 a b res2)
 | lv_none {k:Nat} {l:List Tk}:k < 7->R nm (.at (k+2)) l none->R nm (.at (k+1)) l none
 | lv_go {k:Nat} {l r:List Tk} {a:E} {res:Option (E × List Tk)}:k < 7->R nm (.at (k+2)) l (some (a,r))->R nm (.lp k a) r res->R nm (.at (k+1)) l res
 | lp_stop {k:Nat} {a:E} {r:List Tk}:(∀ o,r.head?≠some (.op k o))->R nm (.lp k a) r (some (a,r))
 | lp_none {k:Nat} {a:E} {o:Int} {r:List Tk}:R nm (.at (k+2)) r none->R nm (.lp k a) (.op k o::r) none
 | lp_cmp {a b:E} {o:Int} {r r2:List Tk}:R nm (.at 5) r (some (b,r2))->R nm (.lp 3 a) (.op 3 o::r) (some (.bin o a b,r2))
 | lp_go {k:Nat} {a b:E} {o:Int} {r r2:List Tk} {res:Option (E × List Tk)}:k≠3->R nm (.at (k+2)) r (some (b,r2))->R nm (.lp k (.bin o a b)) r2 res->R nm (.lp k a) (.op k o::r) res
 | neg {l:List Tk} {res:Option (E × List Tk)}:R nm (.at 8) l res->R nm (.at 8) (.op 5 9::l) (aWc 5 res)
 | par {l:List Tk} {res:Option (E × List Tk)}:R nm (.at 0) l res->R nm (.at 8) (.lp::l) (sK .rp res)
 | num (v:Int) (l:List Tk):R nm (.at 8) (.num v::l) (some (.leaf (lf 1 v 0 0 0 0),l))
 | word {s:aL} {l:List Tk}:s≠wP->s≠wQ->bF s=0->R nm (.at 8) (.word s::l) ((wd nm s).map fun e=>(e,l))
 | place {s:aL} {l:List Tk}:s=wP\/s=wQ->R nm (.at 8) (.word s::l) (vP (s==wQ) l)
 | callx {s:aL} {l:List Tk}:bF s≠0->l.head?≠some .lp->R nm (.at 8) (.word s::l) none
 | call1 {s:aL} {l:List Tk} {res:Option (E × List Tk)}:rT (bF s)=1->R nm (.at 0) l res->R nm (.at 8) (.word s::.lp::l) (aWc (bF s) (sK .rp res))
 | calln {s:aL} {l:List Tk} {res:Option (E × List Tk)}:2<=rT (bF s)->R nm (.at 0) l res->sK .comma res=none->R nm (.at 8) (.word s::.lp::l) none
 | call2 {s:aL} {l r:List Tk} {a:E} {res res2:Option (E × List Tk)}:rT (bF s)=2->R nm (.at 0) l res->sK .comma res=some (a,r)->R nm (.at 0) r res2->R nm (.at 8) (.word s::.lp::l) (aY2 (bF s) a (sK .rp res2))
 | call3n {s:aL} {l r:List Tk} {a:E} {res res2:Option (E × List Tk)}:rT (bF s)=3->R nm (.at 0) l res->sK .comma res=some (a,r)->R nm (.at 0) r res2->sK .comma res2=none->R nm (.at 8) (.word s::.lp::l) none
 | call3 {s:aL} {l r r2:List Tk} {a b:E} {res res2 res3:Option (E × List Tk)}:rT (bF s)=3->R nm (.at 0) l res->sK .comma res=some (a,r)->R nm (.at 0) r res2->sK .comma res2=some (b,r2)->R nm (.at 0) r2 res3->R nm (.at 8) (.word s::.lp::l) (aWb (bF s) a b (sK .rp res3))
 | bad {l:List Tk}:begins l=false->R nm (.at 8) l none
def vK (c:Nat)(r:List Tk):Prop:=∀ t,r.head?=some t->(∀ k o,t=.op k o->k+1 < c)/\(t=.ques->c≠0)
theorem vK.mono {c c':Nat}{r:List Tk}(h:vK c r)(hc:c<=c'):vK c' r:=fun t ht=>⟨fun k o e=>Nat.lt_of_lt_of_le ((h t ht).1 k o e) hc,fun e=>by have:=(h t ht).2 e;omega⟩
theorem vK.nil (c:Nat):vK c []:=fun t ht=>by simp at ht
theorem vK.cons {c:Nat}{t:Tk}(r:List Tk)(h1:∀ k o,t=.op k o->k+1 < c)(h2:t=.ques->c≠0):vK c (t::r):=fun t' ht=>by
 simp at ht;subst ht;exact⟨h1,h2⟩
theorem xB {nm:List aL}{c:Nat}{l:List Tk}{e:E}(h:G nm c l e):(∀ r,vK c r->R nm (.at c) (l++r) (some (e,r))) /\
  (∀ k,c=k+1->k < 7->k≠3->∀ r res,vK (k+2) r->R nm (.lp k e) r res->R nm (.at (k+1)) (l++r) res):=by
 induction h with
 | @up c l e hc hg ih =>
  have hB:∀ k,c=k+1->k < 7->∀ r res,vK (k+2) r->R nm (.lp k e) r res->R nm (.at (k+1)) (l++r) res:=by
   rintro k rfl hk r res hf hr
   exact R.lv_go hk (ih.1 r hf) hr
  refine⟨fun r hf=>?_,fun k hk h7 _ r res hf hr=>hB k hk h7 r res hf hr⟩
  cases c with
  | zero=>exact R.ch_up (ih.1 r (hf.mono (by omega))) (fun hq=>(hf _ hq).2 rfl rfl)
  | succ k=>exact hB k rfl (by omega) r _ (hf.mono (by omega)) (R.lp_stop fun o ho=>by have:=(hf _ ho).1 k o rfl;omega)
 | @sel l1 l2 l3 a b c h1 h2 h3 ih1 ih2 ih3 =>
  refine⟨fun r hf=>?_,fun k hk=>by omega⟩
  have e1:=ih1.1 (.ques::(l2++.colon::(l3++r))) (vK.cons _ (by intro k o e;cases e) (by omega))
  have e2:=ih2.1 (.colon::(l3++r)) (vK.cons _ (by intro k o e;cases e) (by intro e;cases e))
  have e3:=ih3.1 r hf
  have:=R.ch_sel (nm:=nm) e1 e2 (dP _ _ _) e3
  simpa using this
 | @bin k o l1 l2 a b hk h1 h2 ih1 ih2 =>
  have hB:∀ r,vK (k+2) r->∀ res,k≠3->R nm (.lp k (.bin o a b)) r res->R nm (.at (k+1)) (l1++.op k o::l2++r) res:=by
   intro r hf res h3 hr
   have hl:lefts k=k+1:=by unfold lefts;rw[if_neg h3]
   have:=ih1.2 k hl hk h3 (.op k o::(l2++r)) res (vK.cons _ (by intro k' o' e;cases e;omega) (by intro e;cases e)) (R.lp_go h3 (ih2.1 r hf) hr)
   simpa using this
  refine⟨fun r hf=>?_,fun k' hk' h7 h3 r res hf hr=>?_⟩
  ·by_cases h3:k=3
   ·subst h3
    have e1:=ih1.1 (.op 3 o::(l2++r)) (vK.cons _ (by intro k' o' e;cases e;decide) (by intro e;cases e))
    have e2:=ih2.1 r (hf.mono (by omega))
    have:=R.lv_go (k:=3) (by omega) e1 (R.lp_cmp (a:=a) (o:=o) e2)
    simpa using this
   ·exact hB r (hf.mono (by omega)) _ h3 (R.lp_stop fun o ho=>by have:=(hf _ ho).1 k o rfl;omega)
  ·obtain rfl:k=k':=by omega
   exact hB r hf res h3 hr
 | @neg l a h ih =>
  refine⟨fun r hf=>?_,fun k hk=>by omega⟩
  exact R.neg (ih.1 r hf)
 | @par l e h ih =>
  refine⟨fun r hf=>?_,fun k hk=>by omega⟩
  have e1:=ih.1 (.rp::r) (vK.cons _ (by intro k' o' e;cases e) (by intro e;cases e))
  have:=R.par e1
  rw[dP] at this
  simpa using this
 | num v=>exact⟨fun r hf=>R.num v r,fun k hk=>by omega⟩
 | @word s e h1 h2 h3 h4 =>
  refine⟨fun r hf=>?_,fun k hk=>by omega⟩
  have:=R.word (nm:=nm) (l:=r) h1 h2 h3
  rw[h4] at this
  exact this
 | @place s l e h1 h2 =>
  refine⟨fun r hf=>?_,fun k hk=>by omega⟩
  obtain⟨m,rfl,-,-,hr⟩:=pW h2
  have:=R.place (nm:=nm) (l:=.lp::m++.rp::r) h1
  rw[hr] at this
  simpa using this
 | @call1 s l a h1 h2 ih =>
  refine⟨fun r hf=>?_,fun k hk=>by omega⟩
  have e1:=ih.1 (.rp::r) (vK.cons _ (by intro k' o' e;cases e) (by intro e;cases e))
  have:=R.call1 h1 e1
  rw[dP] at this
  simpa using this
 | @call2 s l l2 a b h1 h2 h3 ih ih2 =>
  refine⟨fun r hf=>?_,fun k hk=>by omega⟩
  have e1:=ih.1 (.comma::(l2++.rp::r)) (vK.cons _ (by intro k' o' e;cases e) (by intro e;cases e))
  have e2:=ih2.1 (.rp::r) (vK.cons _ (by intro k' o' e;cases e) (by intro e;cases e))
  have:=R.call2 h1 e1 (dP _ _ _) e2
  rw[dP] at this
  simpa using this
 | @call3 s l l2 l3 a b c h1 h2 h3 h4 ih ih2 ih3 =>
  refine⟨fun r hf=>?_,fun k hk=>by omega⟩
  have e1:=ih.1 (.comma::(l2++.comma::(l3++.rp::r))) (vK.cons _ (by intro k' o' e;cases e) (by intro e;cases e))
  have e2:=ih2.1 (.comma::(l3++.rp::r)) (vK.cons _ (by intro k' o' e;cases e) (by intro e;cases e))
  have e3:=ih3.1 (.rp::r) (vK.cons _ (by intro k' o' e;cases e) (by intro e;cases e))
  have:=R.call3 h1 e1 (dP _ _ _) e2 (dP _ _ _) e3
  rw[dP] at this
  simpa using this
def aQd (nm:List aL):NR->List Tk->Option (E × List Tk)->Prop
 | .at c,l,res=>∀ e r,res=some (e,r)->∃ p,l=p++r/\G nm c p e
 | .lp k a,l,res=>k < 7->∀ l0,G nm (lefts k) l0 a->∀ e r,res=some (e,r)->∃ p,l=p++r/\G nm (k+1) (l0++p) e
theorem sound {nm:List aL}{x:NR}{l:List Tk}{res:Option (E × List Tk)}(h:R nm x l res):aQd nm x l res:=by
 induction h with
 | ch_none h ih=>intro e r he;cases he
 | ch_up h hq ih =>
  intro e r he
  obtain⟨p,hp,hg⟩:=ih e r he
  exact⟨p,hp,G.up (by omega) hg⟩
 | ch_no h1 h2 h3 ih1 ih2=>intro e r he;cases he
 | @ch_sel l r r2 a b res res2 h1 h2 h3 h4 ih1 ih2 ih4 =>
  intro e r3 he
  obtain⟨p1,rfl,g1⟩:=ih1 a _ rfl
  rw[iO h3] at ih2
  obtain⟨p2,rfl,g2⟩:=ih2 b _ rfl
  cases res2 with
  | none=>cases he
  | some q =>
   obtain⟨c,r4⟩:=q
   cases he
   obtain⟨p3,rfl,g3⟩:=ih4 c _ rfl
   exact⟨_,by simp,G.sel g1 g2 g3⟩
 | lv_none hk h ih=>intro e r he;cases he
 | @lv_go k l r a res hk h1 h2 ih1 ih2 =>
  intro e r3 he
  obtain⟨p1,rfl,g1⟩:=ih1 a _ rfl
  have hl:G nm (lefts k) p1 a:=by
   unfold lefts
   split
   ·rename_i h3;subst h3;exact g1
   ·exact G.up (by omega) g1
  obtain⟨p2,rfl,g2⟩:=ih2 hk p1 hl e r3 he
  exact⟨p1++p2,by simp,g2⟩
 | @lp_stop k a r h =>
  intro hk l0 hg e r3 he
  cases he
  refine⟨[],rfl,?_⟩
  rw[List.append_nil]
  unfold lefts at hg
  split at hg
  ·rename_i h3;subst h3;exact G.up (by omega) hg
  ·exact hg
 | lp_none h ih=>intro hk l0 hg e r3 he;cases he
 | @lp_cmp a b o r r2 h ih =>
  intro hk l0 hg e r3 he
  cases he
  obtain⟨p,rfl,g⟩:=ih b _ rfl
  exact⟨.op 3 o::p,rfl,G.bin (by omega) hg g⟩
 | @lp_go k a b o r r2 res h3 h1 h2 ih1 ih2 =>
  intro hk l0 hg e r3 he
  obtain⟨p,rfl,g⟩:=ih1 b _ rfl
  have hl:lefts k=k+1:=by unfold lefts;rw[if_neg h3]
  obtain⟨p2,rfl,g2⟩:=ih2 hk (l0++.op k o::p) (by rw[hl];exact G.bin hk hg g) e r3 he
  exact⟨.op k o::p++p2,by simp,by simpa using g2⟩
 | @neg l res h ih =>
  intro e r3 he
  cases res with
  | none=>cases he
  | some q =>
   obtain⟨a,r⟩:=q
   cases he
   obtain⟨p,rfl,g⟩:=ih a _ rfl
   exact⟨.op 5 9::p,rfl,G.neg g⟩
 | @par l res h ih =>
  intro e r3 he
  obtain⟨p,rfl,g⟩:=ih e _ (iO he)
  exact⟨.lp::(p++[.rp]),by simp,G.par g⟩
 | num v l=>intro e r3 he;cases he;exact⟨[.num v],rfl,G.num v⟩
 | @word s l h1 h2 h3 =>
  intro e r3 he
  cases hw:wd nm s with
  | none=>rw[hw] at he;cases he
  | some e'=>rw[hw] at he;cases he;exact⟨[.word s],rfl,G.word h1 h2 h3 hw⟩
 | @place s l h1 =>
  intro e r3 he
  obtain⟨m,rfl,-,-,hr⟩:=pW he
  exact⟨.word s::(.lp::m++[.rp]),by simp,G.place h1 (hr [])⟩
 | callx h1 h2=>intro e r3 he;cases he
 | @call1 s l res h1 h ih =>
  intro e r3 he
  cases hq:sK .rp res with
  | none=>rw[hq] at he;cases he
  | some q =>
   obtain⟨a,r⟩:=q
   rw[hq] at he
   cases he
   obtain⟨p,rfl,g⟩:=ih a _ (iO hq)
   exact⟨.word s::.lp::(p++[.rp]),by simp,G.call1 h1 g⟩
 | calln h1 h2 h3 ih=>intro e r3 he;cases he
 | @call2 s l r a res res2 h1 h2 h3 h4 ih ih2 =>
  intro e r3 he
  cases hq:sK .rp res2 with
  | none=>rw[hq] at he;cases he
  | some q =>
   obtain⟨b,r4⟩:=q
   rw[hq] at he
   cases he
   obtain⟨p,rfl,g⟩:=ih a _ (iO h3)
   obtain⟨p2,rfl,g2⟩:=ih2 b _ (iO hq)
   exact⟨.word s::.lp::(p++.comma::(p2++[.rp])),by simp,G.call2 h1 g g2⟩
 | call3n h1 h2 h3 h4 h5 ih ih2=>intro e r3 he;cases he
 | @call3 s l r r2 a b res res2 res3 h1 h2 h3 h4 h5 h6 ih ih2 ih3 =>
  intro e r3 he
  cases hq:sK .rp res3 with
  | none=>rw[hq] at he;cases he
  | some q =>
   obtain⟨c,r4⟩:=q
   rw[hq] at he
   cases he
   obtain⟨p,rfl,g⟩:=ih a _ (iO h3)
   obtain⟨p2,rfl,g2⟩:=ih2 b _ (iO h5)
   obtain⟨p3,rfl,g3⟩:=ih3 c _ (iO hq)
   exact⟨.word s::.lp::(p++.comma::(p2++.comma::(p3++[.rp]))),by simp,G.call3 h1 g g2 g3⟩
 | bad h=>intro e r3 he;cases he
end Pz
namespace Lx
def gp:Bool->List UInt8->Option Bool
 | r,[]=>some r
 | r,c::t=>if ((r || c==35)&&c != 10)=false/\bl c=false then none else gp ((r || c==35)&&c != 10) t
theorem pJ:∀(a b:List UInt8) (r:Bool),gp r (a++b)=(gp r a).bind fun q=>gp q b
 | [],b,r=>rfl
 | c::a,b,r=>by
  rw[List.cons_append,gp,gp]
  split
  ·rfl
  ·exact pJ a b _
theorem aMx {c:UInt8}(h:bl c=true)(t:List UInt8):gp false (c::t)=gp false t:=by
 have h35:(c==35)=false:=by
  cases h':(c==35)
  ·rfl
  ·simp only[beq_iff_eq] at h';subst h';exact absurd h (by decide)
 rw[gp,if_neg (by simp[h])]
 simp[h35]
theorem aMy:∀(x:List UInt8),x.all nl=true->gp true x=some true
 | [],_=>rfl
 | c::x,h=>by
  simp only[lAc,bAt] at h
  have hc:(c != 10)=true:=h.1
  rw[gp,if_neg (by simp[hc])]
  simp only[Bool.true_or,Bool.true_and,hc]
  exact aMy x h.2
theorem aAs {x:List UInt8}(h:x.all nl=true):gp false (35::x)=some true:=by
 rw[gp,if_neg (by decide)]
 exact aMy x h
theorem aRn {x:List UInt8}(h:x.all nl=true):gp false (35::(x++[10]))=some false:=by
 have:gp false ((35::x)++[10])=some false:=by
  rw[pJ,aAs h]
  rfl
 exact this
def Cov:List UInt8->Nat->List Tok->Prop
 | l,p,[]=>∃ r,gp false l=some r
 | l,p,t::T=>∃ g rest,l=g++(t.text++rest)/\t.pos=p+g.length/\gp false g=some false/\Fm t.kind t.text/\may t.kind t.text=true/\Cov rest (t.pos+t.text.length) T
theorem Cov.ahead {g0 r:List UInt8}{p:Nat}{T:List Tok}(h0:gp false g0=some false)(h:Cov r (p+g0.length) T):Cov (g0++r) p T:=by
 cases T with
 | nil =>
  obtain⟨q,hq⟩:=h
  exact⟨q,by rw[pJ,h0];exact hq⟩
 | cons t T =>
  obtain⟨g,rest,rfl,hp,hg,hf,hm,hc⟩:=h
  exact⟨g0++g,rest,by simp,by rw[hp,lLa];omega,by rw[pJ,h0];exact hg,hf,hm,hc⟩
theorem aVc:∀(n:Nat) (l:List UInt8) (p:Nat) (T:List Tok),l.length<=n->sc l p=some T->Cov l p T:=by
 intro n
 induction n with
 | zero =>
  intro l p T hl h
  have:l=[]:=List.eq_nil_of_length_eq_zero (by omega)
  subst this
  rw[lM] at h
  cases h
  exact⟨false,rfl⟩
 | succ n ih =>
  intro l p T hl h
  cases l with
  | nil =>
   rw[lM] at h
   cases h
   exact⟨false,rfl⟩
  | cons c r =>
   have hr:r.length<=n:=by simpa using hl
   by_cases hb:bl c=true
   ·rw[oV hb] at h
    exact Cov.ahead (g0:=[c]) (by rw[aMx hb];rfl) (ih r _ T hr h)
   ·simp only[Bool.not_eq_true] at hb
    by_cases h35:c=35
    ·subst h35
     rw[aC2] at h
     have ha:=gU nl r
     have hs:=jO nl r
     cases hd:r.dropWhile nl with
     | nil =>
      rw[hd,lM] at h
      cases h
      rw[hd,List.append_nil] at hs
      rw[hs] at ha
      exact⟨true,aAs ha⟩
     | cons d t =>
      have hd10:d=10:=by
       have:=List.head?_dropWhile_not nl r
       rw[hd] at this
       simpa [nl] using this
      subst hd10
      rw[hd,oV (by decide)] at h
      have hlen:t.length<=n:=by
       have:=jT nl r
       rw[hd] at this
       simp at this
       omega
      have hc:=ih t _ T hlen h
      have e:35::r=(35::(r.takeWhile nl++[10]))++t:=by
       rw[hd] at hs
       simp[hs]
      rw[e]
      refine Cov.ahead (aRn ha) ?_
      have e2:p+1+rn nl r+1=p+(35::(r.takeWhile nl++[10])).length:=by
       simp[rn];omega
      rw[<-e2]
      exact hc
    ·cases hg:gd (c::r) with
     | false=>rw[aC1 hb h35 hg] at h;cases h
     | true =>
      have hp:=xQ hg
      have hf:=aB8 (by simp) hg
      rw[yU hb h35 hg] at h
      cases h1:sc ((c::r).drop (sz (c::r))) (p+sz (c::r)) with
      | none=>rw[h1] at h;cases h
      | some T' =>
       rw[h1] at h
       simp only[Option.map_some,Option.some.injEq] at h
       subst h
       have hne:(c::r).take (sz (c::r))≠[]:=hf.1.1
       refine⟨[],(c::r).drop (sz (c::r)),by simp,rfl,rfl,hf.1,hf.2,?_⟩
       have hcov:=ih _ _ T' (by rw[List.length_drop];simp at hl ⊢;omega) h1
       have hl2:(List.take (sz (c::r)) (c::r)).length=sz (c::r)\/(List.drop (sz (c::r)) (c::r))=[]:=by
        rcases Nat.le_total (sz (c::r)) (c::r).length with h|h
        ·left;rw[lLt];omega
        ·right;exact List.drop_of_length_le h
       rcases hl2 with hl2|hl2
       ·show Cov _ (p+(List.take (sz (c::r)) (c::r)).length) T'
        rw[hl2]
        exact hcov
       ·rw[hl2,lM] at h1
        cases h1
        rw[hl2]
        exact⟨false,rfl⟩
theorem aD1:∀(T:List Tok) (l:List UInt8) (p:Nat),Cov l p T->∀ t ∈ T,Fm t.kind t.text/\may t.kind t.text=true
 | [],_,_,_=>by simp
 | t::T,l,p,⟨g,rest,e,hp,hg,hf,hm,hc⟩=>by
  intro q hq
  rcases lMm.1 hq with rfl|hq
  ·exact⟨hf,hm⟩
  ·exact aD1 T rest _ hc q hq
theorem aDe {l:List UInt8}{T:List Tok}(h:zR l=some T):Cov l 0 T/\l.length<=1024:=by
 unfold zR at h
 split at h
 ·cases h
 ·exact⟨aVc _ l 0 T (nLr _) h,by omega⟩
end Lx
namespace Pz
open Lx
theorem pR {α:Type}{a:α}{p:Prop}(h:none=some a):p:=by cases h
theorem tL {α:Type}{a:α}{p:Prop}(h:some a=none):p:=by cases h
theorem eY {l:List Tk}{p:Prop}(h:begins l=false)(h2:begins l=true):p:=by rw[h] at h2;cases h2
theorem vT {s:aL}{n:Nat}(h:rT (bF s)=n)(hn:1<=n):bF s≠0:=fK (by omega)
theorem aQn {s:aL}(h:2<=rT (bF s)):bF s≠0:=fK (by omega)
theorem det {nm:List aL}{x:NR}{l:List Tk}{r1:Option (E × List Tk)}(h:R nm x l r1):∀ r2,R nm x l r2->r1=r2:=by
 induction h with
 | ch_none h ih =>
  intro r2 h2
  cases h2 with
  | ch_none h1=>rfl
  | ch_up h1 _=>exact pR (ih _ h1)
  | ch_no h1 _ _=>exact pR (ih _ h1)
  | ch_sel h1 _ _ _=>exact pR (ih _ h1)
 | ch_up h hq ih =>
  intro r2 h2
  cases h2 with
  | ch_none h1=>exact tL (ih _ h1)
  | ch_up h1 _=>exact ih _ h1
  | ch_no h1 _ _=>have:=ih _ h1;cases this;exact absurd rfl hq
  | ch_sel h1 _ _ _=>have:=ih _ h1;cases this;exact absurd rfl hq
 | ch_no h1 h2 h3 ih1 ih2 =>
  intro r2 h
  cases h with
  | ch_none g1=>rfl
  | ch_up g1 hq=>have:=ih1 _ g1;cases this;exact absurd rfl hq
  | ch_no g1 _ _=>rfl
  | ch_sel g1 g2 g3 _=>have:=ih1 _ g1;cases this;have:=ih2 _ g2;subst this;rw[h3] at g3;cases g3
 | ch_sel h1 h2 h3 h4 ih1 ih2 ih4 =>
  intro r2 h
  cases h with
  | ch_none g1=>exact tL (ih1 _ g1)
  | ch_up g1 hq=>have:=ih1 _ g1;cases this;exact absurd rfl hq
  | ch_no g1 g2 g3=>have:=ih1 _ g1;cases this;have:=ih2 _ g2;subst this;rw[h3] at g3;cases g3
  | ch_sel g1 g2 g3 g4=>have:=ih1 _ g1;cases this;have:=ih2 _ g2;subst this;rw[h3] at g3;cases g3;rw[ih4 _ g4]
 | lv_none hk h ih =>
  intro r2 h2
  cases h2 with
  | lv_none _ g=>rfl
  | lv_go _ g _=>exact pR (ih _ g)
  | _=>omega
 | lv_go hk h1 h2 ih1 ih2 =>
  intro r2 h
  cases h with
  | lv_none _ g=>exact tL (ih1 _ g)
  | lv_go _ g g2=>have:=ih1 _ g;cases this;exact ih2 _ g2
  | _=>omega
 | lp_stop h =>
  intro r2 h2
  cases h2 with
  | lp_stop _=>rfl
  | lp_none _=>exact absurd rfl (h _)
  | lp_cmp _=>exact absurd rfl (h _)
  | lp_go _ _ _=>exact absurd rfl (h _)
 | lp_none h ih =>
  intro r2 h2
  cases h2 with
  | lp_stop g=>exact absurd rfl (g _)
  | lp_none _=>rfl
  | lp_cmp g=>exact pR (ih _ g)
  | lp_go _ g _=>exact pR (ih _ g)
 | lp_cmp h ih =>
  intro r2 h2
  cases h2 with
  | lp_stop g=>exact absurd rfl (g _)
  | lp_none g=>exact tL (ih _ g)
  | lp_cmp g=>have:=ih _ g;cases this;rfl
  | lp_go g _ _=>exact absurd rfl g
 | lp_go h3 h1 h2 ih1 ih2 =>
  intro r2 h
  cases h with
  | lp_stop g=>exact absurd rfl (g _)
  | lp_none g=>exact tL (ih1 _ g)
  | lp_cmp g=>exact absurd rfl h3
  | lp_go _ g g2=>have:=ih1 _ g;cases this;exact ih2 _ g2
 | neg h ih =>
  intro r2 h2
  cases h2 with
  | neg g=>rw[ih _ g]
  | lv_none g _=>omega
  | lv_go g _ _=>omega
  | bad g=>exact eY g rfl
 | par h ih =>
  intro r2 h2
  cases h2 with
  | par g=>rw[ih _ g]
  | lv_none g _=>omega
  | lv_go g _ _=>omega
  | bad g=>exact eY g rfl
 | num v l =>
  intro r2 h2
  cases h2 with
  | num _ _=>rfl
  | lv_none g _=>omega
  | lv_go g _ _=>omega
  | bad g=>exact eY g rfl
 | word h1 h2 h3 =>
  intro r2 h
  cases h with
  | word _ _ _=>rfl
  | place g=>rcases g with g | g <;> contradiction
  | callx g _=>contradiction
  | call1 g _=>exact absurd h3 (fK (by omega))
  | calln g _ _=>exact absurd h3 (fK (by omega))
  | call2 g _ _ _=>exact absurd h3 (fK (by omega))
  | call3n g _ _ _ _=>exact absurd h3 (fK (by omega))
  | call3 g _ _ _ _ _=>exact absurd h3 (fK (by omega))
  | lv_none g _=>omega
  | lv_go g _ _=>omega
  | bad g=>exact eY g rfl
 | place h1 =>
  intro r2 h
  have hc:∀ {s:aL},s=wP\/s=wQ->bF s=0:=by rintro s (rfl|rfl) <;> decide
  cases h with
  | word g1 g2 _=>rcases h1 with h1 | h1 <;> contradiction
  | place g=>rfl
  | callx g _=>exact absurd (hc h1) g
  | call1 g _=>exact absurd (hc h1) (fK (by omega))
  | calln g _ _=>exact absurd (hc h1) (fK (by omega))
  | call2 g _ _ _=>exact absurd (hc h1) (fK (by omega))
  | call3n g _ _ _ _=>exact absurd (hc h1) (fK (by omega))
  | call3 g _ _ _ _ _=>exact absurd (hc h1) (fK (by omega))
  | lv_none g _=>omega
  | lv_go g _ _=>omega
  | bad g=>exact eY g rfl
 | callx h1 h2 =>
  intro r2 h
  cases h with
  | word _ _ g=>contradiction
  | place g=>rcases g with g | g <;> (subst g;exact absurd (by decide) h1)
  | callx g _=>rfl
  | call1 g _=>exact absurd rfl h2
  | calln g _ _=>exact absurd rfl h2
  | call2 g _ _ _=>exact absurd rfl h2
  | call3n g _ _ _ _=>exact absurd rfl h2
  | call3 g _ _ _ _ _=>exact absurd rfl h2
  | lv_none g _=>omega
  | lv_go g _ _=>omega
  | bad g=>rfl
 | call1 ha h1 ih =>
  intro r2 h
  have hc:=vT ha (by omega)
  cases h with
  | word _ _ g=>contradiction
  | place g=>rcases g with g | g <;> (subst g;exact absurd (by decide) hc)
  | callx g h2=>exact absurd rfl h2
  | call1 g g1=>rw[ih _ g1]
  | calln g _ _=>omega
  | call2 g _ _ _=>omega
  | call3n g _ _ _ _=>omega
  | call3 g _ _ _ _ _=>omega
  | lv_none g _=>omega
  | lv_go g _ _=>omega
  | bad g=>exact eY g rfl
 | calln ha h1 he ih =>
  intro r2 h
  have hc:=aQn ha
  cases h with
  | word _ _ g=>contradiction
  | place g=>rcases g with g | g <;> (subst g;exact absurd (by decide) hc)
  | callx g h2=>exact absurd rfl h2
  | call1 g g1=>omega
  | calln g _ _=>rfl
  | call2 g g1 g2 _=>have:=ih _ g1;subst this;rw[he] at g2;cases g2
  | call3n g g1 g2 _ _=>rfl
  | call3 g g1 g2 _ _ _=>have:=ih _ g1;subst this;rw[he] at g2;cases g2
  | lv_none g _=>omega
  | lv_go g _ _=>omega
  | bad g=>rfl
 | call2 ha h1 he h2 ih ih2 =>
  intro r2 h
  have hc:=vT ha (by omega)
  cases h with
  | word _ _ g=>contradiction
  | place g=>rcases g with g | g <;> (subst g;exact absurd (by decide) hc)
  | callx g h2=>exact absurd rfl h2
  | call1 g g1=>omega
  | calln g g1 g2=>have:=ih _ g1;subst this;rw[he] at g2;cases g2
  | call2 g g1 g2 g3=>have:=ih _ g1;subst this;rw[he] at g2;cases g2;rw[ih2 _ g3]
  | call3n g g1 g2 _ _=>omega
  | call3 g g1 g2 _ _ _=>omega
  | lv_none g _=>omega
  | lv_go g _ _=>omega
  | bad g=>exact eY g rfl
 | call3n ha h1 he h2 he2 ih ih2 =>
  intro r2 h
  have hc:=vT ha (by omega)
  cases h with
  | word _ _ g=>contradiction
  | place g=>rcases g with g | g <;> (subst g;exact absurd (by decide) hc)
  | callx g h2=>exact absurd rfl h2
  | call1 g g1=>omega
  | calln g g1 g2=>rfl
  | call2 g g1 g2 g3=>omega
  | call3n g g1 g2 _ _=>rfl
  | call3 g g1 g2 g3 g4 _=>have:=ih _ g1;subst this;rw[he] at g2;cases g2;have:=ih2 _ g3;subst this;rw[he2] at g4;cases g4
  | lv_none g _=>omega
  | lv_go g _ _=>omega
  | bad g=>rfl
 | call3 ha h1 he h2 he2 h3 ih ih2 ih3 =>
  intro r2 h
  have hc:=vT ha (by omega)
  cases h with
  | word _ _ g=>contradiction
  | place g=>rcases g with g | g <;> (subst g;exact absurd (by decide) hc)
  | callx g h2=>exact absurd rfl h2
  | call1 g g1=>omega
  | calln g g1 g2=>have:=ih _ g1;subst this;rw[he] at g2;cases g2
  | call2 g g1 g2 g3=>omega
  | call3n g g1 g2 g3 g4=>have:=ih _ g1;subst this;rw[he] at g2;cases g2;have:=ih2 _ g3;subst this;rw[he2] at g4;cases g4
  | call3 g g1 g2 g3 g4 g5=>have:=ih _ g1;subst this;rw[he] at g2;cases g2;have:=ih2 _ g3;subst this;rw[he2] at g4;cases g4;rw[ih3 _ g5]
  | lv_none g _=>omega
  | lv_go g _ _=>omega
  | bad g=>exact eY g rfl
 | bad hb =>
  intro r2 h
  cases h with
  | bad g=>rfl
  | callx _ _=>rfl
  | calln _ _ _=>rfl
  | call3n _ _ _ _ _=>rfl
  | lv_none g _=>omega
  | lv_go g _ _=>omega
  | _=>exact eY hb rfl
theorem aE7 {nm:List aL}{l:List Tk}{res:Option (E × List Tk)}(h:R nm (.at 0) l res)(e:E):res=some (e,[])↔G nm 0 l e:=by
 constructor
 ·intro he
  obtain⟨p,hp,hg⟩:=sound h e [] he
  rw[List.append_nil] at hp
  rw[hp];exact hg
 ·intro hg
  have:=(xB hg).1 [] (vK.nil 0)
  rw[List.append_nil] at this
  exact det h _ this
def Nok (nm:List aL):Prop:=∀ s ∈ nm,lL s=false
def plain:Tk->Bool
 | .semi=>false
 | .eq=>false
 | .word s=>s != mO
 | _=>true
theorem aJ1 {t:Tk}(h:inP t=true):plain t=true:=by cases t <;> simp_all [inP,plain]
theorem aBv {s:aL}(h:0 < rT (bF s)):(s != mO)=true:=by
 have:=fK h
 simp only[bne_iff_ne,ne_eq]
 intro e
 subst e
 exact this (by decide)
theorem aB9 {nm:List aL}(hn:Nok nm){c:Nat}{l:List Tk}{e:E}(h:G nm c l e):l.all plain=true/\l≠[]:=by
 induction h with
 | up _ _ ih=>exact ih
 | sel _ _ _ ih1 ih2 ih3=>simp[ih1.1,ih2.1,ih3.1,plain]
 | bin _ _ _ ih1 ih2=>simp[ih1.1,ih2.1,plain]
 | neg _ ih=>simp[ih.1,plain]
 | par _ ih=>simp[ih.1,plain]
 | num v=>simp[plain]
 | @word s e h1 h2 h3 h4 =>
  simp only[lAc,List.all_nil,Bool.and_true,plain,bne_iff_ne,ne_eq,reduceCtorEq,not_false_eq_true,and_true]
  intro he
  subst he
  have:nm.contains mO=true:=by
   unfold wd at h4
   rw[if_neg (by decide)] at h4
   split at h4
   ·assumption
   ·cases h4
  have:=hn mO (by simpa using this)
  exact absurd this (by decide)
 | @place s l e h1 h2 =>
  obtain⟨m,rfl,hm,-,-⟩:=pW h2
  have:m.all plain=true:=by
   rw[lAe] at hm ⊢
   exact fun t ht=>aJ1 (hm t ht)
  have h3:(s != mO)=true:=by rcases h1 with rfl|rfl <;> decide
  simp[this,plain,h3]
 | call1 ha _ ih=>simp[ih.1,plain,(by simpa using aBv (show 0 < rT (bF _) by rw[ha];decide):¬_=mO)]
 | call2 ha _ _ ih ih2=>simp[ih.1,ih2.1,plain,(by simpa using aBv (show 0 < rT (bF _) by rw[ha];decide):¬_=mO)]
 | call3 ha _ _ _ ih ih2 ih3=>simp[ih.1,ih2.1,ih3.1,plain,(by simpa using aBv (show 0 < rT (bF _) by rw[ha];decide):¬_=mO)]
abbrev Out:=List aL × List E × E
def hdr (nm:List aL):List Tk->Option (aL × List Tk)
 | .word s::.eq::r=>if lL s || nm.contains s then none else some (s,r)
 | _=>none
def fin (nm:List aL)(es:List E):Option (E × List Tk)->Option Out
 | some (e,[])=>some (nm,es,e)
 | _=>none
inductive GP:List aL->List E->List Tk->Out->Prop
 | last {nm:List aL} {es:List E} {l:List Tk} {e:E}:G nm 0 l e->GP nm es l (nm,es,e)
 | bind {nm:List aL} {es:List E} {s:aL} {l1 l2:List Tk} {e:E} {o:Out}:lL s=false->nm.contains s=false->G nm 0 l1 e->GP (nm++[s]) (es++[e]) l2 o->GP nm es (.word mO::.word s::.eq::(l1++.semi::l2)) o
inductive RP:List aL->List E->List Tk->Option Out->Prop
 | last {nm:List aL} {es:List E} {l:List Tk} {res:Option (E × List Tk)}:l.head?≠some (.word mO)->R nm (.at 0) l res->RP nm es l (fin nm es res)
 | bad {nm:List aL} {es:List E} {l:List Tk}:hdr nm l=none->RP nm es (.word mO::l) none
 | body {nm:List aL} {es:List E} {s:aL} {l l2:List Tk} {res:Option (E × List Tk)}:hdr nm l=some (s,l2)->R nm (.at 0) l2 res->sK .semi res=none->RP nm es (.word mO::l) none
 | go {nm:List aL} {es:List E} {s:aL} {l l2 r:List Tk} {e:E} {res:Option (E × List Tk)} {o:Option Out}:hdr nm l=some (s,l2)->R nm (.at 0) l2 res->sK .semi res=some (e,r)->RP (nm++[s]) (es++[e]) r o->RP nm es (.word mO::l) o
theorem aEf {nm:List aL}{l l2:List Tk}{s:aL}(h:hdr nm l=some (s,l2)):l=.word s::.eq::l2/\lL s=false/\nm.contains s=false:=by
 unfold hdr at h
 split at h
 ·split at h
  ·cases h
  ·rename_i hr
   cases h
   simp only[Bool.or_eq_true,not_or,Bool.not_eq_true] at hr
   exact⟨rfl,hr.1,hr.2⟩
 ·cases h
theorem aM1 {nm:List aL}{s:aL}(h1:lL s=false)(h2:nm.contains s=false)(l:List Tk):hdr nm (.word s::.eq::l)=some (s,l):=by
 simp only[hdr,h1,h2,Bool.or_self,Bool.false_eq_true,if_false]
theorem aMp {nm:List aL}{es:List E}{res:Option (E × List Tk)}{o:Out}(h:fin nm es res=some o):∃ e,res=some (e,[])/\o=(nm,es,e):=by
 unfold fin at h
 split at h
 ·cases h;exact⟨_,rfl,rfl⟩
 ·cases h
theorem Nok.snoc {nm:List aL}{s:aL}(h:Nok nm)(hs:lL s=false):Nok (nm++[s]):=by
 intro t ht
 rw[List.mem_append] at ht
 rcases ht with ht|ht
 ·exact h t ht
 ·simp at ht;rw[ht];exact hs
theorem aOp {nm:List aL}{es:List E}{l:List Tk}{res:Option Out}(h:RP nm es l res):Nok nm->∀ o,(res=some o↔GP nm es l o):=by
 induction h with
 | @last nm es l res hl hr =>
  intro hn o
  constructor
  ·intro he
   obtain⟨e,h1,rfl⟩:=aMp he
   exact GP.last ((aE7 hr e).1 h1)
  ·intro hg
   cases hg with
   | last g=>rw[(aE7 hr _).2 g];rfl
   | bind _ _ _ _=>exact absurd rfl hl
 | @bad nm es l hh =>
  intro hn o
  constructor
  ·intro he;cases he
  ·intro hg
   cases hg with
   | last g =>
    have:=(aB9 hn g).1
    simp[plain] at this
   | bind h1 h2 _ _=>rw[aM1 h1 h2] at hh;cases hh
 | @body nm es s l l2 res hh hr he =>
  intro hn o
  constructor
  ·intro he;cases he
  ·intro hg
   obtain⟨rfl,hs1,hs2⟩:=aEf hh
   cases hg with
   | last g =>
    have:=(aB9 hn g).1
    simp[plain] at this
   | bind h1 h2 g gp =>
    have:=det hr _ ((xB g).1 (.semi::_) (vK.cons _ (by intro k' o' e;cases e) (by intro e;cases e)))
    rw[this,dP] at he
    cases he
 | @go nm es s l l2 r e res o' hh hr he hp ih =>
  intro hn o
  obtain⟨rfl,hs1,hs2⟩:=aEf hh
  have hn2:=hn.snoc hs1
  constructor
  ·intro ho
   obtain⟨p,rfl,hg⟩:=sound hr e _ (iO he)
   exact GP.bind hs1 hs2 hg ((ih hn2 o).1 ho)
  ·intro hg
   cases hg with
   | last g =>
    have:=(aB9 hn g).1
    simp[plain] at this
   | bind h1 h2 g gp =>
    have:=det hr _ ((xB g).1 (.semi::_) (vK.cons _ (by intro k' o' e;cases e) (by intro e;cases e)))
    rw[this,dP] at he
    cases he
    exact(ih hn2 o).2 gp
def Ans (l:List Tk)(res:Option Out):Prop:=∀ o,(res=some o↔GP [] [] l o)
theorem RP.ans {l:List Tk}{res:Option Out}(h:RP [] [] l res):Ans l res:=aOp h (by intro s hs;simp at hs)
def marks:List (aL × Tk):=[([43],.op 5 8),([45],.op 5 9),([42],.op 6 10),([47],.op 6 11),([37],.op 6 12),([40],.lp),([41],.rp),([44],.comma),([59],.semi),([61],.eq),([63],.ques),([58],.colon),
 ([60],.op 3 18),([62],.op 3 20),([38],.op 2 15),([124],.op 0 16),([94],.op 1 17),([60,61],.op 3 19),([62,61],.op 3 21),([61,61],.op 3 22),([33,61],.op 3 23),([60,60],.op 4 13),([62,62],.op 4 14)]
def zN (s:aL):Tk:=((marks.find? fun r=>r.1==s).map (·.2)).getD .eq
def ab (t:Tok):Tk:=if t.kind=1 then .num (vl t.text) else if t.kind=2 then .word t.text else zN t.text
def Wf (t:Tok):Prop:=(t.kind=1/\num t.text=true)\/(t.kind=2/\qO t.text=true)\/(t.kind=3/\t.text ∈ marks.map (·.1))
theorem aZ3 {t:Tok}(h:Fm t.kind t.text)(hm:may t.kind t.text=true):Wf t:=by
 obtain⟨hne,h⟩:=h
 rcases h with⟨hk,h⟩|⟨hk,hA,h⟩|⟨hk,h⟩
 ·left;rw[hk] at hm;exact⟨hk,by simpa [may] using hm⟩
 ·right;left;rw[hk] at hm;exact⟨hk,by simpa [may] using hm⟩
 ·right;right
  refine⟨hk,?_⟩
  rcases h with h|⟨c,hc,h⟩
  ·rcases mY h with h|h|h|h|h|h <;> rw[h] <;> decide
  ·rw[h]
   have:c ∈ sh:=by simpa using hc
   simp only[sh,lMm,lNm,or_false] at this
   rcases this with rfl|rfl|rfl|rfl|rfl|rfl|rfl|rfl|rfl|rfl|rfl|rfl|rfl|rfl|rfl|rfl|rfl <;> decide
theorem aPs {l:List UInt8}{T:List Tok}(h:zR l=some T):∀ t ∈ T,Wf t:=fun t ht=>by
 have:=aD1 T l 0 (aDe h).1 t ht
 exact aZ3 this.1 this.2
theorem aT1 {nm:List aL}{s:aL}{e:E}(h:wd nm s=some e):∃ n,e=.leaf n:=by
 unfold wd at h
 split at h
 ·cases h;exact⟨_,rfl⟩
 ·split at h
  ·cases h;exact⟨_,rfl⟩
  ·cases h
theorem aYk {nm:List aL}{c:Nat}{l:List Tk}{e:E}(h:G nm c l e):e.size<=l.length:=by
 induction h with
 | up _ _ ih=>exact ih
 | sel _ _ _ ih1 ih2 ih3=>simp[E.size];omega
 | bin _ _ _ ih1 ih2=>simp[E.size];omega
 | neg _ ih=>simp[E.size];omega
 | par _ ih=>simp;omega
 | num v=>simp[E.size]
 | word _ _ _ h=>obtain⟨n,rfl⟩:=aT1 h;simp[E.size]
 | place _ h=>obtain⟨m,-,-,⟨n,rfl,-⟩,-⟩:=pW h;simp[E.size]
 | call1 _ _ ih=>simp[E.size];omega
 | call2 _ _ _ ih ih2=>simp[E.size];omega
 | call3 _ _ _ _ ih ih2 ih3=>simp[E.size];omega
theorem oP {nm:List aL}{c:Nat}{l r:List Tk}{e:E}(h:R nm (.at c) l (some (e,r))):e.size+r.length<=l.length:=by
 obtain⟨p,rfl,hg⟩:=sound h e r rfl
 have:=aYk hg
 rw[lLa];omega
def bV:List E->Nat
 | []=>0
 | a::es=>a.size+bV es
def jA:List E->Nat->List Nd
 | [],_=>[]
 | a::es,s=>a.flat s++jA es (s+a.size)
theorem aFl (es:List E)(a:E):bV (es++[a])=bV es+a.size:=by
 induction es with
 | nil=>simp[bV]
 | cons b es ih=>simp[bV,ih];omega
theorem sM:∀(es:List E) (a:E) (s:Nat),jA (es++[a]) s=jA es s++a.flat (s+bV es)
 | [],a,s=>by simp[jA,bV]
 | b::es,a,s=>by simp[jA,bV,sM es a,Nat.add_assoc]
theorem bY:∀(es:List E) (s:Nat),(jA es s).length=bV es
 | [],s=>rfl
 | a::es,s=>by simp[jA,bV,E.flat_len,bY es]
def p1:List E->Nat->Int
 | [],_=>0
 | a::_,s=>(s+a.size:Nat)-1
def p2:List E->Nat->Int
 | a::b::_,s=>(s+a.size+b.size:Nat)-1
 | _,_=>0
def p3:List E->Nat->Int
 | a::b::c::_,s=>(s+a.size+b.size+c.size:Nat)-1
 | _,_=>0
def mkE (o:Int):List E->E
 | [a]=>.un o a
 | [a,b]=>.bin o a b
 | a::b::c::_=>.tri o a b c
 | _=>.leaf (lf o 0 0 0 0 0)
theorem aNt {o:Int}{es:List E}(h:es.length=1\/es.length=2\/es.length=3)(s:Nat):(mkE o es).flat s=jA es s++[⟨o,p1 es s,p2 es s,p3 es s,0,0,0,0,0⟩]/\(mkE o es).size=bV es+1:=by
 match es,h with
 | [a],_=>simp[mkE,E.flat,E.size,jA,bV,p1,p2,p3]
 | [a,b],_=>simp[mkE,E.flat,E.size,jA,bV,p1,p2,p3]
 | [a,b,c],_=>simp[mkE,E.flat,E.size,jA,bV,p1,p2,p3,Nat.add_assoc]
 | [],h=>simp at h
 | _::_::_::_::_,h=>simp at h
inductive AR (nm:List aL) (l0:List Tk):List E->List Tk->Prop
 | nil:AR nm l0 [] l0
 | one {a:E} {r:List Tk}:R nm (.at 0) l0 (some (a,r))->AR nm l0 [a] r
 | more {es:List E} {a:E} {l r:List Tk}:es≠[]->AR nm l0 es (.comma::l)->R nm (.at 0) l (some (a,r))->AR nm l0 (es++[a]) r
theorem AR.len {nm:List aL}{l0:List Tk}{es:List E}{l:List Tk}(h:AR nm l0 es l):bV es+l.length<=l0.length:=by
 induction h with
 | nil=>simp[bV]
 | one h=>have:=oP h;simp[bV];omega
 | more _ _ h ih=>have:=oP h;rw[aFl];simp at ih;omega
theorem AR.nil_inv {nm:List aL}{l0 l:List Tk}(h:AR nm l0 [] l):l=l0:=by
 generalize hx:([]:List E)=x at h
 cases h with
 | nil=>rfl
 | one _=>cases hx
 | more _ _ _=>simp at hx
theorem AR.one_inv {nm:List aL}{l0 l:List Tk}{a:E}(h:AR nm l0 [a] l):R nm (.at 0) l0 (some (a,l)):=by
 generalize hx:[a]=x at h
 cases h with
 | nil=>cases hx
 | one h=>cases hx;exact h
 | @more es a' _ _ h1 _ _ =>
  cases es with
  | nil=>exact absurd rfl h1
  | cons b es=>simp at hx
theorem AR.two_inv {nm:List aL}{l0 l:List Tk}{a b:E}(h:AR nm l0 [a,b] l):∃ r,R nm (.at 0) l0 (some (a,.comma::r))/\R nm (.at 0) r (some (b,l)):=by
 generalize hx:[a,b]=x at h
 cases h with
 | nil=>cases hx
 | one h=>cases hx
 | @more es a' _ _ h1 h2 h3 =>
  match es,hx,h2 with
  | [],hx,_=>simp at hx
  | [c],hx,h2=>simp at hx;obtain⟨rfl,rfl⟩:=hx;exact⟨_,h2.one_inv,h3⟩
  | _::_::_,hx,_=>simp at hx
theorem AR.three_inv {nm:List aL}{l0 l:List Tk}{a b c:E}(h:AR nm l0 [a,b,c] l):∃ r r2,R nm (.at 0) l0 (some (a,.comma::r))/\R nm (.at 0) r (some (b,.comma::r2))/\R nm (.at 0) r2 (some (c,l)):=by
 generalize hx:[a,b,c]=x at h
 cases h with
 | nil=>cases hx
 | one h=>cases hx
 | @more es a' _ _ h1 h2 h3 =>
  match es,hx,h2 with
  | [],hx,_=>simp at hx
  | [_],hx,_=>simp at hx
  | [c,d],hx,h2=>simp at hx;obtain⟨rfl,rfl,rfl⟩:=hx;obtain⟨r,h4,h5⟩:=h2.two_inv;exact⟨_,_,h4,h5,h3⟩
  | _::_::_::_,hx,_=>simp at hx
theorem tZ {t:Tk}{a:E}{l:List Tk}(h:l.head?≠some t):sK t (some (a,l))=none:=by
 unfold sK
 split
 ·rename_i heq
  cases heq
  split
  ·rename_i hk;subst hk;exact absurd rfl h
  ·rfl
 ·rfl
theorem AR.no_comma {nm:List aL}{l0 l:List Tk}{es:List E}(h:AR nm l0 es l){s:aL}(h0:0 < es.length)(h1:es.length < rT (bF s))(hc:l.head?≠some .comma):R nm (.at 8) (.word s::.lp::l0) none:=by
 have h3:rT (bF s)<=3:=by
  have:=sF (fK (by omega:0 < rT (bF s)));omega
 match es,h with
 | [],_=>simp at h0
 | [a],h=>exact R.calln (by simp at h1;omega) h.one_inv (tZ hc)
 | [a,b],h =>
  obtain⟨r,h4,h5⟩:=h.two_inv
  exact R.call3n (by simp at h1;omega) h4 (dP _ _ _) h5 (tZ hc)
 | _::_::_::_,_=>simp at h1;omega
theorem AR.no_part {nm:List aL}{l0 l:List Tk}{es:List E}(h:AR nm l0 es l){s:aL}(h1:es.length < rT (bF s)){l':List Tk}(hl:(es=[]/\l'=l)\/(es≠[]/\l=.comma::l'))(hr:R nm (.at 0) l' none):R nm (.at 8) (.word s::.lp::l0) none:=by
 have h3:=sF (fK (by omega:0 < rT (bF s)))
 match es,h with
 | [],h =>
  have hl':l'=l0:=by
   rcases hl with⟨-,e⟩|⟨e,-⟩
   ·rw[e];exact h.nil_inv
   ·exact absurd rfl e
  subst hl'
  rcases h3 with h3|h3
  ·have:=R.call1 h3 hr;exact this
  ·exact R.calln (by omega) hr rfl
 | [a],h =>
  obtain rfl:l=.comma::l':=by
   rcases hl with⟨e,-⟩|⟨-,e⟩
   ·cases e
   ·exact e
  simp at h1
  rcases h3 with h3|h3|h3
  ·omega
  ·have:=R.call2 h3 h.one_inv (dP _ _ _) hr;exact this
  ·exact R.call3n h3 h.one_inv (dP _ _ _) hr rfl
 | [a,b],h =>
  obtain rfl:l=.comma::l':=by
   rcases hl with⟨e,-⟩|⟨-,e⟩
   ·cases e
   ·exact e
  simp at h1
  obtain⟨r,h4,h5⟩:=h.two_inv
  have:=R.call3 (s:=s) (by omega) h4 (dP _ _ _) h5 (dP _ _ _) hr
  exact this
 | _::_::_::_,_=>simp at h1;omega
theorem AR.ends {nm:List aL}{l0 l:List Tk}{es:List E}(h:AR nm l0 es l){s:aL}(h0:0 < es.length)(h1:es.length=rT (bF s)):R nm (.at 8) (.word s::.lp::l0) ((sK .rp (some (mkE (bF s) es,l)))):=by
 have h3:rT (bF s)<=3:=by
  have:=sF (fK (by omega:0 < rT (bF s)));omega
 have key:∀(f:E->E) (a:E),Option.map (fun p:E × List Tk=>(f p.1,p.2)) (sK .rp (some (a,l)))=sK .rp (some (f a,l)):=by
  intro f a
  cases l with
  | nil=>rfl
  | cons t l =>
   simp only[sK]
   split <;> rfl
 match es,h with
 | [],_=>simp at h0
 | [a],h =>
  have:=R.call1 (nm:=nm) h1.symm h.one_inv
  unfold aWc at this
  rw[key (fun e=>.un (bF s) e)] at this
  exact this
 | [a,b],h =>
  obtain⟨r,h4,h5⟩:=h.two_inv
  have:=R.call2 (nm:=nm) h1.symm h4 (dP _ _ _) h5
  unfold aY2 at this
  rw[key (fun e=>.bin (bF s) a e)] at this
  exact this
 | [a,b,c],h =>
  obtain⟨r,r2,h4,h5,h6⟩:=h.three_inv
  have:=R.call3 (nm:=nm) h1.symm h4 (dP _ _ _) h5 (dP _ _ _) h6
  unfold aWb at this
  rw[key (fun e=>.tri (bF s) a b e)] at this
  exact this
 | _::_::_::_::_,_=>simp at h1;omega
end Pz
namespace Lx
theorem aB1:∀(T:List Tok) (l:List UInt8) (p:Nat),Cov l p T->T.length<=l.length
 | [],_,_,_=>nZl _
 | t::T,l,p,⟨g,rest,e,hp,hg,hf,hm,hc⟩=>by
  subst e
  have:=aB1 T rest _ hc
  have h1:0 < t.text.length:=aCo hm
  simp only[lLc,lLa]
  omega
end Lx
