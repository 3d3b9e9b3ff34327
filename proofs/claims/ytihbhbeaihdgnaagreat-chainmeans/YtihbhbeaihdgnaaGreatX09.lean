import Derived.Test.YtihbhbeaihdgnaaGreatXH
import Derived.Orders
import Derived.Tactics
import Derived.Lib.ItoaNum
import Derived.Test.YtihbhbeaihdgnaaGreatX08
import Derived.Test.YtihbhbeaihdgnaaGreatX00
import Derived.Test.YtihbhbeaihdgnaaGreatX07
set_option maxRecDepth 100000
set_option maxHeartbeats 32000000
set_option linter.unusedVariables false
namespace Go.Proofs.YtihbhbeaihdgnaaGreat
open Lx Pz
variable {bd:Nat} {BS:List Int}
def dX:Tk->Bool
 | .num v=>decide (0<=v)&&decide (v<=2147483647)
 | .op _ o=>gN o==2
 | .word s=>uX s
 | _=>true
theorem aU3 {t:Tok}(h:Wf t):dX (ab t)=true:=by
 rcases h with⟨hk,h⟩|⟨hk,h⟩|⟨hk,h⟩
 ·simp only[ab,hk,if_true,dX]
  simp only[num,Bool.and_eq_true,decide_eq_true_eq] at h
  simp only[Bool.and_eq_true,decide_eq_true_eq]
  exact⟨uM h.1.1.2,h.2⟩
 ·rw[show ab t=.word t.text by simp[ab,hk]]
  exact h
 ·rw[show ab t=mkT t.text by simp[ab,hk]]
  have:∀ s ∈ marks.map (·.1),dX (mkT s)=true:=by decide
  exact this _ h
def Gd (bd:Nat):E->Prop
 | .leaf n=>n.a=0/\n.b=0/\n.c=0/\gN n.op=0/\lS n bd=true
 | .un o a=>gN o=1/\Gd bd a
 | .bin o a b=>gN o=2/\Gd bd a/\Gd bd b
 | .tri o a b c=>gN o=3/\Gd bd a/\Gd bd b/\Gd bd c
theorem aFh {o:Int}(h:0 < gN o)(a b c:Int)(bd:Int):lS ⟨o,a,b,c,0,0,0,0,0⟩ bd=true:=by
 have h1:o≠1:=by intro e;subst e;revert h;decide
 have h2:o≠2:=by intro e;subst e;revert h;decide
 have h3:o≠3:=by intro e;subst e;revert h;decide
 have h4:o≠4:=by intro e;subst e;revert h;decide
 simp[lS,jP,h1,h2,h3,h4,uD,bR]
theorem aF2 {l r:List Tk}{x:Int}(h:off l=some (x,r))(hl:l.all dX=true):bR x (-MX) MX=true/\r.all dX=true:=by
 unfold off at h
 split at h
 ·cases h
  simp only[List.all_cons,dX,Bool.and_eq_true,decide_eq_true_eq] at hl
  simp only[bR,MX,Bool.and_eq_true,decide_eq_true_eq]
  exact⟨⟨by omega,by omega⟩,hl.2⟩
 ·split at h
  ·cases h
   simp only[List.all_cons,dX,Bool.and_eq_true,decide_eq_true_eq] at hl
   simp only[bR,MX,Bool.and_eq_true,decide_eq_true_eq]
   exact⟨⟨by omega,by omega⟩,hl.2.2⟩
  ·cases h
 ·cases h
theorem aHs {back:Int}{l r:List Tk}{e:E}(h:jY back l=some (e,r))(hl:l.all dX=true)(hb:bR back 0 MX=true):Gd bd e:=by
 unfold jY at h
 split at h
 ·rename_i x r0 ho
  cases h
  have h1:=(aF2 ho hl).1
  refine⟨rfl,rfl,rfl,rfl,?_⟩
  simp only[lS,zD,if_true,h1,hb]
  decide
 ·rename_i x r0 ho
  have h1:=aF2 ho hl
  split at h
  ·rename_i y r2 ho2
   cases h
   have h2:=aF2 ho2 (by have:=h1.2;simp only[List.all_cons,Bool.and_eq_true] at this;exact this.2)
   refine⟨rfl,rfl,rfl,rfl,?_⟩
   simp only[lS,zD,if_true,h1.1,h2.1,hb]
   rfl
  ·cases h
 ·cases h
theorem aVb {q:Bool}{l r:List Tk}{e:E}(h:vD q l=some (e,r))(hl:l.all dX=true):Gd bd e:=by
 unfold vD at h
 split at h
 ·simp only[List.all_cons,Bool.and_eq_true] at hl
  split at h
  ·split at h
   ·split at h
    ·cases h
    ·simp only[List.all_cons,dX,Bool.and_eq_true,decide_eq_true_eq] at hl
     exact aHs h hl.2.2.2 (by simp only[bR,MX,Bool.and_eq_true,decide_eq_true_eq];omega)
   ·cases h
  ·exact aHs h hl.2 (by decide)
 ·cases h
theorem aA6 {s:aR}(h:0 < rE (aY s)):gN (aY s)=rE (aY s):=by
 have hc:=fF h
 clear h
 unfold aY at hc ⊢
 repeat' split at hc
 all_goals first|(exact absurd rfl hc)|skip
 all_goals simp only[*,if_true] <;> decide
theorem aXz {nm:List aR}{s:aR}{e:E}(h:wd nm s=some e):Gd nm.length e:=by
 unfold wd at h
 split at h
 ·rename_i h0
  cases h
  refine⟨rfl,rfl,rfl,rfl,?_⟩
  have h5:yR s<=5:=by
   unfold yR
   repeat' split
   all_goals omega
  simp[lS,jP,uD,bR,h0,h5]
 ·split at h
  ·rename_i h0 hc
   cases h
   refine⟨rfl,rfl,rfl,rfl,?_⟩
   have:pos nm s < nm.length:=by
    unfold pos
    rw[List.findIdx_lt_length]
    exact⟨s,by simpa using hc,by simp⟩
   simp[lS,jP,uD,bR]
   omega
  ·cases h
theorem aWm {nm:List aR}{c:Nat}{l:List Tk}{e:E}(h:G nm c l e):l.all dX=true->Gd nm.length e:=by
 induction h with
 | up _ _ ih=>exact ih
 | sel _ _ _ ih1 ih2 ih3 =>
  intro h
  simp only[List.all_append,List.all_cons,Bool.and_eq_true] at h
  exact⟨rfl,ih1 h.1,ih2 h.2.2.1,ih3 h.2.2.2.2⟩
 | bin _ _ _ ih1 ih2 =>
  intro h
  simp only[List.all_append,List.all_cons,Bool.and_eq_true,dX,beq_iff_eq] at h
  exact⟨h.2.1,ih1 h.1,ih2 h.2.2⟩
 | neg _ ih =>
  intro h
  simp only[List.all_cons,Bool.and_eq_true] at h
  exact⟨rfl,ih h.2⟩
 | par _ ih =>
  intro h
  simp only[List.all_append,List.all_cons,Bool.and_eq_true] at h
  exact ih h.2.1
 | num v =>
  intro h
  simp only[List.all_cons,dX,Bool.and_eq_true,decide_eq_true_eq] at h
  refine⟨rfl,rfl,rfl,rfl,?_⟩
  simp[lS,jP,uD,bR,MX]
  omega
 | word _ _ _ hw=>intro _;exact aXz hw
 | place _ hp=>intro h;simp only[List.all_cons,Bool.and_eq_true] at h;exact aVb hp h.2
 | call1 ha _ ih =>
  intro h
  simp only[List.all_append,List.all_cons,Bool.and_eq_true] at h
  exact⟨by rw[aA6 (by omega),ha];rfl,ih h.2.2.1⟩
 | call2 ha _ _ ih1 ih2 =>
  intro h
  simp only[List.all_append,List.all_cons,Bool.and_eq_true] at h
  exact⟨by rw[aA6 (by omega),ha];rfl,ih1 h.2.2.1,ih2 h.2.2.2.2.1⟩
 | call3 ha _ _ _ ih1 ih2 ih3 =>
  intro h
  simp only[List.all_append,List.all_cons,Bool.and_eq_true] at h
  exact⟨by rw[aA6 (by omega),ha];rfl,ih1 h.2.2.1,ih2 h.2.2.2.2.1,ih3 h.2.2.2.2.2.2.1⟩
def xH (BS:List Int)(i:Nat)(L:List Int)(bd:Nat):Option (List Int × Nat) :=
 if bd < BS.length/\BS.getD bd 0=i then(if L.length=0 then some ([],bd+1) else none) else some (L++[(i:Int)],bd)
theorem qA {i:Nat}{n:Nd}{L B:List Int}(h1:gN n.op=B.length)(h2:lS n bd=true)(h3:tkE B n=true):iN BS i n (L++B,bd)=xH BS i L bd:=by
 rw[aCp h1,h2,h3]
 rfl
theorem sJ (BS:List Int)(i:Nat)(n:Nd)(s:List Int × Nat):iI BS i [n] s=iN BS i n s:=by
 show (iN BS i n s).bind _=_
 cases iN BS i n s <;> rfl
theorem nK {i:Nat}{L:List Int}(h:¬(bd < BS.length/\BS.getD bd 0=(i:Int))):xH BS i L bd=some (L++[(i:Int)],bd):=if_neg h
theorem oM {BS:List Int}{bd:Nat}:∀(e:E) (s:Nat) (L:List Int),Gd bd e->(∀ i,s<=i->i+1 < s+e.size->¬(bd < BS.length/\BS.getD bd 0=(i:Int)))->iI BS s (e.flat s) (L,bd)=xH BS (s+e.size-1) L bd
 | .leaf n,s,L,hg,hno=>by
  obtain⟨h1,h2,h3,h4,h5⟩:=hg
  show iI BS s [n] (L,bd)=_
  rw[sJ]
  have:=qA (BS:=BS) (i:=s) (L:=L) (B:=[]) (n:=n) (bd:=bd) (by rw[h4];rfl) h5 (by simp[tkE,h1,h2,h3])
  rw[List.append_nil] at this
  exact this
 | .un o a,s,L,hg,hno=>by
  obtain⟨h1,ha⟩:=hg
  have pa:=a.size_pos
  simp only[E.size] at hno
  simp only[E.flat]
  rw[gI,oM a s L ha (fun i h1 h2=>hno i h1 (by omega)),nK (hno _ (by omega) (by omega))]
  show iI BS _ [_] _=_
  rw[sJ,E.flat_len,qA (by rw[h1];rfl) (aFh (by omega) _ _ _ _) (by simp[tkE];omega)]
  simp only[E.size]
  rw[show s+(a.size+1)-1=s+a.size by omega]
 | .bin o a b,s,L,hg,hno=>by
  obtain⟨h1,ha,hb⟩:=hg
  have pa:=a.size_pos
  have pb:=b.size_pos
  simp only[E.size] at hno
  simp only[E.flat]
  rw[gI,gI,oM a s L ha (fun i h1 h2=>hno i h1 (by omega)),nK (hno _ (by omega) (by omega)),Option.bind_some,E.flat_len,oM b (s+a.size) _ hb (fun i h1 h2=>hno i (by omega) (by omega)),nK (hno _ (by omega) (by omega)),Option.bind_some,sJ,List.append_assoc,qA (by rw[h1];rfl) (aFh (by omega) _ _ _ _) (by simp[tkE];omega)]
  simp only[E.size,List.length_append,E.flat_len]
  rw[show s+(a.size+b.size+1)-1=s+(a.size+b.size) by omega]
 | .tri o a b c,s,L,hg,hno=>by
  obtain⟨h1,ha,hb,hc⟩:=hg
  have pa:=a.size_pos
  have pb:=b.size_pos
  have pc:=c.size_pos
  simp only[E.size] at hno
  simp only[E.flat]
  rw[gI,gI,gI,oM a s L ha (fun i h1 h2=>hno i h1 (by omega)),nK (hno _ (by omega) (by omega)),Option.bind_some,E.flat_len,oM b (s+a.size) _ hb (fun i h1 h2=>hno i (by omega) (by omega)),nK (hno _ (by omega) (by omega)),Option.bind_some,List.length_append,E.flat_len,E.flat_len,<-Nat.add_assoc,oM c (s+a.size+b.size) _ hc (fun i h1 h2=>hno i (by omega) (by omega)),nK (hno _ (by omega) (by omega)),Option.bind_some,sJ,show ∀ x y z:Int,L++[x]++[y]++[z]=L++[x,y,z] from by intros;simp,qA (by rw[h1];rfl) (aFh (by omega) _ _ _ _) (by simp[tkE];omega)]
  simp only[E.size,List.length_append,E.flat_len]
  rw[show s+(a.size+b.size+c.size+1)-1=s+(a.size+b.size+c.size) by omega]
theorem aL3 {BS:List Int}:∀(es:List E) (ex:E) (s bd:Nat),bd<=BS.length->BS.drop bd=kG es s->(∀ j e,es[j]?=some e->Gd (bd+j) e)->Gd (bd+es.length) ex->iI BS s (jK es s++ex.flat (s+cZ es)) ([],bd)=some ([((s+cZ es+ex.size-1:Nat):Int)],BS.length)
 | [],ex,s,bd,hle,hd,hes,hex=>by
  have hl:bd=BS.length:=by
   have:=congrArg List.length hd
   simp[kG] at this
   omega
  simp only[jK,cZ,List.nil_append,Nat.add_zero]
  rw[oM (bd:=bd) ex s [] hex (fun i _ _ h=>by omega),nK (fun h=>by omega),hl]
  rfl
 | a::es,ex,s,bd,hle,hd,hes,hex=>by
  have hlt:bd < BS.length:=by
   have:=congrArg List.length hd
   simp[kG] at this
   omega
  have pa:=a.size_pos
  have hg:BS.getD bd 0=((s+a.size:Nat):Int)-1:=by
   have:=congrArg (fun l=>l.getD 0 0) hd
   simp only[kG,List.getD_cons_zero] at this
   rw[<-this,List.getD_eq_getElem?_getD,List.getD_eq_getElem?_getD,List.getElem?_drop,Nat.add_zero]
  simp only[jK,cZ]
  rw[List.append_assoc,gI,oM (bd:=bd) a s [] (hes 0 a rfl) (fun i h1 h2 h=>by have:=h.2;rw[hg] at this;omega)]
  rw[show xH BS (s+a.size-1) [] bd=some ([],bd+1) by unfold xH;rw[if_pos ⟨hlt,by rw[hg];omega⟩];rfl]
  rw[Option.bind_some,E.flat_len,<-Nat.add_assoc]
  refine aL3 es ex (s+a.size) (bd+1) hlt ?_ ?_ ?_
  ·rw[<-List.drop_drop,hd];rfl
  ·intro j e he
   have:=hes (j+1) e he
   rwa[show bd+(j+1)=bd+1+j by omega] at this
  ·rw[List.length_cons] at hex
   rwa[show bd+(es.length+1)=bd+1+es.length by omega] at hex
theorem aWo {nm:List aR}{es:List E}{l:List Tk}{o:Out}(h:GP nm es l o):l.all dX=true->nm.length=es.length->(∀ j e,es[j]?=some e->Gd j e)->nmB nm=true->(∀ j e,o.2.1[j]?=some e->Gd j e)/\Gd o.2.1.length o.2.2/\nmB o.1=true:=by
 induction h with
 | last hg=>intro h1 h2 h3 h4;exact⟨h3,h2 ▸ aWm hg h1,h4⟩
 | @bind nm es s l1 l2 e o hr hc hg _ ih =>
  intro h1 h2 h3 h4
  simp only[List.all_append,List.all_cons,Bool.and_eq_true] at h1
  have hw:uX s=true:=h1.2.1
  refine ih h1.2.2.2.2.2 (by simp[h2]) ?_ (by rw[xM,h4,hw,hr,hc];rfl)
  intro j e' he
  by_cases hj:j < es.length
  ·rw[List.getElem?_append_left hj] at he;exact h3 j e' he
  ·rw[List.getElem?_append_right (by omega)] at he
   have hj0:j-es.length=0:=by
    cases hh:j-es.length with
    | zero=>rfl
    | succ m=>rw[hh] at he;simp at he
   rw[hj0] at he
   cases he
   have:j=nm.length:=by omega
   rw[this]
   exact aWm hg h1.2.2.2.1
end Go.Proofs.YtihbhbeaihdgnaaGreat
namespace Go.Proofs.YtihbhbeaihdgnaaGreat
open Lx Pz
variable {BS:List Int} {bd:Nat}
def Good (BS:List Int)(NS:List Nd):Prop:=∃ es ex,NS=jK es 0++ex.flat (cZ es)/\BS=kG es 0/\(∀ j e,es[j]?=some e->Gd j e)/\Gd es.length ex
theorem vL:∀(A B:List E) (s:Nat),jK (A++B) s=jK A s++jK B (s+cZ A)
 | [],B,s=>by simp[jK,cZ]
 | a::A,B,s=>by simp only[List.cons_append,jK,cZ,vL A B,List.append_assoc,Nat.add_assoc]
theorem aCq:∀(A B:List E),cZ (A++B)=cZ A+cZ B
 | [],B=>by simp[cZ]
 | a::A,B=>by simp only[List.cons_append,cZ,aCq A B];omega
theorem vJ:∀(A B:List E) (s:Nat),kG (A++B) s=kG A s++kG B (s+cZ A)
 | [],B,s=>by simp[kG,cZ]
 | a::A,B,s=>by simp only[List.cons_append,kG,cZ,vJ A B,Nat.add_assoc]
theorem fE:∀(es:List E) (s:Nat),(kG es s).length=es.length
 | [],s=>rfl
 | a::es,s=>by simp[kG,fE es]
theorem dC:∀(es:List E) (s:Nat),(jK es s).length=cZ es
 | [],s=>rfl
 | a::es,s=>by simp[jK,cZ,dC es,E.flat_len]
theorem aJt {i:Nat}{n:Nd}{L:List Int}{t:List Int × Nat}(h:iN BS i n (L,bd)=some t) :
  ∃ A B,L=A++B/\gN n.op=B.length/\B.length<=3/\lS n bd=true/\tkE B n=true/\xH BS i A bd=some t:=by
 cases hw:bR (gN n.op) 0 L.length with
 | false=>rw[aEu hw] at h;cases h
 | true =>
  obtain⟨A,B,rfl,hp,h3⟩:=yH hw
  rw[aCp hp] at h
  split at h
  ·rename_i hc
   simp only[Bool.and_eq_true] at hc
   exact⟨A,B,rfl,hp,h3,hc.1,hc.2,h⟩
  ·cases h
def Inv (BS:List Int)(P:List Nd)(L:List Int)(bd:Nat):Prop :=
 ∃ es st,P=jK es 0++jK st (cZ es)/\L=kG st (cZ es)/\es.length=bd/\kG es 0=BS.take bd/\bd<=BS.length/\(∀ j e,es[j]?=some e->Gd j e)/\(∀ e ∈ st,Gd bd e)
theorem aIe {st:List E}{s:Nat}{A B:List Int}(h:kG st s=A++B):∃ s1 s2,st=s1++s2/\kG s1 s=A/\kG s2 (s+cZ s1)=B:=by
 have hl:A.length<=st.length:=by rw[<-fE st s,h,List.length_append];omega
 refine⟨st.take A.length,st.drop A.length,(List.take_append_drop _ _).symm,?_⟩
 have e:=vJ (st.take A.length) (st.drop A.length) s
 rw[List.take_append_drop,h] at e
 have h2:=List.append_inj e (by rw[fE,List.length_take];omega)
 exact⟨h2.1.symm,h2.2.symm⟩
theorem aQi {st:List E}{s:Nat}{n:Nd}(hp:gN n.op=st.length)(h3:st.length<=3)(hf:lS n bd=true)(ht:tkE (kG st s) n=true)(hg:∀ e ∈ st,Gd bd e):∃ e:E,e.flat s=jK st s++[n]/\e.size=cZ st+1/\Gd bd e:=by
 have hz:n.op≠3->gN n.op≠0->n.k=0/\n.back=0/\n.co=0/\n.x=0/\n.y=0:=by
  intro ho hpz
  have h1:n.op≠1:=by intro e;rw[e] at hpz;exact hpz rfl
  have h2:n.op≠2:=by intro e;rw[e] at hpz;exact hpz rfl
  have h4:n.op≠4:=by intro e;rw[e] at hpz;exact hpz rfl
  simp[lS,ho,jP,h1,h2,h4,uD,bR] at hf
  omega
 have h30:gN n.op≠0->n.op≠3:=by intro h e;rw[e] at h;exact h rfl
 simp only[tkE,Bool.and_eq_true,beq_iff_eq] at ht
 match st,h3,hp,ht,hg with
 | [],_,hp,ht,hg =>
  refine⟨.leaf n,by simp[E.flat,jK],rfl,?_⟩
  exact⟨by simpa [kG] using ht.1.symm,by simpa [kG] using ht.2.1.symm,by simpa [kG] using ht.2.2.symm,hp,hf⟩
 | [a],_,hp,ht,hg =>
  have hp1:gN n.op=1:=hp
  obtain⟨z1,z2,z3,z4,z5⟩:=hz (h30 (by omega)) (by omega)
  refine⟨.un n.op a,?_,by simp[E.size,cZ],hp1,hg a (by simp)⟩
  obtain⟨op,x1,x2,x3,k,back,co,x,y⟩:=n
  simp[kG] at ht
  simp only at z1 z2 z3 z4 z5
  obtain⟨t1,t2,t3⟩:=ht
  subst z1 z2 z3 z4 z5 t2 t3
  simp[E.flat,jK,<-t1]
 | [a,b],_,hp,ht,hg =>
  have hp1:gN n.op=2:=hp
  obtain⟨z1,z2,z3,z4,z5⟩:=hz (h30 (by omega)) (by omega)
  refine⟨.bin n.op a b,?_,by simp[E.size,cZ],hp1,hg a (by simp),hg b (by simp)⟩
  obtain⟨op,x1,x2,x3,k,back,co,x,y⟩:=n
  simp[kG] at ht
  simp only at z1 z2 z3 z4 z5
  obtain⟨t1,t2,t3⟩:=ht
  subst z1 z2 z3 z4 z5 t3
  simp[E.flat,jK,<-t1,<-t2]
 | [a,b,c],_,hp,ht,hg =>
  have hp1:gN n.op=3:=hp
  obtain⟨z1,z2,z3,z4,z5⟩:=hz (h30 (by omega)) (by omega)
  refine⟨.tri n.op a b c,?_,by simp[E.size,cZ];omega,hp1,hg a (by simp),hg b (by simp),hg c (by simp)⟩
  obtain⟨op,x1,x2,x3,k,back,co,x,y⟩:=n
  simp[kG] at ht
  simp only at z1 z2 z3 z4 z5
  obtain⟨t1,t2,t3⟩:=ht
  subst z1 z2 z3 z4 z5
  simp[E.flat,jK,<-t1,<-t2,<-t3]
theorem aLq {P:List Nd}{L:List Int}{n:Nd}{t:List Int × Nat}(hI:Inv BS P L bd)(h:iN BS P.length n (L,bd)=some t):Inv BS (P++[n]) t.1 t.2:=by
 obtain⟨es,st,hP,hL,hes,hbs,hle,hg1,hg2⟩:=hI
 obtain⟨A,B,hAB,hp,h3,hf,ht,hl⟩:=aJt h
 rw[hL] at hAB
 obtain⟨s1,s2,rfl,hA,hB⟩:=aIe hAB
 have hBl:B.length=s2.length:=by rw[<-hB,fE]
 obtain⟨e,he1,he2,he3⟩:=aQi (st:=s2) (s:=cZ es+cZ s1) (bd:=bd) (n:=n) (by rw[hp,hBl]) (by omega) hf (by rw[hB];exact ht) (fun e he=>hg2 e (by simp[he]))
 have hPl:P.length=cZ es+cZ s1+cZ s2:=by rw[hP,List.length_append,dC,dC,aCq];omega
 have hP2:P++[n]=jK es 0++jK (s1++[e]) (cZ es):=by
  rw[hP,vL,vL]
  simp only[jK,List.append_nil,he1,List.append_assoc]
 have hi:((P.length:Nat):Int)=((cZ es+cZ s1+e.size:Nat):Int)-1:=by rw[hPl,he2];omega
 unfold xH at hl
 split at hl
 ·rename_i hc
  split at hl
  ·rename_i hA0
   cases hl
   have hs1:s1=[]:=List.length_eq_zero_iff.1 (by rw[<-fE s1 (cZ es),hA];exact hA0)
   subst hs1
   refine⟨es++[e],[],?_,rfl,by simp[hes],?_,hc.1,?_,by simp⟩
   ·rw[hP2]
    simp[vL,jK]
   ·rw[vJ,hbs,List.take_succ_eq_append_getElem hc.1]
    have hg:BS[bd]=BS.getD bd 0:=by rw[List.getD_eq_getElem?_getD,List.getElem?_eq_getElem hc.1];rfl
    rw[hg,hc.2,hi]
    simp[kG,cZ]
   ·intro j e' hj
    by_cases hjl:j < es.length
    ·rw[List.getElem?_append_left hjl] at hj;exact hg1 j e' hj
    ·rw[List.getElem?_append_right (by omega)] at hj
     have hj0:j-es.length=0:=by
      cases hh:j-es.length with
      | zero=>rfl
      | succ m=>rw[hh] at hj;simp at hj
     rw[hj0] at hj
     cases hj
     rw[show j=bd by omega]
     exact he3
  ·cases hl
 ·cases hl
  refine⟨es,s1++[e],hP2,?_,hes,hbs,hle,hg1,?_⟩
  ·rw[vJ,hA,hi]
   rfl
  ·intro e' he'
   rcases List.mem_append.1 he' with h|h
   ·exact hg2 e' (by simp[h])
   ·simp at h;subst h;exact he3
theorem aHi {BS:List Int}:∀(N P:List Nd) (L:List Int) (bd:Nat) (t:List Int × Nat),Inv BS P L bd->iI BS P.length N (L,bd)=some t->Inv BS (P++N) t.1 t.2
 | [],P,L,bd,t,hI,h=>by cases h;rw[List.append_nil];exact hI
 | n::N,P,L,bd,t,hI,h=>by
  simp only[iI] at h
  cases hs:iN BS P.length n (L,bd) with
  | none=>rw[hs] at h;cases h
  | some u =>
   rw[hs] at h
   have h1:=aLq hI hs
   have:=aHi N (P++[n]) u.1 u.2 t h1 (by rw[List.length_append];exact h)
   rw[List.append_assoc] at this
   exact this
theorem aD8 {NS:List Nd}:qR BS NS=true↔Good BS NS:=by
 constructor
 ·intro h
  unfold qR at h
  split at h
  ·rename_i t ht
   simp only[Bool.and_eq_true,beq_iff_eq] at h
   have hI:=aHi NS [] [] 0 t ⟨[],[],rfl,rfl,rfl,rfl,Nat.zero_le _,by intro j e h;simp at h,by simp⟩ ht
   obtain⟨es,st,hP,hL,hes,hbs,hle,hg1,hg2⟩:=hI
   have hst:st.length=1:=by rw[<-fE st (cZ es),<-hL];exact h.2
   match st,hst with
   | [ex],_ =>
    refine⟨es,ex,by simpa [jK] using hP,?_,hg1,?_⟩
    ·rw[hbs,List.take_of_length_le (by omega)]
    ·rw[hes];exact hg2 ex (by simp)
  ·cases h
 ·rintro⟨es,ex,rfl,rfl,h1,h2⟩
  have hm:=aL3 (BS:=kG es 0) es ex 0 0 (Nat.zero_le _) rfl (by intro j e h;rw[Nat.zero_add];exact h1 j e h) (by rw[Nat.zero_add];exact h2)
  rw[Nat.zero_add] at hm
  unfold qR
  rw[hm]
  simp
end Go.Proofs.YtihbhbeaihdgnaaGreat
namespace Go.Proofs.YtihbhbeaihdgnaaGreat
def cnt (n:Nat)(l:Array Bool):Nat:=((List.range n).filter fun j=>!l.getD j true).length
theorem mG (n:Nat)(l:Array Bool):cnt (n+1) l=cnt n l+(if l.getD n true=false then 1 else 0):=by
 unfold cnt
 rw[List.range_succ,List.filter_append,List.length_append]
 congr 1
 cases h:l.getD n true with
 | true=>rw[List.filter_cons_of_neg (by rw[h];decide)];rfl
 | false=>rw[List.filter_cons_of_pos (by rw[h];rfl)];rfl
theorem aDi (l:Array Bool)(i j:Nat):(l.setIfInBounds i true).getD j true=if j=i then true else l.getD j true:=by
 simp only[Array.getD_eq_getD_getElem?,Array.getElem?_setIfInBounds]
 by_cases h:i=j
 ·subst h
  rw[if_pos rfl,if_pos rfl]
  split <;> rfl
 ·rw[if_neg h,if_neg (fun e=>h e.symm)]
theorem aG6 (l:Array Bool)(i:Nat):∀ n,n<=i->cnt n (l.setIfInBounds i true)=cnt n l
 | 0,_=>rfl
 | n+1,h=>by
  have hne:¬n=i:=by omega
  rw[mG,mG,aG6 l i n (by omega),aDi,if_neg hne]
theorem aG7 (l:Array Bool)(i:Nat)(h:l.getD i true=false):∀ n,i < n->cnt n (l.setIfInBounds i true)+1=cnt n l
 | 0,hn=>by omega
 | n+1,hn=>by
  rw[mG,mG,aDi]
  by_cases e:i=n
  ·subst e
   rw[aG6 l i i (Nat.le_refl _),if_pos rfl,if_pos h]
   rfl
  ·have:=aG7 l i h n (by omega)
   have hne:¬n=i:=fun e'=>e e'.symm
   rw[if_neg hne]
   omega
theorem aKv {n:Nat}{l:Array Bool}(h:cnt n l=0):∀ j,j < n->l.getD j true=true:=by
 intro j hj
 unfold cnt at h
 have h2:=List.length_eq_zero_iff.1 h
 rw[List.filter_eq_nil_iff] at h2
 have:=h2 j (List.mem_range.2 hj)
 simpa using this
theorem aIp (n:Nat):cnt n (Array.replicate n false)<=n:=by
 unfold cnt
 refine Nat.le_trans (List.length_filter_le _ _) ?_
 simp
theorem uF {md:Region.Mode}{ops:Array Oper}{listed:Array Bool}{i:Nat}(h:i ∈ Region.ready md ops listed):i < ops.size/\listed.getD i true=false/\∃ o,ops[i]?=some o/\∀ e ∈ o.after,Region.binds md e=true->listed.getD e.on false=true:=by
 unfold Region.ready at h
 rw[List.mem_filter,List.mem_range] at h
 obtain⟨h1,h2⟩:=h
 rw[Bool.and_eq_true] at h2
 refine⟨h1,by simpa using h2.1,?_⟩
 cases ho:ops[i]? with
 | none=>rw[ho] at h2;simp at h2
 | some o =>
  refine⟨o,rfl,?_⟩
  rw[ho] at h2
  have h3:=h2.2
  simp only[Option.map_some,Option.getD_some,Array.all_eq_true] at h3
  intro e he hb
  obtain⟨k,hk,rfl⟩:=Array.mem_iff_getElem.1 he
  have:=h3 k hk
  rw[hb] at this
  simpa using this
theorem zK {P:Program}{ops:Array Oper}{Q:Exit->Act->World->Prop}{id:Nat}{a:Act}{w:World}(hm:P.follows .mixedOrders=true)(I:Array Bool->Act->World->Prop)
  (h0:I (Array.replicate ops.size false) a { w with drawn:=w.drawn+1 })
  (hs:∀ listed a w i,I listed a w->i ∈ Region.ready .any ops listed->wpOp P ops Q i (I (listed.setIfInBounds i true)) a w)
  (he:∀ listed a w,I listed a w->Region.ready .any ops listed=[]->Q .normal a w):(Code.region id ops true).wp P Q a w:=by
 refine wp_region_any hm ?_
 have key:∀(fuel:Nat) (listed:Array Bool) (a:Act) (w:World),cnt ops.size listed<=fuel->I listed a w->wpAny P .any ops Q fuel listed a w:=by
  intro fuel
  induction fuel with
  | zero =>
   intro listed a w hc hI
   have hr:Region.ready .any ops listed=[]:=by
    rw[List.eq_nil_iff_forall_not_mem]
    intro i hi
    obtain⟨h1,h2,-⟩:=uF hi
    have:=aKv (show cnt ops.size listed=0 by omega) i h1
    rw[this] at h2
    cases h2
   exact⟨hr,he listed a w hI hr⟩
  | succ fuel ih =>
   intro listed a w hc hI
   refine⟨fun hr=>he listed a w hI hr,fun i hi=>?_⟩
   obtain⟨h1,h2,-⟩:=uF hi
   have:=aG7 listed i h2 ops.size h1
   exact wpOp_mono (fun a' w' h'=>ih _ a' w' (by omega) h') (hs listed a w i hI hi)
 exact key _ _ _ _ (aIp _) h0
end Go.Proofs.YtihbhbeaihdgnaaGreat
namespace Go.Proofs.YtihbhbeaihdgnaaGreat
theorem aJ3 {P:Program}{ops:Array Oper}{Q:Exit->Act->World->Prop}{i:Nat}{o:Oper}{K:Act->World->Prop}{a:Act}{w:World}(ho:ops[i]?=some o)
  (h:∀ Q':Exit->Act->World->Prop,(∀ a w,K a w->Q' .normal a w)->(∀ e a w,e≠.normal->Q e a w->Q' e a w)->wpList P ops Q' [o] a w):wpOp P ops Q i K a w:=by
 have h1:=h (fun e a w=>(e=.normal/\K a w)\/(e≠.normal/\Q e a w)) (fun a w hk=>.inl ⟨rfl,hk⟩) (fun e a w he hq=>.inr ⟨he,hq⟩)
 unfold wpOp
 rw[ho]
 unfold wpList at h1
 have hn:∀ a w,wpList P ops (fun e a w=>(e=.normal/\K a w)\/(e≠.normal/\Q e a w)) [] a w->K a w:=by
  intro a w hh
  rcases hh with⟨-,hk⟩|⟨hne,-⟩
  ·exact hk
  ·exact absurd rfl hne
 have hl:LetsOut (fun e a w=>(e=.normal/\K a w)\/(e≠.normal/\Q e a w))->LetsOut Q:=by
  rintro⟨a,w,hh⟩
  rcases hh with⟨he,-⟩|⟨-,hq⟩
  ·cases he
  ·exact⟨a,w,hq⟩
 show if _ then _ else _
 split
 ·rename_i hw
  rw[if_pos hw] at h1
  rcases h1 with h1|⟨h1,h2⟩
  ·refine .inl ?_
   unfold Oper.wp at *
   generalize (execOp a.eval o).run P w=r at *
   cases r with
   | ok n w' =>
    cases n with
    | value v=>exact hn _ _ h1
    | skip=>exact hn _ _ h1
    | defer d=>exact hn _ _ h1
    | enter f args =>
     refine Calls.mono h1 fun e w'' he=>?_
     cases e with
     | returned v=>exact hn _ _ he
     | panicked c =>
      rcases he with⟨he,-⟩|⟨-,hq⟩
      ·cases he
      ·exact hq
     | outgrown=>exact hl he
    | row r args=>exact Rows.mono h1 fun _ _ he=>hn _ _ he
    | _=>exact h1
   | halt x w' =>
    cases x with
    | panic v =>
     rcases h1 with⟨he,-⟩|⟨-,hq⟩
     ·cases he
     ·exact hq
    | _=>exact h1
  ·exact .inr ⟨h1,hl h2⟩
 ·rename_i hw
  rw[if_neg hw] at h1
  exact hn _ _ h1
theorem vF {P:Program}{ops:Array Oper}{Q:Exit->Act->World->Prop}{id:Nat}{a:Act}{w:World}(hm:P.follows .mixedOrders=true)
  (hord:∀(i:Nat) (o:Oper),ops[i]?=some o->∀ e ∈ o.after,e.on < i) (I:(Nat->Bool)->Act->World->Prop)
  (h0:I (fun _=>false) a { w with drawn:=w.drawn+1 })
  (hs:∀ d a w i o,I d a w->d i=false->ops[i]?=some o->(∀ e ∈ o.after,Region.binds .any e=true->d e.on=true)->∀ Q':Exit->Act->World->Prop,(∀ a w,I (fun j=>j==i || d j) a w->Q' .normal a w)->wpList P ops Q' [o] a w)
  (he:∀ d a w,I d a w->(∀ i,i < ops.size->d i=true)->Q .normal a w):(Code.region id ops true).wp P Q a w:=by
 refine zK hm (fun listed a w=>listed.size=ops.size/\I (fun j=>listed.getD j false) a w) ⟨by simp,?_⟩ ?_ ?_
 ·have:(fun j=>(Array.replicate ops.size false).getD j false)=fun _=>false:=by
   funext j
   simp only[Array.getD_eq_getD_getElem?,Array.getElem?_replicate]
   split <;> rfl
  rw[this]
  exact h0
 ·rintro listed a w i ⟨hsz,hI⟩ hi
  obtain⟨h1,h2,o,ho,h3⟩:=uF hi
  refine aJ3 ho fun Q' hk _=>?_
  refine hs _ a w i o hI ?_ ho h3 Q' fun a w hI'=>hk a w ⟨by simp[hsz],?_⟩
  ·have hlt:i < listed.size:=by omega
   simpa [Array.getD_eq_getD_getElem?,hlt] using h2
  ·have:(fun j=>(listed.setIfInBounds i true).getD j false)=fun j=>j==i || listed.getD j false:=by
    funext j
    simp only[Array.getD_eq_getD_getElem?,Array.getElem?_setIfInBounds]
    by_cases hj:i=j
    ·subst hj
     have hlt:i < listed.size:=by omega
     simp[hlt]
    ·have:(j==i)=false:=by simpa using fun e=>hj e.symm
     rw[if_neg hj,this]
     simp
   rw[this]
   exact hI'
 ·rintro listed a w ⟨hsz,hI⟩ hr
  refine he _ a w hI ?_
  intro i
  induction i using Nat.strongRecOn with
  | _ i ih =>
   intro hi
   cases hd:listed.getD i false with
   | true=>rfl
   | false =>
    exfalso
    have hm':i ∈ Region.ready .any ops listed:=by
     unfold Region.ready
     rw[List.mem_filter,List.mem_range]
     refine⟨hi,?_⟩
     have hlt:i < listed.size:=by omega
     have e1:listed.getD i true=false:=by
      simpa [Array.getD_eq_getD_getElem?,hlt] using hd
     rw[e1]
     obtain⟨o,ho⟩:∃ o,ops[i]?=some o:=⟨ops[i],Array.getElem?_eq_getElem hi⟩
     rw[ho]
     simp only[Option.map_some,Option.getD_some,Bool.not_false,Bool.true_and,Array.all_eq_true]
     intro k hk
     have hlt2:=hord i o ho o.after[k] (Array.getElem_mem hk)
     have:=ih o.after[k].on hlt2 (by omega)
     rw[this]
     simp
    rw[hr] at hm'
    cases hm'
theorem aU9 {ops:Array Oper}(h:(ops.toList.zipIdx.all fun x=>x.1.after.all fun e=>decide (e.on < x.2))=true):∀(i:Nat) (o:Oper),ops[i]?=some o->∀ e ∈ o.after,e.on < i:=by
 intro i o ho e he
 rw[List.all_eq_true] at h
 have h1:=h (o,i) (by
  rw[List.mem_zipIdx_iff_getElem?]
  simpa using ho)
 rw[Array.all_eq_true] at h1
 obtain⟨k,hk,rfl⟩:=Array.mem_iff_getElem.1 he
 simpa using h1 k hk
end Go.Proofs.YtihbhbeaihdgnaaGreat
namespace Go.Proofs.YtihbhbeaihdgnaaGreat
open Lx Pz
open Go.Lib (decDigits itoa)
def St (r:aR):Prop:=∀ d,r.head?=some d->d≠60/\d≠61/\d≠62
end Go.Proofs.YtihbhbeaihdgnaaGreat
