import Derived.Test.YtngnnijpdjhelaaGreatX42
namespace Go.Proofs.YtngnnijpdjhelaaGreat
open Lx Pz
set_option linter.unusedVariables false
set_option maxRecDepth 100000
set_option maxHeartbeats 16000000
def rg (s k:Nat):List Int:=(List.range' s k).map (fun i:Nat=>(i:Int))
theorem rg_len (s k:Nat):(rg s k).length=k:=by simp[rg]
theorem rg_add (s a b:Nat):rg s (a+b)=rg s a++rg (s+a) b:=by
 unfold rg
 rw[<-List.map_append,List.range'_append_1]
theorem rg_one (s:Nat):rg s 1=[(s:Int)]:=rfl
theorem rg_succ (s k:Nat):rg s (k+1)=rg s k++[((s+k:Nat):Int)]:=rg_add s k 1
theorem rg_mem {s k:Nat}{z:Int}(h:z ∈ rg s k):∃ i,s<=i/\i < s+k/\z=(i:Int):=by
 simp only[rg,List.mem_map,List.mem_range'_1] at h
 obtain⟨i,h1,h2⟩:=h
 exact⟨i,h1.1,h1.2,h2.symm⟩
theorem rg_split {s k:Nat}{A B:List Int}(h:rg s k=A++B):A=rg s A.length/\B=rg (s+A.length) B.length:=by
 have hk:k=A.length+B.length:=by rw[<-rg_len s k,h,List.length_append]
 rw[hk,rg_add] at h
 have:=List.append_inj h (rg_len _ _)
 exact⟨this.1.symm,this.2.symm⟩
def Em (NS:List Nd)(s:Nat)(L:List Nd):Prop:=(NS.drop s).take L.length=L
theorem em_app {NS:List Nd}{s:Nat}{A B:List Nd}:Em NS s (A++B)↔Em NS s A/\Em NS (s+A.length) B:=by
 unfold Em
 rw[List.length_append,List.take_add,List.drop_drop]
 constructor
 ·intro h
  have hl:=congrArg List.length h
  simp only[List.length_append,List.length_take,List.length_drop] at hl
  exact List.append_inj h (by rw[List.length_take,List.length_drop];omega)
 ·rintro⟨h1,h2⟩;rw[h1,h2]
theorem em_one {NS:List Nd}{s:Nat}{x:Nd}:Em NS s [x]↔NS[s]?=some x:=by
 unfold Em
 cases h:NS.drop s with
 | nil =>
  have:NS[s]?=none:=by rw[List.getElem?_eq_none_iff];have:=congrArg List.length h;simp at this;omega
  rw[this];simp
 | cons y r =>
  have:NS[s]?=some y:=by
   have:=congrArg (fun l=>l[0]?) h
   simpa [List.getElem?_drop] using this
  rw[this];simp
theorem em_le {NS:List Nd}{s:Nat}{L:List Nd}(h:Em NS s L)(h0:0 < L.length):s+L.length<=NS.length:=by
 have:=congrArg List.length h
 rw[List.length_take,List.length_drop] at this
 omega
theorem em_all {NS L:List Nd}(h:Em NS 0 L)(hl:L.length=NS.length):NS=L:=by
 have h2:(NS.drop 0).take L.length=L:=h
 rw[List.drop_zero,hl,List.take_length] at h2
 exact h2
theorem em_self (L:List Nd):Em L 0 L:=by unfold Em;rw[List.drop_zero,List.take_length]
def ownP (n:Nd)(bd:Int):Bool:=decide (0<=prZ n.op)&&fldP n bd
theorem pr_ar {o:Int}(h:0 < prZ o):arZ o=prZ o:=by
 unfold prZ at h ⊢
 split
 ·rename_i h1;rw[if_pos h1] at h;omega
 ·rename_i h1
  rw[if_neg h1] at h
  split
  ·rename_i h2;rw[if_pos h2] at h;omega
  ·rfl
theorem pr_0 {o:Int}(h:prZ o=0):arZ o<=0:=by
 by_cases h4:o=4
 ·subst h4;decide
 ·unfold prZ at h
  rw[if_neg h4] at h
  split at h
  ·omega
  ·omega
theorem wkS_skip {sub:Int->Int->Option (List Int)}{root n ar:Int}{i:Nat}{out:List Int}(h:ar<=i):wkS sub root n ar i 0 out=some out:=by
 unfold wkS;rw[if_pos h,if_pos rfl]
theorem wkS_go {sub:Int->Int->Option (List Int)}{root n ar:Int}{i:Nat}{p:Int}{out l:List Int}(h:¬ar<=i)(hp:p < root)(hs:sub p (n-out.length-1)=some l)(hl:(out.length:Int)+l.length < n):wkS sub root n ar i p out=some (out++l):=by
 unfold wkS;rw[if_neg h,if_neg (by omega),hs]
 simp only
 rw[if_neg (by rw[List.length_append];omega)]
theorem getD_of {NS:List Nd}{i:Nat}{x:Nd}(h:NS[i]?=some x):NS.getD (i:Int).toNat n0=x:=by rw[Int.toNat_natCast,List.getD_eq_getElem?_getD,h];rfl
theorem wkI3 (sub:Int->Int->Option (List Int))(root n:Int)(x:Nd):wkI sub root n x 3=((wkS sub root n (arZ x.op) 0 x.a []).bind (wkS sub root n (arZ x.op) 1 x.b)).bind (wkS sub root n (arZ x.op) 2 x.c):=rfl
theorem wk_e {NS:List Nd}{bd:Nat}:∀(e:E) (s f:Nat) (n:Int),Gd bd e->Em NS s (e.flat s)->s+e.size<=f->(e.size:Int)<=n->wk NS f (((s+e.size:Nat):Int)-1) n=some (rg s e.size)
 | .leaf x,s,0,n,hg,hm,hf,hn=>by simp[E.size] at hf
 | .un o a,s,0,n,hg,hm,hf,hn=>by simp[E.size] at hf
 | .bin o a b,s,0,n,hg,hm,hf,hn=>by simp[E.size] at hf
 | .tri o a b c,s,0,n,hg,hm,hf,hn=>by simp[E.size] at hf
 | .leaf x,s,f+1,n,hg,hm,hf,hn=>by
  obtain⟨h1,h2,h3,h4,h5⟩:=hg
  have hx:=em_one.1 (show Em NS s [x] from hm)
  have hlt:s < NS.length:=(List.getElem?_eq_some_iff.1 hx).1
  simp only[E.size] at hn ⊢
  rw[show (((s+1:Nat):Int)-1)=(s:Int) by omega,wk,if_neg (by omega)]
  rw[getD_of hx,wkI3]
  have ha:=pr_0 h4
  rw[h1,h2,h3,wkS_skip (by omega),Option.bind_some,wkS_skip (by omega),Option.bind_some,wkS_skip (by omega)]
  rfl
 | .un o a,s,f+1,n,hg,hm,hf,hn=>by
  obtain⟨hp,ha⟩:=hg
  have pa:=a.size_pos
  simp only[E.flat] at hm
  obtain⟨hm1,hm2⟩:=em_app.1 hm
  rw[E.flat_len] at hm2
  have hx:=em_one.1 hm2
  have hlt:s+a.size < NS.length:=(List.getElem?_eq_some_iff.1 hx).1
  simp only[E.size] at hn hf ⊢
  rw[show (((s+(a.size+1):Nat):Int)-1)=((s+a.size:Nat):Int) by omega,wk,if_neg (by omega)]
  rw[getD_of hx,wkI3]
  have har:=pr_ar (o:=o) (by omega)
  rw[hp] at har
  simp only[har]
  rw[wkS_go (l:=rg s a.size) (by omega) (by omega) (wk_e a s f _ ha hm1 (by omega) (by simp;omega)) (by rw[rg_len];simp;omega),Option.bind_some,wkS_skip (by omega),Option.bind_some,wkS_skip (by omega),Option.map_some,List.nil_append,rg_succ]
 | .bin o a b,s,f+1,n,hg,hm,hf,hn=>by
  obtain⟨hp,ha,hb⟩:=hg
  have pa:=a.size_pos
  have pb:=b.size_pos
  simp only[E.flat] at hm
  obtain⟨hm0,hm3⟩:=em_app.1 hm
  obtain⟨hm1,hm2⟩:=em_app.1 hm0
  rw[List.length_append,E.flat_len,E.flat_len] at hm3
  rw[E.flat_len] at hm2
  have hx:=em_one.1 hm3
  have hlt:s+(a.size+b.size) < NS.length:=(List.getElem?_eq_some_iff.1 hx).1
  simp only[E.size] at hn hf ⊢
  rw[show (((s+(a.size+b.size+1):Nat):Int)-1)=((s+(a.size+b.size):Nat):Int) by omega,wk,if_neg (by omega)]
  rw[getD_of hx,wkI3]
  have har:=pr_ar (o:=o) (by omega)
  rw[hp] at har
  simp only[har]
  rw[wkS_go (l:=rg s a.size) (by omega) (by omega) (wk_e a s f _ ha hm1 (by omega) (by simp;omega)) (by rw[rg_len];simp;omega),Option.bind_some,
   wkS_go (l:=rg (s+a.size) b.size) (by omega) (by omega) (wk_e b (s+a.size) f _ hb hm2 (by omega) (by simp[rg_len];omega)) (by simp[rg_len];omega),Option.bind_some,
   wkS_skip (by omega),Option.map_some,List.nil_append,<-rg_add,rg_succ]
 | .tri o a b c,s,f+1,n,hg,hm,hf,hn=>by
  obtain⟨hp,ha,hb,hc⟩:=hg
  have pa:=a.size_pos
  have pb:=b.size_pos
  have pc:=c.size_pos
  simp only[E.flat] at hm
  obtain⟨hm0,hm4⟩:=em_app.1 hm
  obtain⟨hm00,hm3⟩:=em_app.1 hm0
  obtain⟨hm1,hm2⟩:=em_app.1 hm00
  rw[List.length_append,List.length_append,E.flat_len,E.flat_len,E.flat_len] at hm4
  rw[List.length_append,E.flat_len,E.flat_len,<-Nat.add_assoc] at hm3
  rw[E.flat_len] at hm2
  have hx:=em_one.1 hm4
  have hlt:s+(a.size+b.size+c.size) < NS.length:=(List.getElem?_eq_some_iff.1 hx).1
  simp only[E.size] at hn hf ⊢
  rw[show (((s+(a.size+b.size+c.size+1):Nat):Int)-1)=((s+(a.size+b.size+c.size):Nat):Int) by omega,wk,if_neg (by omega)]
  rw[getD_of hx,wkI3]
  have har:=pr_ar (o:=o) (by omega)
  rw[hp] at har
  simp only[har]
  rw[wkS_go (l:=rg s a.size) (by omega) (by omega) (wk_e a s f _ ha hm1 (by omega) (by simp;omega)) (by rw[rg_len];simp;omega),Option.bind_some,
   wkS_go (l:=rg (s+a.size) b.size) (by omega) (by omega) (wk_e b (s+a.size) f _ hb hm2 (by omega) (by simp[rg_len];omega)) (by simp[rg_len];omega),Option.bind_some,
   wkS_go (l:=rg (s+a.size+b.size) c.size) (by omega) (by omega) (wk_e c (s+a.size+b.size) f _ hc hm3 (by omega) (by simp[rg_len];omega)) (by simp[rg_len];omega),Option.map_some,List.nil_append,<-rg_add,Nat.add_assoc s,<-rg_add,rg_succ]
end Go.Proofs.YtngnnijpdjhelaaGreat
namespace Go.Proofs.YtngnnijpdjhelaaGreat
open Lx Pz
set_option linter.unusedVariables false
theorem wkS_inv {sub:Int->Int->Option (List Int)}{root n ar:Int}{i:Nat}{p:Int}{out out':List Int}(h:wkS sub root n ar i p out=some out') :
  (ar<=i/\p=0/\out'=out)\/(¬ar<=i/\∃ m l,sub p m=some l/\out'=out++l):=by
 unfold wkS at h
 split at h
 ·rename_i h1
  split at h
  ·rename_i h2;cases h;exact .inl ⟨h1,h2,rfl⟩
  ·cases h
 ·rename_i h1
  split at h
  ·cases h
  ·split at h
   ·cases h
   ·rename_i l hl
    split at h
    ·cases h
    ·cases h;exact .inr ⟨h1,_,l,hl,rfl⟩
theorem wk_conv {NS:List Nd}{bd:Nat}:∀(f:Nat) (root n:Int) (l:List Int) (s:Nat),wk NS f root n=some l->l=rg s l.length->(∀ z ∈ l,ownP (NS.getD z.toNat n0) bd=true) ->
  ∃ e:E,e.size=l.length/\Gd bd e/\Em NS s (e.flat s)/\root=((s+l.length:Nat):Int)-1
 | 0,root,n,l,s,h,_,_=>by cases h
 | f+1,root,n,l,s,h,hl,ho=>by
  unfold wk at h
  split at h
  ·cases h
  ·rename_i hc
   obtain⟨r,rfl⟩:∃ r:Nat,root=r:=⟨root.toNat,by omega⟩
   have hr:r < NS.length:=by omega
   have hx:NS[r]?=some (NS.getD r n0):=by rw[List.getD_eq_getElem?_getD,List.getElem?_eq_getElem hr];rfl
   rw[Int.toNat_natCast] at h
   generalize hxx:NS.getD r n0=x at *
   rw[wkI3] at h
   cases h1:wkS (wk NS f) r n (arZ x.op) 0 x.a [] with
   | none=>rw[h1] at h;cases h
   | some o1 =>
    rw[h1,Option.bind_some] at h
    cases h2:wkS (wk NS f) r n (arZ x.op) 1 x.b o1 with
    | none=>rw[h2] at h;cases h
    | some o2 =>
     rw[h2,Option.bind_some] at h
     cases h3:wkS (wk NS f) r n (arZ x.op) 2 x.c o2 with
     | none=>rw[h3] at h;cases h
     | some o =>
      rw[h3] at h
      cases h
      obtain⟨ho1,ho2⟩:=rg_split hl.symm
      have hrs:r=s+o.length:=by
       rw[List.length_singleton,rg_one] at ho2
       simp only[List.cons.injEq,and_true] at ho2
       omega
      have hox:=ho (r:Int) (by simp)
      rw[Int.toNat_natCast,hxx] at hox
      simp only[ownP,Bool.and_eq_true,decide_eq_true_eq] at hox
      have h03:=ar_le x.op
      have hoo:∀ z ∈ o,ownP (NS.getD z.toNat n0) bd=true:=fun z hz=>ho z (by simp[hz])
      have fin:∀ st:List E,prZ x.op=st.length->st.length<=3->tkE (bdL st s) x=true->(∀ e ∈ st,Gd bd e)->szL st=o.length->Em NS s (flL st s)->∃ e:E,e.size=(o++[(r:Int)]).length/\Gd bd e/\Em NS s (e.flat s)/\(r:Int)=((s+(o++[(r:Int)]).length:Nat):Int)-1:=by
       intro st hp hs3 ht hg hz hm
       obtain⟨e,he1,he2,he3⟩:=mk_expr (s:=s) hp hs3 hox.2 ht hg
       refine⟨e,by rw[he2,hz,List.length_append];rfl,he3,?_,by rw[List.length_append,List.length_singleton];omega⟩
       rw[he1]
       refine em_app.2 ⟨hm,em_one.2 ?_⟩
       rw[flL_len,hz,<-hrs]
       exact hx
      rcases(show prZ x.op=0\/prZ x.op=1\/prZ x.op=2\/prZ x.op=3 by omega) with hp|hp|hp|hp
      ·have ha:=pr_0 hp
       rcases wkS_inv h1 with⟨-,p1,rfl⟩|⟨q,-⟩
       ·rcases wkS_inv h2 with⟨-,p2,rfl⟩|⟨q,-⟩
        ·rcases wkS_inv h3 with⟨-,p3,rfl⟩|⟨q,-⟩
         ·exact fin [] hp (by simp) (by simp[tkE,bdL,p1,p2,p3]) (by simp) rfl (by simp[flL,Em])
         ·omega
        ·omega
       ·omega
      ·have ha:=pr_ar (o:=x.op) (by omega)
       rcases wkS_inv h1 with⟨q,-⟩|⟨-,m1,l1,hs1,q1⟩
       ·omega
       ·have q1':l1=o1:=q1.symm
        subst q1'
        rcases wkS_inv h2 with⟨-,p2,rfl⟩|⟨q,-⟩
        ·rcases wkS_inv h3 with⟨-,p3,rfl⟩|⟨q,-⟩
         ·obtain⟨e1,z1,g1,m1',r1⟩:=wk_conv f _ _ _ s hs1 ho1 hoo
          exact fin [e1] hp (by simp) (by simp[tkE,bdL,p2,p3,r1,z1]) (by simp[g1]) (by simp[szL,z1]) (by simpa [flL] using m1')
         ·omega
        ·omega
      ·have ha:=pr_ar (o:=x.op) (by omega)
       rcases wkS_inv h1 with⟨q,-⟩|⟨-,m1,l1,hs1,q1⟩
       ·omega
       ·have q1':l1=o1:=q1.symm
        subst q1'
        rcases wkS_inv h2 with⟨q,-⟩|⟨-,m2,l2,hs2,rfl⟩
        ·omega
        ·rcases wkS_inv h3 with⟨-,p3,rfl⟩|⟨q,-⟩
         ·obtain⟨t1,t2⟩:=rg_split ho1.symm
          obtain⟨e1,z1,g1,m1',r1⟩:=wk_conv f _ _ l1 s hs1 t1 (fun z hz=>hoo z (by simp[hz]))
          obtain⟨e2,z2,g2,m2',r2⟩:=wk_conv f _ _ l2 (s+l1.length) hs2 t2 (fun z hz=>hoo z (by simp[hz]))
          refine fin [e1,e2] hp (by simp) (by simp[tkE,bdL,p3,r1,r2,z1,z2]) (by simp[g1,g2]) (by simp[szL,z1,z2]) ?_
          simp only[flL,List.append_nil]
          exact em_app.2 ⟨m1',by rw[E.flat_len,z1];exact m2'⟩
         ·omega
      ·have ha:=pr_ar (o:=x.op) (by omega)
       rcases wkS_inv h1 with⟨q,-⟩|⟨-,m1,l1,hs1,q1⟩
       ·omega
       ·have q1':l1=o1:=q1.symm
        subst q1'
        rcases wkS_inv h2 with⟨q,-⟩|⟨-,m2,l2,hs2,rfl⟩
        ·omega
        ·rcases wkS_inv h3 with⟨q,-⟩|⟨-,m3,l3,hs3,rfl⟩
         ·omega
         ·obtain⟨t12,t3⟩:=rg_split ho1.symm
          obtain⟨t1,t2⟩:=rg_split t12.symm
          rw[List.length_append,<-Nat.add_assoc] at t3
          obtain⟨e1,z1,g1,m1',r1⟩:=wk_conv f _ _ l1 s hs1 t1 (fun z hz=>hoo z (by simp[hz]))
          obtain⟨e2,z2,g2,m2',r2⟩:=wk_conv f _ _ l2 (s+l1.length) hs2 t2 (fun z hz=>hoo z (by simp[hz]))
          obtain⟨e3,z3,g3,m3',r3⟩:=wk_conv f _ _ l3 (s+l1.length+l2.length) hs3 t3 (fun z hz=>hoo z (by simp[hz]))
          refine fin [e1,e2,e3] hp (by simp) (by simp[tkE,bdL,r1,r2,r3,z1,z2,z3]) (by simp[g1,g2,g3]) (by simp[szL,z1,z2,z3]) ?_
          simp only[flL,List.append_nil]
          exact em_app.2 ⟨m1',em_app.2 ⟨by rw[E.flat_len,z1];exact m2',by rw[E.flat_len,E.flat_len,z1,z2];exact m3'⟩⟩
theorem gd_own {bd:Nat}:∀(e:E) (s:Nat),Gd bd e->∀ x ∈ e.flat s,ownP x bd=true
 | .leaf n,s,hg,x,hx=>by
  obtain⟨_,_,_,h4,h5⟩:=hg
  simp[E.flat] at hx
  subst hx
  simp[ownP,h4,h5]
 | .un o a,s,hg,x,hx=>by
  obtain⟨hp,ha⟩:=hg
  simp only[E.flat,List.mem_append,List.mem_singleton] at hx
  rcases hx with hx|rfl
  ·exact gd_own a s ha x hx
  ·simp[ownP,hp,fld_in (show 0 < prZ o by omega)]
 | .bin o a b,s,hg,x,hx=>by
  obtain⟨hp,ha,hb⟩:=hg
  simp only[E.flat,List.mem_append,List.mem_singleton] at hx
  rcases hx with(hx|hx)|rfl
  ·exact gd_own a _ ha x hx
  ·exact gd_own b _ hb x hx
  ·simp[ownP,hp,fld_in (show 0 < prZ o by omega)]
 | .tri o a b c,s,hg,x,hx=>by
  obtain⟨hp,ha,hb,hc⟩:=hg
  simp only[E.flat,List.mem_append,List.mem_singleton] at hx
  rcases hx with((hx|hx)|hx)|rfl
  ·exact gd_own a _ ha x hx
  ·exact gd_own b _ hb x hx
  ·exact gd_own c _ hc x hx
  ·simp[ownP,hp,fld_in (show 0 < prZ o by omega)]
def sl1 (NS:List Nd)(bd s:Nat)(root:Int):Option Nat :=
 match wk NS (root.toNat+1) root 1024 with
 | none=>none
 | some l=>if l=rg s l.length/\(l.all fun z=>ownP (NS.getD z.toNat n0) bd)=true then some l.length else none
theorem sl1_iff {NS:List Nd}(hN:NS.length<=1024){bd s k:Nat}{root:Int}:sl1 NS bd s root=some k↔∃ e:E,e.size=k/\Gd bd e/\Em NS s (e.flat s)/\root=((s+k:Nat):Int)-1:=by
 unfold sl1
 constructor
 ·intro h
  split at h
  ·cases h
  ·rename_i l hl
   split at h
   ·rename_i hc
    cases h
    exact wk_conv _ _ _ l s hl hc.1 (by simpa [List.all_eq_true] using hc.2)
   ·cases h
 ·rintro⟨e,rfl,hg,hm,rfl⟩
  have pe:=e.size_pos
  have hle:=em_le hm (by rw[E.flat_len];exact pe)
  rw[E.flat_len] at hle
  rw[wk_e e s _ 1024 hg hm (by omega) (by omega)]
  simp only[rg_len]
  rw[if_pos]
  refine⟨by trivial,?_⟩
  rw[List.all_eq_true]
  intro z hz
  obtain⟨i,h1,h2,rfl⟩:=rg_mem hz
  refine gd_own e s hg _ ?_
  have h3:(e.flat s)[i-s]?=NS[i]?:=by
   have h4:(NS.drop s).take (e.flat s).length=e.flat s:=hm
   rw[<-h4,List.getElem?_take_of_lt (by rw[E.flat_len];omega),List.getElem?_drop,show s+(i-s)=i by omega]
  rw[Int.toNat_natCast,List.getD_eq_getElem?_getD,List.getElem?_eq_getElem (show i < NS.length by omega)]
  rw[List.getElem?_eq_getElem (show i < NS.length by omega)] at h3
  exact List.mem_of_getElem? h3
def slp (NS:List Nd):List Int->Nat->Nat->Option Nat
 | [],i,s=>some s
 | r::rs,i,s=>(sl1 NS i s r).bind fun k=>slp NS rs (i+1) (s+k)
theorem slp_iff {NS:List Nd}(hN:NS.length<=1024):∀(rs:List Int) (i s t:Nat),slp NS rs i s=some t↔∃ es:List E,bdL es s=rs/\Em NS s (flL es s)/\t=s+szL es/\∀ j e,es[j]?=some e->Gd (i+j) e
 | [],i,s,t=>by
  constructor
  ·intro h;cases h;exact⟨[],rfl,by simp[flL,Em],rfl,by intro j e h;simp at h⟩
  ·rintro⟨es,h1,h2,h3,h4⟩
   have:es=[]:=List.length_eq_zero_iff.1 (by rw[<-bdL_len es s,h1];rfl)
   subst this
   rw[h3];rfl
 | r::rs,i,s,t=>by
  simp only[slp]
  constructor
  ·intro h
   cases hs:sl1 NS i s r with
   | none=>rw[hs] at h;cases h
   | some k =>
    rw[hs] at h
    obtain⟨e,rfl,hg,hm,hr⟩:=(sl1_iff hN).1 hs
    obtain⟨es,h1,h2,h3,h4⟩:=(slp_iff hN rs (i+1) (s+e.size) t).1 h
    refine⟨e::es,by simp[bdL,h1,hr],?_,by rw[h3,szL];omega,?_⟩
    ·simp only[flL]
     exact em_app.2 ⟨hm,by rw[E.flat_len];exact h2⟩
    ·intro j e' he
     cases j with
     | zero=>cases he;exact hg
     | succ j=>have:=h4 j e' he;rwa[show i+1+j=i+(j+1) by omega] at this
  ·rintro⟨es,h1,h2,h3,h4⟩
   cases es with
   | nil=>cases h1
   | cons e es =>
    simp only[bdL,List.cons.injEq] at h1
    simp only[flL] at h2
    obtain⟨hm1,hm2⟩:=em_app.1 h2
    rw[E.flat_len] at hm2
    rw[(sl1_iff (bd:=i) hN).2 ⟨e,rfl,h4 0 e rfl,hm1,h1.1.symm⟩,Option.bind_some]
    refine(slp_iff hN rs (i+1) (s+e.size) t).2 ⟨es,h1.2,hm2,by rw[h3,szL];omega,?_⟩
    intro j e' he
    have:=h4 (j+1) e' he
    rwa[show i+(j+1)=i+1+j by omega] at this
theorem slp_good {NS:List Nd}{BS:List Int}{root:Int}(hN:NS.length<=1024)(hr:root=(NS.length:Int)-1):slp NS (BS++[root]) 0 0=some NS.length↔Good BS NS:=by
 rw[slp_iff hN]
 constructor
 ·rintro⟨es,h1,h2,h3,h4⟩
  obtain⟨s1,s2,rfl,ha,hb⟩:=bdL_split h1
  have hl2:s2.length=1:=by rw[<-bdL_len s2 (0+szL s1),hb];rfl
  match s2,hl2 with
  | [ex],_ =>
   have hNS:=em_all h2 (by rw[flL_len];omega)
   rw[flL_app,Nat.zero_add] at hNS
   refine⟨s1,ex,by simpa [flL] using hNS,ha.symm,?_,?_⟩
   ·intro j e he
    have hj:j < s1.length:=(List.getElem?_eq_some_iff.1 he).1
    have:=h4 j e (by rw[List.getElem?_append_left hj];exact he)
    rwa[Nat.zero_add] at this
   ·have:=h4 s1.length ex (by rw[List.getElem?_append_right (Nat.le_refl _)];simp)
    rwa[Nat.zero_add] at this
 ·rintro⟨es,ex,h1,h2,h3,h4⟩
  have hl:NS.length=szL es+ex.size:=by rw[h1,List.length_append,flL_len,E.flat_len]
  refine⟨es++[ex],?_,?_,by rw[szL_app,hl];simp[szL],?_⟩
  ·rw[bdL_app,<-h2,hr,hl]
   simp[bdL]
  ·rw[flL_app,Nat.zero_add]
   simp only[flL,List.append_nil]
   rw[<-h1]
   exact em_self NS
  ·intro j e he
   rw[Nat.zero_add]
   by_cases hj:j < es.length
   ·rw[List.getElem?_append_left hj] at he;exact h3 j e he
   ·rw[List.getElem?_append_right (by omega)] at he
    have hj0:j-es.length=0:=by
     cases hh:j-es.length with
     | zero=>rfl
     | succ m=>rw[hh] at he;simp at he
    rw[hj0] at he
    cases he
    rw[show j=es.length by omega]
    exact h4
end Go.Proofs.YtngnnijpdjhelaaGreat
namespace Go.Proofs.YtngnnijpdjhelaaGreat
open Lx Pz
set_option linter.unusedVariables false
theorem slp_snoc (NS:List Nd)(r:Int):∀(A:List Int) (i s:Nat),slp NS (A++[r]) i s=(slp NS A i s).bind fun t=>(sl1 NS (i+A.length) t r).bind fun k=>some (t+k)
 | [],i,s=>by simp only[List.nil_append,slp,Option.bind_some,List.length_nil,Nat.add_zero]
 | a::A,i,s=>by
  simp only[List.cons_append,slp,List.length_cons]
  cases sl1 NS i s a with
  | none=>rfl
  | some k =>
   simp only[Option.bind_some]
   rw[slp_snoc NS r A (i+1) (s+k),show i+1+A.length=i+(A.length+1) by omega]
theorem slp_succ {NS:List Nd}{RS:List Int}{k s:Nat}(hk:k < RS.length)(h:slp NS (RS.take k) 0 0=some s):slp NS (RS.take (k+1)) 0 0=(sl1 NS k s (RS.getD k 0)).bind fun m=>some (s+m):=by
 rw[List.take_succ_eq_append_getElem hk,slp_snoc,h,List.length_take,Nat.min_eq_left (by omega),Nat.zero_add,List.getD_eq_getElem?_getD,List.getElem?_eq_getElem hk]
 rfl
theorem slp_none {NS:List Nd}:∀(A B:List Int) (i s:Nat),slp NS A i s=none->slp NS (A++B) i s=none
 | [],B,i,s,h=>by cases h
 | a::A,B,i,s,h=>by
  simp only[List.cons_append,slp] at h ⊢
  cases hs:sl1 NS i s a with
  | none=>rfl
  | some k=>rw[hs] at h;exact slp_none A B _ _ h
theorem slp_pre {NS:List Nd}{RS:List Int}{k:Nat}(h:slp NS (RS.take k) 0 0=none):slp NS RS 0 0=none:=by
 have:=slp_none _ (RS.drop k) 0 0 h
 rwa[List.take_append_drop] at this
theorem slp_le {NS:List Nd}(hN:NS.length<=1024){A:List Int}{s:Nat}(h:slp NS A 0 0=some s):s<=NS.length:=by
 obtain⟨es,h1,h2,h3,-⟩:=(slp_iff hN A 0 0 s).1 h
 by_cases h0:0 < (flL es 0).length
 ·have:=em_le h2 h0
  rw[flL_len] at this
  omega
 ·rw[flL_len] at h0
  omega
theorem szL_ge:∀ es:List E,es.length<=szL es
 | []=>Nat.le_refl _
 | a::es=>by
  have:=szL_ge es
  have:=a.size_pos
  simp only[List.length_cons,szL]
  omega
theorem slp_cnt {NS:List Nd}(hN:NS.length<=1024){A:List Int}{s:Nat}(h:slp NS A 0 0=some s):A.length<=s:=by
 obtain⟨es,h1,h2,h3,-⟩:=(slp_iff hN A 0 0 s).1 h
 have:=szL_ge es
 rw[<-h1,bdL_len]
 omega
theorem wk_mem {NS:List Nd}:∀(f:Nat) (root n:Int) (l:List Int),wk NS f root n=some l->∀ z ∈ l,0<=z/\z < NS.length
 | 0,root,n,l,h=>by cases h
 | f+1,root,n,l,h=>by
  unfold wk at h
  split at h
  ·cases h
  ·rename_i hc
   have key:∀(i:Nat) (o:List Int),wkI (wk NS f) root n (NS.getD root.toNat n0) i=some o->∀ z ∈ o,0<=z/\z < (NS.length:Int):=by
    intro i
    induction i with
    | zero=>intro o ho;cases ho;simp
    | succ i ih =>
     intro o ho
     simp only[wkI] at ho
     cases hs:wkI (wk NS f) root n (NS.getD root.toNat n0) i with
     | none=>rw[hs] at ho;cases ho
     | some o1 =>
      rw[hs] at ho
      rcases wkS_inv ho with⟨-,-,rfl⟩|⟨-,m,l1,hl1,rfl⟩
      ·exact ih o hs
      ·intro z hz
       rcases List.mem_append.1 hz with hz|hz
       ·exact ih o1 hs z hz
       ·exact wk_mem f _ _ l1 hl1 z hz
   cases hs:wkI (wk NS f) root n (NS.getD root.toNat n0) 3 with
   | none=>rw[hs] at h;cases h
   | some o =>
    rw[hs] at h
    cases h
    intro z hz
    rcases List.mem_append.1 hz with hz|hz
    ·exact key 3 o hs z hz
    ·simp at hz;subst hz;omega
theorem sl1_wk {NS:List Nd}{bd s:Nat}{root:Int}{l:List Int}(h:wk NS (root.toNat+1) root 1024=some l):sl1 NS bd s root=if l=rg s l.length/\(l.all fun z=>ownP (NS.getD z.toNat n0) bd)=true then some l.length else none:=by
 unfold sl1;rw[h]
theorem sl1_no {NS:List Nd}{bd s:Nat}{root:Int}(h:wk NS (root.toNat+1) root 1024=none):sl1 NS bd s root=none:=by
 unfold sl1;rw[h]
theorem sl1_bad {NS:List Nd}{bd s k:Nat}{root:Int}{l:List Int}(h:wk NS (root.toNat+1) root 1024=some l)(hk:k < l.length)(hb:¬(l.getD k 0=(s:Int)+k/\ownP (NS.getD (l.getD k 0).toNat n0) bd=true)):sl1 NS bd s root=none:=by
 rw[sl1_wk h,if_neg]
 rintro⟨h1,h2⟩
 have hg:l.getD k 0=l[k]:=by rw[List.getD_eq_getElem?_getD,List.getElem?_eq_getElem hk];rfl
 refine hb ⟨?_,?_⟩
 ·rw[h1]
  simp only[rg,List.getD_eq_getElem?_getD,List.getElem?_map,List.getElem?_range',hk]
  simp
 ·rw[hg];exact List.all_eq_true.1 h2 _ (List.getElem_mem hk)
theorem rg_pre {l:List Int}{s:Nat}(h:∀ j,j < l.length->l.getD j 0=(s:Int)+j):l=rg s l.length:=by
 apply List.ext_getElem
 ·rw[rg_len]
 ·intro j h1 h2
  have:=h j h1
  rw[List.getD_eq_getElem?_getD,List.getElem?_eq_getElem h1] at this
  simp only[Option.getD_some] at this
  rw[this]
  simp[rg]
theorem sl1_ok {NS:List Nd}{bd s:Nat}{root:Int}{l:List Int}(h:wk NS (root.toNat+1) root 1024=some l)(hb:∀ j,j < l.length->l.getD j 0=(s:Int)+j/\ownP (NS.getD (l.getD j 0).toNat n0) bd=true):sl1 NS bd s root=some l.length:=by
 rw[sl1_wk h,if_pos]
 refine⟨rg_pre fun j hj=>(hb j hj).1,?_⟩
 rw[List.all_eq_true]
 intro z hz
 obtain⟨j,hj,rfl⟩:=List.mem_iff_getElem.1 hz
 have:=(hb j hj).2
 have hg:l.getD j 0=l[j]:=by rw[List.getD_eq_getElem?_getD,List.getElem?_eq_getElem hj];rfl
 rwa[hg] at this
def sndP (NM:List Txt)(BS:List Int)(NS:List Nd)(root:Int):Bool :=
 NM.length==BS.length&&(decide (NS.length<=1024)&&(root==(NS.length:Int)-1&&(nmB NM&&(slp NS (BS++[root]) 0 0==some NS.length))))
theorem snd_chk (NM:List Txt)(BS:List Int)(NS:List Nd)(root:Int):sndP NM BS NS root=chkP NM BS NS root:=by
 rw[Bool.eq_iff_iff]
 simp only[sndP,chkP,endsP,wthn,Bool.and_eq_true,beq_iff_eq,decide_eq_true_eq,ord_good]
 constructor
 ·rintro⟨h1,h2,h3,h4,h5⟩
  have hg:=(slp_good h2 h3).1 h5
  refine⟨h1,⟨⟨?_,by omega⟩,h3⟩,hg,h4⟩
  obtain⟨es,ex,hn,-⟩:=hg
  have:=ex.size_pos
  rw[hn,List.length_append,flL_len,E.flat_len]
  omega
 ·rintro⟨h1,⟨⟨h2,h2'⟩,h3⟩,h4,h5⟩
  exact⟨h1,by omega,h3,h5,(slp_good (by omega) h3).2 h4⟩
end Go.Proofs.YtngnnijpdjhelaaGreat
namespace Go.Proofs.YtngnnijpdjhelaaGreat
open Go.RowKit Go.IntWalk Lx Pz
set_option linter.unusedVariables false
set_option maxRecDepth 100000
set_option maxHeartbeats 16000000
theorem own_iff (x:Nd)(bd:Int):ownP x bd=true↔((x.op=3/\(x.co=2\/(x.co=1/\x.y=0))/\x.k=0/\0<=x.back/\x.back<=2147483647/\-2147483647<=x.x/\x.x<=2147483647/\-2147483647<=x.y/\x.y<=2147483647) \/
  (x.op≠3/\x.back=0/\x.co=0/\x.x=0/\x.y=0/\((x.op=1/\0<=x.k/\x.k<=2147483647)\/(x.op=2/\0<=x.k/\x.k<=5)\/(x.op=4/\0<=x.k/\x.k<=bd-1)\/(4 < x.op/\x.op<=28/\x.k=0)))):=by
 have hpr:0<=prZ x.op↔(1<=x.op/\x.op<=28):=by
  unfold prZ arZ
  repeat' split
  all_goals omega
 unfold ownP
 rw[Bool.and_eq_true,decide_eq_true_eq,hpr]
 unfold fldP
 split
 ·rename_i h3
  simp only[mayP,wthn,MX,Bool.and_eq_true,Bool.or_eq_true,beq_iff_eq,decide_eq_true_eq]
  omega
 ·rename_i h3
  simp only[plc0,wthn,mostZ,MX,Bool.and_eq_true,beq_iff_eq,decide_eq_true_eq]
  repeat' split
  all_goals omega
theorem own_any (n:Nd)(bd:Int)(W:World):Calls Tryz.prog 80 #[.agg (ndA n),.int .i64 bd] W fun e W'=>e=.returned (.bool (ownP n bd))/\Below W.heap.size W W':=by
 obtain⟨op,a,b,c,k,back,co,x,y⟩:=n
 go_enter Tryz.func80,Tryz.ntmps80
 go_wp2_with fail
 all_goals
  go_ret
  refine⟨ret_bool ?_,by first|exact bel1 _ _|exact bel (bel1 _ _) (bel1 _ _)⟩
  rw[Bool.eq_iff_iff,own_iff]
  simp only[bne_iff_ne,ne_eq,beq_iff_eq,decide_eq_true_eq,bne_eq_false_iff_eq,beq_eq_false_iff_ne,reduceCtorEq,false_iff] at *
  omega
end Go.Proofs.YtngnnijpdjhelaaGreat
