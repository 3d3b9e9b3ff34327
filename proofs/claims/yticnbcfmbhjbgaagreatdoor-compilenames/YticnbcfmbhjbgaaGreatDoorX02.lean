import Derived.Test.YticnbcfmbhjbgaaGreatDoorXH
import Derived.Orders
import Derived.Tactics
import Derived.Test.YticnbcfmbhjbgaaGreatDoorX00
set_option maxRecDepth 100000
set_option maxHeartbeats 32000000
set_option linter.unusedVariables false
namespace Go.Proofs.YticnbcfmbhjbgaaGreatDoor
def cnt (n:Nat)(l:Array Bool):Nat:=((List.range n).filter fun j=>!l.getD j true).length
theorem lU (n:Nat)(l:Array Bool):cnt (n+1) l=cnt n l+(if l.getD n true=false then 1 else 0):=by
 unfold cnt
 rw[List.range_succ,List.filter_append,lLa]
 congr 1
 cases h:l.getD n true with
 | true=>rw[List.filter_cons_of_neg (by rw[h];decide)];rfl
 | false=>rw[List.filter_cons_of_pos (by rw[h];rfl)];rfl
theorem aD9 (l:Array Bool)(i j:Nat):(l.setIfInBounds i true).getD j true=if j=i then true else l.getD j true:=by
 simp only[Array.getD_eq_getD_getElem?,Array.getElem?_setIfInBounds]
 by_cases h:i=j
 ·subst h
  rw[if_pos rfl,if_pos rfl]
  split <;> rfl
 ·rw[if_neg h,if_neg (fun e=>h e.symm)]
theorem aHv (l:Array Bool)(i:Nat):∀ n,n<=i->cnt n (l.setIfInBounds i true)=cnt n l
 | 0,_=>rfl
 | n+1,h=>by
  have hne:¬n=i:=by omega
  rw[lU,lU,aHv l i n (by omega),aD9,if_neg hne]
theorem aHw (l:Array Bool)(i:Nat)(h:l.getD i true=false):∀ n,i < n->cnt n (l.setIfInBounds i true)+1=cnt n l
 | 0,hn=>by omega
 | n+1,hn=>by
  rw[lU,lU,aD9]
  by_cases e:i=n
  ·subst e
   rw[aHv l i i (nLr _),if_pos rfl,if_pos h]
   rfl
  ·have:=aHw l i h n (by omega)
   have hne:¬n=i:=fun e'=>e e'.symm
   rw[if_neg hne]
   omega
theorem aL8 {n:Nat}{l:Array Bool}(h:cnt n l=0):∀ j,j < n->l.getD j true=true:=by
 intro j hj
 unfold cnt at h
 have h2:=List.length_eq_zero_iff.1 h
 rw[List.filter_eq_nil_iff] at h2
 have:=h2 j (List.mem_range.2 hj)
 simpa using this
theorem aJr (n:Nat):cnt n (Array.replicate n false)<=n:=by
 unfold cnt
 refine Nat.le_trans (List.length_filter_le _ _) ?_
 simp
theorem uO {md:Region.Mode}{ops:Array Oper}{listed:Array Bool}{i:Nat}(h:i ∈ Region.ready md ops listed):i < ops.size/\listed.getD i true=false/\∃ o,ops[i]?=some o/\∀ e ∈ o.after,Region.binds md e=true->listed.getD e.on false=true:=by
 unfold Region.ready at h
 rw[List.mem_filter,List.mem_range] at h
 obtain⟨h1,h2⟩:=h
 rw[bAt] at h2
 refine⟨h1,by simpa using h2.1,?_⟩
 cases ho:ops[i]? with
 | none=>rw[ho] at h2;simp at h2
 | some o =>
  refine⟨o,rfl,?_⟩
  rw[ho] at h2
  have h3:=h2.2
  simp only[Option.map_some,oGs,Array.all_eq_true] at h3
  intro e he hb
  obtain⟨k,hk,rfl⟩:=Array.mem_iff_getElem.1 he
  have:=h3 k hk
  rw[hb] at this
  simpa using this
theorem aAd {P:Program}{ops:Array Oper}{Q:Exit->Act->World->Prop}{id:Nat}{a:Act}{w:World}(hm:P.follows .mixedOrders=true)(I:Array Bool->Act->World->Prop)
  (h0:I (Array.replicate ops.size false) a { w with drawn:=w.drawn+1 })
  (hs:∀ listed a w i,I listed a w->i ∈ Region.ready .any ops listed->wpOp P ops Q i (I (listed.setIfInBounds i true)) a w)
  (he:∀ listed a w,I listed a w->Region.ready .any ops listed=[]->Q .normal a w):(Code.region id ops true).wp P Q a w:=by
 refine wp_region_any hm ?_
 have key:∀(fuel:Nat) (listed:Array Bool) (a:Act) (w:World),cnt ops.size listed<=fuel->I listed a w->wpAny P .any ops Q fuel listed a w:=by
  intro fuel
  induction fuel with
  | zero =>
   intro listed a w hc hI
   have hr:Region.ready .any ops listed=[]:=by
    rw[List.eq_nil_iff_forall_not_mem]
    intro i hi
    obtain⟨h1,h2,-⟩:=uO hi
    have:=aL8 (show cnt ops.size listed=0 by omega) i h1
    rw[this] at h2
    cases h2
   exact⟨hr,he listed a w hI hr⟩
  | succ fuel ih =>
   intro listed a w hc hI
   refine⟨fun hr=>he listed a w hI hr,fun i hi=>?_⟩
   obtain⟨h1,h2,-⟩:=uO hi
   have:=aHw listed i h2 ops.size h1
   exact wpOp_mono (fun a' w' h'=>ih _ a' w' (by omega) h') (hs listed a w i hI hi)
 exact key _ _ _ _ (aJr _) h0
end Go.Proofs.YticnbcfmbhjbgaaGreatDoor
namespace Go.Proofs.YticnbcfmbhjbgaaGreatDoor
theorem aK7 {P:Program}{ops:Array Oper}{Q:Exit->Act->World->Prop}{i:Nat}{o:Oper}{K:Act->World->Prop}{a:Act}{w:World}(ho:ops[i]?=some o)
  (h:∀ Q':Exit->Act->World->Prop,(∀ a w,K a w->Q' .normal a w)->(∀ e a w,e≠.normal->Q e a w->Q' e a w)->wpList P ops Q' [o] a w):wpOp P ops Q i K a w:=by
 have h1:=h (fun e a w=>(e=.normal/\K a w)\/(e≠.normal/\Q e a w)) (fun a w hk=>.inl ⟨rfl,hk⟩) (fun e a w he hq=>.inr ⟨he,hq⟩)
 unfold wpOp
 rw[ho]
 unfold wpList at h1
 have hn:∀ a w,wpList P ops (fun e a w=>(e=.normal/\K a w)\/(e≠.normal/\Q e a w)) [] a w->K a w:=by
  intro a w hh
  rcases hh with⟨-,hk⟩|⟨hne,-⟩
  ·exact hk
  ·exact absurd rfl hne
 have hl:LetsOut (fun e a w=>(e=.normal/\K a w)\/(e≠.normal/\Q e a w))->LetsOut Q:=by
  rintro⟨a,w,hh⟩
  rcases hh with⟨he,-⟩|⟨-,hq⟩
  ·cases he
  ·exact⟨a,w,hq⟩
 show if _ then _ else _
 split
 ·rename_i hw
  rw[if_pos hw] at h1
  rcases h1 with h1|⟨h1,h2⟩
  ·refine .inl ?_
   unfold Oper.wp at *
   generalize (execOp a.eval o).run P w=r at *
   cases r with
   | ok n w' =>
    cases n with
    | value v=>exact hn _ _ h1
    | skip=>exact hn _ _ h1
    | defer d=>exact hn _ _ h1
    | enter f args =>
     refine Calls.mono h1 fun e w'' he=>?_
     cases e with
     | returned v=>exact hn _ _ he
     | panicked c =>
      rcases he with⟨he,-⟩|⟨-,hq⟩
      ·cases he
      ·exact hq
     | outgrown=>exact hl he
    | row r args=>exact Rows.mono h1 fun _ _ he=>hn _ _ he
    | _=>exact h1
   | halt x w' =>
    cases x with
    | panic v =>
     rcases h1 with⟨he,-⟩|⟨-,hq⟩
     ·cases he
     ·exact hq
    | _=>exact h1
  ·exact .inr ⟨h1,hl h2⟩
 ·rename_i hw
  rw[if_neg hw] at h1
  exact hn _ _ h1
theorem vR {P:Program}{ops:Array Oper}{Q:Exit->Act->World->Prop}{id:Nat}{a:Act}{w:World}(hm:P.follows .mixedOrders=true)
  (hord:∀(i:Nat) (o:Oper),ops[i]?=some o->∀ e ∈ o.after,e.on < i) (I:(Nat->Bool)->Act->World->Prop)
  (h0:I (fun _=>false) a { w with drawn:=w.drawn+1 })
  (hs:∀ d a w i o,I d a w->d i=false->ops[i]?=some o->(∀ e ∈ o.after,Region.binds .any e=true->d e.on=true)->∀ Q':Exit->Act->World->Prop,(∀ a w,I (fun j=>j==i || d j) a w->Q' .normal a w)->wpList P ops Q' [o] a w)
  (he:∀ d a w,I d a w->(∀ i,i < ops.size->d i=true)->Q .normal a w):(Code.region id ops true).wp P Q a w:=by
 refine aAd hm (fun listed a w=>listed.size=ops.size/\I (fun j=>listed.getD j false) a w) ⟨by simp,?_⟩ ?_ ?_
 ·have:(fun j=>(Array.replicate ops.size false).getD j false)=fun _=>false:=by
   funext j
   simp only[Array.getD_eq_getD_getElem?,Array.getElem?_replicate]
   split <;> rfl
  rw[this]
  exact h0
 ·rintro listed a w i ⟨hsz,hI⟩ hi
  obtain⟨h1,h2,o,ho,h3⟩:=uO hi
  refine aK7 ho fun Q' hk _=>?_
  refine hs _ a w i o hI ?_ ho h3 Q' fun a w hI'=>hk a w ⟨by simp[hsz],?_⟩
  ·have hlt:i < listed.size:=by omega
   simpa [Array.getD_eq_getD_getElem?,hlt] using h2
  ·have:(fun j=>(listed.setIfInBounds i true).getD j false)=fun j=>j==i || listed.getD j false:=by
    funext j
    simp only[Array.getD_eq_getD_getElem?,Array.getElem?_setIfInBounds]
    by_cases hj:i=j
    ·subst hj
     have hlt:i < listed.size:=by omega
     simp[hlt]
    ·have:(j==i)=false:=by simpa using fun e=>hj e.symm
     rw[if_neg hj,this]
     simp
   rw[this]
   exact hI'
 ·rintro listed a w ⟨hsz,hI⟩ hr
  refine he _ a w hI ?_
  intro i
  induction i using Nat.strongRecOn with
  | _ i ih =>
   intro hi
   cases hd:listed.getD i false with
   | true=>rfl
   | false =>
    exfalso
    have hm':i ∈ Region.ready .any ops listed:=by
     unfold Region.ready
     rw[List.mem_filter,List.mem_range]
     refine⟨hi,?_⟩
     have hlt:i < listed.size:=by omega
     have e1:listed.getD i true=false:=by
      simpa [Array.getD_eq_getD_getElem?,hlt] using hd
     rw[e1]
     obtain⟨o,ho⟩:∃ o,ops[i]?=some o:=⟨ops[i],Array.getElem?_eq_getElem hi⟩
     rw[ho]
     simp only[Option.map_some,oGs,Bool.not_false,Bool.true_and,Array.all_eq_true]
     intro k hk
     have hlt2:=hord i o ho o.after[k] (Array.getElem_mem hk)
     have:=ih o.after[k].on hlt2 (by omega)
     rw[this]
     simp
    rw[hr] at hm'
    cases hm'
theorem aWy {ops:Array Oper}(h:(ops.toList.zipIdx.all fun x=>x.1.after.all fun e=>decide (e.on < x.2))=true):∀(i:Nat) (o:Oper),ops[i]?=some o->∀ e ∈ o.after,e.on < i:=by
 intro i o ho e he
 rw[lAe] at h
 have h1:=h (o,i) (by
  rw[List.mem_zipIdx_iff_getElem?]
  simpa using ho)
 rw[Array.all_eq_true] at h1
 obtain⟨k,hk,rfl⟩:=Array.mem_iff_getElem.1 he
 simpa using h1 k hk
end Go.Proofs.YticnbcfmbhjbgaaGreatDoor
