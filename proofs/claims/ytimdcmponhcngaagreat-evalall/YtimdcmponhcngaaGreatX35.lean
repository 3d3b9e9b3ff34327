import Derived.Test.YtimdcmponhcngaaGreatX24
namespace Go.Proofs.YtimdcmponhcngaaGreat.Spn
open Go.RowKit Go.IntWalk
set_option linter.unusedVariables false
set_option maxRecDepth 100000
set_option maxHeartbeats 16000000
def Sub:List (Int × Int)->List (Int × Int)->Prop
 | [],[]=>True
 | q::L',p::L=>(p.1<=q.1/\q.1<=q.2/\q.2<=p.2)/\Sub L' L
 | _,_=>False
def Within (Z:(Int × Int) × Int)(lo hi:Int):Prop:=∃ lo' hi',Z=((lo',hi'),0)/\lo<=lo'/\lo'<=hi'/\hi'<=hi
theorem grow_corn {f:Int->Int->Int × Int}{a b c d lo hi a' b' c' d':Int}(hlo:-9223372036854775808<=lo/\lo<=9223372036854775807)(hhi:-9223372036854775808<=hi/\hi<=9223372036854775807)
  (H:∀ x y,a<=x->x<=b->c<=y->y<=d->∃ v,f x y=(v,0)/\lo<=v/\v<=hi) (h1:a<=a') (h2:a'<=b') (h3:b'<=b) (h4:c<=c') (h5:c'<=d') (h6:d'<=d):Within (cornZ f a' b' c' d') lo hi:=by
 obtain⟨v1,e1,l1,u1⟩:=H a' c' h1 (by omega) h4 (by omega)
 obtain⟨v2,e2,l2,u2⟩:=H a' d' h1 (by omega) (by omega) h6
 obtain⟨v3,e3,l3,u3⟩:=H b' c' (by omega) h3 h4 (by omega)
 obtain⟨v4,e4,l4,u4⟩:=H b' d' (by omega) h3 (by omega) h6
 refine⟨_,_,cornZ_mk (by rw[e1]) (by rw[e2]) (by rw[e3]) (by rw[e4]),?_⟩
 rw[e1,e2,e3,e4]
 simp only
 omega
theorem val_of {op k s lo hi:Int}{L:List (Int × Int)}{xs:List Int}(hm:smayB op k s L=true)(hr:reckZ op k s L=((lo,hi),0))(hw:whB lo hi=true)(h:Ins xs L):∃ v,valZ op k s xs=(v,0)/\lo<=v/\v<=hi:=by
 obtain⟨h1,h2,h3,h4⟩:=holds_ex hm hr h
 have g:=whB_iff.1 hw
 refine⟨_,?_,h3,h4⟩
 rw[val_fnE h1]
 exact fnE_mk h2 (wd_iff.2 (by omega))
theorem sub_ins:∀ {L' L:List (Int × Int)},Sub L' L->Ins (fsts L') L/\Ins (snds L') L/\Ins (fsts L') L'
 | [],[],_=>⟨trivial,trivial,trivial⟩
 | q::L',p::L,h=>by
  obtain⟨⟨h1,h2,h3⟩,ht⟩:=h
  obtain⟨i1,i2,i3⟩:=sub_ins ht
  exact⟨⟨⟨h1,Int.le_trans h2 h3⟩,i1⟩,⟨⟨Int.le_trans h1 h2,h3⟩,i2⟩,⟨⟨Int.le_refl _,h2⟩,i3⟩⟩
 | [],_::_,h=>h.elim
 | _::_,[],h=>h.elim
theorem sub_len:∀ {L' L:List (Int × Int)},Sub L' L->L'.length=L.length
 | [],[],_=>rfl
 | _::_,_::_,h=>by simp[sub_len h.2]
 | [],_::_,h=>h.elim
 | _::_,[],h=>h.elim
theorem sub_wh:∀ {L' L:List (Int × Int)},Sub L' L->(∀ p ∈ L,whB p.1 p.2=true)->∀ q ∈ L',whB q.1 q.2=true
 | [],[],_,_,q,hq=>by simp at hq
 | q0::L',p::L,h,hp,q,hq=>by
  obtain⟨⟨h1,h2,h3⟩,ht⟩:=h
  rcases List.mem_cons.1 hq with rfl|hq
  ·have:=whB_iff.1 (hp p (by simp))
   exact whB_iff.2 (by omega)
  ·exact sub_wh ht (fun r hr=>hp r (by simp[hr])) q hq
 | [],_::_,h,_,_,_=>h.elim
 | _::_,[],h,_,_,_=>h.elim
theorem sub_may {op k s:Int}{L' L:List (Int × Int)}(h:Sub L' L)(hm:smayB op k s L=true):smayB op k s L'=true:=by
 obtain⟨m2,m1,m3,m4,m5⟩:=smay_inv hm
 simp only[smayB,Bool.and_eq_true,decide_eq_true_eq,List.all_eq_true]
 exact⟨⟨⟨m1,by rw[sub_len h];exact m2⟩,m3⟩,fun q hq=>sub_wh h m4 q hq⟩
theorem grow_ends {op k s lo hi:Int}{L' L:List (Int × Int)}(hop:op=7\/op=24\/op=25\/op=26\/op=27\/op=29\/op=30\/op=33)(hm:smayB op k s L=true)(hr:reckZ op k s L=((lo,hi),0))(hw:whB lo hi=true)(hs:Sub L' L) :
  Within (reckZ op k s L') lo hi:=by
 obtain⟨i1,i2,i3⟩:=sub_ins hs
 obtain⟨v1,e1,l1,u1⟩:=val_of hm hr hw i1
 obtain⟨v2,e2,l2,u2⟩:=val_of hm hr hw i2
 have e:reckZ op k s L'=((v1,v2),0):=by
  rw[rk_ends hop,endsZ_mk (by rw[e1]) (by rw[e2]),e1,e2]
 have h3:=holds_ex (sub_may hs hm) e i3
 have h4:=val_fnE h3.1
 rw[e1] at h4
 have h5:=fnE_ok (E:=ex op k s ((fsts L').getD 0 0) ((fsts L').getD 1 0) ((fsts L').getD 2 0)) (by rw[<-h4])
 rw[<-h4] at h5
 refine⟨v1,v2,e,l1,?_,u2⟩
 have:v1=_:=h5.2.2
 omega
theorem grow_both {a b c d a' b' c' d':Int}(hw:whB a b=true)(hw':whB c d=true)(h1:a<=a')(h2:a'<=b')(h3:b'<=b)(h4:c<=c')(h5:c'<=d')(h6:d'<=d) :
  (bothZ a b c d).1<=(bothZ a' b' c' d').1/\(bothZ a' b' c' d').1<=(bothZ a' b' c' d').2/\(bothZ a' b' c' d').2<=(bothZ a b c d).2:=by
 obtain⟨hab,A1,A2,B1,B2⟩:=whB_iff.1 hw
 obtain⟨hcd,C1,C2,D1,D2⟩:=whB_iff.1 hw'
 have hP:=arP_has (a:=a) (b:=b) (c:=c) (d:=d) ⟨A1,A2⟩ ⟨B1,B2⟩ ⟨C1,C2⟩ ⟨D1,D2⟩
 have hl:=arP_le (a:=a) (b:=b) (c:=c) (d:=d) (a':=a') (b':=b') (c':=c') (d':=d') ⟨A1,A2⟩ ⟨B1,B2⟩ ⟨C1,C2⟩ ⟨D1,D2⟩ (by omega) (by omega) (by omega) (by omega)
 have hb:=arP_bd (a:=a') (b:=b') (c:=c') (d:=d') ⟨by omega,by omega⟩ ⟨by omega,by omega⟩ ⟨by omega,by omega⟩ ⟨by omega,by omega⟩
 unfold bothZ
 generalize arP a b c d=P at *
 generalize arP a' b' c' d'=P' at *
 by_cases p:0<=a <;> by_cases q:0<=c <;> by_cases p':0<=a' <;> by_cases q':0<=c' <;> simp only[p,q,p',q',and_self,and_true,and_false,if_true,if_false] <;> omega
theorem grow_eith {op a b c d a' b' c' d':Int}(hw:whB a b=true)(hw':whB c d=true)(h1:a<=a')(h2:a'<=b')(h3:b'<=b)(h4:c<=c')(h5:c'<=d')(h6:d'<=d) :
  (eithZ op a b c d).1<=(eithZ op a' b' c' d').1/\(eithZ op a' b' c' d').1<=(eithZ op a' b' c' d').2/\(eithZ op a' b' c' d').2<=(eithZ op a b c d).2:=by
 obtain⟨hab,A1,A2,B1,B2⟩:=whB_iff.1 hw
 obtain⟨hcd,C1,C2,D1,D2⟩:=whB_iff.1 hw'
 have hP:=arP_has (a:=a) (b:=b) (c:=c) (d:=d) ⟨A1,A2⟩ ⟨B1,B2⟩ ⟨C1,C2⟩ ⟨D1,D2⟩
 have hl:=arP_le (a:=a) (b:=b) (c:=c) (d:=d) (a':=a') (b':=b') (c':=c') (d':=d') ⟨A1,A2⟩ ⟨B1,B2⟩ ⟨C1,C2⟩ ⟨D1,D2⟩ (by omega) (by omega) (by omega) (by omega)
 have hb:=arP_bd (a:=a') (b:=b') (c:=c') (d:=d') ⟨by omega,by omega⟩ ⟨by omega,by omega⟩ ⟨by omega,by omega⟩ ⟨by omega,by omega⟩
 have hP':=arP_has (a:=a') (b:=b') (c:=c') (d:=d') ⟨by omega,by omega⟩ ⟨by omega,by omega⟩ ⟨by omega,by omega⟩ ⟨by omega,by omega⟩
 unfold eithZ
 generalize arP a b c d=P at *
 generalize arP a' b' c' d'=P' at *
 by_cases ho:op=16
 ·by_cases p:a < 0\/c < 0
  ·by_cases p':a' < 0\/c' < 0
   ·rw[if_pos p,if_pos p'];simp only;omega
   ·rw[if_pos p,if_neg p',if_pos ho];simp only;omega
  ·rw[if_neg p,if_neg (show ¬(a' < 0\/c' < 0) by omega),if_pos ho,if_pos ho];simp only;omega
 ·by_cases p:a < 0\/c < 0
  ·by_cases p':a' < 0\/c' < 0
   ·rw[if_pos p,if_pos p'];simp only;omega
   ·rw[if_pos p,if_neg p',if_neg ho];simp only;omega
  ·rw[if_neg p,if_neg (show ¬(a' < 0\/c' < 0) by omega),if_neg ho,if_neg ho];simp only;omega
theorem grow_eq {a b c d a' b' c' d':Int}(hab:a<=b)(hcd:c<=d)(h1:a<=a')(h2:a'<=b')(h3:b'<=b)(h4:c<=c')(h5:c'<=d')(h6:d'<=d) :
  (eqZ a b c d).1<=(eqZ a' b' c' d').1/\(eqZ a' b' c' d').1<=(eqZ a' b' c' d').2/\(eqZ a' b' c' d').2<=(eqZ a b c d).2:=by
 unfold eqZ
 by_cases p:b < c\/d < a
 ·rw[if_pos p,if_pos (show b' < c'\/d' < a' by omega)];simp
 ·rw[if_neg p]
  by_cases q:a=c/\b=d/\a=b
  ·rw[if_pos q,if_neg (show ¬(b' < c'\/d' < a') by omega),if_pos (show a'=c'/\b'=d'/\a'=b' by omega)];simp
  ·rw[if_neg q]
   split
   ·simp
   ·split <;> simp
theorem grow_left {a b c d a' b' c' d':Int}(hab:a<=b)(hz:¬(c<=0/\0<=d))(h1:a<=a')(h2:a'<=b')(h3:b'<=b)(h4:c<=c')(h5:c'<=d')(h6:d'<=d) :
  (leftZ a b c d).1<=(leftZ a' b' c' d').1/\(leftZ a' b' c' d').1<=(leftZ a' b' c' d').2/\(leftZ a' b' c' d').2<=(leftZ a b c d).2:=by
 unfold leftZ
 simp only
 by_cases p:a < 0 <;> by_cases q:0 < b <;> by_cases p':a' < 0 <;> by_cases q':0 < b' <;> simp only[p,q,p',q',if_true,if_false] <;> omega
theorem grow_sel {a b c d e f a' b' c' d' e' f':Int}(h1:a<=a')(h2:a'<=b')(h3:b'<=b)(h4:c<=c')(h5:c'<=d')(h6:d'<=d)(h7:e<=e')(h8:e'<=f')(h9:f'<=f) :
  (selZ a b c d e f).1<=(selZ a' b' c' d' e' f').1/\(selZ a' b' c' d' e' f').1<=(selZ a' b' c' d' e' f').2/\(selZ a' b' c' d' e' f').2<=(selZ a b c d e f).2:=by
 unfold selZ
 by_cases p:hasB a b 0=true
 ·rw[if_pos p]
  rw[hasB_iff] at p
  by_cases q:a=0/\b=0
  ·rw[if_pos q,if_pos (hasB_iff.2 (by omega)),if_pos (show a'=0/\b'=0 by omega)];simp only;omega
  ·rw[if_neg q]
   split
   ·split <;> simp only <;> omega
   ·simp only;omega
 ·rw[if_neg p,if_neg (fun hh=>p (hasB_iff.2 (by have:=hasB_iff.1 hh;omega)))];simp only;omega
theorem within_of {Z Z':Int × Int}{lo hi:Int}(h:(Z,(0:Int))=((lo,hi),0))(hh:Z.1<=Z'.1/\Z'.1<=Z'.2/\Z'.2<=Z.2):Within (Z',0) lo hi:=by
 simp only[Prod.mk.injEq,and_true] at h
 subst h
 exact⟨Z'.1,Z'.2,rfl,hh⟩
theorem grow_reck {op k s lo hi:Int}{L' L:List (Int × Int)}(hm:smayB op k s L=true)(hr:reckZ op k s L=((lo,hi),0))(hw:whB lo hi=true)(hs:Sub L' L):Within (reckZ op k s L') lo hi:=by
 obtain⟨m2,m1,m3,m4,m5⟩:=smay_inv hm
 have gw:=whB_iff.1 hw
 by_cases he:op=7\/op=24\/op=25\/op=26\/op=27\/op=29\/op=30\/op=33
 ·exact grow_ends he hm hr hw hs
 match L,L',hs,m2,m4,hr with
 | [(a,b)],[(a',b')],hs,m2,m4,hr =>
  have w1:whB a b=true:=m4 (a,b) (by simp)
  obtain⟨⟨h1,h2,h3⟩,-⟩:=hs
  simp only at h1 h2 h3
  have g:=whB_iff.1 w1
  have ho:=one_cases (op:=op) (by simpa using m2.symm)
  by_cases h32:op=32
  ·subst h32
   have hk:wd k=true:=m3
   have hk':=wd_iff.1 hk
   have wk:whB k k=true:=whB_iff.2 (by omega)
   rw[rk_mulk rfl] at hr ⊢
   refine grow_corn (by omega) (by omega) (fun x y p1 p2 p3 p4=>?_) h1 h2 h3 (Int.le_refl k) (Int.le_refl k) (Int.le_refl k)
   have hh:=hold_corn (op:=10) (k:=0) (s:=0) (.inl rfl) w1 wk hr p1 p2 p3 p4
   refine⟨_,?_,hh.2.1,hh.2.2⟩
   rw[val2 rfl rfl ⟨by omega,by omega⟩ ⟨by omega,by omega⟩]
   exact fnE_mk hh.1 (wd_iff.2 (by omega))
  by_cases h31:op=31
  ·subst h31
   have hk:inB k 0 2147483647=true:=m3
   have hk':=inB_iff.1 hk
   rw[rk_andk rfl] at hr ⊢
   exact within_of hr (grow_both w1 (whB_iff.2 (by omega)) h1 h2 h3 (Int.le_refl k) (Int.le_refl k) (Int.le_refl k))
  have h56:op=5\/op=6:=by omega
  rw[rk_one h56] at hr ⊢
  refine within_of hr ?_
  unfold oneZ
  by_cases h5:op=5
  ·rw[if_pos h5,if_pos h5];simp only;omega
  ·rw[if_neg h5,if_neg h5]
   by_cases p:0<=a
   ·rw[if_pos p,if_pos (show 0<=a' by omega)];simp only;omega
   ·rw[if_neg p]
    by_cases q:b < 0
    ·rw[if_pos q,if_neg (show ¬0<=a' by omega),if_pos (show b' < 0 by omega)];simp only;omega
    ·rw[if_neg q]
     split
     ·simp only;omega
     ·split <;> simp only <;> omega
 | [(a,b),(c,d)],[(a',b'),(c',d')],hs,m2,m4,hr =>
  have w1:whB a b=true:=m4 (a,b) (by simp)
  have w2:whB c d=true:=m4 (c,d) (by simp)
  obtain⟨⟨h1,h2,h3⟩,⟨h4,h5,h6⟩,-⟩:=hs
  simp only at h1 h2 h3 h4 h5 h6
  have g:=whB_iff.1 w1
  have g':=whB_iff.1 w2
  have har:ar op=2:=by simpa using m2.symm
  rcases two_ways har with hop|hop|hop|hop
  ·have hrr:=hr
   rw[rk_div hop] at hr ⊢
   have hz:hasB c d 0=false:=by
    cases hh:hasB c d 0
    ·rfl
    ·unfold divZ at hr
     rw[hh] at hr
     simp at hr
   have hz':¬(c<=0/\0<=d):=fun hh=>by rw[hasB_iff.2 hh] at hz;cases hz
   have hz2:hasB c' d' 0=false:=by
    cases hh:hasB c' d' 0
    ·rfl
    ·have:=hasB_iff.1 hh;omega
   unfold divZ at hr ⊢
   rw[hz] at hr
   rw[hz2]
   simp only[Bool.false_eq_true,if_false] at hr ⊢
   by_cases h11:op=11
   ·rw[if_pos h11] at hr ⊢
    refine grow_corn (a:=a) (b:=b) (c:=c) (d:=d) (by omega) (by omega) (fun x y p1 p2 p3 p4=>?_) h1 h2 h3 h4 h5 h6
    exact val_of hm hrr hw ⟨⟨p1,p2⟩,⟨p3,p4⟩,trivial⟩
   ·rw[if_neg h11] at hr ⊢
    exact within_of hr (grow_left g.1 hz' h1 h2 h3 h4 h5 h6)
  ·have hrr:=hr
   rw[rk_corn hop] at hr ⊢
   refine grow_corn (a:=a) (b:=b) (c:=c) (d:=d) (by omega) (by omega) (fun x y p1 p2 p3 p4=>?_) h1 h2 h3 h4 h5 h6
   exact val_of hm hrr hw ⟨⟨p1,p2⟩,⟨p3,p4⟩,trivial⟩
  ·exact absurd (show _ from by omega) he
  ·rw[rk_two hop] at hr ⊢
   refine within_of hr ?_
   rcases hop with rfl|rfl|rfl|rfl|rfl|rfl|rfl
   ·show a+c<=a'+c'/\a'+c'<=b'+d'/\b'+d'<=b+d
    omega
   ·show a-d<=a' - d'/\a' - d'<=b' - c'/\b' - c'<=b-c
    omega
   ·exact grow_both w1 w2 h1 h2 h3 h4 h5 h6
   ·exact grow_eith w1 w2 h1 h2 h3 h4 h5 h6
   ·exact grow_eith w1 w2 h1 h2 h3 h4 h5 h6
   ·exact grow_eq g.1 g'.1 h1 h2 h3 h4 h5 h6
   ·have hh:=grow_eq g.1 g'.1 h1 h2 h3 h4 h5 h6
    show 1-(eqZ a b c d).2<=1-(eqZ a' b' c' d').2/\1-(eqZ a' b' c' d').2<=1-(eqZ a' b' c' d').1/\1-(eqZ a' b' c' d').1<=1-(eqZ a b c d).1
    omega
 | [(a,b),(c,d),(e,f)],[(a',b'),(c',d'),(e',f')],hs,m2,m4,hr =>
  obtain⟨⟨h1,h2,h3⟩,⟨h4,h5,h6⟩,⟨h7,h8,h9⟩,-⟩:=hs
  simp only at h1 h2 h3 h4 h5 h6 h7 h8 h9
  have h3':=inB_iff.1 (three_cases (op:=op) (by simpa using m2.symm))
  have h28:op=28:=by omega
  rw[rk_three h28] at hr ⊢
  exact within_of hr (grow_sel h1 h2 h3 h4 h5 h6 h7 h8 h9)
 | [],_,hs,m2,m4,hr=>simp at m2;omega
 | _::_::_::_::_,_,hs,m2,m4,hr=>simp at m5
 | [_],[],hs,_,_,_=>exact hs.elim
 | [_],_::_::_,hs,_,_,_=>exact hs.2.elim
 | [_,_],[],hs,_,_,_=>exact hs.elim
 | [_,_],[_],hs,_,_,_=>exact hs.2.elim
 | [_,_],_::_::_::_,hs,_,_,_=>exact hs.2.2.elim
 | [_,_,_],[],hs,_,_,_=>exact hs.elim
 | [_,_,_],[_],hs,_,_,_=>exact hs.2.elim
 | [_,_,_],[_,_],hs,_,_,_=>exact hs.2.2.elim
 | [_,_,_],_::_::_::_::_,hs,_,_,_=>exact hs.2.2.2.elim
theorem grows_all {op k s lo hi:Int}{L' L:List (Int × Int)}(h:ofZ op k s L=((lo,hi),0))(hs:Sub L' L):∃ lo' hi',ofZ op k s L'=((lo',hi'),0)/\lo<=lo'/\hi'<=hi:=by
 obtain⟨hm,hr,hw⟩:=ofZ_inv h
 obtain⟨lo',hi',e,h1,h2,h3⟩:=grow_reck hm hr hw hs
 have gw:=whB_iff.1 hw
 refine⟨lo',hi',?_,h1,h3⟩
 unfold ofZ
 rw[if_pos (sub_may hs hm),e]
 exact finZ_mk (whB_iff.2 (by omega))
end Go.Proofs.YtimdcmponhcngaaGreat.Spn
namespace Go.Proofs.YtimdcmponhcngaaGreat
open Lx Pz
set_option linter.unusedVariables false
set_option maxRecDepth 100000
set_option maxHeartbeats 16000000
def Nr (S' S:Sps):Prop:=S'.length=S.length/\∀ i,i < S.length->(S.getD i (0,0)).1<=(S'.getD i (0,0)).1/\(S'.getD i (0,0)).1<=(S'.getD i (0,0)).2/\(S'.getD i (0,0)).2<=(S.getD i (0,0)).2
theorem Nr.snoc {S' S:Sps}{p' p:Int × Int}(h:Nr S' S)(h1:p.1<=p'.1)(h2:p'.1<=p'.2)(h3:p'.2<=p.2):Nr (S'++[p']) (S++[p]):=by
 obtain⟨hl,hs⟩:=h
 refine⟨by simp[hl],fun i hi=>?_⟩
 simp only[List.length_append,List.length_cons,List.length_nil] at hi
 by_cases hlt:i < S.length
 ·have e1:(S++[p]).getD i (0,0)=S.getD i (0,0):=by rw[List.getD_eq_getElem?_getD,List.getElem?_append_left hlt,<-List.getD_eq_getElem?_getD]
  have e2:(S'++[p']).getD i (0,0)=S'.getD i (0,0):=by rw[List.getD_eq_getElem?_getD,List.getElem?_append_left (by omega),<-List.getD_eq_getElem?_getD]
  rw[e1,e2]
  exact hs i hlt
 ·obtain rfl:i=S.length:=by omega
  have e1:(S++[p]).getD S.length (0,0)=p:=by rw[List.getD_eq_getElem?_getD,List.getElem?_append_right (Nat.le_refl _)];simp
  have e2:(S'++[p']).getD S.length (0,0)=p':=by rw[List.getD_eq_getElem?_getD,List.getElem?_append_right (by omega)];simp[hl]
  rw[e1,e2]
  exact⟨h1,h2,h3⟩
theorem Nr.sub {S' S:Sps}(h:Nr S' S):∀(P:List Int),(∀ p ∈ P,p.toNat < S.length)->Spn.Sub (P.map fun p=>S'.getD p.toNat (0,0)) (P.map fun p=>S.getD p.toNat (0,0))
 | [],_=>trivial
 | p::P,hp=>⟨h.2 p.toNat (hp p (by simp)),h.sub P fun q hq=>hp q (by simp[hq])⟩
theorem of_le {op k s x y:Int}{L:List (Int × Int)}(h:Spn.ofZ op k s L=((x,y),0)):x<=y:=by
 unfold Spn.ofZ at h
 split at h
 ·unfold Spn.finZ at h
  split at h
  ·rename_i h1
   exact absurd (congrArg Prod.snd h) h1
  ·split at h
   ·rename_i h2
    have e:=congrArg Prod.fst h
    rw[show (Spn.reckZ op k s L).1=(x,y) from e] at h2
    have:=Spn.whB_iff.1 h2
    omega
   ·cases h
 ·cases h
theorem pw_mono {a b:Int}(h:a<=b):Knd.pw a<=Knd.pw b:=by
 unfold Knd.pw
 exact_mod_cast Nat.pow_le_pow_right (by decide) (by omega:a.toNat<=b.toNat)
theorem spN_narrow {f d d':Int}{BS:List Int}{S S':Sps}{n:Nd}{p:Int × Int}(hm:Knd.May f d)(hm':Knd.May f d')(hd:d'<=d)(hN:Nr S' S)(hn:Wn BS S.length n)(h3:n.op=2->n.k < 3)(h:spN f d BS S n=(p,0)) :
  ∃ p',spN f d' BS S' n=(p',0)/\p.1<=p'.1/\p'.1<=p'.2/\p'.2<=p.2:=by
 unfold spN at h ⊢
 by_cases h4:n.op=4
 ·rw[if_pos h4] at h ⊢
  have e:=congrArg Prod.fst h
  simp only at e
  refine⟨_,rfl,?_⟩
  rw[<-e]
  exact hN.2 _ (hn.use h4).2.2.2
 rw[if_neg h4] at h ⊢
 by_cases h1:n.op=1
 ·rw[if_pos h1] at h ⊢
  have e:=congrArg Prod.fst h
  simp only at e
  refine⟨_,rfl,?_⟩
  rw[<-e]
  exact⟨Int.le_refl _,Int.le_refl _,Int.le_refl _⟩
 rw[if_neg h1] at h ⊢
 by_cases h2:n.op=2
 ·rw[if_pos h2] at h ⊢
  have e:=congrArg Prod.fst h
  simp only at e
  have hk:=hn.inp h2
  have hk3:=h3 h2
  have hz:∀ x:Int,Knd.May f x->(Knd.inZ f x n.k).getD (0,0)=if n.k=0 then(0,Knd.colZ f-1) else if n.k=1 then(0,Knd.rowZ f-1) else(0,3):=by
   intro x hx
   unfold Knd.inZ
   rw[if_neg (by simpa using hx)]
   by_cases a0:n.k=0
   ·rw[if_pos a0,if_pos a0];rfl
   rw[if_neg a0,if_neg a0]
   by_cases a1:n.k=1
   ·rw[if_pos a1,if_pos a1];rfl
   rw[if_neg a1,if_neg a1,if_pos (by omega)];rfl
  rw[hz d hm] at e
  refine⟨_,rfl,?_⟩
  rw[hz d' hm',<-e]
  have c1:0 < Knd.colZ f:=by unfold Knd.colZ;split <;> omega
  have c2:0 < Knd.rowZ f:=by unfold Knd.rowZ;split <;> omega
  refine⟨Int.le_refl _,?_,Int.le_refl _⟩
  split
  ·show (0:Int)<=Knd.colZ f-1;omega
  ·split
   ·show (0:Int)<=Knd.rowZ f-1;omega
   ·decide
 rw[if_neg h2] at h ⊢
 by_cases h5:n.op=3
 ·rw[if_pos h5] at h ⊢
  have e:=congrArg Prod.fst h
  simp only at e
  refine⟨_,rfl,?_⟩
  rw[<-e]
  show Knd.lowZ f d<=Knd.lowZ f d'/\Knd.lowZ f d'<=Knd.highZ f d'/\Knd.highZ f d'<=Knd.highZ f d
  have hp:=pw_mono (show d' - 1<=d-1 by omega)
  have hp2:=(Knd.pw_le (d' - 1) (by have:=hm'.2.2;omega)).1
  rcases hm.1 with rfl|rfl
  ·rw[(Knd.zs0 hm).1,(Knd.zs0 hm).2.1,(Knd.zs0 hm').1,(Knd.zs0 hm').2.1]
   omega
  ·rw[(Knd.zs1 hm).1,(Knd.zs1 hm).2.1,(Knd.zs1 hm').1,(Knd.zs1 hm').2.1]
   omega
 rw[if_neg h5] at h ⊢
 obtain⟨x,y⟩:=p
 obtain⟨lo',hi',e,e1,e2⟩:=Spn.grows_all h (hN.sub (prts n) fun q hq=>(hn.prt q hq).2)
 exact⟨(lo',hi'),e,e1,of_le e,e2⟩
theorem spR_narrow {f d d':Int}{BS:List Int}(hm:Knd.May f d)(hm':Knd.May f d')(hd:d'<=d):∀(NS:List Nd) (S S' T:Sps),Nr S' S->Wl BS S.length NS->(∀ n ∈ NS,n.op=2->n.k < 3)->spR f d BS NS S=(T,0)->∃ T',spR f d' BS NS S'=(T',0)/\Nr T' T
 | [],S,S',T,hN,_,_,h=>by cases h;exact⟨S',rfl,hN⟩
 | n::NS,S,S',T,hN,hw,h3,h=>by
  unfold spR at h ⊢
  obtain⟨⟨p,e⟩,hp⟩:∃ Z,spN f d BS S n=Z:=⟨_,rfl⟩
  rw[hp] at h
  by_cases he:e=0
  ·subst he
   rw[if_pos rfl] at h
   obtain⟨p',hp',a1,a2,a3⟩:=spN_narrow hm hm' hd hN hw.1 (h3 n (by simp)) hp
   rw[hp',if_pos rfl]
   exact spR_narrow hm hm' hd NS _ _ T (hN.snoc a1 a2 a3) (by simpa using hw.2) (fun m hm=>h3 m (by simp[hm])) h
  ·rw[if_neg he] at h
   exact absurd (congrArg Prod.snd h) he
theorem plcs_same {f d d':Int}(hm:Knd.May f d)(hm':Knd.May f d'):Knd.plcs f d=Knd.plcs f d':=by
 unfold Knd.plcs Knd.blks;rw[if_pos hm,if_pos hm']
theorem ah_same {f d d':Int}(hm:Knd.May f d)(hm':Knd.May f d'):ahB f d=ahB f d':=by
 funext n
 unfold ahB Knd.numZ
 rw[plcs_same hm hm']
theorem ck_zero {f d:Int}{NM:List Txt}{BS:List Int}{NS:List Nd}{root:Int}:ckE f d NM BS NS root=0↔Knd.May f d/\chkP NM BS NS root=true/\NS.any (ahB f d)=false/\(spR f d BS NS []).2=0/\coR NS<=200/\mxR (dpR BS NS [])<=24:=by
 unfold ckE
 by_cases h1:Knd.May f d
 ·rw[if_neg (by simpa using h1)]
  cases h2:chkP NM BS NS root
  ·simp
  ·rw[if_neg (by simp)]
   cases h3:NS.any (ahB f d)
   ·rw[if_neg (by simp)]
    by_cases h4:(spR f d BS NS []).2=0
    ·rw[if_neg (by simpa using h4)]
     by_cases h5:200 < coR NS\/24 < mxR (dpR BS NS [])
     ·rw[if_pos h5]
      constructor
      ·intro h;cases h
      ·rintro⟨-,-,-,-,a,b⟩;omega
     ·rw[if_neg h5]
      exact⟨fun _=>⟨h1,rfl,rfl,h4,by omega,by omega⟩,fun _=>rfl⟩
    ·rw[if_pos h4]
     exact⟨fun h=>absurd h h4,fun h=>absurd h.2.2.2.1 h4⟩
   ·rw[if_pos rfl]
    constructor
    ·intro h;cases h
    ·rintro⟨-,-,h,-⟩;cases h
 ·rw[if_pos h1]
  constructor
  ·intro h;cases h
  ·intro h;exact absurd h.1 h1
theorem ck_narrow {f d d':Int}{NM:List Txt}{BS:List Int}{NS:List Nd}{root:Int}(hm':Knd.May f d')(hd:d'<=d)(hw:Wl BS 0 NS)(h3:∀ n ∈ NS,n.op=2->n.k < 3)(h:ckE f d NM BS NS root=0) :
  ckE f d' NM BS NS root=0/\Nr (spR f d' BS NS []).1 (spR f d BS NS []).1:=by
 obtain⟨a1,a2,a3,a4,a5,a6⟩:=ck_zero.1 h
 obtain⟨T',e1,e2⟩:=spR_narrow a1 hm' hd NS [] [] (spR f d BS NS []).1 ⟨rfl,fun i hi=>by simp at hi⟩ hw h3 (Prod.ext rfl a4)
 rw[e1]
 exact⟨ck_zero.2 ⟨hm',a2,by rw[<-ah_same a1 hm'];exact a3,by rw[e1],a5,a6⟩,e2⟩
end Go.Proofs.YtimdcmponhcngaaGreat
namespace Go.Proofs.YtimdcmponhcngaaGreat.Spn
open Go.RowKit Go.IntWalk
set_option linter.unusedVariables false
set_option maxRecDepth 100000
set_option maxHeartbeats 16000000
theorem fin_bad (Z:Int × Int)(e:Int)(he:e≠0):finZ (Z,e)=((0,0),e):=by simp[finZ,he]
theorem fin_no {x y:Int}(h:¬whB x y=true):finZ ((x,y),0)=((0,0),13):=by simp[finZ,h]
theorem fin_no' {x y:Int}(h:¬(x<=y/\-2147483648<=x/\x<=2147483647/\-2147483648<=y/\y<=2147483647)):finZ ((x,y),0)=((0,0),13):=fin_no fun hh=>h (whB_iff.1 hh)
theorem corn_fin {f:Int->Int->Int × Int}{a b c d p q r t:Int}(h0:f a c=if wd p=true then(p,0) else(0,13))(h1:f a d=if wd q=true then(q,0) else(0,13))
  (h2:f b c=if wd r=true then(r,0) else(0,13)) (h3:f b d=if wd t=true then(t,0) else(0,13)) :
  finZ ((min (min (min p q) r) t,max (max (max p q) r) t),0)=finZ (cornZ f a b c d):=by
 have e0:cv f a b c d 0=f a c:=rfl
 have e1:cv f a b c d 1=f a d:=rfl
 have e2:cv f a b c d 2=f b c:=rfl
 have e3:cv f a b c d 3=f b d:=rfl
 by_cases w0:wd p=true
 ·rw[if_pos w0] at h0
  by_cases w1:wd q=true
  ·rw[if_pos w1] at h1
   by_cases w2:wd r=true
   ·rw[if_pos w2] at h2
    by_cases w3:wd t=true
    ·rw[if_pos w3] at h3
     rw[cornZ_mk (by rw[h0]) (by rw[h1]) (by rw[h2]) (by rw[h3]),h0,h1,h2,h3]
     rw[wd_iff] at w0 w1 w2 w3
     have g1:min (min (min p q) r) t=min (min (min (min 9223372036854775807 p) q) r) t:=by omega
     have g2:max (max (max p q) r) t=max (max (max (max (-9223372036854775808) p) q) r) t:=by omega
     rw[g1,g2]
    ·rw[if_neg w3] at h3
     unfold cornZ
     rw[e0,e1,e2,e3,h0,h1,h2,h3,if_neg (by simp),if_neg (by simp),if_neg (by simp),if_pos (by simp)]
     rw[wd_iff] at w3
     exact(fin_no' (by omega)).trans (fin_bad _ 13 (by simp)).symm
   ·rw[if_neg w2] at h2
    unfold cornZ
    rw[e0,e1,e2,h0,h1,h2,if_neg (by simp),if_neg (by simp),if_pos (by simp)]
    rw[wd_iff] at w2
    exact(fin_no' (by omega)).trans (fin_bad _ 13 (by simp)).symm
  ·rw[if_neg w1] at h1
   unfold cornZ
   rw[e0,e1,h0,h1,if_neg (by simp),if_pos (by simp)]
   rw[wd_iff] at w1
   exact(fin_no' (by omega)).trans (fin_bad _ 13 (by simp)).symm
 ·rw[if_neg w0] at h0
  unfold cornZ
  rw[e0,h0,if_pos (by simp)]
  rw[wd_iff] at w0
  exact(fin_no' (by omega)).trans (fin_bad _ 13 (by simp)).symm
theorem ends_fin {f:List Int->Int × Int}{L:List (Int × Int)}{p q:Int}(h0:f (fsts L)=if wd p=true then(p,0) else(0,13))(h1:f (snds L)=if wd q=true then(q,0) else(0,13)) :
  finZ ((p,q),0)=finZ (endsZ f L):=by
 unfold endsZ
 rw[h0,h1]
 by_cases w0:wd p=true
 ·rw[if_pos w0,if_neg (by simp)]
  by_cases w1:wd q=true
  ·rw[if_pos w1]
  ·rw[if_neg w1]
   rw[wd_iff] at w1
   exact(fin_no' (by omega)).trans (fin_bad _ 13 (by simp)).symm
 ·rw[if_neg w0,if_pos (by simp)]
  rw[wd_iff] at w0
  exact(fin_no' (by omega)).trans (fin_bad _ 13 (by simp)).symm
theorem fnE_if (v:Int):fnE (v,0)=if wd v=true then(v,0) else(0,13):=by simp[fnE]
theorem tr_wd (b:Bool):wd (tr b)=true:=by cases b <;> rfl
theorem v10 {k s x y:Int}(hx:W32 x)(hy:W32 y):valZ 10 k s [x,y]=if wd (x*y)=true then(x*y,0) else(0,13):=by
 rw[val2 rfl rfl hx hy];exact fnE_if (x*y)
theorem v11 {k s x y:Int}(hx:W32 x)(hy:W32 y)(h:y≠0):valZ 11 k s [x,y]=if wd (x.tdiv y)=true then(x.tdiv y,0) else(0,13):=by
 rw[val2 rfl rfl hx hy,show ex 11 k s x y 0=(x.tdiv y,0) by simp[ex,h]];exact fnE_if _
theorem v13 {k s x y:Int}(hx:W32 x)(hy:W32 y)(h:0<=y/\y<=31):valZ 13 k s [x,y]=if wd (x*2 ^ y.toNat)=true then(x*2 ^ y.toNat,0) else(0,13):=by
 rw[val2 rfl rfl hx hy,show ex 13 k s x y 0=(x*2 ^ y.toNat,0) by simp[ex,inB_t h.1 h.2]];exact fnE_if _
theorem v14 {k s x y:Int}(hx:W32 x)(hy:W32 y)(h:0<=y/\y<=31):valZ 14 k s [x,y]=if wd (x / 2 ^ y.toNat)=true then(x / 2 ^ y.toNat,0) else(0,13):=by
 rw[val2 rfl rfl hx hy,show ex 14 k s x y 0=(x / 2 ^ y.toNat,0) by simp[ex,inB_t h.1 h.2]];exact fnE_if _
theorem v29 {k s x:Int}(hc:cons 29 k s=true)(hx:W32 x):valZ 29 k s [x]=if wd (x*2 ^ k.toNat)=true then(x*2 ^ k.toNat,0) else(0,13):=by
 rw[val1 rfl hc hx];exact fnE_if _
theorem v30 {k s x:Int}(hc:cons 30 k s=true)(hx:W32 x):valZ 30 k s [x]=if wd (x / 2 ^ k.toNat)=true then(x / 2 ^ k.toNat,0) else(0,13):=by
 rw[val1 rfl hc hx];exact fnE_if _
theorem v33 {k s x:Int}(hc:cons 33 k s=true)(hx:W32 x)(h:max x (-x)*k<=4611686018427387904):valZ 33 k s [x]=if wd (x*k / 2 ^ s.toNat)=true then(x*k / 2 ^ s.toNat,0) else(0,13):=by
 rw[val1 rfl hc hx,ex33' h];exact fnE_if _
theorem v33b {k s x:Int}(hc:cons 33 k s=true)(hx:W32 x)(h:4611686018427387904 < max x (-x)*k):valZ 33 k s [x]=(0,13):=by
 rw[val1 rfl hc hx]
 have e:ex 33 k s x 0 0=if 4611686018427387904 < max x (-x)*k then(0,13) else(x*k / 2 ^ s.toNat,0):=rfl
 rw[e,if_pos h];rfl
theorem ifwd {v:Int}(h:wd v=true):(v,(0:Int))=if wd v=true then(v,0) else(0,13):=by rw[if_pos h]
theorem v7 {k s x:Int}(hx:W32 x):valZ 7 k s [x]=(tr (decide (0 < x))-tr (decide (x < 0)),0):=by
 rw[val1 rfl rfl hx]
 refine fnE_mk (E:=(tr (decide (0 < x))-tr (decide (x < 0)),0)) rfl (wd_iff.2 ?_)
 have t1:=trd (0 < x)
 have t2:=trd (x < 0)
 show _<=tr _-tr _/\tr _-tr _<=_
 omega
theorem v24 {k s x y:Int}(hx:W32 x)(hy:W32 y):valZ 24 k s [x,y]=(min x y,0):=by
 rw[val2 rfl rfl hx hy]
 exact fnE_mk (E:=(min x y,0)) rfl (wd_iff.2 (show _<=min x y/\min x y<=_ by omega))
theorem v25 {k s x y:Int}(hx:W32 x)(hy:W32 y):valZ 25 k s [x,y]=(max x y,0):=by
 rw[val2 rfl rfl hx hy]
 exact fnE_mk (E:=(max x y,0)) rfl (wd_iff.2 (show _<=max x y/\max x y<=_ by omega))
theorem v26 {k s x y z:Int}(hx:W32 x)(hy:W32 y)(hz:W32 z):valZ 26 k s [x,y,z]=(min z (max x y),0):=by
 rw[val3 rfl rfl hx hy hz]
 exact fnE_mk (E:=(min z (max x y),0)) rfl (wd_iff.2 (show _<=min z (max x y)/\min z (max x y)<=_ by omega))
theorem v27 {k s x y z:Int}(hx:W32 x)(hy:W32 y)(hz:W32 z):valZ 27 k s [x,y,z]=(max (min x y) (min (max x y) z),0):=by
 rw[val3 rfl rfl hx hy hz]
 exact fnE_mk (E:=(max (min x y) (min (max x y) z),0)) rfl (wd_iff.2 (show _<=max (min x y) (min (max x y) z)/\max (min x y) (min (max x y) z)<=_ by omega))
theorem v18 {k s x y:Int}(hx:W32 x)(hy:W32 y):valZ 18 k s [x,y]=(tr (decide (x < y)),0):=by
 rw[val2 rfl rfl hx hy];exact fnE_mk (E:=(tr (decide (x < y)),0)) rfl (tr_wd _)
theorem v19 {k s x y:Int}(hx:W32 x)(hy:W32 y):valZ 19 k s [x,y]=(tr (decide (x<=y)),0):=by
 rw[val2 rfl rfl hx hy];exact fnE_mk (E:=(tr (decide (x<=y)),0)) rfl (tr_wd _)
theorem v20 {k s x y:Int}(hx:W32 x)(hy:W32 y):valZ 20 k s [x,y]=(tr (decide (y < x)),0):=by
 rw[val2 rfl rfl hx hy];exact fnE_mk (E:=(tr (decide (y < x)),0)) rfl (tr_wd _)
theorem v21 {k s x y:Int}(hx:W32 x)(hy:W32 y):valZ 21 k s [x,y]=(tr (decide (y<=x)),0):=by
 rw[val2 rfl rfl hx hy];exact fnE_mk (E:=(tr (decide (y<=x)),0)) rfl (tr_wd _)
theorem cmp_fin {op k s a b c d:Int}(hop:op=18\/op=19\/op=20\/op=21)(ha:W32 a)(hb:W32 b)(hc:W32 c)(hd:W32 d)(hab:a<=b)(hcd:c<=d) :
  finZ ((min (valZ op 0 0 [a,d]).1 (valZ op 0 0 [b,c]).1,max (valZ op 0 0 [a,d]).1 (valZ op 0 0 [b,c]).1),0)=finZ (cornZ (fun u v=>valZ op k s [u,v]) a b c d):=by
 have key:∀ p q r t:Int,min q r<=p->p<=max q r->min q r<=t->t<=max q r->min q r=min (min (min p q) r) t/\max q r=max (max (max p q) r) t:=by intro p q r t;omega
 rcases hop with rfl|rfl|rfl|rfl
 ·have t1:=trd (a < c)
  have t2:=trd (a < d)
  have t3:=trd (b < c)
  have t4:=trd (b < d)
  rw[<-corn_fin ((v18 ha hc).trans (ifwd (tr_wd _))) ((v18 ha hd).trans (ifwd (tr_wd _))) ((v18 hb hc).trans (ifwd (tr_wd _))) ((v18 hb hd).trans (ifwd (tr_wd _))),v18 ha hd,v18 hb hc]
  obtain⟨e1,e2⟩:=key (tr (decide (a < c))) (tr (decide (a < d))) (tr (decide (b < c))) (tr (decide (b < d))) (by omega) (by omega) (by omega) (by omega)
  rw[<-e1,<-e2]
 ·have t1:=trd (a<=c)
  have t2:=trd (a<=d)
  have t3:=trd (b<=c)
  have t4:=trd (b<=d)
  rw[<-corn_fin ((v19 ha hc).trans (ifwd (tr_wd _))) ((v19 ha hd).trans (ifwd (tr_wd _))) ((v19 hb hc).trans (ifwd (tr_wd _))) ((v19 hb hd).trans (ifwd (tr_wd _))),v19 ha hd,v19 hb hc]
  obtain⟨e1,e2⟩:=key (tr (decide (a<=c))) (tr (decide (a<=d))) (tr (decide (b<=c))) (tr (decide (b<=d))) (by omega) (by omega) (by omega) (by omega)
  rw[<-e1,<-e2]
 ·have t1:=trd (c < a)
  have t2:=trd (d < a)
  have t3:=trd (c < b)
  have t4:=trd (d < b)
  rw[<-corn_fin ((v20 ha hc).trans (ifwd (tr_wd _))) ((v20 ha hd).trans (ifwd (tr_wd _))) ((v20 hb hc).trans (ifwd (tr_wd _))) ((v20 hb hd).trans (ifwd (tr_wd _))),v20 ha hd,v20 hb hc]
  obtain⟨e1,e2⟩:=key (tr (decide (c < a))) (tr (decide (d < a))) (tr (decide (c < b))) (tr (decide (d < b))) (by omega) (by omega) (by omega) (by omega)
  rw[<-e1,<-e2]
 ·have t1:=trd (c<=a)
  have t2:=trd (d<=a)
  have t3:=trd (c<=b)
  have t4:=trd (d<=b)
  rw[<-corn_fin ((v21 ha hc).trans (ifwd (tr_wd _))) ((v21 ha hd).trans (ifwd (tr_wd _))) ((v21 hb hc).trans (ifwd (tr_wd _))) ((v21 hb hd).trans (ifwd (tr_wd _))),v21 ha hd,v21 hb hc]
  obtain⟨e1,e2⟩:=key (tr (decide (c<=a))) (tr (decide (d<=a))) (tr (decide (c<=b))) (tr (decide (d<=b))) (by omega) (by omega) (by omega) (by omega)
  rw[<-e1,<-e2]
theorem sh_fin {op k s a b c d:Int}(hop:op=13\/op=14)(ha:W32 a)(hb:W32 b)(hc:W32 c)(hd:W32 d)(hcd:c<=d)(h:c < 0\/31 < d) :
  finZ ((0,0),13)=finZ (cornZ (fun u v=>valZ op k s [u,v]) a b c d):=by
 have ho:ar op=2:=by rcases hop with rfl|rfl <;> rfl
 have hco:cons op k s=true:=by rcases hop with rfl|rfl <;> rfl
 obtain⟨⟨lo,hi⟩,e,hZ⟩:∃ Z e,cornZ (fun u v=>valZ op k s [u,v]) a b c d=(Z,e):=⟨_,_,rfl⟩
 have he:e=0\/e=13:=by
  have key:∀ x y,W32 x->W32 y->(valZ op k s [x,y]).2=0\/(valZ op k s [x,y]).2=13:=by
   intro x y hx hy
   rw[val2 ho hco hx hy]
   have h1:(ex op k s x y 0).2=0\/(ex op k s x y 0).2=13:=by
    cases hi:inB y 0 31
    ·rcases hop with rfl|rfl <;> simp[ex,hi]
    ·rcases hop with rfl|rfl <;> simp[ex,hi]
   unfold fnE
   split
   ·split <;> simp
   ·rcases h1 with h1|h1
    ·contradiction
    ·right;exact h1
  have e0:cv (fun u v=>valZ op k s [u,v]) a b c d 0=valZ op k s [a,c]:=rfl
  have e1:cv (fun u v=>valZ op k s [u,v]) a b c d 1=valZ op k s [a,d]:=rfl
  have e2:cv (fun u v=>valZ op k s [u,v]) a b c d 2=valZ op k s [b,c]:=rfl
  have e3:cv (fun u v=>valZ op k s [u,v]) a b c d 3=valZ op k s [b,d]:=rfl
  unfold cornZ at hZ
  rw[e0,e1,e2,e3] at hZ
  have k0:=key a c ha hc
  have k1:=key a d ha hd
  have k2:=key b c hb hc
  have k3:=key b d hb hd
  split at hZ
  ·simp only[Prod.mk.injEq] at hZ;omega
  ·split at hZ
   ·simp only[Prod.mk.injEq] at hZ;omega
   ·split at hZ
    ·simp only[Prod.mk.injEq] at hZ;omega
    ·split at hZ
     ·simp only[Prod.mk.injEq] at hZ;omega
     ·simp only[Prod.mk.injEq] at hZ;omega
 rcases he with rfl|rfl
 ·have:=corn_count hop ha hb hc hd hZ
  omega
 ·rw[hZ,fin_bad _ _ (by simp),fin_bad _ _ (by simp)]
theorem muls_big {k s a b M:Int}(hc:cons 33 k s=true)(ha:W32 a)(hb:W32 b)(hM:max (max (max a b) (-a)) (-b)=M)(h:0 < M/\4611686018427387904 / M < k) :
  finZ ((0,0),13)=finZ (endsZ (fun xs=>valZ 33 k s xs) [(a,b)]):=by
 have h1:=(div_test (m:=k) (k:=M) (by omega)).1 h.2
 rw[Int.mul_comm] at h1
 unfold endsZ
 show finZ ((0,0),13)=finZ (if (valZ 33 k s [a]).2≠0 then((0,0),(valZ 33 k s [a]).2) else(((valZ 33 k s [a]).1,(valZ 33 k s [b]).1),(valZ 33 k s [b]).2))
 rcases(show M=max a (-a)\/M=max b (-b) by omega) with e|e
 ·rw[v33b hc ha (by rw[<-e];exact h1),if_pos (by simp)]
 ·rw[v33b hc hb (by rw[<-e];exact h1)]
  rcases Int.lt_or_le 4611686018427387904 (max a (-a)*k) with h2|h2
  ·rw[v33b hc ha h2,if_pos (by simp)]
  ·rw[v33 hc ha h2]
   split
   ·rw[if_neg (by simp)]
    exact(fin_bad _ 13 (by simp)).trans (fin_bad _ 13 (by simp)).symm
   ·rw[if_pos (by simp)]
theorem muls_small {k a b M:Int}(hk:1<=k)(hM:max (max (max a b) (-a)) (-b)=M)(h:¬(0 < M/\4611686018427387904 / M < k)):M*k<=4611686018427387904/\max a (-a)*k<=4611686018427387904/\max b (-b)*k<=4611686018427387904:=by
 have h1:M*k<=4611686018427387904:=by
  rcases(show M=0\/1<=M by omega) with h0|h0
  ·rw[h0];omega
  ·have h2:¬4611686018427387904 / M < k:=fun hh=>h ⟨by omega,hh⟩
   have h3:¬4611686018427387904 < k*M:=fun hh=>h2 ((div_test (m:=k) (k:=M) h0).2 hh)
   rw[Int.mul_comm] at h3
   omega
 refine⟨h1,?_,?_⟩
 ·exact Int.le_trans (Int.mul_le_mul_of_nonneg_right (show max a (-a)<=M by omega) (by omega)) h1
 ·exact Int.le_trans (Int.mul_le_mul_of_nonneg_right (show max b (-b)<=M by omega) (by omega)) h1
theorem muls_bd {k a:Int}(hk:1<=k)(h:max a (-a)*k<=4611686018427387904):-4611686018427387904<=a*k/\a*k<=4611686018427387904:=by
 have h1:=Int.mul_le_mul_of_nonneg_right (show a<=max a (-a) by omega) (show 0<=k by omega)
 have h2:=Int.mul_le_mul_of_nonneg_right (show -a<=max a (-a) by omega) (show 0<=k by omega)
 rw[Int.neg_mul] at h2
 omega
theorem one6 {a b:Int}(hab:a<=b):(if hasB a b 0=true then(0,max (max (max a b) (-a)) (-b)) else if 0 < a then(a,b) else(-b,-a))=oneZ 6 a b:=by
 have e6:oneZ 6 a b=if 0<=a then(a,b) else if b < 0 then(-b,-a) else(0,max (-a) b):=by unfold oneZ;rw[if_neg (by decide)]
 rw[e6]
 by_cases h:hasB a b 0=true
 ·rw[if_pos h]
  have:=hasB_iff.1 h
  by_cases h1:0<=a
  ·rw[if_pos h1]
   have:a=0:=by omega
   subst this
   exact congrArg (Prod.mk 0) (by omega)
  ·rw[if_neg h1,if_neg (by omega)]
   exact congrArg (Prod.mk 0) (by omega)
 ·rw[if_neg h]
  have h':¬(a<=0/\0<=b):=fun hh=>h (hasB_iff.2 hh)
  by_cases h1:0 < a
  ·rw[if_pos h1,if_pos (by omega)]
  ·rw[if_neg h1,if_neg (by omega),if_pos (by omega)]
theorem sel28 {a b c d e f:Int}(hcd:c<=d)(hef:e<=f):(if hasB a b 0=true then(if a=0/\b=0 then(e,f) else(min (min (min c d) e) f,max (max (max c d) e) f)) else(c,d))=selZ a b c d e f:=by
 unfold selZ
 rw[show min (min (min c d) e) f=min c e by omega,show max (max (max c d) e) f=max d f by omega]
theorem two22 (a b c d:Int):twoZ 22 a b c d=eqZ a b c d/\twoZ 23 a b c d=(1-(eqZ a b c d).2,1-(eqZ a b c d).1)/\twoZ 15 a b c d=bothZ a b c d/\twoZ 16 a b c d=eithZ 16 a b c d/\twoZ 17 a b c d=eithZ 17 a b c d/\twoZ 8 a b c d=(a+c,b+d)/\twoZ 9 a b c d=(a-d,b-c):=by
 simp[twoZ]
end Go.Proofs.YtimdcmponhcngaaGreat.Spn
