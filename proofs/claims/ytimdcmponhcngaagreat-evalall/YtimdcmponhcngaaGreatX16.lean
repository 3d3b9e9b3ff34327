import Derived.Test.YtimdcmponhcngaaGreatX15
namespace Go.Proofs.YtimdcmponhcngaaGreat.Spn
open Go.RowKit Go.IntWalk
set_option linter.unusedVariables false
set_option maxRecDepth 100000
set_option maxHeartbeats 16000000
theorem plain_1 (op k s x:Int)(b off cap:Nat)(w:World)(hcap:1<=cap)(ho:ar op=1)(hk:cons op k s=true)(hx:-2147483648<=x/\x<=2147483647)
  (c0:w.cell? ⟨b,off,none⟩=some (.int .i64 x)) :
  Calls Tryz.prog 97 #[.int .i64 op,.int .i64 k,.int .i64 s,.slice (some ⟨b,off,none⟩) 1 cap] w fun e w'=>e=.returned (.tuple #[.int .i64 (ex op k s x 0 0).1,.int .i64 (ex op k s x 0 0).2])/\w'=w:=by
 rcases one_cases ho with rfl|rfl|rfl|rfl|rfl|rfl|rfl|rfl
 ·exact pl_5 k s x b off cap w hcap hx c0
 ·exact pl_6 k s x b off cap w hcap hx c0
 ·exact pl_7 k s x b off cap w hcap hx c0
 ·exact pl_29 k s x b off cap w hcap hx (inB_iff.1 hk) c0
 ·exact pl_30 k s x b off cap w hcap hx (inB_iff.1 hk) c0
 ·exact pl_31 k s x b off cap w hcap hx (inB_iff.1 hk) c0
 ·exact pl_32 k s x b off cap w hcap hx (wd_iff.1 hk) c0
 ·have hk:(inB k 1 4611686018427387904&&inB s 0 62)=true:=hk
  rw[Bool.and_eq_true,inB_iff,inB_iff] at hk
  by_cases h0:x=0
  ·exact pl_33z k s x b off cap w hcap hx hk.1 hk.2 h0 c0
  ·by_cases hb:4611686018427387904 < max x (-x)*k
   ·exact pl_33b k s x b off cap w hcap hx hk.1 hk.2 h0 hb c0
   ·exact pl_33s k s x b off cap w hcap hx hk.1 hk.2 h0 hb c0
theorem plain_2 (op k s x y:Int)(b off cap:Nat)(w:World)(hcap:2<=cap)(ho:ar op=2)(hx:-2147483648<=x/\x<=2147483647)(hy:-2147483648<=y/\y<=2147483647)
  (c0:w.cell? ⟨b,off,none⟩=some (.int .i64 x)) (c1:w.cell? ⟨b,off+1,none⟩=some (.int .i64 y)) :
  Calls Tryz.prog 97 #[.int .i64 op,.int .i64 k,.int .i64 s,.slice (some ⟨b,off,none⟩) 2 cap] w fun e w'=>e=.returned (.tuple #[.int .i64 (ex op k s x y 0).1,.int .i64 (ex op k s x y 0).2])/\w'=w:=by
 have h:=inB_iff.1 (two_cases ho)
 clear ho
 rcases(show op=8\/op=9\/op=10\/op=11\/op=12\/op=13\/op=14\/op=15\/op=16\/op=17\/op=18\/op=19\/op=20\/op=21\/op=22\/op=23\/op=24\/op=25 by omega) with
  rfl|rfl|rfl|rfl|rfl|rfl|rfl|rfl|rfl|rfl|rfl|rfl|rfl|rfl|rfl|rfl|rfl|rfl
 ·exact pl_8 k s x y b off cap w hcap hx hy c0 c1
 ·exact pl_9 k s x y b off cap w hcap hx hy c0 c1
 ·exact pl_10 k s x y b off cap w hcap hx hy c0 c1
 ·by_cases h0:y=0
  ·exact pl_11z k s x y b off cap w hcap hx hy h0 c0 c1
  ·exact pl_11 k s x y b off cap w hcap hx hy h0 c0 c1
 ·by_cases h0:y=0
  ·exact pl_12z k s x y b off cap w hcap hx hy h0 c0 c1
  ·exact pl_12 k s x y b off cap w hcap hx hy h0 c0 c1
 ·rcases(show y < 0\/31 < y\/(0<=y/\y<=31) by omega) with h0|h0|h0
  ·exact pl_13lo k s x y b off cap w hcap hx hy h0 c0 c1
  ·exact pl_13hi k s x y b off cap w hcap hx hy h0 c0 c1
  ·exact pl_13 k s x y b off cap w hcap hx hy h0 c0 c1
 ·rcases(show y < 0\/31 < y\/(0<=y/\y<=31) by omega) with h0|h0|h0
  ·exact pl_14lo k s x y b off cap w hcap hx hy h0 c0 c1
  ·exact pl_14hi k s x y b off cap w hcap hx hy h0 c0 c1
  ·exact pl_14 k s x y b off cap w hcap hx hy h0 c0 c1
 ·exact pl_15 k s x y b off cap w hcap hx hy c0 c1
 ·exact pl_16 k s x y b off cap w hcap hx hy c0 c1
 ·exact pl_17 k s x y b off cap w hcap hx hy c0 c1
 ·exact pl_18 k s x y b off cap w hcap c0 c1
 ·exact pl_19 k s x y b off cap w hcap c0 c1
 ·exact pl_20 k s x y b off cap w hcap c0 c1
 ·exact pl_21 k s x y b off cap w hcap c0 c1
 ·exact pl_22 k s x y b off cap w hcap c0 c1
 ·exact pl_23 k s x y b off cap w hcap c0 c1
 ·exact pl_24 k s x y b off cap w hcap c0 c1
 ·exact pl_25 k s x y b off cap w hcap c0 c1
theorem plain_3 (op k s x y z:Int)(b off cap:Nat)(w:World)(hcap:3<=cap)(ho:ar op=3)
  (c0:w.cell? ⟨b,off,none⟩=some (.int .i64 x)) (c1:w.cell? ⟨b,off+1,none⟩=some (.int .i64 y)) (c2:w.cell? ⟨b,off+2,none⟩=some (.int .i64 z)) :
  Calls Tryz.prog 97 #[.int .i64 op,.int .i64 k,.int .i64 s,.slice (some ⟨b,off,none⟩) 3 cap] w fun e w'=>e=.returned (.tuple #[.int .i64 (ex op k s x y z).1,.int .i64 (ex op k s x y z).2])/\w'=w:=by
 have h:=inB_iff.1 (three_cases ho)
 clear ho
 rcases(show op=26\/op=27\/op=28 by omega) with rfl|rfl|rfl
 ·exact pl_26 k s x y z b off cap w hcap c0 c1 c2
 ·exact pl_27 k s x y z b off cap w hcap c0 c1 c2
 ·exact pl_28 k s x y z b off cap w hcap c0 c1 c2
theorem plain_any (op k s:Int)(a:Option Addr)(n cap:Nat)(xs:List Int)(w:World)(h:Ints w a n cap xs)(hm:mayB op k s xs=true) :
  Calls Tryz.prog 97 #[.int .i64 op,.int .i64 k,.int .i64 s,.slice a n cap] w fun e w' =>
   e=.returned (.tuple #[.int .i64 (ex op k s (xs.getD 0 0) (xs.getD 1 0) (xs.getD 2 0)).1,.int .i64 (ex op k s (xs.getD 0 0) (xs.getD 1 0) (xs.getD 2 0)).2])/\w'=w:=by
 simp only[mayB,Bool.and_eq_true,decide_eq_true_eq,List.all_eq_true] at hm
 obtain⟨⟨⟨m1,m2⟩,m3⟩,m4⟩:=hm
 have hl:=h.len
 have h3:=ar_le op
 have hle:=h.le
 obtain⟨b,off,rfl,-,hc⟩:=h.at (by omega)
 have hw:∀ x ∈ xs,-2147483648<=x/\x<=2147483647:=fun x hx=>wd_iff.1 (m4 x hx)
 match xs,hl,m2,hc,hw with
 | [x],hl,m2,hc,hw =>
  subst hl
  exact plain_1 op k s x b off cap w hle (by simpa using m2.symm) m3 (hw x (by simp)) (hc 0 (by simp))
 | [x,y],hl,m2,hc,hw =>
  subst hl
  exact plain_2 op k s x y b off cap w hle (by simpa using m2.symm) (hw x (by simp)) (hw y (by simp)) (hc 0 (by simp)) (hc 1 (by simp))
 | [x,y,z],hl,m2,hc,hw =>
  subst hl
  exact plain_3 op k s x y z b off cap w hle (by simpa using m2.symm) (hc 0 (by simp)) (hc 1 (by simp)) (hc 2 (by simp))
 | [],hl,m2,hc,hw=>simp at m2;omega
 | _::_::_::_::_,hl,m2,hc,hw=>simp at m2;omega
def fin (E:Int × Int):Int × Int:=if E.2=0 then(if wd E.1=true then(E.1,0) else(0,13)) else(0,E.2)
theorem val_fin {op k s:Int}{xs:List Int}(h:mayB op k s xs=true):valZ op k s xs=fin (ex op k s (xs.getD 0 0) (xs.getD 1 0) (xs.getD 2 0)):=by
 unfold valZ fin
 rw[if_pos h]
theorem rvalue_head (op k s:Int)(a:Option Addr)(n cap:Nat)(xs:List Int)(w:World)(h:Ints w a n cap xs)(hm:¬(1<=ar op/\(n:Int)=ar op/\cons op k s=true)) :
  Calls Tryz.prog 69 #[.int .i64 op,.int .i64 k,.int .i64 s,.slice a n cap] w fun e w'=>e=.returned (.tuple #[.int .i64 0,.int .i64 1])/\w'=w:=by
 clear h
 by_cases h1:ar op < 1
 ·go_enter Tryz.func69,Tryz.ntmps69
  go_wp2_with fail
  refine(rarity_any _ _).mono ?_
  rintro e w' ⟨rfl,rfl⟩
  go_wp2_with fail
  go_ret2
  exact⟨rfl,rfl⟩
 ·by_cases h2:(n:Int)=ar op
  ·have h3:cons op k s=false:=by
    cases h:cons op k s
    ·rfl
    ·exact absurd ⟨by omega,h2,h⟩ hm
   have h2':((n:Int) != ar op)=false:=by simp[h2]
   clear hm h2
   go_enter Tryz.func69,Tryz.ntmps69
   go_wp2_with fail
   refine(rarity_any _ _).mono ?_
   rintro e w' ⟨rfl,rfl⟩
   go_wp2_with fail
   refine(rarity_any _ _).mono ?_
   rintro e w' ⟨rfl,rfl⟩
   go_wp2_with fail
   refine(rconstants_any _ _ _ _).mono ?_
   rintro e w' ⟨rfl,rfl⟩
   go_wp2_with fail
   go_ret2
   exact⟨rfl,rfl⟩
  ·have h2':((n:Int) != ar op)=true:=by simp[h2]
   clear hm h2
   go_enter Tryz.func69,Tryz.ntmps69
   go_wp2_with fail
   refine(rarity_any _ _).mono ?_
   rintro e w' ⟨rfl,rfl⟩
   go_wp2_with fail
   refine(rarity_any _ _).mono ?_
   rintro e w' ⟨rfl,rfl⟩
   go_wp2_with fail
   go_ret2
   exact⟨rfl,rfl⟩
theorem rvalue_any (op k s:Int)(a:Option Addr)(n cap:Nat)(xs:List Int)(w:World)(h:Ints w a n cap xs) :
  Calls Tryz.prog 69 #[.int .i64 op,.int .i64 k,.int .i64 s,.slice a n cap] w fun e w'=>e=.returned (.tuple #[.int .i64 (valZ op k s xs).1,.int .i64 (valZ op k s xs).2])/\w'=w:=by
 have hl:=h.len
 by_cases hm:1<=ar op/\(n:Int)=ar op/\cons op k s=true
 ·obtain⟨m1,m2,m3⟩:=hm
  have hmb:mayB op k s xs=xs.all wd:=by simp[mayB,m1,m3,hl,m2]
  have h2':((n:Int) != ar op)=false:=by simp[m2]
  have h1:¬ar op < 1:=by omega
  have hm1:n<=9223372036854775807:=by have:=h.le;have:=h.max;unfold maxLen at this;omega
  have H:=hide h
  have HL:=hide hl
  have HMB:=hide hmb
  clear hl hmb h m1 m2
  go_enter Tryz.func69,Tryz.ntmps69
  go_wp2_with fail
  refine(rarity_any _ _).mono ?_
  rintro e w' ⟨rfl,rfl⟩
  go_wp2_with fail
  refine(rarity_any _ _).mono ?_
  rintro e w' ⟨rfl,rfl⟩
  go_wp2_with fail
  refine(rconstants_any _ _ _ _).mono ?_
  rintro e w' ⟨rfl,rfl⟩
  go_wp2_with fail
  go_loop [10] (fun i=>∃ j:Nat,j<=n/\i=.int .i64 j/\(xs.take j).all wd=true) (fun i=>n-(intOf i).toNat)
  case atStart=>exact⟨0,Nat.zero_le _,rfl,rfl⟩
  case round =>
   obtain⟨j,hj,rfl,hA⟩:=hrel
   have HA:=hide hA
   clear hA
   by_cases hlt:j < n
   ·obtain⟨b1,o1,rfl,_,hc1⟩:=H.out.at (by omega)
    have g1:=hc1 j hlt
    clear hc1
    generalize ea:xs.getD j 0=x at g1
    have EA:=hide ea
    clear ea
    cases hx:wd x
    ·have HV:Hid (valZ op k s xs=(0,1)):=by
      unfold Hid valZ
      rw[if_neg]
      rw[HMB.out]
      simp only[Bool.not_eq_true,List.all_eq_false]
      refine⟨x,?_,by simp[hx]⟩
      have e1:=EA.out
      rw[<-e1]
      simp[List.getD,HL.out,hlt]
     go_wp2_with fail
     refine(rword_any _ _).mono ?_
     rintro e w' ⟨rfl,rfl⟩
     go_wp2_with fail
     go_ret2
     exact⟨ret_two (show (0:Int)=(valZ op k s xs).1 by rw[HV.out]) (show (1:Int)=(valZ op k s xs).2 by rw[HV.out]),rfl⟩
    ·go_wp2_with fail
     refine(rword_any _ _).mono ?_
     rintro e w' ⟨rfl,rfl⟩
     go_wp2_with fail
     go_round
     case rel=>exact⟨j+1,by omega,by go_num,all_take_succ (by rw[HL.out];exact hlt) HA.out (by rw[EA.out];exact hx)⟩
     case measure=>simp[intOf];omega
   ·have hall:mayB op k s xs=true:=by
     rw[HMB.out]
     have h3:=HA.out
     rw[List.take_of_length_le (by rw[HL.out];omega)] at h3
     exact h3
    have PL:=hide (plain_any op k s a n cap xs _ H.out hall)
    have HV:=hide (val_fin hall)
    generalize ex op k s (xs.getD 0 0) (xs.getD 1 0) (xs.getD 2 0)=E at *
    obtain⟨x,e⟩:=E
    clear hall
    by_cases he:e=0
    ·subst he
     cases hx:wd x
     ·have HV2:Hid (valZ op k s xs=(0,13)):=hide (by rw[HV.out];simp[fin,hx])
      go_wp2_with fail
      refine PL.out.mono ?_
      rintro e w' ⟨rfl,rfl⟩
      go_wp2_with fail
      refine(rword_any _ _).mono ?_
      rintro e w' ⟨rfl,rfl⟩
      go_wp2_with fail
      go_ret2
      exact⟨ret_two (show (0:Int)=(valZ op k s xs).1 by rw[HV2.out]) (show (13:Int)=(valZ op k s xs).2 by rw[HV2.out]),rfl⟩
     ·have HV2:Hid (valZ op k s xs=(x,0)):=hide (by rw[HV.out];simp[fin,hx])
      go_wp2_with fail
      refine PL.out.mono ?_
      rintro e w' ⟨rfl,rfl⟩
      go_wp2_with fail
      refine(rword_any _ _).mono ?_
      rintro e w' ⟨rfl,rfl⟩
      go_wp2_with fail
      go_ret2
      exact⟨ret_two (show (x:Int)=(valZ op k s xs).1 by rw[HV2.out]) (show (0:Int)=(valZ op k s xs).2 by rw[HV2.out]),rfl⟩
    ·have HV2:Hid (valZ op k s xs=(0,e)):=hide (by rw[HV.out];simp[fin,he])
     have he':(e != 0)=true:=by simp[he]
     clear he
     go_wp2_with fail
     refine PL.out.mono ?_
     rintro r w' ⟨rfl,rfl⟩
     go_wp2_with fail
     go_ret2
     exact⟨ret_two (show (0:Int)=(valZ op k s xs).1 by rw[HV2.out]) (show (e:Int)=(valZ op k s xs).2 by rw[HV2.out]),rfl⟩
 ·have hv:valZ op k s xs=(0,1):=by
   unfold valZ
   rw[if_neg]
   intro hb
   simp only[mayB,Bool.and_eq_true,decide_eq_true_eq] at hb
   exact hm ⟨hb.1.1.1,by rw[<-hl];exact hb.1.1.2,hb.1.2⟩
  rw[hv]
  exact rvalue_head op k s a n cap xs w h hm
def Sub:List (Int × Int)->List (Int × Int)->Prop
 | [],[]=>True
 | q::L',p::L=>(p.1<=q.1/\q.1<=q.2/\q.2<=p.2)/\Sub L' L
 | _,_=>False
def Within (Z:(Int × Int) × Int)(lo hi:Int):Prop:=∃ lo' hi',Z=((lo',hi'),0)/\lo<=lo'/\lo'<=hi'/\hi'<=hi
theorem grow_corn {f:Int->Int->Int × Int}{a b c d lo hi a' b' c' d':Int}(hlo:-9223372036854775808<=lo/\lo<=9223372036854775807)(hhi:-9223372036854775808<=hi/\hi<=9223372036854775807)
  (H:∀ x y,a<=x->x<=b->c<=y->y<=d->∃ v,f x y=(v,0)/\lo<=v/\v<=hi) (h1:a<=a') (h2:a'<=b') (h3:b'<=b) (h4:c<=c') (h5:c'<=d') (h6:d'<=d):Within (cornZ f a' b' c' d') lo hi:=by
 obtain⟨v1,e1,l1,u1⟩:=H a' c' h1 (by omega) h4 (by omega)
 obtain⟨v2,e2,l2,u2⟩:=H a' d' h1 (by omega) (by omega) h6
 obtain⟨v3,e3,l3,u3⟩:=H b' c' (by omega) h3 h4 (by omega)
 obtain⟨v4,e4,l4,u4⟩:=H b' d' (by omega) h3 (by omega) h6
 refine⟨_,_,cornZ_mk (by rw[e1]) (by rw[e2]) (by rw[e3]) (by rw[e4]),?_⟩
 rw[e1,e2,e3,e4]
 simp only
 omega
theorem val_of {op k s lo hi:Int}{L:List (Int × Int)}{xs:List Int}(hm:smayB op k s L=true)(hr:reckZ op k s L=((lo,hi),0))(hw:whB lo hi=true)(h:Ins xs L):∃ v,valZ op k s xs=(v,0)/\lo<=v/\v<=hi:=by
 obtain⟨h1,h2,h3,h4⟩:=holds_ex hm hr h
 have g:=whB_iff.1 hw
 refine⟨_,?_,h3,h4⟩
 rw[val_fnE h1]
 exact fnE_mk h2 (wd_iff.2 (by omega))
theorem sub_ins:∀ {L' L:List (Int × Int)},Sub L' L->Ins (fsts L') L/\Ins (snds L') L/\Ins (fsts L') L'
 | [],[],_=>⟨trivial,trivial,trivial⟩
 | q::L',p::L,h=>by
  obtain⟨⟨h1,h2,h3⟩,ht⟩:=h
  obtain⟨i1,i2,i3⟩:=sub_ins ht
  exact⟨⟨⟨h1,Int.le_trans h2 h3⟩,i1⟩,⟨⟨Int.le_trans h1 h2,h3⟩,i2⟩,⟨⟨Int.le_refl _,h2⟩,i3⟩⟩
 | [],_::_,h=>h.elim
 | _::_,[],h=>h.elim
theorem sub_len:∀ {L' L:List (Int × Int)},Sub L' L->L'.length=L.length
 | [],[],_=>rfl
 | _::_,_::_,h=>by simp[sub_len h.2]
 | [],_::_,h=>h.elim
 | _::_,[],h=>h.elim
theorem sub_wh:∀ {L' L:List (Int × Int)},Sub L' L->(∀ p ∈ L,whB p.1 p.2=true)->∀ q ∈ L',whB q.1 q.2=true
 | [],[],_,_,q,hq=>by simp at hq
 | q0::L',p::L,h,hp,q,hq=>by
  obtain⟨⟨h1,h2,h3⟩,ht⟩:=h
  rcases List.mem_cons.1 hq with rfl|hq
  ·have:=whB_iff.1 (hp p (by simp))
   exact whB_iff.2 (by omega)
  ·exact sub_wh ht (fun r hr=>hp r (by simp[hr])) q hq
 | [],_::_,h,_,_,_=>h.elim
 | _::_,[],h,_,_,_=>h.elim
theorem sub_may {op k s:Int}{L' L:List (Int × Int)}(h:Sub L' L)(hm:smayB op k s L=true):smayB op k s L'=true:=by
 obtain⟨m2,m1,m3,m4,m5⟩:=smay_inv hm
 simp only[smayB,Bool.and_eq_true,decide_eq_true_eq,List.all_eq_true]
 exact⟨⟨⟨m1,by rw[sub_len h];exact m2⟩,m3⟩,fun q hq=>sub_wh h m4 q hq⟩
theorem grow_ends {op k s lo hi:Int}{L' L:List (Int × Int)}(hop:op=7\/op=24\/op=25\/op=26\/op=27\/op=29\/op=30\/op=33)(hm:smayB op k s L=true)(hr:reckZ op k s L=((lo,hi),0))(hw:whB lo hi=true)(hs:Sub L' L) :
  Within (reckZ op k s L') lo hi:=by
 obtain⟨i1,i2,i3⟩:=sub_ins hs
 obtain⟨v1,e1,l1,u1⟩:=val_of hm hr hw i1
 obtain⟨v2,e2,l2,u2⟩:=val_of hm hr hw i2
 have e:reckZ op k s L'=((v1,v2),0):=by
  rw[rk_ends hop,endsZ_mk (by rw[e1]) (by rw[e2]),e1,e2]
 have h3:=holds_ex (sub_may hs hm) e i3
 have h4:=val_fnE h3.1
 rw[e1] at h4
 have h5:=fnE_ok (E:=ex op k s ((fsts L').getD 0 0) ((fsts L').getD 1 0) ((fsts L').getD 2 0)) (by rw[<-h4])
 rw[<-h4] at h5
 refine⟨v1,v2,e,l1,?_,u2⟩
 have:v1=_:=h5.2.2
 omega
theorem grow_both {a b c d a' b' c' d':Int}(hw:whB a b=true)(hw':whB c d=true)(h1:a<=a')(h2:a'<=b')(h3:b'<=b)(h4:c<=c')(h5:c'<=d')(h6:d'<=d) :
  (bothZ a b c d).1<=(bothZ a' b' c' d').1/\(bothZ a' b' c' d').1<=(bothZ a' b' c' d').2/\(bothZ a' b' c' d').2<=(bothZ a b c d).2:=by
 obtain⟨hab,A1,A2,B1,B2⟩:=whB_iff.1 hw
 obtain⟨hcd,C1,C2,D1,D2⟩:=whB_iff.1 hw'
 have hP:=arP_has (a:=a) (b:=b) (c:=c) (d:=d) ⟨A1,A2⟩ ⟨B1,B2⟩ ⟨C1,C2⟩ ⟨D1,D2⟩
 have hl:=arP_le (a:=a) (b:=b) (c:=c) (d:=d) (a':=a') (b':=b') (c':=c') (d':=d') ⟨A1,A2⟩ ⟨B1,B2⟩ ⟨C1,C2⟩ ⟨D1,D2⟩ (by omega) (by omega) (by omega) (by omega)
 have hb:=arP_bd (a:=a') (b:=b') (c:=c') (d:=d') ⟨by omega,by omega⟩ ⟨by omega,by omega⟩ ⟨by omega,by omega⟩ ⟨by omega,by omega⟩
 unfold bothZ
 generalize arP a b c d=P at *
 generalize arP a' b' c' d'=P' at *
 by_cases p:0<=a <;> by_cases q:0<=c <;> by_cases p':0<=a' <;> by_cases q':0<=c' <;> simp only[p,q,p',q',and_self,and_true,and_false,if_true,if_false] <;> omega
theorem grow_eith {op a b c d a' b' c' d':Int}(hw:whB a b=true)(hw':whB c d=true)(h1:a<=a')(h2:a'<=b')(h3:b'<=b)(h4:c<=c')(h5:c'<=d')(h6:d'<=d) :
  (eithZ op a b c d).1<=(eithZ op a' b' c' d').1/\(eithZ op a' b' c' d').1<=(eithZ op a' b' c' d').2/\(eithZ op a' b' c' d').2<=(eithZ op a b c d).2:=by
 obtain⟨hab,A1,A2,B1,B2⟩:=whB_iff.1 hw
 obtain⟨hcd,C1,C2,D1,D2⟩:=whB_iff.1 hw'
 have hP:=arP_has (a:=a) (b:=b) (c:=c) (d:=d) ⟨A1,A2⟩ ⟨B1,B2⟩ ⟨C1,C2⟩ ⟨D1,D2⟩
 have hl:=arP_le (a:=a) (b:=b) (c:=c) (d:=d) (a':=a') (b':=b') (c':=c') (d':=d') ⟨A1,A2⟩ ⟨B1,B2⟩ ⟨C1,C2⟩ ⟨D1,D2⟩ (by omega) (by omega) (by omega) (by omega)
 have hb:=arP_bd (a:=a') (b:=b') (c:=c') (d:=d') ⟨by omega,by omega⟩ ⟨by omega,by omega⟩ ⟨by omega,by omega⟩ ⟨by omega,by omega⟩
 have hP':=arP_has (a:=a') (b:=b') (c:=c') (d:=d') ⟨by omega,by omega⟩ ⟨by omega,by omega⟩ ⟨by omega,by omega⟩ ⟨by omega,by omega⟩
 unfold eithZ
 generalize arP a b c d=P at *
 generalize arP a' b' c' d'=P' at *
 by_cases ho:op=16
 ·by_cases p:a < 0\/c < 0
  ·by_cases p':a' < 0\/c' < 0
   ·rw[if_pos p,if_pos p'];simp only;omega
   ·rw[if_pos p,if_neg p',if_pos ho];simp only;omega
  ·rw[if_neg p,if_neg (show ¬(a' < 0\/c' < 0) by omega),if_pos ho,if_pos ho];simp only;omega
 ·by_cases p:a < 0\/c < 0
  ·by_cases p':a' < 0\/c' < 0
   ·rw[if_pos p,if_pos p'];simp only;omega
   ·rw[if_pos p,if_neg p',if_neg ho];simp only;omega
  ·rw[if_neg p,if_neg (show ¬(a' < 0\/c' < 0) by omega),if_neg ho,if_neg ho];simp only;omega
theorem grow_eq {a b c d a' b' c' d':Int}(hab:a<=b)(hcd:c<=d)(h1:a<=a')(h2:a'<=b')(h3:b'<=b)(h4:c<=c')(h5:c'<=d')(h6:d'<=d) :
  (eqZ a b c d).1<=(eqZ a' b' c' d').1/\(eqZ a' b' c' d').1<=(eqZ a' b' c' d').2/\(eqZ a' b' c' d').2<=(eqZ a b c d).2:=by
 unfold eqZ
 by_cases p:b < c\/d < a
 ·rw[if_pos p,if_pos (show b' < c'\/d' < a' by omega)];simp
 ·rw[if_neg p]
  by_cases q:a=c/\b=d/\a=b
  ·rw[if_pos q,if_neg (show ¬(b' < c'\/d' < a') by omega),if_pos (show a'=c'/\b'=d'/\a'=b' by omega)];simp
  ·rw[if_neg q]
   split
   ·simp
   ·split <;> simp
theorem grow_left {a b c d a' b' c' d':Int}(hab:a<=b)(hz:¬(c<=0/\0<=d))(h1:a<=a')(h2:a'<=b')(h3:b'<=b)(h4:c<=c')(h5:c'<=d')(h6:d'<=d) :
  (leftZ a b c d).1<=(leftZ a' b' c' d').1/\(leftZ a' b' c' d').1<=(leftZ a' b' c' d').2/\(leftZ a' b' c' d').2<=(leftZ a b c d).2:=by
 unfold leftZ
 simp only
 by_cases p:a < 0 <;> by_cases q:0 < b <;> by_cases p':a' < 0 <;> by_cases q':0 < b' <;> simp only[p,q,p',q',if_true,if_false] <;> omega
theorem grow_sel {a b c d e f a' b' c' d' e' f':Int}(h1:a<=a')(h2:a'<=b')(h3:b'<=b)(h4:c<=c')(h5:c'<=d')(h6:d'<=d)(h7:e<=e')(h8:e'<=f')(h9:f'<=f) :
  (selZ a b c d e f).1<=(selZ a' b' c' d' e' f').1/\(selZ a' b' c' d' e' f').1<=(selZ a' b' c' d' e' f').2/\(selZ a' b' c' d' e' f').2<=(selZ a b c d e f).2:=by
 unfold selZ
 by_cases p:hasB a b 0=true
 ·rw[if_pos p]
  rw[hasB_iff] at p
  by_cases q:a=0/\b=0
  ·rw[if_pos q,if_pos (hasB_iff.2 (by omega)),if_pos (show a'=0/\b'=0 by omega)];simp only;omega
  ·rw[if_neg q]
   split
   ·split <;> simp only <;> omega
   ·simp only;omega
 ·rw[if_neg p,if_neg (fun hh=>p (hasB_iff.2 (by have:=hasB_iff.1 hh;omega)))];simp only;omega
theorem within_of {Z Z':Int × Int}{lo hi:Int}(h:(Z,(0:Int))=((lo,hi),0))(hh:Z.1<=Z'.1/\Z'.1<=Z'.2/\Z'.2<=Z.2):Within (Z',0) lo hi:=by
 simp only[Prod.mk.injEq,and_true] at h
 subst h
 exact⟨Z'.1,Z'.2,rfl,hh⟩
theorem grow_reck {op k s lo hi:Int}{L' L:List (Int × Int)}(hm:smayB op k s L=true)(hr:reckZ op k s L=((lo,hi),0))(hw:whB lo hi=true)(hs:Sub L' L):Within (reckZ op k s L') lo hi:=by
 obtain⟨m2,m1,m3,m4,m5⟩:=smay_inv hm
 have gw:=whB_iff.1 hw
 by_cases he:op=7\/op=24\/op=25\/op=26\/op=27\/op=29\/op=30\/op=33
 ·exact grow_ends he hm hr hw hs
 match L,L',hs,m2,m4,hr with
 | [(a,b)],[(a',b')],hs,m2,m4,hr =>
  have w1:whB a b=true:=m4 (a,b) (by simp)
  obtain⟨⟨h1,h2,h3⟩,-⟩:=hs
  simp only at h1 h2 h3
  have g:=whB_iff.1 w1
  have ho:=one_cases (op:=op) (by simpa using m2.symm)
  by_cases h32:op=32
  ·subst h32
   have hk:wd k=true:=m3
   have hk':=wd_iff.1 hk
   have wk:whB k k=true:=whB_iff.2 (by omega)
   rw[rk_mulk rfl] at hr ⊢
   refine grow_corn (by omega) (by omega) (fun x y p1 p2 p3 p4=>?_) h1 h2 h3 (Int.le_refl k) (Int.le_refl k) (Int.le_refl k)
   have hh:=hold_corn (op:=10) (k:=0) (s:=0) (.inl rfl) w1 wk hr p1 p2 p3 p4
   refine⟨_,?_,hh.2.1,hh.2.2⟩
   rw[val2 rfl rfl ⟨by omega,by omega⟩ ⟨by omega,by omega⟩]
   exact fnE_mk hh.1 (wd_iff.2 (by omega))
  by_cases h31:op=31
  ·subst h31
   have hk:inB k 0 2147483647=true:=m3
   have hk':=inB_iff.1 hk
   rw[rk_andk rfl] at hr ⊢
   exact within_of hr (grow_both w1 (whB_iff.2 (by omega)) h1 h2 h3 (Int.le_refl k) (Int.le_refl k) (Int.le_refl k))
  have h56:op=5\/op=6:=by omega
  rw[rk_one h56] at hr ⊢
  refine within_of hr ?_
  unfold oneZ
  by_cases h5:op=5
  ·rw[if_pos h5,if_pos h5];simp only;omega
  ·rw[if_neg h5,if_neg h5]
   by_cases p:0<=a
   ·rw[if_pos p,if_pos (show 0<=a' by omega)];simp only;omega
   ·rw[if_neg p]
    by_cases q:b < 0
    ·rw[if_pos q,if_neg (show ¬0<=a' by omega),if_pos (show b' < 0 by omega)];simp only;omega
    ·rw[if_neg q]
     split
     ·simp only;omega
     ·split <;> simp only <;> omega
 | [(a,b),(c,d)],[(a',b'),(c',d')],hs,m2,m4,hr =>
  have w1:whB a b=true:=m4 (a,b) (by simp)
  have w2:whB c d=true:=m4 (c,d) (by simp)
  obtain⟨⟨h1,h2,h3⟩,⟨h4,h5,h6⟩,-⟩:=hs
  simp only at h1 h2 h3 h4 h5 h6
  have g:=whB_iff.1 w1
  have g':=whB_iff.1 w2
  have har:ar op=2:=by simpa using m2.symm
  rcases two_ways har with hop|hop|hop|hop
  ·have hrr:=hr
   rw[rk_div hop] at hr ⊢
   have hz:hasB c d 0=false:=by
    cases hh:hasB c d 0
    ·rfl
    ·unfold divZ at hr
     rw[hh] at hr
     simp at hr
   have hz':¬(c<=0/\0<=d):=fun hh=>by rw[hasB_iff.2 hh] at hz;cases hz
   have hz2:hasB c' d' 0=false:=by
    cases hh:hasB c' d' 0
    ·rfl
    ·have:=hasB_iff.1 hh;omega
   unfold divZ at hr ⊢
   rw[hz] at hr
   rw[hz2]
   simp only[Bool.false_eq_true,if_false] at hr ⊢
   by_cases h11:op=11
   ·rw[if_pos h11] at hr ⊢
    refine grow_corn (a:=a) (b:=b) (c:=c) (d:=d) (by omega) (by omega) (fun x y p1 p2 p3 p4=>?_) h1 h2 h3 h4 h5 h6
    exact val_of hm hrr hw ⟨⟨p1,p2⟩,⟨p3,p4⟩,trivial⟩
   ·rw[if_neg h11] at hr ⊢
    exact within_of hr (grow_left g.1 hz' h1 h2 h3 h4 h5 h6)
  ·have hrr:=hr
   rw[rk_corn hop] at hr ⊢
   refine grow_corn (a:=a) (b:=b) (c:=c) (d:=d) (by omega) (by omega) (fun x y p1 p2 p3 p4=>?_) h1 h2 h3 h4 h5 h6
   exact val_of hm hrr hw ⟨⟨p1,p2⟩,⟨p3,p4⟩,trivial⟩
  ·exact absurd (show _ from by omega) he
  ·rw[rk_two hop] at hr ⊢
   refine within_of hr ?_
   rcases hop with rfl|rfl|rfl|rfl|rfl|rfl|rfl
   ·show a+c<=a'+c'/\a'+c'<=b'+d'/\b'+d'<=b+d
    omega
   ·show a-d<=a' - d'/\a' - d'<=b' - c'/\b' - c'<=b-c
    omega
   ·exact grow_both w1 w2 h1 h2 h3 h4 h5 h6
   ·exact grow_eith w1 w2 h1 h2 h3 h4 h5 h6
   ·exact grow_eith w1 w2 h1 h2 h3 h4 h5 h6
   ·exact grow_eq g.1 g'.1 h1 h2 h3 h4 h5 h6
   ·have hh:=grow_eq g.1 g'.1 h1 h2 h3 h4 h5 h6
    show 1-(eqZ a b c d).2<=1-(eqZ a' b' c' d').2/\1-(eqZ a' b' c' d').2<=1-(eqZ a' b' c' d').1/\1-(eqZ a' b' c' d').1<=1-(eqZ a b c d).1
    omega
 | [(a,b),(c,d),(e,f)],[(a',b'),(c',d'),(e',f')],hs,m2,m4,hr =>
  obtain⟨⟨h1,h2,h3⟩,⟨h4,h5,h6⟩,⟨h7,h8,h9⟩,-⟩:=hs
  simp only at h1 h2 h3 h4 h5 h6 h7 h8 h9
  have h3':=inB_iff.1 (three_cases (op:=op) (by simpa using m2.symm))
  have h28:op=28:=by omega
  rw[rk_three h28] at hr ⊢
  exact within_of hr (grow_sel h1 h2 h3 h4 h5 h6 h7 h8 h9)
 | [],_,hs,m2,m4,hr=>simp at m2;omega
 | _::_::_::_::_,_,hs,m2,m4,hr=>simp at m5
 | [_],[],hs,_,_,_=>exact hs.elim
 | [_],_::_::_,hs,_,_,_=>exact hs.2.elim
 | [_,_],[],hs,_,_,_=>exact hs.elim
 | [_,_],[_],hs,_,_,_=>exact hs.2.elim
 | [_,_],_::_::_::_,hs,_,_,_=>exact hs.2.2.elim
 | [_,_,_],[],hs,_,_,_=>exact hs.elim
 | [_,_,_],[_],hs,_,_,_=>exact hs.2.elim
 | [_,_,_],[_,_],hs,_,_,_=>exact hs.2.2.elim
 | [_,_,_],_::_::_::_::_,hs,_,_,_=>exact hs.2.2.2.elim
theorem grows_all {op k s lo hi:Int}{L' L:List (Int × Int)}(h:ofZ op k s L=((lo,hi),0))(hs:Sub L' L):∃ lo' hi',ofZ op k s L'=((lo',hi'),0)/\lo<=lo'/\hi'<=hi:=by
 obtain⟨hm,hr,hw⟩:=ofZ_inv h
 obtain⟨lo',hi',e,h1,h2,h3⟩:=grow_reck hm hr hw hs
 have gw:=whB_iff.1 hw
 refine⟨lo',hi',?_,h1,h3⟩
 unfold ofZ
 rw[if_pos (sub_may hs hm),e]
 exact finZ_mk (whB_iff.2 (by omega))
end Go.Proofs.YtimdcmponhcngaaGreat.Spn
