import Derived.Test.YtimdcmponhcngaaGreatX32
import Derived.Test.YtimdcmponhcngaaGreatX28
namespace Go.Proofs.YtimdcmponhcngaaGreat.Spn
open Go.RowKit Go.IntWalk
set_option linter.unusedVariables false
set_option maxRecDepth 100000
set_option maxHeartbeats 16000000
theorem plain_1 (op k s x:Int)(b off cap:Nat)(w:World)(hcap:1<=cap)(ho:ar op=1)(hk:cons op k s=true)(hx:-2147483648<=x/\x<=2147483647)
  (c0:w.cell? ⟨b,off,none⟩=some (.int .i64 x)) :
  Calls Tryz.prog 97 #[.int .i64 op,.int .i64 k,.int .i64 s,.slice (some ⟨b,off,none⟩) 1 cap] w fun e w'=>e=.returned (.tuple #[.int .i64 (ex op k s x 0 0).1,.int .i64 (ex op k s x 0 0).2])/\w'=w:=by
 rcases one_cases ho with rfl|rfl|rfl|rfl|rfl|rfl|rfl|rfl
 ·exact pl_5 k s x b off cap w hcap hx c0
 ·exact pl_6 k s x b off cap w hcap hx c0
 ·exact pl_7 k s x b off cap w hcap hx c0
 ·exact pl_29 k s x b off cap w hcap hx (inB_iff.1 hk) c0
 ·exact pl_30 k s x b off cap w hcap hx (inB_iff.1 hk) c0
 ·exact pl_31 k s x b off cap w hcap hx (inB_iff.1 hk) c0
 ·exact pl_32 k s x b off cap w hcap hx (wd_iff.1 hk) c0
 ·have hk:(inB k 1 4611686018427387904&&inB s 0 62)=true:=hk
  rw[Bool.and_eq_true,inB_iff,inB_iff] at hk
  by_cases h0:x=0
  ·exact pl_33z k s x b off cap w hcap hx hk.1 hk.2 h0 c0
  ·by_cases hb:4611686018427387904 < max x (-x)*k
   ·exact pl_33b k s x b off cap w hcap hx hk.1 hk.2 h0 hb c0
   ·exact pl_33s k s x b off cap w hcap hx hk.1 hk.2 h0 hb c0
theorem plain_2 (op k s x y:Int)(b off cap:Nat)(w:World)(hcap:2<=cap)(ho:ar op=2)(hx:-2147483648<=x/\x<=2147483647)(hy:-2147483648<=y/\y<=2147483647)
  (c0:w.cell? ⟨b,off,none⟩=some (.int .i64 x)) (c1:w.cell? ⟨b,off+1,none⟩=some (.int .i64 y)) :
  Calls Tryz.prog 97 #[.int .i64 op,.int .i64 k,.int .i64 s,.slice (some ⟨b,off,none⟩) 2 cap] w fun e w'=>e=.returned (.tuple #[.int .i64 (ex op k s x y 0).1,.int .i64 (ex op k s x y 0).2])/\w'=w:=by
 have h:=inB_iff.1 (two_cases ho)
 clear ho
 rcases(show op=8\/op=9\/op=10\/op=11\/op=12\/op=13\/op=14\/op=15\/op=16\/op=17\/op=18\/op=19\/op=20\/op=21\/op=22\/op=23\/op=24\/op=25 by omega) with
  rfl|rfl|rfl|rfl|rfl|rfl|rfl|rfl|rfl|rfl|rfl|rfl|rfl|rfl|rfl|rfl|rfl|rfl
 ·exact pl_8 k s x y b off cap w hcap hx hy c0 c1
 ·exact pl_9 k s x y b off cap w hcap hx hy c0 c1
 ·exact pl_10 k s x y b off cap w hcap hx hy c0 c1
 ·by_cases h0:y=0
  ·exact pl_11z k s x y b off cap w hcap hx hy h0 c0 c1
  ·exact pl_11 k s x y b off cap w hcap hx hy h0 c0 c1
 ·by_cases h0:y=0
  ·exact pl_12z k s x y b off cap w hcap hx hy h0 c0 c1
  ·exact pl_12 k s x y b off cap w hcap hx hy h0 c0 c1
 ·rcases(show y < 0\/31 < y\/(0<=y/\y<=31) by omega) with h0|h0|h0
  ·exact pl_13lo k s x y b off cap w hcap hx hy h0 c0 c1
  ·exact pl_13hi k s x y b off cap w hcap hx hy h0 c0 c1
  ·exact pl_13 k s x y b off cap w hcap hx hy h0 c0 c1
 ·rcases(show y < 0\/31 < y\/(0<=y/\y<=31) by omega) with h0|h0|h0
  ·exact pl_14lo k s x y b off cap w hcap hx hy h0 c0 c1
  ·exact pl_14hi k s x y b off cap w hcap hx hy h0 c0 c1
  ·exact pl_14 k s x y b off cap w hcap hx hy h0 c0 c1
 ·exact pl_15 k s x y b off cap w hcap hx hy c0 c1
 ·exact pl_16 k s x y b off cap w hcap hx hy c0 c1
 ·exact pl_17 k s x y b off cap w hcap hx hy c0 c1
 ·exact pl_18 k s x y b off cap w hcap c0 c1
 ·exact pl_19 k s x y b off cap w hcap c0 c1
 ·exact pl_20 k s x y b off cap w hcap c0 c1
 ·exact pl_21 k s x y b off cap w hcap c0 c1
 ·exact pl_22 k s x y b off cap w hcap c0 c1
 ·exact pl_23 k s x y b off cap w hcap c0 c1
 ·exact pl_24 k s x y b off cap w hcap c0 c1
 ·exact pl_25 k s x y b off cap w hcap c0 c1
theorem plain_3 (op k s x y z:Int)(b off cap:Nat)(w:World)(hcap:3<=cap)(ho:ar op=3)
  (c0:w.cell? ⟨b,off,none⟩=some (.int .i64 x)) (c1:w.cell? ⟨b,off+1,none⟩=some (.int .i64 y)) (c2:w.cell? ⟨b,off+2,none⟩=some (.int .i64 z)) :
  Calls Tryz.prog 97 #[.int .i64 op,.int .i64 k,.int .i64 s,.slice (some ⟨b,off,none⟩) 3 cap] w fun e w'=>e=.returned (.tuple #[.int .i64 (ex op k s x y z).1,.int .i64 (ex op k s x y z).2])/\w'=w:=by
 have h:=inB_iff.1 (three_cases ho)
 clear ho
 rcases(show op=26\/op=27\/op=28 by omega) with rfl|rfl|rfl
 ·exact pl_26 k s x y z b off cap w hcap c0 c1 c2
 ·exact pl_27 k s x y z b off cap w hcap c0 c1 c2
 ·exact pl_28 k s x y z b off cap w hcap c0 c1 c2
theorem plain_any (op k s:Int)(a:Option Addr)(n cap:Nat)(xs:List Int)(w:World)(h:Ints w a n cap xs)(hm:mayB op k s xs=true) :
  Calls Tryz.prog 97 #[.int .i64 op,.int .i64 k,.int .i64 s,.slice a n cap] w fun e w' =>
   e=.returned (.tuple #[.int .i64 (ex op k s (xs.getD 0 0) (xs.getD 1 0) (xs.getD 2 0)).1,.int .i64 (ex op k s (xs.getD 0 0) (xs.getD 1 0) (xs.getD 2 0)).2])/\w'=w:=by
 simp only[mayB,Bool.and_eq_true,decide_eq_true_eq,List.all_eq_true] at hm
 obtain⟨⟨⟨m1,m2⟩,m3⟩,m4⟩:=hm
 have hl:=h.len
 have h3:=ar_le op
 have hle:=h.le
 obtain⟨b,off,rfl,-,hc⟩:=h.at (by omega)
 have hw:∀ x ∈ xs,-2147483648<=x/\x<=2147483647:=fun x hx=>wd_iff.1 (m4 x hx)
 match xs,hl,m2,hc,hw with
 | [x],hl,m2,hc,hw =>
  subst hl
  exact plain_1 op k s x b off cap w hle (by simpa using m2.symm) m3 (hw x (by simp)) (hc 0 (by simp))
 | [x,y],hl,m2,hc,hw =>
  subst hl
  exact plain_2 op k s x y b off cap w hle (by simpa using m2.symm) (hw x (by simp)) (hw y (by simp)) (hc 0 (by simp)) (hc 1 (by simp))
 | [x,y,z],hl,m2,hc,hw =>
  subst hl
  exact plain_3 op k s x y z b off cap w hle (by simpa using m2.symm) (hc 0 (by simp)) (hc 1 (by simp)) (hc 2 (by simp))
 | [],hl,m2,hc,hw=>simp at m2;omega
 | _::_::_::_::_,hl,m2,hc,hw=>simp at m2;omega
def fin (E:Int × Int):Int × Int:=if E.2=0 then(if wd E.1=true then(E.1,0) else(0,13)) else(0,E.2)
theorem val_fin {op k s:Int}{xs:List Int}(h:mayB op k s xs=true):valZ op k s xs=fin (ex op k s (xs.getD 0 0) (xs.getD 1 0) (xs.getD 2 0)):=by
 unfold valZ fin
 rw[if_pos h]
theorem rvalue_head (op k s:Int)(a:Option Addr)(n cap:Nat)(xs:List Int)(w:World)(h:Ints w a n cap xs)(hm:¬(1<=ar op/\(n:Int)=ar op/\cons op k s=true)) :
  Calls Tryz.prog 69 #[.int .i64 op,.int .i64 k,.int .i64 s,.slice a n cap] w fun e w'=>e=.returned (.tuple #[.int .i64 0,.int .i64 1])/\w'=w:=by
 clear h
 by_cases h1:ar op < 1
 ·go_enter Tryz.func69,Tryz.ntmps69
  go_wp2_with fail
  refine(rarity_any _ _).mono ?_
  rintro e w' ⟨rfl,rfl⟩
  go_wp2_with fail
  go_ret2
  exact⟨rfl,rfl⟩
 ·by_cases h2:(n:Int)=ar op
  ·have h3:cons op k s=false:=by
    cases h:cons op k s
    ·rfl
    ·exact absurd ⟨by omega,h2,h⟩ hm
   have h2':((n:Int) != ar op)=false:=by simp[h2]
   clear hm h2
   go_enter Tryz.func69,Tryz.ntmps69
   go_wp2_with fail
   refine(rarity_any _ _).mono ?_
   rintro e w' ⟨rfl,rfl⟩
   go_wp2_with fail
   refine(rarity_any _ _).mono ?_
   rintro e w' ⟨rfl,rfl⟩
   go_wp2_with fail
   refine(rconstants_any _ _ _ _).mono ?_
   rintro e w' ⟨rfl,rfl⟩
   go_wp2_with fail
   go_ret2
   exact⟨rfl,rfl⟩
  ·have h2':((n:Int) != ar op)=true:=by simp[h2]
   clear hm h2
   go_enter Tryz.func69,Tryz.ntmps69
   go_wp2_with fail
   refine(rarity_any _ _).mono ?_
   rintro e w' ⟨rfl,rfl⟩
   go_wp2_with fail
   refine(rarity_any _ _).mono ?_
   rintro e w' ⟨rfl,rfl⟩
   go_wp2_with fail
   go_ret2
   exact⟨rfl,rfl⟩
theorem rvalue_any (op k s:Int)(a:Option Addr)(n cap:Nat)(xs:List Int)(w:World)(h:Ints w a n cap xs) :
  Calls Tryz.prog 69 #[.int .i64 op,.int .i64 k,.int .i64 s,.slice a n cap] w fun e w'=>e=.returned (.tuple #[.int .i64 (valZ op k s xs).1,.int .i64 (valZ op k s xs).2])/\w'=w:=by
 have hl:=h.len
 by_cases hm:1<=ar op/\(n:Int)=ar op/\cons op k s=true
 ·obtain⟨m1,m2,m3⟩:=hm
  have hmb:mayB op k s xs=xs.all wd:=by simp[mayB,m1,m3,hl,m2]
  have h2':((n:Int) != ar op)=false:=by simp[m2]
  have h1:¬ar op < 1:=by omega
  have hm1:n<=9223372036854775807:=by have:=h.le;have:=h.max;unfold maxLen at this;omega
  have H:=hide h
  have HL:=hide hl
  have HMB:=hide hmb
  clear hl hmb h m1 m2
  go_enter Tryz.func69,Tryz.ntmps69
  go_wp2_with fail
  refine(rarity_any _ _).mono ?_
  rintro e w' ⟨rfl,rfl⟩
  go_wp2_with fail
  refine(rarity_any _ _).mono ?_
  rintro e w' ⟨rfl,rfl⟩
  go_wp2_with fail
  refine(rconstants_any _ _ _ _).mono ?_
  rintro e w' ⟨rfl,rfl⟩
  go_wp2_with fail
  go_loop [10] (fun i=>∃ j:Nat,j<=n/\i=.int .i64 j/\(xs.take j).all wd=true) (fun i=>n-(intOf i).toNat)
  case atStart=>exact⟨0,Nat.zero_le _,rfl,rfl⟩
  case round =>
   obtain⟨j,hj,rfl,hA⟩:=hrel
   have HA:=hide hA
   clear hA
   by_cases hlt:j < n
   ·obtain⟨b1,o1,rfl,_,hc1⟩:=H.out.at (by omega)
    have g1:=hc1 j hlt
    clear hc1
    generalize ea:xs.getD j 0=x at g1
    have EA:=hide ea
    clear ea
    cases hx:wd x
    ·have HV:Hid (valZ op k s xs=(0,1)):=by
      unfold Hid valZ
      rw[if_neg]
      rw[HMB.out]
      simp only[Bool.not_eq_true,List.all_eq_false]
      refine⟨x,?_,by simp[hx]⟩
      have e1:=EA.out
      rw[<-e1]
      simp[List.getD,HL.out,hlt]
     go_wp2_with fail
     refine(rword_any _ _).mono ?_
     rintro e w' ⟨rfl,rfl⟩
     go_wp2_with fail
     go_ret2
     exact⟨ret_two (show (0:Int)=(valZ op k s xs).1 by rw[HV.out]) (show (1:Int)=(valZ op k s xs).2 by rw[HV.out]),rfl⟩
    ·go_wp2_with fail
     refine(rword_any _ _).mono ?_
     rintro e w' ⟨rfl,rfl⟩
     go_wp2_with fail
     go_round
     case rel=>exact⟨j+1,by omega,by go_num,all_take_succ (by rw[HL.out];exact hlt) HA.out (by rw[EA.out];exact hx)⟩
     case measure=>simp[intOf];omega
   ·have hall:mayB op k s xs=true:=by
     rw[HMB.out]
     have h3:=HA.out
     rw[List.take_of_length_le (by rw[HL.out];omega)] at h3
     exact h3
    have PL:=hide (plain_any op k s a n cap xs _ H.out hall)
    have HV:=hide (val_fin hall)
    generalize ex op k s (xs.getD 0 0) (xs.getD 1 0) (xs.getD 2 0)=E at *
    obtain⟨x,e⟩:=E
    clear hall
    by_cases he:e=0
    ·subst he
     cases hx:wd x
     ·have HV2:Hid (valZ op k s xs=(0,13)):=hide (by rw[HV.out];simp[fin,hx])
      go_wp2_with fail
      refine PL.out.mono ?_
      rintro e w' ⟨rfl,rfl⟩
      go_wp2_with fail
      refine(rword_any _ _).mono ?_
      rintro e w' ⟨rfl,rfl⟩
      go_wp2_with fail
      go_ret2
      exact⟨ret_two (show (0:Int)=(valZ op k s xs).1 by rw[HV2.out]) (show (13:Int)=(valZ op k s xs).2 by rw[HV2.out]),rfl⟩
     ·have HV2:Hid (valZ op k s xs=(x,0)):=hide (by rw[HV.out];simp[fin,hx])
      go_wp2_with fail
      refine PL.out.mono ?_
      rintro e w' ⟨rfl,rfl⟩
      go_wp2_with fail
      refine(rword_any _ _).mono ?_
      rintro e w' ⟨rfl,rfl⟩
      go_wp2_with fail
      go_ret2
      exact⟨ret_two (show (x:Int)=(valZ op k s xs).1 by rw[HV2.out]) (show (0:Int)=(valZ op k s xs).2 by rw[HV2.out]),rfl⟩
    ·have HV2:Hid (valZ op k s xs=(0,e)):=hide (by rw[HV.out];simp[fin,he])
     have he':(e != 0)=true:=by simp[he]
     clear he
     go_wp2_with fail
     refine PL.out.mono ?_
     rintro r w' ⟨rfl,rfl⟩
     go_wp2_with fail
     go_ret2
     exact⟨ret_two (show (0:Int)=(valZ op k s xs).1 by rw[HV2.out]) (show (e:Int)=(valZ op k s xs).2 by rw[HV2.out]),rfl⟩
 ·have hv:valZ op k s xs=(0,1):=by
   unfold valZ
   rw[if_neg]
   intro hb
   simp only[mayB,Bool.and_eq_true,decide_eq_true_eq] at hb
   exact hm ⟨hb.1.1.1,by rw[<-hl];exact hb.1.1.2,hb.1.2⟩
  rw[hv]
  exact rvalue_head op k s a n cap xs w h hm
end Go.Proofs.YtimdcmponhcngaaGreat.Spn
namespace Go.Proofs.YtimdcmponhcngaaGreat.Knd
open Go.RowKit
set_option linter.unusedVariables false
set_option maxRecDepth 100000
set_option maxHeartbeats 16000000
def sndZ (p:Plc):Option Int :=
 if p.coords≠1\/p.y≠0 then none
 else if p.back=0/\-16<=p.x/\p.x<=-1 then some (16+p.x)
 else if 0 < p.back/\-4<=p.x/\p.x<=0 then some (16+5*(p.back-1)+4+p.x)
 else none
def imgZ (p:Plc):Option Int :=
 if p.coords≠2 then none
 else if 0 < p.back then
  (if p.x < -1\/1 < p.x\/p.y < -1\/1 < p.y then none else some (17+9*(p.back-1)+3*(p.y+1)+p.x+1))
 else if p.x < -3\/3 < p.x\/p.y < -2\/0 < p.y\/(p.y=0/\0<=p.x) then none
 else some (7*(p.y+2)+p.x+3)
def rnumZ (f d:Int)(p:Plc):Option Int :=
 if ¬May f d\/p.back < 0\/3 < p.back then none else if f=1 then sndZ p else imgZ p
def optV (o:Option Int):Value:=.tuple #[.int .i64 (o.getD 0),.bool o.isSome]
theorem rnum_snd (d:Int)(p:Plc)(hm:May 1 d)(h0:0<=p.back)(h3:p.back<=3)(hc:p.coords=1)(hy:p.y=0)(w:World) :
  Calls Tryz.prog 60 #[.agg #[.int .i64 1,.int .i64 d],.agg #[.int .i64 p.back,.int .i64 p.coords,.int .i64 p.x,.int .i64 p.y]] w fun e w'=>e=.returned (optV (sndZ p))/\Below w.heap.size w w':=by
 have HB1:=hide ((bel1 w (.cells #[.int .i64 1,.int .i64 d] 23)).alloc (by simp) (.cells #[.int .i64 p.back,.int .i64 p.coords,.int .i64 p.x,.int .i64 p.y] 65))
 have e:sndZ p=(if p.back=0/\-16<=p.x/\p.x<=-1 then some (16+p.x) else if 0 < p.back/\-4<=p.x/\p.x<=0 then some (16+5*(p.back-1)+4+p.x) else none):=by simp[sndZ,hc,hy]
 rw[e]
 clear e
 obtain⟨b,c,x,y⟩:=p
 simp only at h0 h3 hc hy ⊢
 subst hc hy
 go_enter Tryz.func60,Tryz.ntmps60
 go_wp2_with (go_at_call 58;refine(rmay_ok _ _ _ hm).mono ?_;rintro e w2 ⟨rfl,hb2⟩;obtain⟨hc2,hf2⟩:=bcell hb2)
 all_goals go_ret2
 all_goals exact⟨rfl,bel HB1.out hb2⟩
theorem rnum_snd_c (d:Int)(p:Plc)(hm:May 1 d)(h0:0<=p.back)(h3:p.back<=3)(hc:p.coords≠1)(w:World) :
  Calls Tryz.prog 60 #[.agg #[.int .i64 1,.int .i64 d],.agg #[.int .i64 p.back,.int .i64 p.coords,.int .i64 p.x,.int .i64 p.y]] w fun e w'=>e=.returned (optV (sndZ p))/\Below w.heap.size w w':=by
 have HB1:=hide ((bel1 w (.cells #[.int .i64 1,.int .i64 d] 23)).alloc (by simp) (.cells #[.int .i64 p.back,.int .i64 p.coords,.int .i64 p.x,.int .i64 p.y] 65))
 have e:sndZ p=none:=by simp[sndZ,hc]
 rw[e]
 clear e
 obtain⟨b,c,x,y⟩:=p
 simp only at h0 h3 hc ⊢
 have hc':(c != 1)=true:=by simp[hc]
 go_enter Tryz.func60,Tryz.ntmps60
 go_wp2_with (go_at_call 58;refine(rmay_ok _ _ _ hm).mono ?_;rintro e w2 ⟨rfl,hb2⟩;obtain⟨hc2,hf2⟩:=bcell hb2)
 all_goals go_ret2
 all_goals exact⟨rfl,bel HB1.out hb2⟩
theorem rnum_snd_y (d:Int)(p:Plc)(hm:May 1 d)(h0:0<=p.back)(h3:p.back<=3)(hc:p.coords=1)(hy:p.y≠0)(w:World) :
  Calls Tryz.prog 60 #[.agg #[.int .i64 1,.int .i64 d],.agg #[.int .i64 p.back,.int .i64 p.coords,.int .i64 p.x,.int .i64 p.y]] w fun e w'=>e=.returned (optV (sndZ p))/\Below w.heap.size w w':=by
 have HB1:=hide ((bel1 w (.cells #[.int .i64 1,.int .i64 d] 23)).alloc (by simp) (.cells #[.int .i64 p.back,.int .i64 p.coords,.int .i64 p.x,.int .i64 p.y] 65))
 have e:sndZ p=none:=by simp[sndZ,hy]
 rw[e]
 clear e
 obtain⟨b,c,x,y⟩:=p
 simp only at h0 h3 hc hy ⊢
 subst hc
 have hy':(y != 0)=true:=by simp[hy]
 go_enter Tryz.func60,Tryz.ntmps60
 go_wp2_with (go_at_call 58;refine(rmay_ok _ _ _ hm).mono ?_;rintro e w2 ⟨rfl,hb2⟩;obtain⟨hc2,hf2⟩:=bcell hb2)
 all_goals go_ret2
 all_goals exact⟨rfl,bel HB1.out hb2⟩
theorem rnum_img_c (d:Int)(p:Plc)(hm:May 0 d)(h0:0<=p.back)(h3:p.back<=3)(hc:p.coords≠2)(w:World) :
  Calls Tryz.prog 60 #[.agg #[.int .i64 0,.int .i64 d],.agg #[.int .i64 p.back,.int .i64 p.coords,.int .i64 p.x,.int .i64 p.y]] w fun e w'=>e=.returned (optV (imgZ p))/\Below w.heap.size w w':=by
 have HB1:=hide ((bel1 w (.cells #[.int .i64 0,.int .i64 d] 23)).alloc (by simp) (.cells #[.int .i64 p.back,.int .i64 p.coords,.int .i64 p.x,.int .i64 p.y] 65))
 have e:imgZ p=none:=by simp[imgZ,hc]
 rw[e]
 clear e
 obtain⟨b,c,x,y⟩:=p
 simp only at h0 h3 hc ⊢
 have hc':(c != 2)=true:=by simp[hc]
 go_enter Tryz.func60,Tryz.ntmps60
 go_wp2_with (go_at_call 58;refine(rmay_ok _ _ _ hm).mono ?_;rintro e w2 ⟨rfl,hb2⟩;obtain⟨hc2,hf2⟩:=bcell hb2)
 all_goals go_ret2
 all_goals exact⟨rfl,bel HB1.out hb2⟩
theorem rnum_img_b (d:Int)(p:Plc)(hm:May 0 d)(h0:0 < p.back)(h3:p.back<=3)(hc:p.coords=2)(w:World) :
  Calls Tryz.prog 60 #[.agg #[.int .i64 0,.int .i64 d],.agg #[.int .i64 p.back,.int .i64 p.coords,.int .i64 p.x,.int .i64 p.y]] w fun e w'=>e=.returned (optV (imgZ p))/\Below w.heap.size w w':=by
 have HB1:=hide ((bel1 w (.cells #[.int .i64 0,.int .i64 d] 23)).alloc (by simp) (.cells #[.int .i64 p.back,.int .i64 p.coords,.int .i64 p.x,.int .i64 p.y] 65))
 have e:imgZ p=(if p.x < -1\/1 < p.x\/p.y < -1\/1 < p.y then none else some (17+9*(p.back-1)+3*(p.y+1)+p.x+1)):=by simp[imgZ,hc,h0]
 rw[e]
 clear e
 obtain⟨b,c,x,y⟩:=p
 simp only at h0 h3 hc ⊢
 subst hc
 have h0':¬b < 0:=by omega
 go_enter Tryz.func60,Tryz.ntmps60
 go_wp2_with (go_at_call 58;refine(rmay_ok _ _ _ hm).mono ?_;rintro e w2 ⟨rfl,hb2⟩;obtain⟨hc2,hf2⟩:=bcell hb2)
 all_goals go_ret2
 all_goals exact⟨rfl,bel HB1.out hb2⟩
theorem rnum_img_0 (d:Int)(p:Plc)(hm:May 0 d)(h0:p.back=0)(hc:p.coords=2)(w:World) :
  Calls Tryz.prog 60 #[.agg #[.int .i64 0,.int .i64 d],.agg #[.int .i64 p.back,.int .i64 p.coords,.int .i64 p.x,.int .i64 p.y]] w fun e w'=>e=.returned (optV (imgZ p))/\Below w.heap.size w w':=by
 have HB1:=hide ((bel1 w (.cells #[.int .i64 0,.int .i64 d] 23)).alloc (by simp) (.cells #[.int .i64 p.back,.int .i64 p.coords,.int .i64 p.x,.int .i64 p.y] 65))
 have e:imgZ p=(if p.x < -3\/3 < p.x\/p.y < -2\/0 < p.y\/(p.y=0/\0<=p.x) then none else some (7*(p.y+2)+p.x+3)):=by simp[imgZ,hc,h0]
 rw[e]
 clear e
 obtain⟨b,c,x,y⟩:=p
 simp only at h0 hc ⊢
 subst hc h0
 go_enter Tryz.func60,Tryz.ntmps60
 go_wp2_with (go_at_call 58;refine(rmay_ok _ _ _ hm).mono ?_;rintro e w2 ⟨rfl,hb2⟩;obtain⟨hc2,hf2⟩:=bcell hb2)
 all_goals go_ret2
 all_goals exact⟨rfl,bel HB1.out hb2⟩
theorem rnum_neg (f d:Int)(p:Plc)(hm:May f d)(h0:p.back < 0)(w:World) :
  Calls Tryz.prog 60 #[.agg #[.int .i64 f,.int .i64 d],.agg #[.int .i64 p.back,.int .i64 p.coords,.int .i64 p.x,.int .i64 p.y]] w fun e w'=>e=.returned (optV (rnumZ f d p))/\Below w.heap.size w w':=by
 have HB1:=hide ((bel1 w (.cells #[.int .i64 f,.int .i64 d] 23)).alloc (by simp) (.cells #[.int .i64 p.back,.int .i64 p.coords,.int .i64 p.x,.int .i64 p.y] 65))
 have e:rnumZ f d p=none:=by simp[rnumZ,h0]
 rw[e]
 clear e
 obtain⟨b,c,x,y⟩:=p
 simp only at h0 ⊢
 go_enter Tryz.func60,Tryz.ntmps60
 go_wp2_with (go_at_call 58;refine(rmay_ok _ _ _ hm).mono ?_;rintro e w2 ⟨rfl,hb2⟩;obtain⟨hc2,hf2⟩:=bcell hb2)
 all_goals go_ret2
 all_goals exact⟨rfl,bel HB1.out hb2⟩
theorem rnum_big (f d:Int)(p:Plc)(hm:May f d)(h0:3 < p.back)(w:World) :
  Calls Tryz.prog 60 #[.agg #[.int .i64 f,.int .i64 d],.agg #[.int .i64 p.back,.int .i64 p.coords,.int .i64 p.x,.int .i64 p.y]] w fun e w'=>e=.returned (optV (rnumZ f d p))/\Below w.heap.size w w':=by
 have HB1:=hide ((bel1 w (.cells #[.int .i64 f,.int .i64 d] 23)).alloc (by simp) (.cells #[.int .i64 p.back,.int .i64 p.coords,.int .i64 p.x,.int .i64 p.y] 65))
 have e:rnumZ f d p=none:=by simp[rnumZ,h0]
 rw[e]
 clear e
 obtain⟨b,c,x,y⟩:=p
 simp only at h0 ⊢
 have h1:decide (b < 0)=false:=by simp;omega
 go_enter Tryz.func60,Tryz.ntmps60
 go_wp2_with (go_at_call 58;refine(rmay_ok _ _ _ hm).mono ?_;rintro e w2 ⟨rfl,hb2⟩;obtain⟨hc2,hf2⟩:=bcell hb2)
 all_goals go_ret2
 all_goals exact⟨rfl,bel HB1.out hb2⟩
theorem rnum_bad (f d:Int)(p:Plc)(hm:¬May f d)(w:World) :
  Calls Tryz.prog 60 #[.agg #[.int .i64 f,.int .i64 d],.agg #[.int .i64 p.back,.int .i64 p.coords,.int .i64 p.x,.int .i64 p.y]] w fun e w'=>e=.returned (optV (rnumZ f d p))/\Below w.heap.size w w':=by
 have HB1:=hide ((bel1 w (.cells #[.int .i64 f,.int .i64 d] 23)).alloc (by simp) (.cells #[.int .i64 p.back,.int .i64 p.coords,.int .i64 p.x,.int .i64 p.y] 65))
 have e:rnumZ f d p=none:=by simp[rnumZ,hm]
 rw[e]
 clear e
 obtain⟨b,c,x,y⟩:=p
 simp only at HB1 ⊢
 go_enter Tryz.func60,Tryz.ntmps60
 go_wp2_with (go_at_call 58;refine(rmay_bad _ _ _ hm).mono ?_;rintro e w2 ⟨rfl,hb2⟩;obtain⟨hc2,hf2⟩:=bcell hb2)
 all_goals go_ret2
 all_goals exact⟨rfl,bel HB1.out hb2⟩
theorem rnumber_any (f d:Int)(p:Plc)(w:World) :
  Calls Tryz.prog 60 #[.agg #[.int .i64 f,.int .i64 d],.agg #[.int .i64 p.back,.int .i64 p.coords,.int .i64 p.x,.int .i64 p.y]] w fun e w'=>e=.returned (optV (rnumZ f d p))/\Below w.heap.size w w':=by
 by_cases hm:May f d
 ·by_cases h0:p.back < 0
  ·exact rnum_neg f d p hm h0 w
  by_cases h3:3 < p.back
  ·exact rnum_big f d p hm h3 w
  rcases hm.1 with rfl|rfl
  ·have e:rnumZ 0 d p=imgZ p:=by simp[rnumZ,hm,h0,h3]
   rw[e]
   by_cases hc:p.coords=2
   ·by_cases hb:p.back=0
    ·exact rnum_img_0 d p hm hb hc w
    ·exact rnum_img_b d p hm (by omega) (by omega) hc w
   ·exact rnum_img_c d p hm (by omega) (by omega) hc w
  ·have e:rnumZ 1 d p=sndZ p:=by simp[rnumZ,hm,h0,h3]
   rw[e]
   by_cases hc:p.coords=1
   ·by_cases hy:p.y=0
    ·exact rnum_snd d p hm (by omega) (by omega) hc hy w
    ·exact rnum_snd_y d p hm (by omega) (by omega) hc hy w
   ·exact rnum_snd_c d p hm (by omega) (by omega) hc w
 ·exact rnum_bad f d p hm w
theorem imgA:∀ i,i < 44->imgZ ((plsAll imageB).getD i zp)=some (i:Int)/\0<=((plsAll imageB).getD i zp).back/\((plsAll imageB).getD i zp).back<=3:=by decide +kernel
theorem sndA:∀ i,i < 31->sndZ ((plsAll soundB).getD i zp)=some (i:Int)/\0<=((plsAll soundB).getD i zp).back/\((plsAll soundB).getD i zp).back<=3:=by decide +kernel
def okB (L:List Plc)(p:Plc):Option Int->Bool
 | none=>true
 | some n=>decide (0<=n)&&decide (L[n.toNat]?=some p)
theorem imgB:∀ b:Nat,b < 4->∀ x:Nat,x < 7->∀ y:Nat,y < 4->okB (plsAll imageB) ⟨(b:Int),2,(x:Int)-3,(y:Int)-2⟩ (imgZ ⟨(b:Int),2,(x:Int)-3,(y:Int)-2⟩)=true:=by decide +kernel
theorem sndB:∀ b:Nat,b < 4->∀ x:Nat,x < 17->okB (plsAll soundB) ⟨(b:Int),1,(x:Int)-16,0⟩ (sndZ ⟨(b:Int),1,(x:Int)-16,0⟩)=true:=by decide +kernel
theorem okB_some {L:List Plc}{p:Plc}{o:Option Int}{n:Int}(h:okB L p o=true)(e:o=some n):0<=n/\L[n.toNat]?=some p:=by
 subst e
 simpa [okB] using h
theorem imgB' (p:Plc)(n:Int)(h0:0<=p.back)(h3:p.back<=3)(h:imgZ p=some n):0<=n/\(plsAll imageB)[n.toNat]?=some p:=by
 obtain⟨b,c,x,y⟩:=p
 simp only at h0 h3
 have hbox:c=2/\-3<=x/\x<=3/\-2<=y/\y<=1:=by
  unfold imgZ at h
  simp only at h
  split at h
  ·cases h
  ·rename_i hc
   split at h
   ·split at h
    ·cases h
    ·rename_i h4;refine⟨by omega,by omega,by omega,by omega,by omega⟩
   ·split at h
    ·cases h
    ·rename_i h4;refine⟨by omega,by omega,by omega,by omega,by omega⟩
 obtain⟨rfl,h1,h2,h4,h5⟩:=hbox
 have e:(⟨b,2,x,y⟩:Plc)=⟨((b.toNat:Nat):Int),2,(((x+3).toNat:Nat):Int)-3,(((y+2).toNat:Nat):Int)-2⟩:=by
  simp only[Plc.mk.injEq];refine⟨by omega,trivial,by omega,by omega⟩
 have hk:=imgB b.toNat (by omega) (x+3).toNat (by omega) (y+2).toNat (by omega)
 rw[<-e] at hk
 exact okB_some hk h
theorem sndB' (p:Plc)(n:Int)(h0:0<=p.back)(h3:p.back<=3)(h:sndZ p=some n):0<=n/\(plsAll soundB)[n.toNat]?=some p:=by
 obtain⟨b,c,x,y⟩:=p
 simp only at h0 h3
 have hbox:c=1/\y=0/\-16<=x/\x<=0:=by
  unfold sndZ at h
  simp only at h
  split at h
  ·cases h
  ·rename_i hc
   split at h
   ·refine⟨by omega,by omega,by omega,by omega⟩
   ·split at h
    ·refine⟨by omega,by omega,by omega,by omega⟩
    ·cases h
 obtain⟨rfl,rfl,h1,h2⟩:=hbox
 have e:(⟨b,1,x,0⟩:Plc)=⟨((b.toNat:Nat):Int),1,(((x+16).toNat:Nat):Int)-16,0⟩:=by
  simp only[Plc.mk.injEq];refine⟨by omega,trivial,by omega,trivial⟩
 have hk:=sndB b.toNat (by omega) (x+16).toNat (by omega)
 rw[<-e] at hk
 exact okB_some hk h
theorem len44:(plsAll imageB).length=44:=by decide +kernel
theorem len31:(plsAll soundB).length=31:=by decide +kernel
theorem num_of_at (f d:Int)(i:Nat)(p:Plc)(h:(plcs f d)[i]?=some p):rnumZ f d p=some (i:Int):=by
 have hi:i < (plcs f d).length:=(List.getElem?_eq_some_iff.1 h).1
 rcases kind3 f d with⟨hm,rfl⟩|⟨hm,rfl⟩|hm
 ·have e:plcs 0 d=plsAll imageB:=by simp[plcs,blks,hm]
  rw[e] at h hi
  rw[len44] at hi
  obtain⟨h1,h2,h3⟩:=imgA i hi
  have hp:(plsAll imageB).getD i zp=p:=by simp[List.getD,h]
  rw[hp] at h1 h2 h3
  unfold rnumZ
  rw[if_neg (by simp[hm];omega),if_neg (by decide),h1]
 ·have e:plcs 1 d=plsAll soundB:=by simp[plcs,blks,hm]
  rw[e] at h hi
  rw[len31] at hi
  obtain⟨h1,h2,h3⟩:=sndA i hi
  have hp:(plsAll soundB).getD i zp=p:=by simp[List.getD,h]
  rw[hp] at h1 h2 h3
  unfold rnumZ
  rw[if_neg (by simp[hm];omega),if_pos rfl,h1]
 ·have e:plcs f d=[]:=by simp[plcs,blks,hm,plsAll]
  rw[e] at h
  simp at h
theorem at_of_num (f d:Int)(p:Plc)(n:Int)(h:rnumZ f d p=some n):0<=n/\(plcs f d)[n.toNat]?=some p:=by
 unfold rnumZ at h
 split at h
 ·cases h
 ·rename_i hc
  have hm:May f d:=Classical.byContradiction fun h'=>hc (.inl h')
  have h0:0<=p.back:=by omega
  have h3:p.back<=3:=by omega
  rcases hm.1 with rfl|rfl
  ·have e:plcs 0 d=plsAll imageB:=by simp[plcs,blks,hm]
   rw[e]
   exact imgB' p n h0 h3 h
  ·have e:plcs 1 d=plsAll soundB:=by simp[plcs,blks,hm]
   rw[e]
   exact sndB' p n h0 h3 h
theorem look_spec (L:List Plc)(p:Plc):∀ pre:List (Fin 64),(∀ m,look L pre p=some m->∃ i ∈ pre,i.val=m/\L.getD i.val zp=p)/\(look L pre p=none->∀ i ∈ pre,L.getD i.val zp≠p):=by
 intro pre
 obtain⟨qs,rfl⟩:∃ qs:List (Fin 64),pre=qs.reverse:=⟨pre.reverse,by simp⟩
 induction qs with
 | nil=>simp[look]
 | cons i qs ih =>
  rw[List.reverse_cons,look_snoc]
  by_cases e:L.getD i.val zp=p
  ·rw[if_pos e]
   exact⟨fun m hm=>⟨i,by simp,by simpa using hm,e⟩,fun h=>by cases h⟩
  ·rw[if_neg e]
   refine⟨fun m hm=>?_,fun h j hj=>?_⟩
   ·obtain⟨j,h1,h2⟩:=ih.1 m hm
    exact⟨j,by simp[h1],h2⟩
   ·rcases List.mem_append.1 hj with h1|h1
    ·exact ih.2 h j h1
    ·simp at h1;subst h1;exact e
theorem num_same (f d:Int)(p:Plc):numV f d p=optV (rnumZ f d p):=by
 have hle:=(blks_bound f d).1
 obtain⟨h1,h2⟩:=look_spec (plcs f d) p (upto (plcs f d).length)
 unfold numV numZ optV
 cases hz:look (plcs f d) (upto (plcs f d).length) p with
 | some m =>
  obtain⟨i,hi,rfl,hp⟩:=h1 m hz
  have hil:=(upto_mem _ _).1 hi
  have hp':(plcs f d)[i.val]?=some p:=by
   rw[<-hp];simp[List.getD,hil]
  rw[num_of_at f d i.val p hp']
  rfl
 | none =>
  have:rnumZ f d p=none:=by
   cases hr:rnumZ f d p with
   | none=>rfl
   | some n =>
    obtain⟨h3,h4⟩:=at_of_num f d p n hr
    have hlt:n.toNat < (plcs f d).length:=(List.getElem?_eq_some_iff.1 h4).1
    exact absurd (by simp[List.getD,h4]) (h2 hz ⟨n.toNat,by omega⟩ ((upto_mem _ _).2 hlt))
  rw[this]
  rfl
end Go.Proofs.YtimdcmponhcngaaGreat.Knd
