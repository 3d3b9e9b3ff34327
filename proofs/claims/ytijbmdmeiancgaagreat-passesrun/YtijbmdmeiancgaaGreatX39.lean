import Derived.Test.YtijbmdmeiancgaaGreatXH
import Derived.Lib.QuietBelow
import Derived.BigQuiet
import Derived.Deep.AppendLies
import Derived.Test.YtijbmdmeiancgaaGreatX23
import Derived.Test.YtijbmdmeiancgaaGreatX18
set_option maxRecDepth 100000
set_option maxHeartbeats 32000000
set_option linter.unusedVariables false
namespace Go.Proofs.Fld
open Go.RowKit Go.IntWalk Knd
open Cde (In i0 ia kd cd Ins kM aJ aL bJ dP dG jM abc jS zA dS Ls aM)
variable {j n:Nat} {V W:World} {M:List In} {L:List Int}
theorem aAq (k:Int){b off cap:Nat}{m:In}(hj:j < n)(c0:W.cell? ⟨b,off+j*6,none⟩=some (.int .i64 m.op))(c4:W.cell? ⟨b,off+j*6+4,none⟩=some (.int .i64 m.k))(hs:n<=9223372036854775807) :
  Calls Tryz.prog 88 #[.slice (some ⟨b,off,none⟩) n cap,.int .i64 (j:Int),.int .i64 k] W fun e W'=>e=.returned (.bool (m.op==1&&m.k==k))/\W'=W:=by
 have i0':(0:Int)<=j:=by omega
 have i1':(j:Int) < n:=by omega
 by_cases h1:m.op=1
 ·have q1:(m.op==1)=true:=by simpa using h1
  rw[q1]
  clear h1
  go_enter Tryz.func88,Tryz.ntmps88
  go_wp2_with fail
  go_ret
  exact⟨by simp,rfl⟩
 ·have q1:(m.op==1)=false:=by simpa using h1
  rw[q1]
  clear h1
  go_enter Tryz.func88,Tryz.ntmps88
  go_wp2_with fail
  go_ret
  exact⟨rfl,rfl⟩
theorem aEk (r k:Int){a:Option Addr}{cap:Nat}(hM:Ins W a n cap M)(hr:bO r n) :
  Calls Tryz.prog 88 #[.slice a n cap,.int .i64 r,.int .i64 k] W fun e W'=>e=.returned (.bool (isN M r k))/\W'=W:=by
 have hs:=hM.short
 obtain⟨j,rfl⟩:∃ k:Nat,r=k:=⟨r.toNat,by have:=hr.1;omega⟩
 have hj:j < n:=by have:=hr.2;omega
 obtain⟨b,off,rfl,-,hc⟩:=hM.at (by omega)
 obtain⟨c0,-,-,-,c4,-⟩:=hc j hj
 unfold isN rg
 rw[Int.toNat_natCast]
 exact aAq k hj c0 c4 hs
theorem aM6 (m:In){va:Option Addr}{vn vc:Nat}(hM:Ins W va vn vc M)(ho:bJ m vn=true) :
  Calls Tryz.prog 57 #[.slice va vn vc,.agg (ia m)] W fun e W'=>e=.returned (.tuple #[.int .i64 (qV M m).1,.bool (qV M m).2])/\Below W.heap.size W W':=by
 have hb1:=aH W (.cells (ia m) 57)
 have HI:=aC fun r k (h:bO r vn)=>aEk r k (hM.later hb1) h
 have HB:=aC hb1
 have hin:=fun r=>jR ho (r:=r)
 have HE:=aC (aJ (aI.new W 57 (ia m)))
 clear hM ho hb1
 by_cases h1:m.op=9\/m.op=17\/m.op=18\/m.op=20\/m.op=23
 ·rw[aSd h1]
  obtain⟨op,a,b,c,k,s⟩:=m
  dsimp only at h1
  obtain⟨e0,e1,e2,e3,e4,e5⟩:=HE.o
  clear hin HI
  rcases h1 with rfl|rfl|rfl|rfl|rfl
  all_goals
   go_enter Tryz.func57,Tryz.ntmps57
   go_wp2_with fail
   exact bodyPost_ret (v:=.tuple #[.int .i64 0,.bool (a==b)]) (by simp[results,Tryz.results57,go_sem]) rfl ⟨rfl,HB.o⟩
 by_cases h2:m.op=19\/m.op=21\/m.op=22
 ·rw[aR8 h2]
  obtain⟨op,a,b,c,k,s⟩:=m
  dsimp only at h2
  obtain⟨e0,e1,e2,e3,e4,e5⟩:=HE.o
  clear hin HI h1
  rcases h2 with rfl|rfl|rfl
  all_goals
   go_enter Tryz.func57,Tryz.ntmps57
   go_wp2_with fail
   exact bodyPost_ret (v:=.tuple #[.int .i64 1,.bool (a==b)]) (by simp[results,Tryz.results57,go_sem]) rfl ⟨rfl,HB.o⟩
 by_cases h3:m.op=10\/m.op=15
 ·rw[aSg h3]
  have ha2:ar m.op=2:=by rcases h3 with e|e <;> rw[e] <;> decide
  have HJ1:=aC (HI.o m.a 0 (hin m.a (by rw[fA ha2];simp)))
  have HJ2:=aC (HI.o m.b 0 (hin m.b (by rw[fA ha2];simp)))
  obtain⟨op,a,b,c,k,s⟩:=m
  dsimp only at h3 HJ1 HJ2 ⊢
  clear hin HI h1 h2 ha2 HE
  generalize isN M a 0=x at *
  generalize isN M b 0=y at *
  rcases h3 with rfl|rfl
  all_goals
   cases x
   ·go_enter Tryz.func57,Tryz.ntmps57
    go_wp2_with fail
    refine HJ1.o.mono ?_
    rintro e w' ⟨rfl,rfl⟩
    go_wp2_with fail
    refine HJ2.o.mono ?_
    rintro e w' ⟨rfl,rfl⟩
    go_wp2_with fail
    exact bodyPost_ret (v:=.tuple #[.int .i64 0,.bool y]) (by simp[results,Tryz.results57,go_sem]) rfl ⟨by simp,HB.o⟩
   ·go_enter Tryz.func57,Tryz.ntmps57
    go_wp2_with fail
    refine HJ1.o.mono ?_
    rintro e w' ⟨rfl,rfl⟩
    go_wp2_with fail
    exact bodyPost_ret (v:=.tuple #[.int .i64 0,.bool true]) (by simp[results,Tryz.results57,go_sem]) rfl ⟨by simp,HB.o⟩
 by_cases h4:m.op=12
 ·rw[aR1 h4]
  have ha2:ar m.op=2:=by rw[h4];decide
  have HJ2:=aC (HI.o m.b 1 (hin m.b (by rw[fA ha2];simp)))
  obtain⟨op,a,b,c,k,s⟩:=m
  dsimp only at h4 HJ2 ⊢
  clear hin HI h1 h2 h3 ha2 HE
  generalize isN M b 1=y at *
  subst h4
  go_enter Tryz.func57,Tryz.ntmps57
  go_wp2_with fail
  refine HJ2.o.mono ?_
  rintro e w' ⟨rfl,rfl⟩
  go_wp2_with fail
  exact bodyPost_ret (v:=.tuple #[.int .i64 0,.bool y]) (by simp[results,Tryz.results57,go_sem]) rfl ⟨rfl,HB.o⟩
 by_cases h5:m.op=32\/m.op=31
 ·rw[aQo h5]
  obtain⟨op,a,b,c,k,s⟩:=m
  dsimp only at h5
  obtain⟨e0,e1,e2,e3,e4,e5⟩:=HE.o
  clear hin HI h1 h2 h3 h4
  rcases h5 with rfl|rfl
  all_goals
   go_enter Tryz.func57,Tryz.ntmps57
   go_wp2_with fail
   generalize hV:W.alloc (.cells (ia ⟨_,a,b,c,k,s⟩) 57)=V at *
   generalize hq:W.heap.size=q at *
   go_quiet (fail)
   go_wp2_with fail
   exact bodyPost_ret (v:=.tuple #[.int .i64 0,.bool (k==0)]) (by simp[results,Tryz.results57,go_sem]) rfl ⟨rfl,by rw[<-hq] at *;exact Spn.oV HB.o _⟩
 ·rw[show qV M m=(0,false) by unfold qV;rw[if_neg h1,if_neg h2,if_neg h3,if_neg h4,if_neg h5]]
  obtain⟨op,a,b,c,k,s⟩:=m
  dsimp only at *
  have q9:(op==9)=false:=by simp;omega
  have q17:(op==17)=false:=by simp;omega
  have q18:(op==18)=false:=by simp;omega
  have q20:(op==20)=false:=by simp;omega
  have q23:(op==23)=false:=by simp;omega
  have q19:(op==19)=false:=by simp;omega
  have q21:(op==21)=false:=by simp;omega
  have q22:(op==22)=false:=by simp;omega
  have q10:(op==10)=false:=by simp;omega
  have q15:(op==15)=false:=by simp;omega
  have q12:(op==12)=false:=by simp;omega
  have q32:(op==32)=false:=by simp;omega
  have q31:(op==31)=false:=by simp;omega
  clear hin HI h1 h2 h3 h4 h5 HE
  go_enter Tryz.func57,Tryz.ntmps57
  go_wp2_with fail
  exact bodyPost_ret (v:=.tuple #[.int .i64 0,.bool false]) (by simp[results,Tryz.results57,go_sem]) rfl ⟨rfl,HB.o⟩
abbrev bA (L:List (Bool × Int)):Array Value:=(L.map fun p=>Value.bool p.1).toArray
abbrev rA (L:List (Bool × Int)):Array Value:=(L.map fun p=>Value.int .i64 p.2).toArray
theorem sH (L:List (Bool × Int)){i:Nat}(h:i < L.length):(bA L)[i]?=some (.bool (L.getD i (false,0)).1)/\(rA L)[i]?=some (.int .i64 (L.getD i (false,0)).2):=by
 simp[List.getD_eq_getElem?_getD,h]
theorem cK {g1 g2:Nat}{L:List (Bool × Int)}(h1:aI W g1 4 (bA L))(h2:aI W g2 3 (rA L))(hn:L.length=n)(h3:n<=3) :
  Calls Tryz.prog 89 #[.slice (some ⟨g1,0,none⟩) n n,.slice (some ⟨g2,0,none⟩) n n] W fun e W'=>e=.returned (.int .i64 (lT (-1) L))/\W'=W:=by
 have H1:=aC h1
 have H2:=aC h2
 have HN:=aC hn
 have HG:=aC fun i h=>sH L (i:=i) h
 have HD:=aC fun k h=>aEh (-1) L (k:=k) h
 have H0:Hid (lT (-1) (L.drop 0)=lT (-1) L):=aC rfl
 generalize lT (-1) L=z at *
 clear h1 h2 hn
 go_enter Tryz.func89,Tryz.ntmps89
 go_wp2_with fail
 go_loop [5] (fun i=>∃ k:Nat,k<=n/\i=.int .i64 k/\Hid (lT (-1) (L.drop k)=z)) (fun i=>n-(intOf i).toNat)
 case atStart=>exact⟨0,Nat.zero_le _,rfl,aC H0.o⟩
 case round =>
  obtain⟨k,hk,rfl,HZ⟩:=hrel
  clear H0
  by_cases hlt:k < n
  ·obtain⟨g0,g1'⟩:=HG.o k (by rw[HN.o];exact hlt)
   have c0:=H1.o.cell _ g0
   have c1:=H2.o.cell _ g1'
   have hD:=HD.o k (by rw[HN.o];exact hlt)
   rw[HZ.o] at hD
   generalize L.getD k (false,0)=p at *
   obtain⟨pb,pr⟩:=p
   have HD2:=aC hD
   have i0':(0:Int)<=k:=by omega
   have i1':(k:Int) < n:=by omega
   clear hD g0 g1'
   cases pb
   ·go_wp2_with fail
    go_round
    case rel=>exact⟨k+1,by omega,by go_num,aC (by have:=HD2.o;simpa using this.symm)⟩
    case measure=>simp[intOf];omega
   ·go_wp2_with fail
    go_ret
    exact⟨aN (by have:=HD2.o;simpa using this.symm),rfl⟩
  ·obtain rfl:k=n:=by omega
   have hZ:=HZ.o
   rw[List.drop_of_length_le (by rw[HN.o];exact Nat.le_refl _)] at hZ
   have HZ2:Hid (-1=z):=aC hZ
   clear hZ
   go_wp2_with fail
   go_ret
   exact⟨aN HZ2.o,rfl⟩
def AlP (w:World)(M:List In)(m:In)(e:Ending)(W':World):Prop :=
 (alN M m=false/\e=.returned (.tuple #[.slice none 0 0,.bool false])/\Below w.heap.size w W') \/
 (alN M m=true/\∃ v,e=.returned (.tuple #[v,.bool true])/\W'.ownsRow w.heap.size 3 1 v (vS M m).length (bY (vS M m))/\Below w.heap.size w W')
theorem aP8 (M:List In)(m:In):(vS M m).length=dG m:=by rw[vS,List.length_map,Cde.fD]
theorem aR4 (M:List In)(m:In){k:Nat}(h:k < dG m):(vS M m).getD k 0=(rg M (jS m k)).k:=by
 rw[<-Cde.nP m k h,vS]
 simp[List.getD_eq_getElem?_getD,List.getElem?_map,List.getElem?_eq_getElem (show k < (dP m).length by rw[Cde.fD];exact h)]
theorem aJq (m:In)(h:j < 3):(zA (abc m))[j]?=some (.int .i64 (jS m j)):=by
 rw[dS _ j (by simpa [abc] using h),Cde.rD m j h]
theorem aOr {m:In}(hj:j < dG m)(h:(rg M (jS m j)).op≠1):alN M m=false:=by
 cases hx:alN M m
 ·rfl
 ·exact absurd ((yE M m).1 hx j hj) h
theorem aG9 {base:Nat}{v:Value}{ops:Array Oper}{rest:List Oper}{o:Oper}{a:Act}{Q:Exit->Act->World->Prop}
  (hgd:o.guard=none) (s x:Operand) (ho:o.op=.call { callee:=.builtin .append,args:=#[s,x],argTypes:=#[27,27] })
  (hs:a.eval s=v) (hen:V.ownsRow base 3 1 v L.length (bY L)) (hbase:base<=V.heap.size) (b:Nat) (p:Int) (hx:a.eval x=.slice (some ⟨b,0,none⟩) 1 1) (hc:aI V b 3 #[.int .i64 p]) (h3:L.length<=2000000)
  (h:∀ g cap w',w'.ownsRow base 3 1 (.slice (some ⟨g,0,none⟩) (L.length+1) cap) (L++[p]).length (bY (L++[p]))->V.grownBy w' v.ownBlock->(v.ownBlock=some g\/g=V.heap.size)->wpList Tryz.prog ops Q rest (a.put o.dst (.slice (some ⟨g,0,none⟩) (L.length+1) cap)) w') :
  wpList Tryz.prog ops Q (o::rest) a V:=by
 obtain⟨i0',hi0,hz0,hz1,hz2⟩:=info_parts info3
 refine wpList_append_lies V hgd s x 27 ho base 3 i0' _ 1 8 Tryz.underlying27 hi0 hz0 hz1 hz2 rfl (by omega) v L.length (bY L) hs hen ⟨b,0,none⟩ 1 1 [.int .i64 p] hx rfl (Cde.oC hc) (by simp[Value.oneCell']) (by omega) (by unfold maxLen;omega) (by omega) hbase V.heap.size rfl ?_
 intro g cap w' hown hgrow hat hlt
 exact h g cap w' (by rw[List.length_append];simpa using hown) hgrow hat
structure Ag (W V:World)(s:Value)(L:List Int)(g:Nat)(cs:Array Value):Prop where
 gc:aI V g 3 cs
 l:Ls W V s L
 ne:s.ownBlock≠some g
theorem Ag.alloc {W V:World}{s:Value}{L:List Int}{g:Nat}{cs:Array Value}(h:Ag W V s L g cs)(o:Obj):Ag W (V.alloc o) s L g cs:=⟨h.gc.alloc o,h.l.alloc o,h.ne⟩
theorem Ag.grow {w':World}{s:Value}{L':List Int}{g g2 n2 c2:Nat}{cs:Array Value}(h:Ag W V s L g cs)(hg:V.grownBy w' s.ownBlock)(hO:w'.ownsRow W.heap.size 3 1 (.slice (some ⟨g2,0,none⟩) n2 c2) L'.length (bY L'))(hat:s.ownBlock=some g2\/g2=V.heap.size):Ag W w' (.slice (some ⟨g2,0,none⟩) n2 c2) L' g cs:=by
 have hlt:=h.gc.lt
 refine⟨h.gc.kept hg fun e=>h.ne e.symm,⟨hO,h.l.bel.grown hg h.l.bel.size fun k hk=>(Cde.aQ h.l.a k hk).1⟩,fun e=>?_⟩
 simp[Value.ownBlock] at e
 rcases hat with ha|ha
 ·rw[e] at ha;exact h.ne ha
 ·omega
theorem aI9 (m:In){va:Option Addr}{vn vc:Nat}(hM:Ins W va vn vc M)(ho:bJ m vn=true) :
  Calls Tryz.prog 55 #[.slice va vn vc,.agg (ia m)] W (AlP W M m):=by
 have HA:=aC fun w=>Cde.rW m w
 have HR:=aC fun j hj=>Cde.oD ho (j:=j) hj
 have HAb:=aC fun j (h:j < 3)=>aJq m h
 have HBad:=aC fun j=>aOr (M:=M) (m:=m) (j:=j)
 have HAll:=aC ((yE M m).2)
 have HKa:=aC fun k (h:k < dG m)=>aR4 M m h
 have HKl:=aC (aP8 M m)
 have h3':=Cde.lQ m
 have hs:=hM.short
 have HB0:=aC (aH W (.cells (ia m) 57))
 have HVW:=aC hM
 clear hM ho
 go_enter Tryz.func55,Tryz.ntmps55
 go_wp2_with fail
 refine(HA.o _).mono ?_
 rintro e V1 ⟨g,rfl,hg,hG,hb⟩
 have HB1:=aC (bel HB0.o hb)
 have hg2:W.heap.size+1<=g:=by simpa using hg
 have HL1:Hid (Ag W V1 (.slice none 0 0) [] g (zA (abc m))):=aC ⟨hG,⟨⟨rfl,.inl ⟨rfl,rfl⟩⟩,HB1.o⟩,fun h=>by cases h⟩
 clear hG hb HB0 HA hg
 generalize dG m=A at *
 go_wp2_with fail
 go_loopw [6,8] (fun s i wr=>∃ k:Nat,k<=A/\i=.int .i64 k/\Hid (∀ j,j < k->(rg M (jS m j)).op=1)/\Hid (Ag W wr s ((vS M m).take k) g (zA (abc m)))) (fun _ i _=>A-(intOf i).toNat)
 case atStart=>exact⟨0,Nat.zero_le _,rfl,aC (fun i hi=>absurd hi (Nat.not_lt_zero _)),HL1⟩
 case round =>
  obtain⟨k,hk,rfl,HF,HL⟩:=hrel
  rename World=>V
  clear HL1 HB1
  by_cases hlt:k < A
  ·obtain⟨p0,p1⟩:=HR.o k hlt
   have c0:=HL.o.gc.cell k (HAb.o k (by omega))
   have hKa:=HKa.o k hlt
   have HBd:=aC (HBad.o k hlt)
   have HF2:=aC fun(h:(rg M (jS m k)).op=1) (i:Nat) (hi:i < k+1)=>show (rg M (jS m i)).op=1 from by
    by_cases e:i < k
    ·exact HF.o i e
    ·obtain rfl:i=k:=by omega
     exact h
   have HTk:=aC (aM (0:Int) (L:=vS M m) (k:=k) (by rw[HKl.o];exact hlt))
   obtain⟨q,hq⟩:∃ q:Nat,jS m k=(q:Int):=⟨(jS m k).toNat,by omega⟩
   rw[hKa] at HTk
   unfold rg at HF2 HBd HTk
   rw[hq] at c0 p1 HF2 HBd HTk
   simp only[Int.toNat_natCast] at p1 HF2 HBd HTk
   obtain⟨b,off,rfl,-,hat⟩:=(HVW.o.later HL.o.l.bel).at (by omega)
   obtain⟨c1,-,-,-,c5,-⟩:=hat q (by omega)
   generalize M.getD q i0=z at *
   have i0':(0:Int)<=q:=by omega
   have i1':(q:Int) < vn:=by omega
   have j0:(0:Int)<=k:=by omega
   have j1:(k:Int) < A:=by omega
   clear hat hq p0 p1 HF hKa
   by_cases hop:z.op=1
   ·have q1:(z.op != 1)=false:=by simpa using hop
    have HF3:=aC (HF2.o hop)
    have HN5:=aC (aI.new V 3 #[.int .i64 z.k])
    have HL5:=aC (HL.o.alloc (.cells #[.int .i64 z.k] 3))
    have hlen:((vS M m).take k).length<=2000000:=by rw[List.length_take];omega
    clear HF2 hop HBd
    go_wp2_with (at_builtin;refine aG9 rfl _ _ rfl rfl HL5.o.l.a HL5.o.l.bel.size _ z.k rfl HN5.o hlen ?_;intro g2 cap2 w2 hown hgr hat)
    have HL6:=aC (HL5.o.grow hgr hown hat)
    clear hown hgr hat c0 c1 c5
    go_wp2_with fail
    go_roundw
    case rel=>exact⟨k+1,by omega,by go_num,aC HF3.o,aC (by rw[HTk.o,<-List.length_take];exact HL6.o)⟩
    case measure=>simp[intOf];omega
   ·have q1:(z.op != 1)=true:=by simpa using hop
    have HZ:=aC (HBd.o hop)
    have HB7:=aC HL.o.l.bel
    clear HF2 hop HBd
    go_wp2_with fail
    exact bodyPost_ret (v:=.tuple #[.slice none 0 0,.bool false]) (by simp[results,Tryz.results55,go_sem]) rfl (.inl ⟨HZ.o,rfl,HB7.o⟩)
  ·obtain rfl:k=A:=by omega
   have hT:=HL.o.l
   rw[List.take_of_length_le (by rw[HKl.o];exact Nat.le_refl _)] at hT
   have HZ:=aC (HAll.o HF.o)
   have HO:=aC hT.a
   have HB7:=aC hT.bel
   clear hT
   go_wp2_with fail
   exact bodyPost_ret (v:=.tuple #[u6,.bool true]) (by simp[results,Tryz.results55,go_sem]) rfl (.inr ⟨HZ.o,_,rfl,HO.o,HB7.o⟩)
end Go.Proofs.Fld
namespace Go.Proofs.Fld
open Go.RowKit Go.IntWalk Knd
open Cde (In i0 ia kd cd Ins kM aJ aL bJ aD)
theorem aS0 (o a b:Int)(p q r:Bool):lT o [(p,a),(q,a),(r,b)]=lT o [(p || q,a),(r,b)]:=by cases p <;> cases q <;> rfl
theorem aM4 (m:In){va:Option Addr}{vn vc:Nat}{M:List In}{W:World}(hM:Ins W va vn vc M)(ho:bJ m vn=true) :
  Calls Tryz.prog 58 #[.slice va vn vc,.agg (ia m)] W fun e W'=>e=.returned (.int .i64 (lT (-1) (iU M m)))/\Below W.heap.size W W':=by
 have hb1:=aH W (.cells (ia m) 57)
 have HB:=aC hb1
 have HM:=aC (hM.later hb1)
 have hs:=hM.short
 have hin:=fun r=>jR ho (r:=r)
 have HN:=aC (aI.new W 57 (ia m))
 clear hM ho hb1
 obtain⟨R,hR⟩:∃ R,lT (-1) (iU M m)=R:=⟨_,rfl⟩
 rw[hR]
 go_enter Tryz.func58,Tryz.ntmps58
 go_wp2_with fail
 obtain⟨V,hV⟩:∃ V,W.alloc (.cells (ia m) 57)=V:=⟨_,rfl⟩
 rw[hV] at HB HN HM ⊢
 obtain⟨e0,e1,e2,e3,e4,e5⟩:=aJ HN.o
 have y1:=cell_regrown e1
 have y2:=cell_regrown e2
 have y3:=cell_regrown e3
 refine wp_region_quiet_below gY (by kernel_rfl) ?_
 repeat (go_big_quiet_step (fail))
 refine wpQuiet_nil ?_
 intro V2 hw'
 obtain⟨⟨dq,osq⟩,hw''⟩:=hw'
 have hb:=below_regrown V dq osq
 simp only at hw''
 rw[<-hw''] at hb
 clear hw'' y1 y2 y3 e0 e1 e2 e3 e4 e5 hV
 have HB2:=aC (bel HB.o hb)
 have HN2:=aC (HN.o.below hb)
 have HM2:=aC (HM.o.later hb)
 have HI:=aC fun r k (h:bO r vn)=>aEk r k HM2.o h
 clear hb HB HN HM
 by_cases h0:m.op=8\/m.op=17
 ·rw[aQn h0] at hR
  have ha:ar m.op=2:=by rcases h0 with e|e <;> rw[e] <;> decide
  have ia:=hin m.a (by rw[fA ha];simp)
  have ib:=hin m.b (by rw[fA ha];simp)
  obtain⟨op,a,b,c,k,s⟩:=m
  dsimp only at h0 ha ia ib HN2 hR ⊢
  obtain⟨e0,e1,e2,e3,e4,e5⟩:=aJ HN2.o
  clear hin  ha
  have HJ1:=aC (HI.o a 0 ia)
  generalize isN M a 0=x0 at *
  have HJ2:=aC (HI.o b 0 ib)
  generalize isN M b 0=x1 at *
  have HR:=aC hR
  clear hR
  rcases h0 with rfl|rfl 
  all_goals
   go_wp2_with fail
   refine HJ1.o.mono ?_
   rintro e w' ⟨rfl,rfl⟩
   go_wp2_with fail
   refine HJ2.o.mono ?_
   rintro e w' ⟨rfl,rfl⟩
   go_wp2_with fail
   refine(cK (n:=2) (L:=[(x0,b),(x1,a)]) ((aI.new _ _ _).alloc _) (aL _ _ _ _) rfl (by decide)).mono ?_
   rintro e V3 ⟨rfl,rfl⟩
   go_wp2_with fail
   go_ret
   exact⟨aN (HR.o),bel (bel HB2.o (aH _ _)) (aH _ _)⟩
 by_cases h1:m.op=10
 ·rw[aRl h1] at hR
  have ha:ar m.op=2:=by rw[h1];decide
  have ia:=hin m.a (by rw[fA ha];simp)
  have ib:=hin m.b (by rw[fA ha];simp)
  obtain⟨op,a,b,c,k,s⟩:=m
  dsimp only at h1 ha ia ib HN2 hR ⊢
  obtain⟨e0,e1,e2,e3,e4,e5⟩:=aJ HN2.o
  clear hin h0 ha
  have HJ1:=aC (HI.o a 1 ia)
  generalize isN M a 1=x0 at *
  have HJ2:=aC (HI.o b 1 ib)
  generalize isN M b 1=x1 at *
  have HR:=aC hR
  clear hR
  subst h1
  go_wp2_with fail
  refine HJ1.o.mono ?_
  rintro e w' ⟨rfl,rfl⟩
  go_wp2_with fail
  refine HJ2.o.mono ?_
  rintro e w' ⟨rfl,rfl⟩
  go_wp2_with fail
  refine(cK (n:=2) (L:=[(x0,b),(x1,a)]) ((aI.new _ _ _).alloc _) (aL _ _ _ _) rfl (by decide)).mono ?_
  rintro e V3 ⟨rfl,rfl⟩
  go_wp2_with fail
  go_ret
  exact⟨aN (HR.o),bel (bel HB2.o (aH _ _)) (aH _ _)⟩
 by_cases h2:m.op=16
 ·rw[aRw h2] at hR
  have ha:ar m.op=2:=by rw[h2];decide
  have ia:=hin m.a (by rw[fA ha];simp)
  have ib:=hin m.b (by rw[fA ha];simp)
  obtain⟨op,a,b,c,k,s⟩:=m
  dsimp only at h2 ha ia ib HN2 hR ⊢
  obtain⟨e0,e1,e2,e3,e4,e5⟩:=aJ HN2.o
  clear hin h0 h1 ha
  have HJ1:=aC (HI.o a 0 ia)
  generalize isN M a 0=x0 at *
  have HJ2:=aC (HI.o b 0 ib)
  generalize isN M b 0=x1 at *
  have HR:=aC hR
  clear hR
  subst h2
  go_wp2_with fail
  refine HJ1.o.mono ?_
  rintro e w' ⟨rfl,rfl⟩
  go_wp2_with fail
  refine HJ2.o.mono ?_
  rintro e w' ⟨rfl,rfl⟩
  go_wp2_with fail
  refine(cK (n:=3) (L:=[(a==b,a),(x0,b),(x1,a)]) ((aI.new _ _ _).alloc _) (aL _ _ _ _) rfl (by decide)).mono ?_
  rintro e V3 ⟨rfl,rfl⟩
  go_wp2_with fail
  go_ret
  exact⟨aN (HR.o),bel (bel HB2.o (aH _ _)) (aH _ _)⟩
 by_cases h3:m.op=15
 ·rw[aQ9 h3] at hR
  have ha:ar m.op=2:=by rw[h3];decide
  have ia:=hin m.a (by rw[fA ha];simp)
  have ib:=hin m.b (by rw[fA ha];simp)
  obtain⟨op,a,b,c,k,s⟩:=m
  dsimp only at h3 ha ia ib HN2 hR ⊢
  obtain⟨e0,e1,e2,e3,e4,e5⟩:=aJ HN2.o
  clear hin h0 h1 h2 ha
  have HJ1:=aC (HI.o a (-1) ia)
  generalize isN M a (-1)=x0 at *
  have HJ2:=aC (HI.o b (-1) ib)
  generalize isN M b (-1)=x1 at *
  have HR:=aC hR
  clear hR
  subst h3
  go_wp2_with fail
  refine HJ1.o.mono ?_
  rintro e w' ⟨rfl,rfl⟩
  go_wp2_with fail
  refine HJ2.o.mono ?_
  rintro e w' ⟨rfl,rfl⟩
  go_wp2_with fail
  refine(cK (n:=3) (L:=[(a==b,a),(x0,b),(x1,a)]) ((aI.new _ _ _).alloc _) (aL _ _ _ _) rfl (by decide)).mono ?_
  rintro e V3 ⟨rfl,rfl⟩
  go_wp2_with fail
  go_ret
  exact⟨aN (HR.o),bel (bel HB2.o (aH _ _)) (aH _ _)⟩
 by_cases h4:m.op=24\/m.op=25
 ·rw[aRj h4] at hR
  have ha:ar m.op=2:=by rcases h4 with e|e <;> rw[e] <;> decide
  have ia:=hin m.a (by rw[fA ha];simp)
  have ib:=hin m.b (by rw[fA ha];simp)
  obtain⟨op,a,b,c,k,s⟩:=m
  dsimp only at h4 ha ia ib HN2 hR ⊢
  obtain⟨e0,e1,e2,e3,e4,e5⟩:=aJ HN2.o
  clear hin h0 h1 h2 h3 ha
  have HR:=aC hR
  clear hR
  rcases h4 with rfl|rfl 
  all_goals
   go_wp2_with fail
   refine(cK (n:=1) (L:=[(a==b,a)]) ((aI.new _ _ _).alloc _) (aL _ _ _ _) rfl (by decide)).mono ?_
   rintro e V3 ⟨rfl,rfl⟩
   go_wp2_with fail
   go_ret
   exact⟨aN (HR.o),bel (bel HB2.o (aH _ _)) (aH _ _)⟩
 by_cases h5:m.op=9\/m.op=13\/m.op=14
 ·rw[aQv h5] at hR
  have ha:ar m.op=2:=by rcases h5 with e|e|e <;> rw[e] <;> decide
  have ia:=hin m.a (by rw[fA ha];simp)
  have ib:=hin m.b (by rw[fA ha];simp)
  obtain⟨op,a,b,c,k,s⟩:=m
  dsimp only at h5 ha ia ib HN2 hR ⊢
  obtain⟨e0,e1,e2,e3,e4,e5⟩:=aJ HN2.o
  clear hin h0 h1 h2 h3 h4 ha
  have HJ1:=aC (HI.o b 0 ib)
  generalize isN M b 0=x0 at *
  have HR:=aC hR
  clear hR
  rcases h5 with rfl|rfl|rfl 
  all_goals
   go_wp2_with fail
   refine HJ1.o.mono ?_
   rintro e w' ⟨rfl,rfl⟩
   go_wp2_with fail
   refine(cK (n:=1) (L:=[(x0,a)]) ((aI.new _ _ _).alloc _) (aL _ _ _ _) rfl (by decide)).mono ?_
   rintro e V3 ⟨rfl,rfl⟩
   go_wp2_with fail
   go_ret
   exact⟨aN (HR.o),bel (bel HB2.o (aH _ _)) (aH _ _)⟩
 by_cases h6:m.op=11
 ·rw[aRs h6] at hR
  have ha:ar m.op=2:=by rw[h6];decide
  have ia:=hin m.a (by rw[fA ha];simp)
  have ib:=hin m.b (by rw[fA ha];simp)
  obtain⟨op,a,b,c,k,s⟩:=m
  dsimp only at h6 ha ia ib HN2 hR ⊢
  obtain⟨e0,e1,e2,e3,e4,e5⟩:=aJ HN2.o
  clear hin h0 h1 h2 h3 h4 h5 ha
  have HJ1:=aC (HI.o b 1 ib)
  generalize isN M b 1=x0 at *
  have HR:=aC hR
  clear hR
  subst h6
  go_wp2_with fail
  refine HJ1.o.mono ?_
  rintro e w' ⟨rfl,rfl⟩
  go_wp2_with fail
  refine(cK (n:=1) (L:=[(x0,a)]) ((aI.new _ _ _).alloc _) (aL _ _ _ _) rfl (by decide)).mono ?_
  rintro e V3 ⟨rfl,rfl⟩
  go_wp2_with fail
  go_ret
  exact⟨aN (HR.o),bel (bel HB2.o (aH _ _)) (aH _ _)⟩
 by_cases h7:m.op=29\/m.op=30
 ·rw[aRz h7] at hR
  have ha:ar m.op=1:=by rcases h7 with e|e <;> rw[e] <;> decide
  have ia:=hin m.a (by rw[sG ha];simp)
  obtain⟨op,a,b,c,k,s⟩:=m
  dsimp only at h7 ha ia HN2 hR ⊢
  obtain⟨e0,e1,e2,e3,e4,e5⟩:=aJ HN2.o
  clear hin h0 h1 h2 h3 h4 h5 h6 ha
  have HR:=aC hR
  clear hR
  rcases h7 with rfl|rfl 
  all_goals
   go_wp2_with fail
   refine(cK (n:=1) (L:=[(k==0,a)]) ((aI.new _ _ _).alloc _) (aL _ _ _ _) rfl (by decide)).mono ?_
   rintro e V3 ⟨rfl,rfl⟩
   go_wp2_with fail
   go_ret
   exact⟨aN (HR.o),bel (bel HB2.o (aH _ _)) (aH _ _)⟩
 by_cases h8:m.op=32
 ·rw[aQ5 h8] at hR
  have ha:ar m.op=1:=by rw[h8];decide
  have ia:=hin m.a (by rw[sG ha];simp)
  obtain⟨op,a,b,c,k,s⟩:=m
  dsimp only at h8 ha ia HN2 hR ⊢
  obtain⟨e0,e1,e2,e3,e4,e5⟩:=aJ HN2.o
  clear hin h0 h1 h2 h3 h4 h5 h6 h7 ha
  have HR:=aC hR
  clear hR
  subst h8
  go_wp2_with fail
  refine(cK (n:=1) (L:=[(k==1,a)]) ((aI.new _ _ _).alloc _) (aL _ _ _ _) rfl (by decide)).mono ?_
  rintro e V3 ⟨rfl,rfl⟩
  go_wp2_with fail
  go_ret
  exact⟨aN (HR.o),bel (bel HB2.o (aH _ _)) (aH _ _)⟩
 by_cases h9:m.op=5
 ·rw[aRi h9] at hR
  have ha:ar m.op=1:=by rw[h9];decide
  have ia:=hin m.a (by rw[sG ha];simp)
  obtain⟨ja,hja⟩:∃ k:Nat,m.a=k:=⟨m.a.toNat,by have:=ia.1;omega⟩
  have hj:ja < vn:=by have:=ia.2;omega
  obtain⟨g,off,rfl,hgl,hat⟩:=HM2.o.at (by omega)
  obtain⟨c0,c1,-,-,-,-⟩:=hat ja hj
  obtain⟨op,a,b,c,k,s⟩:=m
  dsimp only at h9 ha ia HN2 hR ⊢
  dsimp only at hja
  subst hja
  unfold rg at hR
  rw[Int.toNat_natCast] at hR
  obtain⟨e0,e1,e2,e3,e4,e5⟩:=aJ HN2.o
  clear hin h0 h1 h2 h3 h4 h5 h6 h7 h8 ha
  have HR:=aC hR
  clear hR
  subst h9
  have i0':(0:Int)<=ja:=by omega
  have i1':(ja:Int) < vn:=by omega
  generalize M.getD ja i0=z at *
  clear hat ia
  go_wp2_with fail
  have HF:=aC fun(V:World) (g1 g2:Nat) (h1:aI V g1 4 #[.bool (z.op==5)]) (h2:aI V g2 3 #[.int .i64 z.a])=>cK (n:=1) (L:=[(z.op==5,z.a)]) h1 h2 rfl (by decide)
  have hA1:aI (((V2.alloc (.cells #[.bool (z.op==5)] 4)).alloc (.cells #[.int .i64 z.a] 3)).drew) V2.heap.size 4 #[.bool (z.op==5)]:=((aI.new V2 4 #[.bool (z.op==5)]).alloc (.cells #[.int .i64 z.a] 3)).below (aD _)
  have hB1:aI (((V2.alloc (.cells #[.bool (z.op==5)] 4)).alloc (.cells #[.int .i64 z.a] 3)).drew) (V2.heap.size+1) 3 #[.int .i64 z.a]:=(aL V2 (.cells #[.bool (z.op==5)] 4) 3 #[.int .i64 z.a]).below (aD _)
  have hA2:aI (((V2.alloc (.cells #[.int .i64 z.a] 3)).alloc (.cells #[.bool (z.op==5)] 4)).drew) (V2.heap.size+1) 4 #[.bool (z.op==5)]:=(aL V2 (.cells #[.int .i64 z.a] 3) 4 #[.bool (z.op==5)]).below (aD _)
  have hB2:aI (((V2.alloc (.cells #[.int .i64 z.a] 3)).alloc (.cells #[.bool (z.op==5)] 4)).drew) V2.heap.size 3 #[.int .i64 z.a]:=((aI.new V2 3 #[.int .i64 z.a]).alloc (.cells #[.bool (z.op==5)] 4)).below (aD _)
  have hbx1:Below V2.heap.size V2 (((V2.alloc (.cells #[.bool (z.op==5)] 4)).alloc (.cells #[.int .i64 z.a] 3)).drew):=bel (bel (aH V2 _) (aH _ _)) (aD _)
  have hbx2:Below V2.heap.size V2 (((V2.alloc (.cells #[.int .i64 z.a] 3)).alloc (.cells #[.bool (z.op==5)] 4)).drew):=bel (bel (aH V2 _) (aH _ _)) (aD _)
  have hby1:Below V2.heap.size V2 ((V2.alloc (.cells #[.bool (z.op==5)] 4)).drew):=bel (aH V2 _) (aD _)
  have hby2:Below V2.heap.size V2 ((V2.alloc (.cells #[.int .i64 z.a] 3)).drew):=bel (aH V2 _) (aD _)
  have p0:=bN hbx1 c0 hgl
  have p1:=bN hbx1 c1 hgl
  have q0:=bN hbx2 c0 hgl
  have q1:=bN hbx2 c1 hgl
  have r0:=bN hby1 c0 hgl
  have r1:=bN hby1 c1 hgl
  have u0:=bN hby2 c0 hgl
  have u1:=bN hby2 c1 hgl
  have HBx1:=aC (bel HB2.o hbx1)
  have HBx2:=aC (bel HB2.o hbx2)
  clear hbx1 hbx2 hby1 hby2
  go_region_held3 (fun w'=>w'.cell? ⟨g,off+ja*6,none⟩=some (.int .i64 z.op)/\w'.cell? ⟨g,off+ja*6+1,none⟩=some (.int .i64 z.a))
   (first|with_reducible exact⟨c0,c1⟩|with_reducible exact⟨p0,p1⟩|with_reducible exact⟨q0,q1⟩|with_reducible exact⟨r0,r1⟩|with_reducible exact⟨u0,u1⟩|exact⟨c0,c1⟩|go_keep)
   ((first
    | (go_at_call 89;refine(HF.o _ _ _ (by first | with_reducible exact hA1 | with_reducible exact hA2) (by first | with_reducible exact hB1 | with_reducible exact hB2)).mono ?_;rintro e V3 ⟨rfl,rfl⟩)))
  all_goals
   clear p0 p1 q0 q1 r0 r1 u0 u1 hA1 hA2 hB1 hB2
   go_wp2_with fail
   go_ret
   refine⟨aN HR.o,?_⟩
   first|with_reducible exact HBx1.o|with_reducible exact HBx2.o
 by_cases h10:m.op=6
 ·rw[aNz h10] at hR
  have ha:ar m.op=1:=by rw[h10];decide
  have ia:=hin m.a (by rw[sG ha];simp)
  obtain⟨ja,hja⟩:∃ k:Nat,m.a=k:=⟨m.a.toNat,by have:=ia.1;omega⟩
  have hj:ja < vn:=by have:=ia.2;omega
  obtain⟨g,off,rfl,hgl,hat⟩:=HM2.o.at (by omega)
  obtain⟨c0,c1,-,-,-,-⟩:=hat ja hj
  obtain⟨op,a,b,c,k,s⟩:=m
  dsimp only at h10 ha ia HN2 hR ⊢
  dsimp only at hja
  subst hja
  unfold rg at hR
  rw[Int.toNat_natCast] at hR
  obtain⟨e0,e1,e2,e3,e4,e5⟩:=aJ HN2.o
  clear hin h0 h1 h2 h3 h4 h5 h6 h7 h8 h9 ha
  have HR:=aC hR
  clear hR
  subst h10
  have i0':(0:Int)<=ja:=by omega
  have i1':(ja:Int) < vn:=by omega
  generalize M.getD ja i0=z at *
  clear hat ia
  go_wp2_with fail
  refine(cK (n:=1) (L:=[(z.op==6,(ja:Int))]) ((aI.new _ _ _).alloc _) (aL _ _ _ _) rfl (by decide)).mono ?_
  rintro e V3 ⟨rfl,rfl⟩
  go_wp2_with fail
  go_ret
  exact⟨aN (HR.o),bel (bel HB2.o (aH _ _)) (aH _ _)⟩
 by_cases h11:m.op=28
 ·rw[aOa h11] at hR
  have ha:ar m.op=3:=by rw[h11];decide
  have ia:=hin m.a (by rw[kW ha];simp)
  have ib:=hin m.b (by rw[kW ha];simp)
  have ic:=hin m.c (by rw[kW ha];simp)
  obtain⟨ja,hja⟩:∃ k:Nat,m.a=k:=⟨m.a.toNat,by have:=ia.1;omega⟩
  have hj:ja < vn:=by have:=ia.2;omega
  obtain⟨g,off,rfl,hgl,hat⟩:=HM2.o.at (by omega)
  obtain⟨c0,-,-,-,c4,-⟩:=hat ja hj
  obtain⟨op,a,b,c,k,s⟩:=m
  dsimp only at h11 ha ia ib ic HN2 hR ⊢
  dsimp only at hja
  subst hja
  unfold isN rg at hR
  rw[Int.toNat_natCast] at hR
  obtain⟨e0,e1,e2,e3,e4,e5⟩:=aJ HN2.o
  clear hin h0 h1 h2 h3 h4 h5 h6 h7 h8 h9 h10 ha
  have HR:=aC hR
  clear hR
  subst h11
  have i0':(0:Int)<=ja:=by omega
  have i1':(ja:Int) < vn:=by omega
  generalize M.getD ja i0=z at *
  clear hat ia
  go_wp2_with fail
  have HF:=aC fun(V:World) (g1 g2:Nat) (h1:aI V g1 4 #[.bool (z.op==1&&z.k==0),.bool (z.op==1),.bool (b==c)]) (h2:aI V g2 3 #[.int .i64 c,.int .i64 b,.int .i64 b])=>cK (n:=3) (L:=[(z.op==1&&z.k==0,c),(z.op==1,b),(b==c,b)]) h1 h2 rfl (by decide)
  have hA1:aI (((V2.alloc (.cells #[.bool (z.op==1&&z.k==0),.bool (z.op==1),.bool (b==c)] 4)).alloc (.cells #[.int .i64 c,.int .i64 b,.int .i64 b] 3)).drew) V2.heap.size 4 #[.bool (z.op==1&&z.k==0),.bool (z.op==1),.bool (b==c)]:=((aI.new V2 4 #[.bool (z.op==1&&z.k==0),.bool (z.op==1),.bool (b==c)]).alloc (.cells #[.int .i64 c,.int .i64 b,.int .i64 b] 3)).below (aD _)
  have hB1:aI (((V2.alloc (.cells #[.bool (z.op==1&&z.k==0),.bool (z.op==1),.bool (b==c)] 4)).alloc (.cells #[.int .i64 c,.int .i64 b,.int .i64 b] 3)).drew) (V2.heap.size+1) 3 #[.int .i64 c,.int .i64 b,.int .i64 b]:=(aL V2 (.cells #[.bool (z.op==1&&z.k==0),.bool (z.op==1),.bool (b==c)] 4) 3 #[.int .i64 c,.int .i64 b,.int .i64 b]).below (aD _)
  have hA2:aI (((V2.alloc (.cells #[.int .i64 c,.int .i64 b,.int .i64 b] 3)).alloc (.cells #[.bool (z.op==1&&z.k==0),.bool (z.op==1),.bool (b==c)] 4)).drew) (V2.heap.size+1) 4 #[.bool (z.op==1&&z.k==0),.bool (z.op==1),.bool (b==c)]:=(aL V2 (.cells #[.int .i64 c,.int .i64 b,.int .i64 b] 3) 4 #[.bool (z.op==1&&z.k==0),.bool (z.op==1),.bool (b==c)]).below (aD _)
  have hB2:aI (((V2.alloc (.cells #[.int .i64 c,.int .i64 b,.int .i64 b] 3)).alloc (.cells #[.bool (z.op==1&&z.k==0),.bool (z.op==1),.bool (b==c)] 4)).drew) V2.heap.size 3 #[.int .i64 c,.int .i64 b,.int .i64 b]:=((aI.new V2 3 #[.int .i64 c,.int .i64 b,.int .i64 b]).alloc (.cells #[.bool (z.op==1&&z.k==0),.bool (z.op==1),.bool (b==c)] 4)).below (aD _)
  have hbx1:Below V2.heap.size V2 (((V2.alloc (.cells #[.bool (z.op==1&&z.k==0),.bool (z.op==1),.bool (b==c)] 4)).alloc (.cells #[.int .i64 c,.int .i64 b,.int .i64 b] 3)).drew):=bel (bel (aH V2 _) (aH _ _)) (aD _)
  have hbx2:Below V2.heap.size V2 (((V2.alloc (.cells #[.int .i64 c,.int .i64 b,.int .i64 b] 3)).alloc (.cells #[.bool (z.op==1&&z.k==0),.bool (z.op==1),.bool (b==c)] 4)).drew):=bel (bel (aH V2 _) (aH _ _)) (aD _)
  have hby1:Below V2.heap.size V2 ((V2.alloc (.cells #[.bool (z.op==1&&z.k==0),.bool (z.op==1),.bool (b==c)] 4)).drew):=bel (aH V2 _) (aD _)
  have hby2:Below V2.heap.size V2 ((V2.alloc (.cells #[.int .i64 c,.int .i64 b,.int .i64 b] 3)).drew):=bel (aH V2 _) (aD _)
  have p0:=bN hbx1 c0 hgl
  have p1:=bN hbx1 c4 hgl
  have q0:=bN hbx2 c0 hgl
  have q1:=bN hbx2 c4 hgl
  have r0:=bN hby1 c0 hgl
  have r1:=bN hby1 c4 hgl
  have u0:=bN hby2 c0 hgl
  have u1:=bN hby2 c4 hgl
  have HBx1:=aC (bel HB2.o hbx1)
  have HBx2:=aC (bel HB2.o hbx2)
  clear hbx1 hbx2 hby1 hby2
  go_region_held3 (fun w'=>w'.cell? ⟨g,off+ja*6,none⟩=some (.int .i64 z.op)/\w'.cell? ⟨g,off+ja*6+4,none⟩=some (.int .i64 z.k))
   (first|with_reducible exact⟨c0,c4⟩|with_reducible exact⟨p0,p1⟩|with_reducible exact⟨q0,q1⟩|with_reducible exact⟨r0,r1⟩|with_reducible exact⟨u0,u1⟩|exact⟨c0,c4⟩|go_keep)
   ((first
    | (go_at_call 88;refine(aAq 0 hj (by first | with_reducible exact c0 | with_reducible exact r0 | with_reducible exact u0 | exact c0 | go_keep) (by first | with_reducible exact c4 | with_reducible exact r1 | with_reducible exact u1 | exact c4 | go_keep) hs).mono ?_;rintro e w2 ⟨rfl,rfl⟩)
    | (go_at_call 89;refine(HF.o _ _ _ (by first | with_reducible exact hA1 | with_reducible exact hA2) (by first | with_reducible exact hB1 | with_reducible exact hB2)).mono ?_;rintro e V3 ⟨rfl,rfl⟩)))
  all_goals
   clear p0 p1 q0 q1 r0 r1 u0 u1 hA1 hA2 hB1 hB2
   go_wp2_with fail
   go_ret
   refine⟨aN HR.o,?_⟩
   first|with_reducible exact HBx1.o|with_reducible exact HBx2.o
 by_cases h12:m.op=27
 ·rw[aOh h12] at hR
  have ha:ar m.op=3:=by rw[h12];decide
  have ia:=hin m.a (by rw[kW ha];simp)
  have ib:=hin m.b (by rw[kW ha];simp)
  have ic:=hin m.c (by rw[kW ha];simp)
  obtain⟨op,a,b,c,k,s⟩:=m
  dsimp only at h12 ha ia ib ic HN2 hR ⊢
  obtain⟨e0,e1,e2,e3,e4,e5⟩:=aJ HN2.o
  clear hin h0 h1 h2 h3 h4 h5 h6 h7 h8 h9 h10 h11 ha
  have HR:=aC hR
  clear hR
  subst h12
  go_wp2_with fail
  refine(cK (n:=3) (L:=[(a==b,a),(a==c,a),(b==c,b)]) ((aI.new _ _ _).alloc _) (aL _ _ _ _) rfl (by decide)).mono ?_
  rintro e V3 ⟨rfl,rfl⟩
  go_wp2_with fail
  go_ret
  exact⟨aN ((aS0 _ _ _ _ _ _).trans HR.o),bel (bel HB2.o (aH _ _)) (aH _ _)⟩
 by_cases h13:m.op=26
 ·rw[aOf h13] at hR
  have ha:ar m.op=3:=by rw[h13];decide
  have ia:=hin m.a (by rw[kW ha];simp)
  have ib:=hin m.b (by rw[kW ha];simp)
  have ic:=hin m.c (by rw[kW ha];simp)
  obtain⟨op,a,b,c,k,s⟩:=m
  dsimp only at h13 ha ia ib ic HN2 hR ⊢
  obtain⟨e0,e1,e2,e3,e4,e5⟩:=aJ HN2.o
  clear hin h0 h1 h2 h3 h4 h5 h6 h7 h8 h9 h10 h11 h12 ha
  have HR:=aC hR
  clear hR
  subst h13
  go_wp2_with fail
  refine(cK (n:=1) (L:=[(b==c,b)]) ((aI.new _ _ _).alloc _) (aL _ _ _ _) rfl (by decide)).mono ?_
  rintro e V3 ⟨rfl,rfl⟩
  go_wp2_with fail
  go_ret
  exact⟨aN (HR.o),bel (bel HB2.o (aH _ _)) (aH _ _)⟩
 ·rw[show iU M m=[] by unfold iU;rw[if_neg h0,if_neg h1,if_neg h2,if_neg h3,if_neg h4,if_neg h5,if_neg h6,if_neg h7,if_neg h8,if_neg h9,if_neg h10,if_neg h11,if_neg h12,if_neg h13]] at hR
  obtain⟨op,a,b,c,k,s⟩:=m
  dsimp only at *
  have q5:(op==5)=false:=by simp;omega
  have q6:(op==6)=false:=by simp;omega
  have q8:(op==8)=false:=by simp;omega
  have q9:(op==9)=false:=by simp;omega
  have q10:(op==10)=false:=by simp;omega
  have q11:(op==11)=false:=by simp;omega
  have q13:(op==13)=false:=by simp;omega
  have q14:(op==14)=false:=by simp;omega
  have q15:(op==15)=false:=by simp;omega
  have q16:(op==16)=false:=by simp;omega
  have q17:(op==17)=false:=by simp;omega
  have q24:(op==24)=false:=by simp;omega
  have q25:(op==25)=false:=by simp;omega
  have q26:(op==26)=false:=by simp;omega
  have q27:(op==27)=false:=by simp;omega
  have q28:(op==28)=false:=by simp;omega
  have q29:(op==29)=false:=by simp;omega
  have q30:(op==30)=false:=by simp;omega
  have q32:(op==32)=false:=by simp;omega
  obtain⟨e0,e1,e2,e3,e4,e5⟩:=aJ HN2.o
  clear hin HI h0 h1 h2 h3 h4 h5 h6 h7 h8 h9 h10 h11 h12 h13
  go_wp2_with fail
  go_ret
  exact⟨aN hR,HB2.o⟩
end Go.Proofs.Fld
