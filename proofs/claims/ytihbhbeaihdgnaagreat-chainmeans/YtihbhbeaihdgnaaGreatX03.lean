import Derived.Test.YtihbhbeaihdgnaaGreatXH
import Derived.Deep.QuietTactic
import Derived.BigQuiet
import Derived.Deep.CutRange
import Derived.Great.Walk
import Derived.Deep.RegionLaw
import Derived.Test.YtihbhbeaihdgnaaGreatX02
set_option maxRecDepth 100000
set_option maxHeartbeats 32000000
set_option linter.unusedVariables false
namespace Go.Proofs.YtihbhbeaihdgnaaGreat
open Go.RowKit Go.IntWalk Lx Pz
theorem dI {s:ByteArray}{l:List UInt8}(h:bs s=l):s=sB l:=by rw[<-h,aEm]
theorem kS {s:ByteArray}{l:List UInt8}(h:¬bs s=l):(s.toList==l)=false:=by rw[gZ];simpa using h
theorem wC (s:ByteArray)(W:World):Calls Tryz.prog 146 #[.string s] W fun e W'=>e=.returned (.int .i64 (aY (bs s)))/\W'=W:=by
 by_cases h0:bs s=[97,98,115]
 ·obtain rfl:=dI h0
  rw[show aY (bs (sB [97,98,115]))=6 by decide]
  go_enter Tryz.func146,Tryz.ntmps146
  go_wp2
  go_ret
  exact⟨rfl,rfl⟩
 by_cases h1:bs s=[115,103,110]
 ·obtain rfl:=dI h1
  rw[show aY (bs (sB [115,103,110]))=7 by decide]
  go_enter Tryz.func146,Tryz.ntmps146
  go_wp2
  go_ret
  exact⟨rfl,rfl⟩
 by_cases h2:bs s=[109,105,110]
 ·obtain rfl:=dI h2
  rw[show aY (bs (sB [109,105,110]))=24 by decide]
  go_enter Tryz.func146,Tryz.ntmps146
  go_wp2
  go_ret
  exact⟨rfl,rfl⟩
 by_cases h3:bs s=[109,97,120]
 ·obtain rfl:=dI h3
  rw[show aY (bs (sB [109,97,120]))=25 by decide]
  go_enter Tryz.func146,Tryz.ntmps146
  go_wp2
  go_ret
  exact⟨rfl,rfl⟩
 by_cases h4:bs s=[99,108,97,109,112]
 ·obtain rfl:=dI h4
  rw[show aY (bs (sB [99,108,97,109,112]))=26 by decide]
  go_enter Tryz.func146,Tryz.ntmps146
  go_wp2
  go_ret
  exact⟨rfl,rfl⟩
 by_cases h5:bs s=[109,101,100]
 ·obtain rfl:=dI h5
  rw[show aY (bs (sB [109,101,100]))=27 by decide]
  go_enter Tryz.func146,Tryz.ntmps146
  go_wp2
  go_ret
  exact⟨rfl,rfl⟩
 rw[show aY (bs s)=0 by unfold aY;rw[if_neg h0,if_neg h1,if_neg h2,if_neg h3,if_neg h4,if_neg h5]]
 have k0:=kS h0
 have k1:=kS h1
 have k2:=kS h2
 have k3:=kS h3
 have k4:=kS h4
 have k5:=kS h5
 clear h0 h1 h2 h3 h4 h5
 go_enter Tryz.func146,Tryz.ntmps146
 go_wp2
 go_ret
 exact⟨rfl,rfl⟩
theorem fQ (s:ByteArray)(W:World):Calls Tryz.prog 147 #[.string s] W fun e W'=>e=.returned (.int .i64 (yR (bs s)))/\W'=W:=by
 by_cases h0:bs s=[120]
 ·obtain rfl:=dI h0
  rw[show yR (bs (sB [120]))=0 by decide]
  go_enter Tryz.func147,Tryz.ntmps147
  go_wp2
  go_ret
  exact⟨rfl,rfl⟩
 by_cases h1:bs s=[121]
 ·obtain rfl:=dI h1
  rw[show yR (bs (sB [121]))=1 by decide]
  go_enter Tryz.func147,Tryz.ntmps147
  go_wp2
  go_ret
  exact⟨rfl,rfl⟩
 by_cases h2:bs s=[99]
 ·obtain rfl:=dI h2
  rw[show yR (bs (sB [99]))=2 by decide]
  go_enter Tryz.func147,Tryz.ntmps147
  go_wp2
  go_ret
  exact⟨rfl,rfl⟩
 by_cases h3:bs s=[108,111]
 ·obtain rfl:=dI h3
  rw[show yR (bs (sB [108,111]))=3 by decide]
  go_enter Tryz.func147,Tryz.ntmps147
  go_wp2
  go_ret
  exact⟨rfl,rfl⟩
 by_cases h4:bs s=[104,105]
 ·obtain rfl:=dI h4
  rw[show yR (bs (sB [104,105]))=4 by decide]
  go_enter Tryz.func147,Tryz.ntmps147
  go_wp2
  go_ret
  exact⟨rfl,rfl⟩
 by_cases h5:bs s=[109,105,100]
 ·obtain rfl:=dI h5
  rw[show yR (bs (sB [109,105,100]))=5 by decide]
  go_enter Tryz.func147,Tryz.ntmps147
  go_wp2
  go_ret
  exact⟨rfl,rfl⟩
 rw[show yR (bs s)=-1 by unfold yR;rw[if_neg h0,if_neg h1,if_neg h2,if_neg h3,if_neg h4,if_neg h5]]
 have k0:=kS h0
 have k1:=kS h1
 have k2:=kS h2
 have k3:=kS h3
 have k4:=kS h4
 have k5:=kS h5
 clear h0 h1 h2 h3 h4 h5
 go_enter Tryz.func147,Tryz.ntmps147
 go_wp2
 go_ret
 exact⟨rfl,rfl⟩
theorem sS (s:ByteArray)(W:World):Calls Tryz.prog 110 #[.string s] W fun e W'=>e=.returned (.bool (mU (bs s)))/\W'=W:=by
 by_cases h0:bs s=[108,101,116]
 ·obtain rfl:=dI h0
  rw[show mU (bs (sB [108,101,116]))=true by decide]
  go_enter Tryz.func110,Tryz.ntmps110
  go_wp2
  go_ret
  exact⟨rfl,rfl⟩
 by_cases h1:bs s=[112]
 ·obtain rfl:=dI h1
  rw[show mU (bs (sB [112]))=true by decide]
  go_enter Tryz.func110,Tryz.ntmps110
  go_wp2
  go_ret
  exact⟨rfl,rfl⟩
 by_cases h2:bs s=[113]
 ·obtain rfl:=dI h2
  rw[show mU (bs (sB [113]))=true by decide]
  go_enter Tryz.func110,Tryz.ntmps110
  go_wp2
  go_ret
  exact⟨rfl,rfl⟩
 have k0:=kS h0
 have k1:=kS h1
 have k2:=kS h2
 have hr:mU (bs s)=(aY (bs s) != 0 || decide (0<=yR (bs s))):=by
  unfold mU
  rw[show (bs s==mV)=false by simpa [mV] using h0,show (bs s==wP)=false by simpa [wP] using h1,show (bs s==wQ)=false by simpa [wQ] using h2]
  rfl
 have HC:=aA fun W=>wC s W
 have HI:=aA fun W=>fQ s W
 rw[hr]
 generalize aY (bs s)=c at *
 generalize yR (bs s)=i at *
 clear hr h0 h1 h2
 cases h:(c != 0) with
 | true =>
  rw[Bool.true_or]
  go_enter Tryz.func110,Tryz.ntmps110
  go_wp2_with fail
  refine(HC.o _).mono ?_
  rintro e W1 ⟨rfl,rfl⟩
  go_wp2_with fail
  go_ret
  exact⟨rfl,rfl⟩
 | false =>
  rw[Bool.false_or]
  go_enter Tryz.func110,Tryz.ntmps110
  go_wp2_with fail
  refine(HC.o _).mono ?_
  rintro e W1 ⟨rfl,rfl⟩
  go_wp2_with fail
  refine(HI.o _).mono ?_
  rintro e W1 ⟨rfl,rfl⟩
  go_wp2_with fail
  go_ret
  exact⟨rfl,rfl⟩
def mE (op:Int):Int :=
 if op=1\/op=2\/op=3 then 0 else if 5<=op/\op<=7 then 1 else if 29<=op/\op<=33 then 1 else if 8<=op/\op<=25 then 2 else if 26<=op/\op<=28 then 3 else -1
def bR (x a b:Int):Bool:=decide (a<=x)&&decide (x<=b)
theorem lC (x a b:Int)(W:World):Calls Tryz.prog 119 #[.int .i64 x,.int .i64 a,.int .i64 b] W fun e W'=>e=.returned (.bool (bR x a b))/\W'=W:=by
 by_cases h:a<=x
 ·rw[show bR x a b=decide (x<=b) by simp[bR,h]]
  go_enter Tryz.func119,Tryz.ntmps119
  go_wp2
  go_ret
  exact⟨rfl,rfl⟩
 ·rw[show bR x a b=false by simp[bR];omega]
  go_enter Tryz.func119,Tryz.ntmps119
  go_wp2
  go_ret
  exact⟨rfl,rfl⟩
theorem aS4 {op:Int}(h1:(op==1)=false)(h2:(op==2)=false)(h3:(op==3)=false):mE op=if bR op 5 7 then 1 else if bR op 29 33 then 1 else if bR op 8 25 then 2 else if bR op 26 28 then 3 else -1:=by
 have e1:¬op=1:=by simpa using h1
 have e2:¬op=2:=by simpa using h2
 have e3:¬op=3:=by simpa using h3
 unfold mE bR
 simp[e1,e2,e3]
theorem bI (op:Int)(W:World):Calls Tryz.prog 69 #[.int .i64 op] W fun e W'=>e=.returned (.int .i64 (mE op))/\W'=W:=by
 by_cases h:op=1\/op=2\/op=3
 ·rcases h with rfl|rfl|rfl <;>
  ·rw[show mE _=0 by decide]
   go_enter Tryz.func69,Tryz.ntmps69
   go_wp2
   go_ret
   exact⟨rfl,rfl⟩
 ·have h1:(op==1)=false:=by simp;omega
  have h2:(op==2)=false:=by simp;omega
  have h3:(op==3)=false:=by simp;omega
  rw[aS4 h1 h2 h3]
  clear h
  have H1:=aA fun W=>lC op 5 7 W
  have H2:=aA fun W=>lC op 29 33 W
  have H3:=aA fun W=>lC op 8 25 W
  have H4:=aA fun W=>lC op 26 28 W
  generalize bR op 5 7=b1 at *
  generalize bR op 29 33=b2 at *
  generalize bR op 8 25=b3 at *
  generalize bR op 26 28=b4 at *
  cases b1 with
  | true =>
   rw[if_pos rfl]
   go_enter Tryz.func69,Tryz.ntmps69
   go_wp2_with fail
   refine(H1.o _).mono ?_
   rintro e W1 ⟨rfl,rfl⟩
   go_wp2_with fail
   go_ret
   exact⟨rfl,rfl⟩
  | false =>
   rw[if_neg (by decide)]
   cases b2 with
   | true =>
    rw[if_pos rfl]
    go_enter Tryz.func69,Tryz.ntmps69
    go_wp2_with fail
    refine(H1.o _).mono ?_
    rintro e W1 ⟨rfl,rfl⟩
    go_wp2_with fail
    refine(H2.o _).mono ?_
    rintro e W1 ⟨rfl,rfl⟩
    go_wp2_with fail
    go_ret
    exact⟨rfl,rfl⟩
   | false =>
    rw[if_neg (by decide)]
    cases b3 with
    | true =>
     rw[if_pos rfl]
     go_enter Tryz.func69,Tryz.ntmps69
     go_wp2_with fail
     refine(H1.o _).mono ?_
     rintro e W1 ⟨rfl,rfl⟩
     go_wp2_with fail
     refine(H2.o _).mono ?_
     rintro e W1 ⟨rfl,rfl⟩
     go_wp2_with fail
     refine(H3.o _).mono ?_
     rintro e W1 ⟨rfl,rfl⟩
     go_wp2_with fail
     go_ret
     exact⟨rfl,rfl⟩
    | false =>
     rw[if_neg (by decide)]
     cases b4 with
     | true =>
      rw[if_pos rfl]
      go_enter Tryz.func69,Tryz.ntmps69
      go_wp2_with fail
      refine(H1.o _).mono ?_
      rintro e W1 ⟨rfl,rfl⟩
      go_wp2_with fail
      refine(H2.o _).mono ?_
      rintro e W1 ⟨rfl,rfl⟩
      go_wp2_with fail
      refine(H3.o _).mono ?_
      rintro e W1 ⟨rfl,rfl⟩
      go_wp2_with fail
      refine(H4.o _).mono ?_
      rintro e W1 ⟨rfl,rfl⟩
      go_wp2_with fail
      go_ret
      exact⟨rfl,rfl⟩
     | false =>
      rw[if_neg (by decide)]
      go_enter Tryz.func69,Tryz.ntmps69
      go_wp2_with fail
      refine(H1.o _).mono ?_
      rintro e W1 ⟨rfl,rfl⟩
      go_wp2_with fail
      refine(H2.o _).mono ?_
      rintro e W1 ⟨rfl,rfl⟩
      go_wp2_with fail
      refine(H3.o _).mono ?_
      rintro e W1 ⟨rfl,rfl⟩
      go_wp2_with fail
      refine(H4.o _).mono ?_
      rintro e W1 ⟨rfl,rfl⟩
      go_wp2_with fail
      go_ret
      exact⟨rfl,rfl⟩
def ixZ (L:List aR)(s:aR):Int:=if L.contains s then(pos L s:Int) else -1
theorem aP4 {L:List aR}{s:aR}{i:Nat}(h:∀ j,j < i->L.getD j []≠s)(hi:i < L.length)(he:L.getD i []=s):ixZ L s=i:=by
 have hm:L[i]=s:=by rw[List.getD_eq_getElem?_getD,List.getElem?_eq_getElem hi] at he;simpa using he
 unfold ixZ
 rw[if_pos (by simp only[List.contains_iff_mem];rw[<-hm];exact List.getElem_mem hi)]
 have:pos L s=i:=by
  unfold pos
  rw[List.findIdx_eq hi]
  refine⟨by simpa using hm,fun j hj=>?_⟩
  have:=h j hj
  rw[List.getD_eq_getElem?_getD,List.getElem?_eq_getElem (by omega)] at this
  simpa using this
 rw[this]
theorem aT1 {L:List aR}{s:aR}(h:∀ j,j < L.length->L.getD j []≠s):ixZ L s=-1:=by
 unfold ixZ
 rw[if_neg]
 intro hc
 simp only[List.contains_iff_mem] at hc
 obtain⟨j,hj,he⟩:=List.getElem_of_mem hc
 exact h j hj (by rw[List.getD_eq_getElem?_getD,List.getElem?_eq_getElem hj];simpa using he)
theorem aFv (L:List aR)(s:aR):decide (0<=ixZ L s)=L.contains s:=by
 unfold ixZ
 cases h:L.contains s <;> simp
theorem aS1 {L:List aR}{s:aR}{k:Nat}(h:∀ j,j < k->L.getD j []≠s)(h':¬L.getD k []=s):∀ j,j < k+1->L.getD j []≠s:=by
 intro j hj
 rcases Nat.lt_succ_iff_lt_or_eq.1 hj with h1|rfl
 ·exact h j h1
 ·exact h'
structure Tx (W:World)(a:Option Addr)(n cap:Nat)(L:List aR):Prop where
 len:L.length=n
 le:n<=cap
 max:cap<=maxLen
 cell:n=0\/∃ b off,a=some ⟨b,off,none⟩/\∀ i,i < n->W.cell? ⟨b,off+i,none⟩=some (.string (sB (L.getD i [])))
theorem Tx.of_owns {W:World}{base:Nat}{v:Value}{n:Nat}{L:List aR}(h:W.ownsRow base 9 1 v n (aJx L)):∃ a cap,v=.slice a n cap/\Tx W a n cap L:=by
 have hl:L.length=n:=by have:=h.1;simpa using this
 have hcs:=fun g hg=>h.cells (g:=g) hg
 rcases h.2 with⟨rfl,rfl⟩|⟨g,cap,cur,rfl,hb,hg,hnc,hcm,hsz,htake⟩
 ·exact⟨none,0,rfl,⟨hl,Nat.le_refl _,Nat.zero_le _,.inl rfl⟩⟩
 ·refine⟨some ⟨g,0,none⟩,cap,rfl,⟨hl,hnc,hcm,.inr ⟨g,0,rfl,fun i hi=>?_⟩⟩⟩
  have:=hcs g rfl i (.string (sB (L.getD i []))) (by rw[List.getElem?_map,List.getD_eq_getElem?_getD,List.getElem?_eq_getElem (by omega)];rfl)
  rwa[Addr.add_lit] at this
theorem aAc {W:World}{a:Option Addr}{n cap:Nat}{L:List aR}(h:Tx W a n cap L)(s:ByteArray) :
  Calls Tryz.prog 148 #[.slice a n cap,.string s] W fun e W'=>e=.returned (.int .i64 (ixZ L (bs s)))/\W'=W:=by
 have HT:=aA h
 have hn:n<=9223372036854775807:=by have:=h.le;have:=h.max;unfold maxLen at *;omega
 have hl:=aA h.len
 clear h
 go_enter Tryz.func148,Tryz.ntmps148
 go_wp2
 go_loop [5,8] (fun _ i=>∃ k:Nat,k<=n/\i=.int .i64 k/\Hid (∀ j,j < k->L.getD j []≠bs s)) (fun _ i=>n-(intOf i).toNat)
 case atStart=>exact⟨0,Nat.zero_le _,rfl,aA (fun j hj=>by omega)⟩
 case round =>
  obtain⟨k,hk,rfl,HA⟩:=hrel
  by_cases hlt:k < n
  ·obtain⟨b,off,rfl,hc⟩:∃ b off,a=some ⟨b,off,none⟩/\W.cell? ⟨b,off+k,none⟩=some (.string (sB (L.getD k []))):=by
    rcases HT.o.cell with h0|⟨b,off,ha,hc⟩
    ·omega
    ·exact⟨b,off,ha,hc k hlt⟩
   have hi0:(0:Int)<=k:=by omega
   have hi1:(k:Int) < n:=by omega
   by_cases he:L.getD k []=bs s
   ·rw[he,aEm] at hc
    have he:=aA he
    go_wp2
    go_ret
    exact⟨aN (by rw[aP4 HA.o (by rw[hl.o];exact hlt) he.o]),rfl⟩
   ·have hq:(s.toList==(sB (L.getD k [])).toList)=false:=by
     rw[gZ,gZ];simp only[beq_eq_false_iff_ne,ne_eq];intro e;exact he e.symm
    have he:=aA he
    generalize sB (L.getD k [])=u at hc hq
    go_wp2
    go_round
    case rel=>exact⟨k+1,by omega,by go_num,aA (aS1 HA.o he.o)⟩
    case measure=>simp[intOf];omega
  ·go_wp2
   go_ret
   exact⟨aN (by rw[aT1 (fun j hj=>HA.o j (by rw[hl.o] at hj;omega))]),rfl⟩
theorem aBc {W:World}{a:Option Addr}{n cap:Nat}{L:List aR}(h:Tx W a n cap L)(s:ByteArray) :
  Calls Tryz.prog 111 #[.slice a n cap,.string s] W fun e W'=>e=.returned (.bool (L.contains (bs s)))/\W'=W:=by
 have HI:=aA (aAc h s)
 have hz:=aFv L (bs s)
 generalize ixZ L (bs s)=z at *
 clear h
 rw[<-hz]
 clear hz
 go_enter Tryz.func111,Tryz.ntmps111
 go_wp2_with fail
 refine HI.o.mono ?_
 rintro e W1 ⟨rfl,rfl⟩
 go_wp2_with fail
 go_ret
 exact⟨rfl,rfl⟩
end Go.Proofs.YtihbhbeaihdgnaaGreat
namespace Go.Proofs.YtihbhbeaihdgnaaGreat
open Go.RowKit Go.IntWalk Lx Pz
def rows:List (Nat × aR × Int):=[(0,[124],16),(1,[94],17),(2,[38],15),(3,[60],18),(3,[60,61],19),(3,[62],20),(3,[62,61],21),(3,[61,61],22),(3,[33,61],23),(4,[60,60],13),(4,[62,62],14),(5,[43],8),(5,[45],9),(6,[42],10),(6,[47],11),(6,[37],12)]
def zG (k:Nat)(s:aR):Int:=((rows.find? fun r=>r.1==k&&r.2.1==s).map (·.2.2)).getD 0
def row (i:Nat):Nat × aR × Int:=rows.getD i (0,[],0)
def tab:Array Value:=#[.int .i64 0,.string ⟨#[124]⟩,.int .i64 16,.int .i64 1,.string ⟨#[94]⟩,.int .i64 17,.int .i64 2,.string ⟨#[38]⟩,.int .i64 15,.int .i64 3,.string ⟨#[60]⟩,.int .i64 18,.int .i64 3,.string ⟨#[60,61]⟩,.int .i64 19,.int .i64 3,.string ⟨#[62]⟩,.int .i64 20,.int .i64 3,.string ⟨#[62,61]⟩,.int .i64 21,.int .i64 3,.string ⟨#[61,61]⟩,.int .i64 22,.int .i64 3,.string ⟨#[33,61]⟩,.int .i64 23,.int .i64 4,.string ⟨#[60,60]⟩,.int .i64 13,.int .i64 4,.string ⟨#[62,62]⟩,.int .i64 14,.int .i64 5,.string ⟨#[43]⟩,.int .i64 8,.int .i64 5,.string ⟨#[45]⟩,.int .i64 9,.int .i64 6,.string ⟨#[42]⟩,.int .i64 10,.int .i64 6,.string ⟨#[47]⟩,.int .i64 11,.int .i64 6,.string ⟨#[37]⟩,.int .i64 12]
abbrev zer:Array Value:=#[.int .i64 0,.string ⟨#[]⟩,.int .i64 0,.int .i64 0,.string ⟨#[]⟩,.int .i64 0,.int .i64 0,.string ⟨#[]⟩,.int .i64 0,.int .i64 0,.string ⟨#[]⟩,.int .i64 0,.int .i64 0,.string ⟨#[]⟩,.int .i64 0,.int .i64 0,.string ⟨#[]⟩,.int .i64 0,.int .i64 0,.string ⟨#[]⟩,.int .i64 0,.int .i64 0,.string ⟨#[]⟩,.int .i64 0,.int .i64 0,.string ⟨#[]⟩,.int .i64 0,.int .i64 0,.string ⟨#[]⟩,.int .i64 0,.int .i64 0,.string ⟨#[]⟩,.int .i64 0,.int .i64 0,.string ⟨#[]⟩,.int .i64 0,.int .i64 0,.string ⟨#[]⟩,.int .i64 0,.int .i64 0,.string ⟨#[]⟩,.int .i64 0,.int .i64 0,.string ⟨#[]⟩,.int .i64 0,.int .i64 0,.string ⟨#[]⟩,.int .i64 0]
theorem aP1 (i:Nat)(hi:i < 16)(w:World):(Instr.index 192 (.agg tab) (.int .i64 i)).run Tryz.prog w=.ok (.agg #[.int .i64 (row i).1,.string (sB (row i).2.1),.int .i64 (row i).2.2]) w:=by
 rcases(show i=0\/i=1\/i=2\/i=3\/i=4\/i=5\/i=6\/i=7\/i=8\/i=9\/i=10\/i=11\/i=12\/i=13\/i=14\/i=15 by omega) with rfl|rfl|rfl|rfl|rfl|rfl|rfl|rfl|rfl|rfl|rfl|rfl|rfl|rfl|rfl|rfl <;> simp[Instr.index,go_sem,row,rows,tab]
theorem aQv {k:Nat}{s:aR}{i:Nat}(h:∀ j,j < i->((row j).1==k&&(row j).2.1==s)=false)(hi:i < 16)(he:((row i).1==k&&(row i).2.1==s)=true):zG k s=(row i).2.2:=by
 have hlen:rows.length=16:=rfl
 have hr:∀ j (hj:j < 16),row j=rows[j]'(by rw[hlen];exact hj):=fun j hj=>by unfold row;rw[List.getD_eq_getElem?_getD,List.getElem?_eq_getElem (by rw[hlen];exact hj)];rfl
 have:rows.find? (fun r=>r.1==k&&r.2.1==s)=some (row i):=by
  rw[List.find?_eq_some_iff_getElem]
  refine⟨he,i,by rw[hlen];exact hi,(hr i hi).symm,fun j hj=>?_⟩
  have:=h j hj
  rw[hr j (by omega)] at this
  rw[this]
  rfl
 unfold zG
 rw[this]
 rfl
theorem aU5 {k:Nat}{s:aR}(h:∀ j,j < 16->((row j).1==k&&(row j).2.1==s)=false):zG k s=0:=by
 have hlen:rows.length=16:=rfl
 have:rows.find? (fun r=>r.1==k&&r.2.1==s)=none:=by
  rw[List.find?_eq_none]
  intro r hr
  obtain⟨j,hj,rfl⟩:=List.getElem_of_mem hr
  have:=h j (by rw[hlen] at hj;exact hj)
  unfold row at this
  rw[List.getD_eq_getElem?_getD,List.getElem?_eq_getElem hj] at this
  simpa using this
 unfold zG
 rw[this]
 rfl
theorem aS2 {k:Nat}{s:aR}{i:Nat}(h:∀ j,j < i->((row j).1==k&&(row j).2.1==s)=false)(he:((row i).1==k&&(row i).2.1==s)=false):∀ j,j < i+1->((row j).1==k&&(row j).2.1==s)=false:=by
 intro j hj
 rcases Nat.lt_succ_iff_lt_or_eq.1 hj with h1|rfl
 ·exact h j h1
 ·exact he
theorem aO6 {B g:Nat}{w0 w:World}(hb:Below B w0 w)(h:B<=g)(cs:Array Value):Below B w0 (w.setRow g cs) :=
 ⟨hb.os,hb.tape,hb.output,by rw[size_setRow];exact hb.size,fun k hk=>(setRow_other w g k cs (by omega)).trans (hb.block k hk)⟩
theorem sP (k:Nat)(s:ByteArray)(W:World) :
  Calls Tryz.prog 150 #[.int .i64 k,.string s] W fun e W'=>e=.returned (.int .i64 (zG k (bs s)))/\Below W.heap.size W W':=by
 go_enter Tryz.func150,Tryz.ntmps150
 go_upto_region 1 with fail
 go_cut [5] from 8 to 24 (fun p wc=>p=.pointer (some ⟨W.heap.size,0,none⟩)/\Hid (aB wc W.heap.size 192 tab)/\Hid (Below W.heap.size W wc))
 case first =>
  refine wp_region_lit ?_
  iterate 16 refine wpList_build (by rfl) 191 _ (by rfl) (by kernel_rfl) ?_
  refine wpList_build (by rfl) 192 _ (by rfl) (by kernel_rfl) ?_
  refine Go.Great.wpList_allocTo (by rfl) (some 5) (by rfl) (.pointer (some ⟨W.heap.size,0,none⟩)) (.cells zer 192) (by kernel_rfl) ?_
  refine wpList_store_row (by rfl) 192 _ _ (by rfl) W.heap.size tab (by kernel_rfl) (by kernel_rfl) 192 zer (heap_alloc_new W _) (by kernel_rfl) (by kernel_rfl) (by kernel_rfl) ?_
  refine wpList_nil ?_
  rename_i J K' hJ hK
  refine hK _ _ (hJ _ _ ?_)
  simp only[Act.put,List.setIfInBounds_toArray,List.set_cons_zero,List.set_cons_succ]
  exact⟨_,_,_,_,_,_,_,_,_,_,_,_,_,_,_,_,_,_,⟨rfl,aA (setRow_heap _ _ zer tab 192 (0,0) (heap_alloc_new W _)),aA (aO6 (aC W _) (Nat.le_refl _) tab)⟩,rfl⟩
 case rest =>
  obtain⟨rfl,HT,HB⟩:=hcut
  go_upto_region 2 with fail
  refine wp_region_lit ?_
  refine wpList_load_row (by rfl) 192 _ (by rfl) W.heap.size (by rfl) 192 tab (0,0) _ HT.o Tryz.underlying192 (by rfl) (by kernel_rfl) ?_
  have hix:=aP1
  generalize Value.agg tab=TV at hix ⊢
  clear HT
  go_wp2_with fail
  go_loopw [26] (fun i wr=>∃ j:Nat,j<=16/\i=.int .i64 j/\Hid (∀ j',j' < j->((row j').1==k&&(row j').2.1==bs s)=false)/\Hid (Below W.heap.size W wr)) (fun i _=>16-(intOf i).toNat)
  case atStart=>exact⟨0,by omega,rfl,aA (fun j' hj=>by omega),HB⟩
  case round =>
   obtain⟨j,hj,rfl,HA,HB⟩:=hrel
   by_cases hlt:j < 16
   ·have hx:=hix j hlt
    clear hix
    obtain⟨⟨r1,r2,r3⟩,hr⟩:∃ r,row j=r:=⟨_,rfl⟩
    have HY:=aA (aQv (k:=k) (s:=bs s) HA.o hlt)
    have HN:=aA (aS2 (k:=k) (s:=bs s) HA.o)
    rw[hr] at hx HY HN
    simp only at hx HY HN
    clear hr HA
    cases h1:((r1:Int)==(k:Int)) with
    | false =>
     have h0:(r1==k)=false:=by simp at h1 ⊢;omega
     rw[h0] at HN
     rename_i wr
     have HB2:=aA (bel HB.o (aC wr (.cells #[.int .i64 r1,.string (sB r2),.int .i64 r3] 191)))
     go_wp2_with fail
     go_roundw
     case rel=>exact⟨j+1,by omega,by go_num,aA (HN.o rfl),HB2⟩
     case measure=>simp[intOf];omega
    | true =>
     have h0:(r1==k)=true:=by simp at h1 ⊢;omega
     rw[h0] at HN HY
     rename_i wr
     have HB2:=aA (bel HB.o (aC wr (.cells #[.int .i64 r1,.string (sB r2),.int .i64 r3] 191)))
     by_cases h2:r2=bs s
     ·have HY2:=aA (HY.o (by simp[h2]))
      rw[h2,aEm] at hx HB2
      clear HN HY h2
      go_wp2_with fail
      go_ret
      exact⟨aN HY2.o.symm,HB2.o⟩
     ·have HN2:=aA (HN.o (by simpa using h2))
      have hq:((sB r2).toList==s.toList)=false:=aH6 (s:=sB r2) (t:=s) h2
      generalize sB r2=u at hx HB2 hq
      clear HN HY h2
      go_wp2_with fail
      go_roundw
      case rel=>exact⟨j+1,by omega,by go_num,HN2,HB2⟩
      case measure=>simp[intOf];omega
   ·obtain rfl:j=16:=by omega
    clear hix
    go_wp2_with fail
    go_ret
    exact⟨aN (by rw[aU5 HA.o]),HB.o⟩
end Go.Proofs.YtihbhbeaihdgnaaGreat
namespace Go.Proofs.YtihbhbeaihdgnaaGreat
open Go.RowKit Go.IntWalk Lx Pz
def mkB (s:aR):Bool:=(marks.map (·.1)).contains s
theorem yQ {s:aR}(h:uX s=true):mkB s=false/\s≠[]:=by
 cases s with
 | nil=>simp[uX] at h
 | cons c r =>
  refine⟨?_,by simp⟩
  have hA:A c=true:=by simp[uX] at h;exact h.1.2
  have:=aKb hA
  have h':97<=(c.toNat:Int)/\(c.toNat:Int)<=122:=by simpa [A,lt] using hA
  cases hm:mkB (c::r) with
  | false=>rfl
  | true =>
   have:(c::r) ∈ marks.map (·.1):=by simpa [mkB] using hm
   simp only[marks,List.map_cons,List.map_nil,List.mem_cons,List.not_mem_nil,or_false,List.cons.injEq] at this
   have hc:c=43\/c=45\/c=42\/c=47\/c=37\/c=40\/c=41\/c=44\/c=59\/c=61\/c=63\/c=58\/c=60\/c=62\/c=38\/c=124\/c=94\/c=33:=by
    rcases this with h|h|h|h|h|h|h|h|h|h|h|h|h|h|h|h|h|h|h|h|h|h|h <;> simp[h.1]
   rcases hc with rfl|rfl|rfl|rfl|rfl|rfl|rfl|rfl|rfl|rfl|rfl|rfl|rfl|rfl|rfl|rfl|rfl|rfl <;> simp at h'
theorem xN {s:aR}(h:num s=true):mkB s=false/\s≠[]:=by
 cases s with
 | nil=>simp[num] at h
 | cons c r =>
  refine⟨?_,by simp⟩
  have hA:D c=true:=by simp[num] at h;exact h.1.1.1
  have h':48<=(c.toNat:Int)/\(c.toNat:Int)<=57:=by simpa [D,dg] using hA
  cases hm:mkB (c::r) with
  | false=>rfl
  | true =>
   have:(c::r) ∈ marks.map (·.1):=by simpa [mkB] using hm
   simp only[marks,List.map_cons,List.map_nil,List.mem_cons,List.not_mem_nil,or_false,List.cons.injEq] at this
   have hc:c=43\/c=45\/c=42\/c=47\/c=37\/c=40\/c=41\/c=44\/c=59\/c=61\/c=63\/c=58\/c=60\/c=62\/c=38\/c=124\/c=94\/c=33:=by
    rcases this with h|h|h|h|h|h|h|h|h|h|h|h|h|h|h|h|h|h|h|h|h|h|h <;> simp[h.1]
   rcases hc with rfl|rfl|rfl|rfl|rfl|rfl|rfl|rfl|rfl|rfl|rfl|rfl|rfl|rfl|rfl|rfl|rfl|rfl <;> simp at h'
theorem qK {t:Tok}(h:t.kind=1):ab t=.num (vl t.text):=by unfold ab;rw[if_pos h]
theorem mZ {t:Tok}(h:t.kind=2):ab t=.word t.text:=by unfold ab;rw[if_neg (by omega),if_pos h]
theorem rJ {t:Tok}(h:t.kind=3):ab t=mkT t.text:=by unfold ab;rw[if_neg (by omega),if_neg (by omega)]
theorem xL {s:aR}(h:s ∈ marks.map (·.1)):(∀ v,mkT s≠.num v)/\(∀ w,mkT s≠.word w):=by
 simp only[marks,List.map_cons,List.map_nil,List.mem_cons,List.not_mem_nil,or_false] at h
 rcases h with rfl|rfl|rfl|rfl|rfl|rfl|rfl|rfl|rfl|rfl|rfl|rfl|rfl|rfl|rfl|rfl|rfl|rfl|rfl|rfl|rfl|rfl|rfl <;> exact⟨fun _=>by simp[mkT,marks],fun _=>by simp[mkT,marks]⟩
theorem aUt {s t:aR}(hs:s ∈ marks.map (·.1))(ht:t ∈ marks.map (·.1))(h:mkT s=mkT t):s=t:=by
 have key:∀ a ∈ marks.map (·.1),∀ b ∈ marks.map (·.1),mkT a=mkT b->a=b:=by decide
 exact key s hs t ht h
theorem bE {t:Tok}(h:Wf t){s:aR}(hs:s ∈ marks.map (·.1)):t.text=s↔ab t=mkT s:=by
 have hb:mkB s=true:=by simpa [mkB] using hs
 rcases h with⟨hk,hn⟩|⟨hk,hn⟩|⟨hk,hn⟩
 ·constructor
  ·intro e;rw[e] at hn;rw[(xN hn).1] at hb;cases hb
  ·intro e;rw[qK hk] at e;exact absurd e.symm ((xL hs).1 _)
 ·constructor
  ·intro e;rw[e] at hn;rw[(yQ hn).1] at hb;cases hb
  ·intro e;rw[mZ hk] at e;exact absurd e.symm ((xL hs).2 _)
 ·rw[rJ hk]
  exact⟨fun e=>by rw[e],fun e=>aUt hn hs e⟩
theorem aE7 {t:Tok}(h:Wf t){s:aR}(hs:uX s=true):t.text=s↔ab t=.word s:=by
 rcases h with⟨hk,hn⟩|⟨hk,hn⟩|⟨hk,hn⟩
 ·constructor
  ·intro e
   rw[e] at hn
   cases s with
   | nil=>simp[uX] at hs
   | cons c r =>
    have hA:A c=true:=by simp[uX] at hs;exact hs.1.2
    have hD:D c=true:=by simp[num] at hn;exact hn.1.1.1
    rw[(aKb hA).2.2.1] at hD;cases hD
  ·intro e;rw[qK hk] at e;cases e
 ·rw[mZ hk];exact⟨fun e=>by rw[e],fun e=>by cases e;rfl⟩
 ·constructor
  ·intro e;rw[e] at hn;have:mkB s=true:=by simpa [mkB] using hn
   rw[(yQ hs).1] at this;cases this
  ·intro e;rw[rJ hk] at e;exact absurd e ((xL hn).2 _)
theorem aLt {t:Tok}(h:Wf t){v:Int}(e:ab t=.num v):t.kind=1/\num t.text=true/\vl t.text=v:=by
 rcases h with⟨hk,hn⟩|⟨hk,hn⟩|⟨hk,hn⟩
 ·rw[qK hk] at e;cases e;exact⟨hk,hn,rfl⟩
 ·rw[mZ hk] at e;cases e
 ·rw[rJ hk] at e;exact absurd e ((xL hn).1 _)
theorem aLu {t:Tok}(h:Wf t){s:aR}(e:ab t=.word s):t.kind=2/\uX t.text=true/\t.text=s:=by
 rcases h with⟨hk,hn⟩|⟨hk,hn⟩|⟨hk,hn⟩
 ·rw[qK hk] at e;cases e
 ·rw[mZ hk] at e;cases e;exact⟨hk,hn,rfl⟩
 ·rw[rJ hk] at e;exact absurd e ((xL hn).2 _)
theorem kQ {t:Tok}(h:Wf t)(h1:∀ v,ab t≠.num v)(h2:∀ s,ab t≠.word s):t.kind=3:=by
 rcases h with⟨hk,hn⟩|⟨hk,hn⟩|⟨hk,hn⟩
 ·exact absurd (qK hk) (h1 _)
 ·exact absurd (mZ hk) (h2 _)
 ·exact hk
theorem aDz {t : Tok} (h : Wf t) (h1 : ∀ v, ab t ≠ .num v) : num t.text = false := by
  rcases h with ⟨hk, hn⟩ | ⟨hk, hn⟩ | ⟨hk, hn⟩
  · exact absurd (qK hk) (h1 _)
  · cases hs : num t.text with
    | false => rfl
    | true =>
      cases ht : t.text with
      | nil => rw [ht] at hs; simp [num] at hs
      | cons c r =>
        rw [ht] at hs hn
        have hA : A c = true := by simp [uX] at hn; exact hn.1.2
        have hD : D c = true := by simp [num] at hs; exact hs.1.1.1
        rw [(aKb hA).2.2.1] at hD; cases hD
  · cases hs : num t.text with
    | false => rfl
    | true => have : mkB t.text = true := by simpa [mkB] using hn
              rw [(xN hs).1] at this; cases this
theorem aMr (k:Nat){s:aR}(hs:s ∈ marks.map (·.1)):(zG k s=0/\∀ o,mkT s≠.op k o)\/(zG k s≠0/\mkT s=.op k (zG k s)):=by
 by_cases hk:k < 7
 ·rcases(show k=0\/k=1\/k=2\/k=3\/k=4\/k=5\/k=6 by omega) with rfl|rfl|rfl|rfl|rfl|rfl|rfl <;>
  ·simp only[marks,List.map_cons,List.map_nil,List.mem_cons,List.not_mem_nil,or_false] at hs
   rcases hs with rfl|rfl|rfl|rfl|rfl|rfl|rfl|rfl|rfl|rfl|rfl|rfl|rfl|rfl|rfl|rfl|rfl|rfl|rfl|rfl|rfl|rfl|rfl <;> first
   | exact .inl ⟨by decide,fun o=>by simp[mkT,marks]⟩
   | exact .inr ⟨by decide,by decide⟩
 ·left
  constructor
  ·unfold zG
   have:rows.find? (fun r=>r.1==k&&r.2.1==s)=none:=by
    rw[List.find?_eq_none]
    intro r hr
    have:r.1 < 7:=by
     have key:∀ r ∈ rows,r.1 < 7:=by decide
     exact key r hr
    simp
    intro e;omega
   rw[this];rfl
  ·intro o e
   have key:∀ a ∈ marks.map (·.1),∀ k o,mkT a=.op k o->k < 7:=by
    intro a ha k o
    simp only[marks,List.map_cons,List.map_nil,List.mem_cons,List.not_mem_nil,or_false] at ha
    rcases ha with rfl|rfl|rfl|rfl|rfl|rfl|rfl|rfl|rfl|rfl|rfl|rfl|rfl|rfl|rfl|rfl|rfl|rfl|rfl|rfl|rfl|rfl|rfl <;> simp[mkT,marks] <;> omega
   have:=key s hs k o e
   omega
theorem xR {k:Nat}{s:aR}(h:mkB s=false):zG k s=0:=by
 unfold zG
 have:rows.find? (fun r=>r.1==k&&r.2.1==s)=none:=by
  rw[List.find?_eq_none]
  intro r hr
  have key:∀ r ∈ rows,mkB r.2.1=true:=by decide
  simp only[Bool.and_eq_true,beq_iff_eq,not_and]
  intro _ e
  have:=key r hr
  rw[e,h] at this;cases this
 rw[this];rfl
theorem aHu (k:Nat){t:Tok}(h:Wf t):(zG k t.text=0/\∀ o,ab t≠.op k o)\/(zG k t.text≠0/\ab t=.op k (zG k t.text)):=by
 rcases h with⟨hk,hn⟩|⟨hk,hn⟩|⟨hk,hn⟩
 ·exact .inl ⟨xR (xN hn).1,fun o=>by rw[qK hk];simp⟩
 ·exact .inl ⟨xR (yQ hn).1,fun o=>by rw[mZ hk];simp⟩
 ·rw[rJ hk];exact aMr k hn
theorem gW {T:List Tok}(hw:∀ t ∈ T,Wf t){s:aR}(hs:s ∈ marks.map (·.1))(h:(T.map ab).head?≠some (mkT s)):(hd T).text≠s:=by
 cases T with
 | nil =>
  intro e
  have key:∀ a ∈ marks.map (·.1),a≠[]:=by decide
  exact key s hs e.symm
 | cons t T =>
  intro e
  exact h (by simp[(bE (hw t (by simp)) hs).1 e])
theorem aWp {T:List Tok}(hw:∀ t ∈ T,Wf t){s:aR}(hs:s ∈ marks.map (·.1)){r:List Tk}(h:T.map ab=mkT s::r):∃ t T',T=t::T'/\t.text=s/\T'.map ab=r:=by
 cases T with
 | nil=>simp at h
 | cons t T =>
  simp only[List.map_cons,List.cons.injEq] at h
  exact⟨t,T,rfl,(bE (hw t (by simp)) hs).2 h.1,h.2⟩
end Go.Proofs.YtihbhbeaihdgnaaGreat
namespace Go.Proofs.YtihbhbeaihdgnaaGreat
open Go.RowKit Go.IntWalk Lx Pz
variable {W w:World} {b:Nat} {BS:List Int}
theorem aWs:(Tryz.prog.info? 93).map (fun i=>(i.zero,i.size,i.bytes))=some (some (.agg #[.int .i64 0,.int .i64 0,.int .i64 0,.int .i64 0,.int .i64 0,.int .i64 0,.int .i64 0,.int .i64 0,.int .i64 0]),9,72):=by kernel_rfl
abbrev dY (n:Nd):Array Value:=#[.int .i64 n.op,.int .i64 n.a,.int .i64 n.b,.int .i64 n.c,.int .i64 n.k,.int .i64 n.back,.int .i64 n.co,.int .i64 n.x,.int .i64 n.y]
theorem aQl {n:Nd}(h:aB W b 93 (dY n)):∀ j u,(nd9 n)[j]?=some u->W.cell? ((⟨b,0,none⟩:Addr).add j)=some u:=by
 intro j u hu
 rw[Addr.add_lit]
 rw[Nat.zero_add]
 exact h.cell j (by rw[<-hu];simp[dY,nd9])
theorem aRw {m:Mm}{T:List Tok}{NM:List aR}{NS:List Nd}{ops:Array Oper}{o:Oper}{a:Act}{K:Act->World->Prop}{Q:Exit->Act->World->Prop}{E:Prop}
  (hgd:o.guard=none) (s x:Operand) (ho:o.op=.call { callee:=.builtin .append,args:=#[s,x],argTypes:=#[53,53] })
  (hs:a.eval s=m.dv) (hR:Rd w W b m T NM BS NS) (q:Nat) (n:Nd) (hx:a.eval x=.slice (some ⟨q,0,none⟩) 1 1) (hc:aB W q 93 (dY n)) (h3:NS.length<=2000000)
  (h:∀ g cap w',w'.ownsRow w.heap.size 93 9 (.slice (some ⟨g,0,none⟩) (NS.length+1) cap) (NS++[n]).length (sO (NS++[n]))->aB w' b 88 m.cs->Kp [93] W w'->Below w.heap.size w w'->W.grownBy w' m.dv.ownBlock->K (a.put o.dst (.slice (some ⟨g,0,none⟩) (NS.length+1) cap)) w') :
  if Region.wanted o (yielded ops a.tmps)=true then Oper.wp Tryz.prog o a W K Q else E:=by
 obtain⟨i0,hi0,hz0,hz1,hz2⟩:=info_parts aWs
 refine step_append_lies W hgd s x 53 ho w.heap.size 93 i0 _ 9 72 Tryz.underlying53 hi0 hz0 hz1 hz2 rfl (by omega) m.dv NS.length (sO NS) hs hR.nodes ⟨q,0,none⟩ 1 1 (nd9 n) hx rfl (aQl hc) (by simp[nd9,Value.oneCell']) (by omega) (by unfold maxLen;omega) (by omega) hR.old.size W.heap.size rfl ?_
 intro g cap w' hown hgrow hat hlt
 have hk:Kp [93] W w':=Kp.grown hgrow fun k hk=>by
  obtain⟨_,cs,fr,hb⟩:=aM hR.nodes k hk
  exact⟨cs,_,fr,hb,by simp⟩
 exact h g cap w' (by rw[aJa,List.length_append];exact hown) (hR.blk.kp hk (by decide)) hk (hR.old.grown hgrow hR.old.size fun k hk=>(aM hR.nodes k hk).1) hgrow
abbrev nine (W:World)(q:Nat)(n:Nd):Prop:=W.cell? ⟨q,0,none⟩=some (.int .i64 n.op)/\W.cell? ⟨q,1,none⟩=some (.int .i64 n.a)/\W.cell? ⟨q,2,none⟩=some (.int .i64 n.b)/\W.cell? ⟨q,3,none⟩=some (.int .i64 n.c)/\W.cell? ⟨q,4,none⟩=some (.int .i64 n.k)/\W.cell? ⟨q,5,none⟩=some (.int .i64 n.back)/\W.cell? ⟨q,6,none⟩=some (.int .i64 n.co)/\W.cell? ⟨q,7,none⟩=some (.int .i64 n.x)/\W.cell? ⟨q,8,none⟩=some (.int .i64 n.y)
theorem aB.nine {W:World}{q:Nat}{n:Nd}(h:aB W q 93 (dY n)):nine W q n :=
 ⟨h.cell 0 rfl,h.cell 1 rfl,h.cell 2 rfl,h.cell 3 rfl,h.cell 4 rfl,h.cell 5 rfl,h.cell 6 rfl,h.cell 7 rfl,h.cell 8 rfl⟩
theorem aMk {V Z w1:World}{m:Mm}{T:List Tok}{NM:List aR}{NS NS':List Nd}{v:Value}(hR:Rd w V b m T NM BS NS)(hVZ:Below V.heap.size V Z)
  (hown:w1.ownsRow w.heap.size 93 9 v NS'.length (sO NS')) (hb1:aB w1 b 88 m.cs) (hk1:Kp [93] Z w1) (hold:Below w.heap.size w w1) :
  (∃ m',Rd w (w1.setCell ⟨b,3,none⟩ v) b m' T NM BS NS')/\Kp SX V (w1.setCell ⟨b,3,none⟩ v):=by
 have ks:Kp [88] w1 (w1.setCell ⟨b,3,none⟩ v):=Kp.set hb1 (by simp) 3 v
 have hk:Kp SX V (w1.setCell ⟨b,3,none⟩ v):=((Kp.of_below SX hVZ).trans (hk1.mono (by decide))).trans (ks.mono (by decide))
 exact⟨⟨⟨m.la,m.ln,m.lc,m.nv,m.bv,v,m.root⟩,hb1.set 3 v,hR.base,hR.toks.kp hk (by decide),aU hR.names hk (by decide),aU hR.binds hk (by decide),aU hown ks (by decide),hR.wf,hold.setCell hR.base v⟩,hk⟩
theorem eY {m:Mm}{T:List Tok}{NM:List aR}{NS:List Nd}(h:Rd w W b m T NM BS NS)(n:Nd)(h3:NS.length<=2000000) :
  Calls Tryz.prog 114 #[ptr b,.agg (dY n)] W fun e W'=>e=.returned (.int .i64 NS.length)/\(∃ m',Rd w W' b m' T NM BS (NS++[n]))/\Kp SX W W':=by
 have HR:=aA (h.later (aC W (.cells (dY n) 93)))
 have HN:=aA (aB.new W 93 (dY n))
 have HO:=aA (show ∀ k,m.dv.ownBlock=some k->k < W.heap.size from fun k hk=>(h.nodes.lt k hk).2)
 have HK:=aA (Kp.of_below SX (aC W (.cells (dY n) 93)))
 clear h
 obtain⟨la,ln,lc,nv,bv,dv,root⟩:=m
 go_enter Tryz.func114,Tryz.ntmps114
 go_wp2_with fail
 generalize hV:W.alloc (.cells (dY n) 93)=V at *
 generalize hq:W.heap.size=q at *
 have d3:V.cell? ⟨b,3,none⟩=some dv:=HR.o.blk.cell 3 rfl
 have hbV:b < V.heap.size:=HR.o.blk.lt
 have d3a:∀ o:Obj,(V.alloc o).cell? ⟨b,3,none⟩=some dv:=fun o=>(aV hbV).trans d3
 obtain⟨e0,e1,e2,e3,e4,e5,e6,e7,e8⟩:=HN.o.nine
 clear hV hq
 go_region_law
  (first
   | (refine aRw (m:=⟨la,ln,lc,nv,bv,dv,root⟩) (by rfl) _ _ (by rfl) (by rfl) (by first | exact(HR.o.later (aC _ _)).later (aF _) | exact(HR.o.later (aF V)).later (aC _ _)) V.heap.size n (by rfl) (by first | exact aB.new _ _ _ | exact(aB.new V 93 (dY n)).below (aF _)) h3 ?_;intro g cap w1 hown hb1 hk1 hold hgrow;have t3:=hb1.cell 3 rfl;have y3:=hb1.frozen 3))
 all_goals
  have HE:=aA (aMk HR.o (by first|exact bel (aC V _) (aF _)|exact bel (aF V) (aC _ _)) hown hb1 hk1 hold)
  have c3:=(hb1.set 3 (.slice (some ⟨g,0,none⟩) (NS.length+1) cap)).cell 3 rfl
  clear hown hb1 hk1 hold hgrow t3 y3 e0 e1 e2 e3 e4 e5 e6 e7 e8 d3 d3a HN HO
  generalize w1.setCell ⟨b,3,none⟩ (.slice (some ⟨g,0,none⟩) (NS.length+1) cap)=F at *
  go_wp2_with fail
  go_ret
  exact⟨aN (by omega),HE.o.1,HK.o.trans HE.o.2⟩
end Go.Proofs.YtihbhbeaihdgnaaGreat
