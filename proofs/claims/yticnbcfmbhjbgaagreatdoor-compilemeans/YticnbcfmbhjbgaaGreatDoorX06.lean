import Derived.Deep.CutRange
import Derived.Great.Walk
import Derived.Test.YticnbcfmbhjbgaaGreatDoorX05
set_option maxRecDepth 100000
set_option maxHeartbeats 32000000
set_option linter.unusedVariables false
namespace Go.Proofs.YticnbcfmbhjbgaaGreatDoor
section
open Go.RowKit Go.IntWalk Lx Pz
theorem dW {s:ByteArray}{l:List UInt8}(h:bs s=l):s=sB l:=by rw[<-h,aBt]
theorem lM {s:ByteArray}{l:List UInt8}(h:¬bs s=l):(s.toList==l)=false:=by rw[iV];simpa using h
theorem xV (s:ByteArray)(W:World):Calls Tryz.prog 255 #[.string s] W fun e W'=>e=.returned (.i (bG (bs s)))/\W'=W:=by
 by_cases h0:bs s=[97,98,115]
 ·obtain rfl:=dW h0
  rw[show bG (bs (sB [97,98,115]))=6 by decide]
  go_enter Tryz.func255,Tryz.ntmps255
  go_wp2
  go_ret
  exact⟨rfl,rfl⟩
 by_cases h1:bs s=[115,103,110]
 ·obtain rfl:=dW h1
  rw[show bG (bs (sB [115,103,110]))=7 by decide]
  go_enter Tryz.func255,Tryz.ntmps255
  go_wp2
  go_ret
  exact⟨rfl,rfl⟩
 by_cases h2:bs s=[109,105,110]
 ·obtain rfl:=dW h2
  rw[show bG (bs (sB [109,105,110]))=24 by decide]
  go_enter Tryz.func255,Tryz.ntmps255
  go_wp2
  go_ret
  exact⟨rfl,rfl⟩
 by_cases h3:bs s=[109,97,120]
 ·obtain rfl:=dW h3
  rw[show bG (bs (sB [109,97,120]))=25 by decide]
  go_enter Tryz.func255,Tryz.ntmps255
  go_wp2
  go_ret
  exact⟨rfl,rfl⟩
 by_cases h4:bs s=[99,108,97,109,112]
 ·obtain rfl:=dW h4
  rw[show bG (bs (sB [99,108,97,109,112]))=26 by decide]
  go_enter Tryz.func255,Tryz.ntmps255
  go_wp2
  go_ret
  exact⟨rfl,rfl⟩
 by_cases h5:bs s=[109,101,100]
 ·obtain rfl:=dW h5
  rw[show bG (bs (sB [109,101,100]))=27 by decide]
  go_enter Tryz.func255,Tryz.ntmps255
  go_wp2
  go_ret
  exact⟨rfl,rfl⟩
 rw[show bG (bs s)=0 by unfold bG;rw[if_neg h0,if_neg h1,if_neg h2,if_neg h3,if_neg h4,if_neg h5]]
 have k0:=lM h0
 have k1:=lM h1
 have k2:=lM h2
 have k3:=lM h3
 have k4:=lM h4
 have k5:=lM h5
 clear h0 h1 h2 h3 h4 h5
 go_enter Tryz.func255,Tryz.ntmps255
 go_wp2
 go_ret
 exact⟨rfl,rfl⟩
theorem gQ (s:ByteArray)(W:World):Calls Tryz.prog 256 #[.string s] W fun e W'=>e=.returned (.i (inK (bs s)))/\W'=W:=by
 by_cases h0:bs s=[120]
 ·obtain rfl:=dW h0
  rw[show inK (bs (sB [120]))=0 by decide]
  go_enter Tryz.func256,Tryz.ntmps256
  go_wp2
  go_ret
  exact⟨rfl,rfl⟩
 by_cases h1:bs s=[121]
 ·obtain rfl:=dW h1
  rw[show inK (bs (sB [121]))=1 by decide]
  go_enter Tryz.func256,Tryz.ntmps256
  go_wp2
  go_ret
  exact⟨rfl,rfl⟩
 by_cases h2:bs s=[99]
 ·obtain rfl:=dW h2
  rw[show inK (bs (sB [99]))=2 by decide]
  go_enter Tryz.func256,Tryz.ntmps256
  go_wp2
  go_ret
  exact⟨rfl,rfl⟩
 by_cases h3:bs s=[108,111]
 ·obtain rfl:=dW h3
  rw[show inK (bs (sB [108,111]))=3 by decide]
  go_enter Tryz.func256,Tryz.ntmps256
  go_wp2
  go_ret
  exact⟨rfl,rfl⟩
 by_cases h4:bs s=[104,105]
 ·obtain rfl:=dW h4
  rw[show inK (bs (sB [104,105]))=4 by decide]
  go_enter Tryz.func256,Tryz.ntmps256
  go_wp2
  go_ret
  exact⟨rfl,rfl⟩
 by_cases h5:bs s=[109,105,100]
 ·obtain rfl:=dW h5
  rw[show inK (bs (sB [109,105,100]))=5 by decide]
  go_enter Tryz.func256,Tryz.ntmps256
  go_wp2
  go_ret
  exact⟨rfl,rfl⟩
 rw[show inK (bs s)=-1 by unfold inK;rw[if_neg h0,if_neg h1,if_neg h2,if_neg h3,if_neg h4,if_neg h5]]
 have k0:=lM h0
 have k1:=lM h1
 have k2:=lM h2
 have k3:=lM h3
 have k4:=lM h4
 have k5:=lM h5
 clear h0 h1 h2 h3 h4 h5
 go_enter Tryz.func256,Tryz.ntmps256
 go_wp2
 go_ret
 exact⟨rfl,rfl⟩
theorem uQ (s:ByteArray)(W:World):Calls Tryz.prog 182 #[.string s] W fun e W'=>e=.returned (.bool (mU (bs s)))/\W'=W:=by
 by_cases h0:bs s=[108,101,116]
 ·obtain rfl:=dW h0
  rw[show mU (bs (sB [108,101,116]))=true by decide]
  go_enter Tryz.func182,Tryz.ntmps182
  go_wp2
  go_ret
  exact⟨rfl,rfl⟩
 by_cases h1:bs s=[112]
 ·obtain rfl:=dW h1
  rw[show mU (bs (sB [112]))=true by decide]
  go_enter Tryz.func182,Tryz.ntmps182
  go_wp2
  go_ret
  exact⟨rfl,rfl⟩
 by_cases h2:bs s=[113]
 ·obtain rfl:=dW h2
  rw[show mU (bs (sB [113]))=true by decide]
  go_enter Tryz.func182,Tryz.ntmps182
  go_wp2
  go_ret
  exact⟨rfl,rfl⟩
 have k0:=lM h0
 have k1:=lM h1
 have k2:=lM h2
 have hr:mU (bs s)=(bG (bs s) != 0 || decide (0<=inK (bs s))):=by
  unfold mU
  rw[show (bs s==nS)=false by simpa [nS] using h0,show (bs s==wP)=false by simpa [wP] using h1,show (bs s==wQ)=false by simpa [wQ] using h2]
  rfl
 have HC:=aA fun W=>xV s W
 have HI:=aA fun W=>gQ s W
 rw[hr]
 generalize bG (bs s)=c at *
 generalize inK (bs s)=i at *
 clear hr h0 h1 h2
 cases h:(c != 0) with
 | true =>
  rw[Bool.true_or]
  go_enter Tryz.func182,Tryz.ntmps182
  go_wp2_with fail
  refine(HC.o _).mono ?_
  rintro e W1 ⟨rfl,rfl⟩
  go_wp2_with fail
  go_ret
  exact⟨rfl,rfl⟩
 | false =>
  rw[Bool.false_or]
  go_enter Tryz.func182,Tryz.ntmps182
  go_wp2_with fail
  refine(HC.o _).mono ?_
  rintro e W1 ⟨rfl,rfl⟩
  go_wp2_with fail
  refine(HI.o _).mono ?_
  rintro e W1 ⟨rfl,rfl⟩
  go_wp2_with fail
  go_ret
  exact⟨rfl,rfl⟩
def lW (op:Int):Int :=
 if op=1\/op=2\/op=3 then 0 else if 5<=op/\op<=7 then 1 else if 29<=op/\op<=33 then 1 else if 8<=op/\op<=25 then 2 else if 26<=op/\op<=28 then 3 else -1
def bW (x a b:Int):Bool:=decide (a<=x)&&decide (x<=b)
theorem lX (x a b:Int)(W:World):Calls Tryz.prog 201 #[.i x,.i a,.i b] W fun e W'=>e=.returned (.bool (bW x a b))/\W'=W:=by
 by_cases h:a<=x
 ·rw[show bW x a b=decide (x<=b) by simp[bW,h]]
  go_enter Tryz.func201,Tryz.ntmps201
  go_wp2
  go_ret
  exact⟨rfl,rfl⟩
 ·rw[show bW x a b=false by simp[bW];omega]
  go_enter Tryz.func201,Tryz.ntmps201
  go_wp2
  go_ret
  exact⟨rfl,rfl⟩
theorem aWr {op:Int}(h1:(op==1)=false)(h2:(op==2)=false)(h3:(op==3)=false):lW op=if bW op 5 7 then 1 else if bW op 29 33 then 1 else if bW op 8 25 then 2 else if bW op 26 28 then 3 else -1:=by
 have e1:¬op=1:=by simpa using h1
 have e2:¬op=2:=by simpa using h2
 have e3:¬op=3:=by simpa using h3
 unfold lW bW
 simp[e1,e2,e3]
theorem bQ (op:Int)(W:World):Calls Tryz.prog 129 #[.i op] W fun e W'=>e=.returned (.i (lW op))/\W'=W:=by
 by_cases h:op=1\/op=2\/op=3
 ·rcases h with rfl|rfl|rfl <;>
  ·rw[show lW _=0 by decide]
   go_enter Tryz.func129,Tryz.ntmps129
   go_wp2
   go_ret
   exact⟨rfl,rfl⟩
 ·have h1:(op==1)=false:=by simp;omega
  have h2:(op==2)=false:=by simp;omega
  have h3:(op==3)=false:=by simp;omega
  rw[aWr h1 h2 h3]
  clear h
  have H1:=aA fun W=>lX op 5 7 W
  have H2:=aA fun W=>lX op 29 33 W
  have H3:=aA fun W=>lX op 8 25 W
  have H4:=aA fun W=>lX op 26 28 W
  generalize bW op 5 7=b1 at *
  generalize bW op 29 33=b2 at *
  generalize bW op 8 25=b3 at *
  generalize bW op 26 28=b4 at *
  cases b1 with
  | true =>
   rw[if_pos rfl]
   go_enter Tryz.func129,Tryz.ntmps129
   go_wp2_with fail
   refine(H1.o _).mono ?_
   rintro e W1 ⟨rfl,rfl⟩
   go_wp2_with fail
   go_ret
   exact⟨rfl,rfl⟩
  | false =>
   rw[if_neg (by decide)]
   cases b2 with
   | true =>
    rw[if_pos rfl]
    go_enter Tryz.func129,Tryz.ntmps129
    go_wp2_with fail
    refine(H1.o _).mono ?_
    rintro e W1 ⟨rfl,rfl⟩
    go_wp2_with fail
    refine(H2.o _).mono ?_
    rintro e W1 ⟨rfl,rfl⟩
    go_wp2_with fail
    go_ret
    exact⟨rfl,rfl⟩
   | false =>
    rw[if_neg (by decide)]
    cases b3 with
    | true =>
     rw[if_pos rfl]
     go_enter Tryz.func129,Tryz.ntmps129
     go_wp2_with fail
     refine(H1.o _).mono ?_
     rintro e W1 ⟨rfl,rfl⟩
     go_wp2_with fail
     refine(H2.o _).mono ?_
     rintro e W1 ⟨rfl,rfl⟩
     go_wp2_with fail
     refine(H3.o _).mono ?_
     rintro e W1 ⟨rfl,rfl⟩
     go_wp2_with fail
     go_ret
     exact⟨rfl,rfl⟩
    | false =>
     rw[if_neg (by decide)]
     cases b4 with
     | true =>
      rw[if_pos rfl]
      go_enter Tryz.func129,Tryz.ntmps129
      go_wp2_with fail
      refine(H1.o _).mono ?_
      rintro e W1 ⟨rfl,rfl⟩
      go_wp2_with fail
      refine(H2.o _).mono ?_
      rintro e W1 ⟨rfl,rfl⟩
      go_wp2_with fail
      refine(H3.o _).mono ?_
      rintro e W1 ⟨rfl,rfl⟩
      go_wp2_with fail
      refine(H4.o _).mono ?_
      rintro e W1 ⟨rfl,rfl⟩
      go_wp2_with fail
      go_ret
      exact⟨rfl,rfl⟩
     | false =>
      rw[if_neg (by decide)]
      go_enter Tryz.func129,Tryz.ntmps129
      go_wp2_with fail
      refine(H1.o _).mono ?_
      rintro e W1 ⟨rfl,rfl⟩
      go_wp2_with fail
      refine(H2.o _).mono ?_
      rintro e W1 ⟨rfl,rfl⟩
      go_wp2_with fail
      refine(H3.o _).mono ?_
      rintro e W1 ⟨rfl,rfl⟩
      go_wp2_with fail
      refine(H4.o _).mono ?_
      rintro e W1 ⟨rfl,rfl⟩
      go_wp2_with fail
      go_ret
      exact⟨rfl,rfl⟩
def ixZ (L:List aM)(s:aM):Int:=if L.contains s then(pos L s:Int) else -1
theorem aTg {L:List aM}{s:aM}{i:Nat}(h:∀ j,j < i->L.getD j []≠s)(hi:i < L.length)(he:L.getD i []=s):ixZ L s=i:=by
 have hm:L[i]=s:=by rw[gdE,gEg hi] at he;simpa using he
 unfold ixZ
 rw[if_pos (by simp only[List.contains_iff_mem];rw[<-hm];exact List.getElem_mem hi)]
 have:pos L s=i:=by
  unfold pos
  rw[List.findIdx_eq hi]
  refine⟨by simpa using hm,fun j hj=>?_⟩
  have:=h j hj
  rw[gdE,gEg (by omega)] at this
  simpa using this
 rw[this]
theorem aXb {L:List aM}{s:aM}(h:∀ j,j < L.length->L.getD j []≠s):ixZ L s=-1:=by
 unfold ixZ
 rw[if_neg]
 intro hc
 simp only[List.contains_iff_mem] at hc
 obtain⟨j,hj,he⟩:=List.getElem_of_mem hc
 exact h j hj (by rw[gdE,gEg hj];simpa using he)
theorem aHh (L:List aM)(s:aM):decide (0<=ixZ L s)=L.contains s:=by
 unfold ixZ
 cases h:L.contains s <;> simp
theorem aWo {L:List aM}{s:aM}{k:Nat}(h:∀ j,j < k->L.getD j []≠s)(h':¬L.getD k []=s):∀ j,j < k+1->L.getD j []≠s:=by
 intro j hj
 rcases Nat.lt_succ_iff_lt_or_eq.1 hj with h1|rfl
 ·exact h j h1
 ·exact h'
structure Tx (W:World)(a:Option Addr)(n cap:Nat)(L:List aM):Prop where
 len:L.length=n
 le:n<=cap
 max:cap<=maxLen
 cell:n=0\/∃ b off,a=some ⟨b,off,none⟩/\∀ i,i < n->W.cell? ⟨b,off+i,none⟩=some (.string (sB (L.getD i [])))
theorem Tx.of_owns {W:World}{base:Nat}{v:Value}{n:Nat}{L:List aM}(h:W.ownsRow base 9 1 v n (aL0 L)):∃ a cap,v=.slice a n cap/\Tx W a n cap L:=by
 have hl:L.length=n:=by have:=h.1;simpa using this
 have hcs:=fun g hg=>h.cells (g:=g) hg
 rcases h.2 with⟨rfl,rfl⟩|⟨g,cap,cur,rfl,hb,hg,hnc,hcm,hsz,htake⟩
 ·exact⟨none,0,rfl,⟨hl,nLr _,nZl _,.inl rfl⟩⟩
 ·refine⟨some ⟨g,0,none⟩,cap,rfl,⟨hl,hnc,hcm,.inr ⟨g,0,rfl,fun i hi=>?_⟩⟩⟩
  have:=hcs g rfl i (.string (sB (L.getD i []))) (by rw[gEm,gdE,gEg (by omega)];rfl)
  rwa[Addr.add_lit] at this
theorem aBc {W:World}{a:Option Addr}{n cap:Nat}{L:List aM}(h:Tx W a n cap L)(s:ByteArray) :
  Calls Tryz.prog 257 #[.slice a n cap,.string s] W fun e W'=>e=.returned (.i (ixZ L (bs s)))/\W'=W:=by
 have HT:=aA h
 have hn:n<=9223372036854775807:=by have:=h.le;have:=h.max;unfold maxLen at *;omega
 have hl:=aA h.len
 clear h
 go_enter Tryz.func257,Tryz.ntmps257
 go_wp2
 go_loop [5,8] (fun _ i=>∃ k:Nat,k<=n/\i=.i k/\Hid (∀ j,j < k->L.getD j []≠bs s)) (fun _ i=>n-(intOf i).toNat)
 case atStart=>exact⟨0,nZl _,rfl,aA (fun j hj=>by omega)⟩
 case round =>
  obtain⟨k,hk,rfl,HA⟩:=hrel
  by_cases hlt:k < n
  ·obtain⟨b,off,rfl,hc⟩:∃ b off,a=some ⟨b,off,none⟩/\W.cell? ⟨b,off+k,none⟩=some (.string (sB (L.getD k []))):=by
    rcases HT.o.cell with h0|⟨b,off,ha,hc⟩
    ·omega
    ·exact⟨b,off,ha,hc k hlt⟩
   have hi0:(0:Int)<=k:=by omega
   have hi1:(k:Int) < n:=by omega
   by_cases he:L.getD k []=bs s
   ·rw[he,aBt] at hc
    have he:=aA he
    go_wp2
    go_ret
    exact⟨aO (by rw[aTg HA.o (by rw[hl.o];exact hlt) he.o]),rfl⟩
   ·have hq:(s.toList==(sB (L.getD k [])).toList)=false:=by
     rw[iV,iV];simp only[beq_eq_false_iff_ne,ne_eq];intro e;exact he e.symm
    have he:=aA he
    generalize sB (L.getD k [])=u at hc hq
    go_wp2
    go_round
    case rel=>exact⟨k+1,by omega,by go_num,aA (aWo HA.o he.o)⟩
    case measure=>simp[intOf];omega
  ·go_wp2
   go_ret
   exact⟨aO (by rw[aXb (fun j hj=>HA.o j (by rw[hl.o] at hj;omega))]),rfl⟩
theorem aCh {W:World}{a:Option Addr}{n cap:Nat}{L:List aM}(h:Tx W a n cap L)(s:ByteArray) :
  Calls Tryz.prog 183 #[.slice a n cap,.string s] W fun e W'=>e=.returned (.bool (L.contains (bs s)))/\W'=W:=by
 have HI:=aA (aBc h s)
 have hz:=aHh L (bs s)
 generalize ixZ L (bs s)=z at *
 clear h
 rw[<-hz]
 clear hz
 go_enter Tryz.func183,Tryz.ntmps183
 go_wp2_with fail
 refine HI.o.mono ?_
 rintro e W1 ⟨rfl,rfl⟩
 go_wp2_with fail
 go_ret
 exact⟨rfl,rfl⟩
end
section
open Go.RowKit Go.IntWalk Lx Pz
def rows:List (Nat × aM × Int):=[(0,[124],16),(1,[94],17),(2,[38],15),(3,[60],18),(3,[60,61],19),(3,[62],20),(3,[62,61],21),(3,[61,61],22),(3,[33,61],23),(4,[60,60],13),(4,[62,62],14),(5,[43],8),(5,[45],9),(6,[42],10),(6,[47],11),(6,[37],12)]
def opL (k:Nat)(s:aM):Int:=((rows.find? fun r=>r.1==k&&r.2.1==s).map (·.2.2)).getD 0
def row (i:Nat):Nat × aM × Int:=rows.getD i (0,[],0)
def tab:Array Value:=#[.i 0,.string ⟨#[124]⟩,.i 16,.i 1,.string ⟨#[94]⟩,.i 17,.i 2,.string ⟨#[38]⟩,.i 15,.i 3,.string ⟨#[60]⟩,.i 18,.i 3,.string ⟨#[60,61]⟩,.i 19,.i 3,.string ⟨#[62]⟩,.i 20,.i 3,.string ⟨#[62,61]⟩,.i 21,.i 3,.string ⟨#[61,61]⟩,.i 22,.i 3,.string ⟨#[33,61]⟩,.i 23,.i 4,.string ⟨#[60,60]⟩,.i 13,.i 4,.string ⟨#[62,62]⟩,.i 14,.i 5,.string ⟨#[43]⟩,.i 8,.i 5,.string ⟨#[45]⟩,.i 9,.i 6,.string ⟨#[42]⟩,.i 10,.i 6,.string ⟨#[47]⟩,.i 11,.i 6,.string ⟨#[37]⟩,.i 12]
abbrev zer:Array Value:=#[.i 0,.string ⟨#[]⟩,.i 0,.i 0,.string ⟨#[]⟩,.i 0,.i 0,.string ⟨#[]⟩,.i 0,.i 0,.string ⟨#[]⟩,.i 0,.i 0,.string ⟨#[]⟩,.i 0,.i 0,.string ⟨#[]⟩,.i 0,.i 0,.string ⟨#[]⟩,.i 0,.i 0,.string ⟨#[]⟩,.i 0,.i 0,.string ⟨#[]⟩,.i 0,.i 0,.string ⟨#[]⟩,.i 0,.i 0,.string ⟨#[]⟩,.i 0,.i 0,.string ⟨#[]⟩,.i 0,.i 0,.string ⟨#[]⟩,.i 0,.i 0,.string ⟨#[]⟩,.i 0,.i 0,.string ⟨#[]⟩,.i 0,.i 0,.string ⟨#[]⟩,.i 0]
theorem aTb (i:Nat)(hi:i < 16)(w:World):(Instr.index 345 (.agg tab) (.i i)).run Tryz.prog w=.ok (.agg #[.i (row i).1,.string (sB (row i).2.1),.i (row i).2.2]) w:=by
 rcases(show i=0\/i=1\/i=2\/i=3\/i=4\/i=5\/i=6\/i=7\/i=8\/i=9\/i=10\/i=11\/i=12\/i=13\/i=14\/i=15 by omega) with rfl|rfl|rfl|rfl|rfl|rfl|rfl|rfl|rfl|rfl|rfl|rfl|rfl|rfl|rfl|rfl <;> simp[Instr.index,go_sem,row,rows,tab]
theorem aUb {k:Nat}{s:aM}{i:Nat}(h:∀ j,j < i->((row j).1==k&&(row j).2.1==s)=false)(hi:i < 16)(he:((row i).1==k&&(row i).2.1==s)=true):opL k s=(row i).2.2:=by
 have hlen:rows.length=16:=rfl
 have hr:∀ j (hj:j < 16),row j=rows[j]'(by rw[hlen];exact hj):=fun j hj=>by unfold row;rw[gdE,gEg (by rw[hlen];exact hj)];rfl
 have:rows.find? (fun r=>r.1==k&&r.2.1==s)=some (row i):=by
  rw[List.find?_eq_some_iff_getElem]
  refine⟨he,i,by rw[hlen];exact hi,(hr i hi).symm,fun j hj=>?_⟩
  have:=h j hj
  rw[hr j (by omega)] at this
  rw[this]
  rfl
 unfold opL
 rw[this]
 rfl
theorem aYi {k:Nat}{s:aM}(h:∀ j,j < 16->((row j).1==k&&(row j).2.1==s)=false):opL k s=0:=by
 have hlen:rows.length=16:=rfl
 have:rows.find? (fun r=>r.1==k&&r.2.1==s)=none:=by
  rw[List.find?_eq_none]
  intro r hr
  obtain⟨j,hj,rfl⟩:=List.getElem_of_mem hr
  have:=h j (by rw[hlen] at hj;exact hj)
  unfold row at this
  rw[gdE,gEg hj] at this
  simpa using this
 unfold opL
 rw[this]
 rfl
theorem aWp {k:Nat}{s:aM}{i:Nat}(h:∀ j,j < i->((row j).1==k&&(row j).2.1==s)=false)(he:((row i).1==k&&(row i).2.1==s)=false):∀ j,j < i+1->((row j).1==k&&(row j).2.1==s)=false:=by
 intro j hj
 rcases Nat.lt_succ_iff_lt_or_eq.1 hj with h1|rfl
 ·exact h j h1
 ·exact he
theorem aSf {B g:Nat}{w0 w:World}(hb:Below B w0 w)(h:B<=g)(cs:Array Value):Below B w0 (w.setRow g cs) :=
 ⟨hb.os,hb.tape,hb.output,by rw[size_setRow];exact hb.size,fun k hk=>(setRow_other w g k cs (by omega)).trans (hb.block k hk)⟩
theorem uO (k:Nat)(s:ByteArray)(W:World) :
  Calls Tryz.prog 259 #[.i k,.string s] W fun e W'=>e=.returned (.i (opL k (bs s)))/\Below W.heap.size W W':=by
 go_enter Tryz.func259,Tryz.ntmps259
 go_upto_region 1 with fail
 go_cut [5] from 8 to 24 (fun p wc=>p=.pointer (some ⟨W.heap.size,0,none⟩)/\Hid (aB wc W.heap.size 345 tab)/\Hid (Below W.heap.size W wc))
 case first =>
  refine wp_region_lit ?_
  iterate 16 refine wpList_build (by rfl) 344 _ (by rfl) (by kernel_rfl) ?_
  refine wpList_build (by rfl) 345 _ (by rfl) (by kernel_rfl) ?_
  refine Go.Great.wpList_allocTo (by rfl) (some 5) (by rfl) (.pointer (some ⟨W.heap.size,0,none⟩)) (.cells zer 345) (by kernel_rfl) ?_
  refine wpList_store_row (by rfl) 345 _ _ (by rfl) W.heap.size tab (by kernel_rfl) (by kernel_rfl) 345 zer (heap_alloc_new W _) (by kernel_rfl) (by kernel_rfl) (by kernel_rfl) ?_
  refine wpList_nil ?_
  rename_i J K' hJ hK
  refine hK _ _ (hJ _ _ ?_)
  simp only[Act.put,List.setIfInBounds_toArray,List.set_cons_zero,List.set_cons_succ]
  exact⟨_,_,_,_,_,_,_,_,_,_,_,_,_,_,_,_,_,_,⟨rfl,aA (setRow_heap _ _ zer tab 345 (0,0) (heap_alloc_new W _)),aA (aSf (aD W _) (nLr _) tab)⟩,rfl⟩
 case rest =>
  obtain⟨rfl,HT,HB⟩:=hcut
  go_upto_region 2 with fail
  refine wp_region_lit ?_
  refine wpList_load_row (by rfl) 345 _ (by rfl) W.heap.size (by rfl) 345 tab (0,0) _ HT.o Tryz.underlying345 (by rfl) (by kernel_rfl) ?_
  have hix:=aTb
  generalize Value.agg tab=TV at hix ⊢
  clear HT
  go_wp2_with fail
  go_loopw [26] (fun i wr=>∃ j:Nat,j<=16/\i=.i j/\Hid (∀ j',j' < j->((row j').1==k&&(row j').2.1==bs s)=false)/\Hid (Below W.heap.size W wr)) (fun i _=>16-(intOf i).toNat)
  case atStart=>exact⟨0,by omega,rfl,aA (fun j' hj=>by omega),HB⟩
  case round =>
   obtain⟨j,hj,rfl,HA,HB⟩:=hrel
   by_cases hlt:j < 16
   ·have hx:=hix j hlt
    clear hix
    obtain⟨⟨r1,r2,r3⟩,hr⟩:∃ r,row j=r:=⟨_,rfl⟩
    have HY:=aA (aUb (k:=k) (s:=bs s) HA.o hlt)
    have HN:=aA (aWp (k:=k) (s:=bs s) HA.o)
    rw[hr] at hx HY HN
    simp only at hx HY HN
    clear hr HA
    cases h1:((r1:Int)==(k:Int)) with
    | false =>
     have h0:(r1==k)=false:=by simp at h1 ⊢;omega
     rw[h0] at HN
     rename_i wr
     have HB2:=aA (bel HB.o (aD wr (.cells #[.i r1,.string (sB r2),.i r3] 344)))
     go_wp2_with fail
     go_roundw
     case rel=>exact⟨j+1,by omega,by go_num,aA (HN.o rfl),HB2⟩
     case measure=>simp[intOf];omega
    | true =>
     have h0:(r1==k)=true:=by simp at h1 ⊢;omega
     rw[h0] at HN HY
     rename_i wr
     have HB2:=aA (bel HB.o (aD wr (.cells #[.i r1,.string (sB r2),.i r3] 344)))
     by_cases h2:r2=bs s
     ·have HY2:=aA (HY.o (by simp[h2]))
      rw[h2,aBt] at hx HB2
      clear HN HY h2
      go_wp2_with fail
      go_ret
      exact⟨aO HY2.o.symm,HB2.o⟩
     ·have HN2:=aA (HN.o (by simpa using h2))
      have hq:((sB r2).toList==s.toList)=false:=aJ3 (s:=sB r2) (t:=s) h2
      generalize sB r2=u at hx HB2 hq
      clear HN HY h2
      go_wp2_with fail
      go_roundw
      case rel=>exact⟨j+1,by omega,by go_num,HN2,HB2⟩
      case measure=>simp[intOf];omega
   ·obtain rfl:j=16:=by omega
    clear hix
    go_wp2_with fail
    go_ret
    exact⟨aO (by rw[aYi HA.o]),HB.o⟩
end
section
open Go.RowKit Go.IntWalk Lx Pz
def mkB (s:aM):Bool:=(marks.map (·.1)).contains s
theorem aAm {s:aM}(h:rW s=true):mkB s=false/\s≠[]:=by
 cases s with
 | nil=>simp[rW] at h
 | cons c r =>
  refine⟨?_,by simp⟩
  have hA:A c=true:=by simp[rW] at h;exact h.1.2
  have:=aIj hA
  have h':97<=(c.toNat:Int)/\(c.toNat:Int)<=122:=by simpa [A,lt] using hA
  cases hm:mkB (c::r) with
  | false=>rfl
  | true =>
   have:(c::r) ∈ marks.map (·.1):=by simpa [mkB] using hm
   simp only[marks,lMc,List.map_nil,lMm,lNm,or_false,List.cons.injEq] at this
   have hc:c=43\/c=45\/c=42\/c=47\/c=37\/c=40\/c=41\/c=44\/c=59\/c=61\/c=63\/c=58\/c=60\/c=62\/c=38\/c=124\/c=94\/c=33:=by
    rcases this with h|h|h|h|h|h|h|h|h|h|h|h|h|h|h|h|h|h|h|h|h|h|h <;> simp[h.1]
   rcases hc with rfl|rfl|rfl|rfl|rfl|rfl|rfl|rfl|rfl|rfl|rfl|rfl|rfl|rfl|rfl|rfl|rfl|rfl <;> simp at h'
theorem zQ {s:aM}(h:num s=true):mkB s=false/\s≠[]:=by
 cases s with
 | nil=>simp[num] at h
 | cons c r =>
  refine⟨?_,by simp⟩
  have hA:D c=true:=by simp[num] at h;exact h.1.1.1
  have h':48<=(c.toNat:Int)/\(c.toNat:Int)<=57:=by simpa [D,dg] using hA
  cases hm:mkB (c::r) with
  | false=>rfl
  | true =>
   have:(c::r) ∈ marks.map (·.1):=by simpa [mkB] using hm
   simp only[marks,lMc,List.map_nil,lMm,lNm,or_false,List.cons.injEq] at this
   have hc:c=43\/c=45\/c=42\/c=47\/c=37\/c=40\/c=41\/c=44\/c=59\/c=61\/c=63\/c=58\/c=60\/c=62\/c=38\/c=124\/c=94\/c=33:=by
    rcases this with h|h|h|h|h|h|h|h|h|h|h|h|h|h|h|h|h|h|h|h|h|h|h <;> simp[h.1]
   rcases hc with rfl|rfl|rfl|rfl|rfl|rfl|rfl|rfl|rfl|rfl|rfl|rfl|rfl|rfl|rfl|rfl|rfl|rfl <;> simp at h'
theorem sG {t:Tok}(h:t.kind=1):ab t=.num (vl t.text):=by unfold ab;rw[if_pos h]
theorem nX {t:Tok}(h:t.kind=2):ab t=.word t.text:=by unfold ab;rw[if_neg (by omega),if_pos h]
theorem tL {t:Tok}(h:t.kind=3):ab t=mkT t.text:=by unfold ab;rw[if_neg (by omega),if_neg (by omega)]
theorem zN {s:aM}(h:s ∈ marks.map (·.1)):(∀ v,mkT s≠.num v)/\(∀ w,mkT s≠.word w):=by
 simp only[marks,lMc,List.map_nil,lMm,lNm,or_false] at h
 rcases h with rfl|rfl|rfl|rfl|rfl|rfl|rfl|rfl|rfl|rfl|rfl|rfl|rfl|rfl|rfl|rfl|rfl|rfl|rfl|rfl|rfl|rfl|rfl <;> exact⟨fun _=>by simp[mkT,marks],fun _=>by simp[mkT,marks]⟩
theorem aX5 {s t:aM}(hs:s ∈ marks.map (·.1))(ht:t ∈ marks.map (·.1))(h:mkT s=mkT t):s=t:=by
 have key:∀ a ∈ marks.map (·.1),∀ b ∈ marks.map (·.1),mkT a=mkT b->a=b:=by decide
 exact key s hs t ht h
theorem bN {t:Tok}(h:Wf t){s:aM}(hs:s ∈ marks.map (·.1)):t.text=s↔ab t=mkT s:=by
 have hb:mkB s=true:=by simpa [mkB] using hs
 rcases h with⟨hk,hn⟩|⟨hk,hn⟩|⟨hk,hn⟩
 ·constructor
  ·intro e;rw[e] at hn;rw[(zQ hn).1] at hb;cases hb
  ·intro e;rw[sG hk] at e;exact absurd e.symm ((zN hs).1 _)
 ·constructor
  ·intro e;rw[e] at hn;rw[(aAm hn).1] at hb;cases hb
  ·intro e;rw[nX hk] at e;exact absurd e.symm ((zN hs).2 _)
 ·rw[tL hk]
  exact⟨fun e=>by rw[e],fun e=>aX5 hn hs e⟩
theorem aGo {t:Tok}(h:Wf t){s:aM}(hs:rW s=true):t.text=s↔ab t=.word s:=by
 rcases h with⟨hk,hn⟩|⟨hk,hn⟩|⟨hk,hn⟩
 ·constructor
  ·intro e
   rw[e] at hn
   cases s with
   | nil=>simp[rW] at hs
   | cons c r =>
    have hA:A c=true:=by simp[rW] at hs;exact hs.1.2
    have hD:D c=true:=by simp[num] at hn;exact hn.1.1.1
    rw[(aIj hA).2.2.1] at hD;cases hD
  ·intro e;rw[sG hk] at e;cases e
 ·rw[nX hk];exact⟨fun e=>by rw[e],fun e=>by cases e;rfl⟩
 ·constructor
  ·intro e;rw[e] at hn;have:mkB s=true:=by simpa [mkB] using hn
   rw[(aAm hs).1] at this;cases this
  ·intro e;rw[tL hk] at e;exact absurd e ((zN hn).2 _)
theorem aOk {t:Tok}(h:Wf t){v:Int}(e:ab t=.num v):t.kind=1/\num t.text=true/\vl t.text=v:=by
 rcases h with⟨hk,hn⟩|⟨hk,hn⟩|⟨hk,hn⟩
 ·rw[sG hk] at e;cases e;exact⟨hk,hn,rfl⟩
 ·rw[nX hk] at e;cases e
 ·rw[tL hk] at e;exact absurd e ((zN hn).1 _)
theorem aOl {t:Tok}(h:Wf t){s:aM}(e:ab t=.word s):t.kind=2/\rW t.text=true/\t.text=s:=by
 rcases h with⟨hk,hn⟩|⟨hk,hn⟩|⟨hk,hn⟩
 ·rw[sG hk] at e;cases e
 ·rw[nX hk] at e;cases e;exact⟨hk,hn,rfl⟩
 ·rw[tL hk] at e;exact absurd e ((zN hn).2 _)
theorem lI {t:Tok}(h:Wf t)(h1:∀ v,ab t≠.num v)(h2:∀ s,ab t≠.word s):t.kind=3:=by
 rcases h with⟨hk,hn⟩|⟨hk,hn⟩|⟨hk,hn⟩
 ·exact absurd (sG hk) (h1 _)
 ·exact absurd (nX hk) (h2 _)
 ·exact hk
theorem aFf {t : Tok} (h : Wf t) (h1 : ∀ v, ab t ≠ .num v) : num t.text = false := by
  rcases h with ⟨hk, hn⟩ | ⟨hk, hn⟩ | ⟨hk, hn⟩
  · exact absurd (sG hk) (h1 _)
  · cases hs : num t.text with
    | false => rfl
    | true =>
      cases ht : t.text with
      | nil => rw [ht] at hs; simp [num] at hs
      | cons c r =>
        rw [ht] at hs hn
        have hA : A c = true := by simp [rW] at hn; exact hn.1.2
        have hD : D c = true := by simp [num] at hs; exact hs.1.1.1
        rw [(aIj hA).2.2.1] at hD; cases hD
  · cases hs : num t.text with
    | false => rfl
    | true => have : mkB t.text = true := by simpa [mkB] using hn
              rw [(zQ hs).1] at this; cases this
theorem aPl (k:Nat){s:aM}(hs:s ∈ marks.map (·.1)):(opL k s=0/\∀ o,mkT s≠.op k o)\/(opL k s≠0/\mkT s=.op k (opL k s)):=by
 by_cases hk:k < 7
 ·rcases(show k=0\/k=1\/k=2\/k=3\/k=4\/k=5\/k=6 by omega) with rfl|rfl|rfl|rfl|rfl|rfl|rfl <;>
  ·simp only[marks,lMc,List.map_nil,lMm,lNm,or_false] at hs
   rcases hs with rfl|rfl|rfl|rfl|rfl|rfl|rfl|rfl|rfl|rfl|rfl|rfl|rfl|rfl|rfl|rfl|rfl|rfl|rfl|rfl|rfl|rfl|rfl <;> first
   | exact .inl ⟨by decide,fun o=>by simp[mkT,marks]⟩
   | exact .inr ⟨by decide,by decide⟩
 ·left
  constructor
  ·unfold opL
   have:rows.find? (fun r=>r.1==k&&r.2.1==s)=none:=by
    rw[List.find?_eq_none]
    intro r hr
    have:r.1 < 7:=by
     have key:∀ r ∈ rows,r.1 < 7:=by decide
     exact key r hr
    simp
    intro e;omega
   rw[this];rfl
  ·intro o e
   have key:∀ a ∈ marks.map (·.1),∀ k o,mkT a=.op k o->k < 7:=by
    intro a ha k o
    simp only[marks,lMc,List.map_nil,lMm,lNm,or_false] at ha
    rcases ha with rfl|rfl|rfl|rfl|rfl|rfl|rfl|rfl|rfl|rfl|rfl|rfl|rfl|rfl|rfl|rfl|rfl|rfl|rfl|rfl|rfl|rfl|rfl <;> simp[mkT,marks] <;> omega
   have:=key s hs k o e
   omega
theorem zT {k:Nat}{s:aM}(h:mkB s=false):opL k s=0:=by
 unfold opL
 have:rows.find? (fun r=>r.1==k&&r.2.1==s)=none:=by
  rw[List.find?_eq_none]
  intro r hr
  have key:∀ r ∈ rows,mkB r.2.1=true:=by decide
  simp only[bAt,beq_iff_eq,not_and]
  intro _ e
  have:=key r hr
  rw[e,h] at this;cases this
 rw[this];rfl
theorem aJk (k:Nat){t:Tok}(h:Wf t):(opL k t.text=0/\∀ o,ab t≠.op k o)\/(opL k t.text≠0/\ab t=.op k (opL k t.text)):=by
 rcases h with⟨hk,hn⟩|⟨hk,hn⟩|⟨hk,hn⟩
 ·exact .inl ⟨zT (zQ hn).1,fun o=>by rw[sG hk];simp⟩
 ·exact .inl ⟨zT (aAm hn).1,fun o=>by rw[nX hk];simp⟩
 ·rw[tL hk];exact aPl k hn
theorem iP {T:List Tok}(hw:∀ t ∈ T,Wf t){s:aM}(hs:s ∈ marks.map (·.1))(h:(T.map ab).head?≠some (mkT s)):(hd T).text≠s:=by
 cases T with
 | nil =>
  intro e
  have key:∀ a ∈ marks.map (·.1),a≠[]:=by decide
  exact key s hs e.symm
 | cons t T =>
  intro e
  exact h (by simp[(bN (hw t (by simp)) hs).1 e])
theorem bAp {T:List Tok}(hw:∀ t ∈ T,Wf t){s:aM}(hs:s ∈ marks.map (·.1)){r:List Tk}(h:T.map ab=mkT s::r):∃ t T',T=t::T'/\t.text=s/\T'.map ab=r:=by
 cases T with
 | nil=>simp at h
 | cons t T =>
  simp only[lMc,List.cons.injEq] at h
  exact⟨t,T,rfl,(bN (hw t (by simp)) hs).2 h.1,h.2⟩
end
section
open Go.RowKit Go.IntWalk Lx Pz
variable {W w:World} {b:Nat} {BS:List Int}
theorem bAs:(Tryz.prog.info? 137).map (fun i=>(i.zero,i.size,i.bytes))=some (some (.agg #[.i 0,.i 0,.i 0,.i 0,.i 0,.i 0,.i 0,.i 0,.i 0]),9,72):=by kernel_rfl
abbrev bH (n:Nd):Array Value:=#[.i n.op,.i n.a,.i n.b,.i n.c,.i n.k,.i n.back,.i n.co,.i n.x,.i n.y]
theorem aT2 {n:Nd}(h:aB W b 137 (bH n)):∀ j u,(nd9 n)[j]?=some u->W.cell? ((⟨b,0,none⟩:Addr).add j)=some u:=by
 intro j u hu
 rw[Addr.add_lit]
 rw[nZa]
 exact h.cell j (by rw[<-hu];simp[bH,nd9])
theorem aU9 {m:Mm}{T:List Tok}{NM:List aM}{NS:List Nd}{ops:Array Oper}{o:Oper}{a:Act}{K:Act->World->Prop}{Q:Exit->Act->World->Prop}{E:Prop}
  (hgd:o.guard=none) (s x:Operand) (ho:o.op=.call { callee:=.builtin .append,args:=#[s,x],argTypes:=#[48,48] })
  (hs:a.eval s=m.dv) (hR:Rd w W b m T NM BS NS) (q:Nat) (n:Nd) (hx:a.eval x=.slice (some ⟨q,0,none⟩) 1 1) (hc:aB W q 137 (bH n)) (h3:NS.length<=2000000)
  (h:∀ g cap w',w'.ownsRow w.heap.size 137 9 (.slice (some ⟨g,0,none⟩) (NS.length+1) cap) (NS++[n]).length (uN (NS++[n]))->aB w' b 106 m.cs->Kp [137] W w'->Below w.heap.size w w'->W.grownBy w' m.dv.ownBlock->K (a.put o.dst (.slice (some ⟨g,0,none⟩) (NS.length+1) cap)) w') :
  if Region.wanted o (yielded ops a.tmps)=true then Oper.wp Tryz.prog o a W K Q else E:=by
 obtain⟨i0,hi0,hz0,hz1,hz2⟩:=info_parts bAs
 refine step_append_lies W hgd s x 48 ho w.heap.size 137 i0 _ 9 72 Tryz.underlying48 hi0 hz0 hz1 hz2 rfl (by omega) m.dv NS.length (uN NS) hs hR.nodes ⟨q,0,none⟩ 1 1 (nd9 n) hx rfl (aT2 hc) (by simp[nd9,Value.oneCell']) (by omega) (by unfold maxLen;omega) (by omega) hR.old.size W.heap.size rfl ?_
 intro g cap w' hown hgrow hat hlt
 have hk:Kp [137] W w':=Kp.grown hgrow fun k hk=>by
  obtain⟨_,cs,fr,hb⟩:=aR hR.nodes k hk
  exact⟨cs,_,fr,hb,by simp⟩
 exact h g cap w' (by rw[aK9,lLa];exact hown) (hR.blk.kp hk (by decide)) hk (hR.old.grown hgrow hR.old.size fun k hk=>(aR hR.nodes k hk).1) hgrow
abbrev nine (W:World)(q:Nat)(n:Nd):Prop:=W.cell? ⟨q,0,none⟩=some (.i n.op)/\W.cell? ⟨q,1,none⟩=some (.i n.a)/\W.cell? ⟨q,2,none⟩=some (.i n.b)/\W.cell? ⟨q,3,none⟩=some (.i n.c)/\W.cell? ⟨q,4,none⟩=some (.i n.k)/\W.cell? ⟨q,5,none⟩=some (.i n.back)/\W.cell? ⟨q,6,none⟩=some (.i n.co)/\W.cell? ⟨q,7,none⟩=some (.i n.x)/\W.cell? ⟨q,8,none⟩=some (.i n.y)
theorem aB.nine {W:World}{q:Nat}{n:Nd}(h:aB W q 137 (bH n)):nine W q n :=
 ⟨h.cell 0 rfl,h.cell 1 rfl,h.cell 2 rfl,h.cell 3 rfl,h.cell 4 rfl,h.cell 5 rfl,h.cell 6 rfl,h.cell 7 rfl,h.cell 8 rfl⟩
theorem aPd {V Z w1:World}{m:Mm}{T:List Tok}{NM:List aM}{NS NS':List Nd}{v:Value}(hR:Rd w V b m T NM BS NS)(hVZ:Below V.heap.size V Z)
  (hown:w1.ownsRow w.heap.size 137 9 v NS'.length (uN NS')) (hb1:aB w1 b 106 m.cs) (hk1:Kp [137] Z w1) (hold:Below w.heap.size w w1) :
  (∃ m',Rd w (w1.setCell ⟨b,3,none⟩ v) b m' T NM BS NS')/\Kp SX V (w1.setCell ⟨b,3,none⟩ v):=by
 have ks:Kp [106] w1 (w1.setCell ⟨b,3,none⟩ v):=Kp.set hb1 (by simp) 3 v
 have hk:Kp SX V (w1.setCell ⟨b,3,none⟩ v):=((Kp.of_below SX hVZ).trans (hk1.mono (by decide))).trans (ks.mono (by decide))
 exact⟨⟨⟨m.la,m.ln,m.lc,m.nv,m.bv,v,m.root⟩,hb1.set 3 v,hR.base,hR.toks.kp hk (by decide),bB hR.names hk (by decide),bB hR.binds hk (by decide),bB hown ks (by decide),hR.wf,hold.setCell hR.base v⟩,hk⟩
theorem fM {m:Mm}{T:List Tok}{NM:List aM}{NS:List Nd}(h:Rd w W b m T NM BS NS)(n:Nd)(h3:NS.length<=2000000) :
  Calls Tryz.prog 186 #[ptr b,.agg (bH n)] W fun e W'=>e=.returned (.i NS.length)/\(∃ m',Rd w W' b m' T NM BS (NS++[n]))/\Kp SX W W':=by
 have HR:=aA (h.later (aD W (.cells (bH n) 137)))
 have HN:=aA (aB.new W 137 (bH n))
 have HO:=aA (show ∀ k,m.dv.ownBlock=some k->k < W.heap.size from fun k hk=>(h.nodes.lt k hk).2)
 have HK:=aA (Kp.of_below SX (aD W (.cells (bH n) 137)))
 clear h
 obtain⟨la,ln,lc,nv,bv,dv,root⟩:=m
 go_enter Tryz.func186,Tryz.ntmps186
 go_wp2_with fail
 generalize hV:W.alloc (.cells (bH n) 137)=V at *
 generalize hq:W.heap.size=q at *
 have d3:V.cell? ⟨b,3,none⟩=some dv:=HR.o.blk.cell 3 rfl
 have hbV:b < V.heap.size:=HR.o.blk.lt
 have d3a:∀ o:Obj,(V.alloc o).cell? ⟨b,3,none⟩=some dv:=fun o=>(aZ hbV).trans d3
 obtain⟨e0,e1,e2,e3,e4,e5,e6,e7,e8⟩:=HN.o.nine
 clear hV hq
 go_region_law
  (first
   | (refine aU9 (m:=⟨la,ln,lc,nv,bv,dv,root⟩) (by rfl) _ _ (by rfl) (by rfl) (by first | exact(HR.o.later (aD _ _)).later (aF _) | exact(HR.o.later (aF V)).later (aD _ _)) V.heap.size n (by rfl) (by first | exact aB.new _ _ _ | exact(aB.new V 137 (bH n)).below (aF _)) h3 ?_;intro g cap w1 hown hb1 hk1 hold hgrow;have t3:=hb1.cell 3 rfl;have y3:=hb1.frozen 3))
 all_goals
  have HE:=aA (aPd HR.o (by first|exact bel (aD V _) (aF _)|exact bel (aF V) (aD _ _)) hown hb1 hk1 hold)
  have c3:=(hb1.set 3 (.slice (some ⟨g,0,none⟩) (NS.length+1) cap)).cell 3 rfl
  clear hown hb1 hk1 hold hgrow t3 y3 e0 e1 e2 e3 e4 e5 e6 e7 e8 d3 d3a HN HO
  generalize w1.setCell ⟨b,3,none⟩ (.slice (some ⟨g,0,none⟩) (NS.length+1) cap)=F at *
  go_wp2_with fail
  go_ret
  exact⟨aO (by omega),HE.o.1,HK.o.trans HE.o.2⟩
end
section
open Go.RowKit Go.IntWalk Lx Pz
theorem aA7:∀(r:List UInt8) (n:Int),r.all D=true->1<=n->10 ^ r.length*n<=r.foldl (fun n c=>10*n+((c.toNat:Int)-48)) n
 | [],n,_,_=>by simp
 | c::r,n,h,hn=>by
  simp only[lAc,bAt] at h
  have hc:=aEd.1 h.1
  have:=aA7 r (10*n+((c.toNat:Int)-48)) h.2 (by omega)
  simp only[List.foldl_cons,lLc]
  have h2:(10:Int) ^ r.length*(10*n)<=10 ^ r.length*(10*n+((c.toNat:Int)-48)):=Int.mul_le_mul_of_nonneg_left (by omega) (Int.pow_nonneg (by decide))
  rw[Int.pow_succ,Int.mul_assoc]
  omega
theorem aT4 {s:aM}(h:num s=true):s.length<=10:=by
 cases s with
 | nil=>simp
 | cons c r =>
  have hd:(c::r).all D=true:=by simp only[num,bAt] at h;exact h.1.1.2
  have hv:vl (c::r)<=2147483647:=by simp only[num,bAt,dEt] at h;exact h.2
  have hz:((c::r).headD 0==48&&decide (1 < (c::r).length))=false:=by simp only[num,bAt,Bool.not_eq_true'] at h;exact h.1.2
  cases r with
  | nil=>simp
  | cons d r =>
   have h1:c≠48:=by
    intro e;subst e;simp at hz
   have hc:=aEd.1 (by simp at hd;exact hd.1:D c=true)
   have h48:(c.toNat:Int)≠48:=fun e=>h1 (UInt8.toNat_inj.1 (by simpa using (by omega:c.toNat=48)))
   have h2:10 ^ (d::r).length*((c.toNat:Int)-48)<=vl (c::d::r):=by
    have:=aA7 (d::r) ((c.toNat:Int)-48) (by simp at hd ⊢;exact hd.2) (by omega)
    have e:vl (c::d::r)=(d::r).foldl (fun n c=>10*n+((c.toNat:Int)-48)) ((c.toNat:Int)-48):=by simp[vl]
    rw[e];exact this
   rcases Nat.lt_or_ge (d::r).length 10 with hl|hl
   ·simp at hl ⊢;omega
   ·exfalso
    have h3:(10:Int) ^ 10<=10 ^ (d::r).length:=by
     have:=Nat.pow_le_pow_right (n:=10) (by decide) hl
     exact_mod_cast this
    have h4:(10:Int) ^ (d::r).length*1<=10 ^ (d::r).length*((c.toNat:Int)-48):=Int.mul_le_mul_of_nonneg_left (by omega) (Int.pow_nonneg (by decide))
    have:(10:Int) ^ 10=10000000000:=by decide
    omega
theorem aZy {t:Tok}(h:Wf t):t.text.length<=16:=by
 rcases h with⟨hk,hn⟩|⟨hk,hn⟩|⟨hk,hn⟩
 ·have:=aT4 hn;omega
 ·simp only[rW,bAt,dEt] at hn;exact hn.1.1.2
 ·have key:∀ a ∈ marks.map (·.1),a.length<=16:=by decide
  exact key _ hn
theorem aDn (l:List UInt8):(sB l).size=l.length:=by simp[ByteArray.size]
def bCb (w W:World)(b:Nat)(T:List Tok)(NM:List aM)(BS:List Int)(NS:List Nd)(e:Ending)(W':World):Prop :=
 ((∀ v r,T.map ab≠.num v::r)/\e=pan/\Below w.heap.size w W')\/(∃ v t T',T=t::T'/\ab t=.num v/\e=.returned (.i v)/\(∃ m',Rd w W' b m' T' NM BS NS)/\Kp SX W W')
theorem bBf {s:aM}(h:num s=true):nv s=vl s:=by unfold nv;rw[if_pos h]
theorem rA {w W:World}{b:Nat}{m:Mm}{T:List Tok}{NM:List aM}{BS:List Int}{NS:List Nd}(h:Rd w W b m T NM BS NS) :
  Calls Tryz.prog 337 #[ptr b] W fun e W'=>bCb w W b T NM BS NS e W':=by
 have HW:=aA h
 have F1:=aEv
 clear h
 go_enter Tryz.func337,Tryz.ntmps337
 go_wp2_with fail
 refine(aPb HW.o).mono ?_
 rintro e W1 (⟨rfl,rfl,hb⟩|⟨t,T',rfl,hwf,rfl,hR,hk⟩)
 ·have HB:=aA hb
  clear hb
  go_wp2_with fail
  exact⟨rfl,.inl ⟨fun v r e=>by simp at e,rfl,HB.o⟩⟩
 ·have HR:=aA hR
  have HK:=aA hk
  have HWf:=aA hwf
  have hn:=fun w=>jP (sB t.text) w (by rw[aDn];have:=aZy hwf;unfold maxLen;omega)
  rw[iB] at hn
  have HN:=aA hn
  clear hR hk hwf hn
  by_cases hv:∃ v,ab t=.num v
  ·obtain⟨v,hv⟩:=hv
   obtain⟨h1,h2,h3⟩:=aOk HWf.o hv
   rw[bBf h2,h2,h3] at HN
   have HV:=aA hv
   clear h1 h2 h3 hv
   go_wp2_with fail
   refine(HN.o _).mono ?_
   rintro e W2 ⟨rfl,rfl⟩
   go_wp2_with fail
   go_ret
   exact .inr ⟨v,t,T',rfl,HV.o,rfl,HR.o,HK.o⟩
  ·have hv':∀ v,ab t≠.num v:=fun v e=>hv ⟨v,e⟩
   rw[aFf HWf.o hv'] at HN
   have HV:=aA hv'
   clear hv hv'
   go_wp2_with fail
   refine(HN.o _).mono ?_
   rintro e W2 ⟨rfl,rfl⟩
   go_wp2_with fail
   obtain⟨m',hm'⟩:=HR.o
   exact⟨rfl,.inl ⟨fun v r e=>by simp at e;exact HV.o v e.1,rfl,hm'.old⟩⟩
def bCc (w W:World)(b:Nat)(T:List Tok)(NM:List aM)(BS:List Int)(NS:List Nd)(e:Ending)(W':World):Prop :=
 (off (T.map ab)=none/\e=pan/\Below w.heap.size w W')\/(∃ x P T',off (T.map ab)=some (x,T'.map ab)/\T=P++T'/\e=.returned (.i x)/\(∃ m',Rd w W' b m' T' NM BS NS)/\Kp SX W W')
theorem aPi {l:List Tk}(h1:∀ v r,l≠.num v::r)(h2:l.head?≠some (.op 5 9)):off l=none:=by
 unfold off
 split
 ·exact absurd rfl (h1 _ _)
 ·rename_i k o v r
  split
  ·rename_i hk
   obtain⟨rfl,rfl⟩:=hk
   exact absurd rfl h2
  ·rfl
 ·rfl
theorem aLb {l:List Tk}(h:∀ v r,l≠.num v::r):off (.op 5 9::l)=none:=by
 unfold off
 split
 ·rename_i heq;cases heq
 ·rename_i heq;cases heq;exact absurd rfl (h _ _)
 ·rfl
theorem rC {w W:World}{b:Nat}{m:Mm}{T:List Tok}{NM:List aM}{BS:List Int}{NS:List Nd}(h:Rd w W b m T NM BS NS) :
  Calls Tryz.prog 387 #[ptr b] W fun e W'=>bCc w W b T NM BS NS e W':=by
 have HW:=aA h
 have hw:=h.wf
 clear h
 by_cases hm:(T.map ab).head?=some (.op 5 9)
 ·obtain⟨r,hr⟩:∃ r,T.map ab=.op 5 9::r:=by
   cases hT:T.map ab with
   | nil=>rw[hT] at hm;cases hm
   | cons a r=>rw[hT] at hm;simp at hm;exact⟨r,by rw[hm]⟩
  obtain⟨t,T1,rfl,ht,hr1⟩:=bAp (s:=[45]) hw (by decide) (r:=r) hr
  have HH:=aA (show ab t=.op 5 9 from(bN (hw t (by simp)) (s:=[45]) (by decide)).1 ht)
  have ht:=aA ht
  clear hm hr hr1 hw
  go_enter Tryz.func387,Tryz.ntmps387
  go_wp2_with fail
  refine(lQ HW.o _ ht.o).mono ?_
  rintro e W1 ⟨rfl,⟨m1,hR⟩,hk⟩
  have HR:=aA hR
  have HK:=aA hk
  clear hR hk
  go_wp2_with fail
  refine(rA HR.o).mono ?_
  rintro e W2 (⟨hn,rfl,hb⟩|⟨v,t2,T2,rfl,hv,rfl,hR,hk⟩)
  ·have HB:=aA hb
   have hn:=aA hn
   clear hb
   go_wp2_with fail
   exact⟨rfl,.inl ⟨by rw[lMc,HH.o];exact aLb hn.o,rfl,HB.o⟩⟩
  ·have HR2:=aA hR
   have HK2:=aA (HK.o.trans hk)
   have hv:=aA hv
   have hb:=aA (show 0<=v/\v<=2147483647 by
    obtain⟨-,h2,h3⟩:=aOk (HR.o.wf t2 (by simp)) hv.o
    simp only[num,bAt,dEt] at h2
    rw[<-h3]
    exact⟨vW h2.1.1.2,h2.2⟩)
   obtain⟨v0,v1⟩:=hb.o
   clear hR hk
   go_wp2_with fail
   go_ret
   exact .inr ⟨-v,[t,t2],T2,by simp[HH.o,hv.o,off],rfl,rfl,HR2.o,HK2.o⟩
 ·have hs:=aA (iP (s:=[45]) hw (by decide) hm)
  have hm:=aA hm
  clear hw
  go_enter Tryz.func387,Tryz.ntmps387
  go_wp2_with fail
  refine(mI HW.o _ hs.o).mono ?_
  rintro e W1 ⟨rfl,hb⟩
  have HR:=aA (HW.o.later hb)
  have HK:=aA (Kp.of_below SX hb)
  clear hb
  go_wp2_with fail
  refine(rA HR.o).mono ?_
  rintro e W2 (⟨hn,rfl,hb⟩|⟨v,t2,T2,rfl,hv,rfl,hR,hk⟩)
  ·have HB:=aA hb
   have hn:=aA hn
   clear hb
   go_wp2_with fail
   exact⟨rfl,.inl ⟨aPi hn.o hm.o,rfl,HB.o⟩⟩
  ·have HR2:=aA hR
   have HK2:=aA (HK.o.trans hk)
   have hv:=aA hv
   clear hR hk
   go_wp2_with fail
   go_ret
   exact .inr ⟨v,[t2],T2,by simp[hv.o,off],rfl,rfl,HR2.o,HK2.o⟩
end
open Go.RowKit Go.IntWalk Lx Pz
theorem Kp.store_new {S:List TypeId}{W V:World}(h:Kp S W V){p:Addr}(hp:W.heap.size<=p.block)(u:Value):Kp S W (V.setCell p u) :=
 ⟨by have:=h.size;simp[World.setCell];omega,fun k cs t fr hk ht=>(Below.heap_setCell V p u k (by have:=(aGs.1 hk).1;omega)).trans (h.block k cs t fr hk ht)⟩
theorem Rd.kp {w W W':World}{b:Nat}{m:Mm}{T:List Tok}{NM:List aM}{BS:List Int}{NS:List Nd}(h:Rd w W b m T NM BS NS){t:TypeId}(hk:Kp [t] W W')(ht:t≠106/\t≠157/\t≠9/\t≠3/\t≠137)(hb:Below w.heap.size w W'):Rd w W' b m T NM BS NS:=by
 obtain⟨h1,h2,h3,h4,h5⟩:=ht
 exact⟨h.blk.kp hk (by simpa using Ne.symm h1),h.base,h.toks.kp hk (by simpa using Ne.symm h2),bB h.names hk (by simpa using Ne.symm h3),bB h.binds hk (by simpa using Ne.symm h4),bB h.nodes hk (by simpa using Ne.symm h5),h.wf,hb⟩
structure Pl (w W V:World)(b:Nat)(T:List Tok)(NM:List aM)(BS:List Int)(NS:List Nd)(q:Nat)(ty:TypeId)(cs:Array Value):Prop where
 rd:∃ m,Rd w V b m T NM BS NS
 kp:Kp SX W V
 va:aB V q ty cs
 q0:W.heap.size<=q
 w0:w.heap.size<=W.heap.size
theorem Pl.store {w W V:World}{b:Nat}{T:List Tok}{NM:List aM}{BS:List Int}{NS:List Nd}{q:Nat}{ty:TypeId}{cs:Array Value}(h:Pl w W V b T NM BS NS q ty cs)(ht:ty≠106/\ty≠157/\ty≠9/\ty≠3/\ty≠137)(i:Nat)(u:Value) :
  Pl w W (V.setCell ⟨q,i,none⟩ u) b T NM BS NS q ty (cs.setIfInBounds i u):=by
 obtain⟨m,hm⟩:=h.rd
 exact⟨⟨m,hm.kp (Kp.set h.va (by simp) i u) ht (hm.old.setCell (by have:=h.q0;have:=h.w0;show w.heap.size<=q;omega) u)⟩,h.kp.store_new h.q0 u,h.va.set i u,h.q0,h.w0⟩
theorem Pl.step {w W V V':World}{b:Nat}{T T':List Tok}{NM:List aM}{BS:List Int}{NS NS':List Nd}{q:Nat}{ty:TypeId}{cs:Array Value}(h:Pl w W V b T NM BS NS q ty cs)(ht:ty≠106/\ty≠157/\ty≠9/\ty≠3/\ty≠137)
  (hr:∃ m,Rd w V' b m T' NM BS NS') (hk:Kp SX V V'):Pl w W V' b T' NM BS NS' q ty cs :=
 ⟨hr,h.kp.trans hk,h.va.kp hk (by obtain⟨h1,h2,h3,h4,h5⟩:=ht;simp[h1,h5]),h.q0,h.w0⟩
theorem Pl.later {w W V V':World}{b:Nat}{T:List Tok}{NM:List aM}{BS:List Int}{NS:List Nd}{q:Nat}{ty:TypeId}{cs:Array Value}(h:Pl w W V b T NM BS NS q ty cs)(hb:Below V.heap.size V V'):Pl w W V' b T NM BS NS q ty cs:=by
 obtain⟨m,hm⟩:=h.rd
 exact⟨⟨m,hm.later hb⟩,h.kp.trans (Kp.of_below SX hb),h.va.below hb,h.q0,h.w0⟩
theorem Pl.begin {w W:World}{b:Nat}{m:Mm}{T:List Tok}{NM:List aM}{BS:List Int}{NS:List Nd}(h:Rd w W b m T NM BS NS)(ty:TypeId)(cs:Array Value):Pl w W (W.alloc (.cells cs ty)) b T NM BS NS W.heap.size ty cs :=
 ⟨⟨m,h.later (aD _ _)⟩,Kp.of_below SX (aD _ _),aB.new _ _ _,nLr _,h.old.size⟩
def Ok (w W:World)(b:Nat)(T:List Tok)(NM:List aM)(BS:List Int)(NS:List Nd)(res:Option (E × List Tk))(e:Ending)(W':World):Prop :=
 (res=none/\e=pan/\Below w.heap.size w W') \/
 (∃ ex P T',res=some (ex,T'.map ab)/\T=P++T'/\e=.returned (.i ((NS.length+ex.size:Nat)-1:Int))/\(∃ m',Rd w W' b m' T' NM BS (NS++ex.flat NS.length))/\Kp SX W W')
theorem lT {n:Nat}(e:E)(h:e.size=1):Ending.returned (.i n)=.returned (.i ((n+e.size:Nat)-1:Int)):=aO (by omega)
theorem dF {T:List Tok}{x:Tk}(h:(T.map ab).head?=some x):∃ t T',T=t::T'/\ab t=x:=by
 cases T with
 | nil=>simp at h
 | cons t T=>simp at h;exact⟨t,T,rfl,h⟩
end Go.Proofs.YticnbcfmbhjbgaaGreatDoor
