import Derived.Test.YtngnnijpdjhelaaGreatX32
namespace Go.Proofs.YtngnnijpdjhelaaGreat
open Go.RowKit Go.IntWalk Lx Pz
set_option linter.unusedVariables false
set_option maxRecDepth 100000
set_option maxHeartbeats 16000000
def calL:List Txt:=[[97,98,115],[115,103,110],[109,105,110],[109,97,120],[99,108,97,109,112],[109,101,100]]
def insL:List Txt:=[[120],[121],[99],[108,111],[104,105],[109,105,100]]
abbrev calC:Array Value:=#[.string ⟨#[97,98,115]⟩,.string ⟨#[115,103,110]⟩,.string ⟨#[109,105,110]⟩,.string ⟨#[109,97,120]⟩,.string ⟨#[99,108,97,109,112]⟩,.string ⟨#[109,101,100]⟩]
abbrev insC:Array Value:=#[.string ⟨#[120]⟩,.string ⟨#[121]⟩,.string ⟨#[99]⟩,.string ⟨#[108,111]⟩,.string ⟨#[104,105]⟩,.string ⟨#[109,105,100]⟩]
theorem Tx.of_has {W:World}{b:Nat}{cs:Array Value}{L:List Txt}(h:HasC W b 9 cs)(hc:cs.toList=tx64 L)(hl:L.length<=100):Tx W (some ⟨b,0,none⟩) L.length L.length L:=by
 refine⟨rfl,Nat.le_refl _,by unfold maxLen;omega,.inr ⟨b,0,rfl,fun i hi=>?_⟩⟩
 rw[Nat.zero_add]
 refine h.cell i ?_
 rw[<-Array.getElem?_toList,hc,List.getElem?_map,List.getD_eq_getElem?_getD,List.getElem?_eq_getElem hi]
 rfl
theorem qplace_any {W:World}{a:Option Addr}{n cap:Nat}{L:List Txt}(h:Tx W a n cap L)(s:ByteArray) :
  Calls Tryz.prog 78 #[.slice a n cap,.string s] W fun e W'=>e=.returned (.int .i64 (ixZ L (bs s)))/\W'=W:=by
 have HT:=hide h
 have hn:n<=9223372036854775807:=by have:=h.le;have:=h.max;unfold maxLen at *;omega
 have hl:=hide h.len
 clear h
 go_enter Tryz.func78,Tryz.ntmps78
 go_wp2
 go_loop [5] (fun i=>∃ k:Nat,k<=n/\i=.int .i64 k/\Hid (∀ j,j < k->L.getD j []≠bs s)) (fun i=>n-(intOf i).toNat)
 case atStart=>exact⟨0,Nat.zero_le _,rfl,hide (fun j hj=>by omega)⟩
 case round =>
  obtain⟨k,hk,rfl,HA⟩:=hrel
  by_cases hlt:k < n
  ·obtain⟨b,off,rfl,hc⟩:∃ b off,a=some ⟨b,off,none⟩/\W.cell? ⟨b,off+k,none⟩=some (.string (sB (L.getD k []))):=by
    rcases HT.out.cell with h0|⟨b,off,ha,hc⟩
    ·omega
    ·exact⟨b,off,ha,hc k hlt⟩
   have hi0:(0:Int)<=k:=by omega
   have hi1:(k:Int) < n:=by omega
   by_cases he:L.getD k []=bs s
   ·rw[he,sB_bs] at hc
    have he:=hide he
    go_wp2
    go_ret
    exact⟨ret_int (by rw[ixZ_yes HA.out (by rw[hl.out];exact hlt) he.out]),rfl⟩
   ·have hq:((sB (L.getD k [])).toList==s.toList)=false:=text_ne (s:=sB (L.getD k [])) (t:=s) he
    have he:=hide he
    generalize sB (L.getD k [])=u at hc hq
    go_wp2
    go_round
    case rel=>exact⟨k+1,by omega,by go_num,hide (all_ne HA.out he.out)⟩
    case measure=>simp[intOf];omega
  ·go_wp2
   go_ret
   exact⟨ret_int (by rw[ixZ_no (fun j hj=>HA.out j (by rw[hl.out] at hj;omega))]),rfl⟩
theorem qinputs_any (W:World):Calls Tryz.prog 110 #[] W fun e W'=>e=.returned (.slice (some ⟨W.heap.size,0,none⟩) 6 6)/\W'=W.alloc (.cells insC 9):=by
 go_enter Tryz.func110,Tryz.ntmps110
 go_wp2
 go_ret
 exact⟨rfl,rfl⟩
theorem inK_ix (s:Txt):ixZ insL s=inK s:=by
 by_cases h0:s=[120]
 ·subst h0;decide
 by_cases h1:s=[121]
 ·subst h1;decide
 by_cases h2:s=[99]
 ·subst h2;decide
 by_cases h3:s=[108,111]
 ·subst h3;decide
 by_cases h4:s=[104,105]
 ·subst h4;decide
 by_cases h5:s=[109,105,100]
 ·subst h5;decide
 unfold inK
 rw[if_neg h0,if_neg h1,if_neg h2,if_neg h3,if_neg h4,if_neg h5]
 unfold ixZ
 rw[if_neg]
 simp only[insL,List.contains_iff_mem,List.mem_cons,List.not_mem_nil,or_false,not_or]
 exact⟨h0,h1,h2,h3,h4,h5⟩
theorem cal_ix (s:Txt)(h:calO s=0):ixZ calL s=-1:=by
 by_cases h0:s=[97,98,115]
 ·subst h0;exact absurd h (by decide)
 by_cases h1:s=[115,103,110]
 ·subst h1;exact absurd h (by decide)
 by_cases h2:s=[109,105,110]
 ·subst h2;exact absurd h (by decide)
 by_cases h3:s=[109,97,120]
 ·subst h3;exact absurd h (by decide)
 by_cases h4:s=[99,108,97,109,112]
 ·subst h4;exact absurd h (by decide)
 by_cases h5:s=[109,101,100]
 ·subst h5;exact absurd h (by decide)
 unfold ixZ
 rw[if_neg]
 simp only[calL,List.contains_iff_mem,List.mem_cons,List.not_mem_nil,or_false,not_or]
 exact⟨h0,h1,h2,h3,h4,h5⟩
theorem qcalled_any (s:ByteArray)(W:World):Calls Tryz.prog 109 #[.string s] W fun e W'=>e=.returned (.int .i64 (calO (bs s)))/\Below W.heap.size W W':=by
 have HP:=hide (qplace_any (Tx.of_has (L:=calL) (HasC.new W 9 calC) rfl (by decide)) s)
 rw[show calL.length=6 from rfl] at HP
 by_cases h0:calO (bs s)=0
 ·rw[cal_ix _ h0] at HP
  rw[h0]
  go_enter Tryz.func109,Tryz.ntmps109
  go_wp2_with fail
  refine HP.out.mono ?_
  rintro e W1 ⟨rfl,rfl⟩
  go_wp2_with fail
  go_ret
  exact⟨rfl,bel1 _ _⟩
 ·have hc:bs s=[97,98,115]\/bs s=[115,103,110]\/bs s=[109,105,110]\/bs s=[109,97,120]\/bs s=[99,108,97,109,112]\/bs s=[109,101,100]:=by
   unfold calO at h0
   repeat' split at h0
   all_goals first|simp_all|skip
  rcases hc with h|h|h|h|h|h
  ·rw[h,show ixZ calL [97,98,115]=0 by decide] at HP
   rw[h,show calO [97,98,115]=6 by decide]
   have HB:=hide (bel1 W (.cells calC 9))
   clear h h0
   go_enter Tryz.func109,Tryz.ntmps109
   go_wp2_with fail
   refine HP.out.mono ?_
   rintro e W1 ⟨rfl,rfl⟩
   go_wp2_with fail
   go_ret
   exact⟨rfl,bel HB.out (bel1 _ _)⟩
  ·rw[h,show ixZ calL [115,103,110]=1 by decide] at HP
   rw[h,show calO [115,103,110]=7 by decide]
   have HB:=hide (bel1 W (.cells calC 9))
   clear h h0
   go_enter Tryz.func109,Tryz.ntmps109
   go_wp2_with fail
   refine HP.out.mono ?_
   rintro e W1 ⟨rfl,rfl⟩
   go_wp2_with fail
   go_ret
   exact⟨rfl,bel HB.out (bel1 _ _)⟩
  ·rw[h,show ixZ calL [109,105,110]=2 by decide] at HP
   rw[h,show calO [109,105,110]=24 by decide]
   have HB:=hide (bel1 W (.cells calC 9))
   clear h h0
   go_enter Tryz.func109,Tryz.ntmps109
   go_wp2_with fail
   refine HP.out.mono ?_
   rintro e W1 ⟨rfl,rfl⟩
   go_wp2_with fail
   go_ret
   exact⟨rfl,bel HB.out (bel1 _ _)⟩
  ·rw[h,show ixZ calL [109,97,120]=3 by decide] at HP
   rw[h,show calO [109,97,120]=25 by decide]
   have HB:=hide (bel1 W (.cells calC 9))
   clear h h0
   go_enter Tryz.func109,Tryz.ntmps109
   go_wp2_with fail
   refine HP.out.mono ?_
   rintro e W1 ⟨rfl,rfl⟩
   go_wp2_with fail
   go_ret
   exact⟨rfl,bel HB.out (bel1 _ _)⟩
  ·rw[h,show ixZ calL [99,108,97,109,112]=4 by decide] at HP
   rw[h,show calO [99,108,97,109,112]=26 by decide]
   have HB:=hide (bel1 W (.cells calC 9))
   clear h h0
   go_enter Tryz.func109,Tryz.ntmps109
   go_wp2_with fail
   refine HP.out.mono ?_
   rintro e W1 ⟨rfl,rfl⟩
   go_wp2_with fail
   go_ret
   exact⟨rfl,bel HB.out (bel1 _ _)⟩
  ·rw[h,show ixZ calL [109,101,100]=5 by decide] at HP
   rw[h,show calO [109,101,100]=27 by decide]
   have HB:=hide (bel1 W (.cells calC 9))
   clear h h0
   go_enter Tryz.func109,Tryz.ntmps109
   go_wp2_with fail
   refine HP.out.mono ?_
   rintro e W1 ⟨rfl,rfl⟩
   go_wp2_with fail
   go_ret
   exact⟨rfl,bel HB.out (bel1 _ _)⟩
theorem resv_or (s:Txt):resv s=(s==wLet || s==wP || s==wQ || decide (0 < calO s) || decide (0<=inK s)):=by
 have:(calO s != 0)=decide (0 < calO s):=by
  rw[Bool.eq_iff_iff]
  simp only[bne_iff_ne,ne_eq,decide_eq_true_eq]
  constructor
  ·intro h
   have:calO s=6\/calO s=7\/calO s=24\/calO s=25\/calO s=26\/calO s=27\/calO s=0:=by
    unfold calO
    repeat' split
    all_goals simp
   omega
  ·intro h;omega
 unfold resv
 rw[this]
theorem qreserved_any (s:ByteArray)(W:World):Calls Tryz.prog 77 #[.string s] W fun e W'=>e=.returned (.bool (resv (bs s)))/\Below W.heap.size W W':=by
 by_cases h0:bs s=[108,101,116]
 ·obtain rfl:=eq_of_bs h0
  rw[show resv (bs (sB [108,101,116]))=true by decide]
  go_enter Tryz.func77,Tryz.ntmps77
  go_wp2
  go_ret
  exact⟨rfl,Below.refl _ _⟩
 by_cases h1:bs s=[112]
 ·obtain rfl:=eq_of_bs h1
  rw[show resv (bs (sB [112]))=true by decide]
  go_enter Tryz.func77,Tryz.ntmps77
  go_wp2
  go_ret
  exact⟨rfl,Below.refl _ _⟩
 by_cases h2:bs s=[113]
 ·obtain rfl:=eq_of_bs h2
  rw[show resv (bs (sB [113]))=true by decide]
  go_enter Tryz.func77,Tryz.ntmps77
  go_wp2
  go_ret
  exact⟨rfl,Below.refl _ _⟩
 have k0:=ne_bs h0
 have k1:=ne_bs h1
 have k2:=ne_bs h2
 have hr:resv (bs s)=(decide (0 < calO (bs s)) || decide (0<=inK (bs s))):=by
  rw[resv_or]
  rw[show (bs s==wLet)=false by simpa [wLet] using h0,show (bs s==wP)=false by simpa [wP] using h1,show (bs s==wQ)=false by simpa [wQ] using h2]
  rfl
 have HC:=hide fun W=>qcalled_any s W
 have HI:=hide fun W:World=>qplace_any (Tx.of_has (L:=insL) (HasC.new W 9 insC) rfl (by decide)) s
 rw[show insL.length=6 from rfl,inK_ix] at HI
 rw[hr]
 generalize calO (bs s)=c at *
 generalize inK (bs s)=i at *
 clear hr h0 h1 h2
 by_cases h:0 < c
 ·rw[decide_eq_true h,Bool.true_or]
  go_enter Tryz.func77,Tryz.ntmps77
  go_wp2_with fail
  refine(HC.out _).mono ?_
  rintro e W1 ⟨rfl,hb⟩
  have HB:=hide hb
  clear hb
  go_wp2_with fail
  go_ret
  exact⟨rfl,HB.out⟩
 ·have HH:=hide h
  rw[decide_eq_false h,Bool.false_or]
  go_enter Tryz.func77,Tryz.ntmps77
  go_wp2_with fail
  refine(HC.out _).mono ?_
  rintro e W1 ⟨rfl,hb⟩
  have HB:=hide hb
  clear hb
  go_wp2_with fail
  refine(qinputs_any _).mono ?_
  rintro e W2 ⟨rfl,rfl⟩
  go_wp2_with fail
  refine(HI.out _).mono ?_
  rintro e W2 ⟨rfl,rfl⟩
  go_wp2_with fail
  go_ret
  exact⟨ret_bool (by rw[decide_eq_false (show ¬0 < c by have:=HH.out;omega),Bool.false_or]),bel HB.out (bel1 _ _)⟩
end Go.Proofs.YtngnnijpdjhelaaGreat
