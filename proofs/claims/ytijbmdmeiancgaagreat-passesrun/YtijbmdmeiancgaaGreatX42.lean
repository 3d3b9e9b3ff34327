import Derived.Test.YtijbmdmeiancgaaGreatXH
import Derived.Deep.AppendLies
import Derived.Deep.RegionHeld3
import Derived.Test.YtijbmdmeiancgaaGreatX3b
import Derived.Test.YtijbmdmeiancgaaGreatX40
import Derived.Test.YtijbmdmeiancgaaGreatX25
import Derived.Test.YtijbmdmeiancgaaGreatX31
import Derived.Test.YtijbmdmeiancgaaGreatX23
import Derived.Test.YtijbmdmeiancgaaGreatX21
import Derived.Test.YtijbmdmeiancgaaGreatX08
import Derived.Test.YtijbmdmeiancgaaGreatX15
set_option maxRecDepth 100000
set_option maxHeartbeats 32000000
set_option linter.unusedVariables false
namespace Go.Proofs.Shr
open Go.RowKit Go.IntWalk Knd
open Cde (In i0 ia kd cd Ins kM aJ aG bB aL bJ eO aD bG i6 oP nI)
open Fld (ar bO dK bS aC8 aJf aIu aHx iE)
open Vfy (bL kN kK)
open Fld (dI jF iA aA4)
theorem bN {V V':World}{g o:Nat}{v:Value}(hb:Below V.heap.size V V')(h:V.cell? ⟨g,o,none⟩=some v)(hg:g < V.heap.size):V'.cell? ⟨g,o,none⟩=some v:=(hb.cell (p:=⟨g,o,none⟩) hg).trans h
theorem nL {V:World}{base b2 o2 k c:Nat}{T:List Int}(h:V.ownsRow base 3 1 (.slice (some ⟨b2,o2,none⟩) k c) T.length (bY T))(hk:T.length=k){o:Nat}(ho:o < k){z:Int}(hz:T.getD o 0=z):V.cell? ⟨b2,o2+o,none⟩=some (.int .i64 z):=by
 obtain⟨a',c',e,hi,-⟩:=Ints.of_owns h
 cases e
 rw[hk] at hi
 obtain⟨b,off,e,-,hat⟩:=hi.at (by omega)
 cases e
 rw[<-hz]
 exact hat o ho
theorem kG {f d out:Int}{a1 a2:Option Addr}{n c1 c2:Nat}{L:List In}{W:World}(hL:L.length=n)(hO:W.ownsRow 0 57 6 (.slice a1 n c1) n (bG (lK L).1))(hI:Ins W a2 n c2 L)(hn0:0 < n)(hn:n<=1000) :
  Calls Tryz.prog 59 #[.agg (cd f d a2 n c2 out),.agg (cd f d a1 n c1 (shO L out))] W fun e W'=>∃ a' c',e=.returned (.agg (cd f d a' n c' (xP f d L out)))/\(∀ base,W.ownsRow base 57 6 (.slice a1 n c1) n (bG (lK L).1)->base<=W.heap.size->W'.ownsRow base 57 6 (.slice a' n c') n (bG (yU f d L out)))/\Below W.heap.size W W':=by
 obtain⟨a',c',e',hM,-⟩:=Ins.of_owns hO
 cases e'
 refine(iA f d (shO L out) out hM hI hn0 hn).mono ?_
 rintro e W' (⟨h0,rfl,hb⟩|⟨h0,a',c',rfl,ho,hb⟩)
 ·exact⟨_,_,by rw[xP,if_pos h0],fun base h _=>by rw[yU,if_pos h0];exact Cde.aS h hb,hb⟩
 ·exact⟨_,_,by rw[xP,if_neg h0],fun base _ h=>by rw[yU,if_neg h0];exact Cde.aW ho h,hb⟩
end Go.Proofs.Shr
namespace Go.Proofs.Shr
open Go.RowKit Go.IntWalk Knd
open Cde (In i0 ia kd cd Ins kM aJ aG bB aL bJ eO aD bG i6 zA aM aDo)
open Fld (bS)
open Vfy (bL kN kK)
open Fld (dI jF iA aA4)
variable {M:List In} {m:In}
theorem aF7 {k:Nat}(h:M.length=k):((k+(M.drop k).idxOf m:Nat):Int)=(k:Int):=by
 rw[List.drop_of_length_le (by omega)]
 simp
theorem aKx {j:Nat}(hj:j < M.length)(h:M.getD j i0=m):j+(M.drop j).idxOf m=j:=by
 rw[List.drop_eq_getElem_cons hj]
 have:M[j]=m:=by rw[<-h];simp[List.getD_eq_getElem?_getD,hj]
 rw[this,List.idxOf_cons_self]
 rfl
theorem aMi {j:Nat}(hj:j < M.length)(h:M.getD j i0≠m):j+(M.drop j).idxOf m=j+1+(M.drop (j+1)).idxOf m:=by
 rw[List.drop_eq_getElem_cons hj]
 have:M[j]≠m:=by intro e;apply h;rw[<-e];simp[List.getD_eq_getElem?_getD,hj]
 have hb:(M[j]==m)=false:=by simpa using this
 rw[List.idxOf_cons,hb]
 simp only[cond_false]
 omega
theorem aDc (f d out:Int){a:Option Addr}{n cap:Nat}{L:List In}{W:World}(hL:Ins W a n cap L) :
  Calls Tryz.prog 27 #[.agg (cd f d a n cap out)] W (lM W f d L out):=by
 have b1:=aH W (.cells (cd f d a n cap out) 26)
 have b2:=bel b1 (aH _ (.cells bM 26))
 have HF0:Hid (Fg W ((W.alloc (.cells (cd f d a n cap out) 26)).alloc (.cells bM 26)) (cd f d a n cap out) bM) :=
  aC ⟨(aI.new W 26 (cd f d a n cap out)).alloc (.cells bM 26),aL W (.cells (cd f d a n cap out) 26) 26 bM,b2⟩
 have HV:=aC (Vfy.iD f d out (hL.later b2))
 have HLI:=aC hL
 have HLn:=aC hL.len
 clear b1 b2 hL
 go_enter Tryz.func27,Tryz.ntmps27
 go_wp2_with fail
 refine HV.o.mono ?_
 rintro e V1 ⟨ga,gc,rfl,hS,hb,-,-⟩
 obtain⟨vm,hm⟩:∃ m,kN f d L out=m:=⟨_,rfl⟩
 obtain⟨co,hco⟩:∃ co,kK f d L out=co:=⟨_,rfl⟩
 obtain⟨er,her⟩:∃ er,bL f d L out=er:=⟨_,rfl⟩
 rw[hm,hco,her]
 have HEr:=aC her
 have hb2:=aH V1 (.cells #[.slice ga vm gc,.int .i64 co,.int .i64 0] 47)
 have HF1:=aC ((HF0.o.below hb).below hb2)
 clear hm hco her hb hb2 hS HV
 by_cases h0:er=0
 ·have hr:(er != 0)=false:=by simpa using h0
  have h0':=HEr.o.trans h0
  obtain⟨mc,-⟩:=Vfy.aT h0'
  obtain⟨-,m1,m2,o0,o1,-⟩:=Cde.bD mc
  obtain⟨-,-,-,-,-,hok⟩:=Cde.bD mc
  rw[HLn.o] at m1 m2 o1
  have HOk0:=aC fun k (hk:k < n)=>Cde.bW hok (show k < L.length by rw[HLn.o];exact hk)
  have HSu:=aC fun k (hk:k < n)=>pU (L:=L) (k:=k) (by rw[HLn.o];exact hk)
  clear mc hok
  go_upto_region 4 with fail
  obtain⟨V2,hV2⟩:∃ V2,V1.alloc (.cells #[.slice ga vm gc,.int .i64 co,.int .i64 0] 47)=V2:=⟨_,rfl⟩
  rw[hV2] at HF1 ⊢
  clear hV2 HF0
  have HB0:Hid (Fb W V2 (cd f d a n cap out) (.slice none 0 0) (.slice none 0 0) [] []):=aC ⟨HF1.o.c,HF1.o.r,⟨rfl,.inl ⟨rfl,rfl⟩⟩,⟨rfl,.inl ⟨rfl,rfl⟩⟩,HF1.o.lo⟩
  go_wp2_with fail
  go_loopw [6,7,8] (fun mv tv i wr=>∃(k:Nat) (am:Option Addr) (cm:Nat) (at':Option Addr) (ct:Nat) (M:List In) (T:List Int),k<=n/\i=.int .i64 k/\mv=.slice am k cm/\tv=.slice at' k ct/\Hid (lK (L.take k)=(M,T))/\Hid (M.length=k)/\Hid (T.length=k)/\Hid (Fb W wr (cd f d a n cap out) (.slice am k cm) (.slice at' k ct) M T)) (fun _ _ i _=>n-(intOf i).toNat)
  case atStart=>exact⟨0,_,_,_,_,[],[],Nat.zero_le _,rfl,rfl,rfl,aC rfl,aC rfl,aC rfl,HB0⟩
  case round =>
   obtain⟨k,am,cm,at',ct,M,T,hk,rfl,rfl,rfl,HM,HMl,HTl,HF⟩:=hrel
   rename World=>V
   clear HB0
   obtain⟨x0,x1,x2,x3⟩:=aG HF.o.c
   by_cases hlt:k < n
   ·obtain⟨b,off,rfl,-,hat⟩:=(HLI.o.later HF.o.lo).at (by omega)
    obtain⟨e0,e1,e2,e3,e4,e5⟩:=hat k hlt
    clear hat
    have hi0:(0:Int)<=k:=by omega
    have hi1:(k:Int) < n:=by omega
    have hSu:=HSu.o k hlt
    rw[HM.o] at hSu
    have HTn:=aC (jF (HOk0.o k hlt))
    generalize L.getD k i0=q at *
    have HTh:=aC (dI q (HF.o.ints HTl.o) HTn.o)
    have HOr:=aC fun V=>aDl (bS q T) V
    rw[show orI (bS q T)=shM q T from rfl] at HOr
    obtain⟨m,hm⟩:∃ m,shM q T=m:=⟨_,rfl⟩
    rw[aHt hm] at hSu
    rw[hm] at HOr
    have HZ:=aC hSu
    clear hSu hm HTn
    go_wp2_with fail
    refine HTh.o.mono ?_
    rintro e V3 ⟨rfl,hb⟩
    have HF3:=aC (HF.o.below hb)
    clear hb HTh HF e0 e1 e2 e3 e4 e5 x0 x1 x2 x3
    generalize bS q T=m0 at *
    go_wp2_with fail
    refine(HOr.o _).mono ?_
    rintro e V3b ⟨rfl,hb⟩
    have HC0:=aC ((HF3.o.below hb).with m)
    clear hb HF3 HOr
    go_upto_region 10 with fail
    obtain⟨gb,hgb⟩:∃ gb,V3b.heap.size=gb:=⟨_,rfl⟩
    obtain⟨V4,hV4⟩:∃ V4,V3b.alloc (.cells (ia m) 57)=V4:=⟨_,rfl⟩
    rw[hgb,hV4] at HC0 ⊢
    clear hgb hV4
    go_wp2_with fail
    go_loopw [10,11] (fun r i wr=>∃ j:Nat,j<=k/\i=.int .i64 ((j:Int)-1)/\r=.int .i64 ((j+(M.drop j).idxOf m:Nat):Int)/\Hid (Below V4.heap.size V4 wr)) (fun _ i _=>(intOf i+1).toNat)
    case atStart=>exact⟨k,Nat.le_refl _,by go_num,by rw[aF7 HMl.o],aC (Below.refl _ _)⟩
    case round =>
     obtain⟨j,hj,rfl,rfl,HB⟩:=hrel
     rename World=>V5
     have HC5:=aC (HC0.o.below HB.o)
     cases j with
     | zero =>
      have hz0:((0:Nat):Int)-1=-1:=rfl
      rw[hz0]
      rw[Nat.zero_add,List.drop_zero]
      obtain⟨z,hz⟩:∃ z,M.idxOf m=z:=⟨_,rfl⟩
      rw[hz] at HZ ⊢
      clear hz
      obtain⟨e0,e1,e2,e3,e4,e5⟩:=aJ HC5.o.n
      have HN5:=aC (aI.new V5 57 (ia m))
      have HF5:=aC (HC5.o.f.below (aH V5 (.cells (ia m) 57)))
      go_wp2_with (first
       | (at_builtin;refine fT rfl _ _ rfl rfl HF5.o.m HF5.o.lo.size _ m rfl HN5.o (by rw[HMl.o];omega) ?_;intro g cap' w2 hown hgr;have HF6:=aC (HF5.o.growM hgr hown);have HF7:=aC (HF6.o.below (aH w2 (.cells #[.int .i64 (z:Int)] 3)));have HN7:=aC (aI.new w2 3 #[.int .i64 (z:Int)]);clear hown hgr e0 e1 e2 e3 e4 e5)
       | (at_builtin;refine bP rfl _ _ rfl rfl HF7.o.t HF7.o.lo.size _ (z:Int) rfl HN7.o (by rw[HTl.o];omega) ?_;intro g2 cap2 w3 hown2 hgr2))
      have HF8:=aC (HF7.o.growT hgr2 hown2)
      clear hown2 hgr2
      rw[HMl.o,HTl.o] at HF8 ⊢
      go_wp2_with fail
      go_roundw
      case rel=>exact⟨k+1,_,_,_,_,M++[m],T++[(z:Int)],by omega,by go_num,rfl,rfl,HZ,aC (by simp[HMl.o]),aC (by simp[HTl.o]),HF8⟩
      case measure=>simp[intOf];omega
     | succ j =>
      have hz0:((j+1:Nat):Int)-1=(j:Int):=by omega
      rw[hz0]
      obtain⟨bm,om,rfl,-,hat⟩:=(HC5.o.f.ins HMl.o).at (by omega)
      obtain⟨f0,f1,f2,f3,f4,f5⟩:=hat j (by omega)
      obtain⟨e0,e1,e2,e3,e4,e5⟩:=aJ HC5.o.n
      have hrun:=aDo (M.getD j i0) m
      have HD1:=aC fun(h:M.getD j i0=m)=>aKx (M:=M) (m:=m) (j:=j) (by rw[HMl.o];omega) h
      have HD2:=aC fun(h:M.getD j i0≠m)=>aMi (M:=M) (m:=m) (j:=j) (by rw[HMl.o];omega) h
      generalize M.getD j i0=y at *
      generalize hr1:j+1+(M.drop (j+1)).idxOf m=r1 at *
      have i0':(0:Int)<=j:=by omega
      have i1':(j:Int) < k:=by omega
      clear hat
      by_cases he:y=m
      ·have hD:=HD1.o he
       rw[decide_eq_true he] at hrun
       have HR:=aC hD
       clear hD he HD1 HD2 hr1
       go_wp2_with fail
       have E0:=cell_regrown e0
       have E1:=cell_regrown e1
       have E2:=cell_regrown e2
       have E3:=cell_regrown e3
       have E4:=cell_regrown e4
       have E5:=cell_regrown e5
       have F0:=cell_regrown f0
       have F1:=cell_regrown f1
       have F2:=cell_regrown f2
       have F3:=cell_regrown f3
       have F4:=cell_regrown f4
       have F5:=cell_regrown f5
       refine wp_region_quiet_below gY (by kernel_rfl) ?_
       repeat (go_big_quiet_step (fail))
       refine wpQuiet_nil ?_
       intro V7 hw'
       obtain⟨⟨dq,osq⟩,hw''⟩:=hw'
       have hb:=below_regrown V5 dq osq
       simp only at hw''
       rw[<-hw''] at hb
       have HB7:=aC (bel HB.o hb)
       clear hw'' hb E0 E1 E2 E3 E4 E5 F0 F1 F2 F3 F4 F5 e0 e1 e2 e3 e4 e5 f0 f1 f2 f3 f4 f5 hrun
       go_wp2_with fail
       go_roundw
       case rel=>exact⟨j,by omega,by go_num,by rw[HR.o],HB7⟩
       case measure=>simp[intOf] <;> omega
      ·have hD:=HD2.o he
       rw[decide_eq_false he] at hrun
       have HR:=aC hD
       clear hD he HD1 HD2 hr1
       go_wp2_with fail
       have E0:=cell_regrown e0
       have E1:=cell_regrown e1
       have E2:=cell_regrown e2
       have E3:=cell_regrown e3
       have E4:=cell_regrown e4
       have E5:=cell_regrown e5
       have F0:=cell_regrown f0
       have F1:=cell_regrown f1
       have F2:=cell_regrown f2
       have F3:=cell_regrown f3
       have F4:=cell_regrown f4
       have F5:=cell_regrown f5
       refine wp_region_quiet_below gY (by kernel_rfl) ?_
       repeat (go_big_quiet_step (fail))
       refine wpQuiet_nil ?_
       intro V7 hw'
       obtain⟨⟨dq,osq⟩,hw''⟩:=hw'
       have hb:=below_regrown V5 dq osq
       simp only at hw''
       rw[<-hw''] at hb
       have HB7:=aC (bel HB.o hb)
       clear hw'' hb E0 E1 E2 E3 E4 E5 F0 F1 F2 F3 F4 F5 e0 e1 e2 e3 e4 e5 f0 f1 f2 f3 f4 f5 hrun
       go_wp2_with fail
       go_roundw
       case rel=>exact⟨j,by omega,by go_num,by rw[HR.o],HB7⟩
       case measure=>simp[intOf] <;> omega
   ·obtain rfl:k=n:=by omega
    have hM:=HM.o
    rw[List.take_of_length_le (by rw[HLn.o];exact Nat.le_refl _)] at hM
    have HM2:=aC hM
    obtain⟨o,rfl⟩:∃ o:Nat,out=o:=⟨out.toNat,by omega⟩
    obtain⟨b2,o2,hat',-,hat⟩:=(HF.o.ints HTl.o).at (by omega)
    have t0:=hat o (by omega)
    subst hat'
    have hw0:W.heap.size < V.heap.size:=HF.o.c.lt
    have i0':(0:Int)<=o:=by omega
    have i1':(o:Int) < k:=by omega
    have hz:shO L (o:Int)=T.getD o 0:=by rw[shO,hM];rfl
    have hz1:(lK L).1=M:=by rw[hM]
    have hmM:=HF.o.m
    rw[HMl.o,<-hz1] at hmM
    have HTk:=aC fun(X:World) (hb:Below V.heap.size V X)=>kG (f:=f) (d:=d) (out:=(o:Int)) HLn.o (Cde.aW (Cde.aS hmM hb) (Nat.zero_le _)) ((HLI.o.later HF.o.lo).later hb) m1 (by omega)
    rw[hz] at HTk
    have HOm:=aC hmM
    have HtC:=aC (t0)
    obtain⟨z,hzz⟩:∃ z,T.getD o 0=z:=⟨_,rfl⟩
    rw[hzz] at t0 HTk HtC
    have HZz:=aC hzz
    clear hat hM HM HSu HOk0 hmM hz hz1 hzz
    go_upto_region 18 with fail
    go_region_held3 (fun w'=>(w'.cell? ⟨W.heap.size,0,none⟩=some (.int .i64 f)/\w'.cell? ⟨W.heap.size,1,none⟩=some (.int .i64 d)/\w'.cell? ⟨W.heap.size,2,none⟩=some (.slice a k cap)/\w'.cell? ⟨W.heap.size,3,none⟩=some (.int .i64 (o:Int)))/\w'.cell? ⟨b2,o2+o,none⟩=some (.int .i64 z))
     (first|with_reducible exact⟨⟨x0,x1,x2,x3⟩,t0⟩|with_reducible exact⟨⟨l0,l1,l2,l3⟩,t4⟩|with_reducible exact⟨⟨m0,m1',m2',m3⟩,t5⟩|exact⟨⟨x0,x1,x2,x3⟩,t0⟩|go_keep)
     ((first
      | (go_at_call 59;refine(HTk.o _ (aD _)).mono ?_;rintro e9 V4 ⟨a2',c2',rfl,hO4,hb4⟩;have HF4:=aC (HF.o.below (bel (aD V) hb4));obtain⟨l0,l1,l2,l3⟩:=aG HF4.o.c;have t4:=bN (bel (aD V) hb4) t0 (World.block_lt_of_cell? V _ t0);obtain⟨p0,p1,p2,p3⟩:=aG HF4.o.o;obtain⟨r0,r1,r2,r3⟩:=bC HF4.o.o;have hT4:=dB HF4.o.t (own_ne HF4.o.t HF4.o.o (by decide)) (.int .i64 f) (.int .i64 d) (.slice a2' k c2') (.int .i64 (xP f d L (o:Int)));have hG4:=(⟨HF4.o.c,HF4.o.o,HF4.o.lo⟩:Fg W V4 (cd f d a k cap (o:Int)) bM).put (.int .i64 f) (.int .i64 d) (.slice a2' k c2') (.int .i64 (xP f d L (o:Int)));unfold s4 at hT4 hG4;have t5:=nL hT4 HTl.o (o:=o) (by omega) HZz.o;obtain⟨m0,m1',m2',m3⟩:=aG hG4.c)))
    all_goals
     have HO4:=aC (hO4 W.heap.size (Cde.aS HOm.o (aD V)) HF.o.lo.size)
     have HG4:=aC hG4
     clear x0 x1 x2 x3 t0 l0 l1 l2 l3 t4 t5 m0 m1' m2' m3 p0 p1 p2 p3 r0 r1 r2 r3 hT4 hG4 hO4 hb4 HTk HtC
     have hq:=own_ne HO4.o HF4.o.o (by decide)
     have hlen:=(uO h0').2.1
     rw[HLn.o] at hlen
     generalize hu:xP f d L (o:Int)=u at *
     generalize hI:yU f d L (o:Int)=I at *
     have HO5:=aC (dB HO4.o hq (.int .i64 f) (.int .i64 d) (.slice a2' k c2') (.int .i64 u))
     obtain⟨V5,hV5⟩:∃ V5,(((V4.setCell ⟨W.heap.size+1,0,none⟩ (.int .i64 f)).setCell ⟨W.heap.size+1,1,none⟩ (.int .i64 d)).setCell ⟨W.heap.size+1,2,none⟩ (.slice a2' k c2')).setCell ⟨W.heap.size+1,3,none⟩ (.int .i64 u)=V5:=⟨_,rfl⟩
     unfold s4 at HO5
     rw[hV5] at HO5 HG4 ⊢
     clear hV5 hq HF4 HO4
     go_wp2_with fail
     obtain⟨q0,q1,q2,q3⟩:=aG HG4.o.r
     exact bodyPost_ret (v:=.tuple #[.agg (cd f d a2' k c2' u),.int .i64 0]) (by simp[results,Tryz.results27,go_sem,q0,q1,q2,q3]) rfl (lM.row h0' hI hu hlen HO5.o HG4.o.lo)
 ·have hr:(er != 0)=true:=by simpa using h0
  go_upto_region 3 with fail
  obtain⟨V2,hV2⟩:∃ V2,V1.alloc (.cells #[.slice ga vm gc,.int .i64 co,.int .i64 0] 47)=V2:=⟨_,rfl⟩
  rw[hV2] at HF1 ⊢
  clear hV2 HF0
  obtain⟨p0,p1,p2,p3⟩:=aG HF1.o.r
  obtain⟨r0,r1,r2,r3⟩:=bC HF1.o.r
  obtain⟨V3,hV3⟩:∃ V3,(((V2.setCell ⟨W.heap.size+1,0,none⟩ (.int .i64 0)).setCell ⟨W.heap.size+1,1,none⟩ (.int .i64 0)).setCell ⟨W.heap.size+1,2,none⟩ (.slice none 0 0)).setCell ⟨W.heap.size+1,3,none⟩ (.int .i64 0)=V3:=⟨_,rfl⟩
  have HF2:Hid (Fg W V3 (cd f d a n cap out) bM):=aC (by rw[<-hV3];exact HF1.o.put (.int .i64 0) (.int .i64 0) (.slice none 0 0) (.int .i64 0))
  go_wp2_with fail
  obtain⟨q0,q1,q2,q3⟩:=aG HF2.o.r
  exact bodyPost_ret (v:=.tuple #[.agg bM,.int .i64 er]) (by simp[results,Tryz.results27,go_sem,q0,q1,q2,q3]) rfl (lM.no HEr.o h0 HF2.o.lo)
end Go.Proofs.Shr
