import Derived.Test.YtijbmdmeiancgaaGreatXH
import Derived.Deep.RegionHeld3
import Derived.Test.YtijbmdmeiancgaaGreatX39
import Derived.Test.YtijbmdmeiancgaaGreatX3b
import Derived.Test.YtijbmdmeiancgaaGreatX40
import Derived.Test.YtijbmdmeiancgaaGreatX24
import Derived.Test.YtijbmdmeiancgaaGreatX10
import Derived.Test.YtijbmdmeiancgaaGreatX00
import Derived.Test.YtijbmdmeiancgaaGreatX18
set_option maxRecDepth 100000
set_option maxHeartbeats 32000000
set_option linter.unusedVariables false
namespace Go.Proofs.Fld
open Go.RowKit Go.IntWalk Knd
open Cde (In i0 ia kd cd Ins kM aJ aG bB aL bJ eO aD bG i6 zA aM)
open Vfy (bL kN kK)
variable {L:List In}
theorem gD {V:World}{base:Nat}{v:Value}{ops:Array Oper}{rest:List Oper}{o:Oper}{a:Act}{Q:Exit->Act->World->Prop}
  (hgd:o.guard=none) (s x:Operand) (ho:o.op=.call { callee:=.builtin .append,args:=#[s,x],argTypes:=#[24,24] })
  (hs:a.eval s=v) (hen:V.ownsRow base 57 6 v L.length (bG L)) (hbase:base<=V.heap.size) (b:Nat) (n:In) (hx:a.eval x=.slice (some ⟨b,0,none⟩) 1 1) (hc:aI V b 57 (ia n)) (h3:L.length<=2000000)
  (h:∀ g cap w',w'.ownsRow base 57 6 (.slice (some ⟨g,0,none⟩) (L.length+1) cap) (L++[n]).length (bG (L++[n]))->V.grownBy w' v.ownBlock->wpList Tryz.prog ops Q rest (a.put o.dst (.slice (some ⟨g,0,none⟩) (L.length+1) cap)) w') :
  wpList Tryz.prog ops Q (o::rest) a V:=by
 obtain⟨i0',hi0,hz0,hz1,hz2⟩:=Spn.info_parts iK
 refine wpList_append_lies V hgd s x 24 ho base 57 i0' _ 6 48 Tryz.underlying24 hi0 hz0 hz1 hz2 rfl (by omega) v L.length (bG L) hs hen ⟨b,0,none⟩ 1 1 (i6 n) hx rfl (jH hc) (by simp[Value.oneCell',i6]) (by omega) (by unfold maxLen;omega) (by omega) hbase V.heap.size rfl ?_
 intro g cap w' hown hgrow hat hlt
 refine h g cap w' ?_ hgrow
 rw[Cde.iO,List.length_append]
 exact hown
theorem aO7 {f d:Int}{out:Int}(h:bL f d L out=0){k:Nat}(hk:k < L.length){M:List In}{T:List Int}{m:In}(hF:gX f d (L.take k)=(M,T))(hm:bS (L.getD k i0) T=m)(h1:0 < ar m.op)(ha:alN M m=true) :
  ∃ x,Spn.aR m.op m.k m.s (vS M m)=(x,0)/\pQ f d M m=(x,true):=by
 have e:=aIj h hk
 rw[hF] at e
 dsimp only at e
 rw[hm] at e
 have e1:ar (L.getD k i0).op=ar m.op:=by rw[<-hm];rfl
 obtain⟨x,h2,h3⟩:=e (by omega) ha
 refine⟨x,?_,aP6 h1 h2⟩
 have e2:(L.getD k i0).op=m.op/\(L.getD k i0).k=m.k/\(L.getD k i0).s=m.s:=by rw[<-hm];exact⟨rfl,rfl,rfl⟩
 rw[e2.1,e2.2.1,e2.2.2] at h3
 exact h3
theorem nL {V:World}{base b2 o2 k c:Nat}{T:List Int}(h:V.ownsRow base 3 1 (.slice (some ⟨b2,o2,none⟩) k c) T.length (bY T))(hk:T.length=k){o:Nat}(ho:o < k){z:Int}(hz:T.getD o 0=z):V.cell? ⟨b2,o2+o,none⟩=some (.int .i64 z):=by
 obtain⟨a',c',e,hi,-⟩:=Ints.of_owns h
 cases e
 rw[hk] at hi
 obtain⟨b,off,e,-,hat⟩:=hi.at (by omega)
 cases e
 rw[<-hz]
 exact hat o ho
theorem kG {f d out:Int}{a1 a2:Option Addr}{n c1 c2:Nat}{W:World}(hL:L.length=n)(hO:W.ownsRow 0 57 6 (.slice a1 n c1) n (bG (gX f d L).1))(hI:Ins W a2 n c2 L)(hn0:0 < n)(hn:n<=1000) :
  Calls Tryz.prog 59 #[.agg (cd f d a2 n c2 out),.agg (cd f d a1 n c1 (foO f d L out))] W fun e W'=>∃ a' c',e=.returned (.agg (cd f d a' n c' (xJ f d L out)))/\(∀ base,W.ownsRow base 57 6 (.slice a1 n c1) n (bG (gX f d L).1)->base<=W.heap.size->W'.ownsRow base 57 6 (.slice a' n c') n (bG (zC f d L out)))/\Below W.heap.size W W':=by
 obtain⟨a',c',e',hM,-⟩:=Ins.of_owns hO
 cases e'
 refine(iA f d (foO f d L out) out hM hI hn0 hn).mono ?_
 rintro e W' (⟨h0,rfl,hb⟩|⟨h0,a',c',rfl,ho,hb⟩)
 ·exact⟨_,_,by rw[xJ,if_pos h0],fun base h _=>by rw[zC,if_pos h0];exact Cde.aS h hb,hb⟩
 ·exact⟨_,_,by rw[xJ,if_neg h0],fun base _ h=>by rw[zC,if_neg h0];exact Cde.aW ho h,hb⟩
theorem aGq (f d out:Int){a:Option Addr}{n cap:Nat}{W:World}(hL:Ins W a n cap L) :
  Calls Tryz.prog 26 #[.agg (cd f d a n cap out)] W (lM W f d L out):=by
 have b1:=aH W (.cells (cd f d a n cap out) 26)
 have b2:=bel b1 (aH _ (.cells bM 26))
 have HF0:Hid (Fg W ((W.alloc (.cells (cd f d a n cap out) 26)).alloc (.cells bM 26)) (cd f d a n cap out) bM) :=
  aC ⟨(aI.new W 26 (cd f d a n cap out)).alloc (.cells bM 26),aL W (.cells (cd f d a n cap out) 26) 26 bM,b2⟩
 have HV:=aC (Vfy.iD f d out (hL.later b2))
 have HLI:=aC hL
 have HLn:=aC hL.len
 clear b1 b2 hL
 go_enter Tryz.func26,Tryz.ntmps26
 go_wp2_with fail
 refine HV.o.mono ?_
 rintro e V1 ⟨ga,gc,rfl,hS,hb,-,-⟩
 obtain⟨vm,hm⟩:∃ m,kN f d L out=m:=⟨_,rfl⟩
 obtain⟨co,hco⟩:∃ co,kK f d L out=co:=⟨_,rfl⟩
 obtain⟨er,her⟩:∃ er,bL f d L out=er:=⟨_,rfl⟩
 rw[hm,hco,her]
 have HEr:=aC her
 have hb2:=aH V1 (.cells #[.slice ga vm gc,.int .i64 co,.int .i64 0] 47)
 have HF1:=aC ((HF0.o.below hb).below hb2)
 clear hm hco her hb hb2 hS HV
 by_cases h0:er=0
 ·have hr:(er != 0)=false:=by simpa using h0
  have h0':=HEr.o.trans h0
  obtain⟨mc,-⟩:=Vfy.aT h0'
  obtain⟨-,m1,m2,o0,o1,-⟩:=Cde.bD mc
  obtain⟨-,-,-,-,-,hok⟩:=Cde.bD mc
  rw[HLn.o] at m1 m2 o1
  have HOk0:=aC fun k (hk:k < n)=>Cde.bW hok (show k < L.length by rw[HLn.o];exact hk)
  have HOk:=aC fun k (hk:k < n)=>aOe h0' (k:=k) (by rw[HLn.o];exact hk)
  have HSu:=aC fun k (hk:k < n)=>vO f d (L:=L) (k:=k) (by rw[HLn.o];exact hk)
  have HRg:=aC fun k (hk:k < n)=>aP1 h0' (k:=k) (by rw[HLn.o];exact hk)
  have HVl:=aC fun k (hk:k < n) M T m (hF:gX f d (L.take k)=(M,T))=>aO7 h0' (k:=k) (by rw[HLn.o];exact hk) (M:=M) (T:=T) (m:=m) hF
  clear mc hok
  go_upto_region 4 with fail
  obtain⟨V2,hV2⟩:∃ V2,V1.alloc (.cells #[.slice ga vm gc,.int .i64 co,.int .i64 0] 47)=V2:=⟨_,rfl⟩
  rw[hV2] at HF1 ⊢
  clear hV2 HF0
  have HB0:Hid (Fb W V2 (cd f d a n cap out) (.slice none 0 0) (.slice none 0 0) [] []):=aC ⟨HF1.o.c,HF1.o.r,⟨rfl,.inl ⟨rfl,rfl⟩⟩,⟨rfl,.inl ⟨rfl,rfl⟩⟩,HF1.o.lo⟩
  go_wp2_with fail
  go_loopw [6,7,8] (fun mv tv i wr=>∃(k:Nat) (am:Option Addr) (cm:Nat) (at':Option Addr) (ct:Nat) (M:List In) (T:List Int),k<=n/\i=.int .i64 k/\mv=.slice am k cm/\tv=.slice at' k ct/\Hid (gX f d (L.take k)=(M,T))/\Hid (M.length=k)/\Hid (T.length=k)/\Hid (Fb W wr (cd f d a n cap out) (.slice am k cm) (.slice at' k ct) M T)) (fun _ _ i _=>n-(intOf i).toNat)
  case atStart=>exact⟨0,_,_,_,_,[],[],Nat.zero_le _,rfl,rfl,rfl,aC rfl,aC rfl,aC rfl,HB0⟩
  case round =>
   obtain⟨k,am,cm,at',ct,M,T,hk,rfl,rfl,rfl,HM,HMl,HTl,HF⟩:=hrel
   rename World=>V
   clear HB0
   obtain⟨x0,x1,x2,x3⟩:=aG HF.o.c
   by_cases hlt:k < n
   ·obtain⟨b,off,rfl,-,hat⟩:=(HLI.o.later HF.o.lo).at (by omega)
    obtain⟨e0,e1,e2,e3,e4,e5⟩:=hat k hlt
    clear hat
    have hi0:(0:Int)<=k:=by omega
    have hi1:(k:Int) < n:=by omega
    have hOk:=HOk.o k hlt
    have hSu:=HSu.o k hlt
    have hRg:=HRg.o k hlt
    have HVl2:=aC fun m=>HVl.o k hlt M T m HM.o
    rw[HM.o] at hOk hSu hRg
    dsimp only at hRg hOk
    have HOk2:=aC hOk
    have HTn:=aC (jF (HOk0.o k hlt))
    generalize L.getD k i0=q at *
    have HY:=aC fun x (h:pQ f d M (bS q T)=(x,true))=>hSu.trans (aEy HMl.o h)
    have HNo:=aC fun x (h:pQ f d M (bS q T)=(x,false))=>hSu.trans (aJ7 HMl.o h)
    have HRg2:=aC hRg
    have HVl3:=aC (HVl2.o (bS q T) rfl)
    have HTh:=aC (dI q (HF.o.ints HTl.o) HTn.o)
    clear hOk hSu hRg HVl2 HTn
    go_wp2_with fail
    refine HTh.o.mono ?_
    rintro e V3 ⟨rfl,hb⟩
    have HC0:=aC ((HF.o.below hb).with (bS q T))
    clear hb HTh e0 e1 e2 e3 e4 e5 x0 x1 x2 x3
    generalize bS q T=m at *
    go_upto_region 12 with fail
    obtain⟨gb,hgb⟩:∃ gb,V3.heap.size=gb:=⟨_,rfl⟩
    obtain⟨V4,hV4⟩:∃ V4,V3.alloc (.cells (ia m) 57)=V4:=⟨_,rfl⟩
    rw[hgb,hV4] at HC0 ⊢
    clear hgb hV4
    obtain⟨e0,e1,e2,e3,e4,e5⟩:=aJ HC0.o.n
    have HAr:=aC fun W=>Spn.bZ m.op W
    by_cases hin:m.op=2/\3<=m.k
    ·have hk3:=aSh (f:=f) (d:=d) (M:=M) HOk2.o hin.1 hin.2
     have q1:(m.op==2)=true:=by simpa using hin.1
     have q2:decide (3<=m.k)=true:=by simpa using hin.2
     have har:Spn.ar m.op=0:=by rw[hin.1];decide
     rw[har] at HAr
     clear har
     have HLo:=aC fun w=>qM f d w
     have HHi:=aC fun w=>oK f d w
     have HBo:=aC fun w=>oG f d w
     obtain⟨x,hx⟩:∃ x,(pQ f d M m).1=x:=⟨_,rfl⟩
     have HZ:Hid (gX f d (L.take (k+1))=(M++[jC x],T++[(k:Int)])):=aC (HY.o x (by rcases hk3 with⟨-,e⟩|⟨-,e⟩|⟨-,e⟩ <;> rw[e] at hx ⊢ <;> rw[<-hx]))
     have hk4:(m.k=3/\x=dJ f d)\/(m.k=4/\x=bK f d)\/(m.k=5/\x=aV f d):=by
      rcases hk3 with⟨h,e⟩|⟨h,e⟩|⟨h,e⟩ <;> rw[e] at hx
      ·exact .inl ⟨h,hx.symm⟩
      ·exact .inr (.inl ⟨h,hx.symm⟩)
      ·exact .inr (.inr ⟨h,hx.symm⟩)
     clear hk3 hx HY HNo HRg2 HVl3
     generalize dJ f d=lo at *
     generalize bK f d=hi at *
     generalize aV f d=bo at *
     obtain⟨mop,ma,mb,mc',mk,ms⟩:=m
     dsimp only at hin q1 q2 hk4 e0 e1 e2 e3 e4 e5
     rcases hk4 with⟨hmk,rfl⟩|⟨hmk,rfl⟩|⟨hmk,rfl⟩
     ·subst hmk
      clear hin q2
      go_upto_region 13 with fail
      have HS1:=aC (HC0.o.below (aD V4))
      refine wp_region_held_drew (S:=fun w=>Fc W w (cd f d (some ⟨b,off,none⟩) n cap out) (.slice am k cm) (.slice at' k ct) M T gb ⟨mop,ma,mb,mc',3,ms⟩) (by kernel_rfl) HS1.o (fun _=>?_)
      refine wpAnyH_take (i:=0) (v:=.pointer (some ⟨W.heap.size,0,none⟩)) rfl (by kernel_rfl) (by kernel_rfl) (by kernel_rfl) (fun _ _ _ h=>h) (Or.inl ⟨by rfl,fun w hS=>by obtain⟨x0,x1,x2,x3⟩:=aG hS.f.c;obtain⟨-,-,-,-,e4,-⟩:=aJ hS.n;dsimp only at e4;go_simp⟩) HS1.o ?_
      refine wpAnyH_take (i:=1) (v:=.agg #[.int .i64 f,.int .i64 d]) rfl (by kernel_rfl) (by kernel_rfl) (by kernel_rfl) (fun _ _ _ h=>h) (Or.inl ⟨by rfl,fun w hS=>by obtain⟨x0,x1,x2,x3⟩:=aG hS.f.c;obtain⟨-,-,-,-,e4,-⟩:=aJ hS.n;dsimp only at e4;go_simp⟩) HS1.o ?_
      refine wpAnyH_take (i:=3) (v:=.pointer (some ⟨W.heap.size,0,none⟩)) rfl (by kernel_rfl) (by kernel_rfl) (by kernel_rfl) (fun _ _ _ h=>h) (Or.inl ⟨by rfl,fun w hS=>by obtain⟨x0,x1,x2,x3⟩:=aG hS.f.c;obtain⟨-,-,-,-,e4,-⟩:=aJ hS.n;dsimp only at e4;go_simp⟩) HS1.o ?_
      refine wpAnyH_take (i:=4) (v:=.agg #[.int .i64 f,.int .i64 d]) rfl (by kernel_rfl) (by kernel_rfl) (by kernel_rfl) (fun _ _ _ h=>h) (Or.inl ⟨by rfl,fun w hS=>by obtain⟨x0,x1,x2,x3⟩:=aG hS.f.c;obtain⟨-,-,-,-,e4,-⟩:=aJ hS.n;dsimp only at e4;go_simp⟩) HS1.o ?_
      refine wpAnyH_take (i:=6) (v:=.pointer (some ⟨W.heap.size,0,none⟩)) rfl (by kernel_rfl) (by kernel_rfl) (by kernel_rfl) (fun _ _ _ h=>h) (Or.inl ⟨by rfl,fun w hS=>by obtain⟨x0,x1,x2,x3⟩:=aG hS.f.c;obtain⟨-,-,-,-,e4,-⟩:=aJ hS.n;dsimp only at e4;go_simp⟩) HS1.o ?_
      refine wpAnyH_take (i:=7) (v:=.agg #[.int .i64 f,.int .i64 d]) rfl (by kernel_rfl) (by kernel_rfl) (by kernel_rfl) (fun _ _ _ h=>h) (Or.inl ⟨by rfl,fun w hS=>by obtain⟨x0,x1,x2,x3⟩:=aG hS.f.c;obtain⟨-,-,-,-,e4,-⟩:=aJ hS.n;dsimp only at e4;go_simp⟩) HS1.o ?_
      refine wpAnyH_take (i:=10) (v:=.pointer (some ⟨gb,4,none⟩)) rfl (by kernel_rfl) (by kernel_rfl) (by kernel_rfl) (fun _ _ _ h=>h) (Or.inl ⟨by rfl,fun w hS=>by obtain⟨x0,x1,x2,x3⟩:=aG hS.f.c;obtain⟨-,-,-,-,e4,-⟩:=aJ hS.n;dsimp only at e4;go_simp⟩) HS1.o ?_
      refine wpAnyH_take (i:=11) (v:=.int .i64 3) rfl (by kernel_rfl) (by kernel_rfl) (by kernel_rfl) (fun _ _ _ h=>h) (Or.inl ⟨by rfl,fun w hS=>by obtain⟨x0,x1,x2,x3⟩:=aG hS.f.c;obtain⟨-,-,-,-,e4,-⟩:=aJ hS.n;dsimp only at e4;go_simp⟩) HS1.o ?_
      refine wpAnyH_take (i:=12) (v:=.int .i64 0) rfl (by kernel_rfl) (by kernel_rfl) (by kernel_rfl) (fun _ _ _ h=>h) (Or.inl ⟨by rfl,fun w hS=>by obtain⟨x0,x1,x2,x3⟩:=aG hS.f.c;obtain⟨-,-,-,-,e4,-⟩:=aJ hS.n;dsimp only at e4;go_simp;rfl⟩) HS1.o ?_
      refine wpAnyH_ready (rs:=[2]) (by kernel_rfl) (by simp) (AllReadyH.cons rfl (fun K hK=>?_) AllReadyH.nil)
      go_simp
      refine(HLo.o _).mono ?_
      rintro r9 U1 ⟨rfl,hb⟩
      have HS2:=aC (HS1.o.below hb)
      clear hb HS1 HLo
      refine hK.out _ _ HS2.o (fun _=>?_)
      clear hK K
      refine wpAnyH_ready (rs:=[5]) (by kernel_rfl) (by simp) (AllReadyH.cons rfl (fun K hK=>?_) AllReadyH.nil)
      go_simp
      refine(HHi.o _).mono ?_
      rintro r9 U2 ⟨rfl,hb⟩
      have HS3:=aC (HS2.o.below hb)
      clear hb HS2 HHi
      refine hK.out _ _ HS3.o (fun _=>?_)
      clear hK K
      refine wpAnyH_ready (rs:=[8]) (by kernel_rfl) (by simp) (AllReadyH.cons rfl (fun K hK=>?_) AllReadyH.nil)
      go_simp
      refine(HBo.o _).mono ?_
      rintro r9 U3 ⟨rfl,hb⟩
      have HS4:=aC (HS3.o.below hb)
      clear hb HS3 HBo
      refine hK.out _ _ HS4.o (fun _=>?_)
      clear hK K
      refine wpAnyH_ready (rs:=[9]) (by kernel_rfl) (by simp) (AllReadyH.cons rfl (fun K hK=>?_) AllReadyH.nil)
      go_simp
      have HS5:=aC (And.intro (HS4.o.below (aH U3 (.cells #[.int .i64 x,.int .i64 hi,.int .i64 bo] 3))) ((aI.new U3 3 #[.int .i64 x,.int .i64 hi,.int .i64 bo]).cell 0 rfl))
      clear HS4
      refine hK.out _ _ HS5.o.1 (fun _=>?_)
      clear hK K
      refine Cde.lD (S':=fun w=>Fc W w (cd f d (some ⟨b,off,none⟩) n cap out) (.slice am k cm) (.slice at' k ct) M T gb ⟨mop,ma,mb,mc',3,ms⟩/\w.cell? ⟨U3.heap.size,0,none⟩=some (.int .i64 x)) (fun _ h=>h.1) ?_
      refine wpAnyH_take (i:=13) (v:=.pointer (some ⟨U3.heap.size,0,none⟩)) rfl (by kernel_rfl) (by kernel_rfl) (by kernel_rfl) (fun _ _ _ h=>h) (Or.inl ⟨by rfl,fun w hS=>by have hm:=hS.2;go_simp⟩) HS5.o ?_
      refine wpAnyH_take (i:=14) (v:=.int .i64 x) rfl (by kernel_rfl) (by kernel_rfl) (by kernel_rfl) (fun _ _ _ h=>h) (Or.inl ⟨by rfl,fun w hS=>by have hm:=hS.2;go_simp⟩) HS5.o ?_
      refine wpAnyH_take (i:=15) (v:=.int .i64 x) rfl (by kernel_rfl) (by kernel_rfl) (by kernel_rfl) (fun _ _ _ h=>h) (Or.inl ⟨by rfl,fun w hS=>by have hm:=hS.2;go_simp⟩) HS5.o ?_
      refine wpAnyH_take (i:=16) (v:=.bool true) rfl (by kernel_rfl) (by kernel_rfl) (by kernel_rfl) (fun _ _ _ h=>h) (Or.inl ⟨by rfl,fun w hS=>by have hm:=hS.2;go_simp⟩) HS5.o ?_
      refine wpAnyH_done (by kernel_rfl) ?_ _
      go_simp
      obtain⟨V5,hV5⟩:∃ V5,U3.alloc (.cells #[.int .i64 x,.int .i64 hi,.int .i64 bo] 3)=V5:=⟨_,rfl⟩
      have HC5:=aC HS5.o.1
      rw[hV5] at HC5 ⊢
      clear hV5 HS5 HC0 e0 e1 e2 e3 e4 e5
      obtain⟨e0,e1,e2,e3,e4,e5⟩:=aJ HC5.o.n
      dsimp only at e0 e1 e2 e3 e4 e5
      go_wp2_with fail
      refine(HAr.o _).mono ?_
      rintro e9 w9 ⟨rfl,rfl⟩
      obtain⟨V9,hV9⟩:∃ V9,(((((w9.setCell ⟨gb,0,none⟩ (.int .i64 1)).setCell ⟨gb,1,none⟩ (.int .i64 0)).setCell ⟨gb,2,none⟩ (.int .i64 0)).setCell ⟨gb,3,none⟩ (.int .i64 0)).setCell ⟨gb,4,none⟩ (.int .i64 x)).setCell ⟨gb,5,none⟩ (.int .i64 0)=V9:=⟨_,rfl⟩
      have HC9:Hid (Fc W V9 (cd f d (some ⟨b,off,none⟩) n cap out) (.slice am k cm) (.slice at' k ct) M T gb (jC x)):=aC (by rw[<-hV9];exact HC5.o.put (jC x))
      have HN5:Hid (aI (V9.alloc (.cells #[.int .i64 1,.int .i64 0,.int .i64 0,.int .i64 0,.int .i64 x,.int .i64 0] 57)) V9.heap.size 57 (ia (jC x))):=aC (aI.new V9 57 (ia (jC x)))
      have HF5:Hid (Fb W (V9.alloc (.cells #[.int .i64 1,.int .i64 0,.int .i64 0,.int .i64 0,.int .i64 x,.int .i64 0] 57)) (cd f d (some ⟨b,off,none⟩) n cap out) (.slice am k cm) (.slice at' k ct) M T):=aC (HC9.o.f.below (aH V9 (.cells (ia (jC x)) 57)))
      obtain⟨r0,r1,r2,r3,r4,r5⟩:=mQ HC5.o.n
      go_upto_region 24 with fail
      clear hV9 HC5 e0 e1 e2 e3 e4 e5 r0 r1 r2 r3 r4 r5
      obtain⟨e0,e1,e2,e3,e4,e5⟩:=aJ HC9.o.n
      dsimp only [jC] at e0 e1 e2 e3 e4 e5
      go_wp2_with (first
       | (at_builtin;refine gD rfl _ _ rfl rfl HF5.o.m HF5.o.lo.size _ (jC x) rfl HN5.o (by rw[HMl.o];omega) ?_;intro g cap' w2 hown hgr;have HF6:=aC (HF5.o.growM hgr hown);have HF7:=aC (HF6.o.below (aH w2 (.cells #[.int .i64 (k:Int)] 3)));have HN7:=aC (aI.new w2 3 #[.int .i64 (k:Int)]);clear hown hgr e0 e1 e2 e3 e4 e5)
       | (at_builtin;refine bP rfl _ _ rfl rfl HF7.o.t HF7.o.lo.size _ (k:Int) rfl HN7.o (by rw[HTl.o];omega) ?_;intro g2 cap2 w3 hown2 hgr2))
      have HF8:=aC (HF7.o.growT hgr2 hown2)
      clear hown2 hgr2
      rw[HMl.o,HTl.o] at HF8 ⊢
      go_wp2_with fail
      go_roundw
      case rel=>exact⟨k+1,_,_,_,_,M++[(jC x)],T++[(k:Int)],by omega,by go_num,rfl,rfl,HZ,aC (by simp[HMl.o]),aC (by simp[HTl.o]),HF8⟩
      case measure=>simp[intOf];omega
     ·subst hmk
      clear hin q2
      go_upto_region 13 with fail
      have HS1:=aC (HC0.o.below (aD V4))
      refine wp_region_held_drew (S:=fun w=>Fc W w (cd f d (some ⟨b,off,none⟩) n cap out) (.slice am k cm) (.slice at' k ct) M T gb ⟨mop,ma,mb,mc',4,ms⟩) (by kernel_rfl) HS1.o (fun _=>?_)
      refine wpAnyH_take (i:=0) (v:=.pointer (some ⟨W.heap.size,0,none⟩)) rfl (by kernel_rfl) (by kernel_rfl) (by kernel_rfl) (fun _ _ _ h=>h) (Or.inl ⟨by rfl,fun w hS=>by obtain⟨x0,x1,x2,x3⟩:=aG hS.f.c;obtain⟨-,-,-,-,e4,-⟩:=aJ hS.n;dsimp only at e4;go_simp⟩) HS1.o ?_
      refine wpAnyH_take (i:=1) (v:=.agg #[.int .i64 f,.int .i64 d]) rfl (by kernel_rfl) (by kernel_rfl) (by kernel_rfl) (fun _ _ _ h=>h) (Or.inl ⟨by rfl,fun w hS=>by obtain⟨x0,x1,x2,x3⟩:=aG hS.f.c;obtain⟨-,-,-,-,e4,-⟩:=aJ hS.n;dsimp only at e4;go_simp⟩) HS1.o ?_
      refine wpAnyH_take (i:=3) (v:=.pointer (some ⟨W.heap.size,0,none⟩)) rfl (by kernel_rfl) (by kernel_rfl) (by kernel_rfl) (fun _ _ _ h=>h) (Or.inl ⟨by rfl,fun w hS=>by obtain⟨x0,x1,x2,x3⟩:=aG hS.f.c;obtain⟨-,-,-,-,e4,-⟩:=aJ hS.n;dsimp only at e4;go_simp⟩) HS1.o ?_
      refine wpAnyH_take (i:=4) (v:=.agg #[.int .i64 f,.int .i64 d]) rfl (by kernel_rfl) (by kernel_rfl) (by kernel_rfl) (fun _ _ _ h=>h) (Or.inl ⟨by rfl,fun w hS=>by obtain⟨x0,x1,x2,x3⟩:=aG hS.f.c;obtain⟨-,-,-,-,e4,-⟩:=aJ hS.n;dsimp only at e4;go_simp⟩) HS1.o ?_
      refine wpAnyH_take (i:=6) (v:=.pointer (some ⟨W.heap.size,0,none⟩)) rfl (by kernel_rfl) (by kernel_rfl) (by kernel_rfl) (fun _ _ _ h=>h) (Or.inl ⟨by rfl,fun w hS=>by obtain⟨x0,x1,x2,x3⟩:=aG hS.f.c;obtain⟨-,-,-,-,e4,-⟩:=aJ hS.n;dsimp only at e4;go_simp⟩) HS1.o ?_
      refine wpAnyH_take (i:=7) (v:=.agg #[.int .i64 f,.int .i64 d]) rfl (by kernel_rfl) (by kernel_rfl) (by kernel_rfl) (fun _ _ _ h=>h) (Or.inl ⟨by rfl,fun w hS=>by obtain⟨x0,x1,x2,x3⟩:=aG hS.f.c;obtain⟨-,-,-,-,e4,-⟩:=aJ hS.n;dsimp only at e4;go_simp⟩) HS1.o ?_
      refine wpAnyH_take (i:=10) (v:=.pointer (some ⟨gb,4,none⟩)) rfl (by kernel_rfl) (by kernel_rfl) (by kernel_rfl) (fun _ _ _ h=>h) (Or.inl ⟨by rfl,fun w hS=>by obtain⟨x0,x1,x2,x3⟩:=aG hS.f.c;obtain⟨-,-,-,-,e4,-⟩:=aJ hS.n;dsimp only at e4;go_simp⟩) HS1.o ?_
      refine wpAnyH_take (i:=11) (v:=.int .i64 4) rfl (by kernel_rfl) (by kernel_rfl) (by kernel_rfl) (fun _ _ _ h=>h) (Or.inl ⟨by rfl,fun w hS=>by obtain⟨x0,x1,x2,x3⟩:=aG hS.f.c;obtain⟨-,-,-,-,e4,-⟩:=aJ hS.n;dsimp only at e4;go_simp⟩) HS1.o ?_
      refine wpAnyH_take (i:=12) (v:=.int .i64 1) rfl (by kernel_rfl) (by kernel_rfl) (by kernel_rfl) (fun _ _ _ h=>h) (Or.inl ⟨by rfl,fun w hS=>by obtain⟨x0,x1,x2,x3⟩:=aG hS.f.c;obtain⟨-,-,-,-,e4,-⟩:=aJ hS.n;dsimp only at e4;go_simp;rfl⟩) HS1.o ?_
      refine wpAnyH_ready (rs:=[2]) (by kernel_rfl) (by simp) (AllReadyH.cons rfl (fun K hK=>?_) AllReadyH.nil)
      go_simp
      refine(HLo.o _).mono ?_
      rintro r9 U1 ⟨rfl,hb⟩
      have HS2:=aC (HS1.o.below hb)
      clear hb HS1 HLo
      refine hK.out _ _ HS2.o (fun _=>?_)
      clear hK K
      refine wpAnyH_ready (rs:=[5]) (by kernel_rfl) (by simp) (AllReadyH.cons rfl (fun K hK=>?_) AllReadyH.nil)
      go_simp
      refine(HHi.o _).mono ?_
      rintro r9 U2 ⟨rfl,hb⟩
      have HS3:=aC (HS2.o.below hb)
      clear hb HS2 HHi
      refine hK.out _ _ HS3.o (fun _=>?_)
      clear hK K
      refine wpAnyH_ready (rs:=[8]) (by kernel_rfl) (by simp) (AllReadyH.cons rfl (fun K hK=>?_) AllReadyH.nil)
      go_simp
      refine(HBo.o _).mono ?_
      rintro r9 U3 ⟨rfl,hb⟩
      have HS4:=aC (HS3.o.below hb)
      clear hb HS3 HBo
      refine hK.out _ _ HS4.o (fun _=>?_)
      clear hK K
      refine wpAnyH_ready (rs:=[9]) (by kernel_rfl) (by simp) (AllReadyH.cons rfl (fun K hK=>?_) AllReadyH.nil)
      go_simp
      have HS5:=aC (And.intro (HS4.o.below (aH U3 (.cells #[.int .i64 lo,.int .i64 x,.int .i64 bo] 3))) ((aI.new U3 3 #[.int .i64 lo,.int .i64 x,.int .i64 bo]).cell 1 rfl))
      clear HS4
      refine hK.out _ _ HS5.o.1 (fun _=>?_)
      clear hK K
      refine Cde.lD (S':=fun w=>Fc W w (cd f d (some ⟨b,off,none⟩) n cap out) (.slice am k cm) (.slice at' k ct) M T gb ⟨mop,ma,mb,mc',4,ms⟩/\w.cell? ⟨U3.heap.size,1,none⟩=some (.int .i64 x)) (fun _ h=>h.1) ?_
      refine wpAnyH_take (i:=13) (v:=.pointer (some ⟨U3.heap.size,1,none⟩)) rfl (by kernel_rfl) (by kernel_rfl) (by kernel_rfl) (fun _ _ _ h=>h) (Or.inl ⟨by rfl,fun w hS=>by have hm:=hS.2;go_simp⟩) HS5.o ?_
      refine wpAnyH_take (i:=14) (v:=.int .i64 x) rfl (by kernel_rfl) (by kernel_rfl) (by kernel_rfl) (fun _ _ _ h=>h) (Or.inl ⟨by rfl,fun w hS=>by have hm:=hS.2;go_simp⟩) HS5.o ?_
      refine wpAnyH_take (i:=15) (v:=.int .i64 x) rfl (by kernel_rfl) (by kernel_rfl) (by kernel_rfl) (fun _ _ _ h=>h) (Or.inl ⟨by rfl,fun w hS=>by have hm:=hS.2;go_simp⟩) HS5.o ?_
      refine wpAnyH_take (i:=16) (v:=.bool true) rfl (by kernel_rfl) (by kernel_rfl) (by kernel_rfl) (fun _ _ _ h=>h) (Or.inl ⟨by rfl,fun w hS=>by have hm:=hS.2;go_simp⟩) HS5.o ?_
      refine wpAnyH_done (by kernel_rfl) ?_ _
      go_simp
      obtain⟨V5,hV5⟩:∃ V5,U3.alloc (.cells #[.int .i64 lo,.int .i64 x,.int .i64 bo] 3)=V5:=⟨_,rfl⟩
      have HC5:=aC HS5.o.1
      rw[hV5] at HC5 ⊢
      clear hV5 HS5 HC0 e0 e1 e2 e3 e4 e5
      obtain⟨e0,e1,e2,e3,e4,e5⟩:=aJ HC5.o.n
      dsimp only at e0 e1 e2 e3 e4 e5
      go_wp2_with fail
      refine(HAr.o _).mono ?_
      rintro e9 w9 ⟨rfl,rfl⟩
      obtain⟨V9,hV9⟩:∃ V9,(((((w9.setCell ⟨gb,0,none⟩ (.int .i64 1)).setCell ⟨gb,1,none⟩ (.int .i64 0)).setCell ⟨gb,2,none⟩ (.int .i64 0)).setCell ⟨gb,3,none⟩ (.int .i64 0)).setCell ⟨gb,4,none⟩ (.int .i64 x)).setCell ⟨gb,5,none⟩ (.int .i64 0)=V9:=⟨_,rfl⟩
      have HC9:Hid (Fc W V9 (cd f d (some ⟨b,off,none⟩) n cap out) (.slice am k cm) (.slice at' k ct) M T gb (jC x)):=aC (by rw[<-hV9];exact HC5.o.put (jC x))
      have HN5:Hid (aI (V9.alloc (.cells #[.int .i64 1,.int .i64 0,.int .i64 0,.int .i64 0,.int .i64 x,.int .i64 0] 57)) V9.heap.size 57 (ia (jC x))):=aC (aI.new V9 57 (ia (jC x)))
      have HF5:Hid (Fb W (V9.alloc (.cells #[.int .i64 1,.int .i64 0,.int .i64 0,.int .i64 0,.int .i64 x,.int .i64 0] 57)) (cd f d (some ⟨b,off,none⟩) n cap out) (.slice am k cm) (.slice at' k ct) M T):=aC (HC9.o.f.below (aH V9 (.cells (ia (jC x)) 57)))
      obtain⟨r0,r1,r2,r3,r4,r5⟩:=mQ HC5.o.n
      go_upto_region 24 with fail
      clear hV9 HC5 e0 e1 e2 e3 e4 e5 r0 r1 r2 r3 r4 r5
      obtain⟨e0,e1,e2,e3,e4,e5⟩:=aJ HC9.o.n
      dsimp only [jC] at e0 e1 e2 e3 e4 e5
      go_wp2_with (first
       | (at_builtin;refine gD rfl _ _ rfl rfl HF5.o.m HF5.o.lo.size _ (jC x) rfl HN5.o (by rw[HMl.o];omega) ?_;intro g cap' w2 hown hgr;have HF6:=aC (HF5.o.growM hgr hown);have HF7:=aC (HF6.o.below (aH w2 (.cells #[.int .i64 (k:Int)] 3)));have HN7:=aC (aI.new w2 3 #[.int .i64 (k:Int)]);clear hown hgr e0 e1 e2 e3 e4 e5)
       | (at_builtin;refine bP rfl _ _ rfl rfl HF7.o.t HF7.o.lo.size _ (k:Int) rfl HN7.o (by rw[HTl.o];omega) ?_;intro g2 cap2 w3 hown2 hgr2))
      have HF8:=aC (HF7.o.growT hgr2 hown2)
      clear hown2 hgr2
      rw[HMl.o,HTl.o] at HF8 ⊢
      go_wp2_with fail
      go_roundw
      case rel=>exact⟨k+1,_,_,_,_,M++[(jC x)],T++[(k:Int)],by omega,by go_num,rfl,rfl,HZ,aC (by simp[HMl.o]),aC (by simp[HTl.o]),HF8⟩
      case measure=>simp[intOf];omega
     ·subst hmk
      clear hin q2
      go_upto_region 13 with fail
      have HS1:=aC (HC0.o.below (aD V4))
      refine wp_region_held_drew (S:=fun w=>Fc W w (cd f d (some ⟨b,off,none⟩) n cap out) (.slice am k cm) (.slice at' k ct) M T gb ⟨mop,ma,mb,mc',5,ms⟩) (by kernel_rfl) HS1.o (fun _=>?_)
      refine wpAnyH_take (i:=0) (v:=.pointer (some ⟨W.heap.size,0,none⟩)) rfl (by kernel_rfl) (by kernel_rfl) (by kernel_rfl) (fun _ _ _ h=>h) (Or.inl ⟨by rfl,fun w hS=>by obtain⟨x0,x1,x2,x3⟩:=aG hS.f.c;obtain⟨-,-,-,-,e4,-⟩:=aJ hS.n;dsimp only at e4;go_simp⟩) HS1.o ?_
      refine wpAnyH_take (i:=1) (v:=.agg #[.int .i64 f,.int .i64 d]) rfl (by kernel_rfl) (by kernel_rfl) (by kernel_rfl) (fun _ _ _ h=>h) (Or.inl ⟨by rfl,fun w hS=>by obtain⟨x0,x1,x2,x3⟩:=aG hS.f.c;obtain⟨-,-,-,-,e4,-⟩:=aJ hS.n;dsimp only at e4;go_simp⟩) HS1.o ?_
      refine wpAnyH_take (i:=3) (v:=.pointer (some ⟨W.heap.size,0,none⟩)) rfl (by kernel_rfl) (by kernel_rfl) (by kernel_rfl) (fun _ _ _ h=>h) (Or.inl ⟨by rfl,fun w hS=>by obtain⟨x0,x1,x2,x3⟩:=aG hS.f.c;obtain⟨-,-,-,-,e4,-⟩:=aJ hS.n;dsimp only at e4;go_simp⟩) HS1.o ?_
      refine wpAnyH_take (i:=4) (v:=.agg #[.int .i64 f,.int .i64 d]) rfl (by kernel_rfl) (by kernel_rfl) (by kernel_rfl) (fun _ _ _ h=>h) (Or.inl ⟨by rfl,fun w hS=>by obtain⟨x0,x1,x2,x3⟩:=aG hS.f.c;obtain⟨-,-,-,-,e4,-⟩:=aJ hS.n;dsimp only at e4;go_simp⟩) HS1.o ?_
      refine wpAnyH_take (i:=6) (v:=.pointer (some ⟨W.heap.size,0,none⟩)) rfl (by kernel_rfl) (by kernel_rfl) (by kernel_rfl) (fun _ _ _ h=>h) (Or.inl ⟨by rfl,fun w hS=>by obtain⟨x0,x1,x2,x3⟩:=aG hS.f.c;obtain⟨-,-,-,-,e4,-⟩:=aJ hS.n;dsimp only at e4;go_simp⟩) HS1.o ?_
      refine wpAnyH_take (i:=7) (v:=.agg #[.int .i64 f,.int .i64 d]) rfl (by kernel_rfl) (by kernel_rfl) (by kernel_rfl) (fun _ _ _ h=>h) (Or.inl ⟨by rfl,fun w hS=>by obtain⟨x0,x1,x2,x3⟩:=aG hS.f.c;obtain⟨-,-,-,-,e4,-⟩:=aJ hS.n;dsimp only at e4;go_simp⟩) HS1.o ?_
      refine wpAnyH_take (i:=10) (v:=.pointer (some ⟨gb,4,none⟩)) rfl (by kernel_rfl) (by kernel_rfl) (by kernel_rfl) (fun _ _ _ h=>h) (Or.inl ⟨by rfl,fun w hS=>by obtain⟨x0,x1,x2,x3⟩:=aG hS.f.c;obtain⟨-,-,-,-,e4,-⟩:=aJ hS.n;dsimp only at e4;go_simp⟩) HS1.o ?_
      refine wpAnyH_take (i:=11) (v:=.int .i64 5) rfl (by kernel_rfl) (by kernel_rfl) (by kernel_rfl) (fun _ _ _ h=>h) (Or.inl ⟨by rfl,fun w hS=>by obtain⟨x0,x1,x2,x3⟩:=aG hS.f.c;obtain⟨-,-,-,-,e4,-⟩:=aJ hS.n;dsimp only at e4;go_simp⟩) HS1.o ?_
      refine wpAnyH_take (i:=12) (v:=.int .i64 2) rfl (by kernel_rfl) (by kernel_rfl) (by kernel_rfl) (fun _ _ _ h=>h) (Or.inl ⟨by rfl,fun w hS=>by obtain⟨x0,x1,x2,x3⟩:=aG hS.f.c;obtain⟨-,-,-,-,e4,-⟩:=aJ hS.n;dsimp only at e4;go_simp;rfl⟩) HS1.o ?_
      refine wpAnyH_ready (rs:=[2]) (by kernel_rfl) (by simp) (AllReadyH.cons rfl (fun K hK=>?_) AllReadyH.nil)
      go_simp
      refine(HLo.o _).mono ?_
      rintro r9 U1 ⟨rfl,hb⟩
      have HS2:=aC (HS1.o.below hb)
      clear hb HS1 HLo
      refine hK.out _ _ HS2.o (fun _=>?_)
      clear hK K
      refine wpAnyH_ready (rs:=[5]) (by kernel_rfl) (by simp) (AllReadyH.cons rfl (fun K hK=>?_) AllReadyH.nil)
      go_simp
      refine(HHi.o _).mono ?_
      rintro r9 U2 ⟨rfl,hb⟩
      have HS3:=aC (HS2.o.below hb)
      clear hb HS2 HHi
      refine hK.out _ _ HS3.o (fun _=>?_)
      clear hK K
      refine wpAnyH_ready (rs:=[8]) (by kernel_rfl) (by simp) (AllReadyH.cons rfl (fun K hK=>?_) AllReadyH.nil)
      go_simp
      refine(HBo.o _).mono ?_
      rintro r9 U3 ⟨rfl,hb⟩
      have HS4:=aC (HS3.o.below hb)
      clear hb HS3 HBo
      refine hK.out _ _ HS4.o (fun _=>?_)
      clear hK K
      refine wpAnyH_ready (rs:=[9]) (by kernel_rfl) (by simp) (AllReadyH.cons rfl (fun K hK=>?_) AllReadyH.nil)
      go_simp
      have HS5:=aC (And.intro (HS4.o.below (aH U3 (.cells #[.int .i64 lo,.int .i64 hi,.int .i64 x] 3))) ((aI.new U3 3 #[.int .i64 lo,.int .i64 hi,.int .i64 x]).cell 2 rfl))
      clear HS4
      refine hK.out _ _ HS5.o.1 (fun _=>?_)
      clear hK K
      refine Cde.lD (S':=fun w=>Fc W w (cd f d (some ⟨b,off,none⟩) n cap out) (.slice am k cm) (.slice at' k ct) M T gb ⟨mop,ma,mb,mc',5,ms⟩/\w.cell? ⟨U3.heap.size,2,none⟩=some (.int .i64 x)) (fun _ h=>h.1) ?_
      refine wpAnyH_take (i:=13) (v:=.pointer (some ⟨U3.heap.size,2,none⟩)) rfl (by kernel_rfl) (by kernel_rfl) (by kernel_rfl) (fun _ _ _ h=>h) (Or.inl ⟨by rfl,fun w hS=>by have hm:=hS.2;go_simp⟩) HS5.o ?_
      refine wpAnyH_take (i:=14) (v:=.int .i64 x) rfl (by kernel_rfl) (by kernel_rfl) (by kernel_rfl) (fun _ _ _ h=>h) (Or.inl ⟨by rfl,fun w hS=>by have hm:=hS.2;go_simp⟩) HS5.o ?_
      refine wpAnyH_take (i:=15) (v:=.int .i64 x) rfl (by kernel_rfl) (by kernel_rfl) (by kernel_rfl) (fun _ _ _ h=>h) (Or.inl ⟨by rfl,fun w hS=>by have hm:=hS.2;go_simp⟩) HS5.o ?_
      refine wpAnyH_take (i:=16) (v:=.bool true) rfl (by kernel_rfl) (by kernel_rfl) (by kernel_rfl) (fun _ _ _ h=>h) (Or.inl ⟨by rfl,fun w hS=>by have hm:=hS.2;go_simp⟩) HS5.o ?_
      refine wpAnyH_done (by kernel_rfl) ?_ _
      go_simp
      obtain⟨V5,hV5⟩:∃ V5,U3.alloc (.cells #[.int .i64 lo,.int .i64 hi,.int .i64 x] 3)=V5:=⟨_,rfl⟩
      have HC5:=aC HS5.o.1
      rw[hV5] at HC5 ⊢
      clear hV5 HS5 HC0 e0 e1 e2 e3 e4 e5
      obtain⟨e0,e1,e2,e3,e4,e5⟩:=aJ HC5.o.n
      dsimp only at e0 e1 e2 e3 e4 e5
      go_wp2_with fail
      refine(HAr.o _).mono ?_
      rintro e9 w9 ⟨rfl,rfl⟩
      obtain⟨V9,hV9⟩:∃ V9,(((((w9.setCell ⟨gb,0,none⟩ (.int .i64 1)).setCell ⟨gb,1,none⟩ (.int .i64 0)).setCell ⟨gb,2,none⟩ (.int .i64 0)).setCell ⟨gb,3,none⟩ (.int .i64 0)).setCell ⟨gb,4,none⟩ (.int .i64 x)).setCell ⟨gb,5,none⟩ (.int .i64 0)=V9:=⟨_,rfl⟩
      have HC9:Hid (Fc W V9 (cd f d (some ⟨b,off,none⟩) n cap out) (.slice am k cm) (.slice at' k ct) M T gb (jC x)):=aC (by rw[<-hV9];exact HC5.o.put (jC x))
      have HN5:Hid (aI (V9.alloc (.cells #[.int .i64 1,.int .i64 0,.int .i64 0,.int .i64 0,.int .i64 x,.int .i64 0] 57)) V9.heap.size 57 (ia (jC x))):=aC (aI.new V9 57 (ia (jC x)))
      have HF5:Hid (Fb W (V9.alloc (.cells #[.int .i64 1,.int .i64 0,.int .i64 0,.int .i64 0,.int .i64 x,.int .i64 0] 57)) (cd f d (some ⟨b,off,none⟩) n cap out) (.slice am k cm) (.slice at' k ct) M T):=aC (HC9.o.f.below (aH V9 (.cells (ia (jC x)) 57)))
      obtain⟨r0,r1,r2,r3,r4,r5⟩:=mQ HC5.o.n
      go_upto_region 24 with fail
      clear hV9 HC5 e0 e1 e2 e3 e4 e5 r0 r1 r2 r3 r4 r5
      obtain⟨e0,e1,e2,e3,e4,e5⟩:=aJ HC9.o.n
      dsimp only [jC] at e0 e1 e2 e3 e4 e5
      go_wp2_with (first
       | (at_builtin;refine gD rfl _ _ rfl rfl HF5.o.m HF5.o.lo.size _ (jC x) rfl HN5.o (by rw[HMl.o];omega) ?_;intro g cap' w2 hown hgr;have HF6:=aC (HF5.o.growM hgr hown);have HF7:=aC (HF6.o.below (aH w2 (.cells #[.int .i64 (k:Int)] 3)));have HN7:=aC (aI.new w2 3 #[.int .i64 (k:Int)]);clear hown hgr e0 e1 e2 e3 e4 e5)
       | (at_builtin;refine bP rfl _ _ rfl rfl HF7.o.t HF7.o.lo.size _ (k:Int) rfl HN7.o (by rw[HTl.o];omega) ?_;intro g2 cap2 w3 hown2 hgr2))
      have HF8:=aC (HF7.o.growT hgr2 hown2)
      clear hown2 hgr2
      rw[HMl.o,HTl.o] at HF8 ⊢
      go_wp2_with fail
      go_roundw
      case rel=>exact⟨k+1,_,_,_,_,M++[(jC x)],T++[(k:Int)],by omega,by go_num,rfl,rfl,HZ,aC (by simp[HMl.o]),aC (by simp[HTl.o]),HF8⟩
      case measure=>simp[intOf];omega
    ·have hq:((m.op==2)&&decide (3<=m.k))=false:=by
      cases hx:((m.op==2)&&decide (3<=m.k))
      ·rfl
      ·simp at hx;exact absurd hx hin
     by_cases ha0:0 < ar m.op
     ·have q1:(m.op==2)=false:=by
       have:m.op≠2:=fun e=>by rw[e] at ha0;exact absurd ha0 (by decide)
       simpa using this
      have ha1:decide (0 < Spn.ar m.op)=true:=by simpa using ha0
      have HSt:=aC fun(ha:alN M m=false)=>aRr (f:=f) (d:=d) (M:=M) ha0 ha
      have HVl4:=aC (HVl3.o ha0)
      generalize Spn.ar m.op=arm at *
      clear hq hin HVl3 ha0
      have HAl:=aC (aI9 m (HC0.o.f.ins HMl.o) HOk2.o)
      go_wp2_with fail
      refine(HAr.o _).mono ?_
      rintro e9 w9 ⟨rfl,rfl⟩
      go_wp2_with fail
      refine HAl.o.mono ?_
      clear HAl
      rintro e9 V5 (⟨hal,rfl,hb⟩|⟨hal,v9,rfl,hO,hb⟩)
      ·have HC5:=aC (HC0.o.below hb)
       have hkn:=HSt.o hal
       have HZe:=aC (aM6 m (HC5.o.f.ins HMl.o) HOk2.o)
       obtain⟨⟨x,sb⟩,hX⟩:∃ X,qV M m=X:=⟨_,rfl⟩
       rw[hX] at HZe hkn
       have HKn:=aC hkn
       clear hX hkn hal hb HSt HVl4 HC0 e0 e1 e2 e3 e4 e5
       obtain⟨e0,e1,e2,e3,e4,e5⟩:=aJ HC5.o.n
       go_wp2_with fail
       refine HZe.o.mono ?_
       rintro e9 V6 ⟨rfl,hb⟩
       have HC6:=aC (HC5.o.below hb)
       clear hb HZe HC5 e0 e1 e2 e3 e4 e5
       have HC5:=HC6
       clear HC6
       obtain⟨e0,e1,e2,e3,e4,e5⟩:=aJ HC5.o.n
       cases sb
       ·have HZ0:=aC (HNo.o x HKn.o)
        have HSs:=aC fun V (h:Ins V am k cm M)=>aM4 m h HOk2.o
        generalize hz1:lT (-1) (iU M m)=z1 at *
        generalize hz2:lT (k:Int) (iU M m)=z2 at *
        clear hz1 hz2 HY HNo HKn
        rcases HRg2.o with⟨rfl,rfl⟩|⟨hz,rfl⟩
        ·go_wp2_with fail
         refine(HSs.o _ (HC5.o.f.ins HMl.o)).mono ?_
         rintro e9 V7 ⟨rfl,hb⟩
         have HC6:=aC (HC5.o.below hb)
         clear hb HC5 e0 e1 e2 e3 e4 e5
         have HC5:=HC6
         clear HC6
         obtain⟨e0,e1,e2,e3,e4,e5⟩:=aJ HC5.o.n
         have HZ:=HZ0
         have HN5:=aC (aI.new V7 57 (ia m))
         have HF5:=aC (HC5.o.f.below (aH V7 (.cells (ia m) 57)))
         go_wp2_with (first
          | (at_builtin;refine gD rfl _ _ rfl rfl HF5.o.m HF5.o.lo.size _ m rfl HN5.o (by rw[HMl.o];omega) ?_;intro g cap' w2 hown hgr;have HF6:=aC (HF5.o.growM hgr hown);have HF7:=aC (HF6.o.below (aH w2 (.cells #[.int .i64 (k:Int)] 3)));have HN7:=aC (aI.new w2 3 #[.int .i64 (k:Int)]);clear hown hgr e0 e1 e2 e3 e4 e5)
          | (at_builtin;refine bP rfl _ _ rfl rfl HF7.o.t HF7.o.lo.size _ (k:Int) rfl HN7.o (by rw[HTl.o];omega) ?_;intro g2 cap2 w3 hown2 hgr2))
         have HF8:=aC (HF7.o.growT hgr2 hown2)
         clear hown2 hgr2
         rw[HMl.o,HTl.o] at HF8 ⊢
         go_wp2_with fail
         go_roundw
         case rel=>exact⟨k+1,_,_,_,_,M++[m],T++[(k:Int)],by omega,by go_num,rfl,rfl,HZ,aC (by simp[HMl.o]),aC (by simp[HTl.o]),HF8⟩
         case measure=>simp[intOf];omega
        ·have hz3:decide (0<=z2)=true:=by simpa using hz
         clear hz
         go_wp2_with fail
         refine(HSs.o _ (HC5.o.f.ins HMl.o)).mono ?_
         rintro e9 V7 ⟨rfl,hb⟩
         have HC6:=aC (HC5.o.below hb)
         clear hb HC5 e0 e1 e2 e3 e4 e5
         have HC5:=HC6
         clear HC6
         obtain⟨e0,e1,e2,e3,e4,e5⟩:=aJ HC5.o.n
         go_wp2_with fail
         refine(HSs.o _ (HC5.o.f.ins HMl.o)).mono ?_
         rintro e9 V8 ⟨rfl,hb⟩
         have HC6:=aC (HC5.o.below hb)
         clear hb HC5 e0 e1 e2 e3 e4 e5
         have HC5:=HC6
         clear HC6
         obtain⟨e0,e1,e2,e3,e4,e5⟩:=aJ HC5.o.n
         have HZ:=HZ0
         have HN5:=aC (aI.new V8 57 (ia m))
         have HF5:=aC (HC5.o.f.below (aH V8 (.cells (ia m) 57)))
         go_wp2_with (first
          | (at_builtin;refine gD rfl _ _ rfl rfl HF5.o.m HF5.o.lo.size _ m rfl HN5.o (by rw[HMl.o];omega) ?_;intro g cap' w2 hown hgr;have HF6:=aC (HF5.o.growM hgr hown);have HF7:=aC (HF6.o.below (aH w2 (.cells #[.int .i64 z2] 3)));have HN7:=aC (aI.new w2 3 #[.int .i64 z2]);clear hown hgr e0 e1 e2 e3 e4 e5)
          | (at_builtin;refine bP rfl _ _ rfl rfl HF7.o.t HF7.o.lo.size _ z2 rfl HN7.o (by rw[HTl.o];omega) ?_;intro g2 cap2 w3 hown2 hgr2))
         have HF8:=aC (HF7.o.growT hgr2 hown2)
         clear hown2 hgr2
         rw[HMl.o,HTl.o] at HF8 ⊢
         go_wp2_with fail
         go_roundw
         case rel=>exact⟨k+1,_,_,_,_,M++[m],T++[z2],by omega,by go_num,rfl,rfl,HZ,aC (by simp[HMl.o]),aC (by simp[HTl.o]),HF8⟩
         case measure=>simp[intOf];omega
       ·have HZ:=aC (HY.o x HKn.o)
        clear HY HNo HKn HRg2
        obtain⟨V9,hV9⟩:∃ V9,(((((V6.setCell ⟨gb,0,none⟩ (.int .i64 1)).setCell ⟨gb,1,none⟩ (.int .i64 0)).setCell ⟨gb,2,none⟩ (.int .i64 0)).setCell ⟨gb,3,none⟩ (.int .i64 0)).setCell ⟨gb,4,none⟩ (.int .i64 x)).setCell ⟨gb,5,none⟩ (.int .i64 0)=V9:=⟨_,rfl⟩
        have HC9:Hid (Fc W V9 (cd f d (some ⟨b,off,none⟩) n cap out) (.slice am k cm) (.slice at' k ct) M T gb (jC x)):=aC (by rw[<-hV9];exact HC5.o.put (jC x))
        have HN5:Hid (aI (V9.alloc (.cells #[.int .i64 1,.int .i64 0,.int .i64 0,.int .i64 0,.int .i64 x,.int .i64 0] 57)) V9.heap.size 57 (ia (jC x))):=aC (aI.new V9 57 (ia (jC x)))
        have HF5:Hid (Fb W (V9.alloc (.cells #[.int .i64 1,.int .i64 0,.int .i64 0,.int .i64 0,.int .i64 x,.int .i64 0] 57)) (cd f d (some ⟨b,off,none⟩) n cap out) (.slice am k cm) (.slice at' k ct) M T):=aC (HC9.o.f.below (aH V9 (.cells (ia (jC x)) 57)))
        obtain⟨r0,r1,r2,r3,r4,r5⟩:=mQ HC5.o.n
        go_upto_region 24 with fail
        clear hV9 HC5 e0 e1 e2 e3 e4 e5 r0 r1 r2 r3 r4 r5
        obtain⟨e0,e1,e2,e3,e4,e5⟩:=aJ HC9.o.n
        dsimp only [jC] at e0 e1 e2 e3 e4 e5
        go_wp2_with (first
         | (at_builtin;refine gD rfl _ _ rfl rfl HF5.o.m HF5.o.lo.size _ (jC x) rfl HN5.o (by rw[HMl.o];omega) ?_;intro g cap' w2 hown hgr;have HF6:=aC (HF5.o.growM hgr hown);have HF7:=aC (HF6.o.below (aH w2 (.cells #[.int .i64 (k:Int)] 3)));have HN7:=aC (aI.new w2 3 #[.int .i64 (k:Int)]);clear hown hgr e0 e1 e2 e3 e4 e5)
         | (at_builtin;refine bP rfl _ _ rfl rfl HF7.o.t HF7.o.lo.size _ (k:Int) rfl HN7.o (by rw[HTl.o];omega) ?_;intro g2 cap2 w3 hown2 hgr2))
        have HF8:=aC (HF7.o.growT hgr2 hown2)
        clear hown2 hgr2
        rw[HMl.o,HTl.o] at HF8 ⊢
        go_wp2_with fail
        go_roundw
        case rel=>exact⟨k+1,_,_,_,_,M++[(jC x)],T++[(k:Int)],by omega,by go_num,rfl,rfl,HZ,aC (by simp[HMl.o]),aC (by simp[HTl.o]),HF8⟩
        case measure=>simp[intOf];omega
      ·obtain⟨x,hx1,hx2⟩:=HVl4.o hal
       have HC5:=aC (HC0.o.below hb)
       have HZ:=aC (HY.o x hx2)
       obtain⟨va,vcap,hv9,hI9,-⟩:=Ints.of_owns hO
       have HVa:=aC (Spn.dF m.op m.k m.s va (vS M m).length vcap (vS M m) V5 ⟨hI9.len,hI9.le,hI9.max,hI9.nil,hI9.cell⟩)
       rw[hx1] at HVa
       subst hv9
       generalize (vS M m).length=kl at *
       clear hx1 hx2 hal hO hI9 hb HSt HVl4 HC0 HY HNo HRg2 e0 e1 e2 e3 e4 e5
       obtain⟨e0,e1,e2,e3,e4,e5⟩:=aJ HC5.o.n
       go_wp2_with fail
       refine HVa.o.mono ?_
       rintro e9 w8 ⟨rfl,rfl⟩
       obtain⟨V9,hV9⟩:∃ V9,(((((w8.setCell ⟨gb,0,none⟩ (.int .i64 1)).setCell ⟨gb,1,none⟩ (.int .i64 0)).setCell ⟨gb,2,none⟩ (.int .i64 0)).setCell ⟨gb,3,none⟩ (.int .i64 0)).setCell ⟨gb,4,none⟩ (.int .i64 x)).setCell ⟨gb,5,none⟩ (.int .i64 0)=V9:=⟨_,rfl⟩
       have HC9:Hid (Fc W V9 (cd f d (some ⟨b,off,none⟩) n cap out) (.slice am k cm) (.slice at' k ct) M T gb (jC x)):=aC (by rw[<-hV9];exact HC5.o.put (jC x))
       have HN5:Hid (aI (V9.alloc (.cells #[.int .i64 1,.int .i64 0,.int .i64 0,.int .i64 0,.int .i64 x,.int .i64 0] 57)) V9.heap.size 57 (ia (jC x))):=aC (aI.new V9 57 (ia (jC x)))
       have HF5:Hid (Fb W (V9.alloc (.cells #[.int .i64 1,.int .i64 0,.int .i64 0,.int .i64 0,.int .i64 x,.int .i64 0] 57)) (cd f d (some ⟨b,off,none⟩) n cap out) (.slice am k cm) (.slice at' k ct) M T):=aC (HC9.o.f.below (aH V9 (.cells (ia (jC x)) 57)))
       obtain⟨r0,r1,r2,r3,r4,r5⟩:=mQ HC5.o.n
       go_upto_region 24 with fail
       clear hV9 HC5 e0 e1 e2 e3 e4 e5 r0 r1 r2 r3 r4 r5
       obtain⟨e0,e1,e2,e3,e4,e5⟩:=aJ HC9.o.n
       dsimp only [jC] at e0 e1 e2 e3 e4 e5
       go_wp2_with (first
        | (at_builtin;refine gD rfl _ _ rfl rfl HF5.o.m HF5.o.lo.size _ (jC x) rfl HN5.o (by rw[HMl.o];omega) ?_;intro g cap' w2 hown hgr;have HF6:=aC (HF5.o.growM hgr hown);have HF7:=aC (HF6.o.below (aH w2 (.cells #[.int .i64 (k:Int)] 3)));have HN7:=aC (aI.new w2 3 #[.int .i64 (k:Int)]);clear hown hgr e0 e1 e2 e3 e4 e5)
        | (at_builtin;refine bP rfl _ _ rfl rfl HF7.o.t HF7.o.lo.size _ (k:Int) rfl HN7.o (by rw[HTl.o];omega) ?_;intro g2 cap2 w3 hown2 hgr2))
       have HF8:=aC (HF7.o.growT hgr2 hown2)
       clear hown2 hgr2
       rw[HMl.o,HTl.o] at HF8 ⊢
       go_wp2_with fail
       go_roundw
       case rel=>exact⟨k+1,_,_,_,_,M++[(jC x)],T++[(k:Int)],by omega,by go_num,rfl,rfl,HZ,aC (by simp[HMl.o]),aC (by simp[HTl.o]),HF8⟩
       case measure=>simp[intOf];omega
     ·obtain⟨⟨x,hkn⟩,hln⟩:=aPx (f:=f) (d:=d) (M:=M) HOk2.o ha0 hin
      have hZ:=HNo.o x hkn
      rw[hln] at hZ
      have HZ:Hid (gX f d (L.take (k+1))=(M++[m],T++[(k:Int)])):=aC hZ
      have ha1:decide (0 < Spn.ar m.op)=false:=by simpa using ha0
      have HC5:=HC0
      clear hkn hln hZ HY HNo HRg2 HVl3
      by_cases hop:m.op=2
      ·have q1:(m.op==2)=true:=by simpa using hop
       have q2:decide (3<=m.k)=false:=by rw[q1,Bool.true_and] at hq;exact hq
       generalize Spn.ar m.op=arm at *
       clear hop hq hin ha0
       go_wp2_with fail
       refine(HAr.o _).mono ?_
       rintro e9 w9 ⟨rfl,rfl⟩
       have HN5:=aC (aI.new w9 57 (ia m))
       have HF5:=aC (HC5.o.f.below (aH w9 (.cells (ia m) 57)))
       go_wp2_with (first
        | (at_builtin;refine gD rfl _ _ rfl rfl HF5.o.m HF5.o.lo.size _ m rfl HN5.o (by rw[HMl.o];omega) ?_;intro g cap' w2 hown hgr;have HF6:=aC (HF5.o.growM hgr hown);have HF7:=aC (HF6.o.below (aH w2 (.cells #[.int .i64 (k:Int)] 3)));have HN7:=aC (aI.new w2 3 #[.int .i64 (k:Int)]);clear hown hgr e0 e1 e2 e3 e4 e5)
        | (at_builtin;refine bP rfl _ _ rfl rfl HF7.o.t HF7.o.lo.size _ (k:Int) rfl HN7.o (by rw[HTl.o];omega) ?_;intro g2 cap2 w3 hown2 hgr2))
       have HF8:=aC (HF7.o.growT hgr2 hown2)
       clear hown2 hgr2
       rw[HMl.o,HTl.o] at HF8 ⊢
       go_wp2_with fail
       go_roundw
       case rel=>exact⟨k+1,_,_,_,_,M++[m],T++[(k:Int)],by omega,by go_num,rfl,rfl,HZ,aC (by simp[HMl.o]),aC (by simp[HTl.o]),HF8⟩
       case measure=>simp[intOf];omega
      ·have q1:(m.op==2)=false:=by simpa using hop
       generalize Spn.ar m.op=arm at *
       clear hop hq hin ha0
       go_wp2_with fail
       refine(HAr.o _).mono ?_
       rintro e9 w9 ⟨rfl,rfl⟩
       have HN5:=aC (aI.new w9 57 (ia m))
       have HF5:=aC (HC5.o.f.below (aH w9 (.cells (ia m) 57)))
       go_wp2_with (first
        | (at_builtin;refine gD rfl _ _ rfl rfl HF5.o.m HF5.o.lo.size _ m rfl HN5.o (by rw[HMl.o];omega) ?_;intro g cap' w2 hown hgr;have HF6:=aC (HF5.o.growM hgr hown);have HF7:=aC (HF6.o.below (aH w2 (.cells #[.int .i64 (k:Int)] 3)));have HN7:=aC (aI.new w2 3 #[.int .i64 (k:Int)]);clear hown hgr e0 e1 e2 e3 e4 e5)
        | (at_builtin;refine bP rfl _ _ rfl rfl HF7.o.t HF7.o.lo.size _ (k:Int) rfl HN7.o (by rw[HTl.o];omega) ?_;intro g2 cap2 w3 hown2 hgr2))
       have HF8:=aC (HF7.o.growT hgr2 hown2)
       clear hown2 hgr2
       rw[HMl.o,HTl.o] at HF8 ⊢
       go_wp2_with fail
       go_roundw
       case rel=>exact⟨k+1,_,_,_,_,M++[m],T++[(k:Int)],by omega,by go_num,rfl,rfl,HZ,aC (by simp[HMl.o]),aC (by simp[HTl.o]),HF8⟩
       case measure=>simp[intOf];omega
   ·obtain rfl:k=n:=by omega
    have hM:=HM.o
    rw[List.take_of_length_le (by rw[HLn.o];exact Nat.le_refl _)] at hM
    have HM2:=aC hM
    obtain⟨o,rfl⟩:∃ o:Nat,out=o:=⟨out.toNat,by omega⟩
    obtain⟨b2,o2,hat',-,hat⟩:=(HF.o.ints HTl.o).at (by omega)
    have t0:=hat o (by omega)
    subst hat'
    have hw0:W.heap.size < V.heap.size:=HF.o.c.lt
    have i0':(0:Int)<=o:=by omega
    have i1':(o:Int) < k:=by omega
    have hz:foO f d L (o:Int)=T.getD o 0:=by rw[foO,hM];rfl
    have hz1:(gX f d L).1=M:=by rw[hM]
    have hmM:=HF.o.m
    rw[HMl.o,<-hz1] at hmM
    have HTk:=aC fun(X:World) (hb:Below V.heap.size V X)=>kG (out:=(o:Int)) HLn.o (Cde.aW (Cde.aS hmM hb) (Nat.zero_le _)) ((HLI.o.later HF.o.lo).later hb) m1 (by omega)
    rw[hz] at HTk
    have HOm:=aC hmM
    have HtC:=aC (t0)
    obtain⟨z,hzz⟩:∃ z,T.getD o 0=z:=⟨_,rfl⟩
    rw[hzz] at t0 HTk HtC
    have HZz:=aC hzz
    clear hat hM HM HOk HSu HRg HVl HOk0 hmM hz hz1 hzz
    go_upto_region 26 with fail
    go_region_held3 (fun w'=>(w'.cell? ⟨W.heap.size,0,none⟩=some (.int .i64 f)/\w'.cell? ⟨W.heap.size,1,none⟩=some (.int .i64 d)/\w'.cell? ⟨W.heap.size,2,none⟩=some (.slice a k cap)/\w'.cell? ⟨W.heap.size,3,none⟩=some (.int .i64 (o:Int)))/\w'.cell? ⟨b2,o2+o,none⟩=some (.int .i64 z))
     (first|with_reducible exact⟨⟨x0,x1,x2,x3⟩,t0⟩|with_reducible exact⟨⟨l0,l1,l2,l3⟩,t4⟩|with_reducible exact⟨⟨m0,m1',m2',m3⟩,t5⟩|exact⟨⟨x0,x1,x2,x3⟩,t0⟩|go_keep)
     ((first
      | (go_at_call 59;refine(HTk.o _ (aD _)).mono ?_;rintro e9 V4 ⟨a2',c2',rfl,hO4,hb4⟩;have HF4:=aC (HF.o.below (bel (aD V) hb4));obtain⟨l0,l1,l2,l3⟩:=aG HF4.o.c;have t4:=bN (bel (aD V) hb4) t0 (World.block_lt_of_cell? V _ t0);obtain⟨p0,p1,p2,p3⟩:=aG HF4.o.o;obtain⟨r0,r1,r2,r3⟩:=bC HF4.o.o;have hT4:=dB HF4.o.t (own_ne HF4.o.t HF4.o.o (by decide)) (.int .i64 f) (.int .i64 d) (.slice a2' k c2') (.int .i64 (xJ f d L (o:Int)));have hG4:=(⟨HF4.o.c,HF4.o.o,HF4.o.lo⟩:Fg W V4 (cd f d a k cap (o:Int)) bM).put (.int .i64 f) (.int .i64 d) (.slice a2' k c2') (.int .i64 (xJ f d L (o:Int)));unfold s4 at hT4 hG4;have t5:=nL hT4 HTl.o (o:=o) (by omega) HZz.o;obtain⟨m0,m1',m2',m3⟩:=aG hG4.c)))
    all_goals
     have HO4:=aC (hO4 W.heap.size (Cde.aS HOm.o (aD V)) HF.o.lo.size)
     have HG4:=aC hG4
     clear x0 x1 x2 x3 t0 l0 l1 l2 l3 t4 t5 m0 m1' m2' m3 p0 p1 p2 p3 r0 r1 r2 r3 hT4 hG4 hO4 hb4 HTk HtC
     have hq:=own_ne HO4.o HF4.o.o (by decide)
     have hlen:=(uF h0').2.1
     rw[HLn.o] at hlen
     generalize hu:xJ f d L (o:Int)=u at *
     generalize hI:zC f d L (o:Int)=I at *
     have HO5:=aC (dB HO4.o hq (.int .i64 f) (.int .i64 d) (.slice a2' k c2') (.int .i64 u))
     obtain⟨V5,hV5⟩:∃ V5,(((V4.setCell ⟨W.heap.size+1,0,none⟩ (.int .i64 f)).setCell ⟨W.heap.size+1,1,none⟩ (.int .i64 d)).setCell ⟨W.heap.size+1,2,none⟩ (.slice a2' k c2')).setCell ⟨W.heap.size+1,3,none⟩ (.int .i64 u)=V5:=⟨_,rfl⟩
     unfold s4 at HO5
     rw[hV5] at HO5 HG4 ⊢
     clear hV5 hq HF4 HO4
     go_wp2_with fail
     obtain⟨q0,q1,q2,q3⟩:=aG HG4.o.r
     exact bodyPost_ret (v:=.tuple #[.agg (cd f d a2' k c2' u),.int .i64 0]) (by simp[results,Tryz.results26,go_sem,q0,q1,q2,q3]) rfl (lM.row h0' hI hu hlen HO5.o HG4.o.lo)
 ·have hr:(er != 0)=true:=by simpa using h0
  go_upto_region 3 with fail
  obtain⟨V2,hV2⟩:∃ V2,V1.alloc (.cells #[.slice ga vm gc,.int .i64 co,.int .i64 0] 47)=V2:=⟨_,rfl⟩
  rw[hV2] at HF1 ⊢
  clear hV2 HF0
  obtain⟨p0,p1,p2,p3⟩:=aG HF1.o.r
  obtain⟨r0,r1,r2,r3⟩:=bC HF1.o.r
  obtain⟨V3,hV3⟩:∃ V3,(((V2.setCell ⟨W.heap.size+1,0,none⟩ (.int .i64 0)).setCell ⟨W.heap.size+1,1,none⟩ (.int .i64 0)).setCell ⟨W.heap.size+1,2,none⟩ (.slice none 0 0)).setCell ⟨W.heap.size+1,3,none⟩ (.int .i64 0)=V3:=⟨_,rfl⟩
  have HF2:Hid (Fg W V3 (cd f d a n cap out) bM):=aC (by rw[<-hV3];exact HF1.o.put (.int .i64 0) (.int .i64 0) (.slice none 0 0) (.int .i64 0))
  go_wp2_with fail
  obtain⟨q0,q1,q2,q3⟩:=aG HF2.o.r
  exact bodyPost_ret (v:=.tuple #[.agg bM,.int .i64 er]) (by simp[results,Tryz.results26,go_sem,q0,q1,q2,q3]) rfl (lM.no HEr.o h0 HF2.o.lo)
end Go.Proofs.Fld
