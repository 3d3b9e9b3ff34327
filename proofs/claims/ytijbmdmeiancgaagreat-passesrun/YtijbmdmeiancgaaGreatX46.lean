import Derived.Test.YtijbmdmeiancgaaGreatXH
import Derived.Deep.AppendLies
import Derived.Test.YtijbmdmeiancgaaGreatX44
import Derived.Test.YtijbmdmeiancgaaGreatX45
import Derived.Test.YtijbmdmeiancgaaGreatX3b
import Derived.Test.YtijbmdmeiancgaaGreatX40
import Derived.Test.YtijbmdmeiancgaaGreatX25
import Derived.Test.YtijbmdmeiancgaaGreatX35
import Derived.Test.YtijbmdmeiancgaaGreatX23
import Derived.Test.YtijbmdmeiancgaaGreatX21
import Derived.Test.YtijbmdmeiancgaaGreatX08
set_option maxRecDepth 100000
set_option maxHeartbeats 32000000
set_option linter.unusedVariables false
namespace Go.Proofs.Rdc
open Go.RowKit Go.IntWalk Knd
open Cde (In i0 ia kd cd Ins kM aJ aG bB aL bJ eO aD bG i6 zA aM)
open Vfy (bL kN kK eH w32)
open Fld (bO rg gv ar fA)
theorem aCn (n:In){W V:World}{b:Nat}{f dd out:Int}{wa:Option Addr}{wn wc:Nat}{sa:Option Addr}{sn sc:Nat}{mv tv:Value}{L M:List In}{T:List Int}{S:eH}(h:Mt W V b f dd out (.slice wa wn wc) (.slice sa sn sc) mv tv M T)(hL:Ins W wa wn wc L)(hS:Spn.Spans W sa sn sc S)(hTw:T.length<=wn)(hTs:T.length<=sn)(hM:M.length<=1000000)(hok:bJ n T.length=true)
  (hSw:∀ r,bO r T.length->Wh (S.getD r.toNat (0,0)).1 (S.getD r.toNat (0,0)).2) (hLw:∀ r,bO r T.length->(rg L r).op=1->w32 (rg L r).k) :
  Calls Tryz.prog 61 #[.pointer (some ⟨b,0,none⟩),.agg (ia n)] V (iY W V b f dd out (.slice wa wn wc) (.slice sa sn sc) tv M T (kF L S T n M.length)):=by
 by_cases hop:n.op < 8\/25 < n.op
 ·exact aF0 n hop h
 ·have e:ar n.op=2:=by
   have h1:8<=n.op:=by omega
   have h2:n.op<=25:=by omega
   unfold ar Spn.ar
   rw[if_neg (by omega),if_neg (by simp only[Spn.aP];omega),if_pos (by simp only[Spn.aP];omega)]
  have ia':bO n.a T.length:=Fld.jR hok (by rw[fA e];simp)
  have ib':bO n.b T.length:=Fld.jR hok (by rw[fA e];simp)
  by_cases h10:n.op=10
  ·exact aQl n h10 h hL hS hTw hTs hM ia' ib' hSw hLw
  by_cases h15:n.op=15
  ·exact aRh n h15 h hL hS hTw hTs hM ia' ib' hSw hLw
  by_cases h13:n.op=13
  ·exact aQp n h13 h hL hS hTw hTs hM ia' ib' hSw hLw
  by_cases h14:n.op=14
  ·exact aQ6 n h14 h hL hS hTw hTs hM ia' ib' hSw hLw
  by_cases h11:n.op=11
  ·exact aRx n h11 h hL hS hTw hTs hM ia' ib' hSw hLw
  by_cases h12:n.op=12
  ·exact aSq n h12 h hL hS hTw hTs hM ia' ib' hSw hLw
  exact aS5 n ⟨by omega,by omega⟩ h10 h15 h13 h14 h11 h12 h hL hS hTw hTs hM ia' ib' hSw hLw
end Go.Proofs.Rdc
namespace Go.Proofs.Rdc
open Go.RowKit Go.IntWalk Knd
open Cde (In i0 ia kd cd Ins kM aJ aG bB aL bJ eO aD bG i6 oP nI)
open Fld (ar bO dK bS aC8 aJf aIu aHx iE)
open Vfy (bL kN kK)
open Fld (dI jF iA aA4)
theorem bN {V V':World}{g o:Nat}{v:Value}(hb:Below V.heap.size V V')(h:V.cell? ⟨g,o,none⟩=some v)(hg:g < V.heap.size):V'.cell? ⟨g,o,none⟩=some v:=(hb.cell (p:=⟨g,o,none⟩) hg).trans h
theorem kG {f d out:Int}{a1 a2:Option Addr}{m n c1 c2:Nat}{L:List In}{W:World}(hL:L.length=n)(hm:(zX f d L out).length=m)(hO:W.ownsRow 0 57 6 (.slice a1 m c1) m (bG (zX f d L out)))(hI:Ins W a2 n c2 L)(hn0:0 < n)(hn:n<=1000) :
  Calls Tryz.prog 59 #[.agg (cd f d a2 n c2 out),.agg (cd f d a1 m c1 (rdO f d L out))] W fun e W'=>∃ a' l c',(qA f d L out).length=l/\e=.returned (.agg (cd f d a' l c' (sS f d L out)))/\(∀ base,W.ownsRow base 57 6 (.slice a1 m c1) m (bG (zX f d L out))->base<=W.heap.size->W'.ownsRow base 57 6 (.slice a' l c') l (bG (qA f d L out)))/\Below W.heap.size W W':=by
 obtain⟨a',c',e',hM,-⟩:=Ins.of_owns hO
 cases e'
 refine(iA f d (rdO f d L out) out hM hI hn0 hn).mono ?_
 rintro e W' (⟨h0,rfl,hb⟩|⟨h0,a',c',rfl,ho,hb⟩)
 ·exact⟨_,m,_,by rw[qA,if_pos h0];exact hm,by rw[sS,if_pos h0],fun base h _=>by rw[qA,if_pos h0];exact Cde.aS h hb,hb⟩
 ·exact⟨_,n,_,by rw[qA,if_neg h0];exact hL,by rw[sS,if_neg h0],fun base _ h=>by rw[qA,if_neg h0];exact Cde.aW ho h,hb⟩
end Go.Proofs.Rdc
namespace Go.Proofs.Rdc
open Go.RowKit Go.IntWalk Knd
open Cde (In i0 ia kd cd Ins kM aJ aG bB aL bJ eO aD bG i6 zA aM)
open Vfy (bL kN kK pR eH w32)
open Fld (bO rg gv ar fA bS)
open Fld (dI jF iA aA4)
structure Rq (W V2 V:World)(b:Nat)(f d out:Int)(cv:Array Value)(wv sv mv tv:Value)(M:List In)(T:List Int):Prop where
 c:aI V W.heap.size 26 cv
 r:aI V (W.heap.size+1) 26 bM
 m:Mt V2 V b f d out wv sv mv tv M T
 lo:Below W.heap.size W V
 hb:W.heap.size+1 < b
section
variable {W V2 V : World} {b : Nat} {f d out : Int} {cv : Array Value} {wv sv mv tv : Value} {M : List In} {T : List Int}
theorem Rq.below {V':World}(h:Rq W V2 V b f d out cv wv sv mv tv M T)(hb:Below V.heap.size V V'):Rq W V2 V' b f d out cv wv sv mv tv M T:=⟨h.c.below hb,h.r.below hb,h.m.below hb,bel h.lo hb,h.hb⟩
theorem Rq.next {V':World}{mv' tv':Value}{M':List In}{T':List Int}(h:Rq W V2 V b f d out cv wv sv mv tv M T)(hm:Mt V2 V' b f d out wv sv mv' tv' M' T')(hb:Below b V V'):Rq W V2 V' b f d out cv wv sv mv' tv' M' T' :=
 have:=h.hb
 ⟨jI h.c (by omega) hb,jI h.r (by omega) hb,hm,⟨hb.os.trans h.lo.os,hb.tape.trans h.lo.tape,hb.output.trans h.lo.output,Nat.le_trans h.lo.size hb.size,fun k hk=>(hb.block k (by omega)).trans (h.lo.block k hk)⟩,h.hb⟩
end
theorem jQ {V:World}{g o:Nat}{v:Value}(h:V.cell? ⟨g,o,none⟩=some v){p:Addr}(hp:g≠p.block)(u:Value):(V.setCell p u).cell? ⟨g,o,none⟩=some v:=(World.cell?_of_block (a:=⟨g,o,none⟩) (Below.heap_setCell V p u g hp)).trans h
theorem aF6 {V:World}{W:World}{g o:Nat}{v:Value}(h:V.cell? ⟨g,o,none⟩=some v)(hg:g≠W.heap.size+1)(x y z u:Value):((((V.setCell ⟨W.heap.size+1,0,none⟩ x).setCell ⟨W.heap.size+1,1,none⟩ y).setCell ⟨W.heap.size+1,2,none⟩ z).setCell ⟨W.heap.size+1,3,none⟩ u).cell? ⟨g,o,none⟩=some v :=
 jQ (jQ (jQ (jQ h (p:=⟨W.heap.size+1,0,none⟩) hg x) (p:=⟨W.heap.size+1,1,none⟩) hg y) (p:=⟨W.heap.size+1,2,none⟩) hg z) (p:=⟨W.heap.size+1,3,none⟩) hg u
theorem aHa {f d out z:Int}{a1 a2:Option Addr}{m n c1 c2:Nat}{L M:List In}{W:World}(hL:L.length=n)(hN:zX f d L out=M)(hz:rdO f d L out=z)(hm:M.length=m)(hO:W.ownsRow 0 57 6 (.slice a1 m c1) m (bG M))(hI:Ins W a2 n c2 L)(hn0:0 < n)(hn:n<=1000) :
  Calls Tryz.prog 59 #[.agg (cd f d a2 n c2 out),.agg (cd f d a1 m c1 z)] W fun e W'=>∃ a' l c',(qA f d L out).length=l/\e=.returned (.agg (cd f d a' l c' (sS f d L out)))/\(∀ base,W.ownsRow base 57 6 (.slice a1 m c1) m (bG M)->base<=W.heap.size->W'.ownsRow base 57 6 (.slice a' l c') l (bG (qA f d L out)))/\Below W.heap.size W W':=by
 subst hN hz
 exact kG hL hm hO hI hn0 hn
theorem aAu (f d out:Int){a:Option Addr}{n cap:Nat}{L:List In}{W:World}(hL:Ins W a n cap L) :
  Calls Tryz.prog 28 #[.agg (cd f d a n cap out)] W (lM W f d L out):=by
 have b1:=aH W (.cells (cd f d a n cap out) 26)
 have b2:=bel b1 (aH _ (.cells bM 26))
 have HC0:=aC ((aI.new W 26 (cd f d a n cap out)).alloc (.cells bM 26))
 have HR0:=aC (aL W (.cells (cd f d a n cap out) 26) 26 bM)
 have HB0:=aC b2
 have HV:=aC (Vfy.iD f d out (hL.later b2))
 have HLI:=aC hL
 have HLn:=aC hL.len
 clear b1 b2 hL
 go_enter Tryz.func28,Tryz.ntmps28
 go_wp2_with fail
 refine HV.o.mono ?_
 rintro e V1 ⟨ga,gc,rfl,hS,hb,-,-⟩
 obtain⟨vm,hm⟩:∃ m,kN f d L out=m:=⟨_,rfl⟩
 obtain⟨co,hco⟩:∃ co,kK f d L out=co:=⟨_,rfl⟩
 obtain⟨er,her⟩:∃ er,bL f d L out=er:=⟨_,rfl⟩
 rw[hm] at hS
 rw[hm,hco,her]
 have HEr:=aC her
 have hb2:=aH V1 (.cells #[.slice ga vm gc,.int .i64 co,.int .i64 0] 47)
 have HC1:=aC ((HC0.o.below hb).below hb2)
 have HR1:=aC ((HR0.o.below hb).below hb2)
 have HB1:=aC (bel (bel HB0.o hb) hb2)
 have HP1:=aC (aI.new V1 47 #[.slice ga vm gc,.int .i64 co,.int .i64 0])
 have HSp:=aC (hS.later hb2)
 clear hm hco her hb hb2 hS HV HC0 HR0 HB0
 by_cases h0:er=0
 ·have hr:(er != 0)=false:=by simpa using h0
  have h0':=HEr.o.trans h0
  obtain⟨m1,m2,o0,o1,hsl,hok,hSw,hLw⟩:=rd_facts h0'
  obtain⟨S,hSe⟩:∃ S,pR f d L out=S:=⟨_,rfl⟩
  have hsn:=HSp.o.len
  have HSI:=HSp.o
  rw[hSe] at hsl hSw hsn HSI
  rw[HLn.o] at m1 m2 o1 hsl hok hSw hLw
  have hvm:n=vm:=by omega
  subst hvm
  obtain⟨o,rfl⟩:∃ o:Nat,out=o:=⟨out.toNat,by omega⟩
  have HSe:=aC hSe
  have HOk:=aC hok
  have HSu:=aC fun k (hk:k < n)=>mJ S (L:=L) (k:=k) (by rw[HLn.o];exact hk)
  have HFew:=aC fun k (hk:k<=n)=>aB6 L S k (by rw[HLn.o];exact hk)
  have HSw:=aC hSw
  have HLw:=aC hLw
  have HSI2:=aC HSI
  clear hok hSw hLw hsl hsn hSe HSI HSp
  go_upto_region 4 with fail
  obtain⟨V2,hV2⟩:∃ V2,V1.alloc (.cells #[.slice ga n gc,.int .i64 co,.int .i64 0] 47)=V2:=⟨_,rfl⟩
  rw[hV2] at HC1 HR1 HB1 HP1 HSI2 ⊢
  obtain⟨gr,hgr⟩:∃ gr,V1.heap.size=gr:=⟨_,rfl⟩
  rw[hgr] at HP1 ⊢
  clear hV2 hgr
  have HL2:=aC (HLI.o.later HB1.o)
  have HQ0:Hid (Rq W V2 (V2.alloc (.cells #[.int .i64 f,.int .i64 d,.slice a n cap,.int .i64 (o:Int),.slice ga n gc,.slice none 0 0,.slice none 0 0] 99)) V2.heap.size f d (o:Int) (cd f d a n cap (o:Int)) (.slice a n cap) (.slice ga n gc) (.slice none 0 0) (.slice none 0 0) [] []) :=
   aC ⟨HC1.o.below (aH _ _),HR1.o.below (aH _ _),⟨aI.new V2 99 _,⟨rfl,.inl ⟨rfl,rfl⟩⟩,⟨rfl,.inl ⟨rfl,rfl⟩⟩,aH _ _,Nat.le_refl _⟩,bel HB1.o (aH _ _),HR1.o.lt⟩
  obtain⟨x0,x1,x2,x3⟩:=aG HC1.o
  have y0:=HP1.o.cell 0 rfl
  go_wp2_with fail
  clear x0 x1 x2 x3 y0
  obtain⟨b,hbe⟩:∃ b,V2.heap.size=b:=⟨_,rfl⟩
  rw[hbe] at HQ0 ⊢
  have HBe:=aC hbe
  clear hbe HC1 HR1 HP1 HB1
  go_loopw [7] (fun i wr=>∃(k:Nat) (M:List In) (T:List Int) (mv tv:Value),k<=n/\i=.int .i64 k/\Hid (qX L S (L.take k)=(M,T))/\Hid (T.length=k)/\Hid (Rq W V2 wr b f d (o:Int) (cd f d a n cap (o:Int)) (.slice a n cap) (.slice ga n gc) mv tv M T)) (fun i _=>n-(intOf i).toNat)
  case atStart=>exact⟨0,[],[],_,_,Nat.zero_le _,rfl,aC rfl,aC rfl,HQ0⟩
  case round =>
   obtain⟨k,M,T,mv,tv,hk,rfl,HM,HTl,HF⟩:=hrel
   rename World=>V
   clear HQ0
   obtain⟨x0,x1,x2,x3⟩:=aG HF.o.c
   by_cases hlt:k < n
   ·obtain⟨gl,off,rfl,-,hat⟩:=(HL2.o.later HF.o.m.lo).at (by omega)
    obtain⟨e0,e1,e2,e3,e4,e5⟩:=hat k hlt
    clear hat
    have hi0:(0:Int)<=k:=by omega
    have hi1:(k:Int) < n:=by omega
    have hSu:=HSu.o k hlt
    have hfew:=HFew.o k (by omega)
    rw[HM.o] at hSu hfew
    have hfew2:M.length<=6*k:=hfew
    have hOk:=Cde.bW HOk.o hlt
    have HQd:=aC fun(X:World) (hX:Ins X (some ⟨gl,off,none⟩) n cap L)=>show kM X gl (off+k*6) (L.getD k i0) by
     obtain⟨gl',off',e',-,hat⟩:=hX.at (by omega)
     cases e'
     exact hat k hlt
    generalize L.getD k i0=q at *
    have hch:=aCn q HF.o.m HL2.o HSI2.o (by rw[HTl.o];omega) (by rw[HTl.o];omega) (by omega) (by rw[HTl.o];exact hOk) (fun r hr=>HSw.o r ⟨hr.1,by have:=hr.2;have:=HTl.o;omega⟩) (fun r hr ho=>HLw.o r ⟨hr.1,by have:=hr.2;have:=HTl.o;omega⟩ ho)
    obtain⟨O,hO⟩:∃ O,kF L S T q M.length=O:=⟨_,rfl⟩
    rw[hO] at hch
    have HCh:=aC hch
    have HY:=aC fun Q z (h:O=some Q) hz=>hSu.trans (aEt (z:=z) (hO.trans h) hz)
    have HN:=aC fun z (h:O=none) hz=>hSu.trans (aJo (z:=z) (hO.trans h) hz)
    have HMk:Hid (M.length<=1200):=aC (by omega)
    have HTn:=aC (jF hOk)
    clear hO hSu hOk hch hfew hfew2
    go_wp2_with fail
    refine HCh.o.mono ?_
    clear HCh e0 e1 e2 e3 e4 e5
    rintro e V3 (⟨Q,h1,rfl,⟨mv3,h3⟩,h4⟩|⟨h1,rfl,h3⟩)
    ·obtain⟨z,hz⟩:∃ z:Int,((M.length+Q.length:Nat):Int)-1=z:=⟨_,rfl⟩
     rw[hz]
     have HZ:=aC (HY.o Q z h1 hz)
     have HF3:=aC (HF.o.next h3 h4)
     clear h1 h3 h4 hz HY HN x0 x1 x2 x3
     obtain⟨ta,tc,rfl,-,-⟩:=Ints.of_owns HF3.o.m.t
     have HF3b:=aC (HF3.o.below (aH V3 (.cells #[.int .i64 z] 3)))
     have HN9:=aC (aI.new V3 3 #[.int .i64 z])
     have tcl:=HF3.o.m.w.cell 6 rfl
     have hbl:=HF3.o.m.w.lt
     go_wp2_with (at_builtin;refine bP rfl _ _ rfl rfl HF3b.o.m.t HF3b.o.m.le _ z rfl HN9.o (by rw[HTl.o];omega) ?_;intro g cap' w3 hown hgr;obtain⟨hW4,hB4⟩:=HF3b.o.m.growT hgr hown;have hc3:=aU HF3b.o.m.t hgr HF3b.o.m.w (by decide);have v3:=hc3.cell 6 rfl;have yv:=hc3.frozen 6;have hl3:=hc3.lt)
     have HF9:=aC (HF3b.o.next hW4 hB4)
     clear hown hgr hW4 hB4 hc3
     go_wp2_with fail
     go_roundw
     case rel=>exact⟨k+1,M++Q,T++[z],_,_,by omega,by go_num,HZ,aC (by simp[HTl.o]),HF9⟩
     case measure=>simp[intOf];omega
    ·have HF3:=aC (HF.o.below h3)
     obtain⟨ta,tc,rfl,hTI,-⟩:=Ints.of_owns HF3.o.m.t
     obtain⟨ma,mc,rfl,-,-⟩:=Ins.of_owns HF3.o.m.m
     obtain⟨z,hz⟩:∃ z:Int,(M.length:Int)=z:=⟨_,rfl⟩
     have HZ:=aC (HN.o z h1 hz)
     have HMl:=aC hz
     rw[HTl.o] at hTI
     have HTn2:=HTn.o
     have HTh:=aC fun(X:World) (hX:Below V3.heap.size V3 X)=>dI q (hTI.later hX) HTn2
     rw[<-HTl.o] at HTh
     clear h1 h3 hz hTI HY HN x0 x1 x2 x3 HF
     generalize bS q T=u at *
     go_wp2_with fail
     have HF4:=aC (HF3.o.below (aD V3))
     have HS1:Hid (aI V3.drew W.heap.size 26 (cd f d (some ⟨gl,off,none⟩) n cap (o:Int))/\Below V2.heap.size V2 V3.drew/\V3.drew.cell? ⟨b,6,none⟩=some (.slice ta T.length tc)):=aC ⟨HF4.o.c,HF4.o.m.lo,HF4.o.m.w.cell 6 rfl⟩
     refine wp_region_held_drew (S:=fun w=>aI w W.heap.size 26 (cd f d (some ⟨gl,off,none⟩) n cap (o:Int))/\Below V2.heap.size V2 w/\w.cell? ⟨b,6,none⟩=some (.slice ta T.length tc)) (by kernel_rfl) HS1.o (fun _=>?_)
     refine wpAnyH_take (i:=0) (v:=.pointer (some ⟨b,0,none⟩)) rfl (by kernel_rfl) (by kernel_rfl) (by kernel_rfl) (fun _ _ _ h=>h) (Or.inl ⟨by rfl,fun w hS=>by obtain⟨x0,x1,x2,x3⟩:=aG hS.1;obtain⟨e0,e1,e2,e3,e4,e5⟩:=HQd.o w (HL2.o.later hS.2.1);have t6:=hS.2.2;go_simp⟩) HS1.o ?_
     refine wpAnyH_take (i:=1) (v:=.pointer (some ⟨b,0,none⟩)) rfl (by kernel_rfl) (by kernel_rfl) (by kernel_rfl) (fun _ _ _ h=>h) (Or.inl ⟨by rfl,fun w hS=>by obtain⟨x0,x1,x2,x3⟩:=aG hS.1;obtain⟨e0,e1,e2,e3,e4,e5⟩:=HQd.o w (HL2.o.later hS.2.1);have t6:=hS.2.2;go_simp⟩) HS1.o ?_
     refine wpAnyH_take (i:=2) (v:=.pointer (some ⟨b,0,none⟩)) rfl (by kernel_rfl) (by kernel_rfl) (by kernel_rfl) (fun _ _ _ h=>h) (Or.inl ⟨by rfl,fun w hS=>by obtain⟨x0,x1,x2,x3⟩:=aG hS.1;obtain⟨e0,e1,e2,e3,e4,e5⟩:=HQd.o w (HL2.o.later hS.2.1);have t6:=hS.2.2;go_simp⟩) HS1.o ?_
     refine wpAnyH_take (i:=3) (v:=.pointer (some ⟨b,5,none⟩)) rfl (by kernel_rfl) (by kernel_rfl) (by kernel_rfl) (fun _ _ _ h=>h) (Or.inl ⟨by rfl,fun w hS=>by obtain⟨x0,x1,x2,x3⟩:=aG hS.1;obtain⟨e0,e1,e2,e3,e4,e5⟩:=HQd.o w (HL2.o.later hS.2.1);have t6:=hS.2.2;go_simp⟩) HS1.o ?_
     refine wpAnyH_take (i:=5) (v:=.pointer (some ⟨W.heap.size,2,none⟩)) rfl (by kernel_rfl) (by kernel_rfl) (by kernel_rfl) (fun _ _ _ h=>h) (Or.inl ⟨by rfl,fun w hS=>by obtain⟨x0,x1,x2,x3⟩:=aG hS.1;obtain⟨e0,e1,e2,e3,e4,e5⟩:=HQd.o w (HL2.o.later hS.2.1);have t6:=hS.2.2;go_simp⟩) HS1.o ?_
     refine wpAnyH_take (i:=6) (v:=.slice (some ⟨gl,off,none⟩) n cap) rfl (by kernel_rfl) (by kernel_rfl) (by kernel_rfl) (fun _ _ _ h=>h) (Or.inl ⟨by rfl,fun w hS=>by obtain⟨x0,x1,x2,x3⟩:=aG hS.1;obtain⟨e0,e1,e2,e3,e4,e5⟩:=HQd.o w (HL2.o.later hS.2.1);have t6:=hS.2.2;go_simp⟩) HS1.o ?_
     refine wpAnyH_take (i:=7) (v:=.int .i64 (k:Int)) rfl (by kernel_rfl) (by kernel_rfl) (by kernel_rfl) (fun _ _ _ h=>h) (Or.inl ⟨by rfl,fun w hS=>by obtain⟨x0,x1,x2,x3⟩:=aG hS.1;obtain⟨e0,e1,e2,e3,e4,e5⟩:=HQd.o w (HL2.o.later hS.2.1);have t6:=hS.2.2;go_simp⟩) HS1.o ?_
     refine wpAnyH_take (i:=8) (v:=.pointer (some ⟨gl,off+k*6,none⟩)) rfl (by kernel_rfl) (by kernel_rfl) (by kernel_rfl) (fun _ _ _ h=>h) (Or.inl ⟨by rfl,fun w hS=>by obtain⟨x0,x1,x2,x3⟩:=aG hS.1;obtain⟨e0,e1,e2,e3,e4,e5⟩:=HQd.o w (HL2.o.later hS.2.1);have t6:=hS.2.2;go_simp⟩) HS1.o ?_
     refine wpAnyH_take (i:=9) (v:=.agg (ia q)) rfl (by kernel_rfl) (by kernel_rfl) (by kernel_rfl) (fun _ _ _ h=>h) (Or.inl ⟨by rfl,fun w hS=>by obtain⟨x0,x1,x2,x3⟩:=aG hS.1;obtain⟨e0,e1,e2,e3,e4,e5⟩:=HQd.o w (HL2.o.later hS.2.1);have t6:=hS.2.2;go_simp⟩) HS1.o ?_
     refine wpAnyH_take (i:=10) (v:=.pointer (some ⟨b,0,none⟩)) rfl (by kernel_rfl) (by kernel_rfl) (by kernel_rfl) (fun _ _ _ h=>h) (Or.inl ⟨by rfl,fun w hS=>by obtain⟨x0,x1,x2,x3⟩:=aG hS.1;obtain⟨e0,e1,e2,e3,e4,e5⟩:=HQd.o w (HL2.o.later hS.2.1);have t6:=hS.2.2;go_simp⟩) HS1.o ?_
     refine wpAnyH_take (i:=11) (v:=.pointer (some ⟨b,0,none⟩)) rfl (by kernel_rfl) (by kernel_rfl) (by kernel_rfl) (fun _ _ _ h=>h) (Or.inl ⟨by rfl,fun w hS=>by obtain⟨x0,x1,x2,x3⟩:=aG hS.1;obtain⟨e0,e1,e2,e3,e4,e5⟩:=HQd.o w (HL2.o.later hS.2.1);have t6:=hS.2.2;go_simp⟩) HS1.o ?_
     refine wpAnyH_take (i:=12) (v:=.pointer (some ⟨b,6,none⟩)) rfl (by kernel_rfl) (by kernel_rfl) (by kernel_rfl) (fun _ _ _ h=>h) (Or.inl ⟨by rfl,fun w hS=>by obtain⟨x0,x1,x2,x3⟩:=aG hS.1;obtain⟨e0,e1,e2,e3,e4,e5⟩:=HQd.o w (HL2.o.later hS.2.1);have t6:=hS.2.2;go_simp⟩) HS1.o ?_
     refine wpAnyH_take (i:=13) (v:=.slice ta T.length tc) rfl (by kernel_rfl) (by kernel_rfl) (by kernel_rfl) (fun _ _ _ h=>h) (Or.inl ⟨by rfl,fun w hS=>by obtain⟨x0,x1,x2,x3⟩:=aG hS.1;obtain⟨e0,e1,e2,e3,e4,e5⟩:=HQd.o w (HL2.o.later hS.2.1);have t6:=hS.2.2;go_simp⟩) HS1.o ?_
     refine wpAnyH_ready (rs:=[4,14]) (by kernel_rfl) (by simp) (AllReadyH.cons rfl (fun K hK=>?_) (AllReadyH.cons rfl (fun K hK=>?_) AllReadyH.nil))
     ·have c5:=HF4.o.m.w.cell 5 rfl
      go_simp
      refine hK.out _ _ ⟨HF4.o.c,HF4.o.m.lo,HF4.o.m.w.cell 6 rfl⟩ (fun _=>?_)
      clear hK K c5
      refine wpAnyH_ready (rs:=[14]) (by kernel_rfl) (by simp) (AllReadyH.cons rfl (fun K hK=>?_) AllReadyH.nil)
      go_simp
      refine(HTh.o _ (aD V3)).mono ?_
      rintro r w2 ⟨rfl,hb⟩
      have HF5:=aC (HF4.o.below hb)
      clear hb
      refine hK.out _ _ ⟨HF5.o.c,HF5.o.m.lo,HF5.o.m.w.cell 6 rfl⟩ (fun _=>?_)
      clear hK K
      refine wpAnyH_ready (rs:=[15]) (by kernel_rfl) (by simp) (AllReadyH.cons rfl (fun K hK=>?_) AllReadyH.nil)
      go_simp
      have HF6:=aC (HF5.o.below (aH w2 (.cells (ia u) 57)))
      have HX6:=aC (aI.new w2 57 (ia u))
      refine hK.out _ _ ⟨HF6.o.c,HF6.o.m.lo,HF6.o.m.w.cell 6 rfl⟩ (fun _=>?_)
      clear hK K
      refine wpAnyH_ready (rs:=[16]) (by kernel_rfl) (by simp) (AllReadyH.cons rfl (fun K hK=>?_) AllReadyH.nil)
      refine nT (L:=M) (by rfl) _ _ (by rfl) (by rfl) HF6.o.m.m HF6.o.m.le _ u (by rfl) HX6.o (by have:=HMk.o;omega) ?_
      intro g2 cap2 w3 hown hgr
      obtain⟨hW7,hB7⟩:=HF6.o.m.growM hgr hown
      have hc7:=aU HF6.o.m.m hgr HF6.o.m.w (by decide)
      have hC7:=aU HF6.o.m.m hgr HF6.o.c (by decide)
      have hlo7:=HF6.o.m.lo.grown hgr HF6.o.m.lo.size fun kk hkk=>Nat.le_trans HF6.o.m.hb (Cde.aQ HF6.o.m.m kk hkk).1
      have HS7:=aC (show aI w3 W.heap.size 26 (cd f d (some ⟨gl,off,none⟩) n cap (o:Int))/\Below V2.heap.size V2 w3/\w3.cell? ⟨b,6,none⟩=some (.slice ta T.length tc) from⟨hC7,hlo7,hc7.cell 6 rfl⟩)
      have HF8:=aC (HF6.o.next hW7 hB7)
      refine hK.out _ _ HS7.o (fun _=>?_)
      clear hK K
      refine wpAnyH_take (i:=17) (v:=.pointer (some ⟨b,0,none⟩)) rfl (by kernel_rfl) (by kernel_rfl) (by kernel_rfl) (fun _ _ _ h=>h) (Or.inl ⟨by rfl,fun w hS=>by obtain⟨x0,x1,x2,x3⟩:=aG hS.1;obtain⟨e0,e1,e2,e3,e4,e5⟩:=HQd.o w (HL2.o.later hS.2.1);have t6:=hS.2.2;go_simp⟩) HS7.o ?_
      refine wpAnyH_take (i:=18) (v:=.pointer (some ⟨b,5,none⟩)) rfl (by kernel_rfl) (by kernel_rfl) (by kernel_rfl) (fun _ _ _ h=>h) (Or.inl ⟨by rfl,fun w hS=>by obtain⟨x0,x1,x2,x3⟩:=aG hS.1;obtain⟨e0,e1,e2,e3,e4,e5⟩:=HQd.o w (HL2.o.later hS.2.1);have t6:=hS.2.2;go_simp⟩) HS7.o ?_
      refine wpAnyH_ready (rs:=[19]) (by kernel_rfl) (by simp) (AllReadyH.cons rfl (fun K hK=>?_) AllReadyH.nil)
      have v2:=hc7.cell 5 rfl
      have yv:=hc7.frozen 5
      go_simp
      refine hK.out _ _ ⟨HF8.o.c,HF8.o.m.lo,HF8.o.m.w.cell 6 rfl⟩ (fun _=>?_)
      clear hK K
      refine wpAnyH_done (by kernel_rfl) ?_ _
      go_simp
      have c5:=HF8.o.m.w.cell 5 rfl
      obtain⟨V8,hV8⟩:∃ V8,w3.setCell ⟨b,5,none⟩ (.slice (some ⟨g2,0,none⟩) (M.length+1) cap2)=V8:=⟨_,rfl⟩
      rw[hV8] at HF8 c5 ⊢
      obtain⟨ml,hml⟩:∃ ml,M.length=ml:=⟨_,rfl⟩
      have hmz:(ml:Int)=z:=by rw[<-hml];exact HMl.o
      have hmk:=HMk.o
      rw[hml] at c5 hmk
      clear hV8 v2 yv hc7 hC7 hlo7 hown hgr hW7 hB7 HS7
      have hzw:wrap64 ((ml:Int)+1-1)=z:=by rw[wrap64_in _ ⟨by omega,by omega⟩];omega
      have hzw2:((ml:Int)+1-1)=z:=by omega
      have hmzr:z=(ml:Int):=by omega
      subst hmzr
      go_upto_region 12 with fail
      have HF8b:=aC (HF8.o.below (aH V8 (.cells #[.int .i64 (ml:Int)] 3)))
      have HN9:=aC (aI.new V8 3 #[.int .i64 (ml:Int)])
      have tcl:=HF8.o.m.w.cell 6 rfl
      have hbl:=HF8.o.m.w.lt
      go_wp2_with (at_builtin;refine bP rfl _ _ rfl rfl HF8b.o.m.t HF8b.o.m.le _ (ml:Int) rfl HN9.o (by rw[HTl.o];omega) ?_;intro g cap' w3 hown hgr;obtain⟨hW4,hB4⟩:=HF8b.o.m.growT hgr hown;have hc3:=aU HF8b.o.m.t hgr HF8b.o.m.w (by decide);have v3:=hc3.cell 6 rfl;have yv:=hc3.frozen 6;have hl3:=hc3.lt)
      have HF9:=aC (HF8b.o.next hW4 hB4)
      clear hown hgr hW4 hB4 hc3
      go_wp2_with fail
      go_roundw
      case rel=>exact⟨k+1,M++[u],T++[(ml:Int)],_,_,by omega,by go_num,HZ,aC (by simp[HTl.o]),HF9⟩
      case measure=>simp[intOf];omega
     ·go_simp
      refine(HTh.o _ (aD V3)).mono ?_
      rintro r w2 ⟨rfl,hb⟩
      have HF5:=aC (HF4.o.below hb)
      clear hb
      refine hK.out _ _ ⟨HF5.o.c,HF5.o.m.lo,HF5.o.m.w.cell 6 rfl⟩ (fun _=>?_)
      clear hK K
      refine wpAnyH_ready (rs:=[4,15]) (by kernel_rfl) (by simp) (AllReadyH.cons rfl (fun K hK=>?_) (AllReadyH.cons rfl (fun K hK=>?_) AllReadyH.nil))
      ·have c5:=HF5.o.m.w.cell 5 rfl
       go_simp
       refine hK.out _ _ ⟨HF5.o.c,HF5.o.m.lo,HF5.o.m.w.cell 6 rfl⟩ (fun _=>?_)
       clear hK K c5
       refine wpAnyH_ready (rs:=[15]) (by kernel_rfl) (by simp) (AllReadyH.cons rfl (fun K hK=>?_) AllReadyH.nil)
       go_simp
       have HF6:=aC (HF5.o.below (aH w2 (.cells (ia u) 57)))
       have HX6:=aC (aI.new w2 57 (ia u))
       refine hK.out _ _ ⟨HF6.o.c,HF6.o.m.lo,HF6.o.m.w.cell 6 rfl⟩ (fun _=>?_)
       clear hK K
       refine wpAnyH_ready (rs:=[16]) (by kernel_rfl) (by simp) (AllReadyH.cons rfl (fun K hK=>?_) AllReadyH.nil)
       refine nT (L:=M) (by rfl) _ _ (by rfl) (by rfl) HF6.o.m.m HF6.o.m.le _ u (by rfl) HX6.o (by have:=HMk.o;omega) ?_
       intro g2 cap2 w3 hown hgr
       obtain⟨hW7,hB7⟩:=HF6.o.m.growM hgr hown
       have hc7:=aU HF6.o.m.m hgr HF6.o.m.w (by decide)
       have hC7:=aU HF6.o.m.m hgr HF6.o.c (by decide)
       have hlo7:=HF6.o.m.lo.grown hgr HF6.o.m.lo.size fun kk hkk=>Nat.le_trans HF6.o.m.hb (Cde.aQ HF6.o.m.m kk hkk).1
       have HS7:=aC (show aI w3 W.heap.size 26 (cd f d (some ⟨gl,off,none⟩) n cap (o:Int))/\Below V2.heap.size V2 w3/\w3.cell? ⟨b,6,none⟩=some (.slice ta T.length tc) from⟨hC7,hlo7,hc7.cell 6 rfl⟩)
       have HF8:=aC (HF6.o.next hW7 hB7)
       refine hK.out _ _ HS7.o (fun _=>?_)
       clear hK K
       refine wpAnyH_take (i:=17) (v:=.pointer (some ⟨b,0,none⟩)) rfl (by kernel_rfl) (by kernel_rfl) (by kernel_rfl) (fun _ _ _ h=>h) (Or.inl ⟨by rfl,fun w hS=>by obtain⟨x0,x1,x2,x3⟩:=aG hS.1;obtain⟨e0,e1,e2,e3,e4,e5⟩:=HQd.o w (HL2.o.later hS.2.1);have t6:=hS.2.2;go_simp⟩) HS7.o ?_
       refine wpAnyH_take (i:=18) (v:=.pointer (some ⟨b,5,none⟩)) rfl (by kernel_rfl) (by kernel_rfl) (by kernel_rfl) (fun _ _ _ h=>h) (Or.inl ⟨by rfl,fun w hS=>by obtain⟨x0,x1,x2,x3⟩:=aG hS.1;obtain⟨e0,e1,e2,e3,e4,e5⟩:=HQd.o w (HL2.o.later hS.2.1);have t6:=hS.2.2;go_simp⟩) HS7.o ?_
       refine wpAnyH_ready (rs:=[19]) (by kernel_rfl) (by simp) (AllReadyH.cons rfl (fun K hK=>?_) AllReadyH.nil)
       have v2:=hc7.cell 5 rfl
       have yv:=hc7.frozen 5
       go_simp
       refine hK.out _ _ ⟨HF8.o.c,HF8.o.m.lo,HF8.o.m.w.cell 6 rfl⟩ (fun _=>?_)
       clear hK K
       refine wpAnyH_done (by kernel_rfl) ?_ _
       go_simp
       have c5:=HF8.o.m.w.cell 5 rfl
       obtain⟨V8,hV8⟩:∃ V8,w3.setCell ⟨b,5,none⟩ (.slice (some ⟨g2,0,none⟩) (M.length+1) cap2)=V8:=⟨_,rfl⟩
       rw[hV8] at HF8 c5 ⊢
       obtain⟨ml,hml⟩:∃ ml,M.length=ml:=⟨_,rfl⟩
       have hmz:(ml:Int)=z:=by rw[<-hml];exact HMl.o
       have hmk:=HMk.o
       rw[hml] at c5 hmk
       clear hV8 v2 yv hc7 hC7 hlo7 hown hgr hW7 hB7 HS7
       have hzw:wrap64 ((ml:Int)+1-1)=z:=by rw[wrap64_in _ ⟨by omega,by omega⟩];omega
       have hzw2:((ml:Int)+1-1)=z:=by omega
       have hmzr:z=(ml:Int):=by omega
       subst hmzr
       go_upto_region 12 with fail
       have HF8b:=aC (HF8.o.below (aH V8 (.cells #[.int .i64 (ml:Int)] 3)))
       have HN9:=aC (aI.new V8 3 #[.int .i64 (ml:Int)])
       have tcl:=HF8.o.m.w.cell 6 rfl
       have hbl:=HF8.o.m.w.lt
       go_wp2_with (at_builtin;refine bP rfl _ _ rfl rfl HF8b.o.m.t HF8b.o.m.le _ (ml:Int) rfl HN9.o (by rw[HTl.o];omega) ?_;intro g cap' w3 hown hgr;obtain⟨hW4,hB4⟩:=HF8b.o.m.growT hgr hown;have hc3:=aU HF8b.o.m.t hgr HF8b.o.m.w (by decide);have v3:=hc3.cell 6 rfl;have yv:=hc3.frozen 6;have hl3:=hc3.lt)
       have HF9:=aC (HF8b.o.next hW4 hB4)
       clear hown hgr hW4 hB4 hc3
       go_wp2_with fail
       go_roundw
       case rel=>exact⟨k+1,M++[u],T++[(ml:Int)],_,_,by omega,by go_num,HZ,aC (by simp[HTl.o]),HF9⟩
       case measure=>simp[intOf];omega
      ·go_simp
       have HF6:=aC (HF5.o.below (aH w2 (.cells (ia u) 57)))
       have HX6:=aC (aI.new w2 57 (ia u))
       refine hK.out _ _ ⟨HF6.o.c,HF6.o.m.lo,HF6.o.m.w.cell 6 rfl⟩ (fun _=>?_)
       clear hK K
       refine wpAnyH_ready (rs:=[4]) (by kernel_rfl) (by simp) (AllReadyH.cons rfl (fun K hK=>?_) AllReadyH.nil)
       have c5:=HF6.o.m.w.cell 5 rfl
       go_simp
       refine hK.out _ _ ⟨HF6.o.c,HF6.o.m.lo,HF6.o.m.w.cell 6 rfl⟩ (fun _=>?_)
       clear hK K c5
       refine wpAnyH_ready (rs:=[16]) (by kernel_rfl) (by simp) (AllReadyH.cons rfl (fun K hK=>?_) AllReadyH.nil)
       refine nT (L:=M) (by rfl) _ _ (by rfl) (by rfl) HF6.o.m.m HF6.o.m.le _ u (by rfl) HX6.o (by have:=HMk.o;omega) ?_
       intro g2 cap2 w3 hown hgr
       obtain⟨hW7,hB7⟩:=HF6.o.m.growM hgr hown
       have hc7:=aU HF6.o.m.m hgr HF6.o.m.w (by decide)
       have hC7:=aU HF6.o.m.m hgr HF6.o.c (by decide)
       have hlo7:=HF6.o.m.lo.grown hgr HF6.o.m.lo.size fun kk hkk=>Nat.le_trans HF6.o.m.hb (Cde.aQ HF6.o.m.m kk hkk).1
       have HS7:=aC (show aI w3 W.heap.size 26 (cd f d (some ⟨gl,off,none⟩) n cap (o:Int))/\Below V2.heap.size V2 w3/\w3.cell? ⟨b,6,none⟩=some (.slice ta T.length tc) from⟨hC7,hlo7,hc7.cell 6 rfl⟩)
       have HF8:=aC (HF6.o.next hW7 hB7)
       refine hK.out _ _ HS7.o (fun _=>?_)
       clear hK K
       refine wpAnyH_take (i:=17) (v:=.pointer (some ⟨b,0,none⟩)) rfl (by kernel_rfl) (by kernel_rfl) (by kernel_rfl) (fun _ _ _ h=>h) (Or.inl ⟨by rfl,fun w hS=>by obtain⟨x0,x1,x2,x3⟩:=aG hS.1;obtain⟨e0,e1,e2,e3,e4,e5⟩:=HQd.o w (HL2.o.later hS.2.1);have t6:=hS.2.2;go_simp⟩) HS7.o ?_
       refine wpAnyH_take (i:=18) (v:=.pointer (some ⟨b,5,none⟩)) rfl (by kernel_rfl) (by kernel_rfl) (by kernel_rfl) (fun _ _ _ h=>h) (Or.inl ⟨by rfl,fun w hS=>by obtain⟨x0,x1,x2,x3⟩:=aG hS.1;obtain⟨e0,e1,e2,e3,e4,e5⟩:=HQd.o w (HL2.o.later hS.2.1);have t6:=hS.2.2;go_simp⟩) HS7.o ?_
       refine wpAnyH_ready (rs:=[19]) (by kernel_rfl) (by simp) (AllReadyH.cons rfl (fun K hK=>?_) AllReadyH.nil)
       have v2:=hc7.cell 5 rfl
       have yv:=hc7.frozen 5
       go_simp
       refine hK.out _ _ ⟨HF8.o.c,HF8.o.m.lo,HF8.o.m.w.cell 6 rfl⟩ (fun _=>?_)
       clear hK K
       refine wpAnyH_done (by kernel_rfl) ?_ _
       go_simp
       have c5:=HF8.o.m.w.cell 5 rfl
       obtain⟨V8,hV8⟩:∃ V8,w3.setCell ⟨b,5,none⟩ (.slice (some ⟨g2,0,none⟩) (M.length+1) cap2)=V8:=⟨_,rfl⟩
       rw[hV8] at HF8 c5 ⊢
       obtain⟨ml,hml⟩:∃ ml,M.length=ml:=⟨_,rfl⟩
       have hmz:(ml:Int)=z:=by rw[<-hml];exact HMl.o
       have hmk:=HMk.o
       rw[hml] at c5 hmk
       clear hV8 v2 yv hc7 hC7 hlo7 hown hgr hW7 hB7 HS7
       have hzw:wrap64 ((ml:Int)+1-1)=z:=by rw[wrap64_in _ ⟨by omega,by omega⟩];omega
       have hzw2:((ml:Int)+1-1)=z:=by omega
       have hmzr:z=(ml:Int):=by omega
       subst hmzr
       go_upto_region 12 with fail
       have HF8b:=aC (HF8.o.below (aH V8 (.cells #[.int .i64 (ml:Int)] 3)))
       have HN9:=aC (aI.new V8 3 #[.int .i64 (ml:Int)])
       have tcl:=HF8.o.m.w.cell 6 rfl
       have hbl:=HF8.o.m.w.lt
       go_wp2_with (at_builtin;refine bP rfl _ _ rfl rfl HF8b.o.m.t HF8b.o.m.le _ (ml:Int) rfl HN9.o (by rw[HTl.o];omega) ?_;intro g cap' w3 hown hgr;obtain⟨hW4,hB4⟩:=HF8b.o.m.growT hgr hown;have hc3:=aU HF8b.o.m.t hgr HF8b.o.m.w (by decide);have v3:=hc3.cell 6 rfl;have yv:=hc3.frozen 6;have hl3:=hc3.lt)
       have HF9:=aC (HF8b.o.next hW4 hB4)
       clear hown hgr hW4 hB4 hc3
       go_wp2_with fail
       go_roundw
       case rel=>exact⟨k+1,M++[u],T++[(ml:Int)],_,_,by omega,by go_num,HZ,aC (by simp[HTl.o]),HF9⟩
       case measure=>simp[intOf];omega
   ·obtain rfl:k=n:=by omega
    have hM:=HM.o
    rw[List.take_of_length_le (by rw[HLn.o];exact Nat.le_refl _)] at hM
    obtain⟨ma,mc,rfl,-,-⟩:=Ins.of_owns HF.o.m.m
    obtain⟨j,gt,ct,ej,hj,htl,rfl,ct0⟩:=HF.o.m.reg (r:=(o:Int)) ⟨by omega,by have:=HTl.o;omega⟩
    obtain rfl:o=j:=by omega
    obtain⟨z,hz⟩:∃ z,gv T (o:Int)=z:=⟨_,rfl⟩
    rw[hz] at ct0
    have hN:zX f d L (o:Int)=M:=by rw[zX,HSe.o,hM]
    have hO':rdO f d L (o:Int)=z:=by rw[rdO,HSe.o,hM];exact hz
    obtain⟨ml,hml⟩:∃ ml,M.length=ml:=⟨_,rfl⟩
    rw[hml] at HF
    obtain⟨tl,htl'⟩:∃ tl,T.length=tl:=⟨_,rfl⟩
    rw[htl'] at HF hj htl
    have hmM:=HF.o.m.m
    rw[hml] at hmM
    have HTk:=aC fun(X:World) (hb:Below V.heap.size V X)=>aHa (f:=f) (d:=d) (out:=(o:Int)) HLn.o hN hO' hml (Cde.aW (Cde.aS hmM hb) (Nat.zero_le _)) ((HL2.o.later HF.o.m.lo).later hb) m1 (by omega)
    have HOm:=aC (Cde.aW hmM (show W.heap.size<=b by have:=HF.o.hb;omega))
    have w5:=HF.o.m.w.cell 5 rfl
    have w6:=HF.o.m.w.cell 6 rfl
    have hgt:gt < V.heap.size:=World.block_lt_of_cell? V _ ct0
    have hbl:=HF.o.m.w.lt
    have i0':(0:Int)<=o:=by omega
    have i1':(o:Int) < tl:=by omega
    have hbw:=HF.o.hb
    have HTy:Hid (gt≠W.heap.size+1):=aC fun e=>by
     have:=own_ne HF.o.m.t HF.o.r (by decide)
     apply this
     rw[e]
     rfl
    clear hz hM HM HSu HOk ej htl' hmM hN hO' HFew HSw HLw hml
    go_upto_region 13 with fail
    go_region_held3 (fun w'=>(w'.cell? ⟨W.heap.size,0,none⟩=some (.int .i64 f)/\w'.cell? ⟨W.heap.size,1,none⟩=some (.int .i64 d)/\w'.cell? ⟨W.heap.size,2,none⟩=some (.slice a k cap)/\w'.cell? ⟨W.heap.size,3,none⟩=some (.int .i64 (o:Int)))/\w'.cell? ⟨b,5,none⟩=some (.slice ma ml mc)/\w'.cell? ⟨b,6,none⟩=some (.slice (some ⟨gt,0,none⟩) tl ct)/\w'.cell? ⟨gt,o,none⟩=some (.int .i64 z))
     (first|exact⟨⟨x0,x1,x2,x3⟩,w5,w6,ct0⟩|exact⟨⟨l0,l1,l2,l3⟩,l5,l6,l7⟩|exact⟨⟨u0,u1,u2,u3⟩,u5,u6,u7⟩|go_keep)
     ((go_at_call 59;refine(HTk.o _ (aD _)).mono ?_;rintro e9 V4 ⟨a2',l2',c2',hl2,rfl,hO4,hb4⟩;have HF4:=aC (HF.o.below (bel (aD V) hb4));obtain⟨l0,l1,l2,l3⟩:=aG HF4.o.c;have l5:=HF4.o.m.w.cell 5 rfl;have l6:=HF4.o.m.w.cell 6 rfl;have l7:=bN (bel (aD V) hb4) ct0 hgt;obtain⟨p0,p1,p2,p3⟩:=aG HF4.o.r;obtain⟨r0,r1,r2,r3⟩:=bC HF4.o.r;obtain⟨u0,u1,u2,u3⟩:=aG (aI.other (aI.other (aI.other (aI.other HF4.o.c (p:=⟨W.heap.size+1,0,none⟩) (show W.heap.size≠W.heap.size+1 by omega) (.int .i64 f)) (p:=⟨W.heap.size+1,1,none⟩) (show W.heap.size≠W.heap.size+1 by omega) (.int .i64 d)) (p:=⟨W.heap.size+1,2,none⟩) (show W.heap.size≠W.heap.size+1 by omega) (.slice a2' l2' c2')) (p:=⟨W.heap.size+1,3,none⟩) (show W.heap.size≠W.heap.size+1 by omega) (.int .i64 (sS f d L (o:Int))));have u5:=aI.cell (aI.other (aI.other (aI.other (aI.other HF4.o.m.w (p:=⟨W.heap.size+1,0,none⟩) (show b≠W.heap.size+1 by omega) (.int .i64 f)) (p:=⟨W.heap.size+1,1,none⟩) (show b≠W.heap.size+1 by omega) (.int .i64 d)) (p:=⟨W.heap.size+1,2,none⟩) (show b≠W.heap.size+1 by omega) (.slice a2' l2' c2')) (p:=⟨W.heap.size+1,3,none⟩) (show b≠W.heap.size+1 by omega) (.int .i64 (sS f d L (o:Int)))) 5 rfl;have u6:=aI.cell (aI.other (aI.other (aI.other (aI.other HF4.o.m.w (p:=⟨W.heap.size+1,0,none⟩) (show b≠W.heap.size+1 by omega) (.int .i64 f)) (p:=⟨W.heap.size+1,1,none⟩) (show b≠W.heap.size+1 by omega) (.int .i64 d)) (p:=⟨W.heap.size+1,2,none⟩) (show b≠W.heap.size+1 by omega) (.slice a2' l2' c2')) (p:=⟨W.heap.size+1,3,none⟩) (show b≠W.heap.size+1 by omega) (.int .i64 (sS f d L (o:Int)))) 6 rfl;have u7:=aF6 l7 HTy.o (.int .i64 f) (.int .i64 d) (.slice a2' l2' c2') (.int .i64 (sS f d L (o:Int)))))
    all_goals
     have HO4:=aC (hO4 W.heap.size (Cde.aS HOm.o (aD V)) HF.o.lo.size)
     clear x0 x1 x2 x3 w5 w6 ct0 l0 l1 l2 l3 l5 l6 l7 u0 u1 u2 u3 u5 u6 u7 p0 p1 p2 p3 r0 r1 r2 r3 hO4 hb4 HTk
     have hq:=own_ne HO4.o HF4.o.r (by decide)
     generalize hu:sS f d L (o:Int)=u at *
     generalize hI:qA f d L (o:Int)=I at *
     have HO5:=aC (dB HO4.o hq (.int .i64 f) (.int .i64 d) (.slice a2' l2' c2') (.int .i64 u))
     have HF5:=aC (mK HF4.o.r HF4.o.lo (.int .i64 f) (.int .i64 d) (.slice a2' l2' c2') (.int .i64 u))
     obtain⟨V5,hV5⟩:∃ V5,(((V4.setCell ⟨W.heap.size+1,0,none⟩ (.int .i64 f)).setCell ⟨W.heap.size+1,1,none⟩ (.int .i64 d)).setCell ⟨W.heap.size+1,2,none⟩ (.slice a2' l2' c2')).setCell ⟨W.heap.size+1,3,none⟩ (.int .i64 u)=V5:=⟨_,rfl⟩
     unfold s4 at HO5 HF5
     rw[hV5] at HO5 HF5 ⊢
     clear hV5 hq HF4 HO4
     go_wp2_with fail
     obtain⟨q0,q1,q2,q3⟩:=aG HF5.o.1
     exact bodyPost_ret (v:=.tuple #[.agg (cd f d a2' l2' c2' u),.int .i64 0]) (by simp[results,Tryz.results28,go_sem,q0,q1,q2,q3]) rfl (lM.row h0' hI hu hl2 HO5.o HF5.o.2)
 ·have hr:(er != 0)=true:=by simpa using h0
  go_upto_region 3 with fail
  obtain⟨V2,hV2⟩:∃ V2,V1.alloc (.cells #[.slice ga vm gc,.int .i64 co,.int .i64 0] 47)=V2:=⟨_,rfl⟩
  rw[hV2] at HR1 HB1 ⊢
  clear hV2
  obtain⟨p0,p1,p2,p3⟩:=aG HR1.o
  obtain⟨r0,r1,r2,r3⟩:=bC HR1.o
  obtain⟨V3,hV3⟩:∃ V3,(((V2.setCell ⟨W.heap.size+1,0,none⟩ (.int .i64 0)).setCell ⟨W.heap.size+1,1,none⟩ (.int .i64 0)).setCell ⟨W.heap.size+1,2,none⟩ (.slice none 0 0)).setCell ⟨W.heap.size+1,3,none⟩ (.int .i64 0)=V3:=⟨_,rfl⟩
  have HF2:=aC (mK HR1.o HB1.o (.int .i64 0) (.int .i64 0) (.slice none 0 0) (.int .i64 0))
  unfold s4 at HF2
  rw[hV3] at HF2
  go_wp2_with fail
  obtain⟨q0,q1,q2,q3⟩:=aG HF2.o.1
  exact bodyPost_ret (v:=.tuple #[.agg bM,.int .i64 er]) (by simp[results,Tryz.results28,go_sem,q0,q1,q2,q3]) rfl (lM.no HEr.o h0 HF2.o.2)
end Go.Proofs.Rdc
