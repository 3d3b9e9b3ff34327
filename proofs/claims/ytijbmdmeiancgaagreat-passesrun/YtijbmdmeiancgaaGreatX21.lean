import Derived.Test.YtijbmdmeiancgaaGreatXH
import Derived.Deep.AppendLies
import Derived.Lib.QuietBelow
import Derived.BigQuiet
import Derived.Test.YtijbmdmeiancgaaGreatX20
import Derived.Test.YtijbmdmeiancgaaGreatX18
import Derived.Test.YtijbmdmeiancgaaGreatX14
set_option maxRecDepth 100000
set_option maxHeartbeats 32000000
set_option linter.unusedVariables false
namespace Go.Proofs.Vfy
open Go.RowKit Go.IntWalk Knd Go.Sort
open Cde (In i0 ia kd cd Ins dP dG bJ eO jG eP zA abc aJ aG aL aM)
variable {V V' W:World} {base cap n:Nat} {v:Value} {cv:Array Value}
theorem aIw:Tryz.prog.follows .mixedOrders=true:=by kernel_rfl
theorem aH1 (W:World)(p:Addr)(u:Value):W.grownBy (W.setCell p u) (some p.block) :=
 ⟨rfl,rfl,rfl,by simp,fun k hk hne=>Below.heap_setCell W p u k (fun e=>hne (by rw[e]))⟩
theorem yS {b:Nat}{e t:TypeId}{size:Nat}{xs:List Value}{cs:Array Value}(h:W.ownsRow base e size v n xs)(hb:aI W b t cs)(ht:t≠e):v.ownBlock≠some b:=by
 intro hv
 obtain⟨-,cs',fr,hc⟩:=Cde.aQ h b hv
 have h2:=hb.symm.trans hc
 simp only[Option.some.injEq,Obj.cells.injEq] at h2
 exact ht h2.2.1
theorem aAy {L:eH}{ops:Array Oper}{rest:List Oper}{o:Oper}{a:Act}{Q:Exit->Act->World->Prop}
  (hgd:o.guard=none) (s x:Operand) (ho:o.op=.call { callee:=.builtin .append,args:=#[s,x],argTypes:=#[45,45] })
  (hs:a.eval s=v) (hen:V.ownsRow base 81 2 v n (Spn.jL L)) (hbase:base<=V.heap.size) (b:Nat) (p q:Int) (hx:a.eval x=.slice (some ⟨b,0,none⟩) 1 1) (hc:aI V b 81 #[.int .i64 p,.int .i64 q]) (h3:n<=8796093022001)
  (h:∀ g cap w',w'.ownsRow base 81 2 (.slice (some ⟨g,0,none⟩) (n+1) cap) (n+1) (Spn.jL L++[.int .i64 p,.int .i64 q])->V.grownBy w' v.ownBlock->wpList Tryz.prog ops Q rest (a.put o.dst (.slice (some ⟨g,0,none⟩) (n+1) cap)) w') :
  wpList Tryz.prog ops Q (o::rest) a V:=by
 obtain⟨i0,hi0,hz0,hz1,hz2⟩:=Spn.info_parts Spn.aC2
 refine wpList_append_lies V hgd s x 45 ho base 81 i0 _ 2 16 Tryz.underlying45 hi0 hz0 hz1 hz2 rfl (by omega) v n (Spn.jL L) hs hen ⟨b,0,none⟩ 1 1 [.int .i64 p,.int .i64 q] hx rfl (Spn.aBz hc) (by simp[Value.oneCell']) (by omega) (by unfold maxLen;omega) (by omega) hbase V.heap.size rfl ?_
 intro g cap w' hown hgrow hat hlt
 exact h g cap w' hown hgrow
structure Vq (W V:World)(cv:Array Value)(v:Value)(S:eH):Prop where
 bel:Below W.heap.size W V
 C:aI V W.heap.size 26 cv
 R:aI V (W.heap.size+1) 47 oU
 S:V.ownsRow W.heap.size 81 2 v S.length (Spn.jL S)
theorem Vq.later {S:eH}(h:Vq W V cv v S)(hb:Below V.heap.size V V'):Vq W V' cv v S :=
 ⟨Knd.bel h.bel hb,h.C.below hb,h.R.below hb,Cde.aS h.S hb⟩
theorem Vq.vlt {S:eH}(h:Vq W V cv v S):∀ b,v.ownBlock=some b->b < V.heap.size:=fun b hb=>(h.S.lt b hb).2
theorem Vq.kept {W V V':World}{cv:Array Value}{v:Value}{S:eH}{row:Option Nat}{B:Nat}(h:Vq W V cv v S)(hB:W.heap.size+1 < B)(hv:∀ b,v.ownBlock=some b->b < B)(hg:V.grownBy V' row)(hr:∀ r,row=some r->B<=r):Vq W V' cv v S:=by
 have hne:∀ b,b < B->some b≠row:=fun b hb e=>by have:=hr b e.symm;omega
 refine⟨h.bel.grown hg h.bel.size (fun k hk=>by have:=hr k hk;omega),h.C.kept hg (hne _ (by omega)),h.R.kept hg (hne _ (by omega)),h.S.kept hg ?_⟩
 cases hvb:v.ownBlock with
 | none=>exact .inl rfl
 | some b=>exact .inr (hne b (hv b hvb))
theorem Vq.grow {S:eH}(h:Vq W V cv v S){g:Nat}{x y:Int}(hown:V'.ownsRow W.heap.size 81 2 (.slice (some ⟨g,0,none⟩) (S.length+1) cap) (S.length+1) (Spn.jL S++[.int .i64 x,.int .i64 y]))(hg:V.grownBy V' v.ownBlock) :
  Vq W V' cv (.slice (some ⟨g,0,none⟩) (S.length+1) cap) (S++[(x,y)]):=by
 refine⟨h.bel.grown hg h.bel.size (fun k hk=>(h.S.lt k hk).1),h.C.kept hg (fun e=>yS h.S h.C (by decide) e.symm),h.R.kept hg (fun e=>yS h.S h.R (by decide) e.symm),?_⟩
 rw[Spn.wQ,List.length_append]
 exact hown
theorem aIl {b:Nat}{e t:TypeId}{size:Nat}{xs:List Value}{cs:Array Value}(h:V.ownsRow base e size v n xs)(hb:aI V b t cs)(ht:t≠e)(x y z:Value):(((V.setCell ⟨b,0,none⟩ x).setCell ⟨b,1,none⟩ y).setCell ⟨b,2,none⟩ z).ownsRow base e size v n xs:=by
 have hn:=yS h hb ht
 exact((h.kept (aH1 V ⟨b,0,none⟩ x) (.inr hn)).kept (aH1 _ ⟨b,1,none⟩ y) (.inr hn)).kept (aH1 _ ⟨b,2,none⟩ z) (.inr hn)
theorem xL.list {w W':World}{f d:Int}{L:List In}{out:Int}{S:eH}{co:Int}(h:bL f d L out=0)(hS:gN f d L=(0,S))(hl:S.length=n)(hco:eP L=co)(hb:Below w.heap.size w W'){a:Option Addr}(hv:v=.slice a n cap)(hO:W'.ownsRow w.heap.size 81 2 v n (Spn.jL S)):xL false w f d L out (.returned (.tuple #[.agg #[.slice a n cap,.int .i64 co,.int .i64 0],.int .i64 0])) W':=by
 obtain⟨m,-,⟨S',h1,h2,h3⟩,-,h4,h5⟩:=aT h
 rw[hS] at h1
 cases h1
 subst hv
 have hn:L.length=n:=by rw[<-h2,hl]
 unfold xL
 rw[h3,h4,h5,h,hn,hco]
 obtain⟨a',c',e',hsp⟩:=Spn.Spans.of_owns hO hl
 cases e'
 exact⟨a,cap,rfl,hsp,hb,fun b off e=>by subst e;exact(hO.lt b rfl).1,fun h=>by cases h⟩
theorem aMp {f d:Int}{S:eH}{n:In}{i:Nat}(hm:May f d)(ho:bJ n i=true)(h:n.op=1\/n.op=2\/n.op=3):(lfZ f d n.op n.k).2=true/\jV f d S n=((lfZ f d n.op n.k).1,0):=by
 have hc:=Cde.nV ho
 unfold lfZ jV
 by_cases h1:n.op=1
 ·rw[if_pos h1,if_pos h1];exact⟨rfl,rfl⟩
 rw[if_neg h1,if_neg h1]
 by_cases h2:n.op=2
 ·rw[if_pos h2,if_pos h2]
  rw[Cde.kZ,if_neg h1,if_pos h2,Bool.and_eq_true,Spn.aP] at hc
  refine⟨?_,rfl⟩
  have hk:=hc.1
  show (iH f d n.k).isSome=true
  unfold iH
  rw[if_neg (by simpa using hm)]
  repeat' split
  all_goals first|rfl|(exfalso;omega)
 ·rw[if_neg h2,if_neg h2,if_pos (by omega),if_pos (by omega)];exact⟨rfl,rfl⟩
theorem aRc (f d:Int){n:In}(h:¬(n.op=1\/n.op=2\/n.op=3)):lfZ f d n.op n.k=((0,0),false):=by
 unfold lfZ;rw[if_neg (by omega),if_neg (by omega),if_neg (by omega)]
theorem iD (f d out:Int){a:Option Addr}{L:List In}(hL:Ins W a n cap L) :
  Calls Tryz.prog 25 #[.agg (cd f d a n cap out)] W (xL false W f d L out):=by
 have hb1:=aH W (.cells (cd f d a n cap out) 26)
 have hb2:=bel hb1 (aH (W.alloc (.cells (cd f d a n cap out) 26)) (.cells oU 47))
 have HB0:=aC hb2
 have HC0:=aC ((aI.new W 26 (cd f d a n cap out)).alloc (.cells oU 47))
 have HR0:=aC (aL W (.cells (cd f d a n cap out) 26) 47 oU)
 have HM:=aC (Cde.aB5 f d out (hL.later hb2))
 have HLI:=aC hL
 have HLn:=aC hL.len
 clear hb1 hb2 hL
 cases hmc:jG f d L out with
 | false =>
  have HE:Hid (bL f d L out=15):=aC (by unfold bL;rw[show uB f d L out=15 by unfold uB;rw[if_neg (by rw[hmc];simp)]];rfl)
  rw[hmc] at HM
  clear hmc
  go_enter Tryz.func25,Tryz.ntmps25
  go_wp2_with fail
  refine HM.o.mono ?_
  rintro e V1 ⟨rfl,hb⟩
  have HR1:=aC (HR0.o.below hb)
  have HB1:=aC (bel HB0.o hb)
  obtain⟨r0,r1,r2,r3,r4,r5⟩:=kT HR1.o
  clear hb
  go_wp2_with fail
  obtain⟨hp,hpb⟩:=gH HR1.o HB1.o (by omega) (.slice none 0 0) (.int .i64 0) (.int .i64 0)
  have p0:=hp.cell 0 rfl
  have p1:=hp.cell 1 rfl
  have p2:=hp.cell 2 rfl
  exact bodyPost_ret (v:=.tuple #[.agg oU,.int .i64 15]) (by simp[results,Tryz.results25,go_sem,p0,p1,p2]) rfl (xL.no HE.o (by decide) hpb)
 | true =>
  obtain⟨hmay,m1,m2,-,-,hok⟩:=Cde.bD hmc
  rw[HLn.o] at m1 m2 hok
  have HMy:=aC hmay
  have HOk:=aC hok
  have HMc:=aC hmc
  have HA2:=aC fun k=>aE0 (f:=f) (d:=d) (L:=L) (k:=k)
  have HA3:=aC fun k=>aKt (f:=f) (d:=d) (L:=L) (k:=k)
  have HKc:=aC fun w=>aCw f d w
  have HJl:=aC fun op k w=>aHo f d op k w
  rw[hmc] at HM
  clear hmc hok hmay
  go_enter Tryz.func25,Tryz.ntmps25
  go_wp2_with fail
  refine HM.o.mono ?_
  rintro e V1 ⟨rfl,hb⟩
  have HC1:=aC (HC0.o.below hb)
  have HR1:=aC (HR0.o.below hb)
  have HB1:=aC (bel HB0.o hb)
  clear hb HC0 HR0 HB0 HM
  go_wp2_with fail
  go_loopw [4] (fun iv wr=>∃ k:Nat,k<=n/\iv=.int .i64 k/\Hid ((L.take k).any (nM f d)=false)/\Hid (Below V1.heap.size V1 wr)) (fun iv _=>n-(intOf iv).toNat)
  case atStart=>exact⟨0,Nat.zero_le _,rfl,aC rfl,aC (Below.refl _ _)⟩
  case round =>
   obtain⟨k,hk,rfl,HA,HB⟩:=hrel
   rename World=>V
   obtain⟨c0,c1,c2,c3⟩:=aG (HC1.o.below HB.o)
   by_cases hlt:k < n
   ·obtain⟨g,off,rfl,-,hat⟩:=(HLI.o.later (bel HB1.o HB.o)).at (by omega)
    obtain⟨e0,-,-,-,e4,-⟩:=hat k hlt
    clear hat
    have hi0:(0:Int)<=k:=by omega
    have hi1:(k:Int) < n:=by omega
    have HS2:=aC (HA2.o k (by rw[HLn.o];exact hlt) HA.o)
    have HS3:=aC (HA3.o k (by rw[HLn.o];exact hlt))
    unfold nM at HS2 HS3
    generalize L.getD k i0=nn at *
    obtain⟨cz,hcz⟩:∃ cz,eG f d=cz:=⟨_,rfl⟩
    have HK2:=aC HKc.o
    rw[hcz] at HK2
    have HCZ:=aC hcz
    clear hcz
    clear HA2 HA3 HA
    obtain⟨bt,hbt,HBt⟩:∃ bt:Bool,(nn.op==3&&decide (cz<=nn.k))=bt/\Hid ((nn.op==3&&decide (eG f d<=nn.k))=bt):=⟨_,rfl,aC (by rw[HCZ.o])⟩
    have k0:=cell_regrown c0
    have k1:=cell_regrown c1
    have k2:=cell_regrown c2
    have k3:=cell_regrown e0
    have k4:=cell_regrown e4
    go_wp2_with fail
    by_cases ho:nn.op=3
    ·have ho1:(nn.op==3)=true:=by simpa using ho
     rw[ho1,Bool.true_and] at hbt
     refine wp_region_quiet_below aIw (by kernel_rfl) ?_
     repeat (first|go_big_quiet_step (first
      | (go_at_call 45;exact Calls.regrown_of (HK2.o _))))
     refine wpQuiet_nil ?_
     intro Vs hw'
     obtain⟨⟨dq,osq⟩,hw''⟩:=hw'
     have hb:=below_regrown V dq osq
     simp only at hw''
     rw[<-hw''] at hb
     have HB5:=aC (bel HB.o hb)
     have HR5:=aC (HR1.o.below HB5.o)
     clear hw'' k0 k1 k2 k3 k4 c0 c1 c2 c3 e0 e4 hb
     cases bt with
     | true =>
      have HT:=aC (HS3.o HBt.o)
      have HE:Hid (bL f d L out=11):=aC (by unfold bL;rw[show uB f d L out=11 by unfold uB;rw[if_pos HMc.o,if_pos (show L.any (nM f d)=true from HT.o)]];rfl)
      have HB6:=aC (bel HB1.o HB5.o)
      obtain⟨r0,r1,r2,r3,r4,r5⟩:=kT HR5.o
      clear HS2 HS3
      go_wp2_with fail
      obtain⟨hp,hpb⟩:=gH HR5.o HB6.o (by omega) (.slice none 0 0) (.int .i64 0) (.int .i64 0)
      have p0:=hp.cell 0 rfl
      have p1:=hp.cell 1 rfl
      have p2:=hp.cell 2 rfl
      exact bodyPost_ret (v:=.tuple #[.agg oU,.int .i64 11]) (by simp[results,Tryz.results25,go_sem,p0,p1,p2]) rfl (xL.no HE.o (by decide) hpb)
     | false =>
      have HT:=aC (HS2.o HBt.o)
      clear HS2 HS3
      go_wp2_with fail
      go_roundw
      case rel=>exact⟨k+1,by omega,by go_num,aC HT.o,HB5⟩
      case measure=>simp[intOf];omega
    ·have ho1:(nn.op==3)=false:=by simpa using ho
     rw[ho1,Bool.false_and] at hbt
     subst hbt
     refine wp_region_quiet_below aIw (by kernel_rfl) ?_
     repeat (first|go_big_quiet_step (first
      | (go_at_call 45;exact Calls.regrown_of (HK2.o _))))
     refine wpQuiet_nil ?_
     intro Vs hw'
     obtain⟨⟨dq,osq⟩,hw''⟩:=hw'
     have hb:=below_regrown V dq osq
     simp only at hw''
     rw[<-hw''] at hb
     have HB5:=aC (bel HB.o hb)
     clear hw'' k0 k1 k2 k3 k4 c0 c1 c2 c3 e0 e4 hb
     have HT:=aC (HS2.o HBt.o)
     clear HS2 HS3
     go_wp2_with fail
     go_roundw
     case rel=>exact⟨k+1,by omega,by go_num,aC HT.o,HB5⟩
     case measure=>simp[intOf];omega
   ·obtain rfl:k=n:=by omega
    have hT:=HA.o
    rw[List.take_of_length_le (by rw[HLn.o];exact Nat.le_refl _)] at hT
    have HZ:Hid (uB f d L out=0):=aC (uC.2 ⟨HMc.o,hT⟩)
    have HQ0:Hid (Vq W V (cd f d a k cap out) (.slice none 0 0) []):=⟨bel HB1.o HB.o,HC1.o.below HB.o,HR1.o.below HB.o,⟨rfl,.inl ⟨rfl,rfl⟩⟩⟩
    clear hT HA HB HA2 HA3 HC1 HR1 HB1 HKc
    go_wp2_with fail
    clear c0 c1 c2 c3
    have HCo:=aC fun(w:World) (h:Ins w a k cap L)=>Cde.aGh f d out h (by omega)
    go_loopw [5,6] (fun v iv wr=>∃(j:Nat) (S:eH),j<=k/\iv=.int .i64 j/\Hid (gN f d (L.take j)=(0,S))/\Hid (S.length=j)/\Hid (Vq W wr (cd f d a k cap out) v S)) (fun _ iv _=>k-(intOf iv).toNat)
    case atStart=>exact⟨0,[],Nat.zero_le _,rfl,aC rfl,aC rfl,HQ0⟩
    case round =>
     obtain⟨j,S,hj,rfl,HS,HSl,HQ⟩:=hrel
     rename World=>V2
     clear HQ0
     obtain⟨va,vc,rfl,hSp⟩:=Spn.Spans.of_owns HQ.o.S rfl
     have HSp:=aC hSp
     clear hSp
     obtain⟨c0,c1,c2,c3⟩:=aG HQ.o.C
     by_cases hlt:j < k
     ·obtain⟨g,off,rfl,-,hat⟩:=(HLI.o.later HQ.o.bel).at (by omega)
      obtain⟨e0,e1,e2,e3,e4,e5⟩:=hat j hlt
      clear hat
      have hi0:(0:Int)<=j:=by omega
      have hi1:(j:Int) < k:=by omega
      have hOk:=Cde.bW HOk.o hlt
      have hS2:=iL f d (L.take j) (L.getD j i0)
      rw[<-aM i0 (by rw[HLn.o];exact hlt),HS.o] at hS2
      have HSt:=aC fun e h he=>tL (f:=f) (d:=d) (L:=L) (k:=j+1) (e:=e) h he
      generalize L.getD j i0=nn at *
      have HO:=aC hOk
      unfold wE at hS2
      simp only[if_true] at hS2
      have HS2:=aC hS2
      clear hS2 hOk
      have hb:=aH V2 (.cells (ia nn) 57)
      have HQ2:=aC (HQ.o.later hb)
      have HN2:=aC (aI.new V2 57 (ia nn))
      have HSp2:=aC (HSp.o.later hb)
      have hz0:=HQ.o.C.lt
      have HZR:=aC HQ.o.R.lt
      have HVl:=aC HQ.o.vlt
      clear hb HQ HSp HS
      go_wp2_with fail
      refine(HJl.o _ _ _).mono ?_
      rintro e V3 ⟨rfl,hb⟩
      obtain⟨⟨⟨lo,hi⟩,lb⟩,hLZ⟩:∃ Z,lfZ f d nn.op nn.k=Z:=⟨_,rfl⟩
      rw[hLZ]
      have HLZ:=aC hLZ
      clear hLZ
      have hsz:=hb.size
      rw[World.size_alloc] at hsz
      have HQ3:=aC (HQ2.o.later hb)
      have HN3:=aC (HN2.o.below hb)
      have HSp3:=aC (HSp2.o.later hb)
      clear hb HQ2 HN2 HSp2 c0 c1 c2 c3 e0 e1 e2 e3 e4 e5
      have hbp:=aH V3 (.cells #[.int .i64 lo,.int .i64 hi] 81)
      have HQ4:=aC (HQ3.o.later hbp)
      have HN4:=aC (HN3.o.below hbp)
      have HSp4:=aC (HSp3.o.later hbp)
      have HP4:=aC (aI.new V3 81 #[.int .i64 lo,.int .i64 hi])
      have HBp:=aC (show W.heap.size+1 < V3.heap.size by have:=HZR.o;omega)
      have HVp:Hid (∀ b,(Value.slice va S.length vc).ownBlock=some b->b < V3.heap.size):=aC (fun b hb=>by have:=HVl.o b hb;omega)
      clear hbp HSp3
      by_cases ho:nn.op=1\/nn.op=2\/nn.op=3
      ·obtain⟨l1,l2⟩:=aMp (S:=S) HMy.o HO.o ho
       rw[HLZ.o] at l1 l2
       have l1:lb=true:=l1
       subst l1
       have HS3:=aC HS2.o
       rw[l2,if_pos rfl] at HS3
       have HLt:=aC (aL V3 (.cells #[.int .i64 lo,.int .i64 hi] 81) 81 #[.int .i64 lo,.int .i64 hi])
       have HQ5:=aC (HQ4.o.later (aH _ (.cells #[.int .i64 lo,.int .i64 hi] 81)))
       obtain⟨s0,s1,-,-⟩:=bB HP4.o
       clear l2 ho HSt
       go_wp2_with (at_builtin;go_loud (refine aAy (L:=S) rfl _ _ rfl rfl HQ5.o.S HQ5.o.bel.size _ lo hi rfl HLt.o (by have:=HSl.o;omega) ?_;intro g2 cap2 V7 hown hgrow;have HQ7:=aC (HQ5.o.grow hown hgrow)))
       go_roundw
       case rel=>exact⟨j+1,S++[(lo,hi)],by omega,by go_num,aC HS3.o,aC (by simp[HSl.o]),aC HQ7.o⟩
       case measure=>simp[intOf];omega
      ·have hl0:=HLZ.o
       rw[aRc f d ho] at hl0
       cases hl0
       have hsg:jV f d S nn=Spn.rV nn.op nn.k nn.s (uA S nn):=by unfold jV;rw[if_neg (by omega),if_neg (by omega),if_neg (by omega)]
       have HS3:=aC HS2.o
       rw[hsg] at HS3
       have HRg:=aC fun l hl=>Cde.oD HO.o (j:=l) hl
       have HSg:=aC fun l hl=>aB0 (S:=S) (n:=nn) (k:=l) hl
       have HA3:=aC (Cde.lQ nn)
       have HAb:=aC fun l (h:l < 3)=>Cde.rD nn l h
       have HLl:=aC (yV S nn)
       have HPO:=aC fun w=>Cde.rW nn w
       generalize uA S nn=LL at *
       generalize dG nn=ar at *
       obtain⟨n0',n1',n2',n3',n4',n5'⟩:=aJ HN4.o
       have HN3':=aC HN3.o
       obtain⟨m0',m1',m2',m3',m4',m5'⟩:=aJ HN3.o
       have zN:=HN3.o.lt
       clear hsg ho HS2 HO HLZ HQ3
       go_wp2_with fail
       clear n0' n1' n2' n3' n4' n5' m0' m1' m2' m3' m4' m5'
       refine(HPO.o _).mono ?_
       rintro e V5 ⟨g1,rfl,-,hG,hb⟩
       have HG:=aC hG
       have HQ5:=aC (HQ4.o.later hb)
       have HN5:=aC (HN4.o.below hb)
       have HSp5:=aC (HSp4.o.later hb)
       have HP5:=aC (HP4.o.below hb)
       clear hG hb HQ4 HN4 HSp4 HP4 HPO HN3 HN3'
       go_wp2_with fail
       go_loopw [10,12] (fun u iv wr=>∃ l:Nat,l<=ar/\iv=.int .i64 l/\Hid (Spn.Es V5 wr u l (LL.take l))) (fun _ iv _=>ar-(intOf iv).toNat)
       case atStart=>exact⟨0,Nat.zero_le _,rfl,aC (Spn.Es.start V5)⟩
       case round =>
        obtain⟨l,hl,rfl,HE⟩:=hrel
        rename World=>V6
        by_cases hll:l < ar
        ·have h33:l < 3:=by have:=HA3.o;omega
         have cp:=(HG.o.below HE.o.bel).cell l (Cde.dS (abc nn) l (by simp[abc];omega))
         rw[HAb.o l h33] at cp
         obtain⟨p0,p1⟩:=HRg.o l hll
         have HT:=aC (HSg.o l hll)
         obtain⟨q,hq⟩:∃ q:Nat,Cde.jS nn l=(q:Int):=⟨(Cde.jS nn l).toNat,by omega⟩
         rw[hq] at cp p1 HT
         simp only[Int.toNat_natCast] at p1 HT
         have hSl:=HSl.o
         obtain⟨b,bo,rfl,-,hcs⟩:=(HSp5.o.later HE.o.bel).at (by omega)
         obtain⟨s0,s1⟩:=hcs q (by omega)
         generalize S.getD q (0,0)=sv at *
         obtain⟨x1,x2⟩:=sv
         simp only at s0 s1
         have j0:(0:Int)<=l:=by omega
         have j1:(l:Int) < ar:=by omega
         have j2:(l:Int) < 3:=by omega
         have u0:(0:Int)<=q:=by omega
         have u1:(q:Int) < S.length:=by omega
         clear hcs p0 p1 hq hSl
         go_wp2_with (at_builtin;refine Spn.xO (w:=V5) (L:=LL.take l) rfl _ _ rfl rfl (HE.o.alloc _) _ x1 x2 rfl (Spn.aI.new _ _ _) (by omega) ?_;intro g2 cap2 w2 HE2 hsz2)
         go_roundw
         case rel=>exact⟨l+1,by omega,by go_num,aC (by rw[HT.o];exact HE2)⟩
         case measure=>simp[intOf];omega
        ·obtain rfl:l=ar:=by omega
         have e:LL.take l=LL:=List.take_of_length_le (by rw[HLl.o];exact Nat.le_refl _)
         have HE1:=HE.o
         rw[e] at HE1
         obtain⟨ua,uc,rfl,hA⟩:=Spn.Spans.of_owns HE1.a HLl.o
         have HOf:=aC (Spn.aM8 nn.op nn.k nn.s _ _ _ _ _ hA)
         have HQ6:=aC (HQ5.o.later HE1.bel)
         have HN6:=aC (HN5.o.below HE1.bel)
         have HP6:=aC (HP5.o.below HE1.bel)
         obtain⟨x0,-,-,-,x4,x5⟩:=aJ HN6.o
         obtain⟨⟨⟨lo,hi⟩,er⟩,hZ⟩:∃ Z,Spn.rV nn.op nn.k nn.s LL=Z:=⟨_,rfl⟩
         rw[hZ] at HOf HS3
         clear hZ hA e HE HE1 HSp5 HQ5 HN5 HP5 HRg HSg HAb
         go_wp2_with fail
         refine HOf.o.mono ?_
         rintro e V7 ⟨rfl,hb⟩
         have HQ7:=aC (HQ6.o.later hb)
         have HP7:=aC (HP6.o.below hb)
         clear hb x0 x4 x5 HOf HQ6 HP6 HN6
         by_cases he:er=0
         ·subst he
          rw[if_pos rfl] at HS3
          obtain⟨s0,s1,s2,s3⟩:=bB HP7.o
          have zP:=HP7.o.lt
          have HP8:=aC ((set2 HP7.o (.int .i64 lo) (.int .i64 hi)).alloc (.cells #[.int .i64 lo,.int .i64 hi] 81))
          have HQ8:=aC (((HQ7.o.kept (B:=V3.heap.size) HBp.o HVp.o (aH1 V7 ⟨V3.heap.size,0,none⟩ (.int .i64 lo)) (fun r e=>by cases e;exact Nat.le_refl _)).kept (B:=V3.heap.size) HBp.o HVp.o (aH1 _ ⟨V3.heap.size,1,none⟩ (.int .i64 hi)) (fun r e=>by cases e;exact Nat.le_refl _)).later (aH _ (.cells #[.int .i64 lo,.int .i64 hi] 81)))
          have hlt8:=aL ((V7.setCell ⟨V3.heap.size,0,none⟩ (.int .i64 lo)).setCell ⟨V3.heap.size,1,none⟩ (.int .i64 hi)) (.cells #[.int .i64 lo,.int .i64 hi] 81) 81 #[.int .i64 lo,.int .i64 hi]
          rw[World.size_setCell,World.size_setCell] at hlt8
          have HLt:=aC hlt8
          have HQ9:=aC (HQ8.o.later (aH _ (.cells #[.int .i64 lo,.int .i64 hi] 81)))
          obtain⟨t0,t1,-,-⟩:=bB HP8.o
          clear hlt8 HSt
          go_wp2_with (at_builtin;go_loud (refine aAy (L:=S) rfl _ _ rfl rfl HQ9.o.S HQ9.o.bel.size _ lo hi rfl HLt.o (by have:=HSl.o;omega) ?_;intro g2 cap2 V8 hown hgrow;have HQa:=aC (HQ9.o.grow hown hgrow)))
          go_roundw
          case rel=>exact⟨j+1,S++[(lo,hi)],by omega,by go_num,aC HS3.o,aC (by simp[HSl.o]),aC HQa.o⟩
          case measure=>simp[intOf];omega
         ·rw[if_neg he] at HS3
          have HF:=aC (HSt.o _ HS3.o he)
          have HE2:Hid (bL f d L out=er):=aC (by rw[aFg HZ.o (by rw[HF.o];exact he),HF.o])
          have HN:=aC he
          have he2:(er != 0)=true:=by simpa using he
          obtain⟨r0,r1,r2,r3,r4,r5⟩:=kT HQ7.o.R
          have zR:=HQ7.o.R.lt
          obtain⟨hp,hpb⟩:=gH HQ7.o.R HQ7.o.bel (by omega) (.slice none 0 0) (.int .i64 0) (.int .i64 0)
          have P0:=aC (hp.alloc (.cells #[.int .i64 lo,.int .i64 hi] 81))
          have PB:=aC (bel hpb (aH _ (.cells #[.int .i64 lo,.int .i64 hi] 81)))
          clear hp hpb he HS3 HSt HF
          go_wp2_with fail
          have p0:=P0.o.cell 0 rfl
          have p1:=P0.o.cell 1 rfl
          have p2:=P0.o.cell 2 rfl
          exact bodyPost_ret (v:=.tuple #[.agg oU,.int .i64 er]) (by simp[results,Tryz.results25,go_sem,p0,p1,p2]) rfl (xL.no HE2.o HN.o PB.o)
     ·obtain rfl:j=k:=by omega
      have hD:=HS.o
      rw[List.take_of_length_le (by rw[HLn.o];exact Nat.le_refl _)] at hD
      have HX:=aC hD
      have h00:(gN f d L).1=0:=by rw[hD]
      clear hD HS
      go_wp2_with fail
      refine(HCo.o _ (HLI.o.later HQ.o.bel)).mono ?_
      rintro e V3 ⟨rfl,hb⟩
      obtain⟨co,hco⟩:∃ co,eP L=co:=⟨_,rfl⟩
      rw[hco]
      have HK:=aC hco
      have HQ3:=aC (HQ.o.later hb)
      clear hb hco c0 c1 c2 c3 HQ HSp
      obtain⟨r0,r1,r2,r3,r4,r5⟩:=kT HQ3.o.R
      by_cases hc:200 < co
      ·have HE:=aC (aEr HZ.o h00 (by rw[HK.o];exact hc))
       have hc2:decide (200 < co)=true:=by simpa using hc
       obtain⟨hp,hpb⟩:=gH HQ3.o.R HQ3.o.bel (by omega) (.slice none 0 0) (.int .i64 0) (.int .i64 0)
       have P0:=aC hp
       have PB:=aC hpb
       clear hp hpb h00 hc
       go_wp2_with fail
       have p0:=P0.o.cell 0 rfl
       have p1:=P0.o.cell 1 rfl
       have p2:=P0.o.cell 2 rfl
       exact bodyPost_ret (v:=.tuple #[.agg oU,.int .i64 14]) (by simp[results,Tryz.results25,go_sem,p0,p1,p2]) rfl (xL.no HE.o (by decide) PB.o)
      ·have HE:=aC (aN9 HZ.o h00 (by rw[HK.o];exact hc))
       have hc2:decide (200 < co)=false:=by simpa using hc
       obtain⟨hp,hpb⟩:=gH HQ3.o.R HQ3.o.bel (by omega) (.slice va S.length vc) (.int .i64 co) (.int .i64 0)
       have P0:=aC hp
       have PB:=aC hpb
       have PS:=aC (aIl HQ3.o.S HQ3.o.R (by decide) (.slice va S.length vc) (.int .i64 co) (.int .i64 0))
       clear hp hpb h00 hc
       go_wp2_with fail
       have p0:=P0.o.cell 0 rfl
       have p1:=P0.o.cell 1 rfl
       have p2:=P0.o.cell 2 rfl
       exact bodyPost_ret (v:=.tuple #[.agg #[.slice va S.length vc,.int .i64 co,.int .i64 0],.int .i64 0]) (by simp[results,Tryz.results25,go_sem,p0,p1,p2]) rfl (xL.list HE.o HX.o rfl HK.o PB.o rfl PS.o)
end Go.Proofs.Vfy
