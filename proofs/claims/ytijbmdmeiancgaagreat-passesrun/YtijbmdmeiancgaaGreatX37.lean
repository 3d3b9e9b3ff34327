import Derived.Test.YtijbmdmeiancgaaGreatXH
import Derived.Test.YtijbmdmeiancgaaGreatX36
import Derived.Test.YtijbmdmeiancgaaGreatX18
set_option maxRecDepth 100000
set_option maxHeartbeats 32000000
set_option linter.unusedVariables false
namespace Go.Proofs.Prn
open Go.RowKit Go.IntWalk Knd
open Cde (In i0 ia kd cd Ins kM aJ aG bB aL bJ eO aD bG i6 zA dS aM dP dG abc jS jG Ls)
open Rdc (gY own_ne aU eQ)
def Rn (A0 A:List Int)(b:Bool):Prop:=(b=false->A=A0)/\(b=true->zrN A < zrN A0)
theorem Rn.start (A:List Int):Rn A A false:=⟨fun _=>rfl,(fun h=>by cases h)⟩
theorem Rn.mark {A0 A:List Int}{b:Bool}{p:Nat}(h:Rn A0 A b)(hp:p < A.length)(h0:A.getD p 0=0):Rn A0 (A.set p 1) true:=by
 refine⟨(fun h=>by cases h),fun _=>?_⟩
 have:=aK0 A p hp h0
 cases b with
 | false=>rw[h.1 rfl] at this ⊢;omega
 | true=>have:=h.2 rfl;omega
def Ci (L:List In)(A0:List Int)(b:Bool)(i:Nat):Prop:=b=false->Cl L A0 i
def Cq (m:In)(A0:List Int)(b:Bool)(i q:Nat):Prop:=b=false->A0.getD i 0=1->∀ r ∈ (dP m).take q,A0.getD r.toNat 0=1
theorem Ci.succ {L:List In}{A0:List Int}{b b':Bool}{i:Nat}{m:In}(h:Ci L A0 b i)(hb:b'=false->b=false)(hm:L.getD i i0=m)(hq:Cq m A0 b' i (dG m)):Ci L A0 b' (i+1):=by
 intro h0 j hj h1 r hr
 by_cases e:j=i
 ·subst e
  rw[hm] at hr
  exact hq h0 h1 r (by rw[Cde.aAr];exact hr)
 ·exact h (hb h0) j (by omega) h1 r hr
def mkL (A:List Int)(k:Nat):List Int:=((List.range k).filter fun i=>decide (A.getD i 0=1)).map fun i:Nat=>(i:Int)
theorem aLm {A:List Int}{k:Nat}(h:A.getD k 0=1):mkL A (k+1)=mkL A k++[(k:Int)]:=by
 unfold mkL
 rw[List.range_succ,List.filter_append,List.filter_cons_of_pos (by simpa using h),List.map_append]
 rfl
theorem aO2 {A:List Int}{k:Nat}(h:A.getD k 0≠1):mkL A (k+1)=mkL A k:=by
 unfold mkL
 rw[List.range_succ,List.filter_append,List.filter_cons_of_neg (by simpa using h)]
 simp
theorem aLc (A:List Int)(k:Nat):(mkL A k).length<=k:=by
 unfold mkL
 rw[List.length_map]
 refine Nat.le_trans (List.length_filter_le _ _) ?_
 simp
structure Mq (W V:World)(cv:Array Value)(g:Nat)(A:List Int):Prop where
 c:aI V W.heap.size 26 cv
 m:aI V g 3 (zA A)
 lo:Below W.heap.size W V
 g0:W.heap.size < g
theorem Mq.below {W V V':World}{cv:Array Value}{g:Nat}{A:List Int}(h:Mq W V cv g A)(hb:Below V.heap.size V V'):Mq W V' cv g A:=⟨h.c.below hb,h.m.below hb,bel h.lo hb,h.g0⟩
theorem Mq.mark {W V:World}{cv:Array Value}{g:Nat}{A:List Int}(h:Mq W V cv g A)(p:Nat):Mq W (V.setCell ⟨g,p,none⟩ (.int .i64 1)) cv g (A.set p 1) :=
 ⟨h.c.other (p:=⟨g,p,none⟩) (by have:=h.g0;simp;omega) _,Cde.aKu h.m 1,h.lo.setCell (p:=⟨g,p,none⟩) (by have:=h.g0;simp;omega) _,h.g0⟩
theorem aHb (f d out:Int){a:Option Addr}{n cap:Nat}{L:List In}{W:World}(hL:Ins W a n cap L) :
  Calls Tryz.prog 62 #[.agg (cd f d a n cap out)] W fun e W'=>∃ a' c',e=.returned (.slice a' (liZ f d L out).length c')/\W'.ownsRow W.heap.size 3 1 (.slice a' (liZ f d L out).length c') (liZ f d L out).length (bY (liZ f d L out))/\Below W.heap.size W W':=by
 have hb1:=aH W (.cells (cd f d a n cap out) 26)
 have HC0:=aC (aI.new W 26 (cd f d a n cap out))
 have HB0:=aC hb1
 have HCk:=aC (Cde.aB5 f d out (hL.later hb1))
 have HLI:=aC hL
 have HLn:=aC hL.len
 clear hb1
 cases hm:jG f d L out
 ·rw[hm] at HCk
  rw[show liZ f d L out=[] from if_neg (by rw[hm];decide)]
  clear hm hL
  go_enter Tryz.func62,Tryz.ntmps62
  go_wp2_with fail
  refine HCk.o.mono ?_
  rintro e V1 ⟨rfl,hb⟩
  have HB1:=aC (bel HB0.o hb)
  clear hb
  go_wp2_with fail
  go_ret
  exact⟨none,0,rfl,⟨rfl,.inl ⟨rfl,rfl⟩⟩,HB1.o⟩
 ·rw[hm] at HCk
  have HP:=aC (vC hm)
  obtain⟨-,m1,m2,o1,o2,hok⟩:=Cde.bD hm
  rw[show liZ f d L out=xB L out from if_pos hm]
  obtain⟨Z,hZ⟩:∃ Z,xB L out=Z:=⟨_,rfl⟩
  obtain⟨dl,hdl⟩:∃ dl,Z.length=dl:=⟨_,rfl⟩
  rw[hZ,hdl]
  have HZ:=aC hZ
  have HDz:=aC hdl
  clear hZ hdl
  rw[HLn.o] at m1 m2 o2 hok
  obtain⟨o,rfl⟩:∃ o:Nat,out=o:=⟨out.toNat,by omega⟩
  have HOk:=aC hok
  have hmk:=Cde.aDg n (by omega)
  have hM0:=Mi.start (L:=L) (out:=(o:Int)) HP.o.o1
  rw[HLn.o] at hM0
  simp only[Int.toNat_natCast] at hM0
  have HM0:=aC hM0
  have hon:o < n:=by omega
  obtain⟨b,off,rfl,-,-⟩:=hL.at (by omega)
  clear hm hok hL hM0
  go_enter Tryz.func62,Tryz.ntmps62
  go_wp2_with fail
  refine HCk.o.mono ?_
  rintro e V1 ⟨rfl,hb⟩
  have HC1:=aC (HC0.o.below hb)
  have HB1:=aC (bel HB0.o hb)
  obtain⟨c0,c1,c2,c3⟩:=aG HC1.o
  have hg0:=HC1.o.lt
  have HL2:Hid (Mq W (V1.alloc (.cells (zA (List.replicate n 0)) 3)) (cd f d (some ⟨b,off,none⟩) n cap (o:Int)) V1.heap.size (List.replicate n 0)):=aC ⟨HC1.o.alloc _,aI.new V1 3 _,bel HB1.o (aH V1 _),hg0⟩
  clear hb HC0 HB0 HCk
  go_upto_region 4 with fail
  generalize V1.heap.size=g at *
  obtain⟨V2,hV2⟩:∃ V2,V1.alloc (.cells (zA (List.replicate n 0)) 3)=V2:=⟨_,rfl⟩
  rw[hV2] at HL2 ⊢
  clear HC1 HB1 c0 c1 c2 c3 hmk hV2
  obtain⟨c0,c1,c2,c3⟩:=aG HL2.o.c
  have d0:=HL2.o.m.cell o (dS _ o (by simpa using hon))
  have y0:=HL2.o.m.frozen o
  have HL3:=aC (HL2.o.mark o)
  have t0:(0:Int)<=o:=by omega
  have t1:(o:Int) < n:=by omega
  generalize (List.replicate n (0:Int)).getD o 0=x0 at d0
  generalize (List.replicate n (0:Int)).set o 1=A1 at *
  go_wp2_with fail
  clear HL2 d0 y0 c0 c1 c2 c3
  go_loopg [4] (2*n+1) (fun gh mv wr=>∃(A:List Int) (mb:Bool),mv=.bool mb/\2*zrN A+(if mb=true then 1 else 0)<=gh/\Hid (Mi L (o:Int) A)/\Hid (mb=false->Cl L A n)/\Hid (Mq W wr (cd f d (some ⟨b,off,none⟩) n cap (o:Int)) g A))
  case atStart=>exact⟨A1,true,rfl,by have h1:=aQy A1;have h2:=HM0.o.len;rw[HLn.o] at h2;simp;omega,HM0,aC (fun h=>by cases h),HL3⟩
  case round =>
   obtain⟨A0,mb,rfl,hgh,HM,HCl,HL⟩:=hrel
   rename World=>V
   clear HL3 HM0
   cases mb with
   | true =>
    simp only[if_true] at hgh
    have HGh:=aC hgh
    clear hgh
    go_wp2_with fail
    go_loopw [4,5] (fun mv iv wr=>∃(i:Nat) (A:List Int) (mb:Bool),i<=n/\iv=.int .i64 i/\mv=.bool mb/\Hid (Mi L (o:Int) A)/\Hid (Rn A0 A mb)/\Hid (Ci L A0 mb i)/\Hid (Mq W wr (cd f d (some ⟨b,off,none⟩) n cap (o:Int)) g A)) (fun _ iv _=>n-(intOf iv).toNat)
    case atStart=>exact⟨0,A0,false,Nat.zero_le _,rfl,rfl,HM,aC (Rn.start A0),aC (fun _ j hj=>absurd hj (by omega)),HL⟩
    case round =>
     obtain⟨i,A,mb,hi,rfl,rfl,HM1,HR1,HC1,HL1⟩:=hrel
     rename World=>V1
     obtain⟨x0,x1,x2,x3⟩:=aG HL1.o.c
     by_cases hlt:i < n
     ·obtain⟨e0,e1,e2,e3,e4,e5⟩:=oJ (HLI.o.later HL1.o.lo) i hlt
      have hOk:=Cde.bW HOk.o hlt
      generalize hmm:L.getD i i0=m at *
      have HMm:=aC hmm
      have HR:=aC fun q hq=>Cde.oD hOk (j:=q) hq
      have hr3:=Cde.lQ m
      have HA:=aC fun w=>Cde.rW m w
      have HT:=aC fun q (h:q < dG m)=>Cde.uZ m h
      have HMem:Hid (∀ q,q < dG m->jS m q ∈ dP m):=aC fun q h=>by
       have:=List.mem_of_mem_take (show jS m q ∈ (dP m).take (q+1) by rw[Cde.uZ m h];simp)
       exact this
      have HRg:Hid (∀ q,q < 3->(zA (abc m))[q]?=some (.int .i64 (jS m q))):=aC fun q h=>by rw[dS _ q (by simp[abc];omega),Cde.rD m q h]
      generalize har:dG m=r at *
      have HAr:=aC har
      have s0:(0:Int)<=i:=by omega
      have s1:(i:Int) < n:=by omega
      clear hOk hmm har
      go_wp2_with fail
      refine(HA.o _).mono ?_
      rintro e V6 ⟨ga,rfl,hga,hGa,hb⟩
      have HL7:=aC (HL1.o.below hb)
      have HR6:=aC hGa
      have hne:g≠ga:=Nat.ne_of_lt (Nat.lt_of_lt_of_le HL1.o.m.lt hga)
      clear hb hGa hga HL1 HA e0 e1 e2 e3 e4 e5 x0 x1 x2 x3
      go_wp2_with fail
      go_loopw [4,7] (fun mv kv wr=>∃(q:Nat) (A':List Int) (mb':Bool),q<=r/\kv=.int .i64 q/\mv=.bool mb'/\Hid (Mi L (o:Int) A')/\Hid (Rn A0 A' mb')/\Hid (mb'=false->mb=false)/\Hid (Cq m A0 mb' i q)/\Hid (aI wr ga 3 (zA (abc m)))/\Hid (Mq W wr (cd f d (some ⟨b,off,none⟩) n cap (o:Int)) g A')) (fun _ kv _=>r-(intOf kv).toNat)
      case atStart=>exact⟨0,A,mb,Nat.zero_le _,rfl,rfl,HM1,HR1,aC fun h=>h,aC (fun _ _ r hr=>by simp at hr),HR6,HL7⟩
      case round =>
       obtain⟨q,A',mb',hq,rfl,rfl,HM2,HR2,HB2,HQ2,HG2,HL8⟩:=hrel
       rename World=>V7
       by_cases hqr:q < r
       ·have cp:=HG2.o.cell q (HRg.o q (by omega))
        obtain⟨p0,p1⟩:=HR.o q hqr
        have hAl:=HM2.o.len
        rw[HLn.o] at hAl
        obtain⟨p,hp⟩:∃ p:Nat,jS m q=(p:Int):=⟨(jS m q).toNat,by omega⟩
        have hmem:=HMem.o q hqr
        have hts:=HT.o q hqr
        rw[hp] at cp p1 hmem hts
        simp only[Int.toNat_natCast] at p1
        have di:=HL8.o.m.cell i (dS _ i (by omega))
        have dp:=HL8.o.m.cell p (dS _ p (by omega))
        have yp:=HL8.o.m.frozen p
        have hbi:=HM2.o.bit i
        have hbp:=HM2.o.bit p
        obtain⟨xi,hxi⟩:∃ x,A'.getD i 0=x:=⟨_,rfl⟩
        obtain⟨xp,hxp⟩:∃ x,A'.getD p 0=x:=⟨_,rfl⟩
        rw[hxi] at di hbi
        rw[hxp] at dp hbp
        have k0:(0:Int)<=q:=by omega
        have k1:(q:Int) < r:=by omega
        have k2:(q:Int) < 3:=by omega
        have k3:(0:Int)<=p:=by omega
        have k4:(p:Int) < n:=by omega
        have HNext:Hid (∀ mb2:Bool,(mb2=false->mb'=false)->(mb2=false->A0.getD i 0=1->A0.getD p 0=1)->Cq m A0 mb2 i (q+1)):=aC fun mb2 h1 h2 h3 h4 x hx=>by
         rw[hts] at hx
         rcases List.mem_append.1 hx with hx|hx
         ·exact HQ2.o (h1 h3) h4 x hx
         ·rw[List.mem_singleton] at hx;subst hx;exact h2 h3 h4
        rcases hbi with rfl|rfl
        ·have HQ3:=aC (HNext.o mb' (fun h=>h) fun h3 h4=>by rw[HR2.o.1 h3] at hxi;omega)
         clear hts hmem hp p0 p1 HNext hxi hxp hbp
         go_wp2_with fail
         go_roundw
         case rel=>exact⟨q+1,A',mb',by omega,by go_num,rfl,HM2,HR2,HB2,HQ3,HG2,HL8⟩
         case measure=>(simp[intOf];try omega)
        ·rcases hbp with rfl|rfl
         ·have HM3:=aC (HM2.o.set (r:=(p:Int)) hxi (by rw[HMm.o];exact hmem))
          have HR3:=aC (HR2.o.mark (p:=p) (by omega) hxp)
          have HQ3:Hid (Cq m A0 true i (q+1)):=aC fun h=>by cases h
          have HL9:=aC (HL8.o.mark p)
          have HG3:=aC (HG2.o.other (p:=⟨g,p,none⟩) (by simp;omega) (.int .i64 1))
          have HB3:Hid (true=false->mb=false):=aC fun h=>by cases h
          simp only[Int.toNat_natCast] at HM3
          clear hts hmem hp p0 p1 HNext hxi hxp
          go_wp2_with fail
          go_roundw
          case rel=>exact⟨q+1,A'.set p 1,true,by omega,by go_num,rfl,HM3,HR3,HB3,HQ3,HG3,HL9⟩
          case measure=>(simp[intOf];try omega)
         ·have HQ3:=aC (HNext.o mb' (fun h=>h) fun h3 h4=>by rw[HR2.o.1 h3] at hxp;exact hxp)
          clear hts hmem hp p0 p1 HNext hxi hxp
          go_wp2_with fail
          go_roundw
          case rel=>exact⟨q+1,A',mb',by omega,by go_num,rfl,HM2,HR2,HB2,HQ3,HG2,HL8⟩
          case measure=>(simp[intOf];try omega)
       ·obtain rfl:q=r:=by omega
        have HC3:=aC (HC1.o.succ HB2.o HMm.o (by rw[HAr.o];exact HQ2.o))
        go_wp2_with fail
        go_roundw
        case rel=>exact⟨i+1,A',mb',by omega,by go_num,rfl,HM2,HR2,HC3,HL8⟩
        case measure=>(simp[intOf];try omega)
     ·obtain rfl:i=n:=by omega
      have HC2:Hid (mb=false->Cl L A i):=aC fun h=>by rw[HR1.o.1 h];exact HC1.o h
      have HNg:Hid (2*zrN A+(if mb=true then 1 else 0) < gk):=aC (by
       have h1:=HGh.o
       cases mb with
       | false=>rw[HR1.o.1 rfl];simp;omega
       | true=>have:=HR1.o.2 rfl;simp;omega)
      go_wp2_with fail
      go_roundg (2*zrN A+(if mb=true then 1 else 0))
      case measure=>exact HNg.o
      case rel=>exact⟨A,mb,rfl,Nat.le_refl _,HM1,HC2,HL1⟩
   | false =>
    have HCn:=aC (HCl.o rfl)
    have hlive:=HM.o.live HP.o (by rw[HLn.o];exact HCn.o)
    have hAl:=HM.o.len
    rw[HLn.o] at hAl hlive
    have HFin:Hid (mkL A0 n=Z):=aC (by unfold mkL;rw[hlive,<-HZ.o];rfl)
    have HAl:=aC hAl
    have HLs0:=aC (Ls.start V)
    clear hgh hlive hAl HCl HCn
    go_wp2_with fail
    go_loopw [8,9] (fun lv iv wr=>∃(k:Nat),k<=n/\iv=.int .i64 k/\Hid (Ls V wr lv (mkL A0 k))) (fun _ iv _=>n-(intOf iv).toNat)
    case atStart=>exact⟨0,Nat.zero_le _,rfl,HLs0⟩
    case round =>
     obtain⟨k,hk,rfl,HLs⟩:=hrel
     rename World=>V7
     rename Value=>lv
     by_cases hlt:k < n
     ·have dk:=(HL.o.m.below HLs.o.bel).cell k (dS _ k (by rw[HAl.o];exact hlt))
      have hbk:=HM.o.bit k
      obtain⟨xk,hxk⟩:∃ x,A0.getD k 0=x:=⟨_,rfl⟩
      rw[hxk] at dk hbk
      have k3:(0:Int)<=k:=by omega
      have k4:(k:Int) < n:=by omega
      rcases hbk with rfl|rfl
      ·have HE:=aC (aO2 (A:=A0) (k:=k) (by omega))
       clear hxk
       go_wp2_with fail
       go_roundw
       case rel=>exact⟨k+1,by omega,by go_num,aC (by rw[HE.o];exact HLs.o)⟩
       case measure=>(simp[intOf];try omega)
      ·have HE:=aC (aLm hxk)
       have hml:=aLc A0 k
       have HN:=aC (aI.new V7 3 #[.int .i64 (k:Int)])
       have HLs2:=aC (HLs.o.alloc (.cells #[.int .i64 (k:Int)] 3))
       clear hxk
       go_wp2_with (at_builtin;refine Cde.aL4 (w:=V) (L:=mkL A0 k) rfl _ _ rfl rfl HLs2.o _ (k:Int) rfl HN.o (by omega) ?_;intro g2 cap2 w2 HE2)
       have HLs3:=aC HE2
       rw[<-HE.o] at HLs3
       go_wp2_with fail
       go_roundw
       case rel=>exact⟨k+1,by omega,by go_num,HLs3⟩
       case measure=>(simp[intOf];try omega)
     ·obtain rfl:k=n:=by omega
      have hO:=HLs.o.a
      rw[HFin.o,HDz.o] at hO
      obtain⟨a',c',e',-,-⟩:=Ints.of_owns hO
      subst e'
      have HO:=aC (Cde.aW hO HL.o.lo.size)
      have HB:=aC (bel HL.o.lo HLs.o.bel)
      clear hO HLs
      go_wp2_with fail
      go_ret
      exact⟨_,_,rfl,HO.o,HB.o⟩
end Go.Proofs.Prn
