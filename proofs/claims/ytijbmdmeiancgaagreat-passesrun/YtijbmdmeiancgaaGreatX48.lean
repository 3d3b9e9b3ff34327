import Derived.Test.YtijbmdmeiancgaaGreatXH
import Derived.Test.YtijbmdmeiancgaaGreatX38
import Derived.Test.YtijbmdmeiancgaaGreatX41
import Derived.Test.YtijbmdmeiancgaaGreatX42
import Derived.Test.YtijbmdmeiancgaaGreatX46
import Derived.Test.YtijbmdmeiancgaaGreatX47
set_option maxRecDepth 100000
set_option maxHeartbeats 32000000
set_option linter.unusedVariables false
namespace Go.Proofs.Pss
open Go.RowKit Go.IntWalk Knd
open Cde (In i0 ia kd cd Ins bG bB aG aL)
open Rdc (gY own_ne bM s4 bC dB)
open Prn (Fg mK)
open Vfy (bL kN kK pR)
variable {V W:World} {bo c cap m n:Nat} {a:Option Addr} {I L:List In} {d f u:Int} {P:List Int}
def RdP (w:World)(f d:Int)(L:List In)(out:Int)(P:List Int)(e:Ending)(W':World):Prop :=
 ∃ a c,e=.returned (.tuple #[.agg (cd (rnK f d L out P f) (rnK f d L out P d) a (tT f d L out P).length c (rnU f d L out P)),.int .i64 (wF f d L out P)])/\Ins W' a (tT f d L out P).length c (tT f d L out P)/\(P≠[]->W'.ownsRow w.heap.size 57 6 (.slice a (tT f d L out P).length c) (tT f d L out P).length (bG (tT f d L out P)))/\Below w.heap.size w W'
theorem lF {lo:Nat}(h:V.ownsRow lo 57 6 (.slice a n c) n (bG I)):Ins V a n c I:=by
 obtain⟨a',c',e1,hI,-⟩:=Ins.of_owns h
 cases e1
 exact hI
theorem RdP.no {w W':World}{f d:Int}{L:List In}{out:Int}{P:List Int}{er:Int}(h:wF f d L out P=er)(h0:er≠0)(hb:Below w.heap.size w W'):RdP w f d L out P (.returned (.tuple #[.agg bM,.int .i64 er])) W':=by
 obtain⟨a,c,e,hO,hb⟩:=RnP.no (L:=L) (out:=out) (f:=f) (d:=d) (P:=P) h h0 hb
 exact⟨a,c,e,lF hO,fun _=>hO,hb⟩
theorem RdP.row {w W':World}{out:Int}(h:wF f d L out P=0)(hI:psF f d P (L,out)=(I,u))(hO:Ins W' a n c I)(hw:P≠[]->W'.ownsRow w.heap.size 57 6 (.slice a n c) n (bG I))(hb:Below w.heap.size w W'):RdP w f d L out P (.returned (.tuple #[.agg (cd f d a n c u),.int .i64 0])) W':=by
 have hn:=hO.len
 subst hn
 refine⟨a,c,?_,?_,?_,hb⟩
 ·simp[rnK,tT,rnU,h,hI]
 ·rw[tT,if_pos h,hI];exact hO
 ·rw[tT,if_pos h,hI];exact hw
theorem aPv (f d out:Int)(hL:Ins W a n cap L)(h:bL f d L out=0)(hI:wJ f d (L,out) 1=(I,u))(hm:I.length=m) :
  Calls Tryz.prog 26 #[.agg (cd f d a n cap out)] W fun e W'=>∃ a' c',e=.returned (.tuple #[.agg (cd f d a' m c' u),.int .i64 0])/\W'.ownsRow W.heap.size 57 6 (.slice a' m c') m (bG I)/\Below W.heap.size W W':=by
 subst hm
 have h1:=congrArg Prod.fst hI
 have h2:=congrArg Prod.snd hI
 dsimp only at h1 h2
 subst h1 h2
 refine(Fld.aGq f d out hL).mono ?_
 rintro e W' ⟨a',c',rfl,hO,hb⟩
 have e0:wJ f d (L,out) 1=(Fld.zC f d L out,Fld.xJ f d L out):=by simp[wJ]
 rw[e0]
 have e1:Fld.jT f d L out=Fld.zC f d L out:=by rw[Fld.jT,if_pos h]
 rw[e1] at hO
 exact⟨a',c',by rw[e1];simp[Fld.rJ,Fld.uK,h],hO,hb⟩
theorem aQf (f d out:Int)(hL:Ins W a n cap L)(h:bL f d L out=0)(hI:wJ f d (L,out) 2=(I,u))(hm:I.length=m) :
  Calls Tryz.prog 27 #[.agg (cd f d a n cap out)] W fun e W'=>∃ a' c',e=.returned (.tuple #[.agg (cd f d a' m c' u),.int .i64 0])/\W'.ownsRow W.heap.size 57 6 (.slice a' m c') m (bG I)/\Below W.heap.size W W':=by
 subst hm
 have h1:=congrArg Prod.fst hI
 have h2:=congrArg Prod.snd hI
 dsimp only at h1 h2
 subst h1 h2
 refine(Shr.aDc f d out hL).mono ?_
 rintro e W' ⟨a',c',rfl,hO,hb⟩
 have e0:wJ f d (L,out) 2=(Shr.yU f d L out,Shr.xP f d L out):=by simp[wJ]
 rw[e0]
 have e1:Shr.jT f d L out=Shr.yU f d L out:=by rw[Shr.jT,if_pos h]
 rw[e1] at hO
 exact⟨a',c',by rw[e1];simp[Shr.rJ,Shr.uK,h],hO,hb⟩
theorem aOu (f d out:Int)(hL:Ins W a n cap L)(h:bL f d L out=0)(hI:wJ f d (L,out) 3=(I,u))(hm:I.length=m) :
  Calls Tryz.prog 28 #[.agg (cd f d a n cap out)] W fun e W'=>∃ a' c',e=.returned (.tuple #[.agg (cd f d a' m c' u),.int .i64 0])/\W'.ownsRow W.heap.size 57 6 (.slice a' m c') m (bG I)/\Below W.heap.size W W':=by
 subst hm
 have h1:=congrArg Prod.fst hI
 have h2:=congrArg Prod.snd hI
 dsimp only at h1 h2
 subst h1 h2
 refine(Rdc.aAu f d out hL).mono ?_
 rintro e W' ⟨a',c',rfl,hO,hb⟩
 have e0:wJ f d (L,out) 3=(Rdc.qA f d L out,Rdc.sS f d L out):=by simp[wJ]
 rw[e0]
 have e1:Rdc.jT f d L out=Rdc.qA f d L out:=by rw[Rdc.jT,if_pos h]
 rw[e1] at hO
 exact⟨a',c',by rw[e1];simp[Rdc.rJ,Rdc.uK,h],hO,hb⟩
theorem aPt (f d out:Int)(hL:Ins W a n cap L)(h:bL f d L out=0)(hI:wJ f d (L,out) 4=(I,u))(hm:I.length=m) :
  Calls Tryz.prog 29 #[.agg (cd f d a n cap out)] W fun e W'=>∃ a' c',e=.returned (.tuple #[.agg (cd f d a' m c' u),.int .i64 0])/\W'.ownsRow W.heap.size 57 6 (.slice a' m c') m (bG I)/\Below W.heap.size W W':=by
 subst hm
 have h1:=congrArg Prod.fst hI
 have h2:=congrArg Prod.snd hI
 dsimp only at h1 h2
 subst h1 h2
 refine(Prn.aC9 f d out hL).mono ?_
 rintro e W' ⟨a',c',rfl,hO,hb⟩
 have e0:wJ f d (L,out) 4=(Prn.nQ L out,Prn.yH L out):=by simp[wJ]
 rw[e0]
 have e1:Prn.jT f d L out=Prn.nQ L out:=by rw[Prn.jT,if_pos h]
 rw[e1] at hO
 exact⟨a',c',by rw[e1];simp[Prn.rJ,Prn.uK,h],hO,hb⟩
theorem aJv {b o:Nat}(h:Ins V (some ⟨b,o,none⟩) n c I)(hne:b≠bo)(x y z u:Value):Ins (s4 V bo x y z u) (some ⟨b,o,none⟩) n c I:=by
 refine⟨h.len,h.le,h.max,h.nil,?_⟩
 rcases h.cell with h0|⟨b',o',e,hb,hc⟩
 ·exact .inl h0
 ·cases e
  refine .inr ⟨b,o,rfl,by simpa using hb,fun i hi j v hv=>?_⟩
  exact Rdc.jQ (Rdc.jQ (Rdc.jQ (Rdc.jQ (hc i hi j v hv) (p:=⟨bo,0,none⟩) hne x) (p:=⟨bo,1,none⟩) hne y) (p:=⟨bo,2,none⟩) hne z) (p:=⟨bo,3,none⟩) hne u
structure Rk (W V:World)(cv:Array Value)(bo:Nat)(f d:Int)(a:Option Addr)(m c:Nat)(I:List In)(u:Int)(z:Prop):Prop where
 b:Fg W V cv bM
 o:aI V bo 26 (cd f d a m c u)
 i:Ins V a m c I
 g:W.heap.size+1 < bo
 w:V.ownsRow W.heap.size 57 6 (.slice a m c) m (bG I)\/(z/\∃ b o,a=some ⟨b,o,none⟩/\b < W.heap.size)
theorem Rk.below {W V V':World}{cv:Array Value}{bo:Nat}{f d:Int}{a:Option Addr}{m c:Nat}{I:List In}{u:Int}{z:Prop}(h:Rk W V cv bo f d a m c I u z)(hb:Below V.heap.size V V'):Rk W V' cv bo f d a m c I u z:=⟨h.b.below hb,h.o.below hb,h.i.later hb,h.g,h.w.elim (fun h=>.inl (Cde.aS h hb)) .inr⟩
theorem Rk.put {cv:Array Value}{a':Option Addr}{m' c':Nat}{I':List In}{u':Int}{z z':Prop}(h:Rk W V cv bo f d a m c I u z)(hI:V.ownsRow W.heap.size 57 6 (.slice a' m' c') m' (bG I')) :
  Rk W (s4 V bo (.int .i64 f) (.int .i64 d) (.slice a' m' c') (.int .i64 u')) cv bo f d a' m' c' I' u' z':=by
 have hg:=h.g
 refine⟨⟨?_,?_,?_⟩,(((h.o.set 0 _).set 1 _).set 2 _).set 3 _,lF (dB hI (own_ne hI h.o (by decide)) _ _ _ _),hg,.inl (dB hI (own_ne hI h.o (by decide)) _ _ _ _)⟩
 ·exact(((h.b.c.other (p:=⟨bo,0,none⟩) (by simp;omega) _).other (p:=⟨bo,1,none⟩) (by simp;omega) _).other (p:=⟨bo,2,none⟩) (by simp;omega) _).other (p:=⟨bo,3,none⟩) (by simp;omega) _
 ·exact(((h.b.r.other (p:=⟨bo,0,none⟩) (by simp;omega) _).other (p:=⟨bo,1,none⟩) (by simp;omega) _).other (p:=⟨bo,2,none⟩) (by simp;omega) _).other (p:=⟨bo,3,none⟩) (by simp;omega) _
 ·exact(((h.b.lo.setCell (p:=⟨bo,0,none⟩) (by simp;omega) _).setCell (p:=⟨bo,1,none⟩) (by simp;omega) _).setCell (p:=⟨bo,2,none⟩) (by simp;omega) _).setCell (p:=⟨bo,3,none⟩) (by simp;omega) _
theorem aBw (f d out:Int){oa:Option Addr}{oc:Nat}(hL:Ins W a n cap L)(hP:Ints W oa m oc P) :
  Calls Tryz.prog 10 #[.agg (cd f d a n cap out),.slice oa m oc] W (RdP W f d L out P):=by
 have b1:=aH W (.cells (cd f d a n cap out) 26)
 have b2:=bel b1 (aH _ (.cells bM 26))
 have HF0:Hid (Fg W ((W.alloc (.cells (cd f d a n cap out) 26)).alloc (.cells bM 26)) (cd f d a n cap out) bM):=aC ⟨(aI.new W 26 (cd f d a n cap out)).alloc (.cells bM 26),aL W (.cells (cd f d a n cap out) 26) 26 bM,b2⟩
 have HLI:=aC hL
 have HLn:=aC hL.len
 have HPI:=aC hP
 have HPn:=aC hP.len
 clear b1 b2 hL hP
 by_cases h16:16 < m
 ·have j:(16:Int) < (m:Int):=by omega
  have hno:wF f d L out P=1:=by rw[wF,aBi (by rw[HPn.o];exact h16)];rfl
  have HNo:=aC hno
  clear hno
  go_enter Tryz.func10,Tryz.ntmps10
  go_upto_region 2 with fail
  obtain⟨V1,hV1⟩:∃ V1,(W.alloc (.cells (cd f d a n cap out) 26)).alloc (.cells bM 26)=V1:=⟨_,rfl⟩
  rw[hV1] at HF0 ⊢
  clear hV1
  obtain⟨p0,p1,p2,p3⟩:=aG HF0.o.r
  obtain⟨r0,r1,r2,r3⟩:=bC HF0.o.r
  obtain⟨V4,hV4⟩:∃ V4,(((V1.setCell ⟨W.heap.size+1,0,none⟩ (.int .i64 0)).setCell ⟨W.heap.size+1,1,none⟩ (.int .i64 0)).setCell ⟨W.heap.size+1,2,none⟩ (.slice none 0 0)).setCell ⟨W.heap.size+1,3,none⟩ (.int .i64 0)=V4:=⟨_,rfl⟩
  have HF3:=aC (mK HF0.o.r HF0.o.lo (.int .i64 0) (.int .i64 0) (.slice none 0 0) (.int .i64 0))
  unfold s4 at HF3
  rw[hV4] at HF3
  go_wp2_with fail
  obtain⟨q0,q1,q2,q3⟩:=aG HF3.o.1
  exact bodyPost_ret (v:=.tuple #[.agg bM,.int .i64 1]) (by simp[results,Tryz.results10,go_sem,q0,q1,q2,q3]) rfl (RdP.no HNo.o (by decide) HF3.o.2)
 ·have j:¬(16:Int) < (m:Int):=by omega
  have hm16:m<=16:=by omega
  go_enter Tryz.func10,Tryz.ntmps10
  go_upto_region 3 with fail
  obtain⟨V1,hV1⟩:∃ V1,(W.alloc (.cells (cd f d a n cap out) 26)).alloc (.cells bM 26)=V1:=⟨_,rfl⟩
  rw[hV1] at HF0 ⊢
  clear hV1
  go_wp2_with fail
  go_loopw [6] (fun iv wr=>∃ k:Nat,k<=m/\iv=.int .i64 k/\(∀ p ∈ P.take k,1<=p/\p<=4)/\Hid (Fg W wr (cd f d a n cap out) bM)) (fun iv _=>m-(intOf iv).toNat)
  case atStart=>exact⟨0,Nat.zero_le _,rfl,by simp,HF0⟩
  case round =>
   obtain⟨k,hk,rfl,hall,HF⟩:=hrel
   rename World=>V2
   clear HF0
   by_cases hlt:k < m
   ·obtain⟨b,off,e',-,hat⟩:=(HPI.o.later HF.o.lo).at (by omega)
    subst e'
    have c0:=hat k hlt
    have htk:P.take (k+1)=P.take k++[P.getD k 0]:=Cde.aM 0 (by rw[HPn.o];exact hlt)
    have hmem:P.getD k 0 ∈ P:=by
     rw[List.getD_eq_getElem?_getD,List.getElem?_eq_getElem (by rw[HPn.o];exact hlt)]
     exact List.getElem_mem _
    generalize P.getD k 0=p at *
    have HLt:=aC hlt
    have j1:(k:Int) < m:=by omega
    have j0:(0:Int)<=k:=by omega
    clear hat
    by_cases hp:1<=p/\p<=4
    ·have l0:¬p < 1:=by omega
     have l1:¬4 < p:=by omega
     go_wp2_with fail
     have hlt':=HLt.o
     go_roundw
     case rel=>exact⟨k+1,by omega,by go_num,by
      rw[htk]
      intro x hx
      rcases List.mem_append.1 hx with h1|h1
      ·exact hall x h1
      ·rw[List.mem_singleton] at h1;rw[h1];exact hp,HF⟩
     case measure=>simp[intOf];omega
    ·have hno:wF f d L out P=1:=by rw[wF,aE2 hmem hp];rfl
     have HNo:=aC hno
     obtain⟨p0,p1,p2,p3⟩:=aG HF.o.r
     obtain⟨r0,r1,r2,r3⟩:=bC HF.o.r
     obtain⟨V4,hV4⟩:∃ V4,(((V2.setCell ⟨W.heap.size+1,0,none⟩ (.int .i64 0)).setCell ⟨W.heap.size+1,1,none⟩ (.int .i64 0)).setCell ⟨W.heap.size+1,2,none⟩ (.slice none 0 0)).setCell ⟨W.heap.size+1,3,none⟩ (.int .i64 0)=V4:=⟨_,rfl⟩
     have HF3:=aC (mK HF.o.r HF.o.lo (.int .i64 0) (.int .i64 0) (.slice none 0 0) (.int .i64 0))
     unfold s4 at HF3
     rw[hV4] at HF3
     clear hno
     rcases(show p < 1\/(¬p < 1/\4 < p) by omega) with l0|⟨l0,l1⟩
     all_goals
      go_wp2_with fail
      obtain⟨q0,q1,q2,q3⟩:=aG HF3.o.1
      exact bodyPost_ret (v:=.tuple #[.agg bM,.int .i64 1]) (by simp[results,Tryz.results10,go_sem,q0,q1,q2,q3]) rfl (RdP.no HNo.o (by decide) HF3.o.2)
   ·obtain rfl:m=k:=by omega
    rw[List.take_of_length_le (by rw[HPn.o];omega)] at hall
    have hok:okP P=true:=aJe (by rw[HPn.o];exact hm16) hall
    have HAll:=aC hall
    have HV:=aC (Vfy.iD f d out (HLI.o.later HF.o.lo))
    obtain⟨x0,x1,x2,x3⟩:=aG HF.o.c
    clear hall
    go_wp2_with fail
    refine HV.o.mono ?_
    rintro e V3 ⟨ga,gc,rfl,hS,hb,-,-⟩
    obtain⟨q,hq⟩:∃ q,kN f d L out=q:=⟨_,rfl⟩
    obtain⟨co,hco⟩:∃ co,kK f d L out=co:=⟨_,rfl⟩
    obtain⟨er,her⟩:∃ er,bL f d L out=er:=⟨_,rfl⟩
    rw[hq,hco,her]
    have HEr:=aC her
    have hrn:wF f d L out P=bL f d L out:=if_pos hok
    have HRn:=aC hrn
    have hb2:=aH V3 (.cells #[.slice ga q gc,.int .i64 co,.int .i64 0] 47)
    have HF2:=aC ((HF.o.below hb).below hb2)
    clear hb hb2 hS HV HF x0 x1 x2 x3 hq hco her hrn
    by_cases h0:er=0
    ·have hr:(er != 0)=false:=by simpa using h0
     go_upto_region 11 with fail
     obtain⟨V4,hV4⟩:∃ V4,V3.alloc (.cells #[.slice ga q gc,.int .i64 co,.int .i64 0] 47)=V4:=⟨_,rfl⟩
     rw[hV4] at HF2 ⊢
     clear hV4
     have h0':=HEr.o.trans h0
     obtain⟨x0,x1,x2,x3⟩:=aG HF2.o.c
     have HX0:Hid (Rk W (V4.alloc (.cells (cd f d a n cap out) 26)) (cd f d a n cap out) V4.heap.size f d a n cap L out True):=aC ⟨HF2.o.below (aH V4 _),aI.new _ _ _,(HLI.o.later HF2.o.lo).later (aH V4 _),HF2.o.r.lt,.inr ⟨trivial,by
      obtain⟨mc,-⟩:=Vfy.aT h0'
      have m1:=(Cde.bD mc).2.1
      rw[HLn.o] at m1
      obtain⟨b,o,e,hb,-⟩:=HLI.o.at (by omega)
      exact⟨b,o,e,hb⟩⟩⟩
     clear HF2
     go_upto_region 13 with fail
     clear x0 x1 x2 x3
     obtain⟨bo,hbo⟩:∃ bo,V4.heap.size=bo:=⟨_,rfl⟩
     obtain⟨V5,hV5⟩:∃ V5,V4.alloc (.cells (cd f d a n cap out) 26)=V5:=⟨_,rfl⟩
     rw[hV5] at HX0 ⊢
     rw[hbo] at HX0 ⊢
     clear hV5 hbo
     go_loopw [8,10] (fun ev iv wr=>∃(k:Nat) (ia':Option Addr) (im ic:Nat) (I:List In) (u:Int),k<=m/\iv=.int .i64 k/\ev=.int .i64 0/\psF f d (P.take k) (L,out)=(I,u)/\Hid (Rk W wr (cd f d a n cap out) bo f d ia' im ic I u (k=0))) (fun _ iv _=>m-(intOf iv).toNat)
     case atStart=>exact⟨0,a,n,cap,L,out,Nat.zero_le _,rfl,by simp,rfl,aC ⟨HX0.o.b,HX0.o.o,HX0.o.i,HX0.o.g,HX0.o.w.elim .inl fun h=>.inr ⟨rfl,h.2⟩⟩⟩
     case round =>
      obtain⟨k,ia',im,ic,I,u,hk,rfl,rfl,hI,HX⟩:=hrel
      rename World=>V6
      clear HX0
      by_cases hlt:k < m
      ·obtain⟨b,off,e',-,hat⟩:=(HPI.o.later HX.o.b.lo).at (by omega)
       subst e'
       have c0:=hat k hlt
       have htk:P.take (k+1)=P.take k++[P.getD k 0]:=Cde.aM 0 (by rw[HPn.o];exact hlt)
       have hmem:P.getD k 0 ∈ P:=by
        rw[List.getD_eq_getElem?_getD,List.getElem?_eq_getElem (by rw[HPn.o];exact hlt)]
        exact List.getElem_mem _
       have hp:=HAll.o _ hmem
       have hkp:=oH (f:=f) (d:=d) (P.take k) (L,out) h0'
       rw[hI] at hkp
       have hv:=hkp.tk
       have hnx:=aA1 f d (P.take k) (P.getD k 0) (L,out)
       rw[<-htk,hI] at hnx
       clear hkp htk hmem hat
       generalize P.getD k 0=p at *
       obtain⟨⟨I',u'⟩,hI'⟩:∃ x,wJ f d (I,u) p=x:=⟨_,rfl⟩
       rw[hI'] at hnx
       have HNx:=aC hnx
       obtain⟨im',him'⟩:∃ x,I'.length=x:=⟨_,rfl⟩
       have HLt:=aC hlt
       have j1:(k:Int) < m:=by omega
       have j0:(0:Int)<=k:=by omega
       obtain⟨x0,x1,x2,x3⟩:=aG HX.o.o
       clear hnx hI
       rcases(show p=1\/p=2\/p=3\/p=4 by omega) with rfl|rfl|rfl|rfl
       ·have HC:=aC (aPv f d u HX.o.i hv hI' him')
        clear hv hI' him' hp
        go_wp2_with fail
        refine HC.o.mono ?_
        rintro e V7 ⟨a',c',rfl,hO,hb⟩
        have HX2:=aC (HX.o.below hb)
        have HX3:=aC (HX2.o.put (u':=u') (z':=k+1=0) (Cde.aW hO HX.o.b.lo.size))
        clear hb hO HC HX x0 x1 x2 x3 c0
        obtain⟨x0,x1,x2,x3⟩:=aG HX2.o.o
        obtain⟨r0,r1,r2,r3⟩:=bC HX2.o.o
        go_wp2_with fail
        unfold s4 at HX3
        have hlt':=HLt.o
        go_roundw
        case rel=>exact⟨k+1,_,_,_,_,_,by omega,by go_num,rfl,HNx.o,HX3⟩
        case measure=>simp[intOf];omega
       ·have HC:=aC (aQf f d u HX.o.i hv hI' him')
        clear hv hI' him' hp
        go_wp2_with fail
        refine HC.o.mono ?_
        rintro e V7 ⟨a',c',rfl,hO,hb⟩
        have HX2:=aC (HX.o.below hb)
        have HX3:=aC (HX2.o.put (u':=u') (z':=k+1=0) (Cde.aW hO HX.o.b.lo.size))
        clear hb hO HC HX x0 x1 x2 x3 c0
        obtain⟨x0,x1,x2,x3⟩:=aG HX2.o.o
        obtain⟨r0,r1,r2,r3⟩:=bC HX2.o.o
        go_wp2_with fail
        unfold s4 at HX3
        have hlt':=HLt.o
        go_roundw
        case rel=>exact⟨k+1,_,_,_,_,_,by omega,by go_num,rfl,HNx.o,HX3⟩
        case measure=>simp[intOf];omega
       ·have HC:=aC (aOu f d u HX.o.i hv hI' him')
        clear hv hI' him' hp
        go_wp2_with fail
        refine HC.o.mono ?_
        rintro e V7 ⟨a',c',rfl,hO,hb⟩
        have HX2:=aC (HX.o.below hb)
        have HX3:=aC (HX2.o.put (u':=u') (z':=k+1=0) (Cde.aW hO HX.o.b.lo.size))
        clear hb hO HC HX x0 x1 x2 x3 c0
        obtain⟨x0,x1,x2,x3⟩:=aG HX2.o.o
        obtain⟨r0,r1,r2,r3⟩:=bC HX2.o.o
        go_wp2_with fail
        unfold s4 at HX3
        have hlt':=HLt.o
        go_roundw
        case rel=>exact⟨k+1,_,_,_,_,_,by omega,by go_num,rfl,HNx.o,HX3⟩
        case measure=>simp[intOf];omega
       ·have HC:=aC (aPt f d u HX.o.i hv hI' him')
        clear hv hI' him' hp
        go_wp2_with fail
        refine HC.o.mono ?_
        rintro e V7 ⟨a',c',rfl,hO,hb⟩
        have HX2:=aC (HX.o.below hb)
        have HX3:=aC (HX2.o.put (u':=u') (z':=k+1=0) (Cde.aW hO HX.o.b.lo.size))
        clear hb hO HC HX x0 x1 x2 x3 c0
        obtain⟨x0,x1,x2,x3⟩:=aG HX2.o.o
        obtain⟨r0,r1,r2,r3⟩:=bC HX2.o.o
        go_wp2_with fail
        unfold s4 at HX3
        have hlt':=HLt.o
        go_roundw
        case rel=>exact⟨k+1,_,_,_,_,_,by omega,by go_num,rfl,HNx.o,HX3⟩
        case measure=>simp[intOf];omega
      ·obtain rfl:k=m:=by omega
       rw[List.take_of_length_le (by rw[HPn.o];omega)] at hI
       have hrn:=HRn.o.trans h0'
       have hg:=HX.o.g
       obtain⟨x0,x1,x2,x3⟩:=aG HX.o.o
       obtain⟨p0,p1,p2,p3⟩:=aG HX.o.b.r
       obtain⟨r0,r1,r2,r3⟩:=bC HX.o.b.r
       have HF5:=aC (mK HX.o.b.r HX.o.b.lo (.int .i64 f) (.int .i64 d) (.slice ia' im ic) (.int .i64 u))
       have HO5:Hid (Ins (s4 V6 (W.heap.size+1) (.int .i64 f) (.int .i64 d) (.slice ia' im ic) (.int .i64 u)) ia' im ic I/\(P≠[]->(s4 V6 (W.heap.size+1) (.int .i64 f) (.int .i64 d) (.slice ia' im ic) (.int .i64 u)).ownsRow W.heap.size 57 6 (.slice ia' im ic) im (bG I))):=aC (by
        rcases HX.o.w with hw|⟨hz,b,o,e,hb⟩
        ·have hw':=dB hw (own_ne hw HX.o.b.r (by decide)) (.int .i64 f) (.int .i64 d) (.slice ia' im ic) (.int .i64 u)
         exact⟨lF hw',fun _=>hw'⟩
        ·subst e
         exact⟨aJv HX.o.i (by omega) _ _ _ _,fun hn=>absurd (List.eq_nil_of_length_eq_zero (HPn.o.trans hz)) hn⟩)
       obtain⟨V7,hV7⟩:∃ V7,(((V6.setCell ⟨W.heap.size+1,0,none⟩ (.int .i64 f)).setCell ⟨W.heap.size+1,1,none⟩ (.int .i64 d)).setCell ⟨W.heap.size+1,2,none⟩ (.slice ia' im ic)).setCell ⟨W.heap.size+1,3,none⟩ (.int .i64 u)=V7:=⟨_,rfl⟩
       unfold s4 at HO5 HF5
       rw[hV7] at HO5 HF5
       have HI:=aC hI
       clear hI hg
       go_wp2_with fail
       obtain⟨q0,q1,q2,q3⟩:=aG HF5.o.1
       exact bodyPost_ret (v:=.tuple #[.agg (cd f d ia' im ic u),.int .i64 0]) (by simp[results,Tryz.results10,go_sem,q0,q1,q2,q3]) rfl (RdP.row hrn HI.o HO5.o.1 HO5.o.2 HF5.o.2)
    ·have hr:(er != 0)=true:=by simpa using h0
     go_upto_region 10 with fail
     obtain⟨V4,hV4⟩:∃ V4,V3.alloc (.cells #[.slice ga q gc,.int .i64 co,.int .i64 0] 47)=V4:=⟨_,rfl⟩
     rw[hV4] at HF2 ⊢
     clear hV4
     obtain⟨p0,p1,p2,p3⟩:=aG HF2.o.r
     obtain⟨r0,r1,r2,r3⟩:=bC HF2.o.r
     obtain⟨V5,hV5⟩:∃ V5,(((V4.setCell ⟨W.heap.size+1,0,none⟩ (.int .i64 0)).setCell ⟨W.heap.size+1,1,none⟩ (.int .i64 0)).setCell ⟨W.heap.size+1,2,none⟩ (.slice none 0 0)).setCell ⟨W.heap.size+1,3,none⟩ (.int .i64 0)=V5:=⟨_,rfl⟩
     have HF3:=aC (mK HF2.o.r HF2.o.lo (.int .i64 0) (.int .i64 0) (.slice none 0 0) (.int .i64 0))
     unfold s4 at HF3
     rw[hV5] at HF3
     go_wp2_with fail
     obtain⟨q0,q1,q2,q3⟩:=aG HF3.o.1
     exact bodyPost_ret (v:=.tuple #[.agg bM,.int .i64 er]) (by simp[results,Tryz.results10,go_sem,q0,q1,q2,q3]) rfl (RdP.no (HRn.o.trans HEr.o) h0 HF3.o.2)
theorem aHq (f d out:Int)(hL:Ins W a n cap L) :
  Calls Tryz.prog 12 #[.agg (cd f d a n cap out)] W (RdP W f d L out dZ):=by
 have b1:=aH W (.cells (cd f d a n cap out) 26)
 have b2:=bel b1 (aH _ (.cells bM 26))
 have b3:=aH ((W.alloc (.cells (cd f d a n cap out) 26)).alloc (.cells bM 26)) (.cells (Cde.zA dZ) 3)
 have HF0:Hid (Fg W (((W.alloc (.cells (cd f d a n cap out) 26)).alloc (.cells bM 26)).alloc (.cells (Cde.zA dZ) 3)) (cd f d a n cap out) bM):=aC ⟨((aI.new W 26 (cd f d a n cap out)).alloc (.cells bM 26)).alloc _,(aL W (.cells (cd f d a n cap out) 26) 26 bM).alloc _,bel b2 b3⟩
 have hI:=Cde.aD8 (aI.new ((W.alloc (.cells (cd f d a n cap out) 26)).alloc (.cells bM 26)) 3 (Cde.zA dZ)) (by decide)
 have HR:=aC (aBw f d out (hL.later (bel b2 b3)) hI)
 unfold RdP at HR ⊢
 generalize tT f d L out dZ=I at *
 generalize rnU f d L out dZ=u at *
 generalize rnK f d L out dZ f=kf at *
 generalize rnK f d L out dZ d=kd' at *
 generalize wF f d L out dZ=er at *
 obtain⟨m,hm⟩:∃ m,I.length=m:=⟨_,rfl⟩
 rw[hm] at HR ⊢
 clear b1 b2 b3 hL hI hm
 rw[World.size_alloc,World.size_alloc] at HR
 go_enter Tryz.func12,Tryz.ntmps12
 go_wp2_with fail
 refine HR.o.mono ?_
 rintro e V1 ⟨a',c',rfl,-,hO,hb⟩
 have hO:=hO (by decide)
 have HF1:=aC (HF0.o.below hb)
 have HO1:=aC (Cde.aW hO HF0.o.lo.size)
 clear hb hO HR HF0
 obtain⟨p0,p1,p2,p3⟩:=aG HF1.o.r
 obtain⟨r0,r1,r2,r3⟩:=bC HF1.o.r
 have HF5:=aC (mK HF1.o.r HF1.o.lo (.int .i64 kf) (.int .i64 kd') (.slice a' m c') (.int .i64 u))
 have HO5:=aC (dB HO1.o (own_ne HO1.o HF1.o.r (by decide)) (.int .i64 kf) (.int .i64 kd') (.slice a' m c') (.int .i64 u))
 obtain⟨V6,hV6⟩:∃ V6,(((V1.setCell ⟨W.heap.size+1,0,none⟩ (.int .i64 kf)).setCell ⟨W.heap.size+1,1,none⟩ (.int .i64 kd')).setCell ⟨W.heap.size+1,2,none⟩ (.slice a' m c')).setCell ⟨W.heap.size+1,3,none⟩ (.int .i64 u)=V6:=⟨_,rfl⟩
 unfold s4 at HO5 HF5
 rw[hV6] at HO5 HF5
 go_wp2_with fail
 obtain⟨q0,q1,q2,q3⟩:=aG HF5.o.1
 exact bodyPost_ret (v:=.tuple #[.agg (cd kf kd' a' m c' u),.int .i64 er]) (by simp[results,Tryz.results12,go_sem,q0,q1,q2,q3]) rfl ⟨a',c',rfl,lF HO5.o,fun _=>HO5.o,HF5.o.2⟩
end Go.Proofs.Pss
