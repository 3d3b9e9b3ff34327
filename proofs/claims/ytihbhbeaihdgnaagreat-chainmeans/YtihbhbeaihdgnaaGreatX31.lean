import Derived.Test.YtihbhbeaihdgnaaGreatXH
import Derived.Test.YtihbhbeaihdgnaaGreatX30
set_option maxRecDepth 100000
set_option maxHeartbeats 32000000
set_option linter.unusedVariables false
namespace Go.Proofs.Vfy
open Go.RowKit Go.IntWalk Knd
open Cde (In i0 ia kd cd Ins dN bY bB dX jW eH aJ aD aK aH)
variable {a:Option Addr} {cap n:Nat} {L:List In} {W:World} {d f out:Int}
def ahE (b:Bool):Int:=if b=true then 11 else 0
theorem aMe (f d:Int)(L:List In)(out:Int):(jW f d L out=true/\myE f d L out=ahE (L.any (nU f d)))\/(¬jW f d L out=true/\myE f d L out=15):=by
 unfold myE ahE
 by_cases h:jW f d L out=true
 ·exact .inl ⟨h,if_pos h⟩
 ·exact .inr ⟨h,if_neg h⟩
theorem aSx {x y:Int}(h:x=y):Ending.returned (.int .i64 x)=.returned (.int .i64 y):=by rw[h]
theorem aOn (f d out:Int)(hL:Ins W a n cap L) :
  Calls Tryz.prog 38 #[.agg (cd f d a n cap out)] W fun e W'=>e=.returned (.int .i64 (myE f d L out))/\Below W.heap.size W W':=by
 have hb1:=aC W (.cells (cd f d a n cap out) 26)
 have HB0:=aA hb1
 have HC0:=aA (aB.new W 26 (cd f d a n cap out))
 have HCk:=aA (Cde.kI f d out (hL.later hb1))
 have HLI:=aA hL
 have HLn:=aA hL.len
 clear hb1 hL
 rcases aMe f d L out with⟨hm,h0⟩|⟨hm,h0⟩
 ·obtain⟨-,m1,m2,-,-,-⟩:=Cde.aT hm
  rw[HLn.o] at m1 m2
  rw[show Cde.ccE f d L out=0 by rw[Cde.ccE,if_pos hm]] at HCk
  rw[h0]
  have HCo:=aA fun w=>pF f d w
  have HA2:=aA fun k=>aOu (f:=f) (d:=d) (L:=L) (k:=k)
  have HA3:=aA fun k=>aSi (f:=f) (d:=d) (L:=L) (k:=k)
  unfold nU at HA2 HA3
  unfold nU
  generalize bL f d=cz at *
  obtain⟨R,hR⟩:∃ R:Bool,(L.any fun n=>n.op==3&&decide (cz<=n.k))=R:=⟨_,rfl⟩
  rw[hR] at HA3 ⊢
  have HR:=aA hR
  obtain⟨E,hE⟩:∃ E:Int,ahE R=E:=⟨_,rfl⟩
  rw[hE]
  have HE:=aA hE
  clear hm h0 hR hE
  go_enter Tryz.func38,Tryz.ntmps38
  go_wp2_with fail
  refine HCk.o.mono ?_
  rintro e V1 ⟨rfl,hb⟩
  have HC1:=aA (HC0.o.below hb)
  have HB1:=aA (bel HB0.o hb)
  obtain⟨c0,c1,c2,c3⟩:=aD HC1.o
  clear hb HC0 HB0 HCk
  go_wp2_with fail
  refine(HCo.o _).mono ?_
  rintro e V2 ⟨rfl,hb⟩
  have HC2:=aA (HC1.o.below hb)
  have HB2:=aA (bel HB1.o hb)
  clear hb HC1 HB1 c0 c1 c2 c3
  obtain⟨c0,c1,c2,c3⟩:=aD HC2.o
  go_wp2_with fail
  clear c0 c1 c2 c3
  go_loopw [18] (fun i wr=>∃ k:Nat,k<=n/\i=.int .i64 k/\Hid ((L.take k).any (fun n=>n.op==3&&decide (cz<=n.k))=false)/\Hid (Below W.heap.size W wr)) (fun i _=>n-(intOf i).toNat)
  case atStart=>exact⟨0,Nat.zero_le _,rfl,aA rfl,HB2⟩
  case round =>
   obtain⟨k,hk,rfl,HA,HB⟩:=hrel
   rename World=>V
   clear HB2
   by_cases hlt:k < n
   ·obtain⟨g,off,rfl,-,hat⟩:=(HLI.o.later HB.o).at (by omega)
    obtain⟨e0,e1,e2,e3,e4,e5⟩:=hat k hlt
    clear hat
    have hi0:(0:Int)<=k:=by omega
    have hi1:(k:Int) < n:=by omega
    have HS2:=aA (HA2.o k (by rw[HLn.o];exact hlt) HA.o)
    have HS3:=aA (HA3.o k (by rw[HLn.o];exact hlt))
    generalize L.getD k i0=m at *
    have HB3:=aA (bel HB.o (aC V (.cells (ia m) 41)))
    clear HA2 HA3
    by_cases ho:m.op=3
    ·have ho1:(m.op==3)=true:=by simpa using ho
     by_cases hc:cz<=m.k
     ·have hc1:decide (cz<=m.k)=true:=by simpa using hc
      have HT:=aA (HS3.o (by rw[ho1,hc1];rfl))
      clear HS2 HS3 ho hc
      go_wp2_with fail
      go_ret
      exact⟨aSx (by rw[<-HE.o,HT.o];rfl),HB3.o⟩
     ·have hc1:decide (cz<=m.k)=false:=by simpa using hc
      have HT:=aA (HS2.o (by rw[hc1];simp))
      clear HS2 HS3 ho hc
      go_wp2_with fail
      go_roundw
      case rel=>exact⟨k+1,by omega,by go_num,aA HT.o,HB3⟩
      case measure=>simp[intOf];omega
    ·have ho1:(m.op==3)=false:=by simpa using ho
     have HT:=aA (HS2.o (by rw[ho1];rfl))
     clear HS2 HS3 ho
     go_wp2_with fail
     go_roundw
     case rel=>exact⟨k+1,by omega,by go_num,aA HT.o,HB3⟩
     case measure=>simp[intOf];omega
   ·obtain rfl:k=n:=by omega
    have hT:=HA.o
    rw[List.take_of_length_le (by rw[HLn.o];exact Nat.le_refl _),HR.o] at hT
    have HT:=aA hT
    clear hT
    go_wp2_with fail
    go_ret
    exact⟨aSx (by rw[<-HE.o,HT.o];rfl),HB.o⟩
 ·rw[show Cde.ccE f d L out=15 by rw[Cde.ccE,if_neg hm]] at HCk
  rw[h0]
  clear hm h0
  go_enter Tryz.func38,Tryz.ntmps38
  go_wp2_with fail
  refine HCk.o.mono ?_
  rintro e V1 ⟨rfl,hb⟩
  have HB1:=aA (bel HB0.o hb)
  clear hb
  go_wp2_with fail
  go_ret
  exact⟨rfl,HB1.o⟩
def SpP (w:World)(Z:Int × dM)(e:Ending)(W':World):Prop :=
 (Z.1≠0/\e=.returned (.tuple #[.slice none 0 0,.int .i64 Z.1])/\Below w.heap.size w W') \/
 (Z.1=0/\∃ g,e=.returned (.tuple #[.slice (some ⟨g,0,none⟩) Z.2.length Z.2.length,.int .i64 0])/\w.heap.size<=g/\aB W' g 74 (lL Z.2)/\Below w.heap.size w W')
theorem aGv (f d out:Int)(hL:Ins W a n cap L)(hok:dX L L.length=true)(hn:n<=1024) :
  Calls Tryz.prog 39 #[.agg (cd f d a n cap out)] W (SpP W (gP f d L)):=by
 have hmk:=aBx n hn
 have hb1:=aC W (.cells (cd f d a n cap out) 26)
 have HB0:=aA (bel hb1 (aC (W.alloc (.cells (cd f d a n cap out) 26)) (.cells (lL (List.replicate n (0,0))) 74)))
 have HC0:=aA ((aB.new W 26 (cd f d a n cap out)).alloc (.cells (lL (List.replicate n (0,0))) 74))
 have HG0:=aA (aK W (.cells (cd f d a n cap out) 26) 74 (lL (List.replicate n (0,0))))
 have HLI:=aA hL
 have HLn:=aA hL.len
 rw[hL.len] at hok
 have HOk:=aA hok
 clear hb1 hL hok
 go_enter Tryz.func39,Tryz.ntmps39
 go_wp2_with fail
 clear hmk
 go_loopw [16] (fun i wr=>∃(k:Nat) (S:dM),k<=n/\i=.int .i64 k/\Hid (gP f d (L.take k)=(0,S))/\Hid (S.length=k)/\Hid (aB wr (W.heap.size+1) 74 (lL (S++List.replicate (n-k) (0,0))))/\Hid (aB wr W.heap.size 26 (cd f d a n cap out))/\Hid (Below W.heap.size W wr)) (fun i _=>n-(intOf i).toNat)
 case atStart=>exact⟨0,[],Nat.zero_le _,rfl,aA rfl,aA rfl,HG0,HC0,HB0⟩
 case round =>
  obtain⟨k,S,hk,rfl,HS,HSl,HG,HC,HB⟩:=hrel
  rename World=>V
  clear HG0 HC0 HB0
  by_cases hlt:k < n
  ·obtain⟨b,off,rfl,-,hat⟩:=(HLI.o.later HB.o).at (by omega)
   obtain⟨e0,e1,e2,e3,e4,e5⟩:=hat k hlt
   clear hat
   have hi0:(0:Int)<=k:=by omega
   have hi1:(k:Int) < n:=by omega
   have hOk:=Cde.dD HOk.o hlt
   have hS2:=iM f d (L.take k) (L.getD k i0)
   rw[<-aH i0 (by rw[HLn.o];exact hlt),HS.o] at hS2
   have HS2:=aA hS2
   have HSt:=aA fun e h he=>aCi (f:=f) (d:=d) (L:=L) (k:=k+1) (e:=e) h he
   clear hS2
   generalize L.getD k i0=m at *
   have hb:=aC V (.cells (ia m) 41)
   have HG2:=aA (HG.o.below hb)
   have HC2:=aA (HC.o.below hb)
   have HB2:=aA (bel HB.o hb)
   have hl:(S++List.replicate (n-k) ((0:Int),(0:Int))).length=n:=by simp[HSl.o];omega
   have hV:=pY HG2.o (by rw[hl];omega)
   rw[hl] at hV
   have HV:=aA (aJ6 f d hOk hV (by omega))
   rw[aCj (by rw[HSl.o];exact hOk)] at HV
   obtain⟨c0,c1,c2,c3⟩:=aD HC.o
   have hz0:=HC.o.lt
   have hz1:=HG.o.lt
   clear hb hV hl hOk
   unfold yU at HS2
   generalize jZ f d S m=X at *
   obtain⟨⟨lo,hi⟩,er⟩:=X
   simp only[if_true] at HS2
   go_wp2_with fail
   refine HV.o.mono ?_
   rintro e V3 ⟨rfl,hb⟩
   have HG3:=aA (HG2.o.below hb)
   have HC3:=aA (HC2.o.below hb)
   have HB3:=aA (bel HB2.o hb)
   clear hb HV HG2 HC2 HB2 c0 c1 c2 c3 e0 e1 e2 e3 e4 e5
   by_cases he:er=0
   ·subst he
    rw[if_pos rfl] at HS2
    have HX:=HG3.o
    rw[xW hlt] at HX
    have ya:=HX.frozen (k*2)
    have yb:=HX.frozen (k*2+1)
    have hza:=HX.lt
    obtain⟨ca,hca⟩:=kC (S++(0,0)::List.replicate (n-(k+1)) (0,0)) k (by simp[HSl.o])
    have da:=HX.cell (k*2) ca
    have db:=HX.cell (k*2+1) hca
    have HG4:=aA ((aCe HX HSl.o lo hi).alloc (.cells #[.int .i64 lo,.int .i64 hi] 74))
    have HC4:=aA ((aAp HC3.o (r:=W.heap.size+1) (k:=k) (by omega) (.int .i64 lo) (.int .i64 hi)).alloc (.cells #[.int .i64 lo,.int .i64 hi] 74))
    have HB4:=aA (bel ((HB3.o.setCell (p:=⟨W.heap.size+1,k*2,none⟩) (by simp) (.int .i64 lo)).setCell (p:=⟨W.heap.size+1,k*2+1,none⟩) (by simp) (.int .i64 hi)) (aC _ (.cells #[.int .i64 lo,.int .i64 hi] 74)))
    clear HX ca hca HG3 HC3 HB3 HSt HG HC HB hz0 hz1
    go_wp2_with fail
    go_roundw
    case rel=>exact⟨k+1,S++[(lo,hi)],by omega,by go_num,aA HS2.o,aA (by simp[HSl.o]),aA (by rw[List.append_assoc];exact HG4.o),aA HC4.o,aA HB4.o⟩
    case measure=>simp[intOf];omega
   ·rw[if_neg he] at HS2
    have HE:=aA (HSt.o _ HS2.o he)
    have HN:=aA he
    have he2:(er != 0)=true:=by simpa using he
    clear HS2 HSt he
    go_wp2_with fail
    exact bodyPost_ret (v:=.tuple #[.slice none 0 0,.int .i64 er]) (by simp[results,Tryz.results39,go_sem]) rfl (.inl (by rw[HE.o];exact⟨HN.o,rfl,bel HB3.o (aC _ _)⟩))
  ·obtain rfl:k=n:=by omega
   have hD:=HS.o
   rw[List.take_of_length_le (by rw[HLn.o];exact Nat.le_refl _)] at hD
   have HE:=aA hD
   have HX:=HG.o
   rw[Nat.sub_self,List.replicate_zero,List.append_nil] at HX
   have HX2:=aA HX
   clear hD HX
   go_wp2_with fail
   exact bodyPost_ret (v:=.tuple #[.slice (some ⟨W.heap.size+1,0,none⟩) k k,.int .i64 0]) (by simp[results,Tryz.results39,go_sem]) rfl (.inr (by rw[HE.o];exact⟨rfl,_,by rw[HSl.o],by omega,HX2.o,HB.o⟩))
theorem aV3 (h:myE f d L out≠0):aZ f d L out=myE f d L out:=by unfold aZ;rw[if_pos h]
theorem aR8 (h:myE f d L out=0)(h2:(gP f d L).1≠0):aZ f d L out=(gP f d L).1:=by unfold aZ;rw[if_neg (by simpa using h),if_pos h2]
theorem aR6 (h:myE f d L out=0)(h2:(gP f d L).1=0)(h3:200 < eH L):aZ f d L out=14:=by unfold aZ;rw[if_neg (by simpa using h),if_neg (by simpa using h2),if_pos h3]
theorem aXx (h:myE f d L out=0)(h2:(gP f d L).1=0)(h3:¬200 < eH L):aZ f d L out=0:=by unfold aZ;rw[if_neg (by simpa using h),if_neg (by simpa using h2),if_neg h3]
abbrev VfP (own:Bool)(w:World)(f d:Int)(L:List In)(out:Int):Ending->World->Prop:=RpP own w (rC f d L out) (rA f d L out) (aZ f d L out) (rH f d L out)
theorem VfP.no {own:Bool}{w W':World}{f d:Int}{L:List In}{out er:Int}(h:aZ f d L out=er)(h0:er≠0)(hb:Below w.heap.size w W'):VfP own w f d L out (.returned (.tuple #[.agg jM,.int .i64 er])) W':=by
 subst h
 obtain⟨e1,e2,e3⟩:=aR7 h0
 unfold VfP
 rw[e1,e2,e3]
 exact RpP.no hb
theorem VfP.row {w W':World}{f d:Int}{L:List In}{out:Int}{S:dM}{g n:Nat}{co:Int}(h:aZ f d L out=0)(hS:gP f d L=(0,S))(hl:L.length=n)(hco:eH L=co)(hg:aB W' g 74 (lL S))(h0:w.heap.size<=g)(hb:Below w.heap.size w W'):VfP true w f d L out (.returned (.tuple #[.agg #[.slice (some ⟨g,0,none⟩) n n,.int .i64 co,.int .i64 0],.int .i64 0])) W':=by
 obtain⟨m,-,⟨S',h1,h2,h3⟩,-,h4,h5⟩:=aL h
 obtain⟨-,-,hf,-⟩:=Cde.aT m
 rw[hS] at h1
 cases h1
 unfold VfP
 rw[h3,h4,h5,h,hl,hco]
 exact RpP.row hg (by rw[h2,hl]) h0 (by omega) hb
theorem dV (f d out:Int)(hL:Ins W a n cap L) :
  Calls Tryz.prog 18 #[.agg (cd f d a n cap out)] W (VfP true W f d L out):=by
 have hb1:=aC W (.cells (cd f d a n cap out) 26)
 have hb2:=bel hb1 (aC (W.alloc (.cells (cd f d a n cap out) 26)) (.cells jM 35))
 have HB0:=aA hb2
 have HC0:=aA ((aB.new W 26 (cd f d a n cap out)).alloc (.cells jM 35))
 have HR0:=aA (aK W (.cells (cd f d a n cap out) 26) 35 jM)
 have HM:=aA (aOn f d out (hL.later hb2))
 have HLI:=aA hL
 have HLn:=aA hL.len
 clear hb1 hb2 hL
 by_cases h0:myE f d L out=0
 ·obtain⟨hm,-⟩:=vN.1 h0
  obtain⟨-,m1,m2,-,-,hok⟩:=Cde.aT hm
  rw[h0] at HM
  rw[HLn.o] at m1 m2
  have HSp:=aA fun(V:World) (h:Ins V a n cap L)=>aGv f d out h hok (by omega)
  have HCo:=aA fun(V:World) (h:Ins V a n cap L)=>Cde.aIm f d out h (by omega)
  have HZ:=aA h0
  clear hm hok h0
  obtain⟨⟨er,S⟩,hX⟩:∃ X,gP f d L=X:=⟨_,rfl⟩
  have HX:=aA hX
  rw[hX] at HSp
  clear hX
  go_enter Tryz.func18,Tryz.ntmps18
  go_wp2_with fail
  refine HM.o.mono ?_
  rintro e V1 ⟨rfl,hb⟩
  have HC1:=aA (HC0.o.below hb)
  have HR1:=aA (HR0.o.below hb)
  have HB1:=aA (bel HB0.o hb)
  obtain⟨c0,c1,c2,c3⟩:=aD HC1.o
  clear hb HC0 HR0 HB0 HM
  go_wp2_with fail
  refine(HSp.o _ (HLI.o.later HB1.o)).mono ?_
  rintro e V2 (⟨he,rfl,hb⟩|⟨he,g,rfl,hg,hG,hb⟩)
  ·have he':er≠0:=he
   have HE:=aA (aR8 HZ.o (by rw[HX.o];exact he))
   rw[HX.o] at HE
   have HN:=aA he'
   have hne:(er != 0)=true:=by simpa using he'
   have HR2:=aA (HR1.o.below hb)
   have HB2:=aA (bel HB1.o hb)
   obtain⟨r0,r1,r2,r3,r4,r5⟩:=iP HR2.o
   clear hb he he' c0 c1 c2 c3
   go_wp2_with fail
   obtain⟨hp,hpb⟩:=fA HR2.o HB2.o (by omega) (.slice none 0 0) (.int .i64 0) (.int .i64 0)
   have p0:=hp.cell 0 rfl
   have p1:=hp.cell 1 rfl
   have p2:=hp.cell 2 rfl
   exact bodyPost_ret (v:=.tuple #[.agg jM,.int .i64 er]) (by simp[results,Tryz.results18,go_sem,p0,p1,p2]) rfl (VfP.no HE.o HN.o hpb)
  ·have he':er=0:=he
   subst he'
   have hSl:S.length=n:=by rw[aH0 HX.o,HLn.o]
   simp only at hG ⊢
   rw[hSl]
   have HR2:=aA (HR1.o.below hb)
   have HC2:=aA (HC1.o.below hb)
   have HB2:=aA (bel HB1.o hb)
   have HG2:=aA hG
   have HSl:=aA hSl
   have hgl:=HB1.o.size
   have hg1:W.heap.size+1≠g:=by have:=HR1.o.lt;omega
   clear hb he hG hSl c0 c1 c2 c3 HC1 HR1
   obtain⟨c0,c1,c2,c3⟩:=aD HC2.o
   go_wp2_with fail
   refine(HCo.o _ (HLI.o.later HB2.o)).mono ?_
   rintro e V3 ⟨rfl,hb⟩
   obtain⟨co,hco⟩:∃ co,eH L=co:=⟨_,rfl⟩
   rw[hco]
   have HK:=aA hco
   have HR3:=aA (HR2.o.below hb)
   have HG3:=aA (HG2.o.below hb)
   have HB3:=aA (bel HB2.o hb)
   clear hb HR2 HC2 HB2 HG2 c0 c1 c2 c3 hco
   have hlt:=HR3.o.lt
   obtain⟨r0,r1,r2,r3,r4,r5⟩:=iP HR3.o
   have h00:(gP f d L).1=0:=by rw[HX.o]
   by_cases hc:200 < co
   ·have HE:=aA (aR6 HZ.o h00 (by rw[HK.o];exact hc))
    have hc2:decide (200 < co)=true:=by simpa using hc
    obtain⟨hp,hpb⟩:=fA HR3.o HB3.o (by omega) (.slice none 0 0) (.int .i64 0) (.int .i64 0)
    have P0:=aA (hp.alloc (.cells #[.slice (some ⟨g,0,none⟩) n n,.int .i64 co,.int .i64 0] 35))
    have PB:=aA (bel hpb (aC _ (.cells #[.slice (some ⟨g,0,none⟩) n n,.int .i64 co,.int .i64 0] 35)))
    clear hp hpb h00 hc
    go_wp2_with fail
    have p0:=P0.o.cell 0 rfl
    have p1:=P0.o.cell 1 rfl
    have p2:=P0.o.cell 2 rfl
    exact bodyPost_ret (v:=.tuple #[.agg jM,.int .i64 14]) (by simp[results,Tryz.results18,go_sem,p0,p1,p2]) rfl (VfP.no HE.o (by decide) PB.o)
   ·have HE:=aA (aXx HZ.o h00 (by rw[HK.o];exact hc))
    have hc2:decide (200 < co)=false:=by simpa using hc
    obtain⟨hp,hpb⟩:=fA HR3.o HB3.o (by omega) (.slice (some ⟨g,0,none⟩) n n) (.int .i64 co) (.int .i64 0)
    have P0:=aA (hp.alloc (.cells #[.slice (some ⟨g,0,none⟩) n n,.int .i64 co,.int .i64 0] 35))
    have PB:=aA (bel hpb (aC _ (.cells #[.slice (some ⟨g,0,none⟩) n n,.int .i64 co,.int .i64 0] 35)))
    have PG:=aA ((oN HG3.o (r:=W.heap.size+1) (fun e=>hg1 e.symm) (.slice (some ⟨g,0,none⟩) n n) (.int .i64 co) (.int .i64 0)).alloc (.cells #[.slice (some ⟨g,0,none⟩) n n,.int .i64 co,.int .i64 0] 35))
    clear hp hpb h00 hc
    go_wp2_with fail
    have p0:=P0.o.cell 0 rfl
    have p1:=P0.o.cell 1 rfl
    have p2:=P0.o.cell 2 rfl
    exact bodyPost_ret (v:=.tuple #[.agg #[.slice (some ⟨g,0,none⟩) n n,.int .i64 co,.int .i64 0],.int .i64 0]) (by simp[results,Tryz.results18,go_sem,p0,p1,p2]) rfl (VfP.row HE.o HX.o HLn.o HK.o PG.o (by omega) PB.o)
 ·have HE:=aA (aV3 h0)
  have HN:=aA h0
  have hne:(myE f d L out != 0)=true:=by simpa using h0
  generalize myE f d L out=er at *
  clear h0
  go_enter Tryz.func18,Tryz.ntmps18
  go_wp2_with fail
  refine HM.o.mono ?_
  rintro e V1 ⟨rfl,hb⟩
  have HR1:=aA (HR0.o.below hb)
  have HB1:=aA (bel HB0.o hb)
  obtain⟨r0,r1,r2,r3,r4,r5⟩:=iP HR1.o
  clear hb
  go_wp2_with fail
  obtain⟨hp,hpb⟩:=fA HR1.o HB1.o (by omega) (.slice none 0 0) (.int .i64 0) (.int .i64 0)
  have p0:=hp.cell 0 rfl
  have p1:=hp.cell 1 rfl
  have p2:=hp.cell 2 rfl
  exact bodyPost_ret (v:=.tuple #[.agg jM,.int .i64 er]) (by simp[results,Tryz.results18,go_sem,p0,p1,p2]) rfl (VfP.no HE.o HN.o hpb)
end Go.Proofs.Vfy
namespace Go.Proofs.Vfy
open Go.RowKit Go.IntWalk Knd
open Cde (In i0 dN bY bB dX jW eH jE)
theorem aDr {f d k:Int}(hm:May f d)(h0:0<=k)(h5:k<=5):Spn.whP ((fM f d k).getD (0,0))=true:=by
 have hlh:dR f d<=bH f d:=by
  rcases kQ f d with⟨h,rfl⟩|⟨h,rfl⟩|h
  ·have:=kU (d-1) (by have:=h.2.2;omega)
   obtain⟨a,b,-⟩:=zs0 h
   omega
  ·have:=kU (d-1) (by have:=h.2.2;omega)
   obtain⟨a,b,-⟩:=zs1 h
   omega
  ·exact absurd hm h
 obtain⟨w1,w2,w3⟩:=iV f d
 have hc:1<=kJ f/\kJ f<=2000000:=by unfold kJ;split <;> omega
 have hr:1<=kW f/\kW f<=2000000:=by unfold kW;split <;> omega
 unfold Spn.whP
 rw[Spn.aX]
 unfold w32 at *
 rcases(show k=0\/k=1\/k=2\/k=3\/k=4\/k=5 by omega) with rfl|rfl|rfl|rfl|rfl|rfl
 ·rw[show fM f d 0=some (0,kJ f-1) by unfold fM;rw[if_neg (by simpa using hm)];rfl]
  simp only[Option.getD_some];omega
 ·rw[show fM f d 1=some (0,kW f-1) by unfold fM;rw[if_neg (by simpa using hm)];rfl]
  simp only[Option.getD_some];omega
 ·rw[show fM f d 2=some (0,3) by unfold fM;rw[if_neg (by simpa using hm)];rfl]
  simp only[Option.getD_some];omega
 ·rw[show fM f d 3=some (dR f d,dR f d) by unfold fM;rw[if_neg (by simpa using hm)];rfl]
  simp only[Option.getD_some];omega
 ·rw[show fM f d 4=some (bH f d,bH f d) by unfold fM;rw[if_neg (by simpa using hm)];rfl]
  simp only[Option.getD_some];omega
 ·rw[show fM f d 5=some (aW f d,aW f d) by unfold fM;rw[if_neg (by simpa using hm)];rfl]
  simp only[Option.getD_some];omega
theorem aLx {f d:Int}(hm:May f d):Spn.whP (dR f d,bH f d)=true:=by
 have h3:=aDr hm (k:=3) (by omega) (by omega)
 have hlh:dR f d<=bH f d:=by
  rcases kQ f d with⟨h,rfl⟩|⟨h,rfl⟩|h
  ·have:=kU (d-1) (by have:=h.2.2;omega)
   obtain⟨a,b,-⟩:=zs0 h
   omega
  ·have:=kU (d-1) (by have:=h.2.2;omega)
   obtain⟨a,b,-⟩:=zs1 h
   omega
  ·exact absurd hm h
 obtain⟨w1,w2,w3⟩:=iV f d
 unfold Spn.whP
 rw[Spn.aX]
 unfold w32 at *
 dsimp only
 omega
theorem aJq {f d:Int}{S:dM}{n:In}{i:Nat}(hm:May f d)(ho:bB n i=true)(h:(jZ f d S n).2=0):Spn.whP (jZ f d S n).1=true:=by
 have hc:=Cde.qP ho
 unfold jZ at h ⊢
 by_cases h1:n.op=1
 ·rw[if_pos h1]
  rw[Cde.nG,if_pos h1,Bool.and_eq_true,Spn.dE] at hc
  unfold Spn.whP
  rw[Spn.aX]
  dsimp only
  omega
 rw[if_neg h1] at h ⊢
 by_cases h2:n.op=2
 ·rw[if_pos h2]
  rw[Cde.nG,if_neg h1,if_pos h2,Bool.and_eq_true,Spn.aO] at hc
  exact aDr hm hc.1.1 hc.1.2
 rw[if_neg h2] at h ⊢
 by_cases h3:n.op=3
 ·rw[if_pos h3];exact aLx hm
 rw[if_neg h3] at h ⊢
 exact(Spn.aHr (Prod.ext rfl h:Spn.ofZ n.op n.k n.s (vI S n)=((_,_),0))).2.2
theorem aAs {f d:Int}{L:List In}(hm:May f d)(hok:dX L L.length=true):∀ k,k<=L.length->∀ S,gP f d (L.take k)=(0,S)->∀ p ∈ S,Spn.whP p=true
 | 0,_,S,h,p,hp=>by
  simp[gP] at h
  subst h
  simp at hp
 | k+1,hk,S,h,p,hp=>by
  rw[Cde.aH i0 (by omega),iM] at h
  unfold yU at h
  split at h
  ·rename_i h0
   split at h
   ·rename_i h1
    simp only[Prod.mk.injEq,true_and] at h
    subst h
    rcases List.mem_append.1 hp with hp|hp
    ·exact aAs hm hok k (by omega) _ (Prod.ext h0 rfl) p hp
    ·simp at hp
     subst hp
     exact aJq hm (Cde.dD hok (show k < L.length by omega)) h1
   ·rename_i h1
    exact absurd (congrArg Prod.fst h) h1
  ·rename_i h0
   exact absurd (congrArg Prod.fst h) h0
section
variable {f d : Int} {L : List In} {out i : Int} {N : Nat}
end
end Go.Proofs.Vfy
