import Derived.Test.YtijbmdmeiancgaaGreatXH
import Derived.Deep.RegionHeld3
import Derived.Deep.QuietTactic
import Derived.BigQuiet
import Derived.Test.YtijbmdmeiancgaaGreatX19
import Derived.Test.YtijbmdmeiancgaaGreatX01
set_option maxRecDepth 100000
set_option maxHeartbeats 32000000
set_option linter.unusedVariables false
namespace Go.Proofs.Vfy
open Go.RowKit Go.IntWalk Knd
open Cde (In i0 ia kd cd Ins dP dG bJ eO jG eP aJ aG aL aM)
variable {a:Option Addr} {cap n:Nat} {L:List In} {W:World} {d f out:Int}
def ahE (b:Bool):Int:=if b=true then 11 else 0
theorem aKj (f d:Int)(L:List In)(out:Int):(jG f d L out=true/\uB f d L out=ahE (L.any (nM f d)))\/(¬jG f d L out=true/\uB f d L out=15):=by
 unfold uB ahE
 by_cases h:jG f d L out=true
 ·exact .inl ⟨h,if_pos h⟩
 ·exact .inr ⟨h,if_neg h⟩
theorem aNx {x y:Int}(h:x=y):Ending.returned (.int .i64 x)=.returned (.int .i64 y):=by rw[h]
theorem aH9 (f d out:Int)(hL:Ins W a n cap L) :
  Calls Tryz.prog 31 #[.agg (cd f d a n cap out)] W fun e W'=>e=.returned (.int .i64 (uB f d L out))/\Below W.heap.size W W':=by
 have hb1:=aH W (.cells (cd f d a n cap out) 26)
 have HB0:=aC hb1
 have HC0:=aC (aI.new W 26 (cd f d a n cap out))
 have HCk:=aC (Cde.vK f d out (hL.later hb1))
 have HLI:=aC hL
 have HLn:=aC hL.len
 clear hb1 hL
 rcases aKj f d L out with⟨hm,h0⟩|⟨hm,h0⟩
 ·obtain⟨-,m1,m2,-,-,-⟩:=Cde.bD hm
  rw[HLn.o] at m1 m2
  rw[show Cde.ccE f d L out=0 by rw[Cde.ccE,if_pos hm]] at HCk
  rw[h0]
  have HCo:=aC fun w=>aG0 f d w
  have HA2:=aC fun k=>aE0 (f:=f) (d:=d) (L:=L) (k:=k)
  have HA3:=aC fun k=>aKt (f:=f) (d:=d) (L:=L) (k:=k)
  unfold nM at HA2 HA3
  unfold nM
  generalize eG f d=cz at *
  obtain⟨R,hR⟩:∃ R:Bool,(L.any fun n=>n.op==3&&decide (cz<=n.k))=R:=⟨_,rfl⟩
  rw[hR] at HA3 ⊢
  have HR:=aC hR
  obtain⟨E,hE⟩:∃ E:Int,ahE R=E:=⟨_,rfl⟩
  rw[hE]
  have HE:=aC hE
  clear hm h0 hR hE
  go_enter Tryz.func31,Tryz.ntmps31
  go_wp2_with fail
  refine HCk.o.mono ?_
  rintro e V1 ⟨rfl,hb⟩
  have HC1:=aC (HC0.o.below hb)
  have HB1:=aC (bel HB0.o hb)
  obtain⟨c0,c1,c2,c3⟩:=aG HC1.o
  clear hb HC0 HB0 HCk
  go_wp2_with fail
  refine(HCo.o _).mono ?_
  rintro e V2 ⟨rfl,hb⟩
  have HC2:=aC (HC1.o.below hb)
  have HB2:=aC (bel HB1.o hb)
  clear hb HC1 HB1 c0 c1 c2 c3
  obtain⟨c0,c1,c2,c3⟩:=aG HC2.o
  go_wp2_with fail
  clear c0 c1 c2 c3
  go_loopw [18] (fun i wr=>∃ k:Nat,k<=n/\i=.int .i64 k/\Hid ((L.take k).any (fun n=>n.op==3&&decide (cz<=n.k))=false)/\Hid (Below W.heap.size W wr)) (fun i _=>n-(intOf i).toNat)
  case atStart=>exact⟨0,Nat.zero_le _,rfl,aC rfl,HB2⟩
  case round =>
   obtain⟨k,hk,rfl,HA,HB⟩:=hrel
   rename World=>V
   clear HB2
   by_cases hlt:k < n
   ·obtain⟨g,off,rfl,-,hat⟩:=(HLI.o.later HB.o).at (by omega)
    obtain⟨e0,e1,e2,e3,e4,e5⟩:=hat k hlt
    clear hat
    have hi0:(0:Int)<=k:=by omega
    have hi1:(k:Int) < n:=by omega
    have HS2:=aC (HA2.o k (by rw[HLn.o];exact hlt) HA.o)
    have HS3:=aC (HA3.o k (by rw[HLn.o];exact hlt))
    generalize L.getD k i0=m at *
    have HB3:=aC (bel HB.o (aH V (.cells (ia m) 57)))
    clear HA2 HA3
    by_cases ho:m.op=3
    ·have ho1:(m.op==3)=true:=by simpa using ho
     by_cases hc:cz<=m.k
     ·have hc1:decide (cz<=m.k)=true:=by simpa using hc
      have HT:=aC (HS3.o (by rw[ho1,hc1];rfl))
      clear HS2 HS3 ho hc
      go_wp2_with fail
      go_ret
      exact⟨aNx (by rw[<-HE.o,HT.o];rfl),HB3.o⟩
     ·have hc1:decide (cz<=m.k)=false:=by simpa using hc
      have HT:=aC (HS2.o (by rw[hc1];simp))
      clear HS2 HS3 ho hc
      go_wp2_with fail
      go_roundw
      case rel=>exact⟨k+1,by omega,by go_num,aC HT.o,HB3⟩
      case measure=>simp[intOf];omega
    ·have ho1:(m.op==3)=false:=by simpa using ho
     have HT:=aC (HS2.o (by rw[ho1];rfl))
     clear HS2 HS3 ho
     go_wp2_with fail
     go_roundw
     case rel=>exact⟨k+1,by omega,by go_num,aC HT.o,HB3⟩
     case measure=>simp[intOf];omega
   ·obtain rfl:k=n:=by omega
    have hT:=HA.o
    rw[List.take_of_length_le (by rw[HLn.o];exact Nat.le_refl _),HR.o] at hT
    have HT:=aC hT
    clear hT
    go_wp2_with fail
    go_ret
    exact⟨aNx (by rw[<-HE.o,HT.o];rfl),HB.o⟩
 ·rw[show Cde.ccE f d L out=15 by rw[Cde.ccE,if_neg hm]] at HCk
  rw[h0]
  clear hm h0
  go_enter Tryz.func31,Tryz.ntmps31
  go_wp2_with fail
  refine HCk.o.mono ?_
  rintro e V1 ⟨rfl,hb⟩
  have HB1:=aC (bel HB0.o hb)
  clear hb
  go_wp2_with fail
  go_ret
  exact⟨rfl,HB1.o⟩
def SpP (w:World)(Z:Int × eH)(e:Ending)(W':World):Prop :=
 (Z.1≠0/\e=.returned (.tuple #[.slice none 0 0,.int .i64 Z.1])/\Below w.heap.size w W') \/
 (Z.1=0/\∃ g,e=.returned (.tuple #[.slice (some ⟨g,0,none⟩) Z.2.length Z.2.length,.int .i64 0])/\w.heap.size<=g/\aI W' g 81 (xC Z.2)/\Below w.heap.size w W')
theorem aDm (f d out:Int)(hL:Ins W a n cap L)(hok:eO L L.length=true)(hn:n<=1024) :
  Calls Tryz.prog 32 #[.agg (cd f d a n cap out)] W (SpP W (gN f d L)):=by
 have hmk:=aLy n hn
 have hb1:=aH W (.cells (cd f d a n cap out) 26)
 have HB0:=aC (bel hb1 (aH (W.alloc (.cells (cd f d a n cap out) 26)) (.cells (xC (List.replicate n (0,0))) 81)))
 have HC0:=aC ((aI.new W 26 (cd f d a n cap out)).alloc (.cells (xC (List.replicate n (0,0))) 81))
 have HG0:=aC (aL W (.cells (cd f d a n cap out) 26) 81 (xC (List.replicate n (0,0))))
 have HLI:=aC hL
 have HLn:=aC hL.len
 rw[hL.len] at hok
 have HOk:=aC hok
 clear hb1 hL hok
 go_enter Tryz.func32,Tryz.ntmps32
 go_wp2_with fail
 clear hmk
 go_loopw [16] (fun i wr=>∃(k:Nat) (S:eH),k<=n/\i=.int .i64 k/\Hid (gN f d (L.take k)=(0,S))/\Hid (S.length=k)/\Hid (aI wr (W.heap.size+1) 81 (xC (S++List.replicate (n-k) (0,0))))/\Hid (aI wr W.heap.size 26 (cd f d a n cap out))/\Hid (Below W.heap.size W wr)) (fun i _=>n-(intOf i).toNat)
 case atStart=>exact⟨0,[],Nat.zero_le _,rfl,aC rfl,aC rfl,HG0,HC0,HB0⟩
 case round =>
  obtain⟨k,S,hk,rfl,HS,HSl,HG,HC,HB⟩:=hrel
  rename World=>V
  clear HG0 HC0 HB0
  by_cases hlt:k < n
  ·obtain⟨b,off,rfl,-,hat⟩:=(HLI.o.later HB.o).at (by omega)
   obtain⟨e0,e1,e2,e3,e4,e5⟩:=hat k hlt
   clear hat
   have hi0:(0:Int)<=k:=by omega
   have hi1:(k:Int) < n:=by omega
   have hOk:=Cde.bW HOk.o hlt
   have hS2:=iL f d (L.take k) (L.getD k i0)
   rw[<-aM i0 (by rw[HLn.o];exact hlt),HS.o] at hS2
   have HS2:=aC hS2
   have HSt:=aC fun e h he=>tL (f:=f) (d:=d) (L:=L) (k:=k+1) (e:=e) h he
   clear hS2
   generalize L.getD k i0=m at *
   have hb:=aH V (.cells (ia m) 57)
   have HG2:=aC (HG.o.below hb)
   have HC2:=aC (HC.o.below hb)
   have HB2:=aC (bel HB.o hb)
   have hl:(S++List.replicate (n-k) ((0:Int),(0:Int))).length=n:=by simp[HSl.o];omega
   have hV:=xG HG2.o (by rw[hl];omega)
   rw[hl] at hV
   have HV:=aC (aFm f d hOk hV (by omega))
   rw[zQ (by rw[HSl.o];exact hOk)] at HV
   obtain⟨c0,c1,c2,c3⟩:=aG HC.o
   have hz0:=HC.o.lt
   have hz1:=HG.o.lt
   clear hb hV hl hOk
   unfold wE at HS2
   generalize jV f d S m=X at *
   obtain⟨⟨lo,hi⟩,er⟩:=X
   simp only[if_true] at HS2
   go_wp2_with fail
   refine HV.o.mono ?_
   rintro e V3 ⟨rfl,hb⟩
   have HG3:=aC (HG2.o.below hb)
   have HC3:=aC (HC2.o.below hb)
   have HB3:=aC (bel HB2.o hb)
   clear hb HV HG2 HC2 HB2 c0 c1 c2 c3 e0 e1 e2 e3 e4 e5
   by_cases he:er=0
   ·subst he
    rw[if_pos rfl] at HS2
    have HX:=HG3.o
    rw[aJp hlt] at HX
    have ya:=HX.frozen (k*2)
    have yb:=HX.frozen (k*2+1)
    have hza:=HX.lt
    obtain⟨ca,hca⟩:=yG (S++(0,0)::List.replicate (n-(k+1)) (0,0)) k (by simp[HSl.o])
    have da:=HX.cell (k*2) ca
    have db:=HX.cell (k*2+1) hca
    have HG4:=aC ((aOn HX HSl.o lo hi).alloc (.cells #[.int .i64 lo,.int .i64 hi] 81))
    have HC4:=aC ((aSb HC3.o (r:=W.heap.size+1) (k:=k) (by omega) (.int .i64 lo) (.int .i64 hi)).alloc (.cells #[.int .i64 lo,.int .i64 hi] 81))
    have HB4:=aC (bel ((HB3.o.setCell (p:=⟨W.heap.size+1,k*2,none⟩) (by simp) (.int .i64 lo)).setCell (p:=⟨W.heap.size+1,k*2+1,none⟩) (by simp) (.int .i64 hi)) (aH _ (.cells #[.int .i64 lo,.int .i64 hi] 81)))
    clear HX ca hca HG3 HC3 HB3 HSt HG HC HB hz0 hz1
    go_wp2_with fail
    go_roundw
    case rel=>exact⟨k+1,S++[(lo,hi)],by omega,by go_num,aC HS2.o,aC (by simp[HSl.o]),aC (by rw[List.append_assoc];exact HG4.o),aC HC4.o,aC HB4.o⟩
    case measure=>simp[intOf];omega
   ·rw[if_neg he] at HS2
    have HE:=aC (HSt.o _ HS2.o he)
    have HN:=aC he
    have he2:(er != 0)=true:=by simpa using he
    clear HS2 HSt he
    go_wp2_with fail
    exact bodyPost_ret (v:=.tuple #[.slice none 0 0,.int .i64 er]) (by simp[results,Tryz.results32,go_sem]) rfl (.inl (by rw[HE.o];exact⟨HN.o,rfl,bel HB3.o (aH _ _)⟩))
  ·obtain rfl:k=n:=by omega
   have hD:=HS.o
   rw[List.take_of_length_le (by rw[HLn.o];exact Nat.le_refl _)] at hD
   have HE:=aC hD
   have HX:=HG.o
   rw[Nat.sub_self,List.replicate_zero,List.append_nil] at HX
   have HX2:=aC HX
   clear hD HX
   go_wp2_with fail
   exact bodyPost_ret (v:=.tuple #[.slice (some ⟨W.heap.size+1,0,none⟩) k k,.int .i64 0]) (by simp[results,Tryz.results32,go_sem]) rfl (.inr (by rw[HE.o];exact⟨rfl,_,by rw[HSl.o],by omega,HX2.o,HB.o⟩))
theorem aPp (h:uB f d L out≠0):bL f d L out=uB f d L out:=by unfold bL;rw[if_pos h]
theorem aFg (h:uB f d L out=0)(h2:(gN f d L).1≠0):bL f d L out=(gN f d L).1:=by unfold bL;rw[if_neg (by simpa using h),if_pos h2]
theorem aEr (h:uB f d L out=0)(h2:(gN f d L).1=0)(h3:200 < eP L):bL f d L out=14:=by unfold bL;rw[if_neg (by simpa using h),if_neg (by simpa using h2),if_pos h3]
theorem aN9 (h:uB f d L out=0)(h2:(gN f d L).1=0)(h3:¬200 < eP L):bL f d L out=0:=by unfold bL;rw[if_neg (by simpa using h),if_neg (by simpa using h2),if_neg h3]
abbrev xL (own:Bool)(w:World)(f d:Int)(L:List In)(out:Int):Ending->World->Prop:=RpP own w (kN f d L out) (kK f d L out) (bL f d L out) (pR f d L out)
theorem xL.no {own:Bool}{w W':World}{f d:Int}{L:List In}{out er:Int}(h:bL f d L out=er)(h0:er≠0)(hb:Below w.heap.size w W'):xL own w f d L out (.returned (.tuple #[.agg oU,.int .i64 er])) W':=by
 subst h
 obtain⟨e1,e2,e3⟩:=aM2 h0
 unfold xL
 rw[e1,e2,e3]
 exact RpP.no hb
theorem xL.row {w W':World}{f d:Int}{L:List In}{out:Int}{S:eH}{g n:Nat}{co:Int}(h:bL f d L out=0)(hS:gN f d L=(0,S))(hl:L.length=n)(hco:eP L=co)(hg:aI W' g 81 (xC S))(h0:w.heap.size<=g)(hb:Below w.heap.size w W'):xL true w f d L out (.returned (.tuple #[.agg #[.slice (some ⟨g,0,none⟩) n n,.int .i64 co,.int .i64 0],.int .i64 0])) W':=by
 obtain⟨m,-,⟨S',h1,h2,h3⟩,-,h4,h5⟩:=aT h
 obtain⟨-,-,hf,-⟩:=Cde.bD m
 rw[hS] at h1
 cases h1
 unfold xL
 rw[h3,h4,h5,h,hl,hco]
 exact RpP.row hg (by rw[h2,hl]) h0 (by omega) hb
theorem fC (f d out:Int)(hL:Ins W a n cap L) :
  Calls Tryz.prog 18 #[.agg (cd f d a n cap out)] W (xL true W f d L out):=by
 have hb1:=aH W (.cells (cd f d a n cap out) 26)
 have hb2:=bel hb1 (aH (W.alloc (.cells (cd f d a n cap out) 26)) (.cells oU 47))
 have HB0:=aC hb2
 have HC0:=aC ((aI.new W 26 (cd f d a n cap out)).alloc (.cells oU 47))
 have HR0:=aC (aL W (.cells (cd f d a n cap out) 26) 47 oU)
 have HM:=aC (aH9 f d out (hL.later hb2))
 have HLI:=aC hL
 have HLn:=aC hL.len
 clear hb1 hb2 hL
 by_cases h0:uB f d L out=0
 ·obtain⟨hm,-⟩:=uC.1 h0
  obtain⟨-,m1,m2,-,-,hok⟩:=Cde.bD hm
  rw[h0] at HM
  rw[HLn.o] at m1 m2
  have HSp:=aC fun(V:World) (h:Ins V a n cap L)=>aDm f d out h hok (by omega)
  have HCo:=aC fun(V:World) (h:Ins V a n cap L)=>Cde.aHf f d out h (by omega)
  have HZ:=aC h0
  clear hm hok h0
  obtain⟨⟨er,S⟩,hX⟩:∃ X,gN f d L=X:=⟨_,rfl⟩
  have HX:=aC hX
  rw[hX] at HSp
  clear hX
  go_enter Tryz.func18,Tryz.ntmps18
  go_wp2_with fail
  refine HM.o.mono ?_
  rintro e V1 ⟨rfl,hb⟩
  have HC1:=aC (HC0.o.below hb)
  have HR1:=aC (HR0.o.below hb)
  have HB1:=aC (bel HB0.o hb)
  obtain⟨c0,c1,c2,c3⟩:=aG HC1.o
  clear hb HC0 HR0 HB0 HM
  go_wp2_with fail
  refine(HSp.o _ (HLI.o.later HB1.o)).mono ?_
  rintro e V2 (⟨he,rfl,hb⟩|⟨he,g,rfl,hg,hG,hb⟩)
  ·have he':er≠0:=he
   have HE:=aC (aFg HZ.o (by rw[HX.o];exact he))
   rw[HX.o] at HE
   have HN:=aC he'
   have hne:(er != 0)=true:=by simpa using he'
   have HR2:=aC (HR1.o.below hb)
   have HB2:=aC (bel HB1.o hb)
   obtain⟨r0,r1,r2,r3,r4,r5⟩:=kT HR2.o
   clear hb he he' c0 c1 c2 c3
   go_wp2_with fail
   obtain⟨hp,hpb⟩:=gH HR2.o HB2.o (by omega) (.slice none 0 0) (.int .i64 0) (.int .i64 0)
   have p0:=hp.cell 0 rfl
   have p1:=hp.cell 1 rfl
   have p2:=hp.cell 2 rfl
   exact bodyPost_ret (v:=.tuple #[.agg oU,.int .i64 er]) (by simp[results,Tryz.results18,go_sem,p0,p1,p2]) rfl (xL.no HE.o HN.o hpb)
  ·have he':er=0:=he
   subst he'
   have hSl:S.length=n:=by rw[aE4 HX.o,HLn.o]
   simp only at hG ⊢
   rw[hSl]
   have HR2:=aC (HR1.o.below hb)
   have HC2:=aC (HC1.o.below hb)
   have HB2:=aC (bel HB1.o hb)
   have HG2:=aC hG
   have HSl:=aC hSl
   have hgl:=HB1.o.size
   have hg1:W.heap.size+1≠g:=by have:=HR1.o.lt;omega
   clear hb he hG hSl c0 c1 c2 c3 HC1 HR1
   obtain⟨c0,c1,c2,c3⟩:=aG HC2.o
   go_wp2_with fail
   refine(HCo.o _ (HLI.o.later HB2.o)).mono ?_
   rintro e V3 ⟨rfl,hb⟩
   obtain⟨co,hco⟩:∃ co,eP L=co:=⟨_,rfl⟩
   rw[hco]
   have HK:=aC hco
   have HR3:=aC (HR2.o.below hb)
   have HG3:=aC (HG2.o.below hb)
   have HB3:=aC (bel HB2.o hb)
   clear hb HR2 HC2 HB2 HG2 c0 c1 c2 c3 hco
   have hlt:=HR3.o.lt
   obtain⟨r0,r1,r2,r3,r4,r5⟩:=kT HR3.o
   have h00:(gN f d L).1=0:=by rw[HX.o]
   by_cases hc:200 < co
   ·have HE:=aC (aEr HZ.o h00 (by rw[HK.o];exact hc))
    have hc2:decide (200 < co)=true:=by simpa using hc
    obtain⟨hp,hpb⟩:=gH HR3.o HB3.o (by omega) (.slice none 0 0) (.int .i64 0) (.int .i64 0)
    have P0:=aC (hp.alloc (.cells #[.slice (some ⟨g,0,none⟩) n n,.int .i64 co,.int .i64 0] 47))
    have PB:=aC (bel hpb (aH _ (.cells #[.slice (some ⟨g,0,none⟩) n n,.int .i64 co,.int .i64 0] 47)))
    clear hp hpb h00 hc
    go_wp2_with fail
    have p0:=P0.o.cell 0 rfl
    have p1:=P0.o.cell 1 rfl
    have p2:=P0.o.cell 2 rfl
    exact bodyPost_ret (v:=.tuple #[.agg oU,.int .i64 14]) (by simp[results,Tryz.results18,go_sem,p0,p1,p2]) rfl (xL.no HE.o (by decide) PB.o)
   ·have HE:=aC (aN9 HZ.o h00 (by rw[HK.o];exact hc))
    have hc2:decide (200 < co)=false:=by simpa using hc
    obtain⟨hp,hpb⟩:=gH HR3.o HB3.o (by omega) (.slice (some ⟨g,0,none⟩) n n) (.int .i64 co) (.int .i64 0)
    have P0:=aC (hp.alloc (.cells #[.slice (some ⟨g,0,none⟩) n n,.int .i64 co,.int .i64 0] 47))
    have PB:=aC (bel hpb (aH _ (.cells #[.slice (some ⟨g,0,none⟩) n n,.int .i64 co,.int .i64 0] 47)))
    have PG:=aC ((aBy HG3.o (r:=W.heap.size+1) (fun e=>hg1 e.symm) (.slice (some ⟨g,0,none⟩) n n) (.int .i64 co) (.int .i64 0)).alloc (.cells #[.slice (some ⟨g,0,none⟩) n n,.int .i64 co,.int .i64 0] 47))
    clear hp hpb h00 hc
    go_wp2_with fail
    have p0:=P0.o.cell 0 rfl
    have p1:=P0.o.cell 1 rfl
    have p2:=P0.o.cell 2 rfl
    exact bodyPost_ret (v:=.tuple #[.agg #[.slice (some ⟨g,0,none⟩) n n,.int .i64 co,.int .i64 0],.int .i64 0]) (by simp[results,Tryz.results18,go_sem,p0,p1,p2]) rfl (xL.row HE.o HX.o HLn.o HK.o PG.o (by omega) PB.o)
 ·have HE:=aC (aPp h0)
  have HN:=aC h0
  have hne:(uB f d L out != 0)=true:=by simpa using h0
  generalize uB f d L out=er at *
  clear h0
  go_enter Tryz.func18,Tryz.ntmps18
  go_wp2_with fail
  refine HM.o.mono ?_
  rintro e V1 ⟨rfl,hb⟩
  have HR1:=aC (HR0.o.below hb)
  have HB1:=aC (bel HB0.o hb)
  obtain⟨r0,r1,r2,r3,r4,r5⟩:=kT HR1.o
  clear hb
  go_wp2_with fail
  obtain⟨hp,hpb⟩:=gH HR1.o HB1.o (by omega) (.slice none 0 0) (.int .i64 0) (.int .i64 0)
  have p0:=hp.cell 0 rfl
  have p1:=hp.cell 1 rfl
  have p2:=hp.cell 2 rfl
  exact bodyPost_ret (v:=.tuple #[.agg oU,.int .i64 er]) (by simp[results,Tryz.results18,go_sem,p0,p1,p2]) rfl (xL.no HE.o HN.o hpb)
end Go.Proofs.Vfy
namespace Go.Proofs.Vfy
open Go.RowKit Go.IntWalk Knd
open Cde (In i0 dP dG bJ eO jG eP lL)
theorem aBg {f d k:Int}(hm:May f d)(h0:0<=k)(h5:k<=5):Spn.zW ((iH f d k).getD (0,0))=true:=by
 have hlh:dJ f d<=bK f d:=by
  rcases nA f d with⟨h,rfl⟩|⟨h,rfl⟩|h
  ·have:=iW (d-1) (by have:=h.2.2;omega)
   obtain⟨a,b,-⟩:=zs0 h
   omega
  ·have:=iW (d-1) (by have:=h.2.2;omega)
   obtain⟨a,b,-⟩:=zs1 h
   omega
  ·exact absurd hm h
 obtain⟨w1,w2,w3⟩:=oI f d
 have hc:1<=lS f/\lS f<=2000000:=by unfold lS;split <;> omega
 have hr:1<=lN f/\lN f<=2000000:=by unfold lN;split <;> omega
 unfold Spn.zW
 rw[Spn.bH]
 unfold w32 at *
 rcases(show k=0\/k=1\/k=2\/k=3\/k=4\/k=5 by omega) with rfl|rfl|rfl|rfl|rfl|rfl
 ·rw[show iH f d 0=some (0,lS f-1) by unfold iH;rw[if_neg (by simpa using hm)];rfl]
  simp only[Option.getD_some];omega
 ·rw[show iH f d 1=some (0,lN f-1) by unfold iH;rw[if_neg (by simpa using hm)];rfl]
  simp only[Option.getD_some];omega
 ·rw[show iH f d 2=some (0,3) by unfold iH;rw[if_neg (by simpa using hm)];rfl]
  simp only[Option.getD_some];omega
 ·rw[show iH f d 3=some (dJ f d,dJ f d) by unfold iH;rw[if_neg (by simpa using hm)];rfl]
  simp only[Option.getD_some];omega
 ·rw[show iH f d 4=some (bK f d,bK f d) by unfold iH;rw[if_neg (by simpa using hm)];rfl]
  simp only[Option.getD_some];omega
 ·rw[show iH f d 5=some (aV f d,aV f d) by unfold iH;rw[if_neg (by simpa using hm)];rfl]
  simp only[Option.getD_some];omega
theorem aIk {f d:Int}(hm:May f d):Spn.zW (dJ f d,bK f d)=true:=by
 have h3:=aBg hm (k:=3) (by omega) (by omega)
 have hlh:dJ f d<=bK f d:=by
  rcases nA f d with⟨h,rfl⟩|⟨h,rfl⟩|h
  ·have:=iW (d-1) (by have:=h.2.2;omega)
   obtain⟨a,b,-⟩:=zs0 h
   omega
  ·have:=iW (d-1) (by have:=h.2.2;omega)
   obtain⟨a,b,-⟩:=zs1 h
   omega
  ·exact absurd hm h
 obtain⟨w1,w2,w3⟩:=oI f d
 unfold Spn.zW
 rw[Spn.bH]
 unfold w32 at *
 dsimp only
 omega
theorem aHi {f d:Int}{S:eH}{n:In}{i:Nat}(hm:May f d)(ho:bJ n i=true)(h:(jV f d S n).2=0):Spn.zW (jV f d S n).1=true:=by
 have hc:=Cde.nV ho
 unfold jV at h ⊢
 by_cases h1:n.op=1
 ·rw[if_pos h1]
  rw[Cde.kZ,if_pos h1,Bool.and_eq_true,Spn.bE] at hc
  unfold Spn.zW
  rw[Spn.bH]
  dsimp only
  omega
 rw[if_neg h1] at h ⊢
 by_cases h2:n.op=2
 ·rw[if_pos h2]
  rw[Cde.kZ,if_neg h1,if_pos h2,Bool.and_eq_true,Spn.aP] at hc
  exact aBg hm hc.1.1 hc.1.2
 rw[if_neg h2] at h ⊢
 by_cases h3:n.op=3
 ·rw[if_pos h3];exact aIk hm
 rw[if_neg h3] at h ⊢
 exact(Spn.aEw (Prod.ext rfl h:Spn.rV n.op n.k n.s (uA S n)=((_,_),0))).2.2
theorem wS {f d:Int}{L:List In}(hm:May f d)(hok:eO L L.length=true):∀ k,k<=L.length->∀ S,gN f d (L.take k)=(0,S)->∀ p ∈ S,Spn.zW p=true
 | 0,_,S,h,p,hp=>by
  simp[gN] at h
  subst h
  simp at hp
 | k+1,hk,S,h,p,hp=>by
  rw[Cde.aM i0 (by omega),iL] at h
  unfold wE at h
  split at h
  ·rename_i h0
   split at h
   ·rename_i h1
    simp only[Prod.mk.injEq,true_and] at h
    subst h
    rcases List.mem_append.1 hp with hp|hp
    ·exact wS hm hok k (by omega) _ (Prod.ext h0 rfl) p hp
    ·simp at hp
     subst hp
     exact aHi hm (Cde.bW hok (show k < L.length by omega)) h1
   ·rename_i h1
    exact absurd (congrArg Prod.fst h) h1
  ·rename_i h0
   exact absurd (congrArg Prod.fst h) h0
section
variable {f d : Int} {L : List In} {out i : Int} {N : Nat}
end
end Go.Proofs.Vfy
namespace Go.Proofs.Vfy
open Go.RowKit Go.IntWalk Knd
open Cde (kd)
def lfZ (f d op k:Int):(Int × Int) × Bool :=
 if op=1 then((k,k),true) else if op=2 then((iH f d k).getD (0,0),(iH f d k).isSome) else if op=3 then((dJ f d,bK f d),true) else((0,0),false)
abbrev lfV (Z:(Int × Int) × Bool):Value:=.tuple #[.agg #[.int .i64 Z.1.1,.int .i64 Z.1.2],.bool Z.2]
theorem aHo (f d op k:Int)(W:World):Calls Tryz.prog 46 #[.agg (kd f d),.int .i64 op,.int .i64 k] W fun e W'=>e=.returned (lfV (lfZ f d op k))/\Below W.heap.size W W':=by
 have hb1:=aH W (.cells (kd f d) 23)
 have HB0:=aC (bel hb1 (aH (W.alloc (.cells (kd f d) 23)) (.cells #[.int .i64 0,.int .i64 0] 81)))
 have HK0:=aC ((aI.new W 23 (kd f d)).alloc (.cells #[.int .i64 0,.int .i64 0] 81))
 have HR0:Hid (aI ((W.alloc (.cells (kd f d) 23)).alloc (.cells #[.int .i64 0,.int .i64 0] 81)) (W.heap.size+1) 81 #[.int .i64 0,.int .i64 0]):=by
  have:=aI.new (W.alloc (.cells (kd f d) 23)) 81 #[.int .i64 0,.int .i64 0]
  simp only[World.size_alloc] at this
  exact aC this
 have HBk:=aC hb1
 clear hb1
 by_cases h1:op=1
 ·subst h1
  rw[show lfZ f d 1 k=((k,k),true) from rfl]
  go_enter Tryz.func46,Tryz.ntmps46
  go_wp2
  exact bodyPost_ret (v:=.tuple #[.agg #[.int .i64 k,.int .i64 k],.bool true]) (by simp[results,Tryz.results46,go_sem]) rfl ⟨rfl,bel HBk.o (aH _ _)⟩
 by_cases h2:op=2
 ·subst h2
  rw[show lfZ f d 2 k=((iH f d k).getD (0,0),(iH f d k).isSome) from rfl]
  have HI:=aC fun w=>aCf f d k w
  unfold nD at HI
  obtain⟨⟨lo,hi⟩,hp⟩:∃ p,(iH f d k).getD (0,0)=p:=⟨_,rfl⟩
  rw[hp] at HI ⊢
  generalize (iH f d k).isSome=q at HI ⊢
  clear hp h1
  go_enter Tryz.func46,Tryz.ntmps46
  go_wp2_with fail
  refine(HI.o _).mono ?_
  rintro e V1 ⟨rfl,hb⟩
  have HB1:=aC (bel HB0.o hb)
  obtain⟨r0,r1,hB⟩:=qB (HR0.o.below hb) HB1.o (by omega) lo hi
  obtain⟨c0,c1,c2,c3⟩:=bB (HR0.o.below hb)
  have HR1:=aC r0
  have HR2:=aC r1
  clear hb r0 r1
  go_wp2_with fail
  have r0:=HR1.o
  have r1:=HR2.o
  exact bodyPost_ret (v:=.tuple #[.agg #[.int .i64 lo,.int .i64 hi],.bool q]) (by simp only[results,Tryz.results46];simp[go_sem,r0,r1]) rfl ⟨rfl,hB⟩
 by_cases h3:op=3
 ·subst h3
  rw[show lfZ f d 3 k=((dJ f d,bK f d),true) from rfl]
  have HLo:=aC fun w=>qM f d w
  have HHi:=aC fun w=>oK f d w
  generalize dJ f d=lo at *
  generalize bK f d=hi at *
  have x0:=HK0.o.cell 0 rfl
  have y0:=HK0.o.cell 1 rfl
  clear h1 h2
  go_enter Tryz.func46,Tryz.ntmps46
  go_wp2_with fail
  obtain⟨W0,hW0⟩:∃ W0,((W.alloc (.cells (kd f d) 23)).alloc (.cells #[.int .i64 0,.int .i64 0] 81))=W0:=⟨_,rfl⟩
  rw[hW0] at HR0 HK0 HB0 x0 y0 ⊢
  clear hW0
  have HRd:Hid (aI W0.drew (W.heap.size+1) 81 #[.int .i64 0,.int .i64 0]):=HR0.o
  have HKd:Hid (aI W0.drew W.heap.size 23 (kd f d)):=HK0.o
  have HBd:=aC HB0.o.drew
  go_region_held3 (fun w'=>w'.cell? ⟨W.heap.size,0,none⟩=some (.int .i64 f)/\w'.cell? ⟨W.heap.size,1,none⟩=some (.int .i64 d))
   (first|exact⟨x0,y0⟩|exact⟨x3,y3⟩|exact⟨x4,y4⟩|exact⟨(aMc HK4.o (by omega) _ _).cell 0 rfl,(aMc HK4.o (by omega) _ _).cell 1 rfl⟩|go_keep)
   ((first
    | (go_at_call 51;refine(HLo.o _).mono ?_;rintro e w3 ⟨rfl,hb3⟩;have HR3:=aC (HRd.o.below hb3);have HK3:=aC (HKd.o.below hb3);have HB3:=aC (bel HBd.o hb3);clear hb3;obtain⟨x3,y3,-,-⟩:=bB HK3.o)
    | (go_at_call 52;refine(HHi.o _).mono ?_;rintro e w4 ⟨rfl,hb4⟩;have HR4:=aC (HR3.o.below hb4);have HK4:=aC (HK3.o.below hb4);have HB4:=aC (bel HB3.o hb4);clear hb4;obtain⟨x4,y4,-,-⟩:=bB HK4.o;obtain⟨g0,g1,g2,g3⟩:=bB HR4.o)))
  all_goals
   obtain⟨r0,r1,hB⟩:=qB HR4.o HB4.o (by omega) lo hi
   go_wp2
   exact bodyPost_ret (v:=.tuple #[.agg #[.int .i64 lo,.int .i64 hi],.bool true]) (by simp[results,Tryz.results46,go_sem,r0,r1]) rfl ⟨rfl,hB⟩
 have e1:(op==1)=false:=by simpa using h1
 have e2:(op==2)=false:=by simpa using h2
 have e3:(op==3)=false:=by simpa using h3
 rw[show lfZ f d op k=((0,0),false) by unfold lfZ;rw[if_neg h1,if_neg h2,if_neg h3]]
 clear h1 h2 h3
 go_enter Tryz.func46,Tryz.ntmps46
 go_wp2
 exact bodyPost_ret (v:=.tuple #[.agg #[.int .i64 0,.int .i64 0],.bool false]) (by simp[results,Tryz.results46,go_sem]) rfl ⟨rfl,bel HBk.o (aH _ _)⟩
end Go.Proofs.Vfy
