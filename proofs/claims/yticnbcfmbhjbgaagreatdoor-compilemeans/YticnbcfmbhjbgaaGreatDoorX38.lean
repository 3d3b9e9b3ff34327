import Derived.Test.YticnbcfmbhjbgaaGreatDoorX23
import Derived.Test.YticnbcfmbhjbgaaGreatDoorX34
set_option maxRecDepth 100000
set_option maxHeartbeats 32000000
set_option linter.unusedVariables false
namespace Go.Proofs.Rdc
section
open Go.RowKit Go.IntWalk Knd
open Cde (In i0 ia kd cd Ins sI aH aC aP aJ bE eH aF dL i6 zA aG)
open Vfy (aW rM pJ)
open YticnbcfmbhjbgaaGreatDoor (aB)
open Fld (Fh fE bD oN oH own_ne s4 gI)
theorem uD {V:World}{base:Nat}{v:Value}{L:List In}{ops:Array Oper}{o:Oper}{a:Act}{K:Act->World->Prop}{Q:Exit->Act->World->Prop}{E:Prop}
  (hgd:o.guard=none) (s x:Operand) (ho:o.op=.call { callee:=.builtin .append,args:=#[s,x],argTypes:=#[31,31] })
  (hs:a.eval s=v) (hen:V.ownsRow base 132 6 v L.length (dL L)) (hbase:base<=V.heap.size) (b:Nat) (n:In) (hx:a.eval x=.slice (some ⟨b,0,none⟩) 1 1) (hc:aB V b 132 (ia n)) (h3:L.length<=2000000)
  (h:∀ g cap w',w'.ownsRow base 132 6 (.slice (some ⟨g,0,none⟩) (L.length+1) cap) (L++[n]).length (dL (L++[n]))->V.grownBy w' v.ownBlock->K (a.put o.dst (.slice (some ⟨g,0,none⟩) (L.length+1) cap)) w') :
  if Region.wanted o (yielded ops a.tmps)=true then Oper.wp Tryz.prog o a V K Q else E:=by
 obtain⟨i0',hi0,hz0,hz1,hz2⟩:=Spn.info_parts oN
 refine step_append_lies V hgd s x 31 ho base 132 i0' _ 6 48 Tryz.underlying31 hi0 hz0 hz1 hz2 rfl (by omega) v L.length (dL L) hs hen ⟨b,0,none⟩ 1 1 (i6 n) hx rfl (oH hc) (by simp[Value.oneCell',i6]) (by omega) (by unfold maxLen;omega) (by omega) hbase V.heap.size rfl ?_
 intro g cap w' hown hgrow hat hlt
 refine h g cap w' ?_ hgrow
 rw[Cde.uE,lLa]
 exact hown
abbrev cO:Array Value:=#[.i 0,.i 0,.slice none 0 0,.i 0]
theorem aL1 (f d o1 o2:Int){a1 a2:Option Addr}{n1 n2 c1 c2:Nat}{M L:List In}{W:World}(hM:Ins W a1 n1 c1 M)(hL:Ins W a2 n2 c2 L)(hn0:0 < n2)(hn:n2<=1000) :
  Calls Tryz.prog 329 #[.agg (cd f d a1 n1 c1 o1),.agg (cd f d a2 n2 c2 o2)] W fun e W' =>
   (aW f d M o1=0/\e=.returned (.agg (cd f d a1 n1 c1 o1))/\Below W.heap.size W W') \/
   (aW f d M o1≠0/\∃ a' c',e=.returned (.agg (cd f d a' n2 c' o2))/\W'.ownsRow W.heap.size 132 6 (.slice a' n2 c') n2 (dL L)/\Below W.heap.size W W'):=by
 have b1:=aD W (.cells (cd f d a1 n1 c1 o1) 33)
 have b2:=bel b1 (aD _ (.cells (cd f d a2 n2 c2 o2) 33))
 have b3:=bel b2 (aD _ (.cells cO 33))
 have h3:=aB.new ((W.alloc (.cells (cd f d a1 n1 c1 o1) 33)).alloc (.cells (cd f d a2 n2 c2 o2) 33)) 33 cO
 rw[wSa,wSa] at h3
 have HF0:Hid (Fh W (((W.alloc (.cells (cd f d a1 n1 c1 o1) 33)).alloc (.cells (cd f d a2 n2 c2 o2) 33)).alloc (.cells cO 33)) (cd f d a1 n1 c1 o1) (cd f d a2 n2 c2 o2) cO) :=
  aA ⟨((aB.new W 33 (cd f d a1 n1 c1 o1)).alloc (.cells (cd f d a2 n2 c2 o2) 33)).alloc (.cells cO 33),(aJ W (.cells (cd f d a1 n1 c1 o1) 33) 33 (cd f d a2 n2 c2 o2)).alloc (.cells cO 33),h3,b3⟩
 have HV:=aA (Vfy.dR f d o1 (hM.later b3))
 have HLI:=aA hL
 clear b1 b2 b3 h3 hM hL
 go_enter Tryz.func329,Tryz.ntmps329
 go_wp2_with fail
 refine HV.o.mono ?_
 rintro e V1 ⟨ga,gc,rfl,hS,hb,-,-⟩
 obtain⟨m,hm⟩:∃ m,rM f d M o1=m:=⟨_,rfl⟩
 obtain⟨co,hco⟩:∃ co,pJ f d M o1=co:=⟨_,rfl⟩
 obtain⟨er,her⟩:∃ er,aW f d M o1=er:=⟨_,rfl⟩
 rw[hm,hco,her]
 have HEr:=aA her
 have hb2:=aD V1 (.cells #[.slice ga m gc,.i co,.i 0] 55)
 have HF1:=aA ((HF0.o.below hb).below hb2)
 obtain⟨x0,x1,x2,x3⟩:=aC (HF0.o.below hb).c
 obtain⟨w0,w1,w2,w3⟩:=aC (HF0.o.below hb).w
 obtain⟨p0,p1,p2,p3⟩:=aC (HF0.o.below hb).r
 have z0:=(HF0.o.below hb).c.lt
 have z1:=(HF0.o.below hb).w.lt
 have z2:=(HF0.o.below hb).r.lt
 clear hm hco her hb hb2 hS HV HF0
 by_cases h0:er=0
 ·have hr:(er==0)=true:=by simpa using h0
  go_upto_region 3 with fail
  obtain⟨V2,hV2⟩:∃ V2,V1.alloc (.cells #[.slice ga m gc,.i co,.i 0] 55)=V2:=⟨_,rfl⟩
  rw[hV2] at HF1 ⊢
  clear x0 x1 x2 x3 w0 w1 w2 w3 p0 p1 p2 p3 z0 z1 z2 hV2
  obtain⟨x0,x1,x2,x3⟩:=aC HF1.o.c
  obtain⟨p0,p1,p2,p3⟩:=aC HF1.o.r
  obtain⟨r0,r1,r2,r3⟩:=bD HF1.o.r
  obtain⟨V3,hV3⟩:∃ V3,(((V2.setCell ⟨W.heap.size+1+1,0,none⟩ (.i f)).setCell ⟨W.heap.size+1+1,1,none⟩ (.i d)).setCell ⟨W.heap.size+1+1,2,none⟩ (.slice a1 n1 c1)).setCell ⟨W.heap.size+1+1,3,none⟩ (.i o1)=V3:=⟨_,rfl⟩
  have HF2:Hid (Fh W V3 (cd f d a1 n1 c1 o1) (cd f d a2 n2 c2 o2) (cd f d a1 n1 c1 o1)):=aA (by rw[<-hV3];exact HF1.o.put (.i f) (.i d) (.slice a1 n1 c1) (.i o1))
  go_wp2_with fail
  obtain⟨q0,q1,q2,q3⟩:=aC HF2.o.r
  exact bPr (v:=.agg (cd f d a1 n1 c1 o1)) (by simp[results,Tryz.results329,go_sem,q0,q1,q2,q3]) rfl (.inl ⟨HEr.o.trans h0,rfl,HF2.o.lo⟩)
 ·have hr:(er==0)=false:=by simpa using h0
  go_upto_region 4 with fail
  obtain⟨V2,hV2⟩:∃ V2,V1.alloc (.cells #[.slice ga m gc,.i co,.i 0] 55)=V2:=⟨_,rfl⟩
  rw[hV2] at HF1 ⊢
  clear x0 x1 x2 x3 w0 w1 w2 w3 p0 p1 p2 p3 z0 z1 z2 hV2
  obtain⟨x0,x1,x2,x3⟩:=aC HF1.o.w
  have HCl:=aA (fE ((HLI.o.later HF1.o.lo).later (aF V2)) (by omega) hn0)
  have HS:=aA fun V3 (hb:Below V2.drew.heap.size V2.drew V3)=>(HF1.o.below (bel (aF V2) hb))
  go_region_held3 (fun w'=>w'.cell? ⟨W.heap.size+1,0,none⟩=some (.i f)/\w'.cell? ⟨W.heap.size+1,1,none⟩=some (.i d)/\w'.cell? ⟨W.heap.size+1,2,none⟩=some (.slice a2 n2 c2)/\w'.cell? ⟨W.heap.size+1,3,none⟩=some (.i o2))
   (first|exact⟨x0,x1,x2,x3⟩|exact⟨k0,k1,k2,k3⟩|go_keep)
   ((first
    | (go_at_call 70;refine HCl.o.mono ?_;rintro e V3 ⟨a',c',rfl,hO,hb⟩;have HF3:=aA (HS.o V3 hb);obtain⟨k0,k1,k2,k3⟩:=aC HF3.o.w;obtain⟨p0,p1,p2,p3⟩:=aC HF3.o.r;obtain⟨r0,r1,r2,r3⟩:=bD HF3.o.r)))
  all_goals
   have HO3:=aA (Cde.bS hO (show W.heap.size<=V2.drew.heap.size from HF1.o.lo.size))
   clear k0 k1 k2 k3 p0 p1 p2 p3 r0 r1 r2 r3 hO hb HCl HS x0 x1 x2 x3
   have hq:=own_ne HO3.o HF3.o.r (by decide)
   have HO4:=aA (gI HO3.o hq (.i f) (.i d) (.slice a' n2 c') (.i o2))
   have HF4:=aA (HF3.o.put (.i f) (.i d) (.slice a' n2 c') (.i o2))
   obtain⟨V4,hV4⟩:∃ V4,(((V3.setCell ⟨W.heap.size+1+1,0,none⟩ (.i f)).setCell ⟨W.heap.size+1+1,1,none⟩ (.i d)).setCell ⟨W.heap.size+1+1,2,none⟩ (.slice a' n2 c')).setCell ⟨W.heap.size+1+1,3,none⟩ (.i o2)=V4:=⟨_,rfl⟩
   unfold s4 at HO4 HF4
   rw[hV4] at HO4 HF4 ⊢
   clear hV4 hq HF3 HO3
   go_wp2_with fail
   obtain⟨q0,q1,q2,q3⟩:=aC HF4.o.r
   exact bPr (v:=.agg (cd f d a' n2 c' o2)) (by simp[results,Tryz.results329,go_sem,q0,q1,q2,q3]) rfl (.inr ⟨by rw[HEr.o];exact h0,_,_,rfl,HO4.o,HF4.o.lo⟩)
end
section
open Go.RowKit Go.IntWalk Knd
theorem aP8 {x y:Int}(h:x=y):Ending.returned (.i x)=.returned (.i y):=by rw[h]
theorem sW (k:Int)(W:World):Calls Tryz.prog 390 #[.i k] W fun e W'=>e=.returned (.i (wS k))/\W'=W:=by
 have HY:=aA fun(n:Nat) (h1:n<=30) (h2:(2:Int) ^ n=k)=>bBo h1 h2
 have HN:=aA fun(h:∀ n:Nat,n < 31->(2:Int) ^ n≠k)=>bBn h
 generalize wS k=z at *
 go_enter Tryz.func390,Tryz.ntmps390
 go_wp2_with fail
 go_loop [4] (fun i=>∃ n:Nat,n<=31/\i=.i n/\Hid (∀ j:Nat,j < n->(2:Int) ^ j≠k)) (fun i=>31-(intOf i).toNat)
 case atStart=>exact⟨0,by omega,rfl,aA fun j h=>absurd h (Nat.not_lt_zero _)⟩
 case round =>
  obtain⟨n,hn,rfl,HA⟩:=hrel
  by_cases hlt:n < 31
  ·obtain⟨p1,p2⟩:=aHr (show n<=62 by omega)
   have HY2:=aA (HY.o n (by omega))
   have HA2:=aA fun(h:(2:Int) ^ n≠k)=>show ∀ j:Nat,j < n+1->(2:Int) ^ j≠k from fun j hj=>by
    by_cases e:j=n
    ·rw[e];exact h
    ·exact HA.o j (by omega)
   obtain⟨P,hP⟩:∃ P:Int,(2:Int) ^ n=P:=⟨_,rfl⟩
   rw[hP] at p1 p2 HY2 HA2
   have hw:wrap64 P=P:=wrap64_in _ ⟨by omega,by omega⟩
   by_cases he:P=k
   ·have q:(k==P)=true:=by simp;omega
    have HZ:=aA (HY2.o he)
    clear he HY2 HA2 HY HN HA
    go_wp2_with fail
    go_ret
    exact⟨aP8 HZ.o.symm,rfl⟩
   ·have q:(k==P)=false:=by simp;omega
    have HZ:=aA (HA2.o he)
    clear he HY2 HA2 HA
    go_wp2_with fail
    go_round
    case rel=>exact⟨n+1,by omega,by go_num,HZ⟩
    case measure=>simp[intOf];omega
  ·obtain rfl:n=31:=by omega
   have HZ:=aA (HN.o HA.o)
   clear HA HY HN
   go_wp2_with fail
   go_ret
   exact⟨aP8 HZ.o.symm,rfl⟩
abbrev mgV (Z:Int × Int × Bool):Value:=.tuple #[.i Z.1,.i Z.2.1,.bool Z.2.2]
theorem bBa {size d:Int}(h:2<=d/\d<=2147483647/\0<=size/\size<=2147483648):mgZ size d=mgR size d 63 0:=by rw[mgZ,if_pos h]
theorem aX2 {size d:Int}(h:¬(2<=d/\d<=2147483647/\0<=size/\size<=2147483648)):mgZ size d=(0,0,false):=by rw[mgZ,if_neg h]
theorem aIb (size d:Int)(W:World):Calls Tryz.prog 399 #[.i size,.i d] W fun e W'=>e=.returned (mgV (mgZ size d))/\W'=W:=by
 by_cases hin:2<=d/\d<=2147483647/\0<=size/\size<=2147483648
 ·rw[bBa hin]
  obtain⟨d1,d2,s1,s2⟩:=hin
  have HS:=aA fun(s:Nat) (hs:s<=62) (P k e E:Int) hP hk he hE=>aTy d1 d2 s1 s2 hs (P:=P) (k:=k) (e:=e) (E:=E) hP hk he hE
  have HB:=aA fun(f s:Nat) h=>aTw (size:=size) (d:=d) (f:=f) (s:=s) h
  have HY:=aA fun(f s:Nat) h h2=>aTx (size:=size) (d:=d) (f:=f) (s:=s) h h2
  have HX:=aA fun(f s:Nat) h h2=>aOy (size:=size) (d:=d) (f:=f) (s:=s) h h2
  have H0:=aA fun(s:Nat)=>show mgR size d 0 s=(0,0,false) from rfl
  have HPW:=aA fun(n:Nat) (h:n<=62) (w:World)=>Spn.aHw (n:Int) w (by omega)
  obtain⟨Z,hZ⟩:∃ Z,mgR size d 63 0=Z:=⟨_,rfl⟩
  rw[hZ]
  have HZ:=aA hZ
  clear hZ
  go_enter Tryz.func399,Tryz.ntmps399
  go_wp2_with fail
  go_loop [24] (fun i=>∃ n:Nat,n<=63/\i=.i n/\Hid (mgR size d (63-n) n=Z)) (fun i=>63-(intOf i).toNat)
  case atStart=>exact⟨0,by omega,rfl,HZ⟩
  case round =>
   obtain⟨n,hn,rfl,HA⟩:=hrel
   clear HZ
   by_cases hlt:n < 63
   ·have hf:63-n=(63-(n+1))+1:=by omega
    have HA':=HA.o
    rw[hf] at HA'
    have HB2:=aA fun h=>HA'.symm.trans (HB.o (63-(n+1)) n h)
    have HY2:=aA fun h h2=>HA'.symm.trans (HY.o (63-(n+1)) n h h2)
    have HX2:=aA fun h h2=>(HX.o (63-(n+1)) n h h2).symm.trans HA'
    have HS2:=aA (HS.o n (by omega))
    have HP2:=aA fun w=>HPW.o n (by omega) w
    simp only[iTn] at HP2
    clear HA HA' hf HB HY HX HS
    obtain⟨P,hP⟩:∃ P:Int,(2:Int) ^ n=P:=⟨_,rfl⟩
    obtain⟨k,hk⟩:∃ k:Int,P / d+1=k:=⟨_,rfl⟩
    obtain⟨X,hX⟩:∃ X:Int,k*d=X:=⟨_,rfl⟩
    obtain⟨y,hy⟩:∃ y:Int,k*d-P=y:=⟨_,rfl⟩
    obtain⟨E,hE⟩:∃ E:Int,y*size=E:=⟨_,rfl⟩
    obtain⟨p1,p2,k1,k2,x2,x1,y1,y2,e1,e2,hbig,hzer⟩:=HS2.o P k y E hP hk hy hE
    rw[hP,hk,hy,hE] at HY2 HX2
    rw[hP,hk] at HB2
    rw[hX] at x1 x2 hy
    have hq:P / d=k-1:=by omega
    have hqt:P.tdiv d=k-1:=by rw[iTe (by omega)];exact hq
    have HBig:=aA hbig
    have HZer:=aA hzer
    have hd0:(d==0)=false:=by simp;omega
    have hwP:wrap64 P=P:=wrap64_in _ ⟨by omega,by omega⟩
    have hwX:wrap64 X=X:=wrap64_in _ ⟨by omega,by omega⟩
    have hwE:wrap64 E=E:=wrap64_in _ ⟨by omega,by omega⟩
    rw[hP] at HP2
    clear hq hk hbig hzer HS2
    by_cases hs0:size=0
    ·have HNB:=aA (show k*size<=4611686018427387904 by have:=HZer.o hs0;omega)
     have hE0:E=0:=by rw[<-hE,hs0,Int.mul_zero]
     have HT:=aA (HY2.o (by have:=HNB.o;omega) (by omega))
     subst hs0
     have hlt2:decide (E < P)=true:=by simp;omega
     clear HBig HZer HB2 HY2 HX2 HNB
     subst hE0
     go_wp2_with fail
     exact bPr (v:=.tuple #[.i k,.i n,.bool true]) (by simp[results,Tryz.results399,go_sem]) rfl ⟨by rw[HT.o],rfl⟩
    ·have hs1:0 < size:=by omega
     have q0:decide (0 < size)=true:=by simpa using hs1
     have q1:(size != 0)=true:=by simpa using hs0
     have q2:(size==0)=false:=by simpa using hs0
     have hB1:=HBig.o hs1
     obtain⟨R,hR⟩:∃ R:Int,4611686018427387904 / size=R:=⟨_,rfl⟩
     have r1:0<=R/\R<=4611686018427387904:=by
      rw[<-hR]
      exact⟨Int.ediv_nonneg (by omega) (by omega),Int.ediv_le_self _ (by omega)⟩
     have hRt:Int.tdiv 4611686018427387904 size=R:=by rw[iTe (by omega)];exact hR
     rw[hR] at hB1
     clear hR
     by_cases hb:R < k
     ·have HT:=aA (HB2.o (by have:=hB1.1 hb;omega))
      have q3:decide (R < k)=true:=by simpa using hb
      clear HBig HZer HB2 HY2 HX2 hB1 hb
      go_wp2_with fail
      exact bPr (v:=.tuple #[.i 0,.i 0,.bool false]) (by simp[results,Tryz.results399,go_sem]) rfl ⟨by rw[HT.o],rfl⟩
     ·have HNB:=aA (Int.not_lt.1 fun h=>hb (hB1.2 h))
      have q3:decide (R < k)=false:=by simpa using hb
      by_cases hl:E < P
      ·have HT:=aA (HY2.o (by have:=HNB.o;omega) (by omega))
       have q4:decide (E < P)=true:=by simpa using hl
       clear HBig HZer HB2 HY2 HX2 hB1 hb HNB hl
       go_wp2_with fail
       exact bPr (v:=.tuple #[.i k,.i n,.bool true]) (by simp[results,Tryz.results399,go_sem]) rfl ⟨by rw[HT.o],rfl⟩
      ·have HT:=aA (HX2.o (by have:=HNB.o;omega) (by omega))
       have q4:decide (E < P)=false:=by simpa using hl
       clear HBig HZer HB2 HY2 HX2 hB1 hb HNB hl
       go_wp2_with fail
       go_round
       case rel=>exact⟨n+1,by omega,by go_num,HT⟩
       case measure=>simp[intOf];omega
   ·obtain rfl:n=63:=by omega
    have HT:=aA (HA.o.symm.trans (H0.o 63))
    clear HA
    go_wp2_with fail
    exact bPr (v:=.tuple #[.i 0,.i 0,.bool false]) (by simp[results,Tryz.results399,go_sem]) rfl ⟨by rw[HT.o],rfl⟩
 ·rw[aX2 hin]
  by_cases a1:d < 2
  ·go_enter Tryz.func399,Tryz.ntmps399
   go_wp2_with fail
   exact bPr (v:=.tuple #[.i 0,.i 0,.bool false]) (by simp[results,Tryz.results399,go_sem]) rfl ⟨rfl,rfl⟩
  by_cases a2:2147483647 < d
  ·go_enter Tryz.func399,Tryz.ntmps399
   go_wp2_with fail
   exact bPr (v:=.tuple #[.i 0,.i 0,.bool false]) (by simp[results,Tryz.results399,go_sem]) rfl ⟨rfl,rfl⟩
  by_cases a3:size < 0
  ·go_enter Tryz.func399,Tryz.ntmps399
   go_wp2_with fail
   exact bPr (v:=.tuple #[.i 0,.i 0,.bool false]) (by simp[results,Tryz.results399,go_sem]) rfl ⟨rfl,rfl⟩
  have a4:2147483648 < size:=by omega
  clear hin
  go_enter Tryz.func399,Tryz.ntmps399
  go_wp2_with fail
  exact bPr (v:=.tuple #[.i 0,.i 0,.bool false]) (by simp[results,Tryz.results399,go_sem]) rfl ⟨rfl,rfl⟩
end
section
open Go.RowKit Go.IntWalk Knd
open Cde (In i0 ia kd cd Ins sI aH aC aP aJ bE eH aF dL i6 zA aG)
open Vfy (aW rM pJ eO)
open Fld (eD rg gv)
open YticnbcfmbhjbgaaGreatDoor (aB)
open Fld (aU own_ne kQ)
variable {V V' W w':World} {b:Nat} {mv sv tv wv:Value} {M:List In} {T:List Int}
theorem aHa {a:Nat}{s t:TypeId}{cs ds:Array Value}(h:aB W a s cs)(k:aB W b t ds)(hn:s≠t):a≠b:=by
 rintro rfl
 unfold aB at h k
 rw[h] at k
 cases k
 exact hn rfl
structure Wt (W V:World)(b:Nat)(wv sv mv tv:Value)(M:List In)(T:List Int):Prop where
 w:aB V b 377 #[wv,sv,mv,tv]
 m:V.ownsRow b 132 6 mv M.length (dL M)
 t:V.ownsRow b 3 1 tv T.length (iD T)
 lo:Below W.heap.size W V
 hb:W.heap.size<=b
theorem Wt.below {W V V':World}{b:Nat}{wv sv mv tv:Value}{M:List In}{T:List Int}(h:Wt W V b wv sv mv tv M T)(hb:Below V.heap.size V V'):Wt W V' b wv sv mv tv M T :=
 ⟨h.w.below hb,Cde.bI h.m hb,Cde.bI h.t hb,bel h.lo hb,h.hb⟩
theorem jB (hb:b<=V.heap.size)(h:Below V.heap.size V V'):Below b V V':=h.mono hb
theorem Wt.le (h:Wt W V b wv sv mv tv M T):b<=V.heap.size:=Nat.le_of_lt h.w.lt
theorem Wt.growM {mv':Value}{M':List In}(h:Wt W V b wv sv mv tv M T)(hg:V.grownBy w' mv.ownBlock)(hO:w'.ownsRow b 132 6 mv' M'.length (dL M')) :
  Wt W (w'.setCell ⟨b,2,none⟩ mv') b wv sv mv' tv M' T/\Below b V (w'.setCell ⟨b,2,none⟩ mv'):=by
 have hW:=aU h.m hg h.w (by decide)
 have hT:=kQ h.m h.t (by decide) hg
 have hB:Below b V w':=(Below.refl b V).grown hg h.le fun k hk=>(Cde.aR h.m k hk).1
 exact⟨⟨hW.set 2 mv',ownsRow_setCell_other hO (a:=⟨b,2,none⟩) (own_ne hO hW (by decide)) _,ownsRow_setCell_other hT (a:=⟨b,2,none⟩) (own_ne hT hW (by decide)) _,(h.lo.grown hg h.lo.size fun k hk=>Nat.le_trans h.hb (Cde.aR h.m k hk).1).setCell (p:=⟨b,2,none⟩) h.hb _,h.hb⟩,hB.setCell (p:=⟨b,2,none⟩) (nLr _) _⟩
theorem Wt.growT {tv':Value}{T':List Int}(h:Wt W V b wv sv mv tv M T)(hg:V.grownBy w' tv.ownBlock)(hO:w'.ownsRow b 3 1 tv' T'.length (iD T')) :
  Wt W (w'.setCell ⟨b,3,none⟩ tv') b wv sv mv tv' M T'/\Below b V (w'.setCell ⟨b,3,none⟩ tv'):=by
 have hW:=aU h.t hg h.w (by decide)
 have hM:=kQ h.t h.m (by decide) hg
 have hB:Below b V w':=(Below.refl b V).grown hg h.le fun k hk=>(Cde.aR h.t k hk).1
 exact⟨⟨hW.set 3 tv',ownsRow_setCell_other hM (a:=⟨b,3,none⟩) (own_ne hM hW (by decide)) _,ownsRow_setCell_other hO (a:=⟨b,3,none⟩) (own_ne hO hW (by decide)) _,(h.lo.grown hg h.lo.size fun k hk=>Nat.le_trans h.hb (Cde.aR h.t k hk).1).setCell (p:=⟨b,3,none⟩) h.hb _,h.hb⟩,hB.setCell (p:=⟨b,3,none⟩) (nLr _) _⟩
theorem Wt.ints (h:Wt W V b wv sv mv tv M T):∃ a c,tv=.slice a T.length c/\Ints V a T.length c T:=by
 obtain⟨a',c',e,hi,-⟩:=Ints.of_owns h.t
 exact⟨a',c',e,hi⟩
def Kp (V V':World):Prop:=∀ q cs,aB V q 165 cs->aB V' q 165 cs
theorem Kp.below {V V' V2:World}(h:Kp V V')(hb:Below V'.heap.size V' V2):Kp V V2:=fun q cs hq=>(h q cs hq).below hb
theorem Wt.keepM {mv':Value}(h:Wt W V b wv sv mv tv M T)(hg:V.grownBy w' mv.ownBlock){V0:World}(hk:Kp V0 V):Kp V0 (w'.setCell ⟨b,2,none⟩ mv'):=by
 intro q cs hq
 have hq1:=hk q cs hq
 exact(aU h.m hg hq1 (by decide)).other (p:=⟨b,2,none⟩) (aHa hq1 h.w (by decide)) _
theorem aGg (n:In)(h:Wt W V b wv sv mv tv M T)(hM:M.length<=2000000) :
  Calls Tryz.prog 359 #[.pointer (some ⟨b,0,none⟩),.agg (ia n)] V fun e V'=>e=.returned (.i (M.length:Int))/\(∃ mv',Wt W V' b wv sv mv' tv (M++[n]) T)/\Below b V V'/\Kp V V':=by
 obtain⟨ma,mc,rfl,-,-⟩:=Ins.of_owns h.m
 have HF0:=aA (h.below (aD V (.cells (ia n) 132)))
 have HN0:=aA (aB.new V 132 (ia n))
 have HB0:=aA (jB h.le (aD V (.cells (ia n) 132)))
 have HK0:Hid (Kp V (V.alloc (.cells (ia n) 132))):=aA fun q cs hq=>hq.below (aD V (.cells (ia n) 132))
 have HM:=aA hM
 have HNe:Hid ((Value.slice ma M.length mc).ownBlock≠some V.heap.size):=aA fun hk=>by
  obtain⟨-,cs,fr,h1⟩:=Cde.aR h.m _ hk
  have:=(aGs.1 h1).1
  omega
 obtain⟨m,hm⟩:∃ m,M.length=m:=⟨_,rfl⟩
 have hm2:m<=2000000:=by omega
 rw[hm] at HF0 HNe ⊢
 have HMl:=aA hm
 clear h hM hm
 go_enter Tryz.func359,Tryz.ntmps359
 go_wp2_with fail
 obtain⟨gb,hgb⟩:∃ gb,V.heap.size=gb:=⟨_,rfl⟩
 obtain⟨V1,hV1⟩:∃ V1,V.alloc (.cells (ia n) 132)=V1:=⟨_,rfl⟩
 rw[hV1] at HF0 HN0 HB0 HK0 ⊢
 rw[hgb] at HN0 HNe ⊢
 clear hV1 hgb
 have HF1:=aA (HF0.o.below (aF V1))
 have HN1:=aA (HN0.o.below (aF V1))
 have HB1:=aA (HB0.o.drew)
 have HK1:=aA (HK0.o.below (aF V1))
 generalize hU:V1.drew=U1 at *
 refine wp_region_held_drew (S:=fun w=>aB w gb 132 (ia n)) (by kernel_rfl) (by rw[hU];exact HN1.o) (fun _=>?_)
 rw[hU]
 clear hU HF0 HN0 HB0 HK0
 refine wpAnyH_take (i:=0) (v:=.pointer (some ⟨b,0,none⟩)) rfl (by kernel_rfl) (by kernel_rfl) (by kernel_rfl) (fun _ _ _ h=>h) (Or.inl ⟨by rfl,fun w hS=>by obtain⟨e0,e1,e2,e3,e4,e5⟩:=aH hS;go_simp⟩) HN1.o ?_
 refine wpAnyH_take (i:=1) (v:=.pointer (some ⟨b,0,none⟩)) rfl (by kernel_rfl) (by kernel_rfl) (by kernel_rfl) (fun _ _ _ h=>h) (Or.inl ⟨by rfl,fun w hS=>by obtain⟨e0,e1,e2,e3,e4,e5⟩:=aH hS;go_simp⟩) HN1.o ?_
 refine wpAnyH_take (i:=2) (v:=.pointer (some ⟨b,0,none⟩)) rfl (by kernel_rfl) (by kernel_rfl) (by kernel_rfl) (fun _ _ _ h=>h) (Or.inl ⟨by rfl,fun w hS=>by obtain⟨e0,e1,e2,e3,e4,e5⟩:=aH hS;go_simp⟩) HN1.o ?_
 refine wpAnyH_take (i:=3) (v:=.pointer (some ⟨b,2,none⟩)) rfl (by kernel_rfl) (by kernel_rfl) (by kernel_rfl) (fun _ _ _ h=>h) (Or.inl ⟨by rfl,fun w hS=>by obtain⟨e0,e1,e2,e3,e4,e5⟩:=aH hS;go_simp⟩) HN1.o ?_
 refine wpAnyH_take (i:=5) (v:=.agg (ia n)) rfl (by kernel_rfl) (by kernel_rfl) (by kernel_rfl) (fun _ _ _ h=>h) (Or.inl ⟨by rfl,fun w hS=>by obtain⟨e0,e1,e2,e3,e4,e5⟩:=aH hS;go_simp⟩) HN1.o ?_
 have HGb:=aA (aHa HN1.o HF1.o.w (by decide))
 refine wpAnyH_ready (rs:=[4,6]) (by kernel_rfl) (by simp) (AllReadyH.cons rfl (fun K hK=>?_) (AllReadyH.cons rfl (fun K hK=>?_) AllReadyH.nil))
 have c2:=HF1.o.w.cell 2 rfl
 go_simp
 refine hK.out _ _ HN1.o (fun _=>?_)
 clear hK K c2
 refine wpAnyH_ready (rs:=[6]) (by kernel_rfl) (by simp) (AllReadyH.cons rfl (fun K hK=>?_) AllReadyH.nil)
 go_simp
 have HF2:=aA (HF1.o.below (aD U1 (.cells (ia n) 132)))
 have HN2:=aA (HN1.o.below (aD U1 (.cells (ia n) 132)))
 have HX2:=aA (aB.new U1 132 (ia n))
 have HBU:=aA (HB1.o.alloc HF1.o.le (.cells (ia n) 132))
 have HK2:=aA (HK1.o.below (aD U1 (.cells (ia n) 132)))
 refine hK.out _ _ HN2.o (fun _=>?_)
 clear hK K
 rotate_left
 go_simp
 have HF2:=aA (HF1.o.below (aD U1 (.cells (ia n) 132)))
 have HN2:=aA (HN1.o.below (aD U1 (.cells (ia n) 132)))
 have HX2:=aA (aB.new U1 132 (ia n))
 have HBU:=aA (HB1.o.alloc HF1.o.le (.cells (ia n) 132))
 have HK2:=aA (HK1.o.below (aD U1 (.cells (ia n) 132)))
 refine hK.out _ _ HN2.o (fun _=>?_)
 clear hK K
 refine wpAnyH_ready (rs:=[4]) (by kernel_rfl) (by simp) (AllReadyH.cons rfl (fun K hK=>?_) AllReadyH.nil)
 have c2:=HF2.o.w.cell 2 rfl
 go_simp
 refine hK.out _ _ HN2.o (fun _=>?_)
 clear hK K c2
 rotate_left
 all_goals
  refine wpAnyH_ready (rs:=[7]) (by kernel_rfl) (by simp) (AllReadyH.cons rfl (fun K hK=>?_) AllReadyH.nil)
  refine uD (L:=M) (by rfl) _ _ (by rfl) (by rw[<-HMl.o];rfl) HF2.o.m HF2.o.le _ n (by rfl) HX2.o HM.o ?_
  intro g cap w3 hown hgr
  have hN3:=HN2.o.kept hgr (fun he=>HNe.o he.symm)
  obtain⟨hW3,hB3⟩:=HF2.o.growM hgr hown
  have hK3:=HF2.o.keepM (mv':=.slice (some ⟨g,0,none⟩) (M.length+1) cap) hgr HK2.o
  have hc3:=aU HF2.o.m hgr HF2.o.w (by decide)
  have v2:=hc3.cell 2 rfl
  have yv:=hc3.frozen 2
  rw[HMl.o] at hW3 hB3 hK3 ⊢
  refine hK.out _ _ hN3 (fun _=>?_)
  clear hK K
  refine wpAnyH_take (i:=8) (v:=.pointer (some ⟨b,0,none⟩)) rfl (by kernel_rfl) (by kernel_rfl) (by kernel_rfl) (fun _ _ _ h=>h) (Or.inl ⟨by rfl,fun w hS=>by obtain⟨e0,e1,e2,e3,e4,e5⟩:=aH hS;go_simp⟩) hN3 ?_
  refine wpAnyH_take (i:=9) (v:=.pointer (some ⟨b,2,none⟩)) rfl (by kernel_rfl) (by kernel_rfl) (by kernel_rfl) (fun _ _ _ h=>h) (Or.inl ⟨by rfl,fun w hS=>by obtain⟨e0,e1,e2,e3,e4,e5⟩:=aH hS;go_simp⟩) hN3 ?_
  refine wpAnyH_ready (rs:=[10]) (by kernel_rfl) (by simp) (AllReadyH.cons rfl (fun K hK=>?_) AllReadyH.nil)
  go_simp
  refine hK.out _ _ (hN3.other (p:=⟨b,2,none⟩) HGb.o _) (fun _=>?_)
  clear hK K
  refine wpAnyH_done (by kernel_rfl) ?_ _
  go_simp
  have HW4:=aA hW3
  have HB4:=aA (HBU.o.trans hB3)
  have HK4:=aA hK3
  obtain⟨x0,x1,x2,x3⟩:=aC hW3.w
  clear v2 yv hc3 hN3 hown hgr hW3 hB3 hK3
  go_wp2_with fail
  go_ret
  exact⟨rfl,⟨_,HW4.o⟩,HB4.o,HK4.o⟩
theorem uU (n:In)(h:Wt W V b wv sv mv tv M T)(hM:M.length<=2000000) :
  Calls Tryz.prog 359 #[.pointer (some ⟨b,0,none⟩),.agg (ia n)] V fun e V'=>e=.returned (.i (M.length:Int))/\(∃ mv',Wt W V' b wv sv mv' tv (M++[n]) T)/\Below b V V' :=
 (aGg n h hM).mono fun e V' ⟨h1,h2,h3,_⟩=>⟨h1,h2,h3⟩
end
section
open Go.RowKit Go.IntWalk Knd
open Cde (In i0 ia kd cd Ins sI aH aC aP aJ bE eH aF dL i6 zA aG)
open Vfy (aW rM pJ eO)
open Fld (eD rg gv)
variable {V W:World} {b:Nat} {mv sv tv wv:Value} {M:List In} {T:List Int}
theorem gK (r:Int){wa:Option Addr}{wn wc:Nat}{L:List In}(h:Wt W V b (.slice wa wn wc) sv mv tv M T)(hL:Ins W wa wn wc L)(hr:eD r wn) :
  Calls Tryz.prog 380 #[.pointer (some ⟨b,0,none⟩),.i r] V fun e V'=>e=.returned (.tuple #[.i (rg L r).k,.bool ((rg L r).op==1)])/\Below V.heap.size V V':=by
 have hs:=hL.short
 obtain⟨j,rfl⟩:∃ k:Nat,r=k:=⟨r.toNat,by have:=hr.1;omega⟩
 have hj:j < wn:=by have:=hr.2;omega
 obtain⟨g,off,rfl,-,hc⟩:=(hL.later h.lo).at (by omega)
 obtain⟨c0,c1,c2,c3,c4,c5⟩:=hc j hj
 have w0:=h.w.cell 0 rfl
 unfold rg
 rw[iTn]
 generalize L.getD j i0=n at *
 have i0':(0:Int)<=j:=by omega
 have i1':(j:Int) < wn:=by omega
 have HB:=aA (aD V (.cells (ia n) 132))
 clear hc h hL hr
 go_enter Tryz.func380,Tryz.ntmps380
 go_wp2_with fail
 go_quiet (fail)
 go_wp2_with fail
 exact bPr (v:=.tuple #[.i n.k,.bool (n.op==1)]) (by simp[results,Tryz.results380,go_sem]) rfl ⟨rfl,bel (aD V (.cells (ia n) 132)) (Cde.aM0 _ _)⟩
theorem sZ (r k:Int)(h:Wt W V b wv sv mv tv M T)(hM:M.length<=2000000) :
  Calls Tryz.prog 389 #[.pointer (some ⟨b,0,none⟩),.i r,.i k] V fun e V'=>e=.returned (.i (M.length:Int))/\(∃ mv',Wt W V' b wv sv mv' tv (M++[tmI r k]) T)/\Below b V V':=by
 have HP:=aA (sW k V)
 have HU:=aA fun n=>uU n h hM
 unfold tmI
 generalize wS k=p at *
 clear h hM
 by_cases hp:0<=p
 ·rw[if_pos hp]
  have q:decide (0<=p)=true:=by simpa using hp
  clear hp
  go_enter Tryz.func389,Tryz.ntmps389
  go_wp2_with fail
  refine HP.o.mono ?_
  rintro e w' ⟨rfl,rfl⟩
  go_wp2_with fail
  refine(HU.o ⟨29,r,0,0,p,0⟩).mono ?_
  rintro e V1 ⟨rfl,hw,hb⟩
  go_wp2_with fail
  go_ret
  exact⟨rfl,hw,hb⟩
 ·rw[if_neg hp]
  have q:decide (0<=p)=false:=by simpa using hp
  clear hp
  go_enter Tryz.func389,Tryz.ntmps389
  go_wp2_with fail
  refine HP.o.mono ?_
  rintro e w' ⟨rfl,rfl⟩
  go_wp2_with fail
  refine(HU.o ⟨32,r,0,0,k,0⟩).mono ?_
  rintro e V1 ⟨rfl,hw,hb⟩
  go_wp2_with fail
  go_ret
  exact⟨rfl,hw,hb⟩
def oU (W V:World)(b:Nat)(wv sv tv:Value)(M:List In)(T:List Int)(o:Option (List In))(e:Ending)(V':World):Prop :=
 (∃ Q,o=some Q/\e=.returned (.tuple #[.i (((M.length+Q.length:Nat):Int)-1),.bool true])/\(∃ mv',Wt W V' b wv sv mv' tv (M++Q) T)/\Below b V V') \/
 (o=none/\e=.returned (.tuple #[.i 0,.bool false])/\Below V.heap.size V V')
theorem oU.one {V':World}{n:In}{o:Option (List In)}{m:Nat}(ho:o=some [n])(hm:M.length=m)(h:∃ mv',Wt W V' b wv sv mv' tv (M++[n]) T)(hb:Below b V V'):oU W V b wv sv tv M T o (.returned (.tuple #[.i (m:Int),.bool true])) V':=by
 subst hm
 exact .inl ⟨[n],ho,by simp,h,hb⟩
theorem oU.no {V':World}{o:Option (List In)}(ho:o=none)(hb:Below V.heap.size V V'):oU W V b wv sv tv M T o (.returned (.tuple #[.i 0,.bool false])) V':=.inr ⟨ho,rfl,hb⟩
theorem Wt.reg (h:Wt W V b wv sv mv tv M T){r:Int}(hr:eD r T.length):∃ j g c,r=((j:Nat):Int)/\j < T.length/\T.length<=9223372036854775807/\tv=.slice (some ⟨g,0,none⟩) T.length c/\V.cell? ⟨g,j,none⟩=some (.i (gv T r)):=by
 obtain⟨j,rfl⟩:∃ k:Nat,r=k:=⟨r.toNat,by have:=hr.1;omega⟩
 have hj:j < T.length:=by have:=hr.2;omega
 rcases h.t.2 with⟨e1,e2⟩|⟨g,cap,cur,rfl,-⟩
 ·omega
 ·obtain⟨a,c,e,hI⟩:=h.ints
  cases e
  obtain⟨b',off,e',-,hat⟩:=hI.at (by omega)
  cases e'
  have c0:=hat j hj
  rw[nZa] at c0
  exact⟨j,g,cap,rfl,hj,by have:=hI.le;have:=hI.max;unfold maxLen at this;omega,rfl,c0⟩
end
open Go.RowKit Go.IntWalk Knd
open Cde (In i0 ia kd cd Ins sI aH aC aP aJ bE eH aF dL i6 zA aG)
open Vfy (aW rM pJ eO)
open Fld (eD rg gv)
open YticnbcfmbhjbgaaGreatDoor (aB)
variable {V W:World} {b:Nat} {mv tv wv:Value} {M:List In} {T:List Int} {hi lo:Int}
theorem lU (n:In){z:Int}{sv:Value}(h:Wt W V b wv sv mv tv M T)(hz:(M.length:Int)=z)(hM:M.length<=2000000) :
  Calls Tryz.prog 359 #[.pointer (some ⟨b,0,none⟩),.agg (ia n)] V fun e V'=>e=.returned (.i z)/\(∃ mv',Wt W V' b wv sv mv' tv (M++[n]) T)/\Below b V V'/\Kp V V':=by
 subst hz
 exact aGg n h hM
theorem oU.many {V':World}{sv:Value}{o:Option (List In)}{z:Int}(Q:List In)(ho:o=some Q)(hz:((M.length+Q.length:Nat):Int)-1=z)(h:∃ mv',Wt W V' b wv sv mv' tv (M++Q) T)(hb:Below b V V'):oU W V b wv sv tv M T o (.returned (.tuple #[.i z,.bool true])) V':=by
 subst hz
 exact .inl ⟨Q,ho,rfl,h,hb⟩
def shL (lo hi x:Int)(n:Nat)(m:Int):Option (List In) :=
 if 0<=lo then some [⟨30,x,0,0,n,0⟩] else if hi+(2 ^ n-1)<=2147483647 then some [⟨30,x,0,0,31,0⟩,⟨31,m,0,0,2 ^ n-1,0⟩,⟨8,x,m+1,0,0,0⟩,⟨30,m+2,0,0,n,0⟩] else none
def muL (lo hi x d:Int)(m:Int):Option (List In) :=
 if (mgZ (max (-lo) hi) d).2.2=true then
  (if 0<=lo then some [⟨33,x,0,0,(mgZ (max (-lo) hi) d).1,(mgZ (max (-lo) hi) d).2.1⟩] else
   some [⟨33,x,0,0,(mgZ (max (-lo) hi) d).1,(mgZ (max (-lo) hi) d).2.1⟩,⟨30,x,0,0,31,0⟩,⟨9,m,m+1,0,0,0⟩])
 else none
theorem aSp {x d m:Int}{n:Nat}(hn:0 < wS d)(h:wS d=n)(hd:d=2 ^ n):dvL lo hi x d m=shL lo hi x n m:=by
 subst hd
 unfold dvL shL
 rw[if_pos hn,h,show hi+2 ^ n-1=hi+(2 ^ n-1) by omega]
theorem aSo {x d m:Int}(hn:¬0 < wS d):dvL lo hi x d m=muL lo hi x d m:=by
 unfold dvL muL
 rw[if_neg hn]
theorem aD7 (r:Int)(n:Nat)(hn:n<=30){sa:Option Addr}{sn sc:Nat}{S:eO}(h:Wt W V b wv (.slice sa sn sc) mv tv M T)(hS:Spn.Spans W sa sn sc S)(hT:T.length<=sn)(hM:M.length<=1000000)(hr:eD r T.length)(hs:S.getD r.toNat (0,0)=(lo,hi))(hw:Wh lo hi) :
  Calls Tryz.prog 391 #[.pointer (some ⟨b,0,none⟩),.i r,.i (n:Int)] V (oU W V b wv (.slice sa sn sc) tv M T (shL lo hi (gv T r) n M.length)):=by
 have HF0:=aA h
 have HLe:=aA h.le
 have HM:=aA hM
 obtain⟨m,hm⟩:∃ m:Int,(M.length:Int)=m:=⟨_,rfl⟩
 rw[hm]
 have HMl:=aA hm
 obtain⟨w1,w2,w3,w4,w5⟩:=hw
 obtain⟨j,gt,ct,rfl,hj,htl,rfl,ct0⟩:=h.reg hr
 obtain⟨x,hx⟩:∃ x,gv T (j:Int)=x:=⟨_,rfl⟩
 rw[hx] at ct0 ⊢
 have hg1:=h.w.cell 1 rfl
 have hg3:=h.w.cell 3 rfl
 obtain⟨gs,off,rfl,hgs,hsc⟩:=(hS.later h.lo).at (by omega)
 obtain⟨c0,c1⟩:=hsc j (by omega)
 rw[iTn] at hs
 rw[hs] at c0 c1
 dsimp only at c0 c1
 have hsn:=hS.le
 have hsn2:=hS.max
 unfold maxLen at hsn2
 have i0':(0:Int)<=j:=by omega
 have i1':(j:Int) < sn:=by omega
 obtain⟨tl,htl'⟩:∃ tl,T.length=tl:=⟨_,rfl⟩
 rw[htl'] at hg3 htl
 have i2':(j:Int) < tl:=by omega
 have hb0:=h.w.lt
 have hgt:gt < V.heap.size:=wBl V _ ct0
 clear hx hm h hS hT hM hr hs hsc hj
 unfold shL
 obtain⟨p1,p2⟩:=aHr (show n<=62 by omega)
 have p3:(2:Int) ^ n<=1073741824:=by
  have:=xH hn
  have e:(2:Int) ^ 30=1073741824:=by decide
  omega
 obtain⟨P,hP⟩:∃ P:Int,(2:Int) ^ n=P:=⟨_,rfl⟩
 rw[hP] at p1 p2 p3 ⊢
 have hwP:wrap64 P=P:=wrap64_in _ ⟨by omega,by omega⟩
 have hwP2:IntKind.i64.wrap P=P:=by rw[IntKind.wrap_i64];omega
 have hwP3:IntKind.i64.wrap (P-1)=P-1:=by rw[IntKind.wrap_i64];omega
 obtain⟨O,hO⟩:∃ O,(if 0<=lo then some [(⟨30,x,0,0,n,0⟩:In)] else if hi+(P-1)<=2147483647 then some [⟨30,x,0,0,31,0⟩,⟨31,m,0,0,P-1,0⟩,⟨8,x,m+1,0,0,0⟩,⟨30,m+2,0,0,n,0⟩] else none)=O:=⟨_,rfl⟩
 rw[hO]
 have HO':=aA hO
 clear hO
 go_enter Tryz.func391,Tryz.ntmps391
 go_upto_region 1 with fail
 go_region_held3 (fun w'=>w'.cell? ⟨b,1,none⟩=some (.slice (some ⟨gs,off,none⟩) sn sc)/\w'.cell? ⟨b,3,none⟩=some (.slice (some ⟨gt,0,none⟩) tl ct)/\w'.cell? ⟨gs,off+j*2,none⟩=some (.i lo)/\w'.cell? ⟨gs,off+j*2+1,none⟩=some (.i hi)/\w'.cell? ⟨gt,j,none⟩=some (.i x))
  (first|exact⟨hg1,hg3,c0,c1,ct0⟩|go_keep) (fail)
 obtain⟨V1,hV1⟩:∃ V1,(V.alloc (.cells #[.i lo,.i hi] 165)).drew=V1:=⟨_,rfl⟩
 rw[hV1]
 have HF1:=aA (HF0.o.below (bel (aD V (.cells #[.i lo,.i hi] 165)) (aF _)))
 have HC1:=aA ((aB.new V 165 #[.i lo,.i hi]).below (aF _))
 have HB1:=aA (bel (aD V (.cells #[.i lo,.i hi] 165)) (aF _))
 rw[hV1] at HF1 HC1 HB1
 have HL1:=aA (jB HLe.o HB1.o)
 obtain⟨gb,hgb⟩:∃ gb,V.heap.size=gb:=⟨_,rfl⟩
 rw[hgb] at HC1 ⊢
 obtain⟨s0,s1⟩:=aP HC1.o
 clear hg1 hg3 c0 c1 ct0 HF0 hV1 hgb htl' hgs hgt hb0
 by_cases h0:0<=lo
 ·have hO:=HO'.o
  rw[if_pos h0] at hO
  have HO:=aA hO.symm
  have q0:decide (lo < 0)=false:=by simpa using h0
  clear hO HO' h0
  have HU:=aA (lU ⟨30,x,0,0,n,0⟩ HF1.o HMl.o (by have:=HM.o;omega))
  go_wp2_with fail
  refine HU.o.mono ?_
  clear HU
  rintro e V2 ⟨rfl,⟨mv2,hw⟩,hb,hk⟩
  have HF2:=aA hw
  have HL2:=aA (HL1.o.trans hb)
  go_wp2_with fail
  exact bPr (v:=.tuple #[.i m,.bool true]) (by simp[results,Tryz.results391,go_sem]) rfl (oU.many _ HO.o (by have:=HMl.o;have:=HMl.o;simp;simp at *;omega) ⟨_,by simpa using HF2.o⟩ HL2.o)
 ·have hO:=HO'.o
  rw[if_neg h0] at hO
  have q0:decide (lo < 0)=true:=by simpa using h0
  clear h0
  by_cases h1:hi+(P-1)<=2147483647
  ·rw[if_pos h1] at hO
   have HO:=aA hO.symm
   have q1:decide (2147483647 < hi+(P-1))=false:=by simp;omega
   clear hO HO' h1
   obtain⟨z1,hz1⟩:∃ z1:Int,m+1=z1:=⟨_,rfl⟩
   obtain⟨z2,hz2⟩:∃ z2:Int,m+2=z2:=⟨_,rfl⟩
   obtain⟨z3,hz3⟩:∃ z3:Int,m+3=z3:=⟨_,rfl⟩
   rw[hz1,hz2] at HO
   have HZ1:Hid (((M++[(⟨30,x,0,0,31,0⟩:In)]).length:Int)=z1):=aA (by have:=HMl.o;simp;omega)
   have HZ2:Hid (((M++[(⟨30,x,0,0,31,0⟩:In)]++[(⟨31,m,0,0,P-1,0⟩:In)]).length:Int)=z2):=aA (by have:=HMl.o;simp;omega)
   have HZ3:Hid (((M++[(⟨30,x,0,0,31,0⟩:In)]++[(⟨31,m,0,0,P-1,0⟩:In)]++[(⟨8,x,z1,0,0,0⟩:In)]).length:Int)=z3):=aA (by have:=HMl.o;simp;omega)
   have HZm:=aA hz3
   clear hz1 hz2 hz3
   have HU:=aA (lU ⟨30,x,0,0,31,0⟩ HF1.o HMl.o (by have:=HM.o;omega))
   go_wp2_with fail
   refine HU.o.mono ?_
   clear HU
   rintro e V2 ⟨rfl,⟨mv2,hw⟩,hb,hk⟩
   have HF2:=aA hw
   have HL2:=aA (HL1.o.trans hb)
   clear hw hb hk
   have HU:=aA (lU ⟨31,m,0,0,P-1,0⟩ HF2.o HZ1.o (by have:=HM.o;simp;omega))
   go_wp2_with fail
   refine HU.o.mono ?_
   clear HU
   rintro e V3 ⟨rfl,⟨mv3,hw⟩,hb,hk⟩
   have HF3:=aA hw
   have HL3:=aA (HL2.o.trans hb)
   clear hw hb hk
   have HU:=aA (lU ⟨8,x,z1,0,0,0⟩ HF3.o HZ2.o (by have:=HM.o;simp;omega))
   go_wp2_with fail
   refine HU.o.mono ?_
   clear HU
   rintro e V4 ⟨rfl,⟨mv4,hw⟩,hb,hk⟩
   have HF4:=aA hw
   have HL4:=aA (HL3.o.trans hb)
   clear hw hb hk
   have HU:=aA (lU ⟨30,z2,0,0,n,0⟩ HF4.o HZ3.o (by have:=HM.o;simp;omega))
   go_wp2_with fail
   refine HU.o.mono ?_
   clear HU
   rintro e V5 ⟨rfl,⟨mv5,hw⟩,hb,hk⟩
   have HF5:=aA hw
   have HL5:=aA (HL4.o.trans hb)
   clear hw hb hk
   go_wp2_with fail
   exact bPr (v:=.tuple #[.i z3,.bool true]) (by simp[results,Tryz.results391,go_sem]) rfl (oU.many _ HO.o (by have:=HMl.o;have:=HZm.o;simp;simp at *;omega) ⟨_,by simpa using HF5.o⟩ HL5.o)
  ·rw[if_neg h1] at hO
   have HO:=aA hO.symm
   have q1:decide (2147483647 < hi+(P-1))=true:=by simp;omega
   clear hO HO' h1
   go_wp2_with fail
   exact bPr (v:=.tuple #[.i 0,.bool false]) (by simp[results,Tryz.results391,go_sem]) rfl (oU.no HO.o HB1.o)
theorem aL3 (r d:Int){sa:Option Addr}{sn sc:Nat}{S:eO}(h:Wt W V b wv (.slice sa sn sc) mv tv M T)(hS:Spn.Spans W sa sn sc S)(hT:T.length<=sn)(hM:M.length<=1000000)(hr:eD r T.length)(hs:S.getD r.toNat (0,0)=(lo,hi))(hw:Wh lo hi) :
  Calls Tryz.prog 392 #[.pointer (some ⟨b,0,none⟩),.i r,.i d] V (oU W V b wv (.slice sa sn sc) tv M T (muL lo hi (gv T r) d M.length)):=by
 have HF0:=aA h
 have HLe:=aA h.le
 have HM:=aA hM
 obtain⟨m,hm⟩:∃ m:Int,(M.length:Int)=m:=⟨_,rfl⟩
 rw[hm]
 have HMl:=aA hm
 obtain⟨w1,w2,w3,w4,w5⟩:=hw
 obtain⟨j,gt,ct,rfl,hj,htl,rfl,ct0⟩:=h.reg hr
 obtain⟨x,hx⟩:∃ x,gv T (j:Int)=x:=⟨_,rfl⟩
 rw[hx] at ct0 ⊢
 have hg1:=h.w.cell 1 rfl
 have hg3:=h.w.cell 3 rfl
 obtain⟨gs,off,rfl,hgs,hsc⟩:=(hS.later h.lo).at (by omega)
 obtain⟨c0,c1⟩:=hsc j (by omega)
 rw[iTn] at hs
 rw[hs] at c0 c1
 dsimp only at c0 c1
 have hsn:=hS.le
 have hsn2:=hS.max
 unfold maxLen at hsn2
 have i0':(0:Int)<=j:=by omega
 have i1':(j:Int) < sn:=by omega
 obtain⟨tl,htl'⟩:∃ tl,T.length=tl:=⟨_,rfl⟩
 rw[htl'] at hg3 htl
 have i2':(j:Int) < tl:=by omega
 have hb0:=h.w.lt
 have hgt:gt < V.heap.size:=wBl V _ ct0
 clear hx hm h hS hT hM hr hs hsc hj
 have HMg:=aA fun(w:World)=>aIb (max (-lo) hi) d w
 unfold muL
 obtain⟨⟨k,s,ok⟩,hK⟩:∃ Z,mgZ (max (-lo) hi) d=Z:=⟨_,rfl⟩
 rw[hK] at HMg ⊢
 dsimp only [mgV] at HMg ⊢
 clear hK
 obtain⟨O,hO⟩:∃ O,(if ok=true then(if 0<=lo then some [(⟨33,x,0,0,k,s⟩:In)] else some [⟨33,x,0,0,k,s⟩,⟨30,x,0,0,31,0⟩,⟨9,m,m+1,0,0,0⟩]) else none)=O:=⟨_,rfl⟩
 rw[hO]
 have HO':=aA hO
 clear hO
 have hmx:(hi<=-lo/\max (-lo) hi=-lo)\/(-lo < hi/\max (-lo) hi=hi):=by omega
 rcases hmx with⟨hmx,e⟩|⟨hmx,e⟩
 all_goals
  rw[e] at HMg
  clear e
  go_enter Tryz.func392,Tryz.ntmps392
  go_upto_region 1 with fail
  go_region_held3 (fun w'=>w'.cell? ⟨b,1,none⟩=some (.slice (some ⟨gs,off,none⟩) sn sc)/\w'.cell? ⟨b,3,none⟩=some (.slice (some ⟨gt,0,none⟩) tl ct)/\w'.cell? ⟨gs,off+j*2,none⟩=some (.i lo)/\w'.cell? ⟨gs,off+j*2+1,none⟩=some (.i hi)/\w'.cell? ⟨gt,j,none⟩=some (.i x))
   (first|exact⟨hg1,hg3,c0,c1,ct0⟩|go_keep) (fail)
  obtain⟨V1,hV1⟩:∃ V1,(V.alloc (.cells #[.i lo,.i hi] 165)).drew=V1:=⟨_,rfl⟩
  rw[hV1]
  have HF1:=aA (HF0.o.below (bel (aD V (.cells #[.i lo,.i hi] 165)) (aF _)))
  have HC1:=aA ((aB.new V 165 #[.i lo,.i hi]).below (aF _))
  have HB1:=aA (bel (aD V (.cells #[.i lo,.i hi] 165)) (aF _))
  rw[hV1] at HF1 HC1 HB1
  have HL1:=aA (jB HLe.o HB1.o)
  obtain⟨gb,hgb⟩:∃ gb,V.heap.size=gb:=⟨_,rfl⟩
  rw[hgb] at HC1 ⊢
  obtain⟨s0,s1⟩:=aP HC1.o
  clear hg1 hg3 c0 c1 ct0 HF0 hV1 hgb htl' hgs hgt hb0
  go_wp2_with fail
  refine(HMg.o _).mono ?_
  rintro e w' ⟨rfl,rfl⟩
  clear HMg
  cases ok
  ·have HO:=aA (HO'.o.symm.trans (if_neg (by simp)))
   clear HO'
   go_wp2_with fail
   exact bPr (v:=.tuple #[.i 0,.bool false]) (by simp[results,Tryz.results392,go_sem]) rfl (oU.no HO.o HB1.o)
  ·have hO:=HO'.o
   rw[if_pos rfl] at hO
   have HU:=aA (lU ⟨33,x,0,0,k,s⟩ HF1.o HMl.o (by have:=HM.o;omega))
   go_wp2_with fail
   refine HU.o.mono ?_
   clear HU
   rintro e V2 ⟨rfl,⟨mv2,hw⟩,hb,hk⟩
   have HF2:=aA hw
   have HL2:=aA (HL1.o.trans hb)
   have HC2:=aA (hk _ _ HC1.o)
   clear hw hb hk s0 s1
   obtain⟨s0,s1⟩:=aP HC2.o
   by_cases h0:0<=lo
   ·rw[if_pos h0] at hO
    have HO:=aA hO.symm
    have q0:decide (lo < 0)=false:=by simpa using h0
    clear hO HO' h0
    go_wp2_with fail
    exact bPr (v:=.tuple #[.i m,.bool true]) (by simp[results,Tryz.results392,go_sem]) rfl (oU.many _ HO.o (by have:=HMl.o;have:=HMl.o;simp;simp at *;omega) ⟨_,by simpa using HF2.o⟩ HL2.o)
   ·rw[if_neg h0] at hO
    have HO:=aA hO.symm
    have q0:decide (lo < 0)=true:=by simpa using h0
    clear hO HO' h0
    obtain⟨z1,hz1⟩:∃ z1:Int,m+1=z1:=⟨_,rfl⟩
    obtain⟨z2,hz2⟩:∃ z2:Int,m+2=z2:=⟨_,rfl⟩
    rw[hz1] at HO
    have HZ1:Hid (((M++[(⟨33,x,0,0,k,s⟩:In)]).length:Int)=z1):=aA (by have:=HMl.o;simp;omega)
    have HZ2:Hid (((M++[(⟨33,x,0,0,k,s⟩:In)]++[(⟨30,x,0,0,31,0⟩:In)]).length:Int)=z2):=aA (by have:=HMl.o;simp;omega)
    have HZm:=aA hz2
    clear hz1 hz2
    have HU:=aA (lU ⟨30,x,0,0,31,0⟩ HF2.o HZ1.o (by have:=HM.o;simp;omega))
    go_wp2_with fail
    refine HU.o.mono ?_
    clear HU
    rintro e V3 ⟨rfl,⟨mv3,hw⟩,hb,hk⟩
    have HF3:=aA hw
    have HL3:=aA (HL2.o.trans hb)
    clear hw hb hk
    have HU:=aA (lU ⟨9,m,z1,0,0,0⟩ HF3.o HZ2.o (by have:=HM.o;simp;omega))
    go_wp2_with fail
    refine HU.o.mono ?_
    clear HU
    rintro e V4 ⟨rfl,⟨mv4,hw⟩,hb,hk⟩
    have HF4:=aA hw
    have HL4:=aA (HL3.o.trans hb)
    clear hw hb hk
    go_wp2_with fail
    exact bPr (v:=.tuple #[.i z2,.bool true]) (by simp[results,Tryz.results392,go_sem]) rfl (oU.many _ HO.o (by have:=HMl.o;have:=HZm.o;simp;simp at *;omega) ⟨_,by simpa using HF4.o⟩ HL4.o)
end Go.Proofs.Rdc
