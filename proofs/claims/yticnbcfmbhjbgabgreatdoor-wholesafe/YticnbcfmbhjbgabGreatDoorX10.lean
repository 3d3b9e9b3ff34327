import Derived.Test.YticnbcfmbhjbgabGreatDoorXH
import Derived.Laws.AppendOwn
import Derived.Laws.OwnMore
import Derived.OwnWalk
import Derived.RangeFuncBox
import Derived.Test.YticnbcfmbhjbgabGreatDoorX09
import Derived.Test.YticnbcfmbhjbgabGreatDoorX02
set_option maxRecDepth 100000
set_option maxHeartbeats 32000000
set_option linter.unusedVariables false
namespace Go.Proofs.YticnbcfmbhjbgabGreatDoor
open Go.RowKit Go.IntWalk Lx Pz
variable {A B BS:List Int} {w:World} {base:Nat}
def tkE (L:List Int)(n:Nd):Bool:=L.getD 0 0==n.a&&(L.getD 1 0==n.b&&L.getD 2 0==n.c)
def jD (BS:List Int)(i:Nat)(n:Nd)(s:List Int × Nat):Option (List Int × Nat) :=
 if bT (gY n.op) 0 s.1.length&&(jX n s.2&&tkE (s.1.drop (s.1.length-(gY n.op).toNat)) n) then
  if s.2 < BS.length/\BS.getD s.2 0=i then
   (if s.1.length-(gY n.op).toNat=0 then some ([],s.2+1) else none)
  else some (s.1.take (s.1.length-(gY n.op).toNat)++[(i:Int)],s.2)
 else none
def jZ (BS:List Int):Nat->List Nd->List Int × Nat->Option (List Int × Nat)
 | _,[],s=>some s
 | i,n::r,s=>(jD BS i n s).bind (jZ BS (i+1) r)
def sM (BS:List Int)(NS:List Nd):Bool :=
 match jZ BS 0 NS ([],0) with
 | some s=>s.2==BS.length&&s.1.length==1
 | none=>false
theorem iC (BS:List Int):∀(A B:List Nd) (i:Nat) (s:List Int × Nat),jZ BS i (A++B) s=(jZ BS i A s).bind (jZ BS (i+A.length) B)
 | [],B,i,s=>rfl
 | n::A,B,i,s=>by
  simp only[List.cons_append,jZ,lLc]
  cases jD BS i n s with
  | none=>rfl
  | some s' =>
   show jZ BS (i+1) (A++B) s'=_
   rw[iC BS A B]
   rw[show i+1+A.length=i+(A.length+1) by omega]
   rfl
theorem aKx {NS:List Nd}{k:Nat}{s:List Int × Nat}(hk:k < NS.length)(h:jZ BS 0 (NS.take k) ([],0)=some s):jZ BS 0 (NS.take (k+1)) ([],0)=jD BS k (NS.getD k n0) s:=by
 rw[lTs hk,iC,h,lLt,Nat.min_eq_left (by omega),gdE,gEg hk,nZa]
 show (jD BS k _ s).bind (jZ BS (k+1) [])=_
 simp only[oGs]
 generalize jD BS k NS[k] s=r
 cases r <;> rfl
theorem qW {NS:List Nd}{k:Nat}(h:jZ BS 0 (NS.take k) ([],0)=none):sM BS NS=false:=by
 have:jZ BS 0 NS ([],0)=none:=by
  conv=>lhs;rw[<-lTd k NS]
  rw[iC,h];rfl
 unfold sM
 rw[this]
theorem xS (op:Int):gY op<=3:=by
 unfold gY
 split
 ·omega
 ·split
  ·omega
  ·unfold mU
   repeat' split
   all_goals omega
theorem aF2 {i:Nat}{n:Nd}{s:List Int × Nat}(h:bT (gY n.op) 0 s.1.length=false):jD BS i n s=none:=by
 unfold jD
 rw[h];rfl
theorem aAg {L:List Int}{n:Nd}(h:bT (gY n.op) 0 L.length=true):∃ A B,L=A++B/\gY n.op=B.length/\B.length<=3:=by
 have h3:=xS n.op
 simp only[bT,bAt,dEt] at h
 refine⟨L.take (L.length-(gY n.op).toNat),L.drop (L.length-(gY n.op).toNat),(lTd _ _).symm,?_,?_⟩ <;> rw[List.length_drop] <;> omega
theorem aDu {i:Nat}{n:Nd}{bd:Nat}(hb:gY n.op=B.length) :
  jD BS i n (A++B,bd)=if jX n bd&&tkE B n then(if bd < BS.length/\BS.getD bd 0=i then(if A.length=0 then some ([],bd+1) else none) else some (A++[(i:Int)],bd)) else none:=by
 unfold jD
 simp only[lLa,hb,iTn,Nat.add_sub_cancel,List.take_left,List.drop_left]
 rw[show bT (B.length:Int) 0 ((A.length+B.length:Nat):Int)=true by simp[bT];omega,Bool.true_and]
theorem aTz {e:TypeId}{g cap:Nat}(h:w.ownsRow base e 1 (.slice (some ⟨g,0,none⟩) (A.length+B.length) cap) (A.length+B.length) (iX (A++B))):w.ownsRow base e 1 (.slice (some ⟨g,0,none⟩) A.length cap) A.length (iX A):=by
 obtain⟨_,h2⟩:=h
 rcases h2 with⟨h0,_⟩|⟨g',cap',cur,hv,hg,hh,hn,hcap,hsz,htake⟩
 ·cases h0
 ·cases hv
  refine⟨by simp,.inr ⟨g,cap,cur,rfl,hg,hh,by omega,hcap,hsz,?_⟩⟩
  have h3:(cur.toList.take ((A.length+B.length)*1)).take (A.length*1)=(iX (A++B)).take (A.length*1):=by rw[htake]
  rw[List.take_take,Nat.min_eq_left (by omega)] at h3
  rw[h3,Nat.mul_one,show iX (A++B)=iX A++iX B from List.map_append]
  exact List.take_left' (by simp)
theorem aW1 {g cap:Nat}(h:w.ownsRow base 3 1 (.slice (some ⟨g,0,none⟩) (A.length+B.length) cap) (A.length+B.length) (iX (A++B))):Iz w (some ⟨g,A.length,none⟩) B.length (cap-A.length) B:=by
 obtain⟨a,c,e,hi⟩:=Iz.of_owns h
 cases e
 refine⟨rfl,by have:=hi.le;omega,by have:=hi.max;omega,?_⟩
 rcases hi.cell with h0|⟨b,off,e,hb,hc⟩
 ·exact .inl (by omega)
 ·cases e
  refine .inr ⟨g,A.length,rfl,hb,fun i hi=>?_⟩
  have:=hc (A.length+i) (by omega)
  rw[nZa] at this
  rw[this,gdE,gdE,gAr (by omega),Nat.add_sub_cancel_left]
theorem nG {size n:Nat}{e:TypeId}{v:Value}{xs:List Value}(h:w.ownsRow base e size v n xs):(v=.slice none 0 0/\n=0)\/∃ g cap,v=.slice (some ⟨g,0,none⟩) n cap:=by
 rcases h.2 with h|⟨g,cap,cur,hv,-⟩
 ·exact .inl h
 ·exact .inr ⟨g,cap,hv⟩
theorem uC {W:World}{v:Value}{ops:Array Oper}{rest:List Oper}{o:Oper}{a:Act}{Q:Exit->Act->World->Prop}
  (hgd:o.guard=none) (s x:Operand) (ho:o.op=.call { callee:=.builtin .append,args:=#[s,x],argTypes:=#[22,22] })
  (hs:a.eval s=v) (hO:W.ownsRow base 3 1 v A.length (iX A)) (hbase:base<=W.heap.size) (q:Nat) (n:Int) (hx:a.eval x=.slice (some ⟨q,0,none⟩) 1 1) (hc:aB W q 3 #[.i n]) (h3:A.length<=2000000)
  (h:∀ g cap w',w'.ownsRow base 3 1 (.slice (some ⟨g,0,none⟩) (A.length+1) cap) (A++[n]).length (iX (A++[n]))->Kp [3] W w'->(∀ w0,Below base w0 W->w0.heap.size=base->Below base w0 w')->wpList Tryz.prog ops Q rest (a.put o.dst (.slice (some ⟨g,0,none⟩) (A.length+1) cap)) w') :
  wpList Tryz.prog ops Q (o::rest) a W:=by
 obtain⟨i0,hi0,hz0,hz1,hz2⟩:=info_parts aIw
 refine wpList_append_lies W hgd s x 22 ho base 3 i0 _ 1 8 Tryz.underlying22 hi0 hz0 hz1 hz2 rfl (by omega) v A.length (iX A) hs hO ⟨q,0,none⟩ 1 1 [.i n] hx rfl (lF hc) (by simp[Value.oneCell']) (by omega) (by unfold maxLen;omega) (by omega) hbase W.heap.size rfl ?_
 intro g cap w' hown hgrow hat hlt
 have hk:Kp [3] W w':=Kp.grown hgrow fun k hk=>by
  obtain⟨_,cs,fr,hb⟩:=aR hO k hk
  exact⟨cs,_,fr,hb,by simp⟩
 exact h g cap w' (by rw[lLa];simpa using hown) hk (fun w0 hb h0=>hb.grown hgrow hbase fun k hk=>(aR hO k hk).1)
theorem vZ {W:World}{na ba da:Option Addr}{nl nc bl bc dl dc:Nat}{root:Int}{NS:List Nd}(hB:Iz W ba bl bc BS)(hN:Nz W da dl dc NS)(hd:dl<=1024) :
  Calls Tryz.prog 140 #[.agg (iG (.slice na nl nc) (.slice ba bl bc) (.slice da dl dc) (.i root))] W fun e W'=>e=.returned (.bool (sM BS NS))/\Below W.heap.size W W':=by
 have HBI:=aA hB
 have HNI:=aA hN
 have hbl:bl<=9223372036854775807:=by have:=hB.le;have:=hB.max;unfold maxLen at *;omega
 have HLB:=aA hB.len
 have HLN:=aA hN.len
 clear hB hN
 go_enter Tryz.func140,Tryz.ntmps140
 go_wp2_with fail
 go_loopw [3,4,12] (fun v o i wr=>∃(k bd:Nat) (L:List Int),k<=dl/\i=.i k/\o=.i bd/\bd<=k/\L.length<=k/\Hid (jZ BS 0 (NS.take k) ([],0)=some (L,bd))/\Hid (wr.ownsRow W.heap.size 3 1 v L.length (iX L))/\Hid (aB wr W.heap.size 51 (iG (.slice na nl nc) (.slice ba bl bc) (.slice da dl dc) (.i root)))/\Hid (Below W.heap.size W wr)) (fun _ _ i _=>dl-(intOf i).toNat)
 case atStart=>exact⟨0,0,[],nZl _,rfl,rfl,nLr _,nLr _,aA rfl,aA (World.ownsRow_nil _ _ _ _),aA (aB.new W _ _),aA (aD _ _)⟩
 case round =>
  obtain⟨k,bd,L,hk,rfl,rfl,hbd,hL,HM,HO,HC,HB⟩:=hrel
  rename World=>V
  by_cases hlt:k < dl
  ·obtain⟨g,off,rfl,hat⟩:=(HNI.o.later HB.o).at (by omega)
   obtain⟨e0,e1,e2,e3,e4,e5,e6,e7,e8⟩:=hat k hlt
   clear hat
   have hi0:(0:Int)<=k:=by omega
   have hi1:(k:Int) < dl:=by omega
   have HS:=aA (aKx (k:=k) (by rw[HLN.o];exact hlt) HM.o)
   generalize NS.getD k n0=n at *
   obtain⟨va,vc,rfl,HI⟩:=Iz.of_owns HO.o
   have HLL:=aA HI.len
   clear HI
   go_wp2_with fail
   refine(aLa _ _).mono ?_
   rintro e V1 ⟨rfl,hV1⟩
   have HN1:Hid (aB V1 V.heap.size 124 (bN n)):=aA (by rw[hV1];exact aB.new V _ _)
   have HC1:Hid (aB V1 W.heap.size 51 (iG (.slice na nl nc) (.slice ba bl bc) (.slice (some ⟨g,off,none⟩) dl dc) (.i root))):=aA (by rw[hV1];exact HC.o.alloc _)
   have HO1:Hid (V1.ownsRow W.heap.size 3 1 (.slice va L.length vc) L.length (iX L)):=aA (by rw[hV1];exact HO.o.alloc _)
   have HB1:Hid (Below W.heap.size W V1):=aA (by rw[hV1];exact bel HB.o (aD _ _))
   clear hV1 HC HO HB e0 e1 e2 e3 e4 e5 e6 e7 e8
   generalize V.heap.size=q at *
   obtain⟨f0,f1,f2,f3,f4,f5,f6,f7,f8⟩:=HN1.o.nine
   cases hw:bT (gY n.op) 0 L.length with
   | false =>
    have HF:=aA (qW (HS.o.trans (aF2 hw)))
    have HW:=aA fun W=>iO (gY n.op) 0 L.length W
    rw[hw] at HW
    clear hw
    generalize gY n.op=pz at *
    go_wp2_with fail
    refine(HW.o _).mono ?_
    rintro e V2 ⟨rfl,rfl⟩
    go_wp2_with fail
    go_ret
    exact⟨aV HF.o.symm,HB1.o⟩
   | true =>
    obtain⟨A,B,rfl,hp,hB3⟩:=aAg hw
    have HS1:=aA (HS.o.trans (aDu hp))
    clear HS
    rw[lLa] at HO1 hL hw ⊢
    have HW:=aA fun W=>iO (gY n.op) 0 ((A.length+B.length:Nat):Int) W
    rw[hw] at HW
    rw[hp] at HW ⊢
    clear hw
    have HFd:=aA fun W=>aGu n bd W (by omega) (by omega)
    cases hf:jX n bd with
    | false =>
     have HF:=aA (qW (HS1.o.trans (by rw[hf];rfl)))
     rw[hf] at HFd
     clear hf
     go_wp2_with fail
     refine(HW.o _).mono ?_
     rintro e V2 ⟨rfl,rfl⟩
     go_wp2_with fail
     refine(HFd.o _).mono ?_
     rintro e V2 ⟨rfl,hb2⟩
     have HB2:=aA (bel HB1.o hb2)
     clear hb2
     go_wp2_with fail
     go_ret
     exact⟨aV HF.o.symm,HB2.o⟩
    | true =>
     rw[hf] at HFd
     go_wp2_with fail
     refine(HW.o _).mono ?_
     rintro e V2 ⟨rfl,rfl⟩
     go_wp2_with fail
     refine(HFd.o _).mono ?_
     rintro e V2 ⟨rfl,hb2⟩
     have HB2:=aA (bel HB1.o hb2)
     have HN2:=aA (HN1.o.below hb2)
     have HC2:=aA (HC1.o.below hb2)
     have HO2:=aA (bC HO1.o (Kp.of_below [] hb2) (by decide))
     clear hb2 HFd HW HC1 HO1 HB1 HN1 f0 f1 f2 f3 f4 f5 f6 f7 f8
     obtain⟨f0,f1,f2,f3,-,-,-,-,-⟩:=HN2.o.nine
     have HEQ:=aA fun w=>aSb 9998 (B.getD 0 0) (B.getD 1 0) (B.getD 2 0) n.a n.b n.c w
     go_upto_region 10 with fail
     have HA1:=aA (Iz.of_owns HO2.o)
     rcases nG HO2.o with⟨hv,h0⟩|⟨g2,cap2,hv⟩
     case' inl =>
      injection hv with hv1 hv2 hv3
      subst hv1 hv3
      have hA0:A.length=0:=by omega
      have hB0:B.length=0:=by omega
      have HOA:Hid (V2.ownsRow W.heap.size 3 1 (.slice none 0 0) A.length (iX A)):=aA (by rw[List.length_eq_zero_iff.1 hA0];exact World.ownsRow_nil _ _ _ _)
      have HTk:=aA (vP (W:=V2.drew) (a:=none) (n:=0) (cap:=0) (L:=B) ⟨hB0,by omega,by unfold maxLen;omega,.inl rfl⟩ (by omega))
      clear HO2 h0 hv2 HA1
      rw[hA0,hB0]
     case' inr =>
      injection hv with hv1 hv2 hv3
      subst hv1 hv3
      have hcap:A.length+B.length<=vc:=by obtain⟨a',c',e',hi'⟩:=HA1.o;cases e';exact hi'.le
      have hcap2:vc<=9223372036854775807:=by obtain⟨a',c',e',hi'⟩:=HA1.o;cases e';have:=hi'.max;unfold maxLen at this;omega
      have HOA:=aA (aTz HO2.o)
      clear HA1
      by_cases hvc:vc=A.length
      case' pos =>
       have hB0:B.length=0:=by omega
       have HTk:=aA (vP (W:=V2.drew) (a:=some ⟨g2,0,none⟩) (n:=0) (cap:=0) (L:=B) ⟨hB0,by omega,by unfold maxLen;omega,.inl rfl⟩ (by omega))
       subst hvc
       clear HO2
       rw[hB0]
      case' neg =>
       have HTk:=aA (vP (W:=V2.drew) ((aW1 HO2.o).later (aF V2)) hB3)
       clear HO2
       have hz0:(0:Int)<=A.length:=by omega
       have hz1:(A.length:Int)<=(A.length+B.length:Nat):=by omega
       have hz2:(A.length:Int)<=vc:=by omega
       have hz3:(A.length:Int)<=(A.length:Int)+(B.length:Int):=by omega
       have hz4:(0:Int)<=(B.length:Int):=by omega
     all_goals
      cases htk:(B.getD 0 0==n.a&&(B.getD 1 0==n.b&&B.getD 2 0==n.c)) with
      | false =>
       have HF:=aA (qW (HS1.o.trans (by unfold tkE;rw[hf,htk];rfl)))
       rw[htk] at HEQ
       clear htk hf
       have heq:=HEQ.o
       go_region_held3 (fun w'=>w'.cell? ⟨q,1,none⟩=some (.i n.a)/\w'.cell? ⟨q,2,none⟩=some (.i n.b)/\w'.cell? ⟨q,3,none⟩=some (.i n.c))
        (first|exact⟨f1,f2,f3⟩|exact⟨t1,t2,t3⟩|go_keep)
        ((first
         | (go_at_call 206;refine(HTk.o).mono ?_;rintro e' V3 ⟨rfl,hb3⟩;have hb4:=bel (aF V2) hb3;obtain⟨t0,t1,t2,t3,-,-,-,-,-⟩:=(HN2.o.below hb4).nine;have HB3:=aA (bel HB2.o hb4);have HC3:=aA (HC2.o.below hb4);have HO3:=aA (bC HOA.o (Kp.of_below [] hb4) (by decide));clear hb3 hb4)))
       all_goals
        go_wp2_with fail
        go_ret
        exact⟨aV HF.o.symm,HB3.o⟩
      | true =>
       have HS2:Hid (jZ BS 0 (NS.take (k+1)) ([],0)=(if bd < BS.length/\BS.getD bd 0=(k:Int) then(if A.length=0 then some ([],bd+1) else none) else some (A++[(k:Int)],bd))):=aA (HS1.o.trans (by unfold tkE;rw[hf,htk];rfl))
       rw[htk] at HEQ
       clear htk hf HS1
       have heq:=HEQ.o
       by_cases hbb:bd < bl
       ·obtain⟨b0,boff,rfl,hbc⟩:∃ b off,ba=some ⟨b,off,none⟩/\W.cell? ⟨b,off+bd,none⟩=some (.i (BS.getD bd 0)):=by
         rcases HBI.o.cell with h0|⟨b,off,ha,hlb,hc⟩
         ·omega
         ·exact⟨b,off,ha,hc bd hbb⟩
        have HBC:=aA hbc
        clear hbc
        have hj0:(0:Int)<=bd:=by omega
        have hj1:(bd:Int) < bl:=by omega
        by_cases hxk:BS.getD bd 0=k
        ·rw[hxk] at HBC
         by_cases hA0:A.length=0
         ·have HS3:Hid (jZ BS 0 (NS.take (k+1)) ([],0)=some ([],bd+1)):=aA (HS2.o.trans (by rw[if_pos ⟨by rw[HLB.o];exact hbb,hxk⟩,if_pos hA0]))
          have hA1:((A.length:Int)+1 != 1)=false:=by simp;omega
          clear HS2 hxk hA0
          go_region_held3 (fun w'=>w'.cell? ⟨q,1,none⟩=some (.i n.a)/\w'.cell? ⟨q,2,none⟩=some (.i n.b)/\w'.cell? ⟨q,3,none⟩=some (.i n.c))
           (first|exact⟨f1,f2,f3⟩|exact⟨t1,t2,t3⟩|go_keep)
           ((first
            | (go_at_call 206;refine(HTk.o).mono ?_;rintro e' V3 ⟨rfl,hb3⟩;have hb4:=bel (aF V2) hb3;obtain⟨t0,t1,t2,t3,-,-,-,-,-⟩:=(HN2.o.below hb4).nine;have HB3:=aA (bel HB2.o hb4);have HC3:=aA (HC2.o.below hb4);have HO3:=aA (bC HOA.o (Kp.of_below [] hb4) (by decide));clear hb3 hb4)))
          all_goals
           go_wp2_with (at_builtin;refine uC (A:=A) rfl _ _ rfl rfl (HO3.o.alloc _) (by have:=HB3.o.size;simp;omega) _ k rfl (aB.new _ _ _) (by omega) ?_;intro g4 cap4 V4 hown hk4 hold;have HB4:=aA (hold W (bel HB3.o (aD _ _)) rfl);have HC4:=aA ((HC3.o.alloc _).kp hk4 (by decide));have HO4:=aA hown;clear hown hk4 hold;have hx1:=HC4.o.cell 1 rfl;have hx2:=(HB4.o.cell (p:=⟨b0,boff+bd,none⟩) (wBl W _ HBC.o)).trans HBC.o)
           go_roundw
           case rel=>exact⟨k+1,bd+1,[],by omega,by go_num,by go_num,by omega,by simp,aA HS3.o,aA (World.ownsRow_nil _ _ _ _),aA HC4.o,aA HB4.o⟩
           case measure=>simp[intOf];omega
         ·first
          | exact absurd (by assumption) hA0
          |
           have HF:=aA (qW (HS2.o.trans (by rw[if_pos ⟨by rw[HLB.o];exact hbb,hxk⟩,if_neg hA0])))
           have hA1:((A.length:Int)+1 != 1)=true:=by simp;omega
           clear HS2 hxk
           go_region_held3 (fun w'=>w'.cell? ⟨q,1,none⟩=some (.i n.a)/\w'.cell? ⟨q,2,none⟩=some (.i n.b)/\w'.cell? ⟨q,3,none⟩=some (.i n.c))
            (first|exact⟨f1,f2,f3⟩|exact⟨t1,t2,t3⟩|go_keep)
            ((first
             | (go_at_call 206;refine(HTk.o).mono ?_;rintro e' V3 ⟨rfl,hb3⟩;have hb4:=bel (aF V2) hb3;obtain⟨t0,t1,t2,t3,-,-,-,-,-⟩:=(HN2.o.below hb4).nine;have HB3:=aA (bel HB2.o hb4);have HC3:=aA (HC2.o.below hb4);have HO3:=aA (bC HOA.o (Kp.of_below [] hb4) (by decide));clear hb3 hb4)))
           all_goals
            go_wp2_with (at_builtin;refine uC (A:=A) rfl _ _ rfl rfl (HO3.o.alloc _) (by have:=HB3.o.size;simp;omega) _ k rfl (aB.new _ _ _) (by omega) ?_;intro g4 cap4 V4 hown hk4 hold;have HB4:=aA (hold W (bel HB3.o (aD _ _)) rfl);have HC4:=aA ((HC3.o.alloc _).kp hk4 (by decide));have HO4:=aA hown;clear hown hk4 hold;have hx1:=HC4.o.cell 1 rfl;have hx2:=(HB4.o.cell (p:=⟨b0,boff+bd,none⟩) (wBl W _ HBC.o)).trans HBC.o)
            go_ret
            exact⟨aV HF.o.symm,HB4.o⟩
        ·have HS3:=aA (HS2.o.trans (if_neg (fun h=>hxk h.2)))
         have hxk':(BS.getD bd 0==(k:Int))=false:=by simpa using hxk
         clear HS2 hxk
         generalize BS.getD bd 0=bx at *
         go_region_held3 (fun w'=>w'.cell? ⟨q,1,none⟩=some (.i n.a)/\w'.cell? ⟨q,2,none⟩=some (.i n.b)/\w'.cell? ⟨q,3,none⟩=some (.i n.c))
          (first|exact⟨f1,f2,f3⟩|exact⟨t1,t2,t3⟩|go_keep)
          ((first
           | (go_at_call 206;refine(HTk.o).mono ?_;rintro e' V3 ⟨rfl,hb3⟩;have hb4:=bel (aF V2) hb3;obtain⟨t0,t1,t2,t3,-,-,-,-,-⟩:=(HN2.o.below hb4).nine;have HB3:=aA (bel HB2.o hb4);have HC3:=aA (HC2.o.below hb4);have HO3:=aA (bC HOA.o (Kp.of_below [] hb4) (by decide));clear hb3 hb4)))
         all_goals
          go_wp2_with (at_builtin;refine uC (A:=A) rfl _ _ rfl rfl (HO3.o.alloc _) (by have:=HB3.o.size;simp;omega) _ k rfl (aB.new _ _ _) (by omega) ?_;intro g4 cap4 V4 hown hk4 hold;have HB4:=aA (hold W (bel HB3.o (aD _ _)) rfl);have HC4:=aA ((HC3.o.alloc _).kp hk4 (by decide));have HO4:=aA hown;clear hown hk4 hold;have hx1:=HC4.o.cell 1 rfl;have hx2:=(HB4.o.cell (p:=⟨b0,boff+bd,none⟩) (wBl W _ HBC.o)).trans HBC.o)
          go_roundw
          case rel=>exact⟨k+1,bd,A++[(k:Int)],by omega,by go_num,by go_num,by omega,by simp;omega,aA HS3.o,aA (by first|exact HO4.o|(have h4:=HO4.o;rw[hA0] at h4;exact h4)),aA HC4.o,aA HB4.o⟩
          case measure=>simp[intOf];omega
       ·have HS3:=aA (HS2.o.trans (if_neg (fun h=>hbb (by rw[<-HLB.o];exact h.1))))
        clear HS2
        go_region_held3 (fun w'=>w'.cell? ⟨q,1,none⟩=some (.i n.a)/\w'.cell? ⟨q,2,none⟩=some (.i n.b)/\w'.cell? ⟨q,3,none⟩=some (.i n.c))
         (first|exact⟨f1,f2,f3⟩|exact⟨t1,t2,t3⟩|go_keep)
         ((first
          | (go_at_call 206;refine(HTk.o).mono ?_;rintro e' V3 ⟨rfl,hb3⟩;have hb4:=bel (aF V2) hb3;obtain⟨t0,t1,t2,t3,-,-,-,-,-⟩:=(HN2.o.below hb4).nine;have HB3:=aA (bel HB2.o hb4);have HC3:=aA (HC2.o.below hb4);have HO3:=aA (bC HOA.o (Kp.of_below [] hb4) (by decide));clear hb3 hb4)))
        all_goals
         go_wp2_with (at_builtin;refine uC (A:=A) rfl _ _ rfl rfl (HO3.o.alloc _) (by have:=HB3.o.size;simp;omega) _ k rfl (aB.new _ _ _) (by omega) ?_;intro g4 cap4 V4 hown hk4 hold;have HB4:=aA (hold W (bel HB3.o (aD _ _)) rfl);have HC4:=aA ((HC3.o.alloc _).kp hk4 (by decide));have HO4:=aA hown;clear hown hk4 hold;have hx1:=HC4.o.cell 1 rfl)
         go_roundw
         case rel=>exact⟨k+1,bd,A++[(k:Int)],by omega,by go_num,by go_num,by omega,by simp;omega,aA HS3.o,aA (by first|exact HO4.o|(have h4:=HO4.o;rw[hA0] at h4;exact h4)),aA HC4.o,aA HB4.o⟩
         case measure=>simp[intOf];omega
  ·have hkd:k=dl:=by omega
   have HF:Hid (sM BS NS=(bd==bl&&L.length==1)):=aA (by
    have h:=HM.o
    rw[lTl (by rw[HLN.o];omega)] at h
    unfold sM
    rw[h,HLB.o])
   subst hkd
   obtain⟨va,vc,rfl,HI⟩:=Iz.of_owns HO.o
   clear HI
   have hx1:=HC.o.cell 1 rfl
   by_cases h1:bd=bl
   ·subst h1
    by_cases h2:L.length=1
    ·have HF2:=aA (show sM BS NS=true by rw[HF.o,h2];simp)
     go_wp2_with fail
     go_ret
     exact⟨aV HF2.o.symm,HB.o⟩
    ·have HF2:=aA (show sM BS NS=false by rw[HF.o,show (L.length==1)=false by simpa using h2];simp)
     have k2:((L.length:Int)==1)=false:=by simp;omega
     go_wp2_with fail
     go_ret
     exact⟨aV HF2.o.symm,HB.o⟩
   ·have HF2:=aA (show sM BS NS=false by rw[HF.o,show (bd==bl)=false by simpa using h1];rfl)
    have k1:((bd:Int)==(bl:Int))=false:=by simp;omega
    go_wp2_with fail
    go_ret
    exact⟨aV HF2.o.symm,HB.o⟩
end Go.Proofs.YticnbcfmbhjbgabGreatDoor
namespace Go.Proofs.YticnbcfmbhjbgabGreatDoor
open Go.RowKit Go.IntWalk Lx Pz
theorem aUu {BS:List Int}{i:Nat}{n:Nd}{s t:List Int × Nat}(h:jD BS i n s=some t):t.2<=s.2+1:=by
 unfold jD at h
 split at h
 ·split at h
  ·split at h
   ·cases h;exact nLr _
   ·cases h
  ·cases h;exact Nat.le_succ _
 ·cases h
theorem aI5 {BS:List Int}:∀ {NS:List Nd} {i:Nat} {s t:List Int × Nat},jZ BS i NS s=some t->t.2<=s.2+NS.length
 | [],i,s,t,h=>by cases h;exact nLr _
 | n::NS,i,s,t,h=>by
  simp only[jZ] at h
  cases hs:jD BS i n s with
  | none=>rw[hs] at h;cases h
  | some u =>
   rw[hs] at h
   have h1:=aUu hs
   have h2:=aI5 (show jZ BS (i+1) NS u=some t from h)
   simp only[lLc]
   omega
theorem aJe {BS:List Int}{NS:List Nd}(h:sM BS NS=true):BS.length<=NS.length:=by
 unfold sM at h
 split at h
 ·rename_i s hs
  have:=aI5 hs
  simp only[bAt,beq_iff_eq] at h
  simp at this
  omega
 ·cases h
def pQ (NM:List aN)(BS:List Int)(NS:List Nd)(root:Int):Bool:=NM.length==BS.length&&(yJ NS.length root&&(sM BS NS&&zO NM))
theorem uU {W:World}{na ba da:Option Addr}{nl nc bl bc dl dc:Nat}{root:Int}{NM:List aN}{BS:List Int}{NS:List Nd}(hX:Tx W na nl nc NM)(hB:Iz W ba bl bc BS)(hN:Nz W da dl dc NS)(hs:∀ s ∈ NM,s.length<=9223372036854775807) :
  Calls Tryz.prog 84 #[.agg (iG (.slice na nl nc) (.slice ba bl bc) (.slice da dl dc) (.i root))] W fun e W'=>e=.returned (.i (if pQ NM BS NS root then 0 else 3))/\Below W.heap.size W W':=by
 have hdl:dl<=9223372036854775807:=by have:=hN.le;have:=hN.max;unfold maxLen at *;omega
 unfold pQ
 rw[hX.len,hB.len,hN.len]
 have hb0:=aD W (.cells (iG (.slice na nl nc) (.slice ba bl bc) (.slice da dl dc) (.i root)) 51)
 have HB:=aA hb0
 have HC:=aA (aB.new W 51 (iG (.slice na nl nc) (.slice ba bl bc) (.slice da dl dc) (.i root)))
 have HX:=aA (hX.later hb0)
 have HBI:=aA (hB.later hb0)
 have HN:=aA (hN.later hb0)
 have HLB:=aA hB.len
 have HLN:=aA hN.len
 have HS:=aA hs
 clear hX hB hN hb0 hs
 by_cases h1:nl=bl
 ·subst h1
  have k1:((nl:Int) != (nl:Int))=false:=by simp
  rw[show (nl==nl)=true by simp,Bool.true_and]
  have HE:=aA fun V=>yK (.slice na nl nc) (.slice ba nl bc) da dl dc root V hdl ⟨_,_,_,rfl⟩ ⟨_,_,_,rfl⟩
  cases he:yJ dl root with
  | false =>
   rw[he] at HE
   rw[Bool.false_and]
   clear he
   go_enter Tryz.func84,Tryz.ntmps84
   go_wp2_with fail
   refine(HE.o _).mono ?_
   rintro e V1 ⟨rfl,hb1⟩
   have HB1:=aA (bel HB.o hb1)
   clear hb1
   go_wp2_with fail
   go_ret
   exact⟨rfl,HB1.o⟩
  | true =>
   rw[he] at HE
   rw[Bool.true_and]
   have hd4:dl<=1024:=by simp[yJ,bT] at he;omega
   clear he
   cases ho:sM BS NS with
   | false =>
    rw[Bool.false_and]
    have HO:=aA ho
    clear ho
    go_enter Tryz.func84,Tryz.ntmps84
    go_wp2_with fail
    refine(HE.o _).mono ?_
    rintro e V1 ⟨rfl,hb1⟩
    have HB1:=aA (bel HB.o hb1)
    obtain⟨t0,t1,t2,t3⟩:=aX (HC.o.below hb1)
    have HI:=aA (fun na nl nc root=>vZ (na:=na) (nl:=nl) (nc:=nc) (root:=root) (HBI.o.later hb1) (HN.o.later hb1) hd4)
    rw[HO.o] at HI
    clear hb1 HB
    go_wp2_with fail
    refine(HI.o _ _ _ _).mono ?_
    rintro e V2 ⟨rfl,hb1⟩
    have HB2:=aA (bel HB1.o hb1)
    clear hb1
    go_wp2_with fail
    go_ret
    exact⟨rfl,HB2.o⟩
   | true =>
    rw[Bool.true_and]
    have HO:=aA ho
    have hn4:nl<=1024:=by have:=aJe ho;rw[HLB.o,HLN.o] at this;omega
    clear ho
    generalize hz:zO NM=z
    have HZ:=aA hz
    clear hz
    go_enter Tryz.func84,Tryz.ntmps84
    go_wp2_with fail
    refine(HE.o _).mono ?_
    rintro e V1 ⟨rfl,hb1⟩
    have HB1:=aA (bel HB.o hb1)
    have HC1:=aA (HC.o.below hb1)
    obtain⟨t0,t1,t2,t3⟩:=aX HC1.o
    have HI:=aA (fun na nl nc root=>vZ (na:=na) (nl:=nl) (nc:=nc) (root:=root) (HBI.o.later hb1) (HN.o.later hb1) hd4)
    have HX1:=aA (HX.o.later hb1)
    rw[HO.o] at HI
    clear hb1 HB
    go_wp2_with fail
    refine(HI.o _ _ _ _).mono ?_
    rintro e V2 ⟨rfl,hb1⟩
    have HB2:=aA (bel HB1.o hb1)
    obtain⟨s0,s1,s2,s3⟩:=aX (HC1.o.below hb1)
    have HM:=aA (aKc (HX1.o.later hb1) hn4 HS.o)
    rw[HZ.o] at HM
    clear hb1
    cases z
    all_goals
     go_wp2_with fail
     refine(HM.o).mono ?_
     rintro e V3 ⟨rfl,hb1⟩
     have HB3:=aA (bel HB2.o hb1)
     clear hb1
     go_wp2_with fail
     go_ret
     exact⟨rfl,HB3.o⟩
 ·have k1:((nl:Int) != (bl:Int))=true:=by simp;omega
  rw[show (nl==bl)=false by simpa using h1,Bool.false_and]
  go_enter Tryz.func84,Tryz.ntmps84
  go_wp2_with fail
  go_ret
  exact⟨rfl,HB.o⟩
end Go.Proofs.YticnbcfmbhjbgabGreatDoor
namespace Go.Proofs.YticnbcfmbhjbgabGreatDoor
open Lx Pz
variable {bd:Nat} {BS:List Int}
def eG:Tk->Bool
 | .num v=>decide (0<=v)&&decide (v<=2147483647)
 | .op _ o=>gY o==2
 | .word s=>rU s
 | _=>true
theorem aX2 {t:Tok}(h:Wf t):eG (ab t)=true:=by
 rcases h with⟨hk,h⟩|⟨hk,h⟩|⟨hk,h⟩
 ·simp only[ab,hk,if_true,eG]
  simp only[num,bAt,dEt] at h
  simp only[bAt,dEt]
  exact⟨vR h.1.1.2,h.2⟩
 ·rw[show ab t=.word t.text by simp[ab,hk]]
  exact h
 ·rw[show ab t=mkT t.text by simp[ab,hk]]
  have:∀ s ∈ marks.map (·.1),eG (mkT s)=true:=by decide
  exact this _ h
def Gd (bd:Nat):E->Prop
 | .leaf n=>n.a=0/\n.b=0/\n.c=0/\gY n.op=0/\jX n bd=true
 | .un o a=>gY o=1/\Gd bd a
 | .bin o a b=>gY o=2/\Gd bd a/\Gd bd b
 | .tri o a b c=>gY o=3/\Gd bd a/\Gd bd b/\Gd bd c
theorem aGw {o:Int}(h:0 < gY o)(a b c:Int)(bd:Int):jX ⟨o,a,b,c,0,0,0,0,0⟩ bd=true:=by
 have h1:o≠1:=by intro e;subst e;revert h;decide
 have h2:o≠2:=by intro e;subst e;revert h;decide
 have h3:o≠3:=by intro e;subst e;revert h;decide
 have h4:o≠4:=by intro e;subst e;revert h;decide
 simp[jX,iZ,h1,h2,h3,h4,rQ,bT]
theorem aHd {l r:List Tk}{x:Int}(h:off l=some (x,r))(hl:l.all eG=true):bT x (-MX) MX=true/\r.all eG=true:=by
 unfold off at h
 split at h
 ·cases h
  simp only[lAc,eG,bAt,dEt] at hl
  simp only[bT,MX,bAt,dEt]
  exact⟨⟨by omega,by omega⟩,hl.2⟩
 ·split at h
  ·cases h
   simp only[lAc,eG,bAt,dEt] at hl
   simp only[bT,MX,bAt,dEt]
   exact⟨⟨by omega,by omega⟩,hl.2.2⟩
  ·cases h
 ·cases h
theorem aJb {back:Int}{l r:List Tk}{e:E}(h:kK back l=some (e,r))(hl:l.all eG=true)(hb:bT back 0 MX=true):Gd bd e:=by
 unfold kK at h
 split at h
 ·rename_i x r0 ho
  cases h
  have h1:=(aHd ho hl).1
  refine⟨rfl,rfl,rfl,rfl,?_⟩
  simp only[jX,zM,if_true,h1,hb]
  decide
 ·rename_i x r0 ho
  have h1:=aHd ho hl
  split at h
  ·rename_i y r2 ho2
   cases h
   have h2:=aHd ho2 (by have:=h1.2;simp only[lAc,bAt] at this;exact this.2)
   refine⟨rfl,rfl,rfl,rfl,?_⟩
   simp only[jX,zM,if_true,h1.1,h2.1,hb]
   rfl
  ·cases h
 ·cases h
theorem aYc {q:Bool}{l r:List Tk}{e:E}(h:wO q l=some (e,r))(hl:l.all eG=true):Gd bd e:=by
 unfold wO at h
 split at h
 ·simp only[lAc,bAt] at hl
  split at h
  ·split at h
   ·split at h
    ·cases h
    ·simp only[lAc,eG,bAt,dEt] at hl
     exact aJb h hl.2.2.2 (by simp only[bT,MX,bAt,dEt];omega)
   ·cases h
  ·exact aJb h hl.2 (by decide)
 ·cases h
theorem aCa {s:aN}(h:0 < sV (bH s)):gY (bH s)=sV (bH s):=by
 have hc:=fV h
 clear h
 unfold bH at hc ⊢
 repeat' split at hc
 all_goals first|(exact absurd rfl hc)|skip
 all_goals simp only[*,if_true] <;> decide
theorem bBm {nm:List aN}{s:aN}{e:E}(h:wd nm s=some e):Gd nm.length e:=by
 unfold wd at h
 split at h
 ·rename_i h0
  cases h
  refine⟨rfl,rfl,rfl,rfl,?_⟩
  have h5:inK s<=5:=by
   unfold inK
   repeat' split
   all_goals omega
  simp[jX,iZ,rQ,bT,h0,h5]
 ·split at h
  ·rename_i h0 hc
   cases h
   refine⟨rfl,rfl,rfl,rfl,?_⟩
   have:pos nm s < nm.length:=by
    unfold pos
    rw[List.findIdx_lt_length]
    exact⟨s,by simpa using hc,by simp⟩
   simp[jX,iZ,rQ,bT]
   omega
  ·cases h
theorem aZz {nm:List aN}{c:Nat}{l:List Tk}{e:E}(h:G nm c l e):l.all eG=true->Gd nm.length e:=by
 induction h with
 | up _ _ ih=>exact ih
 | sel _ _ _ ih1 ih2 ih3 =>
  intro h
  simp only[List.all_append,lAc,bAt] at h
  exact⟨rfl,ih1 h.1,ih2 h.2.2.1,ih3 h.2.2.2.2⟩
 | bin _ _ _ ih1 ih2 =>
  intro h
  simp only[List.all_append,lAc,bAt,eG,beq_iff_eq] at h
  exact⟨h.2.1,ih1 h.1,ih2 h.2.2⟩
 | neg _ ih =>
  intro h
  simp only[lAc,bAt] at h
  exact⟨rfl,ih h.2⟩
 | par _ ih =>
  intro h
  simp only[List.all_append,lAc,bAt] at h
  exact ih h.2.1
 | num v =>
  intro h
  simp only[lAc,eG,bAt,dEt] at h
  refine⟨rfl,rfl,rfl,rfl,?_⟩
  simp[jX,iZ,rQ,bT,MX]
  omega
 | word _ _ _ hw=>intro _;exact bBm hw
 | place _ hp=>intro h;simp only[lAc,bAt] at h;exact aYc hp h.2
 | call1 ha _ ih =>
  intro h
  simp only[List.all_append,lAc,bAt] at h
  exact⟨by rw[aCa (by omega),ha];rfl,ih h.2.2.1⟩
 | call2 ha _ _ ih1 ih2 =>
  intro h
  simp only[List.all_append,lAc,bAt] at h
  exact⟨by rw[aCa (by omega),ha];rfl,ih1 h.2.2.1,ih2 h.2.2.2.2.1⟩
 | call3 ha _ _ _ ih1 ih2 ih3 =>
  intro h
  simp only[List.all_append,lAc,bAt] at h
  exact⟨by rw[aCa (by omega),ha];rfl,ih1 h.2.2.1,ih2 h.2.2.2.2.1,ih3 h.2.2.2.2.2.2.1⟩
def zH (BS:List Int)(i:Nat)(L:List Int)(bd:Nat):Option (List Int × Nat) :=
 if bd < BS.length/\BS.getD bd 0=i then(if L.length=0 then some ([],bd+1) else none) else some (L++[(i:Int)],bd)
theorem rH {i:Nat}{n:Nd}{L B:List Int}(h1:gY n.op=B.length)(h2:jX n bd=true)(h3:tkE B n=true):jD BS i n (L++B,bd)=zH BS i L bd:=by
 rw[aDu h1,h2,h3]
 rfl
theorem uF (BS:List Int)(i:Nat)(n:Nd)(s:List Int × Nat):jZ BS i [n] s=jD BS i n s:=by
 show (jD BS i n s).bind _=_
 cases jD BS i n s <;> rfl
theorem oC {i:Nat}{L:List Int}(h:¬(bd < BS.length/\BS.getD bd 0=(i:Int))):zH BS i L bd=some (L++[(i:Int)],bd):=if_neg h
theorem qC {BS:List Int}{bd:Nat}:∀(e:E) (s:Nat) (L:List Int),Gd bd e->(∀ i,s<=i->i+1 < s+e.size->¬(bd < BS.length/\BS.getD bd 0=(i:Int)))->jZ BS s (e.flat s) (L,bd)=zH BS (s+e.size-1) L bd
 | .leaf n,s,L,hg,hno=>by
  obtain⟨h1,h2,h3,h4,h5⟩:=hg
  show jZ BS s [n] (L,bd)=_
  rw[uF]
  have:=rH (BS:=BS) (i:=s) (L:=L) (B:=[]) (n:=n) (bd:=bd) (by rw[h4];rfl) h5 (by simp[tkE,h1,h2,h3])
  rw[List.append_nil] at this
  exact this
 | .un o a,s,L,hg,hno=>by
  obtain⟨h1,ha⟩:=hg
  have pa:=a.size_pos
  simp only[E.size] at hno
  simp only[E.flat]
  rw[iC,qC a s L ha (fun i h1 h2=>hno i h1 (by omega)),oC (hno _ (by omega) (by omega))]
  show jZ BS _ [_] _=_
  rw[uF,E.flat_len,rH (by rw[h1];rfl) (aGw (by omega) _ _ _ _) (by simp[tkE];omega)]
  simp only[E.size]
  rw[show s+(a.size+1)-1=s+a.size by omega]
 | .bin o a b,s,L,hg,hno=>by
  obtain⟨h1,ha,hb⟩:=hg
  have pa:=a.size_pos
  have pb:=b.size_pos
  simp only[E.size] at hno
  simp only[E.flat]
  rw[iC,iC,qC a s L ha (fun i h1 h2=>hno i h1 (by omega)),oC (hno _ (by omega) (by omega)),Option.bind_some,E.flat_len,qC b (s+a.size) _ hb (fun i h1 h2=>hno i (by omega) (by omega)),oC (hno _ (by omega) (by omega)),Option.bind_some,uF,lAa,rH (by rw[h1];rfl) (aGw (by omega) _ _ _ _) (by simp[tkE];omega)]
  simp only[E.size,lLa,E.flat_len]
  rw[show s+(a.size+b.size+1)-1=s+(a.size+b.size) by omega]
 | .tri o a b c,s,L,hg,hno=>by
  obtain⟨h1,ha,hb,hc⟩:=hg
  have pa:=a.size_pos
  have pb:=b.size_pos
  have pc:=c.size_pos
  simp only[E.size] at hno
  simp only[E.flat]
  rw[iC,iC,iC,qC a s L ha (fun i h1 h2=>hno i h1 (by omega)),oC (hno _ (by omega) (by omega)),Option.bind_some,E.flat_len,qC b (s+a.size) _ hb (fun i h1 h2=>hno i (by omega) (by omega)),oC (hno _ (by omega) (by omega)),Option.bind_some,lLa,E.flat_len,E.flat_len,<-Nat.add_assoc,qC c (s+a.size+b.size) _ hc (fun i h1 h2=>hno i (by omega) (by omega)),oC (hno _ (by omega) (by omega)),Option.bind_some,uF,show ∀ x y z:Int,L++[x]++[y]++[z]=L++[x,y,z] from by intros;simp,rH (by rw[h1];rfl) (aGw (by omega) _ _ _ _) (by simp[tkE];omega)]
  simp only[E.size,lLa,E.flat_len]
  rw[show s+(a.size+b.size+c.size+1)-1=s+(a.size+b.size+c.size) by omega]
theorem aOi {BS:List Int}:∀(es:List E) (ex:E) (s bd:Nat),bd<=BS.length->BS.drop bd=fU es s->(∀ j e,es[j]?=some e->Gd (bd+j) e)->Gd (bd+es.length) ex->jZ BS s (jH es s++ex.flat (s+bY es)) ([],bd)=some ([((s+bY es+ex.size-1:Nat):Int)],BS.length)
 | [],ex,s,bd,hle,hd,hes,hex=>by
  have hl:bd=BS.length:=by
   have:=congrArg List.length hd
   simp[fU] at this
   omega
  simp only[jH,bY,List.nil_append,Nat.add_zero]
  rw[qC (bd:=bd) ex s [] hex (fun i _ _ h=>by omega),oC (fun h=>by omega),hl]
  rfl
 | a::es,ex,s,bd,hle,hd,hes,hex=>by
  have hlt:bd < BS.length:=by
   have:=congrArg List.length hd
   simp[fU] at this
   omega
  have pa:=a.size_pos
  have hg:BS.getD bd 0=((s+a.size:Nat):Int)-1:=by
   have:=congrArg (fun l=>l.getD 0 0) hd
   simp only[fU,List.getD_cons_zero] at this
   rw[<-this,gdE,gdE,List.getElem?_drop,Nat.add_zero]
  simp only[jH,bY]
  rw[lAa,iC,qC (bd:=bd) a s [] (hes 0 a rfl) (fun i h1 h2 h=>by have:=h.2;rw[hg] at this;omega)]
  rw[show zH BS (s+a.size-1) [] bd=some ([],bd+1) by unfold zH;rw[if_pos ⟨hlt,by rw[hg];omega⟩];rfl]
  rw[Option.bind_some,E.flat_len,<-Nat.add_assoc]
  refine aOi es ex (s+a.size) (bd+1) hlt ?_ ?_ ?_
  ·rw[<-List.drop_drop,hd];rfl
  ·intro j e he
   have:=hes (j+1) e he
   rwa[show bd+(j+1)=bd+1+j by omega] at this
  ·rw[lLc] at hex
   rwa[show bd+(es.length+1)=bd+1+es.length by omega] at hex
theorem aZ2 {nm:List aN}{es:List E}{l:List Tk}{o:Out}(h:GP nm es l o):l.all eG=true->nm.length=es.length->(∀ j e,es[j]?=some e->Gd j e)->zO nm=true->(∀ j e,o.2.1[j]?=some e->Gd j e)/\Gd o.2.1.length o.2.2/\zO o.1=true:=by
 induction h with
 | last hg=>intro h1 h2 h3 h4;exact⟨h3,h2 ▸ aZz hg h1,h4⟩
 | @bind nm es s l1 l2 e o hr hc hg _ ih =>
  intro h1 h2 h3 h4
  simp only[List.all_append,lAc,bAt] at h1
  have hw:rU s=true:=h1.2.1
  refine ih h1.2.2.2.2.2 (by simp[h2]) ?_ (by rw[zP,h4,hw,hr,hc];rfl)
  intro j e' he
  by_cases hj:j < es.length
  ·rw[gAl hj] at he;exact h3 j e' he
  ·rw[gAr (by omega)] at he
   have hj0:j-es.length=0:=by
    cases hh:j-es.length with
    | zero=>rfl
    | succ m=>rw[hh] at he;simp at he
   rw[hj0] at he
   cases he
   have:j=nm.length:=by omega
   rw[this]
   exact aZz hg h1.2.2.2.1
end Go.Proofs.YticnbcfmbhjbgabGreatDoor
namespace Go.Proofs.YticnbcfmbhjbgabGreatDoor
open Lx Pz
variable {BS:List Int} {bd:Nat}
def Good (BS:List Int)(NS:List Nd):Prop:=∃ es ex,NS=jH es 0++ex.flat (bY es)/\BS=fU es 0/\(∀ j e,es[j]?=some e->Gd j e)/\Gd es.length ex
theorem xB:∀(A B:List E) (s:Nat),jH (A++B) s=jH A s++jH B (s+bY A)
 | [],B,s=>by simp[jH,bY]
 | a::A,B,s=>by simp only[List.cons_append,jH,bY,xB A B,lAa,Nat.add_assoc]
theorem aDv:∀(A B:List E),bY (A++B)=bY A+bY B
 | [],B=>by simp[bY]
 | a::A,B=>by simp only[List.cons_append,bY,aDv A B];omega
theorem wZ:∀(A B:List E) (s:Nat),fU (A++B) s=fU A s++fU B (s+bY A)
 | [],B,s=>by simp[fU,bY]
 | a::A,B,s=>by simp only[List.cons_append,fU,bY,wZ A B,Nat.add_assoc]
theorem eU:∀(es:List E) (s:Nat),(fU es s).length=es.length
 | [],s=>rfl
 | a::es,s=>by simp[fU,eU es]
theorem cZ:∀(es:List E) (s:Nat),(jH es s).length=bY es
 | [],s=>rfl
 | a::es,s=>by simp[jH,bY,cZ es,E.flat_len]
theorem aLr {i:Nat}{n:Nd}{L:List Int}{t:List Int × Nat}(h:jD BS i n (L,bd)=some t) :
  ∃ A B,L=A++B/\gY n.op=B.length/\B.length<=3/\jX n bd=true/\tkE B n=true/\zH BS i A bd=some t:=by
 cases hw:bT (gY n.op) 0 L.length with
 | false=>rw[aF2 hw] at h;cases h
 | true =>
  obtain⟨A,B,rfl,hp,h3⟩:=aAg hw
  rw[aDu hp] at h
  split at h
  ·rename_i hc
   simp only[bAt] at hc
   exact⟨A,B,rfl,hp,h3,hc.1,hc.2,h⟩
  ·cases h
def Inv (BS:List Int)(P:List Nd)(L:List Int)(bd:Nat):Prop :=
 ∃ es st,P=jH es 0++jH st (bY es)/\L=fU st (bY es)/\es.length=bd/\fU es 0=BS.take bd/\bd<=BS.length/\(∀ j e,es[j]?=some e->Gd j e)/\(∀ e ∈ st,Gd bd e)
theorem aJ8 {st:List E}{s:Nat}{A B:List Int}(h:fU st s=A++B):∃ s1 s2,st=s1++s2/\fU s1 s=A/\fU s2 (s+bY s1)=B:=by
 have hl:A.length<=st.length:=by rw[<-eU st s,h,lLa];omega
 refine⟨st.take A.length,st.drop A.length,(lTd _ _).symm,?_⟩
 have e:=wZ (st.take A.length) (st.drop A.length) s
 rw[lTd,h] at e
 have h2:=List.append_inj e (by rw[eU,lLt];omega)
 exact⟨h2.1.symm,h2.2.symm⟩
theorem aTk {st:List E}{s:Nat}{n:Nd}(hp:gY n.op=st.length)(h3:st.length<=3)(hf:jX n bd=true)(ht:tkE (fU st s) n=true)(hg:∀ e ∈ st,Gd bd e):∃ e:E,e.flat s=jH st s++[n]/\e.size=bY st+1/\Gd bd e:=by
 have hz:n.op≠3->gY n.op≠0->n.k=0/\n.back=0/\n.co=0/\n.x=0/\n.y=0:=by
  intro ho hpz
  have h1:n.op≠1:=by intro e;rw[e] at hpz;exact hpz rfl
  have h2:n.op≠2:=by intro e;rw[e] at hpz;exact hpz rfl
  have h4:n.op≠4:=by intro e;rw[e] at hpz;exact hpz rfl
  simp[jX,ho,iZ,h1,h2,h4,rQ,bT] at hf
  omega
 have h30:gY n.op≠0->n.op≠3:=by intro h e;rw[e] at h;exact h rfl
 simp only[tkE,bAt,beq_iff_eq] at ht
 match st,h3,hp,ht,hg with
 | [],_,hp,ht,hg =>
  refine⟨.leaf n,by simp[E.flat,jH],rfl,?_⟩
  exact⟨by simpa [fU] using ht.1.symm,by simpa [fU] using ht.2.1.symm,by simpa [fU] using ht.2.2.symm,hp,hf⟩
 | [a],_,hp,ht,hg =>
  have hp1:gY n.op=1:=hp
  obtain⟨z1,z2,z3,z4,z5⟩:=hz (h30 (by omega)) (by omega)
  refine⟨.un n.op a,?_,by simp[E.size,bY],hp1,hg a (by simp)⟩
  obtain⟨op,x1,x2,x3,k,back,co,x,y⟩:=n
  simp[fU] at ht
  simp only at z1 z2 z3 z4 z5
  obtain⟨t1,t2,t3⟩:=ht
  subst z1 z2 z3 z4 z5 t2 t3
  simp[E.flat,jH,<-t1]
 | [a,b],_,hp,ht,hg =>
  have hp1:gY n.op=2:=hp
  obtain⟨z1,z2,z3,z4,z5⟩:=hz (h30 (by omega)) (by omega)
  refine⟨.bin n.op a b,?_,by simp[E.size,bY],hp1,hg a (by simp),hg b (by simp)⟩
  obtain⟨op,x1,x2,x3,k,back,co,x,y⟩:=n
  simp[fU] at ht
  simp only at z1 z2 z3 z4 z5
  obtain⟨t1,t2,t3⟩:=ht
  subst z1 z2 z3 z4 z5 t3
  simp[E.flat,jH,<-t1,<-t2]
 | [a,b,c],_,hp,ht,hg =>
  have hp1:gY n.op=3:=hp
  obtain⟨z1,z2,z3,z4,z5⟩:=hz (h30 (by omega)) (by omega)
  refine⟨.tri n.op a b c,?_,by simp[E.size,bY];omega,hp1,hg a (by simp),hg b (by simp),hg c (by simp)⟩
  obtain⟨op,x1,x2,x3,k,back,co,x,y⟩:=n
  simp[fU] at ht
  simp only at z1 z2 z3 z4 z5
  obtain⟨t1,t2,t3⟩:=ht
  subst z1 z2 z3 z4 z5
  simp[E.flat,jH,<-t1,<-t2,<-t3]
theorem aN4 {P:List Nd}{L:List Int}{n:Nd}{t:List Int × Nat}(hI:Inv BS P L bd)(h:jD BS P.length n (L,bd)=some t):Inv BS (P++[n]) t.1 t.2:=by
 obtain⟨es,st,hP,hL,hes,hbs,hle,hg1,hg2⟩:=hI
 obtain⟨A,B,hAB,hp,h3,hf,ht,hl⟩:=aLr h
 rw[hL] at hAB
 obtain⟨s1,s2,rfl,hA,hB⟩:=aJ8 hAB
 have hBl:B.length=s2.length:=by rw[<-hB,eU]
 obtain⟨e,he1,he2,he3⟩:=aTk (st:=s2) (s:=bY es+bY s1) (bd:=bd) (n:=n) (by rw[hp,hBl]) (by omega) hf (by rw[hB];exact ht) (fun e he=>hg2 e (by simp[he]))
 have hPl:P.length=bY es+bY s1+bY s2:=by rw[hP,lLa,cZ,cZ,aDv];omega
 have hP2:P++[n]=jH es 0++jH (s1++[e]) (bY es):=by
  rw[hP,xB,xB]
  simp only[jH,List.append_nil,he1,lAa]
 have hi:((P.length:Nat):Int)=((bY es+bY s1+e.size:Nat):Int)-1:=by rw[hPl,he2];omega
 unfold zH at hl
 split at hl
 ·rename_i hc
  split at hl
  ·rename_i hA0
   cases hl
   have hs1:s1=[]:=List.length_eq_zero_iff.1 (by rw[<-eU s1 (bY es),hA];exact hA0)
   subst hs1
   refine⟨es++[e],[],?_,rfl,by simp[hes],?_,hc.1,?_,by simp⟩
   ·rw[hP2]
    simp[xB,jH]
   ·rw[wZ,hbs,lTs hc.1]
    have hg:BS[bd]=BS.getD bd 0:=by rw[gdE,gEg hc.1];rfl
    rw[hg,hc.2,hi]
    simp[fU,bY]
   ·intro j e' hj
    by_cases hjl:j < es.length
    ·rw[gAl hjl] at hj;exact hg1 j e' hj
    ·rw[gAr (by omega)] at hj
     have hj0:j-es.length=0:=by
      cases hh:j-es.length with
      | zero=>rfl
      | succ m=>rw[hh] at hj;simp at hj
     rw[hj0] at hj
     cases hj
     rw[show j=bd by omega]
     exact he3
  ·cases hl
 ·cases hl
  refine⟨es,s1++[e],hP2,?_,hes,hbs,hle,hg1,?_⟩
  ·rw[wZ,hA,hi]
   rfl
  ·intro e' he'
   rcases List.mem_append.1 he' with h|h
   ·exact hg2 e' (by simp[h])
   ·simp at h;subst h;exact he3
theorem aIx {BS:List Int}:∀(N P:List Nd) (L:List Int) (bd:Nat) (t:List Int × Nat),Inv BS P L bd->jZ BS P.length N (L,bd)=some t->Inv BS (P++N) t.1 t.2
 | [],P,L,bd,t,hI,h=>by cases h;rw[List.append_nil];exact hI
 | n::N,P,L,bd,t,hI,h=>by
  simp only[jZ] at h
  cases hs:jD BS P.length n (L,bd) with
  | none=>rw[hs] at h;cases h
  | some u =>
   rw[hs] at h
   have h1:=aN4 hI hs
   have:=aIx N (P++[n]) u.1 u.2 t h1 (by rw[lLa];exact h)
   rw[lAa] at this
   exact this
theorem zW {NS:List Nd}:sM BS NS=true↔Good BS NS:=by
 constructor
 ·intro h
  unfold sM at h
  split at h
  ·rename_i t ht
   simp only[bAt,beq_iff_eq] at h
   have hI:=aIx NS [] [] 0 t ⟨[],[],rfl,rfl,rfl,rfl,nZl _,by intro j e h;simp at h,by simp⟩ ht
   obtain⟨es,st,hP,hL,hes,hbs,hle,hg1,hg2⟩:=hI
   have hst:st.length=1:=by rw[<-eU st (bY es),<-hL];exact h.2
   match st,hst with
   | [ex],_ =>
    refine⟨es,ex,by simpa [jH] using hP,?_,hg1,?_⟩
    ·rw[hbs,lTl (by omega)]
    ·rw[hes];exact hg2 ex (by simp)
  ·cases h
 ·rintro⟨es,ex,rfl,rfl,h1,h2⟩
  have hm:=aOi (BS:=fU es 0) es ex 0 0 (nZl _) rfl (by intro j e h;rw[nZa];exact h1 j e h) (by rw[nZa];exact h2)
  rw[nZa] at hm
  unfold sM
  rw[hm]
  simp
end Go.Proofs.YticnbcfmbhjbgabGreatDoor
namespace Go.Proofs.Knd
open Go.RowKit
structure Blk where
 back:Int
 coords:Int
 y0:Int
 y1:Int
 x0:Int
 x1:Int
def Blk.cells (b:Blk):List Value:=[.i b.back,.i b.coords,.i b.y0,.i b.y1,.i b.x0,.i b.x1]
def fZ (l:List Blk):List Value:=l.flatMap Blk.cells
theorem vU (l:List Blk)(b:Blk):fZ (l++[b])=fZ l++b.cells:=by simp[fZ]
def qU (k:Nat):List Blk:=[⟨0,2,-2,-1,-3,3⟩,⟨0,2,0,0,-3,-1⟩]++(List.range k).map fun j=>⟨(j:Int)+1,2,-1,1,-1,1⟩
def rF (k:Nat):List Blk:=[⟨0,1,0,0,-16,-1⟩]++(List.range k).map fun j=>⟨(j:Int)+1,1,0,0,-4,0⟩
def uY:List Blk:=qU 3
def vO:List Blk:=rF 3
theorem aCv (k:Nat):qU (k+1)=qU k++[⟨(k:Int)+1,2,-1,1,-1,1⟩]:=by simp[qU,List.range_succ]
theorem aDs (k:Nat):rF (k+1)=rF k++[⟨(k:Int)+1,1,0,0,-4,0⟩]:=by simp[rF,List.range_succ]
def iU (f d:Int):List Blk:=if May f d then(if f=0 then uY else vO) else[]
theorem Tryz.info322:(Tryz.prog.info? 322).map (fun i=>(i.zero,i.size,i.bytes))=some (some (.agg #[.i 0,.i 0,.i 0,.i 0,.i 0,.i 0]),6,48):=by kernel_rfl
theorem info_parts {P:Program}{e:TypeId}{z:Value}{s b:Nat}(h:(P.info? e).map (fun i=>(i.zero,i.size,i.bytes))=some (some z,s,b)) :
  ∃ i,P.info? e=some i/\i.zero=some z/\i.size=s/\i.bytes=b:=by
 cases hi:P.info? e with
 | none=>rw[hi] at h;cases h
 | some i=>rw[hi] at h;simp at h;exact⟨i,rfl,h.1,h.2.1,h.2.2⟩
theorem aA3 (w:World)(cs:Array Value)(t:TypeId):∀ j u,cs.toList[j]?=some u->(w.alloc (.cells cs t)).cell? ((⟨w.heap.size,0,none⟩:Addr).add j)=some u:=by
 intro j u h
 have hadd:(⟨w.heap.size,0,none⟩:Addr).add j=⟨w.heap.size,j,none⟩:=by unfold Addr.add;split <;> simp_all
 rw[hadd,cell_of_row _ _ j cs t (0,0) (heap_alloc_new w _)]
 simpa using h
theorem tH {w wr w1:World}{e:TypeId}{s n:Nat}{v:Value}{xs:List Value}{o:Obj}(hB:Below w.heap.size w wr)(hr:wr.ownsRow w.heap.size e s v n xs)(hg:(wr.alloc o).grownBy w1 v.ownBlock):Below w.heap.size w w1 :=
 (hB.alloc hB.size o).grown hg (by have:=hB.size;simp;omega) (fun k hk=>(hr.lt k hk).1)
theorem aDb {w wr w1:World}{e t:TypeId}{s n A:Nat}{v:Value}{xs:List Value}{o:Obj}{cs:Array Value}{fr:Nat × Nat}(hA:wr.heap[A]?=some (.cells cs t fr))(hte:t≠e)(hr:wr.ownsRow w.heap.size e s v n xs)(hg:(wr.alloc o).grownBy w1 v.ownBlock):w1.heap[A]?=some (.cells cs t fr):=by
 have hlt:A < wr.heap.size:=(aGs.1 hA).1
 have h1:(wr.alloc o).heap[A]?=some (.cells cs t fr):=(Below.heap_alloc wr o A hlt).trans hA
 refine(hg.block A (by simp;omega) (fun h=>?_)).trans h1
 rcases hr.2 with⟨rfl,_⟩|⟨g,cap,cur,rfl,_,hgg,_⟩
 ·simp[Value.ownBlock] at h
 ·simp[Value.ownBlock] at h
  subst h
  rw[hA] at hgg
  simp at hgg
  exact hte hgg.2.1
theorem aB8 (d:Int)(w:World)(hm:May 1 d) :
  Calls Tryz.prog 294 #[.agg #[.i 1,.i d]] w fun e w'=>∃ v,e=.returned v/\w'.ownsRow w.heap.size 322 6 v 4 (fZ vO)/\Below w.heap.size w w':=by
 obtain⟨i0,hi,hz0,hz1,hz2⟩:=info_parts Tryz.info322
 have hb:=aD w (.cells #[.i 1,.i d] 35)
 go_enter Tryz.func294,Tryz.ntmps294
 go_wp2_with (go_at_call 49;refine(fK _ _ _ hm).mono ?_;rintro e w2 ⟨rfl,hb2⟩;obtain⟨hc2,hf2⟩:=kE hb2)
 have HB2:=aA ((bel hb hb2).alloc (bel hb hb2).size (.cells #[.i 0,.i 1,.i 0,.i 0,.i (-16),.i (-1)] 322))
 have hr0:(w2.alloc (.cells #[.i 0,.i 1,.i 0,.i 0,.i (-16),.i (-1)] 322)).ownsRow w.heap.size 322 6 (.slice (some ⟨w2.heap.size,0,none⟩) 1 1) 1 (fZ (rF 0)) :=
  World.ownsRow_lit w2 #[.i 0,.i 1,.i 0,.i 0,.i (-16),.i (-1)] 1 (bel hb hb2).size (by decide) rfl
 have HR:=aA hr0
 clear hr0 hb2 hc2 hf2 hb
 go_loopw [3,4] (fun v i wr=>∃ k:Nat,k<=3/\i=.i ((k:Int)+1)/\(∃ g cap,v=.slice (some ⟨g,0,none⟩) (k+1) cap)/\Hid (wr.ownsRow w.heap.size 322 6 v (k+1) (fZ (rF k)))/\Hid (Below w.heap.size w wr)) (fun _ i _=>(4-intOf i).toNat)
 case atStart=>exact⟨0,by omega,rfl,⟨_,_,rfl⟩,HR,HB2⟩
 case round =>
  obtain⟨k,hk,rfl,⟨g,cap,rfl⟩,HR,HB⟩:=hrel
  by_cases hlt:k < 3
  ·go_wp2_with (at_builtin;refine wpList_append_own _ rfl _ _ 319 rfl w.heap.size 322 i0 _ 6 48 Tryz.underlying319 hi hz0 hz1 hz2 rfl (by decide) _ _ _ rfl (HR.o.alloc _) ⟨wr.heap.size,0,none⟩ 1 1 (Blk.cells ⟨(k:Int)+1,1,0,0,-4,0⟩) rfl rfl (aA3 _ _ _) (by simp[Blk.cells,Value.oneCell']) (by unfold maxLen;omega) (by omega) (by have:=HB.o.size;simp;omega) ?_;intro v' w1 hown' hgrow _;obtain⟨g',cap',rfl⟩:=ownsRow_succ hown')
   go_roundw
   case rel=>exact⟨k+1,by omega,by go_num,⟨_,_,rfl⟩,aA (by rw[aDs,vU];exact hown'),aA (tH HB.o HR.o hgrow)⟩
   case measure=>simp[intOf];omega
  ·obtain rfl:k=3:=by omega
   go_wp2
   go_ret
   exact⟨_,rfl,HR.o,HB.o⟩
theorem aB7 (d:Int)(w:World)(hm:May 0 d) :
  Calls Tryz.prog 294 #[.agg #[.i 0,.i d]] w fun e w'=>∃ v,e=.returned v/\w'.ownsRow w.heap.size 322 6 v 5 (fZ uY)/\Below w.heap.size w w':=by
 obtain⟨i0,hi,hz0,hz1,hz2⟩:=info_parts Tryz.info322
 have hb:=aD w (.cells #[.i 0,.i d] 35)
 go_enter Tryz.func294,Tryz.ntmps294
 go_wp2_with (go_at_call 49;refine(fK _ _ _ hm).mono ?_;rintro e w2 ⟨rfl,hb2⟩;obtain⟨hc2,hf2⟩:=kE hb2)
 have HB1:=aA ((bel hb hb2).alloc (bel hb hb2).size (.cells #[.i 0,.i 2,.i (-2),.i (-1),.i (-3),.i 3,.i 0,.i 2,.i 0,.i 0,.i (-3),.i (-1)] 322))
 have HB2:=aA (HB1.o.alloc HB1.o.size (.cells #[.i (-1),.i 1] 80))
 have hr0:(w2.alloc (.cells #[.i 0,.i 2,.i (-2),.i (-1),.i (-3),.i 3,.i 0,.i 2,.i 0,.i 0,.i (-3),.i (-1)] 322)).ownsRow w.heap.size 322 6 (.slice (some ⟨w2.heap.size,0,none⟩) 2 2) 2 (fZ (qU 0)) :=
  World.ownsRow_lit w2 #[.i 0,.i 2,.i (-2),.i (-1),.i (-3),.i 3,.i 0,.i 2,.i 0,.i 0,.i (-3),.i (-1)] 2 (bel hb hb2).size (by decide) rfl
 have HR:=aA (hr0.alloc (.cells #[.i (-1),.i 1] 80))
 have HA:((w2.alloc (.cells #[.i 0,.i 2,.i (-2),.i (-1),.i (-3),.i 3,.i 0,.i 2,.i 0,.i 0,.i (-3),.i (-1)] 322)).alloc (.cells #[.i (-1),.i 1] 80)).heap[w2.heap.size+1]?=some (.cells #[.i (-1),.i 1] 80 (0,0)):=by
  have:=heap_alloc_new (w2.alloc (.cells #[.i 0,.i 2,.i (-2),.i (-1),.i (-3),.i 3,.i 0,.i 2,.i 0,.i 0,.i (-3),.i (-1)] 322)) (.cells #[.i (-1),.i 1] 80)
  rwa[wSa] at this
 have HA:=aA HA
 clear hr0 hb2 hc2 hf2 hb
 go_loopw [5,7] (fun v i wr=>∃ k:Nat,k<=3/\i=.i ((k:Int)+1)/\(∃ g cap,v=.slice (some ⟨g,0,none⟩) (k+2) cap)/\Hid (wr.ownsRow w.heap.size 322 6 v (k+2) (fZ (qU k)))/\Hid (Below w.heap.size w wr)/\Hid (wr.heap[w2.heap.size+1]?=some (.cells #[.i (-1),.i 1] 80 (0,0)))) (fun _ i _=>(4-intOf i).toNat)
 case atStart=>exact⟨0,by omega,rfl,⟨_,_,rfl⟩,HR,HB2,HA⟩
 case round =>
  obtain⟨k,hk,rfl,⟨g,cap,rfl⟩,HR,HB,HA⟩:=hrel
  have c0:=cell_of_row wr (w2.heap.size+1) 0 _ 80 (0,0) HA.o
  have c1:=cell_of_row wr (w2.heap.size+1) 1 _ 80 (0,0) HA.o
  simp at c0 c1
  by_cases hlt:k < 3
  ·go_wp2_with (at_builtin;refine wpList_append_own _ rfl _ _ 319 rfl w.heap.size 322 i0 _ 6 48 Tryz.underlying319 hi hz0 hz1 hz2 rfl (by decide) _ _ _ rfl (HR.o.alloc _) ⟨wr.heap.size,0,none⟩ 1 1 (Blk.cells ⟨(k:Int)+1,2,-1,1,-1,1⟩) rfl rfl (aA3 _ _ _) (by simp[Blk.cells,Value.oneCell']) (by unfold maxLen;omega) (by omega) (by have:=HB.o.size;simp;omega) ?_;intro v' w1 hown' hgrow _;obtain⟨g',cap',rfl⟩:=ownsRow_succ hown')
   go_roundw
   case rel=>exact⟨k+1,by omega,by go_num,⟨_,_,rfl⟩,aA (by rw[aCv,vU];exact hown'),aA (tH HB.o HR.o hgrow),aA (aDb HA.o (by decide) HR.o hgrow)⟩
   case measure=>simp[intOf];omega
  ·obtain rfl:k=3:=by omega
   go_wp2
   go_ret
   exact⟨_,rfl,HR.o,HB.o⟩
theorem aEc (f d:Int)(w:World)(hm:¬May f d) :
  Calls Tryz.prog 294 #[.agg #[.i f,.i d]] w fun e w'=>e=.returned (.slice none 0 0)/\Below w.heap.size w w':=by
 have hb:=aD w (.cells #[.i f,.i d] 35)
 go_enter Tryz.func294,Tryz.ntmps294
 go_wp2_with (go_at_call 49;refine(iJ _ _ _ hm).mono ?_;rintro e w2 ⟨rfl,hb2⟩;obtain⟨hc2,hf2⟩:=kE hb2)
 go_ret
 exact⟨rfl,bel hb hb2⟩
theorem aGl (f d:Int)(w:World) :
  Calls Tryz.prog 294 #[.agg #[.i f,.i d]] w fun e w'=>∃ v,e=.returned v/\w'.ownsRow w.heap.size 322 6 v (iU f d).length (fZ (iU f d))/\Below w.heap.size w w':=by
 rcases lX f d with⟨hm,rfl⟩|⟨hm,rfl⟩|hm
 ·have e:iU 0 d=uY:=by simp[iU,hm]
  rw[e]
  exact aB7 d w hm
 ·have e:iU 1 d=vO:=by simp[iU,hm]
  rw[e]
  exact aB8 d w hm
 ·have e:iU f d=[]:=by simp[iU,hm]
  rw[e]
  exact(aEc f d w hm).mono fun e w' ⟨he,hb⟩=>⟨_,he,World.ownsRow_nil _ _ _ _,hb⟩
end Go.Proofs.Knd
