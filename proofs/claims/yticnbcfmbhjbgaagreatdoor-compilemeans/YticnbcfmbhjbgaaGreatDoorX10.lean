import Derived.RangeFuncBox
import Derived.Test.YticnbcfmbhjbgaaGreatDoorX09
set_option maxRecDepth 100000
set_option maxHeartbeats 32000000
set_option linter.unusedVariables false
namespace Go.Proofs.YticnbcfmbhjbgaaGreatDoor
section
open Go.RowKit Go.IntWalk Lx Pz
variable {A B BS:List Int} {w:World} {base:Nat}
def tkE (L:List Int)(n:Nd):Bool:=L.getD 0 0==n.a&&(L.getD 1 0==n.b&&L.getD 2 0==n.c)
def jG (BS:List Int)(i:Nat)(n:Nd)(s:List Int × Nat):Option (List Int × Nat) :=
 if bW (gM n.op) 0 s.1.length&&(kC n s.2&&tkE (s.1.drop (s.1.length-(gM n.op).toNat)) n) then
  if s.2 < BS.length/\BS.getD s.2 0=i then
   (if s.1.length-(gM n.op).toNat=0 then some ([],s.2+1) else none)
  else some (s.1.take (s.1.length-(gM n.op).toNat)++[(i:Int)],s.2)
 else none
def kE (BS:List Int):Nat->List Nd->List Int × Nat->Option (List Int × Nat)
 | _,[],s=>some s
 | i,n::r,s=>(jG BS i n s).bind (kE BS (i+1) r)
def sO (BS:List Int)(NS:List Nd):Bool :=
 match kE BS 0 NS ([],0) with
 | some s=>s.2==BS.length&&s.1.length==1
 | none=>false
theorem iG (BS:List Int):∀(A B:List Nd) (i:Nat) (s:List Int × Nat),kE BS i (A++B) s=(kE BS i A s).bind (kE BS (i+A.length) B)
 | [],B,i,s=>rfl
 | n::A,B,i,s=>by
  simp only[List.cons_append,kE,lLc]
  cases jG BS i n s with
  | none=>rfl
  | some s' =>
   show kE BS (i+1) (A++B) s'=_
   rw[iG BS A B]
   rw[show i+1+A.length=i+(A.length+1) by omega]
   rfl
theorem aK2 {NS:List Nd}{k:Nat}{s:List Int × Nat}(hk:k < NS.length)(h:kE BS 0 (NS.take k) ([],0)=some s):kE BS 0 (NS.take (k+1)) ([],0)=jG BS k (NS.getD k n0) s:=by
 rw[lTs hk,iG,h,lLt,Nat.min_eq_left (by omega),gdE,gEg hk,nZa]
 show (jG BS k _ s).bind (kE BS (k+1) [])=_
 simp only[oGs]
 generalize jG BS k NS[k] s=r
 cases r <;> rfl
theorem qX {NS:List Nd}{k:Nat}(h:kE BS 0 (NS.take k) ([],0)=none):sO BS NS=false:=by
 have:kE BS 0 NS ([],0)=none:=by
  conv=>lhs;rw[<-lTd k NS]
  rw[iG,h];rfl
 unfold sO
 rw[this]
theorem xS (op:Int):gM op<=3:=by
 unfold gM
 split
 ·omega
 ·split
  ·omega
  ·unfold lW
   repeat' split
   all_goals omega
theorem aF9 {i:Nat}{n:Nd}{s:List Int × Nat}(h:bW (gM n.op) 0 s.1.length=false):jG BS i n s=none:=by
 unfold jG
 rw[h];rfl
theorem aAf {L:List Int}{n:Nd}(h:bW (gM n.op) 0 L.length=true):∃ A B,L=A++B/\gM n.op=B.length/\B.length<=3:=by
 have h3:=xS n.op
 simp only[bW,bAt,dEt] at h
 refine⟨L.take (L.length-(gM n.op).toNat),L.drop (L.length-(gM n.op).toNat),(lTd _ _).symm,?_,?_⟩ <;> rw[List.length_drop] <;> omega
theorem aDy {i:Nat}{n:Nd}{bd:Nat}(hb:gM n.op=B.length) :
  jG BS i n (A++B,bd)=if kC n bd&&tkE B n then(if bd < BS.length/\BS.getD bd 0=i then(if A.length=0 then some ([],bd+1) else none) else some (A++[(i:Int)],bd)) else none:=by
 unfold jG
 simp only[lLa,hb,iTn,Nat.add_sub_cancel,List.take_left,List.drop_left]
 rw[show bW (B.length:Int) 0 ((A.length+B.length:Nat):Int)=true by simp[bW];omega,Bool.true_and]
theorem aUf {e:TypeId}{g cap:Nat}(h:w.ownsRow base e 1 (.slice (some ⟨g,0,none⟩) (A.length+B.length) cap) (A.length+B.length) (kK (A++B))):w.ownsRow base e 1 (.slice (some ⟨g,0,none⟩) A.length cap) A.length (kK A):=by
 obtain⟨_,h2⟩:=h
 rcases h2 with⟨h0,_⟩|⟨g',cap',cur,hv,hg,hh,hn,hcap,hsz,htake⟩
 ·cases h0
 ·cases hv
  refine⟨by simp,.inr ⟨g,cap,cur,rfl,hg,hh,by omega,hcap,hsz,?_⟩⟩
  have h3:(cur.toList.take ((A.length+B.length)*1)).take (A.length*1)=(kK (A++B)).take (A.length*1):=by rw[htake]
  rw[List.take_take,Nat.min_eq_left (by omega)] at h3
  rw[h3,Nat.mul_one,show kK (A++B)=kK A++kK B from List.map_append]
  exact List.take_left' (by simp)
theorem aXd {g cap:Nat}(h:w.ownsRow base 3 1 (.slice (some ⟨g,0,none⟩) (A.length+B.length) cap) (A.length+B.length) (kK (A++B))):Iz w (some ⟨g,A.length,none⟩) B.length (cap-A.length) B:=by
 obtain⟨a,c,e,hi⟩:=Iz.of_owns h
 cases e
 refine⟨rfl,by have:=hi.le;omega,by have:=hi.max;omega,?_⟩
 rcases hi.cell with h0|⟨b,off,e,hb,hc⟩
 ·exact .inl (by omega)
 ·cases e
  refine .inr ⟨g,A.length,rfl,hb,fun i hi=>?_⟩
  have:=hc (A.length+i) (by omega)
  rw[nZa] at this
  rw[this,gdE,gdE,gAr (by omega),Nat.add_sub_cancel_left]
theorem aLe {size n:Nat}{e:TypeId}{v:Value}{xs:List Value}(h:w.ownsRow base e size v n xs):(v=.slice none 0 0/\n=0)\/∃ g cap,v=.slice (some ⟨g,0,none⟩) n cap:=by
 rcases h.2 with h|⟨g,cap,cur,hv,-⟩
 ·exact .inl h
 ·exact .inr ⟨g,cap,hv⟩
theorem uG {W:World}{v:Value}{ops:Array Oper}{rest:List Oper}{o:Oper}{a:Act}{Q:Exit->Act->World->Prop}
  (hgd:o.guard=none) (s x:Operand) (ho:o.op=.call { callee:=.builtin .append,args:=#[s,x],argTypes:=#[24,24] })
  (hs:a.eval s=v) (hO:W.ownsRow base 3 1 v A.length (kK A)) (hbase:base<=W.heap.size) (q:Nat) (n:Int) (hx:a.eval x=.slice (some ⟨q,0,none⟩) 1 1) (hc:aB W q 3 #[.i n]) (h3:A.length<=2000000)
  (h:∀ g cap w',w'.ownsRow base 3 1 (.slice (some ⟨g,0,none⟩) (A.length+1) cap) (A++[n]).length (kK (A++[n]))->Kp [3] W w'->(∀ w0,Below base w0 W->w0.heap.size=base->Below base w0 w')->wpList Tryz.prog ops Q rest (a.put o.dst (.slice (some ⟨g,0,none⟩) (A.length+1) cap)) w') :
  wpList Tryz.prog ops Q (o::rest) a W:=by
 obtain⟨i0,hi0,hz0,hz1,hz2⟩:=info_parts aI4
 refine wpList_append_lies W hgd s x 24 ho base 3 i0 _ 1 8 Tryz.underlying24 hi0 hz0 hz1 hz2 rfl (by omega) v A.length (kK A) hs hO ⟨q,0,none⟩ 1 1 [.i n] hx rfl (lN hc) (by simp[Value.oneCell']) (by omega) (by unfold maxLen;omega) (by omega) hbase W.heap.size rfl ?_
 intro g cap w' hown hgrow hat hlt
 have hk:Kp [3] W w':=Kp.grown hgrow fun k hk=>by
  obtain⟨_,cs,fr,hb⟩:=aR hO k hk
  exact⟨cs,_,fr,hb,by simp⟩
 exact h g cap w' (by rw[lLa];simpa using hown) hk (fun w0 hb h0=>hb.grown hgrow hbase fun k hk=>(aR hO k hk).1)
theorem wE {W:World}{na ba da:Option Addr}{nl nc bl bc dl dc:Nat}{root:Int}{NS:List Nd}(hB:Iz W ba bl bc BS)(hN:Nz W da dl dc NS)(hd:dl<=1024) :
  Calls Tryz.prog 137 #[.agg (eY (.slice na nl nc) (.slice ba bl bc) (.slice da dl dc) (.i root))] W fun e W'=>e=.returned (.bool (sO BS NS))/\Below W.heap.size W W':=by
 have HBI:=aA hB
 have HNI:=aA hN
 have hbl:bl<=9223372036854775807:=by have:=hB.le;have:=hB.max;unfold maxLen at *;omega
 have HLB:=aA hB.len
 have HLN:=aA hN.len
 clear hB hN
 go_enter Tryz.func137,Tryz.ntmps137
 go_wp2_with fail
 go_loopw [3,4,12] (fun v o i wr=>∃(k bd:Nat) (L:List Int),k<=dl/\i=.i k/\o=.i bd/\bd<=k/\L.length<=k/\Hid (kE BS 0 (NS.take k) ([],0)=some (L,bd))/\Hid (wr.ownsRow W.heap.size 3 1 v L.length (kK L))/\Hid (aB wr W.heap.size 50 (eY (.slice na nl nc) (.slice ba bl bc) (.slice da dl dc) (.i root)))/\Hid (Below W.heap.size W wr)) (fun _ _ i _=>dl-(intOf i).toNat)
 case atStart=>exact⟨0,0,[],nZl _,rfl,rfl,nLr _,nLr _,aA rfl,aA (World.ownsRow_nil _ _ _ _),aA (aB.new W _ _),aA (aD _ _)⟩
 case round =>
  obtain⟨k,bd,L,hk,rfl,rfl,hbd,hL,HM,HO,HC,HB⟩:=hrel
  rename World=>V
  by_cases hlt:k < dl
  ·obtain⟨g,off,rfl,hat⟩:=(HNI.o.later HB.o).at (by omega)
   obtain⟨e0,e1,e2,e3,e4,e5,e6,e7,e8⟩:=hat k hlt
   clear hat
   have hi0:(0:Int)<=k:=by omega
   have hi1:(k:Int) < dl:=by omega
   have HS:=aA (aK2 (k:=k) (by rw[HLN.o];exact hlt) HM.o)
   generalize NS.getD k n0=n at *
   obtain⟨va,vc,rfl,HI⟩:=Iz.of_owns HO.o
   have HLL:=aA HI.len
   clear HI
   go_wp2_with fail
   refine(aLg _ _).mono ?_
   rintro e V1 ⟨rfl,hV1⟩
   have HN1:Hid (aB V1 V.heap.size 137 (bH n)):=aA (by rw[hV1];exact aB.new V _ _)
   have HC1:Hid (aB V1 W.heap.size 50 (eY (.slice na nl nc) (.slice ba bl bc) (.slice (some ⟨g,off,none⟩) dl dc) (.i root))):=aA (by rw[hV1];exact HC.o.alloc _)
   have HO1:Hid (V1.ownsRow W.heap.size 3 1 (.slice va L.length vc) L.length (kK L)):=aA (by rw[hV1];exact HO.o.alloc _)
   have HB1:Hid (Below W.heap.size W V1):=aA (by rw[hV1];exact bel HB.o (aD _ _))
   clear hV1 HC HO HB e0 e1 e2 e3 e4 e5 e6 e7 e8
   generalize V.heap.size=q at *
   obtain⟨f0,f1,f2,f3,f4,f5,f6,f7,f8⟩:=HN1.o.nine
   cases hw:bW (gM n.op) 0 L.length with
   | false =>
    have HF:=aA (qX (HS.o.trans (aF9 hw)))
    have HW:=aA fun W=>iR (gM n.op) 0 L.length W
    rw[hw] at HW
    clear hw
    generalize gM n.op=pz at *
    go_wp2_with fail
    refine(HW.o _).mono ?_
    rintro e V2 ⟨rfl,rfl⟩
    go_wp2_with fail
    go_ret
    exact⟨aV HF.o.symm,HB1.o⟩
   | true =>
    obtain⟨A,B,rfl,hp,hB3⟩:=aAf hw
    have HS1:=aA (HS.o.trans (aDy hp))
    clear HS
    rw[lLa] at HO1 hL hw ⊢
    have HW:=aA fun W=>iR (gM n.op) 0 ((A.length+B.length:Nat):Int) W
    rw[hw] at HW
    rw[hp] at HW ⊢
    clear hw
    have HFd:=aA fun W=>aG3 n bd W (by omega) (by omega)
    cases hf:kC n bd with
    | false =>
     have HF:=aA (qX (HS1.o.trans (by rw[hf];rfl)))
     rw[hf] at HFd
     clear hf
     go_wp2_with fail
     refine(HW.o _).mono ?_
     rintro e V2 ⟨rfl,rfl⟩
     go_wp2_with fail
     refine(HFd.o _).mono ?_
     rintro e V2 ⟨rfl,hb2⟩
     have HB2:=aA (bel HB1.o hb2)
     clear hb2
     go_wp2_with fail
     go_ret
     exact⟨aV HF.o.symm,HB2.o⟩
    | true =>
     rw[hf] at HFd
     go_wp2_with fail
     refine(HW.o _).mono ?_
     rintro e V2 ⟨rfl,rfl⟩
     go_wp2_with fail
     refine(HFd.o _).mono ?_
     rintro e V2 ⟨rfl,hb2⟩
     have HB2:=aA (bel HB1.o hb2)
     have HN2:=aA (HN1.o.below hb2)
     have HC2:=aA (HC1.o.below hb2)
     have HO2:=aA (bB HO1.o (Kp.of_below [] hb2) (by decide))
     clear hb2 HFd HW HC1 HO1 HB1 HN1 f0 f1 f2 f3 f4 f5 f6 f7 f8
     obtain⟨f0,f1,f2,f3,-,-,-,-,-⟩:=HN2.o.nine
     have HEQ:=aA fun w=>aSr 9998 (B.getD 0 0) (B.getD 1 0) (B.getD 2 0) n.a n.b n.c w
     go_upto_region 10 with fail
     have HA1:=aA (Iz.of_owns HO2.o)
     rcases aLe HO2.o with⟨hv,h0⟩|⟨g2,cap2,hv⟩
     case' inl =>
      injection hv with hv1 hv2 hv3
      subst hv1 hv3
      have hA0:A.length=0:=by omega
      have hB0:B.length=0:=by omega
      have HOA:Hid (V2.ownsRow W.heap.size 3 1 (.slice none 0 0) A.length (kK A)):=aA (by rw[List.length_eq_zero_iff.1 hA0];exact World.ownsRow_nil _ _ _ _)
      have HTk:=aA (vU (W:=V2.drew) (a:=none) (n:=0) (cap:=0) (L:=B) ⟨hB0,by omega,by unfold maxLen;omega,.inl rfl⟩ (by omega))
      clear HO2 h0 hv2 HA1
      rw[hA0,hB0]
     case' inr =>
      injection hv with hv1 hv2 hv3
      subst hv1 hv3
      have hcap:A.length+B.length<=vc:=by obtain⟨a',c',e',hi'⟩:=HA1.o;cases e';exact hi'.le
      have hcap2:vc<=9223372036854775807:=by obtain⟨a',c',e',hi'⟩:=HA1.o;cases e';have:=hi'.max;unfold maxLen at this;omega
      have HOA:=aA (aUf HO2.o)
      clear HA1
      by_cases hvc:vc=A.length
      case' pos =>
       have hB0:B.length=0:=by omega
       have HTk:=aA (vU (W:=V2.drew) (a:=some ⟨g2,0,none⟩) (n:=0) (cap:=0) (L:=B) ⟨hB0,by omega,by unfold maxLen;omega,.inl rfl⟩ (by omega))
       subst hvc
       clear HO2
       rw[hB0]
      case' neg =>
       have HTk:=aA (vU (W:=V2.drew) ((aXd HO2.o).later (aF V2)) hB3)
       clear HO2
       have hz0:(0:Int)<=A.length:=by omega
       have hz1:(A.length:Int)<=(A.length+B.length:Nat):=by omega
       have hz2:(A.length:Int)<=vc:=by omega
       have hz3:(A.length:Int)<=(A.length:Int)+(B.length:Int):=by omega
       have hz4:(0:Int)<=(B.length:Int):=by omega
     all_goals
      cases htk:(B.getD 0 0==n.a&&(B.getD 1 0==n.b&&B.getD 2 0==n.c)) with
      | false =>
       have HF:=aA (qX (HS1.o.trans (by unfold tkE;rw[hf,htk];rfl)))
       rw[htk] at HEQ
       clear htk hf
       have heq:=HEQ.o
       go_region_held3 (fun w'=>w'.cell? ⟨q,1,none⟩=some (.i n.a)/\w'.cell? ⟨q,2,none⟩=some (.i n.b)/\w'.cell? ⟨q,3,none⟩=some (.i n.c))
        (first|exact⟨f1,f2,f3⟩|exact⟨t1,t2,t3⟩|go_keep)
        ((first
         | (go_at_call 210;refine(HTk.o).mono ?_;rintro e' V3 ⟨rfl,hb3⟩;have hb4:=bel (aF V2) hb3;obtain⟨t0,t1,t2,t3,-,-,-,-,-⟩:=(HN2.o.below hb4).nine;have HB3:=aA (bel HB2.o hb4);have HC3:=aA (HC2.o.below hb4);have HO3:=aA (bB HOA.o (Kp.of_below [] hb4) (by decide));clear hb3 hb4)))
       all_goals
        go_wp2_with fail
        go_ret
        exact⟨aV HF.o.symm,HB3.o⟩
      | true =>
       have HS2:Hid (kE BS 0 (NS.take (k+1)) ([],0)=(if bd < BS.length/\BS.getD bd 0=(k:Int) then(if A.length=0 then some ([],bd+1) else none) else some (A++[(k:Int)],bd))):=aA (HS1.o.trans (by unfold tkE;rw[hf,htk];rfl))
       rw[htk] at HEQ
       clear htk hf HS1
       have heq:=HEQ.o
       by_cases hbb:bd < bl
       ·obtain⟨b0,boff,rfl,hbc⟩:∃ b off,ba=some ⟨b,off,none⟩/\W.cell? ⟨b,off+bd,none⟩=some (.i (BS.getD bd 0)):=by
         rcases HBI.o.cell with h0|⟨b,off,ha,hlb,hc⟩
         ·omega
         ·exact⟨b,off,ha,hc bd hbb⟩
        have HBC:=aA hbc
        clear hbc
        have hj0:(0:Int)<=bd:=by omega
        have hj1:(bd:Int) < bl:=by omega
        by_cases hxk:BS.getD bd 0=k
        ·rw[hxk] at HBC
         by_cases hA0:A.length=0
         ·have HS3:Hid (kE BS 0 (NS.take (k+1)) ([],0)=some ([],bd+1)):=aA (HS2.o.trans (by rw[if_pos ⟨by rw[HLB.o];exact hbb,hxk⟩,if_pos hA0]))
          have hA1:((A.length:Int)+1 != 1)=false:=by simp;omega
          clear HS2 hxk hA0
          go_region_held3 (fun w'=>w'.cell? ⟨q,1,none⟩=some (.i n.a)/\w'.cell? ⟨q,2,none⟩=some (.i n.b)/\w'.cell? ⟨q,3,none⟩=some (.i n.c))
           (first|exact⟨f1,f2,f3⟩|exact⟨t1,t2,t3⟩|go_keep)
           ((first
            | (go_at_call 210;refine(HTk.o).mono ?_;rintro e' V3 ⟨rfl,hb3⟩;have hb4:=bel (aF V2) hb3;obtain⟨t0,t1,t2,t3,-,-,-,-,-⟩:=(HN2.o.below hb4).nine;have HB3:=aA (bel HB2.o hb4);have HC3:=aA (HC2.o.below hb4);have HO3:=aA (bB HOA.o (Kp.of_below [] hb4) (by decide));clear hb3 hb4)))
          all_goals
           go_wp2_with (at_builtin;refine uG (A:=A) rfl _ _ rfl rfl (HO3.o.alloc _) (by have:=HB3.o.size;simp;omega) _ k rfl (aB.new _ _ _) (by omega) ?_;intro g4 cap4 V4 hown hk4 hold;have HB4:=aA (hold W (bel HB3.o (aD _ _)) rfl);have HC4:=aA ((HC3.o.alloc _).kp hk4 (by decide));have HO4:=aA hown;clear hown hk4 hold;have hx1:=HC4.o.cell 1 rfl;have hx2:=(HB4.o.cell (p:=⟨b0,boff+bd,none⟩) (wBl W _ HBC.o)).trans HBC.o)
           go_roundw
           case rel=>exact⟨k+1,bd+1,[],by omega,by go_num,by go_num,by omega,by simp,aA HS3.o,aA (World.ownsRow_nil _ _ _ _),aA HC4.o,aA HB4.o⟩
           case measure=>simp[intOf];omega
         ·first
          | exact absurd (by assumption) hA0
          |
           have HF:=aA (qX (HS2.o.trans (by rw[if_pos ⟨by rw[HLB.o];exact hbb,hxk⟩,if_neg hA0])))
           have hA1:((A.length:Int)+1 != 1)=true:=by simp;omega
           clear HS2 hxk
           go_region_held3 (fun w'=>w'.cell? ⟨q,1,none⟩=some (.i n.a)/\w'.cell? ⟨q,2,none⟩=some (.i n.b)/\w'.cell? ⟨q,3,none⟩=some (.i n.c))
            (first|exact⟨f1,f2,f3⟩|exact⟨t1,t2,t3⟩|go_keep)
            ((first
             | (go_at_call 210;refine(HTk.o).mono ?_;rintro e' V3 ⟨rfl,hb3⟩;have hb4:=bel (aF V2) hb3;obtain⟨t0,t1,t2,t3,-,-,-,-,-⟩:=(HN2.o.below hb4).nine;have HB3:=aA (bel HB2.o hb4);have HC3:=aA (HC2.o.below hb4);have HO3:=aA (bB HOA.o (Kp.of_below [] hb4) (by decide));clear hb3 hb4)))
           all_goals
            go_wp2_with (at_builtin;refine uG (A:=A) rfl _ _ rfl rfl (HO3.o.alloc _) (by have:=HB3.o.size;simp;omega) _ k rfl (aB.new _ _ _) (by omega) ?_;intro g4 cap4 V4 hown hk4 hold;have HB4:=aA (hold W (bel HB3.o (aD _ _)) rfl);have HC4:=aA ((HC3.o.alloc _).kp hk4 (by decide));have HO4:=aA hown;clear hown hk4 hold;have hx1:=HC4.o.cell 1 rfl;have hx2:=(HB4.o.cell (p:=⟨b0,boff+bd,none⟩) (wBl W _ HBC.o)).trans HBC.o)
            go_ret
            exact⟨aV HF.o.symm,HB4.o⟩
        ·have HS3:=aA (HS2.o.trans (if_neg (fun h=>hxk h.2)))
         have hxk':(BS.getD bd 0==(k:Int))=false:=by simpa using hxk
         clear HS2 hxk
         generalize BS.getD bd 0=bx at *
         go_region_held3 (fun w'=>w'.cell? ⟨q,1,none⟩=some (.i n.a)/\w'.cell? ⟨q,2,none⟩=some (.i n.b)/\w'.cell? ⟨q,3,none⟩=some (.i n.c))
          (first|exact⟨f1,f2,f3⟩|exact⟨t1,t2,t3⟩|go_keep)
          ((first
           | (go_at_call 210;refine(HTk.o).mono ?_;rintro e' V3 ⟨rfl,hb3⟩;have hb4:=bel (aF V2) hb3;obtain⟨t0,t1,t2,t3,-,-,-,-,-⟩:=(HN2.o.below hb4).nine;have HB3:=aA (bel HB2.o hb4);have HC3:=aA (HC2.o.below hb4);have HO3:=aA (bB HOA.o (Kp.of_below [] hb4) (by decide));clear hb3 hb4)))
         all_goals
          go_wp2_with (at_builtin;refine uG (A:=A) rfl _ _ rfl rfl (HO3.o.alloc _) (by have:=HB3.o.size;simp;omega) _ k rfl (aB.new _ _ _) (by omega) ?_;intro g4 cap4 V4 hown hk4 hold;have HB4:=aA (hold W (bel HB3.o (aD _ _)) rfl);have HC4:=aA ((HC3.o.alloc _).kp hk4 (by decide));have HO4:=aA hown;clear hown hk4 hold;have hx1:=HC4.o.cell 1 rfl;have hx2:=(HB4.o.cell (p:=⟨b0,boff+bd,none⟩) (wBl W _ HBC.o)).trans HBC.o)
          go_roundw
          case rel=>exact⟨k+1,bd,A++[(k:Int)],by omega,by go_num,by go_num,by omega,by simp;omega,aA HS3.o,aA (by first|exact HO4.o|(have h4:=HO4.o;rw[hA0] at h4;exact h4)),aA HC4.o,aA HB4.o⟩
          case measure=>simp[intOf];omega
       ·have HS3:=aA (HS2.o.trans (if_neg (fun h=>hbb (by rw[<-HLB.o];exact h.1))))
        clear HS2
        go_region_held3 (fun w'=>w'.cell? ⟨q,1,none⟩=some (.i n.a)/\w'.cell? ⟨q,2,none⟩=some (.i n.b)/\w'.cell? ⟨q,3,none⟩=some (.i n.c))
         (first|exact⟨f1,f2,f3⟩|exact⟨t1,t2,t3⟩|go_keep)
         ((first
          | (go_at_call 210;refine(HTk.o).mono ?_;rintro e' V3 ⟨rfl,hb3⟩;have hb4:=bel (aF V2) hb3;obtain⟨t0,t1,t2,t3,-,-,-,-,-⟩:=(HN2.o.below hb4).nine;have HB3:=aA (bel HB2.o hb4);have HC3:=aA (HC2.o.below hb4);have HO3:=aA (bB HOA.o (Kp.of_below [] hb4) (by decide));clear hb3 hb4)))
        all_goals
         go_wp2_with (at_builtin;refine uG (A:=A) rfl _ _ rfl rfl (HO3.o.alloc _) (by have:=HB3.o.size;simp;omega) _ k rfl (aB.new _ _ _) (by omega) ?_;intro g4 cap4 V4 hown hk4 hold;have HB4:=aA (hold W (bel HB3.o (aD _ _)) rfl);have HC4:=aA ((HC3.o.alloc _).kp hk4 (by decide));have HO4:=aA hown;clear hown hk4 hold;have hx1:=HC4.o.cell 1 rfl)
         go_roundw
         case rel=>exact⟨k+1,bd,A++[(k:Int)],by omega,by go_num,by go_num,by omega,by simp;omega,aA HS3.o,aA (by first|exact HO4.o|(have h4:=HO4.o;rw[hA0] at h4;exact h4)),aA HC4.o,aA HB4.o⟩
         case measure=>simp[intOf];omega
  ·have hkd:k=dl:=by omega
   have HF:Hid (sO BS NS=(bd==bl&&L.length==1)):=aA (by
    have h:=HM.o
    rw[lTl (by rw[HLN.o];omega)] at h
    unfold sO
    rw[h,HLB.o])
   subst hkd
   obtain⟨va,vc,rfl,HI⟩:=Iz.of_owns HO.o
   clear HI
   have hx1:=HC.o.cell 1 rfl
   by_cases h1:bd=bl
   ·subst h1
    by_cases h2:L.length=1
    ·have HF2:=aA (show sO BS NS=true by rw[HF.o,h2];simp)
     go_wp2_with fail
     go_ret
     exact⟨aV HF2.o.symm,HB.o⟩
    ·have HF2:=aA (show sO BS NS=false by rw[HF.o,show (L.length==1)=false by simpa using h2];simp)
     have k2:((L.length:Int)==1)=false:=by simp;omega
     go_wp2_with fail
     go_ret
     exact⟨aV HF2.o.symm,HB.o⟩
   ·have HF2:=aA (show sO BS NS=false by rw[HF.o,show (bd==bl)=false by simpa using h1];rfl)
    have k1:((bd:Int)==(bl:Int))=false:=by simp;omega
    go_wp2_with fail
    go_ret
    exact⟨aV HF2.o.symm,HB.o⟩
end
section
open Go.RowKit Go.IntWalk Lx Pz
theorem aU8 {BS:List Int}{i:Nat}{n:Nd}{s t:List Int × Nat}(h:jG BS i n s=some t):t.2<=s.2+1:=by
 unfold jG at h
 split at h
 ·split at h
  ·split at h
   ·cases h;exact nLr _
   ·cases h
  ·cases h;exact Nat.le_succ _
 ·cases h
theorem aJc {BS:List Int}:∀ {NS:List Nd} {i:Nat} {s t:List Int × Nat},kE BS i NS s=some t->t.2<=s.2+NS.length
 | [],i,s,t,h=>by cases h;exact nLr _
 | n::NS,i,s,t,h=>by
  simp only[kE] at h
  cases hs:jG BS i n s with
  | none=>rw[hs] at h;cases h
  | some u =>
   rw[hs] at h
   have h1:=aU8 hs
   have h2:=aJc (show kE BS (i+1) NS u=some t from h)
   simp only[lLc]
   omega
theorem aJl {BS:List Int}{NS:List Nd}(h:sO BS NS=true):BS.length<=NS.length:=by
 unfold sO at h
 split at h
 ·rename_i s hs
  have:=aJc hs
  simp only[bAt,beq_iff_eq] at h
  simp at this
  omega
 ·cases h
def pO (NM:List aM)(BS:List Int)(NS:List Nd)(root:Int):Bool:=NM.length==BS.length&&(yJ NS.length root&&(sO BS NS&&zO NM))
theorem uX {W:World}{na ba da:Option Addr}{nl nc bl bc dl dc:Nat}{root:Int}{NM:List aM}{BS:List Int}{NS:List Nd}(hX:Tx W na nl nc NM)(hB:Iz W ba bl bc BS)(hN:Nz W da dl dc NS)(hs:∀ s ∈ NM,s.length<=9223372036854775807) :
  Calls Tryz.prog 74 #[.agg (eY (.slice na nl nc) (.slice ba bl bc) (.slice da dl dc) (.i root))] W fun e W'=>e=.returned (.i (if pO NM BS NS root then 0 else 3))/\Below W.heap.size W W':=by
 have hdl:dl<=9223372036854775807:=by have:=hN.le;have:=hN.max;unfold maxLen at *;omega
 unfold pO
 rw[hX.len,hB.len,hN.len]
 have hb0:=aD W (.cells (eY (.slice na nl nc) (.slice ba bl bc) (.slice da dl dc) (.i root)) 50)
 have HB:=aA hb0
 have HC:=aA (aB.new W 50 (eY (.slice na nl nc) (.slice ba bl bc) (.slice da dl dc) (.i root)))
 have HX:=aA (hX.later hb0)
 have HBI:=aA (hB.later hb0)
 have HN:=aA (hN.later hb0)
 have HLB:=aA hB.len
 have HLN:=aA hN.len
 have HS:=aA hs
 clear hX hB hN hb0 hs
 by_cases h1:nl=bl
 ·subst h1
  have k1:((nl:Int) != (nl:Int))=false:=by simp
  rw[show (nl==nl)=true by simp,Bool.true_and]
  have HE:=aA fun V=>yK (.slice na nl nc) (.slice ba nl bc) da dl dc root V hdl ⟨_,_,_,rfl⟩ ⟨_,_,_,rfl⟩
  cases he:yJ dl root with
  | false =>
   rw[he] at HE
   rw[Bool.false_and]
   clear he
   go_enter Tryz.func74,Tryz.ntmps74
   go_wp2_with fail
   refine(HE.o _).mono ?_
   rintro e V1 ⟨rfl,hb1⟩
   have HB1:=aA (bel HB.o hb1)
   clear hb1
   go_wp2_with fail
   go_ret
   exact⟨rfl,HB1.o⟩
  | true =>
   rw[he] at HE
   rw[Bool.true_and]
   have hd4:dl<=1024:=by simp[yJ,bW] at he;omega
   clear he
   cases ho:sO BS NS with
   | false =>
    rw[Bool.false_and]
    have HO:=aA ho
    clear ho
    go_enter Tryz.func74,Tryz.ntmps74
    go_wp2_with fail
    refine(HE.o _).mono ?_
    rintro e V1 ⟨rfl,hb1⟩
    have HB1:=aA (bel HB.o hb1)
    obtain⟨t0,t1,t2,t3⟩:=aX (HC.o.below hb1)
    have HI:=aA (fun na nl nc root=>wE (na:=na) (nl:=nl) (nc:=nc) (root:=root) (HBI.o.later hb1) (HN.o.later hb1) hd4)
    rw[HO.o] at HI
    clear hb1 HB
    go_wp2_with fail
    refine(HI.o _ _ _ _).mono ?_
    rintro e V2 ⟨rfl,hb1⟩
    have HB2:=aA (bel HB1.o hb1)
    clear hb1
    go_wp2_with fail
    go_ret
    exact⟨rfl,HB2.o⟩
   | true =>
    rw[Bool.true_and]
    have HO:=aA ho
    have hn4:nl<=1024:=by have:=aJl ho;rw[HLB.o,HLN.o] at this;omega
    clear ho
    generalize hz:zO NM=z
    have HZ:=aA hz
    clear hz
    go_enter Tryz.func74,Tryz.ntmps74
    go_wp2_with fail
    refine(HE.o _).mono ?_
    rintro e V1 ⟨rfl,hb1⟩
    have HB1:=aA (bel HB.o hb1)
    have HC1:=aA (HC.o.below hb1)
    obtain⟨t0,t1,t2,t3⟩:=aX HC1.o
    have HI:=aA (fun na nl nc root=>wE (na:=na) (nl:=nl) (nc:=nc) (root:=root) (HBI.o.later hb1) (HN.o.later hb1) hd4)
    have HX1:=aA (HX.o.later hb1)
    rw[HO.o] at HI
    clear hb1 HB
    go_wp2_with fail
    refine(HI.o _ _ _ _).mono ?_
    rintro e V2 ⟨rfl,hb1⟩
    have HB2:=aA (bel HB1.o hb1)
    obtain⟨s0,s1,s2,s3⟩:=aX (HC1.o.below hb1)
    have HM:=aA (aKh (HX1.o.later hb1) hn4 HS.o)
    rw[HZ.o] at HM
    clear hb1
    cases z
    all_goals
     go_wp2_with fail
     refine(HM.o).mono ?_
     rintro e V3 ⟨rfl,hb1⟩
     have HB3:=aA (bel HB2.o hb1)
     clear hb1
     go_wp2_with fail
     go_ret
     exact⟨rfl,HB3.o⟩
 ·have k1:((nl:Int) != (bl:Int))=true:=by simp;omega
  rw[show (nl==bl)=false by simpa using h1,Bool.false_and]
  go_enter Tryz.func74,Tryz.ntmps74
  go_wp2_with fail
  go_ret
  exact⟨rfl,HB.o⟩
end
section
open Lx Pz
variable {bd:Nat} {BS:List Int}
def eH:Tk->Bool
 | .num v=>decide (0<=v)&&decide (v<=2147483647)
 | .op _ o=>gM o==2
 | .word s=>rW s
 | _=>true
theorem aYf {t:Tok}(h:Wf t):eH (ab t)=true:=by
 rcases h with⟨hk,h⟩|⟨hk,h⟩|⟨hk,h⟩
 ·simp only[ab,hk,if_true,eH]
  simp only[num,bAt,dEt] at h
  simp only[bAt,dEt]
  exact⟨vW h.1.1.2,h.2⟩
 ·rw[show ab t=.word t.text by simp[ab,hk]]
  exact h
 ·rw[show ab t=mkT t.text by simp[ab,hk]]
  have:∀ s ∈ marks.map (·.1),eH (mkT s)=true:=by decide
  exact this _ h
def Gd (bd:Nat):E->Prop
 | .leaf n=>n.a=0/\n.b=0/\n.c=0/\gM n.op=0/\kC n bd=true
 | .un o a=>gM o=1/\Gd bd a
 | .bin o a b=>gM o=2/\Gd bd a/\Gd bd b
 | .tri o a b c=>gM o=3/\Gd bd a/\Gd bd b/\Gd bd c
theorem aG4 {o:Int}(h:0 < gM o)(a b c:Int)(bd:Int):kC ⟨o,a,b,c,0,0,0,0,0⟩ bd=true:=by
 have h1:o≠1:=by intro e;subst e;revert h;decide
 have h2:o≠2:=by intro e;subst e;revert h;decide
 have h3:o≠3:=by intro e;subst e;revert h;decide
 have h4:o≠4:=by intro e;subst e;revert h;decide
 simp[kC,jC,h1,h2,h3,h4,rR,bW]
theorem aHn {l r:List Tk}{x:Int}(h:off l=some (x,r))(hl:l.all eH=true):bW x (-MX) MX=true/\r.all eH=true:=by
 unfold off at h
 split at h
 ·cases h
  simp only[lAc,eH,bAt,dEt] at hl
  simp only[bW,MX,bAt,dEt]
  exact⟨⟨by omega,by omega⟩,hl.2⟩
 ·split at h
  ·cases h
   simp only[lAc,eH,bAt,dEt] at hl
   simp only[bW,MX,bAt,dEt]
   exact⟨⟨by omega,by omega⟩,hl.2.2⟩
  ·cases h
 ·cases h
theorem aJi {back:Int}{l r:List Tk}{e:E}(h:kP back l=some (e,r))(hl:l.all eH=true)(hb:bW back 0 MX=true):Gd bd e:=by
 unfold kP at h
 split at h
 ·rename_i x r0 ho
  cases h
  have h1:=(aHn ho hl).1
  refine⟨rfl,rfl,rfl,rfl,?_⟩
  simp only[kC,zM,if_true,h1,hb]
  decide
 ·rename_i x r0 ho
  have h1:=aHn ho hl
  split at h
  ·rename_i y r2 ho2
   cases h
   have h2:=aHn ho2 (by have:=h1.2;simp only[lAc,bAt] at this;exact this.2)
   refine⟨rfl,rfl,rfl,rfl,?_⟩
   simp only[kC,zM,if_true,h1.1,h2.1,hb]
   rfl
  ·cases h
 ·cases h
theorem aYp {q:Bool}{l r:List Tk}{e:E}(h:wR q l=some (e,r))(hl:l.all eH=true):Gd bd e:=by
 unfold wR at h
 split at h
 ·simp only[lAc,bAt] at hl
  split at h
  ·split at h
   ·split at h
    ·cases h
    ·simp only[lAc,eH,bAt,dEt] at hl
     exact aJi h hl.2.2.2 (by simp only[bW,MX,bAt,dEt];omega)
   ·cases h
  ·exact aJi h hl.2 (by decide)
 ·cases h
theorem aCb {s:aM}(h:0 < tF (bG s)):gM (bG s)=tF (bG s):=by
 have hc:=gB h
 clear h
 unfold bG at hc ⊢
 repeat' split at hc
 all_goals first|(exact absurd rfl hc)|skip
 all_goals simp only[*,if_true] <;> decide
theorem bB6 {nm:List aM}{s:aM}{e:E}(h:wd nm s=some e):Gd nm.length e:=by
 unfold wd at h
 split at h
 ·rename_i h0
  cases h
  refine⟨rfl,rfl,rfl,rfl,?_⟩
  have h5:inK s<=5:=by
   unfold inK
   repeat' split
   all_goals omega
  simp[kC,jC,rR,bW,h0,h5]
 ·split at h
  ·rename_i h0 hc
   cases h
   refine⟨rfl,rfl,rfl,rfl,?_⟩
   have:pos nm s < nm.length:=by
    unfold pos
    rw[List.findIdx_lt_length]
    exact⟨s,by simpa using hc,by simp⟩
   simp[kC,jC,rR,bW]
   omega
  ·cases h
theorem bAl {nm:List aM}{c:Nat}{l:List Tk}{e:E}(h:G nm c l e):l.all eH=true->Gd nm.length e:=by
 induction h with
 | up _ _ ih=>exact ih
 | sel _ _ _ ih1 ih2 ih3 =>
  intro h
  simp only[List.all_append,lAc,bAt] at h
  exact⟨rfl,ih1 h.1,ih2 h.2.2.1,ih3 h.2.2.2.2⟩
 | bin _ _ _ ih1 ih2 =>
  intro h
  simp only[List.all_append,lAc,bAt,eH,beq_iff_eq] at h
  exact⟨h.2.1,ih1 h.1,ih2 h.2.2⟩
 | neg _ ih =>
  intro h
  simp only[lAc,bAt] at h
  exact⟨rfl,ih h.2⟩
 | par _ ih =>
  intro h
  simp only[List.all_append,lAc,bAt] at h
  exact ih h.2.1
 | num v =>
  intro h
  simp only[lAc,eH,bAt,dEt] at h
  refine⟨rfl,rfl,rfl,rfl,?_⟩
  simp[kC,jC,rR,bW,MX]
  omega
 | word _ _ _ hw=>intro _;exact bB6 hw
 | place _ hp=>intro h;simp only[lAc,bAt] at h;exact aYp hp h.2
 | call1 ha _ ih =>
  intro h
  simp only[List.all_append,lAc,bAt] at h
  exact⟨by rw[aCb (by omega),ha];rfl,ih h.2.2.1⟩
 | call2 ha _ _ ih1 ih2 =>
  intro h
  simp only[List.all_append,lAc,bAt] at h
  exact⟨by rw[aCb (by omega),ha];rfl,ih1 h.2.2.1,ih2 h.2.2.2.2.1⟩
 | call3 ha _ _ _ ih1 ih2 ih3 =>
  intro h
  simp only[List.all_append,lAc,bAt] at h
  exact⟨by rw[aCb (by omega),ha];rfl,ih1 h.2.2.1,ih2 h.2.2.2.2.1,ih3 h.2.2.2.2.2.2.1⟩
def zI (BS:List Int)(i:Nat)(L:List Int)(bd:Nat):Option (List Int × Nat) :=
 if bd < BS.length/\BS.getD bd 0=i then(if L.length=0 then some ([],bd+1) else none) else some (L++[(i:Int)],bd)
theorem rJ {i:Nat}{n:Nd}{L B:List Int}(h1:gM n.op=B.length)(h2:kC n bd=true)(h3:tkE B n=true):jG BS i n (L++B,bd)=zI BS i L bd:=by
 rw[aDy h1,h2,h3]
 rfl
theorem uJ (BS:List Int)(i:Nat)(n:Nd)(s:List Int × Nat):kE BS i [n] s=jG BS i n s:=by
 show (jG BS i n s).bind _=_
 cases jG BS i n s <;> rfl
theorem oG {i:Nat}{L:List Int}(h:¬(bd < BS.length/\BS.getD bd 0=(i:Int))):zI BS i L bd=some (L++[(i:Int)],bd):=if_neg h
theorem qC {BS:List Int}{bd:Nat}:∀(e:E) (s:Nat) (L:List Int),Gd bd e->(∀ i,s<=i->i+1 < s+e.size->¬(bd < BS.length/\BS.getD bd 0=(i:Int)))->kE BS s (e.flat s) (L,bd)=zI BS (s+e.size-1) L bd
 | .leaf n,s,L,hg,hno=>by
  obtain⟨h1,h2,h3,h4,h5⟩:=hg
  show kE BS s [n] (L,bd)=_
  rw[uJ]
  have:=rJ (BS:=BS) (i:=s) (L:=L) (B:=[]) (n:=n) (bd:=bd) (by rw[h4];rfl) h5 (by simp[tkE,h1,h2,h3])
  rw[List.append_nil] at this
  exact this
 | .un o a,s,L,hg,hno=>by
  obtain⟨h1,ha⟩:=hg
  have pa:=a.size_pos
  simp only[E.size] at hno
  simp only[E.flat]
  rw[iG,qC a s L ha (fun i h1 h2=>hno i h1 (by omega)),oG (hno _ (by omega) (by omega))]
  show kE BS _ [_] _=_
  rw[uJ,E.flat_len,rJ (by rw[h1];rfl) (aG4 (by omega) _ _ _ _) (by simp[tkE];omega)]
  simp only[E.size]
  rw[show s+(a.size+1)-1=s+a.size by omega]
 | .bin o a b,s,L,hg,hno=>by
  obtain⟨h1,ha,hb⟩:=hg
  have pa:=a.size_pos
  have pb:=b.size_pos
  simp only[E.size] at hno
  simp only[E.flat]
  rw[iG,iG,qC a s L ha (fun i h1 h2=>hno i h1 (by omega)),oG (hno _ (by omega) (by omega)),Option.bind_some,E.flat_len,qC b (s+a.size) _ hb (fun i h1 h2=>hno i (by omega) (by omega)),oG (hno _ (by omega) (by omega)),Option.bind_some,uJ,lAa,rJ (by rw[h1];rfl) (aG4 (by omega) _ _ _ _) (by simp[tkE];omega)]
  simp only[E.size,lLa,E.flat_len]
  rw[show s+(a.size+b.size+1)-1=s+(a.size+b.size) by omega]
 | .tri o a b c,s,L,hg,hno=>by
  obtain⟨h1,ha,hb,hc⟩:=hg
  have pa:=a.size_pos
  have pb:=b.size_pos
  have pc:=c.size_pos
  simp only[E.size] at hno
  simp only[E.flat]
  rw[iG,iG,iG,qC a s L ha (fun i h1 h2=>hno i h1 (by omega)),oG (hno _ (by omega) (by omega)),Option.bind_some,E.flat_len,qC b (s+a.size) _ hb (fun i h1 h2=>hno i (by omega) (by omega)),oG (hno _ (by omega) (by omega)),Option.bind_some,lLa,E.flat_len,E.flat_len,<-Nat.add_assoc,qC c (s+a.size+b.size) _ hc (fun i h1 h2=>hno i (by omega) (by omega)),oG (hno _ (by omega) (by omega)),Option.bind_some,uJ,show ∀ x y z:Int,L++[x]++[y]++[z]=L++[x,y,z] from by intros;simp,rJ (by rw[h1];rfl) (aG4 (by omega) _ _ _ _) (by simp[tkE];omega)]
  simp only[E.size,lLa,E.flat_len]
  rw[show s+(a.size+b.size+c.size+1)-1=s+(a.size+b.size+c.size) by omega]
theorem aOv {BS:List Int}:∀(es:List E) (ex:E) (s bd:Nat),bd<=BS.length->BS.drop bd=iA es s->(∀ j e,es[j]?=some e->Gd (bd+j) e)->Gd (bd+es.length) ex->kE BS s (jL es s++ex.flat (s+bZ es)) ([],bd)=some ([((s+bZ es+ex.size-1:Nat):Int)],BS.length)
 | [],ex,s,bd,hle,hd,hes,hex=>by
  have hl:bd=BS.length:=by
   have:=congrArg List.length hd
   simp[iA] at this
   omega
  simp only[jL,bZ,List.nil_append,Nat.add_zero]
  rw[qC (bd:=bd) ex s [] hex (fun i _ _ h=>by omega),oG (fun h=>by omega),hl]
  rfl
 | a::es,ex,s,bd,hle,hd,hes,hex=>by
  have hlt:bd < BS.length:=by
   have:=congrArg List.length hd
   simp[iA] at this
   omega
  have pa:=a.size_pos
  have hg:BS.getD bd 0=((s+a.size:Nat):Int)-1:=by
   have:=congrArg (fun l=>l.getD 0 0) hd
   simp only[iA,List.getD_cons_zero] at this
   rw[<-this,gdE,gdE,List.getElem?_drop,Nat.add_zero]
  simp only[jL,bZ]
  rw[lAa,iG,qC (bd:=bd) a s [] (hes 0 a rfl) (fun i h1 h2 h=>by have:=h.2;rw[hg] at this;omega)]
  rw[show zI BS (s+a.size-1) [] bd=some ([],bd+1) by unfold zI;rw[if_pos ⟨hlt,by rw[hg];omega⟩];rfl]
  rw[Option.bind_some,E.flat_len,<-Nat.add_assoc]
  refine aOv es ex (s+a.size) (bd+1) hlt ?_ ?_ ?_
  ·rw[<-List.drop_drop,hd];rfl
  ·intro j e he
   have:=hes (j+1) e he
   rwa[show bd+(j+1)=bd+1+j by omega] at this
  ·rw[lLc] at hex
   rwa[show bd+(es.length+1)=bd+1+es.length by omega] at hex
theorem bAo {nm:List aM}{es:List E}{l:List Tk}{o:Out}(h:GP nm es l o):l.all eH=true->nm.length=es.length->(∀ j e,es[j]?=some e->Gd j e)->zO nm=true->(∀ j e,o.2.1[j]?=some e->Gd j e)/\Gd o.2.1.length o.2.2/\zO o.1=true:=by
 induction h with
 | last hg=>intro h1 h2 h3 h4;exact⟨h3,h2 ▸ bAl hg h1,h4⟩
 | @bind nm es s l1 l2 e o hr hc hg _ ih =>
  intro h1 h2 h3 h4
  simp only[List.all_append,lAc,bAt] at h1
  have hw:rW s=true:=h1.2.1
  refine ih h1.2.2.2.2.2 (by simp[h2]) ?_ (by rw[zP,h4,hw,hr,hc];rfl)
  intro j e' he
  by_cases hj:j < es.length
  ·rw[gAl hj] at he;exact h3 j e' he
  ·rw[gAr (by omega)] at he
   have hj0:j-es.length=0:=by
    cases hh:j-es.length with
    | zero=>rfl
    | succ m=>rw[hh] at he;simp at he
   rw[hj0] at he
   cases he
   have:j=nm.length:=by omega
   rw[this]
   exact bAl hg h1.2.2.2.1
end
open Lx Pz
variable {BS:List Int} {bd:Nat}
def Good (BS:List Int)(NS:List Nd):Prop:=∃ es ex,NS=jL es 0++ex.flat (bZ es)/\BS=iA es 0/\(∀ j e,es[j]?=some e->Gd j e)/\Gd es.length ex
theorem xA:∀(A B:List E) (s:Nat),jL (A++B) s=jL A s++jL B (s+bZ A)
 | [],B,s=>by simp[jL,bZ]
 | a::A,B,s=>by simp only[List.cons_append,jL,bZ,xA A B,lAa,Nat.add_assoc]
theorem aDz:∀(A B:List E),bZ (A++B)=bZ A+bZ B
 | [],B=>by simp[bZ]
 | a::A,B=>by simp only[List.cons_append,bZ,aDz A B];omega
theorem wY:∀(A B:List E) (s:Nat),iA (A++B) s=iA A s++iA B (s+bZ A)
 | [],B,s=>by simp[iA,bZ]
 | a::A,B,s=>by simp only[List.cons_append,iA,bZ,wY A B,Nat.add_assoc]
theorem eX:∀(es:List E) (s:Nat),(iA es s).length=es.length
 | [],s=>rfl
 | a::es,s=>by simp[iA,eX es]
theorem dD:∀(es:List E) (s:Nat),(jL es s).length=bZ es
 | [],s=>rfl
 | a::es,s=>by simp[jL,bZ,dD es,E.flat_len]
theorem aLw {i:Nat}{n:Nd}{L:List Int}{t:List Int × Nat}(h:jG BS i n (L,bd)=some t) :
  ∃ A B,L=A++B/\gM n.op=B.length/\B.length<=3/\kC n bd=true/\tkE B n=true/\zI BS i A bd=some t:=by
 cases hw:bW (gM n.op) 0 L.length with
 | false=>rw[aF9 hw] at h;cases h
 | true =>
  obtain⟨A,B,rfl,hp,h3⟩:=aAf hw
  rw[aDy hp] at h
  split at h
  ·rename_i hc
   simp only[bAt] at hc
   exact⟨A,B,rfl,hp,h3,hc.1,hc.2,h⟩
  ·cases h
def Inv (BS:List Int)(P:List Nd)(L:List Int)(bd:Nat):Prop :=
 ∃ es st,P=jL es 0++jL st (bZ es)/\L=iA st (bZ es)/\es.length=bd/\iA es 0=BS.take bd/\bd<=BS.length/\(∀ j e,es[j]?=some e->Gd j e)/\(∀ e ∈ st,Gd bd e)
theorem aKd {st:List E}{s:Nat}{A B:List Int}(h:iA st s=A++B):∃ s1 s2,st=s1++s2/\iA s1 s=A/\iA s2 (s+bZ s1)=B:=by
 have hl:A.length<=st.length:=by rw[<-eX st s,h,lLa];omega
 refine⟨st.take A.length,st.drop A.length,(lTd _ _).symm,?_⟩
 have e:=wY (st.take A.length) (st.drop A.length) s
 rw[lTd,h] at e
 have h2:=List.append_inj e (by rw[eX,lLt];omega)
 exact⟨h2.1.symm,h2.2.symm⟩
theorem aTz {st:List E}{s:Nat}{n:Nd}(hp:gM n.op=st.length)(h3:st.length<=3)(hf:kC n bd=true)(ht:tkE (iA st s) n=true)(hg:∀ e ∈ st,Gd bd e):∃ e:E,e.flat s=jL st s++[n]/\e.size=bZ st+1/\Gd bd e:=by
 have hz:n.op≠3->gM n.op≠0->n.k=0/\n.back=0/\n.co=0/\n.x=0/\n.y=0:=by
  intro ho hpz
  have h1:n.op≠1:=by intro e;rw[e] at hpz;exact hpz rfl
  have h2:n.op≠2:=by intro e;rw[e] at hpz;exact hpz rfl
  have h4:n.op≠4:=by intro e;rw[e] at hpz;exact hpz rfl
  simp[kC,ho,jC,h1,h2,h4,rR,bW] at hf
  omega
 have h30:gM n.op≠0->n.op≠3:=by intro h e;rw[e] at h;exact h rfl
 simp only[tkE,bAt,beq_iff_eq] at ht
 match st,h3,hp,ht,hg with
 | [],_,hp,ht,hg =>
  refine⟨.leaf n,by simp[E.flat,jL],rfl,?_⟩
  exact⟨by simpa [iA] using ht.1.symm,by simpa [iA] using ht.2.1.symm,by simpa [iA] using ht.2.2.symm,hp,hf⟩
 | [a],_,hp,ht,hg =>
  have hp1:gM n.op=1:=hp
  obtain⟨z1,z2,z3,z4,z5⟩:=hz (h30 (by omega)) (by omega)
  refine⟨.un n.op a,?_,by simp[E.size,bZ],hp1,hg a (by simp)⟩
  obtain⟨op,x1,x2,x3,k,back,co,x,y⟩:=n
  simp[iA] at ht
  simp only at z1 z2 z3 z4 z5
  obtain⟨t1,t2,t3⟩:=ht
  subst z1 z2 z3 z4 z5 t2 t3
  simp[E.flat,jL,<-t1]
 | [a,b],_,hp,ht,hg =>
  have hp1:gM n.op=2:=hp
  obtain⟨z1,z2,z3,z4,z5⟩:=hz (h30 (by omega)) (by omega)
  refine⟨.bin n.op a b,?_,by simp[E.size,bZ],hp1,hg a (by simp),hg b (by simp)⟩
  obtain⟨op,x1,x2,x3,k,back,co,x,y⟩:=n
  simp[iA] at ht
  simp only at z1 z2 z3 z4 z5
  obtain⟨t1,t2,t3⟩:=ht
  subst z1 z2 z3 z4 z5 t3
  simp[E.flat,jL,<-t1,<-t2]
 | [a,b,c],_,hp,ht,hg =>
  have hp1:gM n.op=3:=hp
  obtain⟨z1,z2,z3,z4,z5⟩:=hz (h30 (by omega)) (by omega)
  refine⟨.tri n.op a b c,?_,by simp[E.size,bZ];omega,hp1,hg a (by simp),hg b (by simp),hg c (by simp)⟩
  obtain⟨op,x1,x2,x3,k,back,co,x,y⟩:=n
  simp[iA] at ht
  simp only at z1 z2 z3 z4 z5
  obtain⟨t1,t2,t3⟩:=ht
  subst z1 z2 z3 z4 z5
  simp[E.flat,jL,<-t1,<-t2,<-t3]
theorem aOg {P:List Nd}{L:List Int}{n:Nd}{t:List Int × Nat}(hI:Inv BS P L bd)(h:jG BS P.length n (L,bd)=some t):Inv BS (P++[n]) t.1 t.2:=by
 obtain⟨es,st,hP,hL,hes,hbs,hle,hg1,hg2⟩:=hI
 obtain⟨A,B,hAB,hp,h3,hf,ht,hl⟩:=aLw h
 rw[hL] at hAB
 obtain⟨s1,s2,rfl,hA,hB⟩:=aKd hAB
 have hBl:B.length=s2.length:=by rw[<-hB,eX]
 obtain⟨e,he1,he2,he3⟩:=aTz (st:=s2) (s:=bZ es+bZ s1) (bd:=bd) (n:=n) (by rw[hp,hBl]) (by omega) hf (by rw[hB];exact ht) (fun e he=>hg2 e (by simp[he]))
 have hPl:P.length=bZ es+bZ s1+bZ s2:=by rw[hP,lLa,dD,dD,aDz];omega
 have hP2:P++[n]=jL es 0++jL (s1++[e]) (bZ es):=by
  rw[hP,xA,xA]
  simp only[jL,List.append_nil,he1,lAa]
 have hi:((P.length:Nat):Int)=((bZ es+bZ s1+e.size:Nat):Int)-1:=by rw[hPl,he2];omega
 unfold zI at hl
 split at hl
 ·rename_i hc
  split at hl
  ·rename_i hA0
   cases hl
   have hs1:s1=[]:=List.length_eq_zero_iff.1 (by rw[<-eX s1 (bZ es),hA];exact hA0)
   subst hs1
   refine⟨es++[e],[],?_,rfl,by simp[hes],?_,hc.1,?_,by simp⟩
   ·rw[hP2]
    simp[xA,jL]
   ·rw[wY,hbs,lTs hc.1]
    have hg:BS[bd]=BS.getD bd 0:=by rw[gdE,gEg hc.1];rfl
    rw[hg,hc.2,hi]
    simp[iA,bZ]
   ·intro j e' hj
    by_cases hjl:j < es.length
    ·rw[gAl hjl] at hj;exact hg1 j e' hj
    ·rw[gAr (by omega)] at hj
     have hj0:j-es.length=0:=by
      cases hh:j-es.length with
      | zero=>rfl
      | succ m=>rw[hh] at hj;simp at hj
     rw[hj0] at hj
     cases hj
     rw[show j=bd by omega]
     exact he3
  ·cases hl
 ·cases hl
  refine⟨es,s1++[e],hP2,?_,hes,hbs,hle,hg1,?_⟩
  ·rw[wY,hA,hi]
   rfl
  ·intro e' he'
   rcases List.mem_append.1 he' with h|h
   ·exact hg2 e' (by simp[h])
   ·simp at h;subst h;exact he3
theorem aI5 {BS:List Int}:∀(N P:List Nd) (L:List Int) (bd:Nat) (t:List Int × Nat),Inv BS P L bd->kE BS P.length N (L,bd)=some t->Inv BS (P++N) t.1 t.2
 | [],P,L,bd,t,hI,h=>by cases h;rw[List.append_nil];exact hI
 | n::N,P,L,bd,t,hI,h=>by
  simp only[kE] at h
  cases hs:jG BS P.length n (L,bd) with
  | none=>rw[hs] at h;cases h
  | some u =>
   rw[hs] at h
   have h1:=aOg hI hs
   have:=aI5 N (P++[n]) u.1 u.2 t h1 (by rw[lLa];exact h)
   rw[lAa] at this
   exact this
theorem zU {NS:List Nd}:sO BS NS=true↔Good BS NS:=by
 constructor
 ·intro h
  unfold sO at h
  split at h
  ·rename_i t ht
   simp only[bAt,beq_iff_eq] at h
   have hI:=aI5 NS [] [] 0 t ⟨[],[],rfl,rfl,rfl,rfl,nZl _,by intro j e h;simp at h,by simp⟩ ht
   obtain⟨es,st,hP,hL,hes,hbs,hle,hg1,hg2⟩:=hI
   have hst:st.length=1:=by rw[<-eX st (bZ es),<-hL];exact h.2
   match st,hst with
   | [ex],_ =>
    refine⟨es,ex,by simpa [jL] using hP,?_,hg1,?_⟩
    ·rw[hbs,lTl (by omega)]
    ·rw[hes];exact hg2 ex (by simp)
  ·cases h
 ·rintro⟨es,ex,rfl,rfl,h1,h2⟩
  have hm:=aOv (BS:=iA es 0) es ex 0 0 (nZl _) rfl (by intro j e h;rw[nZa];exact h1 j e h) (by rw[nZa];exact h2)
  rw[nZa] at hm
  unfold sO
  rw[hm]
  simp
end Go.Proofs.YticnbcfmbhjbgaaGreatDoor
namespace Go.Proofs.Knd
open Go.RowKit
structure Blk where
 back:Int
 coords:Int
 y0:Int
 y1:Int
 x0:Int
 x1:Int
def Blk.cells (b:Blk):List Value:=[.i b.back,.i b.coords,.i b.y0,.i b.y1,.i b.x0,.i b.x1]
def gD (l:List Blk):List Value:=l.flatMap Blk.cells
theorem vY (l:List Blk)(b:Blk):gD (l++[b])=gD l++b.cells:=by simp[gD]
def qV (k:Nat):List Blk:=[⟨0,2,-2,-1,-3,3⟩,⟨0,2,0,0,-3,-1⟩]++(List.range k).map fun j=>⟨(j:Int)+1,2,-1,1,-1,1⟩
def rG (k:Nat):List Blk:=[⟨0,1,0,0,-16,-1⟩]++(List.range k).map fun j=>⟨(j:Int)+1,1,0,0,-4,0⟩
def vD:List Blk:=qV 3
def vT:List Blk:=rG 3
theorem aCv (k:Nat):qV (k+1)=qV k++[⟨(k:Int)+1,2,-1,1,-1,1⟩]:=by simp[qV,List.range_succ]
theorem aDw (k:Nat):rG (k+1)=rG k++[⟨(k:Int)+1,1,0,0,-4,0⟩]:=by simp[rG,List.range_succ]
def iX (f d:Int):List Blk:=if May f d then(if f=0 then vD else vT) else[]
theorem Tryz.info350:(Tryz.prog.info? 350).map (fun i=>(i.zero,i.size,i.bytes))=some (some (.agg #[.i 0,.i 0,.i 0,.i 0,.i 0,.i 0]),6,48):=by kernel_rfl
theorem info_parts {P:Program}{e:TypeId}{z:Value}{s b:Nat}(h:(P.info? e).map (fun i=>(i.zero,i.size,i.bytes))=some (some z,s,b)) :
  ∃ i,P.info? e=some i/\i.zero=some z/\i.size=s/\i.bytes=b:=by
 cases hi:P.info? e with
 | none=>rw[hi] at h;cases h
 | some i=>rw[hi] at h;simp at h;exact⟨i,rfl,h.1,h.2.1,h.2.2⟩
theorem aA2 (w:World)(cs:Array Value)(t:TypeId):∀ j u,cs.toList[j]?=some u->(w.alloc (.cells cs t)).cell? ((⟨w.heap.size,0,none⟩:Addr).add j)=some u:=by
 intro j u h
 have hadd:(⟨w.heap.size,0,none⟩:Addr).add j=⟨w.heap.size,j,none⟩:=by unfold Addr.add;split <;> simp_all
 rw[hadd,cell_of_row _ _ j cs t (0,0) (heap_alloc_new w _)]
 simpa using h
theorem tQ {w wr w1:World}{e:TypeId}{s n:Nat}{v:Value}{xs:List Value}{o:Obj}(hB:Below w.heap.size w wr)(hr:wr.ownsRow w.heap.size e s v n xs)(hg:(wr.alloc o).grownBy w1 v.ownBlock):Below w.heap.size w w1 :=
 (hB.alloc hB.size o).grown hg (by have:=hB.size;simp;omega) (fun k hk=>(hr.lt k hk).1)
theorem aDc {w wr w1:World}{e t:TypeId}{s n A:Nat}{v:Value}{xs:List Value}{o:Obj}{cs:Array Value}{fr:Nat × Nat}(hA:wr.heap[A]?=some (.cells cs t fr))(hte:t≠e)(hr:wr.ownsRow w.heap.size e s v n xs)(hg:(wr.alloc o).grownBy w1 v.ownBlock):w1.heap[A]?=some (.cells cs t fr):=by
 have hlt:A < wr.heap.size:=(aGs.1 hA).1
 have h1:(wr.alloc o).heap[A]?=some (.cells cs t fr):=(Below.heap_alloc wr o A hlt).trans hA
 refine(hg.block A (by simp;omega) (fun h=>?_)).trans h1
 rcases hr.2 with⟨rfl,_⟩|⟨g,cap,cur,rfl,_,hgg,_⟩
 ·simp[Value.ownBlock] at h
 ·simp[Value.ownBlock] at h
  subst h
  rw[hA] at hgg
  simp at hgg
  exact hte hgg.2.1
theorem aB9 (d:Int)(w:World)(hm:May 1 d) :
  Calls Tryz.prog 310 #[.agg #[.i 1,.i d]] w fun e w'=>∃ v,e=.returned v/\w'.ownsRow w.heap.size 350 6 v 4 (gD vT)/\Below w.heap.size w w':=by
 obtain⟨i0,hi,hz0,hz1,hz2⟩:=info_parts Tryz.info350
 have hb:=aD w (.cells #[.i 1,.i d] 23)
 go_enter Tryz.func310,Tryz.ntmps310
 go_wp2_with (go_at_call 30;refine(fK _ _ _ hm).mono ?_;rintro e w2 ⟨rfl,hb2⟩;obtain⟨hc2,hf2⟩:=kG hb2)
 have HB2:=aA ((bel hb hb2).alloc (bel hb hb2).size (.cells #[.i 0,.i 1,.i 0,.i 0,.i (-16),.i (-1)] 350))
 have hr0:(w2.alloc (.cells #[.i 0,.i 1,.i 0,.i 0,.i (-16),.i (-1)] 350)).ownsRow w.heap.size 350 6 (.slice (some ⟨w2.heap.size,0,none⟩) 1 1) 1 (gD (rG 0)) :=
  World.ownsRow_lit w2 #[.i 0,.i 1,.i 0,.i 0,.i (-16),.i (-1)] 1 (bel hb hb2).size (by decide) rfl
 have HR:=aA hr0
 clear hr0 hb2 hc2 hf2 hb
 go_loopw [3,4] (fun v i wr=>∃ k:Nat,k<=3/\i=.i ((k:Int)+1)/\(∃ g cap,v=.slice (some ⟨g,0,none⟩) (k+1) cap)/\Hid (wr.ownsRow w.heap.size 350 6 v (k+1) (gD (rG k)))/\Hid (Below w.heap.size w wr)) (fun _ i _=>(4-intOf i).toNat)
 case atStart=>exact⟨0,by omega,rfl,⟨_,_,rfl⟩,HR,HB2⟩
 case round =>
  obtain⟨k,hk,rfl,⟨g,cap,rfl⟩,HR,HB⟩:=hrel
  by_cases hlt:k < 3
  ·go_wp2_with (at_builtin;refine wpList_append_own _ rfl _ _ 347 rfl w.heap.size 350 i0 _ 6 48 Tryz.underlying347 hi hz0 hz1 hz2 rfl (by decide) _ _ _ rfl (HR.o.alloc _) ⟨wr.heap.size,0,none⟩ 1 1 (Blk.cells ⟨(k:Int)+1,1,0,0,-4,0⟩) rfl rfl (aA2 _ _ _) (by simp[Blk.cells,Value.oneCell']) (by unfold maxLen;omega) (by omega) (by have:=HB.o.size;simp;omega) ?_;intro v' w1 hown' hgrow _;obtain⟨g',cap',rfl⟩:=ownsRow_succ hown')
   go_roundw
   case rel=>exact⟨k+1,by omega,by go_num,⟨_,_,rfl⟩,aA (by rw[aDw,vY];exact hown'),aA (tQ HB.o HR.o hgrow)⟩
   case measure=>simp[intOf];omega
  ·obtain rfl:k=3:=by omega
   go_wp2
   go_ret
   exact⟨_,rfl,HR.o,HB.o⟩
theorem aB8 (d:Int)(w:World)(hm:May 0 d) :
  Calls Tryz.prog 310 #[.agg #[.i 0,.i d]] w fun e w'=>∃ v,e=.returned v/\w'.ownsRow w.heap.size 350 6 v 5 (gD vD)/\Below w.heap.size w w':=by
 obtain⟨i0,hi,hz0,hz1,hz2⟩:=info_parts Tryz.info350
 have hb:=aD w (.cells #[.i 0,.i d] 23)
 go_enter Tryz.func310,Tryz.ntmps310
 go_wp2_with (go_at_call 30;refine(fK _ _ _ hm).mono ?_;rintro e w2 ⟨rfl,hb2⟩;obtain⟨hc2,hf2⟩:=kG hb2)
 have HB1:=aA ((bel hb hb2).alloc (bel hb hb2).size (.cells #[.i 0,.i 2,.i (-2),.i (-1),.i (-3),.i 3,.i 0,.i 2,.i 0,.i 0,.i (-3),.i (-1)] 350))
 have HB2:=aA (HB1.o.alloc HB1.o.size (.cells #[.i (-1),.i 1] 165))
 have hr0:(w2.alloc (.cells #[.i 0,.i 2,.i (-2),.i (-1),.i (-3),.i 3,.i 0,.i 2,.i 0,.i 0,.i (-3),.i (-1)] 350)).ownsRow w.heap.size 350 6 (.slice (some ⟨w2.heap.size,0,none⟩) 2 2) 2 (gD (qV 0)) :=
  World.ownsRow_lit w2 #[.i 0,.i 2,.i (-2),.i (-1),.i (-3),.i 3,.i 0,.i 2,.i 0,.i 0,.i (-3),.i (-1)] 2 (bel hb hb2).size (by decide) rfl
 have HR:=aA (hr0.alloc (.cells #[.i (-1),.i 1] 165))
 have HA:((w2.alloc (.cells #[.i 0,.i 2,.i (-2),.i (-1),.i (-3),.i 3,.i 0,.i 2,.i 0,.i 0,.i (-3),.i (-1)] 350)).alloc (.cells #[.i (-1),.i 1] 165)).heap[w2.heap.size+1]?=some (.cells #[.i (-1),.i 1] 165 (0,0)):=by
  have:=heap_alloc_new (w2.alloc (.cells #[.i 0,.i 2,.i (-2),.i (-1),.i (-3),.i 3,.i 0,.i 2,.i 0,.i 0,.i (-3),.i (-1)] 350)) (.cells #[.i (-1),.i 1] 165)
  rwa[wSa] at this
 have HA:=aA HA
 clear hr0 hb2 hc2 hf2 hb
 go_loopw [5,7] (fun v i wr=>∃ k:Nat,k<=3/\i=.i ((k:Int)+1)/\(∃ g cap,v=.slice (some ⟨g,0,none⟩) (k+2) cap)/\Hid (wr.ownsRow w.heap.size 350 6 v (k+2) (gD (qV k)))/\Hid (Below w.heap.size w wr)/\Hid (wr.heap[w2.heap.size+1]?=some (.cells #[.i (-1),.i 1] 165 (0,0)))) (fun _ i _=>(4-intOf i).toNat)
 case atStart=>exact⟨0,by omega,rfl,⟨_,_,rfl⟩,HR,HB2,HA⟩
 case round =>
  obtain⟨k,hk,rfl,⟨g,cap,rfl⟩,HR,HB,HA⟩:=hrel
  have c0:=cell_of_row wr (w2.heap.size+1) 0 _ 165 (0,0) HA.o
  have c1:=cell_of_row wr (w2.heap.size+1) 1 _ 165 (0,0) HA.o
  simp at c0 c1
  by_cases hlt:k < 3
  ·go_wp2_with (at_builtin;refine wpList_append_own _ rfl _ _ 347 rfl w.heap.size 350 i0 _ 6 48 Tryz.underlying347 hi hz0 hz1 hz2 rfl (by decide) _ _ _ rfl (HR.o.alloc _) ⟨wr.heap.size,0,none⟩ 1 1 (Blk.cells ⟨(k:Int)+1,2,-1,1,-1,1⟩) rfl rfl (aA2 _ _ _) (by simp[Blk.cells,Value.oneCell']) (by unfold maxLen;omega) (by omega) (by have:=HB.o.size;simp;omega) ?_;intro v' w1 hown' hgrow _;obtain⟨g',cap',rfl⟩:=ownsRow_succ hown')
   go_roundw
   case rel=>exact⟨k+1,by omega,by go_num,⟨_,_,rfl⟩,aA (by rw[aCv,vY];exact hown'),aA (tQ HB.o HR.o hgrow),aA (aDc HA.o (by decide) HR.o hgrow)⟩
   case measure=>simp[intOf];omega
  ·obtain rfl:k=3:=by omega
   go_wp2
   go_ret
   exact⟨_,rfl,HR.o,HB.o⟩
theorem aEi (f d:Int)(w:World)(hm:¬May f d) :
  Calls Tryz.prog 310 #[.agg #[.i f,.i d]] w fun e w'=>e=.returned (.slice none 0 0)/\Below w.heap.size w w':=by
 have hb:=aD w (.cells #[.i f,.i d] 23)
 go_enter Tryz.func310,Tryz.ntmps310
 go_wp2_with (go_at_call 30;refine(iM _ _ _ hm).mono ?_;rintro e w2 ⟨rfl,hb2⟩;obtain⟨hc2,hf2⟩:=kG hb2)
 go_ret
 exact⟨rfl,bel hb hb2⟩
theorem aGu (f d:Int)(w:World) :
  Calls Tryz.prog 310 #[.agg #[.i f,.i d]] w fun e w'=>∃ v,e=.returned v/\w'.ownsRow w.heap.size 350 6 v (iX f d).length (gD (iX f d))/\Below w.heap.size w w':=by
 rcases lI f d with⟨hm,rfl⟩|⟨hm,rfl⟩|hm
 ·have e:iX 0 d=vD:=by simp[iX,hm]
  rw[e]
  exact aB8 d w hm
 ·have e:iX 1 d=vT:=by simp[iX,hm]
  rw[e]
  exact aB9 d w hm
 ·have e:iX f d=[]:=by simp[iX,hm]
  rw[e]
  exact(aEi f d w hm).mono fun e w' ⟨he,hb⟩=>⟨_,he,World.ownsRow_nil _ _ _ _,hb⟩
end Go.Proofs.Knd
