import Derived.Test.YtihbhbeaihdgnaaGreatXH
import Derived.Deep.CutRange
import Derived.Test.YtihbhbeaihdgnaaGreatX07
set_option maxRecDepth 100000
set_option maxHeartbeats 32000000
set_option linter.unusedVariables false
namespace Go.Proofs.YtihbhbeaihdgnaaGreat
open Go.RowKit Go.IntWalk Lx Pz
abbrev at9 (W:World)(g o:Nat)(n:Nd):Prop:=W.cell? ⟨g,o,none⟩=some (.int .i64 n.op)/\W.cell? ⟨g,o+1,none⟩=some (.int .i64 n.a)/\W.cell? ⟨g,o+2,none⟩=some (.int .i64 n.b)/\W.cell? ⟨g,o+3,none⟩=some (.int .i64 n.c)/\W.cell? ⟨g,o+4,none⟩=some (.int .i64 n.k)/\W.cell? ⟨g,o+5,none⟩=some (.int .i64 n.back)/\W.cell? ⟨g,o+6,none⟩=some (.int .i64 n.co)/\W.cell? ⟨g,o+7,none⟩=some (.int .i64 n.x)/\W.cell? ⟨g,o+8,none⟩=some (.int .i64 n.y)
theorem Nz.at {W:World}{a:Option Addr}{n cap:Nat}{L:List Nd}(h:Nz W a n cap L)(h0:0 < n):∃ g off,a=some ⟨g,off,none⟩/\∀ i,i < n->at9 W g (off+i*9) (L.getD i n0):=by
 rcases h.cell with h|⟨g,off,ha,-,hc⟩
 ·omega
 ·exact⟨g,off,ha,fun i hi=>⟨hc i hi 0 _ rfl,hc i hi 1 _ rfl,hc i hi 2 _ rfl,hc i hi 3 _ rfl,hc i hi 4 _ rfl,hc i hi 5 _ rfl,hc i hi 6 _ rfl,hc i hi 7 _ rfl,hc i hi 8 _ rfl⟩⟩
theorem aR3 {l:List UInt8}{T:List Tok}(h:tks l=some T):T.length<=1024:=by
 obtain⟨h1,h2⟩:=aCs h
 have:=aBd T _ 0 h1
 omega
end Go.Proofs.YtihbhbeaihdgnaaGreat
namespace Go.Proofs.YtihbhbeaihdgnaaGreat
open Go.RowKit Go.IntWalk Lx Pz
variable {A B BS:List Int} {w:World} {base:Nat}
def tkE (L:List Int)(n:Nd):Bool:=L.getD 0 0==n.a&&(L.getD 1 0==n.b&&L.getD 2 0==n.c)
def iN (BS:List Int)(i:Nat)(n:Nd)(s:List Int × Nat):Option (List Int × Nat) :=
 if bR (gN n.op) 0 s.1.length&&(lS n s.2&&tkE (s.1.drop (s.1.length-(gN n.op).toNat)) n) then
  if s.2 < BS.length/\BS.getD s.2 0=i then
   (if s.1.length-(gN n.op).toNat=0 then some ([],s.2+1) else none)
  else some (s.1.take (s.1.length-(gN n.op).toNat)++[(i:Int)],s.2)
 else none
def iI (BS:List Int):Nat->List Nd->List Int × Nat->Option (List Int × Nat)
 | _,[],s=>some s
 | i,n::r,s=>(iN BS i n s).bind (iI BS (i+1) r)
def qR (BS:List Int)(NS:List Nd):Bool :=
 match iI BS 0 NS ([],0) with
 | some s=>s.2==BS.length&&s.1.length==1
 | none=>false
theorem gI (BS:List Int):∀(A B:List Nd) (i:Nat) (s:List Int × Nat),iI BS i (A++B) s=(iI BS i A s).bind (iI BS (i+A.length) B)
 | [],B,i,s=>rfl
 | n::A,B,i,s=>by
  simp only[List.cons_append,iI,List.length_cons]
  cases iN BS i n s with
  | none=>rfl
  | some s' =>
   show iI BS (i+1) (A++B) s'=_
   rw[gI BS A B]
   rw[show i+1+A.length=i+(A.length+1) by omega]
   rfl
theorem aI4 {NS:List Nd}{k:Nat}{s:List Int × Nat}(hk:k < NS.length)(h:iI BS 0 (NS.take k) ([],0)=some s):iI BS 0 (NS.take (k+1)) ([],0)=iN BS k (NS.getD k n0) s:=by
 rw[List.take_succ_eq_append_getElem hk,gI,h,List.length_take,Nat.min_eq_left (by omega),List.getD_eq_getElem?_getD,List.getElem?_eq_getElem hk,Nat.zero_add]
 show (iN BS k _ s).bind (iI BS (k+1) [])=_
 simp only[Option.getD_some]
 generalize iN BS k NS[k] s=r
 cases r <;> rfl
theorem iX {NS:List Nd}{k:Nat}(h:iI BS 0 (NS.take k) ([],0)=none):qR BS NS=false:=by
 have:iI BS 0 NS ([],0)=none:=by
  conv=>lhs;rw[<-List.take_append_drop k NS]
  rw[gI,h];rfl
 unfold qR
 rw[this]
theorem vZ (op:Int):gN op<=3:=by
 unfold gN
 split
 ·omega
 ·split
  ·omega
  ·unfold mE
   repeat' split
   all_goals omega
theorem aEu {i:Nat}{n:Nd}{s:List Int × Nat}(h:bR (gN n.op) 0 s.1.length=false):iN BS i n s=none:=by
 unfold iN
 rw[h];rfl
theorem yH {L:List Int}{n:Nd}(h:bR (gN n.op) 0 L.length=true):∃ A B,L=A++B/\gN n.op=B.length/\B.length<=3:=by
 have h3:=vZ n.op
 simp only[bR,Bool.and_eq_true,decide_eq_true_eq] at h
 refine⟨L.take (L.length-(gN n.op).toNat),L.drop (L.length-(gN n.op).toNat),(List.take_append_drop _ _).symm,?_,?_⟩ <;> rw[List.length_drop] <;> omega
theorem aCp {i:Nat}{n:Nd}{bd:Nat}(hb:gN n.op=B.length) :
  iN BS i n (A++B,bd)=if lS n bd&&tkE B n then(if bd < BS.length/\BS.getD bd 0=i then(if A.length=0 then some ([],bd+1) else none) else some (A++[(i:Int)],bd)) else none:=by
 unfold iN
 simp only[List.length_append,hb,Int.toNat_natCast,Nat.add_sub_cancel,List.take_left,List.drop_left]
 rw[show bR (B.length:Int) 0 ((A.length+B.length:Nat):Int)=true by simp[bR];omega,Bool.true_and]
theorem aQ0 {e:TypeId}{g cap:Nat}(h:w.ownsRow base e 1 (.slice (some ⟨g,0,none⟩) (A.length+B.length) cap) (A.length+B.length) (jT (A++B))):w.ownsRow base e 1 (.slice (some ⟨g,0,none⟩) A.length cap) A.length (jT A):=by
 obtain⟨_,h2⟩:=h
 rcases h2 with⟨h0,_⟩|⟨g',cap',cur,hv,hg,hh,hn,hcap,hsz,htake⟩
 ·cases h0
 ·cases hv
  refine⟨by simp,.inr ⟨g,cap,cur,rfl,hg,hh,by omega,hcap,hsz,?_⟩⟩
  have h3:(cur.toList.take ((A.length+B.length)*1)).take (A.length*1)=(jT (A++B)).take (A.length*1):=by rw[htake]
  rw[List.take_take,Nat.min_eq_left (by omega)] at h3
  rw[h3,Nat.mul_one,show jT (A++B)=jT A++jT B from List.map_append]
  exact List.take_left' (by simp)
theorem aT3 {g cap:Nat}(h:w.ownsRow base 3 1 (.slice (some ⟨g,0,none⟩) (A.length+B.length) cap) (A.length+B.length) (jT (A++B))):Iz w (some ⟨g,A.length,none⟩) B.length (cap-A.length) B:=by
 obtain⟨a,c,e,hi⟩:=Iz.of_owns h
 cases e
 refine⟨rfl,by have:=hi.le;omega,by have:=hi.max;omega,?_⟩
 rcases hi.cell with h0|⟨b,off,e,hb,hc⟩
 ·exact .inl (by omega)
 ·cases e
  refine .inr ⟨g,A.length,rfl,hb,fun i hi=>?_⟩
  have:=hc (A.length+i) (by omega)
  rw[Nat.zero_add] at this
  rw[this,List.getD_eq_getElem?_getD,List.getD_eq_getElem?_getD,List.getElem?_append_right (by omega),Nat.add_sub_cancel_left]
theorem aJe {size n:Nat}{e:TypeId}{v:Value}{xs:List Value}(h:w.ownsRow base e size v n xs):(v=.slice none 0 0/\n=0)\/∃ g cap,v=.slice (some ⟨g,0,none⟩) n cap:=by
 rcases h.2 with h|⟨g,cap,cur,hv,-⟩
 ·exact .inl h
 ·exact .inr ⟨g,cap,hv⟩
theorem gL {W:World}{v:Value}{ops:Array Oper}{rest:List Oper}{o:Oper}{a:Act}{Q:Exit->Act->World->Prop}
  (hgd:o.guard=none) (s x:Operand) (ho:o.op=.call { callee:=.builtin .append,args:=#[s,x],argTypes:=#[42,42] })
  (hs:a.eval s=v) (hO:W.ownsRow base 3 1 v A.length (jT A)) (hbase:base<=W.heap.size) (q:Nat) (n:Int) (hx:a.eval x=.slice (some ⟨q,0,none⟩) 1 1) (hc:aB W q 3 #[.int .i64 n]) (h3:A.length<=2000000)
  (h:∀ g cap w',w'.ownsRow base 3 1 (.slice (some ⟨g,0,none⟩) (A.length+1) cap) (A++[n]).length (jT (A++[n]))->Kp [3] W w'->(∀ w0,Below base w0 W->w0.heap.size=base->Below base w0 w')->wpList Tryz.prog ops Q rest (a.put o.dst (.slice (some ⟨g,0,none⟩) (A.length+1) cap)) w') :
  wpList Tryz.prog ops Q (o::rest) a W:=by
 obtain⟨i0,hi0,hz0,hz1,hz2⟩:=info_parts aHh
 refine wpList_append_lies W hgd s x 42 ho base 3 i0 _ 1 8 Tryz.underlying42 hi0 hz0 hz1 hz2 rfl (by omega) v A.length (jT A) hs hO ⟨q,0,none⟩ 1 1 [.int .i64 n] hx rfl (jI hc) (by simp[Value.oneCell']) (by omega) (by unfold maxLen;omega) (by omega) hbase W.heap.size rfl ?_
 intro g cap w' hown hgrow hat hlt
 have hk:Kp [3] W w':=Kp.grown hgrow fun k hk=>by
  obtain⟨_,cs,fr,hb⟩:=aM hO k hk
  exact⟨cs,_,fr,hb,by simp⟩
 exact h g cap w' (by rw[List.length_append];simpa using hown) hk (fun w0 hb h0=>hb.grown hgrow hbase fun k hk=>(aM hO k hk).1)
theorem uT {W:World}{na ba da:Option Addr}{nl nc bl bc dl dc:Nat}{root:Int}{NS:List Nd}(hB:Iz W ba bl bc BS)(hN:Nz W da dl dc NS)(hd:dl<=1024) :
  Calls Tryz.prog 152 #[.agg (fC (.slice na nl nc) (.slice ba bl bc) (.slice da dl dc) (.int .i64 root))] W fun e W'=>e=.returned (.bool (qR BS NS))/\Below W.heap.size W W':=by
 have HBI:=aA hB
 have HNI:=aA hN
 have hbl:bl<=9223372036854775807:=by have:=hB.le;have:=hB.max;unfold maxLen at *;omega
 have HLB:=aA hB.len
 have HLN:=aA hN.len
 clear hB hN
 go_enter Tryz.func152,Tryz.ntmps152
 go_wp2_with fail
 go_loopw [3,4,12] (fun v o i wr=>∃(k bd:Nat) (L:List Int),k<=dl/\i=.int .i64 k/\o=.int .i64 bd/\bd<=k/\L.length<=k/\Hid (iI BS 0 (NS.take k) ([],0)=some (L,bd))/\Hid (wr.ownsRow W.heap.size 3 1 v L.length (jT L))/\Hid (aB wr W.heap.size 55 (fC (.slice na nl nc) (.slice ba bl bc) (.slice da dl dc) (.int .i64 root)))/\Hid (Below W.heap.size W wr)) (fun _ _ i _=>dl-(intOf i).toNat)
 case atStart=>exact⟨0,0,[],Nat.zero_le _,rfl,rfl,Nat.le_refl _,Nat.le_refl _,aA rfl,aA (World.ownsRow_nil _ _ _ _),aA (aB.new W _ _),aA (aC _ _)⟩
 case round =>
  obtain⟨k,bd,L,hk,rfl,rfl,hbd,hL,HM,HO,HC,HB⟩:=hrel
  rename World=>V
  by_cases hlt:k < dl
  ·obtain⟨g,off,rfl,hat⟩:=(HNI.o.later HB.o).at (by omega)
   obtain⟨e0,e1,e2,e3,e4,e5,e6,e7,e8⟩:=hat k hlt
   clear hat
   have hi0:(0:Int)<=k:=by omega
   have hi1:(k:Int) < dl:=by omega
   have HS:=aA (aI4 (k:=k) (by rw[HLN.o];exact hlt) HM.o)
   generalize NS.getD k n0=n at *
   obtain⟨va,vc,rfl,HI⟩:=Iz.of_owns HO.o
   have HLL:=aA HI.len
   clear HI
   go_wp2_with fail
   refine(aJg _ _).mono ?_
   rintro e V1 ⟨rfl,hV1⟩
   have HN1:Hid (aB V1 V.heap.size 93 (dY n)):=aA (by rw[hV1];exact aB.new V _ _)
   have HC1:Hid (aB V1 W.heap.size 55 (fC (.slice na nl nc) (.slice ba bl bc) (.slice (some ⟨g,off,none⟩) dl dc) (.int .i64 root))):=aA (by rw[hV1];exact HC.o.alloc _)
   have HO1:Hid (V1.ownsRow W.heap.size 3 1 (.slice va L.length vc) L.length (jT L)):=aA (by rw[hV1];exact HO.o.alloc _)
   have HB1:Hid (Below W.heap.size W V1):=aA (by rw[hV1];exact bel HB.o (aC _ _))
   clear hV1 HC HO HB e0 e1 e2 e3 e4 e5 e6 e7 e8
   generalize V.heap.size=q at *
   obtain⟨f0,f1,f2,f3,f4,f5,f6,f7,f8⟩:=HN1.o.nine
   cases hw:bR (gN n.op) 0 L.length with
   | false =>
    have HF:=aA (iX (HS.o.trans (aEu hw)))
    have HW:=aA fun W=>gX (gN n.op) 0 L.length W
    rw[hw] at HW
    clear hw
    generalize gN n.op=pz at *
    go_wp2_with fail
    refine(HW.o _).mono ?_
    rintro e V2 ⟨rfl,rfl⟩
    go_wp2_with fail
    go_ret
    exact⟨aS HF.o.symm,HB1.o⟩
   | true =>
    obtain⟨A,B,rfl,hp,hB3⟩:=yH hw
    have HS1:=aA (HS.o.trans (aCp hp))
    clear HS
    rw[List.length_append] at HO1 hL hw ⊢
    have HW:=aA fun W=>gX (gN n.op) 0 ((A.length+B.length:Nat):Int) W
    rw[hw] at HW
    rw[hp] at HW ⊢
    clear hw
    have HFd:=aA fun W=>aFg n bd W (by omega) (by omega)
    cases hf:lS n bd with
    | false =>
     have HF:=aA (iX (HS1.o.trans (by rw[hf];rfl)))
     rw[hf] at HFd
     clear hf
     go_wp2_with fail
     refine(HW.o _).mono ?_
     rintro e V2 ⟨rfl,rfl⟩
     go_wp2_with fail
     refine(HFd.o _).mono ?_
     rintro e V2 ⟨rfl,hb2⟩
     have HB2:=aA (bel HB1.o hb2)
     clear hb2
     go_wp2_with fail
     go_ret
     exact⟨aS HF.o.symm,HB2.o⟩
    | true =>
     rw[hf] at HFd
     go_wp2_with fail
     refine(HW.o _).mono ?_
     rintro e V2 ⟨rfl,rfl⟩
     go_wp2_with fail
     refine(HFd.o _).mono ?_
     rintro e V2 ⟨rfl,hb2⟩
     have HB2:=aA (bel HB1.o hb2)
     have HN2:=aA (HN1.o.below hb2)
     have HC2:=aA (HC1.o.below hb2)
     have HO2:=aA (aU HO1.o (Kp.of_below [] hb2) (by decide))
     clear hb2 HFd HW HC1 HO1 HB1 HN1 f0 f1 f2 f3 f4 f5 f6 f7 f8
     obtain⟨f0,f1,f2,f3,-,-,-,-,-⟩:=HN2.o.nine
     have HEQ:=aA fun w=>aPh 9998 (B.getD 0 0) (B.getD 1 0) (B.getD 2 0) n.a n.b n.c w
     go_upto_region 10 with fail
     have HA1:=aA (Iz.of_owns HO2.o)
     rcases aJe HO2.o with⟨hv,h0⟩|⟨g2,cap2,hv⟩
     ·injection hv with hv1 hv2 hv3
      subst hv1 hv3
      have hA0:A.length=0:=by omega
      have hB0:B.length=0:=by omega
      have HOA:Hid (V2.ownsRow W.heap.size 3 1 (.slice none 0 0) A.length (jT A)):=aA (by rw[List.length_eq_zero_iff.1 hA0];exact World.ownsRow_nil _ _ _ _)
      have HTk:=aA (uL (W:=V2.drew) (a:=none) (n:=0) (cap:=0) (L:=B) ⟨hB0,by omega,by unfold maxLen;omega,.inl rfl⟩ (by omega))
      clear HO2 h0 hv2 HA1
      rw[hA0,hB0]
      cases htk:(B.getD 0 0==n.a&&(B.getD 1 0==n.b&&B.getD 2 0==n.c)) with
      | false =>
       have HF:=aA (iX (HS1.o.trans (by unfold tkE;rw[hf,htk];rfl)))
       rw[htk] at HEQ
       clear htk hf
       have heq:=HEQ.o
       go_region_held3 (fun w'=>w'.cell? ⟨q,1,none⟩=some (.int .i64 n.a)/\w'.cell? ⟨q,2,none⟩=some (.int .i64 n.b)/\w'.cell? ⟨q,3,none⟩=some (.int .i64 n.c))
        (first|exact⟨f1,f2,f3⟩|exact⟨t1,t2,t3⟩|go_keep)
        ((first
         | (go_at_call 180;refine(HTk.o).mono ?_;rintro e' V3 ⟨rfl,hb3⟩;have hb4:=bel (aF V2) hb3;obtain⟨t0,t1,t2,t3,-,-,-,-,-⟩:=(HN2.o.below hb4).nine;have HB3:=aA (bel HB2.o hb4);have HC3:=aA (HC2.o.below hb4);have HO3:=aA (aU HOA.o (Kp.of_below [] hb4) (by decide));clear hb3 hb4)))
       all_goals
        go_wp2_with fail
        go_ret
        exact⟨aS HF.o.symm,HB3.o⟩
      | true =>
       have HS2:Hid (iI BS 0 (NS.take (k+1)) ([],0)=(if bd < BS.length/\BS.getD bd 0=(k:Int) then(if A.length=0 then some ([],bd+1) else none) else some (A++[(k:Int)],bd))):=aA (HS1.o.trans (by unfold tkE;rw[hf,htk];rfl))
       rw[htk] at HEQ
       clear htk hf HS1
       have heq:=HEQ.o
       by_cases hbb:bd < bl
       ·obtain⟨b0,boff,rfl,hbc⟩:∃ b off,ba=some ⟨b,off,none⟩/\W.cell? ⟨b,off+bd,none⟩=some (.int .i64 (BS.getD bd 0)):=by
         rcases HBI.o.cell with h0|⟨b,off,ha,hlb,hc⟩
         ·omega
         ·exact⟨b,off,ha,hc bd hbb⟩
        have HBC:=aA hbc
        clear hbc
        have hj0:(0:Int)<=bd:=by omega
        have hj1:(bd:Int) < bl:=by omega
        by_cases hxk:BS.getD bd 0=k
        ·rw[hxk] at HBC
         ·have HS3:Hid (iI BS 0 (NS.take (k+1)) ([],0)=some ([],bd+1)):=aA (HS2.o.trans (by rw[if_pos ⟨by rw[HLB.o];exact hbb,hxk⟩,if_pos hA0]))
          clear HS2 hxk
          go_region_held3 (fun w'=>w'.cell? ⟨q,1,none⟩=some (.int .i64 n.a)/\w'.cell? ⟨q,2,none⟩=some (.int .i64 n.b)/\w'.cell? ⟨q,3,none⟩=some (.int .i64 n.c))
           (first|exact⟨f1,f2,f3⟩|exact⟨t1,t2,t3⟩|go_keep)
           ((first
            | (go_at_call 180;refine(HTk.o).mono ?_;rintro e' V3 ⟨rfl,hb3⟩;have hb4:=bel (aF V2) hb3;obtain⟨t0,t1,t2,t3,-,-,-,-,-⟩:=(HN2.o.below hb4).nine;have HB3:=aA (bel HB2.o hb4);have HC3:=aA (HC2.o.below hb4);have HO3:=aA (aU HOA.o (Kp.of_below [] hb4) (by decide));clear hb3 hb4)))
          all_goals
           go_wp2_with (at_builtin;refine gL (A:=A) rfl _ _ rfl rfl (HO3.o.alloc _) (by have:=HB3.o.size;simp;omega) _ k rfl (aB.new _ _ _) (by omega) ?_;intro g4 cap4 V4 hown hk4 hold;have HB4:=aA (hold W (bel HB3.o (aC _ _)) rfl);have HC4:=aA ((HC3.o.alloc _).kp hk4 (by decide));have HO4:=aA hown;clear hown hk4 hold;have hx1:=HC4.o.cell 1 rfl;have hx2:=(HB4.o.cell (p:=⟨b0,boff+bd,none⟩) (World.block_lt_of_cell? W _ HBC.o)).trans HBC.o)
           go_roundw
           case rel=>exact⟨k+1,bd+1,[],by omega,by go_num,by go_num,by omega,by simp,aA HS3.o,aA (World.ownsRow_nil _ _ _ _),aA HC4.o,aA HB4.o⟩
           case measure=>simp[intOf];omega
        ·have HS3:=aA (HS2.o.trans (if_neg (fun h=>hxk h.2)))
         have hxk':(BS.getD bd 0==(k:Int))=false:=by simpa using hxk
         clear HS2 hxk
         generalize BS.getD bd 0=bx at *
         go_region_held3 (fun w'=>w'.cell? ⟨q,1,none⟩=some (.int .i64 n.a)/\w'.cell? ⟨q,2,none⟩=some (.int .i64 n.b)/\w'.cell? ⟨q,3,none⟩=some (.int .i64 n.c))
          (first|exact⟨f1,f2,f3⟩|exact⟨t1,t2,t3⟩|go_keep)
          ((first
           | (go_at_call 180;refine(HTk.o).mono ?_;rintro e' V3 ⟨rfl,hb3⟩;have hb4:=bel (aF V2) hb3;obtain⟨t0,t1,t2,t3,-,-,-,-,-⟩:=(HN2.o.below hb4).nine;have HB3:=aA (bel HB2.o hb4);have HC3:=aA (HC2.o.below hb4);have HO3:=aA (aU HOA.o (Kp.of_below [] hb4) (by decide));clear hb3 hb4)))
         all_goals
          go_wp2_with (at_builtin;refine gL (A:=A) rfl _ _ rfl rfl (HO3.o.alloc _) (by have:=HB3.o.size;simp;omega) _ k rfl (aB.new _ _ _) (by omega) ?_;intro g4 cap4 V4 hown hk4 hold;have HB4:=aA (hold W (bel HB3.o (aC _ _)) rfl);have HC4:=aA ((HC3.o.alloc _).kp hk4 (by decide));have HO4:=aA hown;clear hown hk4 hold;have hx1:=HC4.o.cell 1 rfl;have hx2:=(HB4.o.cell (p:=⟨b0,boff+bd,none⟩) (World.block_lt_of_cell? W _ HBC.o)).trans HBC.o)
          go_roundw
          case rel=>exact⟨k+1,bd,A++[(k:Int)],by omega,by go_num,by go_num,by omega,by simp;omega,aA HS3.o,aA (by first|exact HO4.o|(have h4:=HO4.o;rw[hA0] at h4;exact h4)),aA HC4.o,aA HB4.o⟩
          case measure=>simp[intOf];omega
       ·have HS3:=aA (HS2.o.trans (if_neg (fun h=>hbb (by rw[<-HLB.o];exact h.1))))
        clear HS2
        go_region_held3 (fun w'=>w'.cell? ⟨q,1,none⟩=some (.int .i64 n.a)/\w'.cell? ⟨q,2,none⟩=some (.int .i64 n.b)/\w'.cell? ⟨q,3,none⟩=some (.int .i64 n.c))
         (first|exact⟨f1,f2,f3⟩|exact⟨t1,t2,t3⟩|go_keep)
         ((first
          | (go_at_call 180;refine(HTk.o).mono ?_;rintro e' V3 ⟨rfl,hb3⟩;have hb4:=bel (aF V2) hb3;obtain⟨t0,t1,t2,t3,-,-,-,-,-⟩:=(HN2.o.below hb4).nine;have HB3:=aA (bel HB2.o hb4);have HC3:=aA (HC2.o.below hb4);have HO3:=aA (aU HOA.o (Kp.of_below [] hb4) (by decide));clear hb3 hb4)))
        all_goals
         go_wp2_with (at_builtin;refine gL (A:=A) rfl _ _ rfl rfl (HO3.o.alloc _) (by have:=HB3.o.size;simp;omega) _ k rfl (aB.new _ _ _) (by omega) ?_;intro g4 cap4 V4 hown hk4 hold;have HB4:=aA (hold W (bel HB3.o (aC _ _)) rfl);have HC4:=aA ((HC3.o.alloc _).kp hk4 (by decide));have HO4:=aA hown;clear hown hk4 hold;have hx1:=HC4.o.cell 1 rfl)
         go_roundw
         case rel=>exact⟨k+1,bd,A++[(k:Int)],by omega,by go_num,by go_num,by omega,by simp;omega,aA HS3.o,aA (by first|exact HO4.o|(have h4:=HO4.o;rw[hA0] at h4;exact h4)),aA HC4.o,aA HB4.o⟩
         case measure=>simp[intOf];omega
     ·injection hv with hv1 hv2 hv3
      subst hv1 hv3
      have hcap:A.length+B.length<=vc:=by obtain⟨a',c',e',hi'⟩:=HA1.o;cases e';exact hi'.le
      have hcap2:vc<=9223372036854775807:=by obtain⟨a',c',e',hi'⟩:=HA1.o;cases e';have:=hi'.max;unfold maxLen at this;omega
      have HOA:=aA (aQ0 HO2.o)
      clear HA1
      by_cases hvc:vc=A.length
      ·have hB0:B.length=0:=by omega
       have HTk:=aA (uL (W:=V2.drew) (a:=some ⟨g2,0,none⟩) (n:=0) (cap:=0) (L:=B) ⟨hB0,by omega,by unfold maxLen;omega,.inl rfl⟩ (by omega))
       subst hvc
       clear HO2
       rw[hB0]
       cases htk:(B.getD 0 0==n.a&&(B.getD 1 0==n.b&&B.getD 2 0==n.c)) with
       | false =>
        have HF:=aA (iX (HS1.o.trans (by unfold tkE;rw[hf,htk];rfl)))
        rw[htk] at HEQ
        clear htk hf
        have heq:=HEQ.o
        go_region_held3 (fun w'=>w'.cell? ⟨q,1,none⟩=some (.int .i64 n.a)/\w'.cell? ⟨q,2,none⟩=some (.int .i64 n.b)/\w'.cell? ⟨q,3,none⟩=some (.int .i64 n.c))
         (first|exact⟨f1,f2,f3⟩|exact⟨t1,t2,t3⟩|go_keep)
         ((first
          | (go_at_call 180;refine(HTk.o).mono ?_;rintro e' V3 ⟨rfl,hb3⟩;have hb4:=bel (aF V2) hb3;obtain⟨t0,t1,t2,t3,-,-,-,-,-⟩:=(HN2.o.below hb4).nine;have HB3:=aA (bel HB2.o hb4);have HC3:=aA (HC2.o.below hb4);have HO3:=aA (aU HOA.o (Kp.of_below [] hb4) (by decide));clear hb3 hb4)))
        all_goals
         go_wp2_with fail
         go_ret
         exact⟨aS HF.o.symm,HB3.o⟩
       | true =>
        have HS2:Hid (iI BS 0 (NS.take (k+1)) ([],0)=(if bd < BS.length/\BS.getD bd 0=(k:Int) then(if A.length=0 then some ([],bd+1) else none) else some (A++[(k:Int)],bd))):=aA (HS1.o.trans (by unfold tkE;rw[hf,htk];rfl))
        rw[htk] at HEQ
        clear htk hf HS1
        have heq:=HEQ.o
        by_cases hbb:bd < bl
        ·obtain⟨b0,boff,rfl,hbc⟩:∃ b off,ba=some ⟨b,off,none⟩/\W.cell? ⟨b,off+bd,none⟩=some (.int .i64 (BS.getD bd 0)):=by
          rcases HBI.o.cell with h0|⟨b,off,ha,hlb,hc⟩
          ·omega
          ·exact⟨b,off,ha,hc bd hbb⟩
         have HBC:=aA hbc
         clear hbc
         have hj0:(0:Int)<=bd:=by omega
         have hj1:(bd:Int) < bl:=by omega
         by_cases hxk:BS.getD bd 0=k
         ·rw[hxk] at HBC
          by_cases hA0:A.length=0
          ·have HS3:Hid (iI BS 0 (NS.take (k+1)) ([],0)=some ([],bd+1)):=aA (HS2.o.trans (by rw[if_pos ⟨by rw[HLB.o];exact hbb,hxk⟩,if_pos hA0]))
           have hA1:((A.length:Int)+1 != 1)=false:=by simp;omega
           clear HS2 hxk hA0
           go_region_held3 (fun w'=>w'.cell? ⟨q,1,none⟩=some (.int .i64 n.a)/\w'.cell? ⟨q,2,none⟩=some (.int .i64 n.b)/\w'.cell? ⟨q,3,none⟩=some (.int .i64 n.c))
            (first|exact⟨f1,f2,f3⟩|exact⟨t1,t2,t3⟩|go_keep)
            ((first
             | (go_at_call 180;refine(HTk.o).mono ?_;rintro e' V3 ⟨rfl,hb3⟩;have hb4:=bel (aF V2) hb3;obtain⟨t0,t1,t2,t3,-,-,-,-,-⟩:=(HN2.o.below hb4).nine;have HB3:=aA (bel HB2.o hb4);have HC3:=aA (HC2.o.below hb4);have HO3:=aA (aU HOA.o (Kp.of_below [] hb4) (by decide));clear hb3 hb4)))
           all_goals
            go_wp2_with (at_builtin;refine gL (A:=A) rfl _ _ rfl rfl (HO3.o.alloc _) (by have:=HB3.o.size;simp;omega) _ k rfl (aB.new _ _ _) (by omega) ?_;intro g4 cap4 V4 hown hk4 hold;have HB4:=aA (hold W (bel HB3.o (aC _ _)) rfl);have HC4:=aA ((HC3.o.alloc _).kp hk4 (by decide));have HO4:=aA hown;clear hown hk4 hold;have hx1:=HC4.o.cell 1 rfl;have hx2:=(HB4.o.cell (p:=⟨b0,boff+bd,none⟩) (World.block_lt_of_cell? W _ HBC.o)).trans HBC.o)
            go_roundw
            case rel=>exact⟨k+1,bd+1,[],by omega,by go_num,by go_num,by omega,by simp,aA HS3.o,aA (World.ownsRow_nil _ _ _ _),aA HC4.o,aA HB4.o⟩
            case measure=>simp[intOf];omega
          ·have HF:=aA (iX (HS2.o.trans (by rw[if_pos ⟨by rw[HLB.o];exact hbb,hxk⟩,if_neg hA0])))
           have hA1:((A.length:Int)+1 != 1)=true:=by simp;omega
           clear HS2 hxk
           go_region_held3 (fun w'=>w'.cell? ⟨q,1,none⟩=some (.int .i64 n.a)/\w'.cell? ⟨q,2,none⟩=some (.int .i64 n.b)/\w'.cell? ⟨q,3,none⟩=some (.int .i64 n.c))
            (first|exact⟨f1,f2,f3⟩|exact⟨t1,t2,t3⟩|go_keep)
            ((first
             | (go_at_call 180;refine(HTk.o).mono ?_;rintro e' V3 ⟨rfl,hb3⟩;have hb4:=bel (aF V2) hb3;obtain⟨t0,t1,t2,t3,-,-,-,-,-⟩:=(HN2.o.below hb4).nine;have HB3:=aA (bel HB2.o hb4);have HC3:=aA (HC2.o.below hb4);have HO3:=aA (aU HOA.o (Kp.of_below [] hb4) (by decide));clear hb3 hb4)))
           all_goals
            go_wp2_with (at_builtin;refine gL (A:=A) rfl _ _ rfl rfl (HO3.o.alloc _) (by have:=HB3.o.size;simp;omega) _ k rfl (aB.new _ _ _) (by omega) ?_;intro g4 cap4 V4 hown hk4 hold;have HB4:=aA (hold W (bel HB3.o (aC _ _)) rfl);have HC4:=aA ((HC3.o.alloc _).kp hk4 (by decide));have HO4:=aA hown;clear hown hk4 hold;have hx1:=HC4.o.cell 1 rfl;have hx2:=(HB4.o.cell (p:=⟨b0,boff+bd,none⟩) (World.block_lt_of_cell? W _ HBC.o)).trans HBC.o)
            go_ret
            exact⟨aS HF.o.symm,HB4.o⟩
         ·have HS3:=aA (HS2.o.trans (if_neg (fun h=>hxk h.2)))
          have hxk':(BS.getD bd 0==(k:Int))=false:=by simpa using hxk
          clear HS2 hxk
          generalize BS.getD bd 0=bx at *
          go_region_held3 (fun w'=>w'.cell? ⟨q,1,none⟩=some (.int .i64 n.a)/\w'.cell? ⟨q,2,none⟩=some (.int .i64 n.b)/\w'.cell? ⟨q,3,none⟩=some (.int .i64 n.c))
           (first|exact⟨f1,f2,f3⟩|exact⟨t1,t2,t3⟩|go_keep)
           ((first
            | (go_at_call 180;refine(HTk.o).mono ?_;rintro e' V3 ⟨rfl,hb3⟩;have hb4:=bel (aF V2) hb3;obtain⟨t0,t1,t2,t3,-,-,-,-,-⟩:=(HN2.o.below hb4).nine;have HB3:=aA (bel HB2.o hb4);have HC3:=aA (HC2.o.below hb4);have HO3:=aA (aU HOA.o (Kp.of_below [] hb4) (by decide));clear hb3 hb4)))
          all_goals
           go_wp2_with (at_builtin;refine gL (A:=A) rfl _ _ rfl rfl (HO3.o.alloc _) (by have:=HB3.o.size;simp;omega) _ k rfl (aB.new _ _ _) (by omega) ?_;intro g4 cap4 V4 hown hk4 hold;have HB4:=aA (hold W (bel HB3.o (aC _ _)) rfl);have HC4:=aA ((HC3.o.alloc _).kp hk4 (by decide));have HO4:=aA hown;clear hown hk4 hold;have hx1:=HC4.o.cell 1 rfl;have hx2:=(HB4.o.cell (p:=⟨b0,boff+bd,none⟩) (World.block_lt_of_cell? W _ HBC.o)).trans HBC.o)
           go_roundw
           case rel=>exact⟨k+1,bd,A++[(k:Int)],by omega,by go_num,by go_num,by omega,by simp;omega,aA HS3.o,aA (by first|exact HO4.o|(have h4:=HO4.o;rw[hA0] at h4;exact h4)),aA HC4.o,aA HB4.o⟩
           case measure=>simp[intOf];omega
        ·have HS3:=aA (HS2.o.trans (if_neg (fun h=>hbb (by rw[<-HLB.o];exact h.1))))
         clear HS2
         go_region_held3 (fun w'=>w'.cell? ⟨q,1,none⟩=some (.int .i64 n.a)/\w'.cell? ⟨q,2,none⟩=some (.int .i64 n.b)/\w'.cell? ⟨q,3,none⟩=some (.int .i64 n.c))
          (first|exact⟨f1,f2,f3⟩|exact⟨t1,t2,t3⟩|go_keep)
          ((first
           | (go_at_call 180;refine(HTk.o).mono ?_;rintro e' V3 ⟨rfl,hb3⟩;have hb4:=bel (aF V2) hb3;obtain⟨t0,t1,t2,t3,-,-,-,-,-⟩:=(HN2.o.below hb4).nine;have HB3:=aA (bel HB2.o hb4);have HC3:=aA (HC2.o.below hb4);have HO3:=aA (aU HOA.o (Kp.of_below [] hb4) (by decide));clear hb3 hb4)))
         all_goals
          go_wp2_with (at_builtin;refine gL (A:=A) rfl _ _ rfl rfl (HO3.o.alloc _) (by have:=HB3.o.size;simp;omega) _ k rfl (aB.new _ _ _) (by omega) ?_;intro g4 cap4 V4 hown hk4 hold;have HB4:=aA (hold W (bel HB3.o (aC _ _)) rfl);have HC4:=aA ((HC3.o.alloc _).kp hk4 (by decide));have HO4:=aA hown;clear hown hk4 hold;have hx1:=HC4.o.cell 1 rfl)
          go_roundw
          case rel=>exact⟨k+1,bd,A++[(k:Int)],by omega,by go_num,by go_num,by omega,by simp;omega,aA HS3.o,aA (by first|exact HO4.o|(have h4:=HO4.o;rw[hA0] at h4;exact h4)),aA HC4.o,aA HB4.o⟩
          case measure=>simp[intOf];omega
      ·have HTk:=aA (uL (W:=V2.drew) ((aT3 HO2.o).later (aF V2)) hB3)
       clear HO2
       have hz0:(0:Int)<=A.length:=by omega
       have hz1:(A.length:Int)<=(A.length+B.length:Nat):=by omega
       have hz2:(A.length:Int)<=vc:=by omega
       have hz3:(A.length:Int)<=(A.length:Int)+(B.length:Int):=by omega
       have hz4:(0:Int)<=(B.length:Int):=by omega
       cases htk:(B.getD 0 0==n.a&&(B.getD 1 0==n.b&&B.getD 2 0==n.c)) with
       | false =>
        have HF:=aA (iX (HS1.o.trans (by unfold tkE;rw[hf,htk];rfl)))
        rw[htk] at HEQ
        clear htk hf
        have heq:=HEQ.o
        go_region_held3 (fun w'=>w'.cell? ⟨q,1,none⟩=some (.int .i64 n.a)/\w'.cell? ⟨q,2,none⟩=some (.int .i64 n.b)/\w'.cell? ⟨q,3,none⟩=some (.int .i64 n.c))
         (first|exact⟨f1,f2,f3⟩|exact⟨t1,t2,t3⟩|go_keep)
         ((first
          | (go_at_call 180;refine(HTk.o).mono ?_;rintro e' V3 ⟨rfl,hb3⟩;have hb4:=bel (aF V2) hb3;obtain⟨t0,t1,t2,t3,-,-,-,-,-⟩:=(HN2.o.below hb4).nine;have HB3:=aA (bel HB2.o hb4);have HC3:=aA (HC2.o.below hb4);have HO3:=aA (aU HOA.o (Kp.of_below [] hb4) (by decide));clear hb3 hb4)))
        all_goals
         go_wp2_with fail
         go_ret
         exact⟨aS HF.o.symm,HB3.o⟩
       | true =>
        have HS2:Hid (iI BS 0 (NS.take (k+1)) ([],0)=(if bd < BS.length/\BS.getD bd 0=(k:Int) then(if A.length=0 then some ([],bd+1) else none) else some (A++[(k:Int)],bd))):=aA (HS1.o.trans (by unfold tkE;rw[hf,htk];rfl))
        rw[htk] at HEQ
        clear htk hf HS1
        have heq:=HEQ.o
        by_cases hbb:bd < bl
        ·obtain⟨b0,boff,rfl,hbc⟩:∃ b off,ba=some ⟨b,off,none⟩/\W.cell? ⟨b,off+bd,none⟩=some (.int .i64 (BS.getD bd 0)):=by
          rcases HBI.o.cell with h0|⟨b,off,ha,hlb,hc⟩
          ·omega
          ·exact⟨b,off,ha,hc bd hbb⟩
         have HBC:=aA hbc
         clear hbc
         have hj0:(0:Int)<=bd:=by omega
         have hj1:(bd:Int) < bl:=by omega
         by_cases hxk:BS.getD bd 0=k
         ·rw[hxk] at HBC
          by_cases hA0:A.length=0
          ·have HS3:Hid (iI BS 0 (NS.take (k+1)) ([],0)=some ([],bd+1)):=aA (HS2.o.trans (by rw[if_pos ⟨by rw[HLB.o];exact hbb,hxk⟩,if_pos hA0]))
           have hA1:((A.length:Int)+1 != 1)=false:=by simp;omega
           clear HS2 hxk hA0
           go_region_held3 (fun w'=>w'.cell? ⟨q,1,none⟩=some (.int .i64 n.a)/\w'.cell? ⟨q,2,none⟩=some (.int .i64 n.b)/\w'.cell? ⟨q,3,none⟩=some (.int .i64 n.c))
            (first|exact⟨f1,f2,f3⟩|exact⟨t1,t2,t3⟩|go_keep)
            ((first
             | (go_at_call 180;refine(HTk.o).mono ?_;rintro e' V3 ⟨rfl,hb3⟩;have hb4:=bel (aF V2) hb3;obtain⟨t0,t1,t2,t3,-,-,-,-,-⟩:=(HN2.o.below hb4).nine;have HB3:=aA (bel HB2.o hb4);have HC3:=aA (HC2.o.below hb4);have HO3:=aA (aU HOA.o (Kp.of_below [] hb4) (by decide));clear hb3 hb4)))
           all_goals
            go_wp2_with (at_builtin;refine gL (A:=A) rfl _ _ rfl rfl (HO3.o.alloc _) (by have:=HB3.o.size;simp;omega) _ k rfl (aB.new _ _ _) (by omega) ?_;intro g4 cap4 V4 hown hk4 hold;have HB4:=aA (hold W (bel HB3.o (aC _ _)) rfl);have HC4:=aA ((HC3.o.alloc _).kp hk4 (by decide));have HO4:=aA hown;clear hown hk4 hold;have hx1:=HC4.o.cell 1 rfl;have hx2:=(HB4.o.cell (p:=⟨b0,boff+bd,none⟩) (World.block_lt_of_cell? W _ HBC.o)).trans HBC.o)
            go_roundw
            case rel=>exact⟨k+1,bd+1,[],by omega,by go_num,by go_num,by omega,by simp,aA HS3.o,aA (World.ownsRow_nil _ _ _ _),aA HC4.o,aA HB4.o⟩
            case measure=>simp[intOf];omega
          ·have HF:=aA (iX (HS2.o.trans (by rw[if_pos ⟨by rw[HLB.o];exact hbb,hxk⟩,if_neg hA0])))
           have hA1:((A.length:Int)+1 != 1)=true:=by simp;omega
           clear HS2 hxk
           go_region_held3 (fun w'=>w'.cell? ⟨q,1,none⟩=some (.int .i64 n.a)/\w'.cell? ⟨q,2,none⟩=some (.int .i64 n.b)/\w'.cell? ⟨q,3,none⟩=some (.int .i64 n.c))
            (first|exact⟨f1,f2,f3⟩|exact⟨t1,t2,t3⟩|go_keep)
            ((first
             | (go_at_call 180;refine(HTk.o).mono ?_;rintro e' V3 ⟨rfl,hb3⟩;have hb4:=bel (aF V2) hb3;obtain⟨t0,t1,t2,t3,-,-,-,-,-⟩:=(HN2.o.below hb4).nine;have HB3:=aA (bel HB2.o hb4);have HC3:=aA (HC2.o.below hb4);have HO3:=aA (aU HOA.o (Kp.of_below [] hb4) (by decide));clear hb3 hb4)))
           all_goals
            go_wp2_with (at_builtin;refine gL (A:=A) rfl _ _ rfl rfl (HO3.o.alloc _) (by have:=HB3.o.size;simp;omega) _ k rfl (aB.new _ _ _) (by omega) ?_;intro g4 cap4 V4 hown hk4 hold;have HB4:=aA (hold W (bel HB3.o (aC _ _)) rfl);have HC4:=aA ((HC3.o.alloc _).kp hk4 (by decide));have HO4:=aA hown;clear hown hk4 hold;have hx1:=HC4.o.cell 1 rfl;have hx2:=(HB4.o.cell (p:=⟨b0,boff+bd,none⟩) (World.block_lt_of_cell? W _ HBC.o)).trans HBC.o)
            go_ret
            exact⟨aS HF.o.symm,HB4.o⟩
         ·have HS3:=aA (HS2.o.trans (if_neg (fun h=>hxk h.2)))
          have hxk':(BS.getD bd 0==(k:Int))=false:=by simpa using hxk
          clear HS2 hxk
          generalize BS.getD bd 0=bx at *
          go_region_held3 (fun w'=>w'.cell? ⟨q,1,none⟩=some (.int .i64 n.a)/\w'.cell? ⟨q,2,none⟩=some (.int .i64 n.b)/\w'.cell? ⟨q,3,none⟩=some (.int .i64 n.c))
           (first|exact⟨f1,f2,f3⟩|exact⟨t1,t2,t3⟩|go_keep)
           ((first
            | (go_at_call 180;refine(HTk.o).mono ?_;rintro e' V3 ⟨rfl,hb3⟩;have hb4:=bel (aF V2) hb3;obtain⟨t0,t1,t2,t3,-,-,-,-,-⟩:=(HN2.o.below hb4).nine;have HB3:=aA (bel HB2.o hb4);have HC3:=aA (HC2.o.below hb4);have HO3:=aA (aU HOA.o (Kp.of_below [] hb4) (by decide));clear hb3 hb4)))
          all_goals
           go_wp2_with (at_builtin;refine gL (A:=A) rfl _ _ rfl rfl (HO3.o.alloc _) (by have:=HB3.o.size;simp;omega) _ k rfl (aB.new _ _ _) (by omega) ?_;intro g4 cap4 V4 hown hk4 hold;have HB4:=aA (hold W (bel HB3.o (aC _ _)) rfl);have HC4:=aA ((HC3.o.alloc _).kp hk4 (by decide));have HO4:=aA hown;clear hown hk4 hold;have hx1:=HC4.o.cell 1 rfl;have hx2:=(HB4.o.cell (p:=⟨b0,boff+bd,none⟩) (World.block_lt_of_cell? W _ HBC.o)).trans HBC.o)
           go_roundw
           case rel=>exact⟨k+1,bd,A++[(k:Int)],by omega,by go_num,by go_num,by omega,by simp;omega,aA HS3.o,aA (by first|exact HO4.o|(have h4:=HO4.o;rw[hA0] at h4;exact h4)),aA HC4.o,aA HB4.o⟩
           case measure=>simp[intOf];omega
        ·have HS3:=aA (HS2.o.trans (if_neg (fun h=>hbb (by rw[<-HLB.o];exact h.1))))
         clear HS2
         go_region_held3 (fun w'=>w'.cell? ⟨q,1,none⟩=some (.int .i64 n.a)/\w'.cell? ⟨q,2,none⟩=some (.int .i64 n.b)/\w'.cell? ⟨q,3,none⟩=some (.int .i64 n.c))
          (first|exact⟨f1,f2,f3⟩|exact⟨t1,t2,t3⟩|go_keep)
          ((first
           | (go_at_call 180;refine(HTk.o).mono ?_;rintro e' V3 ⟨rfl,hb3⟩;have hb4:=bel (aF V2) hb3;obtain⟨t0,t1,t2,t3,-,-,-,-,-⟩:=(HN2.o.below hb4).nine;have HB3:=aA (bel HB2.o hb4);have HC3:=aA (HC2.o.below hb4);have HO3:=aA (aU HOA.o (Kp.of_below [] hb4) (by decide));clear hb3 hb4)))
         all_goals
          go_wp2_with (at_builtin;refine gL (A:=A) rfl _ _ rfl rfl (HO3.o.alloc _) (by have:=HB3.o.size;simp;omega) _ k rfl (aB.new _ _ _) (by omega) ?_;intro g4 cap4 V4 hown hk4 hold;have HB4:=aA (hold W (bel HB3.o (aC _ _)) rfl);have HC4:=aA ((HC3.o.alloc _).kp hk4 (by decide));have HO4:=aA hown;clear hown hk4 hold;have hx1:=HC4.o.cell 1 rfl)
          go_roundw
          case rel=>exact⟨k+1,bd,A++[(k:Int)],by omega,by go_num,by go_num,by omega,by simp;omega,aA HS3.o,aA (by first|exact HO4.o|(have h4:=HO4.o;rw[hA0] at h4;exact h4)),aA HC4.o,aA HB4.o⟩
          case measure=>simp[intOf];omega
  ·have hkd:k=dl:=by omega
   have HF:Hid (qR BS NS=(bd==bl&&L.length==1)):=aA (by
    have h:=HM.o
    rw[List.take_of_length_le (by rw[HLN.o];omega)] at h
    unfold qR
    rw[h,HLB.o])
   subst hkd
   obtain⟨va,vc,rfl,HI⟩:=Iz.of_owns HO.o
   clear HI
   have hx1:=HC.o.cell 1 rfl
   by_cases h1:bd=bl
   ·subst h1
    by_cases h2:L.length=1
    ·have HF2:=aA (show qR BS NS=true by rw[HF.o,h2];simp)
     go_wp2_with fail
     go_ret
     exact⟨aS HF2.o.symm,HB.o⟩
    ·have HF2:=aA (show qR BS NS=false by rw[HF.o,show (L.length==1)=false by simpa using h2];simp)
     have k2:((L.length:Int)==1)=false:=by simp;omega
     go_wp2_with fail
     go_ret
     exact⟨aS HF2.o.symm,HB.o⟩
   ·have HF2:=aA (show qR BS NS=false by rw[HF.o,show (bd==bl)=false by simpa using h1];rfl)
    have k1:((bd:Int)==(bl:Int))=false:=by simp;omega
    go_wp2_with fail
    go_ret
    exact⟨aS HF2.o.symm,HB.o⟩
end Go.Proofs.YtihbhbeaihdgnaaGreat
namespace Go.Proofs.YtihbhbeaihdgnaaGreat
open Go.RowKit Go.IntWalk Lx Pz
theorem aRv {BS:List Int}{i:Nat}{n:Nd}{s t:List Int × Nat}(h:iN BS i n s=some t):t.2<=s.2+1:=by
 unfold iN at h
 split at h
 ·split at h
  ·split at h
   ·cases h;exact Nat.le_refl _
   ·cases h
  ·cases h;exact Nat.le_succ _
 ·cases h
theorem aHo {BS:List Int}:∀ {NS:List Nd} {i:Nat} {s t:List Int × Nat},iI BS i NS s=some t->t.2<=s.2+NS.length
 | [],i,s,t,h=>by cases h;exact Nat.le_refl _
 | n::NS,i,s,t,h=>by
  simp only[iI] at h
  cases hs:iN BS i n s with
  | none=>rw[hs] at h;cases h
  | some u =>
   rw[hs] at h
   have h1:=aRv hs
   have h2:=aHo (show iI BS (i+1) NS u=some t from h)
   simp only[List.length_cons]
   omega
theorem aQy {BS:List Int}{NS:List Nd}(h:qR BS NS=true):BS.length<=NS.length:=by
 unfold qR at h
 split at h
 ·rename_i s hs
  have:=aHo hs
  simp only[Bool.and_eq_true,beq_iff_eq] at h
  simp at this
  omega
 ·cases h
def qD (NM:List aR)(BS:List Int)(NS:List Nd)(root:Int):Bool:=NM.length==BS.length&&(wN NS.length root&&(qR BS NS&&nmB NM))
theorem zT {W:World}{na ba da:Option Addr}{nl nc bl bc dl dc:Nat}{root:Int}{NM:List aR}{BS:List Int}{NS:List Nd}(hX:Tx W na nl nc NM)(hB:Iz W ba bl bc BS)(hN:Nz W da dl dc NS)(hs:∀ s ∈ NM,s.length<=9223372036854775807) :
  Calls Tryz.prog 115 #[.agg (fC (.slice na nl nc) (.slice ba bl bc) (.slice da dl dc) (.int .i64 root))] W fun e W'=>e=.returned (.int .i64 (if qD NM BS NS root then 0 else 3))/\Below W.heap.size W W':=by
 have hdl:dl<=9223372036854775807:=by have:=hN.le;have:=hN.max;unfold maxLen at *;omega
 unfold qD
 rw[hX.len,hB.len,hN.len]
 have hb0:=aC W (.cells (fC (.slice na nl nc) (.slice ba bl bc) (.slice da dl dc) (.int .i64 root)) 55)
 have HB:=aA hb0
 have HC:=aA (aB.new W 55 (fC (.slice na nl nc) (.slice ba bl bc) (.slice da dl dc) (.int .i64 root)))
 have HX:=aA (hX.later hb0)
 have HBI:=aA (hB.later hb0)
 have HN:=aA (hN.later hb0)
 have HLB:=aA hB.len
 have HLN:=aA hN.len
 have HS:=aA hs
 clear hX hB hN hb0 hs
 by_cases h1:nl=bl
 ·subst h1
  have k1:((nl:Int) != (nl:Int))=false:=by simp
  rw[show (nl==nl)=true by simp,Bool.true_and]
  have HE:=aA fun V=>wO (.slice na nl nc) (.slice ba nl bc) da dl dc root V hdl ⟨_,_,_,rfl⟩ ⟨_,_,_,rfl⟩
  cases he:wN dl root with
  | false =>
   rw[he] at HE
   rw[Bool.false_and]
   clear he
   go_enter Tryz.func115,Tryz.ntmps115
   go_wp2_with fail
   refine(HE.o _).mono ?_
   rintro e V1 ⟨rfl,hb1⟩
   have HB1:=aA (bel HB.o hb1)
   clear hb1
   go_wp2_with fail
   go_ret
   exact⟨rfl,HB1.o⟩
  | true =>
   rw[he] at HE
   rw[Bool.true_and]
   have hd4:dl<=1024:=by simp[wN,bR] at he;omega
   clear he
   cases ho:qR BS NS with
   | false =>
    rw[Bool.false_and]
    have HO:=aA ho
    clear ho
    go_enter Tryz.func115,Tryz.ntmps115
    go_wp2_with fail
    refine(HE.o _).mono ?_
    rintro e V1 ⟨rfl,hb1⟩
    have HB1:=aA (bel HB.o hb1)
    obtain⟨t0,t1,t2,t3⟩:=fH (HC.o.below hb1)
    have HI:=aA (fun na nl nc root=>uT (na:=na) (nl:=nl) (nc:=nc) (root:=root) (HBI.o.later hb1) (HN.o.later hb1) hd4)
    rw[HO.o] at HI
    clear hb1 HB
    go_wp2_with fail
    refine(HI.o _ _ _ _).mono ?_
    rintro e V2 ⟨rfl,hb1⟩
    have HB2:=aA (bel HB1.o hb1)
    clear hb1
    go_wp2_with fail
    go_ret
    exact⟨rfl,HB2.o⟩
   | true =>
    rw[Bool.true_and]
    have HO:=aA ho
    have hn4:nl<=1024:=by have:=aQy ho;rw[HLB.o,HLN.o] at this;omega
    clear ho
    generalize hz:nmB NM=z
    have HZ:=aA hz
    clear hz
    go_enter Tryz.func115,Tryz.ntmps115
    go_wp2_with fail
    refine(HE.o _).mono ?_
    rintro e V1 ⟨rfl,hb1⟩
    have HB1:=aA (bel HB.o hb1)
    have HC1:=aA (HC.o.below hb1)
    obtain⟨t0,t1,t2,t3⟩:=fH HC1.o
    have HI:=aA (fun na nl nc root=>uT (na:=na) (nl:=nl) (nc:=nc) (root:=root) (HBI.o.later hb1) (HN.o.later hb1) hd4)
    have HX1:=aA (HX.o.later hb1)
    rw[HO.o] at HI
    clear hb1 HB
    go_wp2_with fail
    refine(HI.o _ _ _ _).mono ?_
    rintro e V2 ⟨rfl,hb1⟩
    have HB2:=aA (bel HB1.o hb1)
    obtain⟨s0,s1,s2,s3⟩:=fH (HC1.o.below hb1)
    have HM:=aA (aIi (HX1.o.later hb1) hn4 HS.o)
    rw[HZ.o] at HM
    clear hb1
    cases z
    all_goals
     go_wp2_with fail
     refine(HM.o).mono ?_
     rintro e V3 ⟨rfl,hb1⟩
     have HB3:=aA (bel HB2.o hb1)
     clear hb1
     go_wp2_with fail
     go_ret
     exact⟨rfl,HB3.o⟩
 ·have k1:((nl:Int) != (bl:Int))=true:=by simp;omega
  rw[show (nl==bl)=false by simpa using h1,Bool.false_and]
  go_enter Tryz.func115,Tryz.ntmps115
  go_wp2_with fail
  go_ret
  exact⟨rfl,HB.o⟩
end Go.Proofs.YtihbhbeaihdgnaaGreat
