import Derived.Test.YtihbhbeaihdgnaaGreatXH
import Derived.Deep.RegionHeld3
import Derived.Deep.AppendLies
import Derived.Lib.SliceRun
import Derived.Deep.CutRange
import Derived.Test.YtihbhbeaihdgnaaGreatX39
import Derived.Test.YtihbhbeaihdgnaaGreatX31
import Derived.Test.YtihbhbeaihdgnaaGreatX13
import Derived.Test.YtihbhbeaihdgnaaGreatX10
import Derived.Test.YtihbhbeaihdgnaaGreatX38
import Derived.Test.YtihbhbeaihdgnaaGreatX19
set_option maxRecDepth 100000
set_option maxHeartbeats 32000000
set_option linter.unusedVariables false
namespace Go.Proofs.Rdc
open Go.RowKit Go.IntWalk Knd
open Cde (In i0 ia kd cd Ins tO aJ aD aQ aK bB dX aF bU i6 zA aH)
open Vfy (aZ rC rA)
variable {V W w:World} {b base n size:Nat} {v:Value} {L:List In} {ops:Array Oper} {o:Oper} {a:Act} {e t:TypeId} {xs:List Value} {cs:Array Value}
theorem kP:(Tryz.prog.info? 41).map (fun i=>(i.zero,i.size,i.bytes))=some (some (.agg (ia i0)),6,48):=by kernel_rfl
theorem lJ {n:In}(h:aB W b 41 (ia n)):∀ j u,(i6 n)[j]?=some u->W.cell? ((⟨b,0,none⟩:Addr).add j)=some u:=by
 intro j u hu
 rw[Addr.add_lit,Nat.zero_add]
 exact h.cell j (by rw[<-hu];simp[ia,i6])
theorem jH {rest:List Oper}{Q:Exit->Act->World->Prop}
  (hgd:o.guard=none) (s x:Operand) (ho:o.op=.call { callee:=.builtin .append,args:=#[s,x],argTypes:=#[24,24] })
  (hs:a.eval s=v) (hen:V.ownsRow base 41 6 v L.length (bU L)) (hbase:base<=V.heap.size) (b:Nat) (n:In) (hx:a.eval x=.slice (some ⟨b,0,none⟩) 1 1) (hc:aB V b 41 (ia n)) (h3:L.length<=2000000)
  (h:∀ g cap w',w'.ownsRow base 41 6 (.slice (some ⟨g,0,none⟩) (L.length+1) cap) (L++[n]).length (bU (L++[n]))->V.grownBy w' v.ownBlock->wpList Tryz.prog ops Q rest (a.put o.dst (.slice (some ⟨g,0,none⟩) (L.length+1) cap)) w') :
  wpList Tryz.prog ops Q (o::rest) a V:=by
 obtain⟨i0',hi0,hz0,hz1,hz2⟩:=Spn.info_parts kP
 refine wpList_append_lies V hgd s x 24 ho base 41 i0' _ 6 48 Tryz.underlying24 hi0 hz0 hz1 hz2 rfl (by omega) v L.length (bU L) hs hen ⟨b,0,none⟩ 1 1 (i6 n) hx rfl (lJ hc) (by simp[Value.oneCell',i6]) (by omega) (by unfold maxLen;omega) (by omega) hbase V.heap.size rfl ?_
 intro g cap w' hown hgrow hat hlt
 refine h g cap w' ?_ hgrow
 rw[Cde.oJ,List.length_append]
 exact hown
theorem mJ {K:Act->World->Prop}{Q:Exit->Act->World->Prop}{E:Prop}
  (hgd:o.guard=none) (s x:Operand) (ho:o.op=.call { callee:=.builtin .append,args:=#[s,x],argTypes:=#[24,24] })
  (hs:a.eval s=v) (hen:V.ownsRow base 41 6 v L.length (bU L)) (hbase:base<=V.heap.size) (b:Nat) (n:In) (hx:a.eval x=.slice (some ⟨b,0,none⟩) 1 1) (hc:aB V b 41 (ia n)) (h3:L.length<=2000000)
  (h:∀ g cap w',w'.ownsRow base 41 6 (.slice (some ⟨g,0,none⟩) (L.length+1) cap) (L++[n]).length (bU (L++[n]))->V.grownBy w' v.ownBlock->K (a.put o.dst (.slice (some ⟨g,0,none⟩) (L.length+1) cap)) w') :
  if Region.wanted o (yielded ops a.tmps)=true then Oper.wp Tryz.prog o a V K Q else E:=by
 obtain⟨i0',hi0,hz0,hz1,hz2⟩:=Spn.info_parts kP
 refine step_append_lies V hgd s x 24 ho base 41 i0' _ 6 48 Tryz.underlying24 hi0 hz0 hz1 hz2 rfl (by omega) v L.length (bU L) hs hen ⟨b,0,none⟩ 1 1 (i6 n) hx rfl (lJ hc) (by simp[Value.oneCell',i6]) (by omega) (by unfold maxLen;omega) (by omega) hbase V.heap.size rfl ?_
 intro g cap w' hown hgrow hat hlt
 refine h g cap w' ?_ hgrow
 rw[Cde.oJ,List.length_append]
 exact hown
theorem gH {L:List Int}{rest:List Oper}{Q:Exit->Act->World->Prop}
  (hgd:o.guard=none) (s x:Operand) (ho:o.op=.call { callee:=.builtin .append,args:=#[s,x],argTypes:=#[42,42] })
  (hs:a.eval s=v) (hen:V.ownsRow base 3 1 v L.length (eG L)) (hbase:base<=V.heap.size) (b:Nat) (p:Int) (hx:a.eval x=.slice (some ⟨b,0,none⟩) 1 1) (hc:aB V b 3 #[.int .i64 p]) (h3:L.length<=2000000)
  (h:∀ g cap w',w'.ownsRow base 3 1 (.slice (some ⟨g,0,none⟩) (L.length+1) cap) (L++[p]).length (eG (L++[p]))->V.grownBy w' v.ownBlock->wpList Tryz.prog ops Q rest (a.put o.dst (.slice (some ⟨g,0,none⟩) (L.length+1) cap)) w') :
  wpList Tryz.prog ops Q (o::rest) a V:=by
 obtain⟨i0',hi0,hz0,hz1,hz2⟩:=info_parts info3
 refine wpList_append_lies V hgd s x 42 ho base 3 i0' _ 1 8 Tryz.underlying42 hi0 hz0 hz1 hz2 rfl (by omega) v L.length (eG L) hs hen ⟨b,0,none⟩ 1 1 [.int .i64 p] hx rfl (Cde.jI hc) (by simp[Value.oneCell']) (by omega) (by unfold maxLen;omega) (by omega) hbase V.heap.size rfl ?_
 intro g cap w' hown hgrow hat hlt
 exact h g cap w' (by rw[List.length_append];simpa using hown) hgrow
theorem oC {c:Nat}(h:Ins w none n c L):n=0/\c=0/\L=[]:=by
 have h1:=h.nil rfl
 have h2:=h.le
 have h3:=h.len
 exact⟨by omega,h1,List.eq_nil_of_length_eq_zero (by omega)⟩
theorem iU {a:Option Addr}{c:Nat}(hb:Ins w a n c L)(hn:n<=2000000)(hn0:0 < n) :
  Calls Tryz.prog 36 #[.slice a n c] w fun e w'=>∃ a' c',e=.returned (.slice a' n c')/\w'.ownsRow w.heap.size 41 6 (.slice a' n c') n (bU L)/\Below w.heap.size w w':=by
 obtain⟨i0',hi,hz0,hz1,hz2⟩:=Spn.info_parts kP
 have heq:∀(w:World) (a:Option Addr) (n c:Nat),(binOp .eql 24 (.slice a n c) (.slice none 0 0)).run Tryz.prog w=.ok (.bool a.isNone) w:=fun w a n c=>Lib.run_eql_slice_nil w 24 41 a n c 0 0 Tryz.underlying24
 cases a with
 | none =>
  obtain⟨rfl,-,-⟩:=oC hb
  omega
 | some ad =>
  have hl:(bU L).length=n*6:=by rw[Cde.sG,hb.len]
  have hbel:Below w.heap.size w (w.alloc (.cells #[] 41)):=aC _ _
  have HBel:=aA hbel
  have HN:=aA ((hb.later hbel).news ad rfl)
  have HO:Hid ((w.alloc (.cells #[] 41)).ownsRow w.heap.size 41 6 (.slice (some ⟨w.heap.size,0,none⟩) 0 0) 0 []):=aA ⟨rfl,.inr ⟨w.heap.size,0,#[],rfl,Nat.le_refl _,heap_alloc_new w _,Nat.le_refl _,Nat.zero_le _,rfl,rfl⟩⟩
  have HL:=aA hl
  clear hb hbel hl
  go_enter Tryz.func36,Tryz.ntmps36
  go_wp2_with (at_builtin;refine wpList_append_lies _ rfl _ _ 24 rfl w.heap.size 41 i0' _ 6 48 Tryz.underlying24 hi hz0 hz1 hz2 rfl (by omega) (.slice (some ⟨w.heap.size,0,none⟩) 0 0) 0 [] rfl HO.o ad n c (bU L) rfl HL.o HN.o (Cde.aBq L) hn0 (by unfold maxLen;omega) (by omega) (by simp) _ rfl ?_;intro g cap w2 hown hgr hat hlt)
  rw[Nat.zero_add,List.nil_append] at hown
  have HO2:=aA hown
  have HB2:=aA (HBel.o.grown hgr HBel.o.size (fun k h=>by cases h;exact Nat.le_refl _))
  clear hown hgr hat hlt
  go_wp2_with fail
  go_ret
  exact⟨_,_,rfl,HO2.o,HB2.o⟩
theorem own_ne (h:W.ownsRow base e size v n xs)(hb:aB W b t cs)(ht:t≠e):v.ownBlock≠some b:=by
 intro hk
 obtain⟨-,cs',fr,h2⟩:=Cde.aM h b hk
 rw[hb] at h2
 cases h2
 exact ht rfl
theorem aP {w':World}(h:V.ownsRow base e size v n xs)(hg:V.grownBy w' v.ownBlock)(hb:aB V b t cs)(ht:t≠e):aB w' b t cs :=
 hb.kept hg fun he=>own_ne h hb ht he.symm
theorem gM {w':World}{base':Nat}{e':TypeId}{size' n':Nat}{v':Value}{xs':List Value}(h:V.ownsRow base e size v n xs)(h':V.ownsRow base' e' size' v' n' xs')(ht:e≠e')(hg:V.grownBy w' v.ownBlock):w'.ownsRow base' e' size' v' n' xs':=by
 refine h'.kept hg ?_
 cases hv:v'.ownBlock with
 | none=>exact .inl rfl
 | some q =>
  right
  intro hq
  obtain⟨-,cs,fr,h1⟩:=Cde.aM h q hq.symm
  obtain⟨-,cs',fr',h2⟩:=Cde.aM h' q hv
  rw[h1] at h2
  cases h2
  exact ht rfl
abbrev bZ:Array Value:=#[.int .i64 0,.int .i64 0,.slice none 0 0,.int .i64 0]
structure Fh (W V:World)(cv wv rv:Array Value):Prop where
 c:aB V W.heap.size 26 cv
 w:aB V (W.heap.size+1) 26 wv
 r:aB V (W.heap.size+1+1) 26 rv
 lo:Below W.heap.size W V
theorem Fh.below {W V V':World}{cv wv rv:Array Value}(h:Fh W V cv wv rv)(hb:Below V.heap.size V V'):Fh W V' cv wv rv:=⟨h.c.below hb,h.w.below hb,h.r.below hb,bel h.lo hb⟩
abbrev s4 (w:World)(b:Nat)(x y z u:Value):World:=(((w.setCell ⟨b,0,none⟩ x).setCell ⟨b,1,none⟩ y).setCell ⟨b,2,none⟩ z).setCell ⟨b,3,none⟩ u
theorem Fh.put {cv wv:Array Value}{p q r s:Value}(h:Fh W V cv wv #[p,q,r,s])(x y z u:Value):Fh W (s4 V (W.heap.size+1+1) x y z u) cv wv #[x,y,z,u]:=by
 refine⟨?_,?_,(((h.r.set 0 x).set 1 y).set 2 z).set 3 u,?_⟩
 ·exact(((h.c.other (p:=⟨W.heap.size+1+1,0,none⟩) (by simp;omega) _).other (p:=⟨W.heap.size+1+1,1,none⟩) (by simp;omega) _).other (p:=⟨W.heap.size+1+1,2,none⟩) (by simp;omega) _).other (p:=⟨W.heap.size+1+1,3,none⟩) (by simp;omega) _
 ·exact(((h.w.other (p:=⟨W.heap.size+1+1,0,none⟩) (by simp) _).other (p:=⟨W.heap.size+1+1,1,none⟩) (by simp) _).other (p:=⟨W.heap.size+1+1,2,none⟩) (by simp) _).other (p:=⟨W.heap.size+1+1,3,none⟩) (by simp) _
 ·exact(((h.lo.setCell (p:=⟨W.heap.size+1+1,0,none⟩) (by simp;omega) _).setCell (p:=⟨W.heap.size+1+1,1,none⟩) (by simp;omega) _).setCell (p:=⟨W.heap.size+1+1,2,none⟩) (by simp;omega) _).setCell (p:=⟨W.heap.size+1+1,3,none⟩) (by simp;omega) _
theorem bQ (h:aB W b t cs):W.frozen? ⟨b,0,none⟩=false/\W.frozen? ⟨b,1,none⟩=false/\W.frozen? ⟨b,2,none⟩=false/\W.frozen? ⟨b,3,none⟩=false:=⟨h.frozen 0,h.frozen 1,h.frozen 2,h.frozen 3⟩
theorem iL (h:w.ownsRow base e size v n xs)(hq:v.ownBlock≠some b)(x y z u:Value):(s4 w b x y z u).ownsRow base e size v n xs :=
 ownsRow_setCell_other (ownsRow_setCell_other (ownsRow_setCell_other (ownsRow_setCell_other h (a:=⟨b,0,none⟩) hq _) (a:=⟨b,1,none⟩) hq _) (a:=⟨b,2,none⟩) hq _) (a:=⟨b,3,none⟩) hq _
theorem aJy (f d o1 o2:Int){a1 a2:Option Addr}{n1 n2 c1 c2:Nat}{M:List In}(hM:Ins W a1 n1 c1 M)(hL:Ins W a2 n2 c2 L)(hn0:0 < n2)(hn:n2<=1000) :
  Calls Tryz.prog 159 #[.agg (cd f d a1 n1 c1 o1),.agg (cd f d a2 n2 c2 o2)] W fun e W' =>
   (aZ f d M o1=0/\e=.returned (.agg (cd f d a1 n1 c1 o1))/\Below W.heap.size W W') \/
   (aZ f d M o1≠0/\∃ a' c',e=.returned (.agg (cd f d a' n2 c' o2))/\W'.ownsRow W.heap.size 41 6 (.slice a' n2 c') n2 (bU L)/\Below W.heap.size W W'):=by
 have b1:=aC W (.cells (cd f d a1 n1 c1 o1) 26)
 have b2:=bel b1 (aC _ (.cells (cd f d a2 n2 c2 o2) 26))
 have b3:=bel b2 (aC _ (.cells bZ 26))
 have h3:=aB.new ((W.alloc (.cells (cd f d a1 n1 c1 o1) 26)).alloc (.cells (cd f d a2 n2 c2 o2) 26)) 26 bZ
 rw[World.size_alloc,World.size_alloc] at h3
 have HF0:Hid (Fh W (((W.alloc (.cells (cd f d a1 n1 c1 o1) 26)).alloc (.cells (cd f d a2 n2 c2 o2) 26)).alloc (.cells bZ 26)) (cd f d a1 n1 c1 o1) (cd f d a2 n2 c2 o2) bZ) :=
  aA ⟨((aB.new W 26 (cd f d a1 n1 c1 o1)).alloc (.cells (cd f d a2 n2 c2 o2) 26)).alloc (.cells bZ 26),(aK W (.cells (cd f d a1 n1 c1 o1) 26) 26 (cd f d a2 n2 c2 o2)).alloc (.cells bZ 26),h3,b3⟩
 have HV:=aA (Vfy.dV f d o1 (hM.later b3))
 have HLI:=aA hL
 clear b1 b2 b3 h3 hM hL
 go_enter Tryz.func159,Tryz.ntmps159
 go_wp2_with fail
 refine HV.o.mono ?_
 rintro e V1 ⟨ga,gc,rfl,hS,hb,-,-⟩
 obtain⟨m,hm⟩:∃ m,rC f d M o1=m:=⟨_,rfl⟩
 obtain⟨co,hco⟩:∃ co,rA f d M o1=co:=⟨_,rfl⟩
 obtain⟨er,her⟩:∃ er,aZ f d M o1=er:=⟨_,rfl⟩
 rw[hm,hco,her]
 have HEr:=aA her
 have hb2:=aC V1 (.cells #[.slice ga m gc,.int .i64 co,.int .i64 0] 35)
 have HF1:=aA ((HF0.o.below hb).below hb2)
 obtain⟨x0,x1,x2,x3⟩:=aD (HF0.o.below hb).c
 obtain⟨w0,w1,w2,w3⟩:=aD (HF0.o.below hb).w
 obtain⟨p0,p1,p2,p3⟩:=aD (HF0.o.below hb).r
 have z0:=(HF0.o.below hb).c.lt
 have z1:=(HF0.o.below hb).w.lt
 have z2:=(HF0.o.below hb).r.lt
 clear hm hco her hb hb2 hS HV HF0
 by_cases h0:er=0
 ·have hr:(er==0)=true:=by simpa using h0
  go_upto_region 3 with fail
  obtain⟨V2,hV2⟩:∃ V2,V1.alloc (.cells #[.slice ga m gc,.int .i64 co,.int .i64 0] 35)=V2:=⟨_,rfl⟩
  rw[hV2] at HF1 ⊢
  clear x0 x1 x2 x3 w0 w1 w2 w3 p0 p1 p2 p3 z0 z1 z2 hV2
  obtain⟨x0,x1,x2,x3⟩:=aD HF1.o.c
  obtain⟨p0,p1,p2,p3⟩:=aD HF1.o.r
  obtain⟨r0,r1,r2,r3⟩:=bQ HF1.o.r
  obtain⟨V3,hV3⟩:∃ V3,(((V2.setCell ⟨W.heap.size+1+1,0,none⟩ (.int .i64 f)).setCell ⟨W.heap.size+1+1,1,none⟩ (.int .i64 d)).setCell ⟨W.heap.size+1+1,2,none⟩ (.slice a1 n1 c1)).setCell ⟨W.heap.size+1+1,3,none⟩ (.int .i64 o1)=V3:=⟨_,rfl⟩
  have HF2:Hid (Fh W V3 (cd f d a1 n1 c1 o1) (cd f d a2 n2 c2 o2) (cd f d a1 n1 c1 o1)):=aA (by rw[<-hV3];exact HF1.o.put (.int .i64 f) (.int .i64 d) (.slice a1 n1 c1) (.int .i64 o1))
  go_wp2_with fail
  obtain⟨q0,q1,q2,q3⟩:=aD HF2.o.r
  exact bodyPost_ret (v:=.agg (cd f d a1 n1 c1 o1)) (by simp[results,Tryz.results159,go_sem,q0,q1,q2,q3]) rfl (.inl ⟨HEr.o.trans h0,rfl,HF2.o.lo⟩)
 ·have hr:(er==0)=false:=by simpa using h0
  go_upto_region 4 with fail
  obtain⟨V2,hV2⟩:∃ V2,V1.alloc (.cells #[.slice ga m gc,.int .i64 co,.int .i64 0] 35)=V2:=⟨_,rfl⟩
  rw[hV2] at HF1 ⊢
  clear x0 x1 x2 x3 w0 w1 w2 w3 p0 p1 p2 p3 z0 z1 z2 hV2
  obtain⟨x0,x1,x2,x3⟩:=aD HF1.o.w
  have HCl:=aA (iU ((HLI.o.later HF1.o.lo).later (aF V2)) (by omega) hn0)
  have HS:=aA fun V3 (hb:Below V2.drew.heap.size V2.drew V3)=>(HF1.o.below (bel (aF V2) hb))
  go_region_held3 (fun w'=>w'.cell? ⟨W.heap.size+1,0,none⟩=some (.int .i64 f)/\w'.cell? ⟨W.heap.size+1,1,none⟩=some (.int .i64 d)/\w'.cell? ⟨W.heap.size+1,2,none⟩=some (.slice a2 n2 c2)/\w'.cell? ⟨W.heap.size+1,3,none⟩=some (.int .i64 o2))
   (first|exact⟨x0,x1,x2,x3⟩|exact⟨k0,k1,k2,k3⟩|go_keep)
   ((first
    | (go_at_call 36;refine HCl.o.mono ?_;rintro e V3 ⟨a',c',rfl,hO,hb⟩;have HF3:=aA (HS.o V3 hb);obtain⟨k0,k1,k2,k3⟩:=aD HF3.o.w;obtain⟨p0,p1,p2,p3⟩:=aD HF3.o.r;obtain⟨r0,r1,r2,r3⟩:=bQ HF3.o.r)))
  all_goals
   have HO3:=aA (Cde.cO hO (show W.heap.size<=V2.drew.heap.size from HF1.o.lo.size))
   clear k0 k1 k2 k3 p0 p1 p2 p3 r0 r1 r2 r3 hO hb HCl HS x0 x1 x2 x3
   have hq:=own_ne HO3.o HF3.o.r (by decide)
   have HO4:=aA (iL HO3.o hq (.int .i64 f) (.int .i64 d) (.slice a' n2 c') (.int .i64 o2))
   have HF4:=aA (HF3.o.put (.int .i64 f) (.int .i64 d) (.slice a' n2 c') (.int .i64 o2))
   obtain⟨V4,hV4⟩:∃ V4,(((V3.setCell ⟨W.heap.size+1+1,0,none⟩ (.int .i64 f)).setCell ⟨W.heap.size+1+1,1,none⟩ (.int .i64 d)).setCell ⟨W.heap.size+1+1,2,none⟩ (.slice a' n2 c')).setCell ⟨W.heap.size+1+1,3,none⟩ (.int .i64 o2)=V4:=⟨_,rfl⟩
   unfold s4 at HO4 HF4
   rw[hV4] at HO4 HF4 ⊢
   clear hV4 hq HF3 HO3
   go_wp2_with fail
   obtain⟨q0,q1,q2,q3⟩:=aD HF4.o.r
   exact bodyPost_ret (v:=.agg (cd f d a' n2 c' o2)) (by simp[results,Tryz.results159,go_sem,q0,q1,q2,q3]) rfl (.inr ⟨by rw[HEr.o];exact h0,_,_,rfl,HO4.o,HF4.o.lo⟩)
end Go.Proofs.Rdc
namespace Go.Proofs.Rdc
open Go.RowKit Go.IntWalk Knd
theorem aNf {x y:Int}(h:x=y):Ending.returned (.int .i64 x)=.returned (.int .i64 y):=by rw[h]
theorem qY (k:Int)(W:World):Calls Tryz.prog 236 #[.int .i64 k] W fun e W'=>e=.returned (.int .i64 (vE k))/\W'=W:=by
 have HY:=aA fun(n:Nat) (h1:n<=30) (h2:(2:Int) ^ n=k)=>aXl h1 h2
 have HN:=aA fun(h:∀ n:Nat,n < 31->(2:Int) ^ n≠k)=>aXk h
 generalize vE k=z at *
 go_enter Tryz.func236,Tryz.ntmps236
 go_wp2_with fail
 go_loop [4] (fun i=>∃ n:Nat,n<=31/\i=.int .i64 n/\Hid (∀ j:Nat,j < n->(2:Int) ^ j≠k)) (fun i=>31-(intOf i).toNat)
 case atStart=>exact⟨0,by omega,rfl,aA fun j h=>absurd h (Nat.not_lt_zero _)⟩
 case round =>
  obtain⟨n,hn,rfl,HA⟩:=hrel
  by_cases hlt:n < 31
  ·obtain⟨p1,p2⟩:=aF8 (show n<=62 by omega)
   have HY2:=aA (HY.o n (by omega))
   have HA2:=aA fun(h:(2:Int) ^ n≠k)=>show ∀ j:Nat,j < n+1->(2:Int) ^ j≠k from fun j hj=>by
    by_cases e:j=n
    ·rw[e];exact h
    ·exact HA.o j (by omega)
   obtain⟨P,hP⟩:∃ P:Int,(2:Int) ^ n=P:=⟨_,rfl⟩
   rw[hP] at p1 p2 HY2 HA2
   have hw:wrap64 P=P:=wrap64_in _ ⟨by omega,by omega⟩
   by_cases he:P=k
   ·have q:(k==P)=true:=by simp;omega
    have HZ:=aA (HY2.o he)
    clear he HY2 HA2 HY HN HA
    go_wp2_with fail
    go_ret
    exact⟨aNf HZ.o.symm,rfl⟩
   ·have q:(k==P)=false:=by simp;omega
    have HZ:=aA (HA2.o he)
    clear he HY2 HA2 HA
    go_wp2_with fail
    go_round
    case rel=>exact⟨n+1,by omega,by go_num,HZ⟩
    case measure=>simp[intOf];omega
  ·obtain rfl:n=31:=by omega
   have HZ:=aA (HN.o HA.o)
   clear HA HY HN
   go_wp2_with fail
   go_ret
   exact⟨aNf HZ.o.symm,rfl⟩
abbrev mgV (Z:Int × Int × Bool):Value:=.tuple #[.int .i64 Z.1,.int .i64 Z.2.1,.bool Z.2.2]
theorem aW8 {size d:Int}(h:2<=d/\d<=2147483647/\0<=size/\size<=2147483648):mgZ size d=mgR size d 63 0:=by rw[mgZ,if_pos h]
theorem aUq {size d:Int}(h:¬(2<=d/\d<=2147483647/\0<=size/\size<=2147483648)):mgZ size d=(0,0,false):=by rw[mgZ,if_neg h]
theorem aGs (size d:Int)(W:World):Calls Tryz.prog 243 #[.int .i64 size,.int .i64 d] W fun e W'=>e=.returned (mgV (mgZ size d))/\W'=W:=by
 by_cases hin:2<=d/\d<=2147483647/\0<=size/\size<=2147483648
 ·rw[aW8 hin]
  obtain⟨d1,d2,s1,s2⟩:=hin
  have HS:=aA fun(s:Nat) (hs:s<=62) (P k e E:Int) hP hk he hE=>aQh d1 d2 s1 s2 hs (P:=P) (k:=k) (e:=e) (E:=E) hP hk he hE
  have HB:=aA fun(f s:Nat) h=>aQf (size:=size) (d:=d) (f:=f) (s:=s) h
  have HY:=aA fun(f s:Nat) h h2=>aQg (size:=size) (d:=d) (f:=f) (s:=s) h h2
  have HX:=aA fun(f s:Nat) h h2=>aL6 (size:=size) (d:=d) (f:=f) (s:=s) h h2
  have H0:=aA fun(s:Nat)=>show mgR size d 0 s=(0,0,false) from rfl
  have HPW:=aA fun(n:Nat) (h:n<=62) (w:World)=>Spn.aGd (n:Int) w (by omega)
  obtain⟨Z,hZ⟩:∃ Z,mgR size d 63 0=Z:=⟨_,rfl⟩
  rw[hZ]
  have HZ:=aA hZ
  clear hZ
  go_enter Tryz.func243,Tryz.ntmps243
  go_wp2_with fail
  go_loop [24] (fun i=>∃ n:Nat,n<=63/\i=.int .i64 n/\Hid (mgR size d (63-n) n=Z)) (fun i=>63-(intOf i).toNat)
  case atStart=>exact⟨0,by omega,rfl,HZ⟩
  case round =>
   obtain⟨n,hn,rfl,HA⟩:=hrel
   clear HZ
   by_cases hlt:n < 63
   ·have hf:63-n=(63-(n+1))+1:=by omega
    have HA':=HA.o
    rw[hf] at HA'
    have HB2:=aA fun h=>HA'.symm.trans (HB.o (63-(n+1)) n h)
    have HY2:=aA fun h h2=>HA'.symm.trans (HY.o (63-(n+1)) n h h2)
    have HX2:=aA fun h h2=>(HX.o (63-(n+1)) n h h2).symm.trans HA'
    have HS2:=aA (HS.o n (by omega))
    have HP2:=aA fun w=>HPW.o n (by omega) w
    simp only[Int.toNat_natCast] at HP2
    clear HA HA' hf HB HY HX HS
    obtain⟨P,hP⟩:∃ P:Int,(2:Int) ^ n=P:=⟨_,rfl⟩
    obtain⟨k,hk⟩:∃ k:Int,P / d+1=k:=⟨_,rfl⟩
    obtain⟨X,hX⟩:∃ X:Int,k*d=X:=⟨_,rfl⟩
    obtain⟨y,hy⟩:∃ y:Int,k*d-P=y:=⟨_,rfl⟩
    obtain⟨E,hE⟩:∃ E:Int,y*size=E:=⟨_,rfl⟩
    obtain⟨p1,p2,k1,k2,x2,x1,y1,y2,e1,e2,hbig,hzer⟩:=HS2.o P k y E hP hk hy hE
    rw[hP,hk,hy,hE] at HY2 HX2
    rw[hP,hk] at HB2
    rw[hX] at x1 x2 hy
    have hq:P / d=k-1:=by omega
    have hqt:P.tdiv d=k-1:=by rw[Int.tdiv_eq_ediv_of_nonneg (by omega)];exact hq
    have HBig:=aA hbig
    have HZer:=aA hzer
    have hd0:(d==0)=false:=by simp;omega
    have hwP:wrap64 P=P:=wrap64_in _ ⟨by omega,by omega⟩
    have hwX:wrap64 X=X:=wrap64_in _ ⟨by omega,by omega⟩
    have hwE:wrap64 E=E:=wrap64_in _ ⟨by omega,by omega⟩
    rw[hP] at HP2
    clear hq hk hbig hzer HS2
    by_cases hs0:size=0
    ·have HNB:=aA (show k*size<=4611686018427387904 by have:=HZer.o hs0;omega)
     have hE0:E=0:=by rw[<-hE,hs0,Int.mul_zero]
     have HT:=aA (HY2.o (by have:=HNB.o;omega) (by omega))
     subst hs0
     have hlt2:decide (E < P)=true:=by simp;omega
     clear HBig HZer HB2 HY2 HX2 HNB
     subst hE0
     go_wp2_with fail
     exact bodyPost_ret (v:=.tuple #[.int .i64 k,.int .i64 n,.bool true]) (by simp[results,Tryz.results243,go_sem]) rfl ⟨by rw[HT.o],rfl⟩
    ·have hs1:0 < size:=by omega
     have q0:decide (0 < size)=true:=by simpa using hs1
     have q1:(size != 0)=true:=by simpa using hs0
     have q2:(size==0)=false:=by simpa using hs0
     have hB1:=HBig.o hs1
     obtain⟨R,hR⟩:∃ R:Int,4611686018427387904 / size=R:=⟨_,rfl⟩
     have r1:0<=R/\R<=4611686018427387904:=by
      rw[<-hR]
      exact⟨Int.ediv_nonneg (by omega) (by omega),Int.ediv_le_self _ (by omega)⟩
     have hRt:Int.tdiv 4611686018427387904 size=R:=by rw[Int.tdiv_eq_ediv_of_nonneg (by omega)];exact hR
     rw[hR] at hB1
     clear hR
     by_cases hb:R < k
     ·have HT:=aA (HB2.o (by have:=hB1.1 hb;omega))
      have q3:decide (R < k)=true:=by simpa using hb
      clear HBig HZer HB2 HY2 HX2 hB1 hb
      go_wp2_with fail
      exact bodyPost_ret (v:=.tuple #[.int .i64 0,.int .i64 0,.bool false]) (by simp[results,Tryz.results243,go_sem]) rfl ⟨by rw[HT.o],rfl⟩
     ·have HNB:=aA (Int.not_lt.1 fun h=>hb (hB1.2 h))
      have q3:decide (R < k)=false:=by simpa using hb
      by_cases hl:E < P
      ·have HT:=aA (HY2.o (by have:=HNB.o;omega) (by omega))
       have q4:decide (E < P)=true:=by simpa using hl
       clear HBig HZer HB2 HY2 HX2 hB1 hb HNB hl
       go_wp2_with fail
       exact bodyPost_ret (v:=.tuple #[.int .i64 k,.int .i64 n,.bool true]) (by simp[results,Tryz.results243,go_sem]) rfl ⟨by rw[HT.o],rfl⟩
      ·have HT:=aA (HX2.o (by have:=HNB.o;omega) (by omega))
       have q4:decide (E < P)=false:=by simpa using hl
       clear HBig HZer HB2 HY2 HX2 hB1 hb HNB hl
       go_wp2_with fail
       go_round
       case rel=>exact⟨n+1,by omega,by go_num,HT⟩
       case measure=>simp[intOf];omega
   ·obtain rfl:n=63:=by omega
    have HT:=aA (HA.o.symm.trans (H0.o 63))
    clear HA
    go_wp2_with fail
    exact bodyPost_ret (v:=.tuple #[.int .i64 0,.int .i64 0,.bool false]) (by simp[results,Tryz.results243,go_sem]) rfl ⟨by rw[HT.o],rfl⟩
 ·rw[aUq hin]
  by_cases a1:d < 2
  ·go_enter Tryz.func243,Tryz.ntmps243
   go_wp2_with fail
   exact bodyPost_ret (v:=.tuple #[.int .i64 0,.int .i64 0,.bool false]) (by simp[results,Tryz.results243,go_sem]) rfl ⟨rfl,rfl⟩
  by_cases a2:2147483647 < d
  ·go_enter Tryz.func243,Tryz.ntmps243
   go_wp2_with fail
   exact bodyPost_ret (v:=.tuple #[.int .i64 0,.int .i64 0,.bool false]) (by simp[results,Tryz.results243,go_sem]) rfl ⟨rfl,rfl⟩
  by_cases a3:size < 0
  ·go_enter Tryz.func243,Tryz.ntmps243
   go_wp2_with fail
   exact bodyPost_ret (v:=.tuple #[.int .i64 0,.int .i64 0,.bool false]) (by simp[results,Tryz.results243,go_sem]) rfl ⟨rfl,rfl⟩
  have a4:2147483648 < size:=by omega
  clear hin
  go_enter Tryz.func243,Tryz.ntmps243
  go_wp2_with fail
  exact bodyPost_ret (v:=.tuple #[.int .i64 0,.int .i64 0,.bool false]) (by simp[results,Tryz.results243,go_sem]) rfl ⟨rfl,rfl⟩
end Go.Proofs.Rdc
namespace Go.Proofs.Rdc
open Go.RowKit Go.IntWalk Knd
open Cde (In i0 ia kd cd Ins tO aJ aD aQ aK bB dX aF bU i6 zA aH)
open Vfy (aZ rC rA dM)
open Fld (dL rg gv)
variable {V V' W w':World} {b:Nat} {mv sv tv wv:Value} {M:List In} {T:List Int}
theorem aFm {a:Nat}{s t:TypeId}{cs ds:Array Value}(h:aB W a s cs)(k:aB W b t ds)(hn:s≠t):a≠b:=by
 rintro rfl
 unfold aB at h k
 rw[h] at k
 cases k
 exact hn rfl
structure Wt (W V:World)(b:Nat)(wv sv mv tv:Value)(M:List In)(T:List Int):Prop where
 w:aB V b 208 #[wv,sv,mv,tv]
 m:V.ownsRow b 41 6 mv M.length (bU M)
 t:V.ownsRow b 3 1 tv T.length (eG T)
 lo:Below W.heap.size W V
 hb:W.heap.size<=b
theorem Wt.below {W V V':World}{b:Nat}{wv sv mv tv:Value}{M:List In}{T:List Int}(h:Wt W V b wv sv mv tv M T)(hb:Below V.heap.size V V'):Wt W V' b wv sv mv tv M T :=
 ⟨h.w.below hb,Cde.bD h.m hb,Cde.bD h.t hb,bel h.lo hb,h.hb⟩
theorem iH (hb:b<=V.heap.size)(h:Below V.heap.size V V'):Below b V V':=h.mono hb
theorem Wt.le (h:Wt W V b wv sv mv tv M T):b<=V.heap.size:=Nat.le_of_lt h.w.lt
theorem Wt.growM {mv':Value}{M':List In}(h:Wt W V b wv sv mv tv M T)(hg:V.grownBy w' mv.ownBlock)(hO:w'.ownsRow b 41 6 mv' M'.length (bU M')) :
  Wt W (w'.setCell ⟨b,2,none⟩ mv') b wv sv mv' tv M' T/\Below b V (w'.setCell ⟨b,2,none⟩ mv'):=by
 have hW:=aP h.m hg h.w (by decide)
 have hT:=gM h.m h.t (by decide) hg
 have hB:Below b V w':=(Below.refl b V).grown hg h.le fun k hk=>(Cde.aM h.m k hk).1
 exact⟨⟨hW.set 2 mv',ownsRow_setCell_other hO (a:=⟨b,2,none⟩) (own_ne hO hW (by decide)) _,ownsRow_setCell_other hT (a:=⟨b,2,none⟩) (own_ne hT hW (by decide)) _,(h.lo.grown hg h.lo.size fun k hk=>Nat.le_trans h.hb (Cde.aM h.m k hk).1).setCell (p:=⟨b,2,none⟩) h.hb _,h.hb⟩,hB.setCell (p:=⟨b,2,none⟩) (Nat.le_refl _) _⟩
theorem Wt.growT {tv':Value}{T':List Int}(h:Wt W V b wv sv mv tv M T)(hg:V.grownBy w' tv.ownBlock)(hO:w'.ownsRow b 3 1 tv' T'.length (eG T')) :
  Wt W (w'.setCell ⟨b,3,none⟩ tv') b wv sv mv tv' M T'/\Below b V (w'.setCell ⟨b,3,none⟩ tv'):=by
 have hW:=aP h.t hg h.w (by decide)
 have hM:=gM h.t h.m (by decide) hg
 have hB:Below b V w':=(Below.refl b V).grown hg h.le fun k hk=>(Cde.aM h.t k hk).1
 exact⟨⟨hW.set 3 tv',ownsRow_setCell_other hM (a:=⟨b,3,none⟩) (own_ne hM hW (by decide)) _,ownsRow_setCell_other hO (a:=⟨b,3,none⟩) (own_ne hO hW (by decide)) _,(h.lo.grown hg h.lo.size fun k hk=>Nat.le_trans h.hb (Cde.aM h.t k hk).1).setCell (p:=⟨b,3,none⟩) h.hb _,h.hb⟩,hB.setCell (p:=⟨b,3,none⟩) (Nat.le_refl _) _⟩
theorem Wt.ints (h:Wt W V b wv sv mv tv M T):∃ a c,tv=.slice a T.length c/\Ints V a T.length c T:=by
 obtain⟨a',c',e,hi,-⟩:=Ints.of_owns h.t
 exact⟨a',c',e,hi⟩
def Kp (V V':World):Prop:=∀ q cs,aB V q 74 cs->aB V' q 74 cs
theorem Kp.below {V V' V2:World}(h:Kp V V')(hb:Below V'.heap.size V' V2):Kp V V2:=fun q cs hq=>(h q cs hq).below hb
theorem Wt.keepM {mv':Value}(h:Wt W V b wv sv mv tv M T)(hg:V.grownBy w' mv.ownBlock){V0:World}(hk:Kp V0 V):Kp V0 (w'.setCell ⟨b,2,none⟩ mv'):=by
 intro q cs hq
 have hq1:=hk q cs hq
 exact(aP h.m hg hq1 (by decide)).other (p:=⟨b,2,none⟩) (aFm hq1 h.w (by decide)) _
theorem aE0 (n:In)(h:Wt W V b wv sv mv tv M T)(hM:M.length<=2000000) :
  Calls Tryz.prog 187 #[.pointer (some ⟨b,0,none⟩),.agg (ia n)] V fun e V'=>e=.returned (.int .i64 (M.length:Int))/\(∃ mv',Wt W V' b wv sv mv' tv (M++[n]) T)/\Below b V V'/\Kp V V':=by
 obtain⟨ma,mc,rfl,-,-⟩:=Ins.of_owns h.m
 have HF0:=aA (h.below (aC V (.cells (ia n) 41)))
 have HN0:=aA (aB.new V 41 (ia n))
 have HB0:=aA (iH h.le (aC V (.cells (ia n) 41)))
 have HK0:Hid (Kp V (V.alloc (.cells (ia n) 41))):=aA fun q cs hq=>hq.below (aC V (.cells (ia n) 41))
 have HM:=aA hM
 have HNe:Hid ((Value.slice ma M.length mc).ownBlock≠some V.heap.size):=aA fun hk=>by
  obtain⟨-,cs,fr,h1⟩:=Cde.aM h.m _ hk
  have:=(Array.getElem?_eq_some_iff.1 h1).1
  omega
 obtain⟨m,hm⟩:∃ m,M.length=m:=⟨_,rfl⟩
 have hm2:m<=2000000:=by omega
 rw[hm] at HF0 HNe ⊢
 have HMl:=aA hm
 clear h hM hm
 go_enter Tryz.func187,Tryz.ntmps187
 go_wp2_with fail
 obtain⟨gb,hgb⟩:∃ gb,V.heap.size=gb:=⟨_,rfl⟩
 obtain⟨V1,hV1⟩:∃ V1,V.alloc (.cells (ia n) 41)=V1:=⟨_,rfl⟩
 rw[hV1] at HF0 HN0 HB0 HK0 ⊢
 rw[hgb] at HN0 HNe ⊢
 clear hV1 hgb
 have HF1:=aA (HF0.o.below (aF V1))
 have HN1:=aA (HN0.o.below (aF V1))
 have HB1:=aA (HB0.o.drew)
 have HK1:=aA (HK0.o.below (aF V1))
 generalize hU:V1.drew=U1 at *
 refine wp_region_held_drew (S:=fun w=>aB w gb 41 (ia n)) (by kernel_rfl) (by rw[hU];exact HN1.o) (fun _=>?_)
 rw[hU]
 clear hU HF0 HN0 HB0 HK0
 refine wpAnyH_take (i:=0) (v:=.pointer (some ⟨b,0,none⟩)) rfl (by kernel_rfl) (by kernel_rfl) (by kernel_rfl) (fun _ _ _ h=>h) (Or.inl ⟨by rfl,fun w hS=>by obtain⟨e0,e1,e2,e3,e4,e5⟩:=aJ hS;go_simp⟩) HN1.o ?_
 refine wpAnyH_take (i:=1) (v:=.pointer (some ⟨b,0,none⟩)) rfl (by kernel_rfl) (by kernel_rfl) (by kernel_rfl) (fun _ _ _ h=>h) (Or.inl ⟨by rfl,fun w hS=>by obtain⟨e0,e1,e2,e3,e4,e5⟩:=aJ hS;go_simp⟩) HN1.o ?_
 refine wpAnyH_take (i:=2) (v:=.pointer (some ⟨b,0,none⟩)) rfl (by kernel_rfl) (by kernel_rfl) (by kernel_rfl) (fun _ _ _ h=>h) (Or.inl ⟨by rfl,fun w hS=>by obtain⟨e0,e1,e2,e3,e4,e5⟩:=aJ hS;go_simp⟩) HN1.o ?_
 refine wpAnyH_take (i:=3) (v:=.pointer (some ⟨b,2,none⟩)) rfl (by kernel_rfl) (by kernel_rfl) (by kernel_rfl) (fun _ _ _ h=>h) (Or.inl ⟨by rfl,fun w hS=>by obtain⟨e0,e1,e2,e3,e4,e5⟩:=aJ hS;go_simp⟩) HN1.o ?_
 refine wpAnyH_take (i:=5) (v:=.agg (ia n)) rfl (by kernel_rfl) (by kernel_rfl) (by kernel_rfl) (fun _ _ _ h=>h) (Or.inl ⟨by rfl,fun w hS=>by obtain⟨e0,e1,e2,e3,e4,e5⟩:=aJ hS;go_simp⟩) HN1.o ?_
 have HGb:=aA (aFm HN1.o HF1.o.w (by decide))
 refine wpAnyH_ready (rs:=[4,6]) (by kernel_rfl) (by simp) (AllReadyH.cons rfl (fun K hK=>?_) (AllReadyH.cons rfl (fun K hK=>?_) AllReadyH.nil))
 ·have c2:=HF1.o.w.cell 2 rfl
  go_simp
  refine hK.out _ _ HN1.o (fun _=>?_)
  clear hK K c2
  refine wpAnyH_ready (rs:=[6]) (by kernel_rfl) (by simp) (AllReadyH.cons rfl (fun K hK=>?_) AllReadyH.nil)
  go_simp
  have HF2:=aA (HF1.o.below (aC U1 (.cells (ia n) 41)))
  have HN2:=aA (HN1.o.below (aC U1 (.cells (ia n) 41)))
  have HX2:=aA (aB.new U1 41 (ia n))
  have HBU:=aA (HB1.o.alloc HF1.o.le (.cells (ia n) 41))
  have HK2:=aA (HK1.o.below (aC U1 (.cells (ia n) 41)))
  refine hK.out _ _ HN2.o (fun _=>?_)
  clear hK K
  refine wpAnyH_ready (rs:=[7]) (by kernel_rfl) (by simp) (AllReadyH.cons rfl (fun K hK=>?_) AllReadyH.nil)
  refine mJ (L:=M) (by rfl) _ _ (by rfl) (by rw[<-HMl.o];rfl) HF2.o.m HF2.o.le _ n (by rfl) HX2.o HM.o ?_
  intro g cap w3 hown hgr
  have hN3:=HN2.o.kept hgr (fun he=>HNe.o he.symm)
  obtain⟨hW3,hB3⟩:=HF2.o.growM hgr hown
  have hK3:=HF2.o.keepM (mv':=.slice (some ⟨g,0,none⟩) (M.length+1) cap) hgr HK2.o
  have hc3:=aP HF2.o.m hgr HF2.o.w (by decide)
  have v2:=hc3.cell 2 rfl
  have yv:=hc3.frozen 2
  rw[HMl.o] at hW3 hB3 hK3 ⊢
  refine hK.out _ _ hN3 (fun _=>?_)
  clear hK K
  refine wpAnyH_take (i:=8) (v:=.pointer (some ⟨b,0,none⟩)) rfl (by kernel_rfl) (by kernel_rfl) (by kernel_rfl) (fun _ _ _ h=>h) (Or.inl ⟨by rfl,fun w hS=>by obtain⟨e0,e1,e2,e3,e4,e5⟩:=aJ hS;go_simp⟩) hN3 ?_
  refine wpAnyH_take (i:=9) (v:=.pointer (some ⟨b,2,none⟩)) rfl (by kernel_rfl) (by kernel_rfl) (by kernel_rfl) (fun _ _ _ h=>h) (Or.inl ⟨by rfl,fun w hS=>by obtain⟨e0,e1,e2,e3,e4,e5⟩:=aJ hS;go_simp⟩) hN3 ?_
  refine wpAnyH_ready (rs:=[10]) (by kernel_rfl) (by simp) (AllReadyH.cons rfl (fun K hK=>?_) AllReadyH.nil)
  go_simp
  refine hK.out _ _ (hN3.other (p:=⟨b,2,none⟩) HGb.o _) (fun _=>?_)
  clear hK K
  refine wpAnyH_done (by kernel_rfl) ?_ _
  go_simp
  have HW4:=aA hW3
  have HB4:=aA (HBU.o.trans hB3)
  have HK4:=aA hK3
  obtain⟨x0,x1,x2,x3⟩:=aD hW3.w
  clear v2 yv hc3 hN3 hown hgr hW3 hB3 hK3
  go_wp2_with fail
  go_ret
  exact⟨rfl,⟨_,HW4.o⟩,HB4.o,HK4.o⟩
 ·go_simp
  have HF2:=aA (HF1.o.below (aC U1 (.cells (ia n) 41)))
  have HN2:=aA (HN1.o.below (aC U1 (.cells (ia n) 41)))
  have HX2:=aA (aB.new U1 41 (ia n))
  have HBU:=aA (HB1.o.alloc HF1.o.le (.cells (ia n) 41))
  have HK2:=aA (HK1.o.below (aC U1 (.cells (ia n) 41)))
  refine hK.out _ _ HN2.o (fun _=>?_)
  clear hK K
  refine wpAnyH_ready (rs:=[4]) (by kernel_rfl) (by simp) (AllReadyH.cons rfl (fun K hK=>?_) AllReadyH.nil)
  have c2:=HF2.o.w.cell 2 rfl
  go_simp
  refine hK.out _ _ HN2.o (fun _=>?_)
  clear hK K c2
  refine wpAnyH_ready (rs:=[7]) (by kernel_rfl) (by simp) (AllReadyH.cons rfl (fun K hK=>?_) AllReadyH.nil)
  refine mJ (L:=M) (by rfl) _ _ (by rfl) (by rw[<-HMl.o];rfl) HF2.o.m HF2.o.le _ n (by rfl) HX2.o HM.o ?_
  intro g cap w3 hown hgr
  have hN3:=HN2.o.kept hgr (fun he=>HNe.o he.symm)
  obtain⟨hW3,hB3⟩:=HF2.o.growM hgr hown
  have hK3:=HF2.o.keepM (mv':=.slice (some ⟨g,0,none⟩) (M.length+1) cap) hgr HK2.o
  have hc3:=aP HF2.o.m hgr HF2.o.w (by decide)
  have v2:=hc3.cell 2 rfl
  have yv:=hc3.frozen 2
  rw[HMl.o] at hW3 hB3 hK3 ⊢
  refine hK.out _ _ hN3 (fun _=>?_)
  clear hK K
  refine wpAnyH_take (i:=8) (v:=.pointer (some ⟨b,0,none⟩)) rfl (by kernel_rfl) (by kernel_rfl) (by kernel_rfl) (fun _ _ _ h=>h) (Or.inl ⟨by rfl,fun w hS=>by obtain⟨e0,e1,e2,e3,e4,e5⟩:=aJ hS;go_simp⟩) hN3 ?_
  refine wpAnyH_take (i:=9) (v:=.pointer (some ⟨b,2,none⟩)) rfl (by kernel_rfl) (by kernel_rfl) (by kernel_rfl) (fun _ _ _ h=>h) (Or.inl ⟨by rfl,fun w hS=>by obtain⟨e0,e1,e2,e3,e4,e5⟩:=aJ hS;go_simp⟩) hN3 ?_
  refine wpAnyH_ready (rs:=[10]) (by kernel_rfl) (by simp) (AllReadyH.cons rfl (fun K hK=>?_) AllReadyH.nil)
  go_simp
  refine hK.out _ _ (hN3.other (p:=⟨b,2,none⟩) HGb.o _) (fun _=>?_)
  clear hK K
  refine wpAnyH_done (by kernel_rfl) ?_ _
  go_simp
  have HW4:=aA hW3
  have HB4:=aA (HBU.o.trans hB3)
  have HK4:=aA hK3
  obtain⟨x0,x1,x2,x3⟩:=aD hW3.w
  clear v2 yv hc3 hN3 hown hgr hW3 hB3 hK3
  go_wp2_with fail
  go_ret
  exact⟨rfl,⟨_,HW4.o⟩,HB4.o,HK4.o⟩
theorem tC (n:In)(h:Wt W V b wv sv mv tv M T)(hM:M.length<=2000000) :
  Calls Tryz.prog 187 #[.pointer (some ⟨b,0,none⟩),.agg (ia n)] V fun e V'=>e=.returned (.int .i64 (M.length:Int))/\(∃ mv',Wt W V' b wv sv mv' tv (M++[n]) T)/\Below b V V' :=
 (aE0 n h hM).mono fun e V' ⟨h1,h2,h3,_⟩=>⟨h1,h2,h3⟩
end Go.Proofs.Rdc
namespace Go.Proofs.Rdc
open Go.RowKit Go.IntWalk Knd
open Cde (In i0 ia kd cd Ins tO aJ aD aQ aK bB dX aF bU i6 zA aH)
open Vfy (aZ rC rA dM)
open Fld (dL rg gv)
variable {V W:World} {b:Nat} {mv sv tv wv:Value} {M:List In} {T:List Int}
theorem fK (r:Int){wa:Option Addr}{wn wc:Nat}{L:List In}(h:Wt W V b (.slice wa wn wc) sv mv tv M T)(hL:Ins W wa wn wc L)(hr:dL r wn) :
  Calls Tryz.prog 219 #[.pointer (some ⟨b,0,none⟩),.int .i64 r] V fun e V'=>e=.returned (.tuple #[.int .i64 (rg L r).k,.bool ((rg L r).op==1)])/\Below V.heap.size V V':=by
 have hs:=hL.short
 obtain⟨j,rfl⟩:∃ k:Nat,r=k:=⟨r.toNat,by have:=hr.1;omega⟩
 have hj:j < wn:=by have:=hr.2;omega
 obtain⟨g,off,rfl,-,hc⟩:=(hL.later h.lo).at (by omega)
 obtain⟨c0,c1,c2,c3,c4,c5⟩:=hc j hj
 have w0:=h.w.cell 0 rfl
 unfold rg
 rw[Int.toNat_natCast]
 generalize L.getD j i0=n at *
 have i0':(0:Int)<=j:=by omega
 have i1':(j:Int) < wn:=by omega
 have HB:=aA (aC V (.cells (ia n) 41))
 clear hc h hL hr
 go_enter Tryz.func219,Tryz.ntmps219
 go_wp2_with fail
 go_quiet (fail)
 go_wp2_with fail
 exact bodyPost_ret (v:=.tuple #[.int .i64 n.k,.bool (n.op==1)]) (by simp[results,Tryz.results219,go_sem]) rfl ⟨rfl,bel (aC V (.cells (ia n) 41)) (Cde.aKm _ _)⟩
theorem qZ (r k:Int)(h:Wt W V b wv sv mv tv M T)(hM:M.length<=2000000) :
  Calls Tryz.prog 235 #[.pointer (some ⟨b,0,none⟩),.int .i64 r,.int .i64 k] V fun e V'=>e=.returned (.int .i64 (M.length:Int))/\(∃ mv',Wt W V' b wv sv mv' tv (M++[yK r k]) T)/\Below b V V':=by
 have HP:=aA (qY k V)
 have HU:=aA fun n=>tC n h hM
 unfold yK
 generalize vE k=p at *
 clear h hM
 by_cases hp:0<=p
 ·rw[if_pos hp]
  have q:decide (0<=p)=true:=by simpa using hp
  clear hp
  go_enter Tryz.func235,Tryz.ntmps235
  go_wp2_with fail
  refine HP.o.mono ?_
  rintro e w' ⟨rfl,rfl⟩
  go_wp2_with fail
  refine(HU.o ⟨29,r,0,0,p,0⟩).mono ?_
  rintro e V1 ⟨rfl,hw,hb⟩
  go_wp2_with fail
  go_ret
  exact⟨rfl,hw,hb⟩
 ·rw[if_neg hp]
  have q:decide (0<=p)=false:=by simpa using hp
  clear hp
  go_enter Tryz.func235,Tryz.ntmps235
  go_wp2_with fail
  refine HP.o.mono ?_
  rintro e w' ⟨rfl,rfl⟩
  go_wp2_with fail
  refine(HU.o ⟨32,r,0,0,k,0⟩).mono ?_
  rintro e V1 ⟨rfl,hw,hb⟩
  go_wp2_with fail
  go_ret
  exact⟨rfl,hw,hb⟩
def nR (W V:World)(b:Nat)(wv sv tv:Value)(M:List In)(T:List Int)(o:Option (List In))(e:Ending)(V':World):Prop :=
 (∃ Q,o=some Q/\e=.returned (.tuple #[.int .i64 (((M.length+Q.length:Nat):Int)-1),.bool true])/\(∃ mv',Wt W V' b wv sv mv' tv (M++Q) T)/\Below b V V') \/
 (o=none/\e=.returned (.tuple #[.int .i64 0,.bool false])/\Below V.heap.size V V')
theorem nR.one {V':World}{n:In}{o:Option (List In)}{m:Nat}(ho:o=some [n])(hm:M.length=m)(h:∃ mv',Wt W V' b wv sv mv' tv (M++[n]) T)(hb:Below b V V'):nR W V b wv sv tv M T o (.returned (.tuple #[.int .i64 (m:Int),.bool true])) V':=by
 subst hm
 exact .inl ⟨[n],ho,by simp,h,hb⟩
theorem nR.no {V':World}{o:Option (List In)}(ho:o=none)(hb:Below V.heap.size V V'):nR W V b wv sv tv M T o (.returned (.tuple #[.int .i64 0,.bool false])) V':=.inr ⟨ho,rfl,hb⟩
theorem Wt.reg (h:Wt W V b wv sv mv tv M T){r:Int}(hr:dL r T.length):∃ j g c,r=((j:Nat):Int)/\j < T.length/\T.length<=9223372036854775807/\tv=.slice (some ⟨g,0,none⟩) T.length c/\V.cell? ⟨g,j,none⟩=some (.int .i64 (gv T r)):=by
 obtain⟨j,rfl⟩:∃ k:Nat,r=k:=⟨r.toNat,by have:=hr.1;omega⟩
 have hj:j < T.length:=by have:=hr.2;omega
 rcases h.t.2 with⟨e1,e2⟩|⟨g,cap,cur,rfl,-⟩
 ·omega
 ·obtain⟨a,c,e,hI⟩:=h.ints
  cases e
  obtain⟨b',off,e',-,hat⟩:=hI.at (by omega)
  cases e'
  have c0:=hat j hj
  rw[Nat.zero_add] at c0
  exact⟨j,g,cap,rfl,hj,by have:=hI.le;have:=hI.max;unfold maxLen at this;omega,rfl,c0⟩
end Go.Proofs.Rdc
