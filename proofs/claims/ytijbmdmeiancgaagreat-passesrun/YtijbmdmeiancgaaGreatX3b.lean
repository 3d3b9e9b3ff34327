import Derived.Test.YtijbmdmeiancgaaGreatXH
import Derived.Deep.AppendLies
import Derived.Test.YtijbmdmeiancgaaGreatX24
import Derived.Test.YtijbmdmeiancgaaGreatX21
set_option maxRecDepth 100000
set_option maxHeartbeats 32000000
set_option linter.unusedVariables false
namespace Go.Proofs.Fld
open Go.RowKit Go.IntWalk Knd
open Cde (In i0 ia kd cd Ins kM aJ aG bB aL bJ eO aD bG i6)
open Vfy (bL kN kK)
theorem aNd {V:World}{base b0:Nat}{L:List In}{n c:Nat}{ad:Addr}{ops:Array Oper}{o:Oper}{a:Act}{K:Act->World->Prop}{Q:Exit->Act->World->Prop}{E:Prop}
  (hgd:o.guard=none) (s x:Operand) (ho:o.op=.call { callee:=.builtin .append,args:=#[s,x],argTypes:=#[24,24] })
  (hs:a.eval s=.slice (some ⟨b0,0,none⟩) 0 0) (hen:V.ownsRow base 57 6 (.slice (some ⟨b0,0,none⟩) 0 0) 0 []) (hbase:base<=V.heap.size) (hx:a.eval x=.slice (some ad) n c) (hl:(bG L).length=n*6)
  (hN:∀ j u,(bG L)[j]?=some u->V.cell? (ad.add j)=some u) (hn0:0 < n) (h3:n<=2000000)
  (h:∀ g cap w',w'.ownsRow base 57 6 (.slice (some ⟨g,0,none⟩) n cap) n (bG L)->V.grownBy w' (some b0)->K (a.put o.dst (.slice (some ⟨g,0,none⟩) n cap)) w') :
  if Region.wanted o (yielded ops a.tmps)=true then Oper.wp Tryz.prog o a V K Q else E:=by
 obtain⟨i0',hi0,hz0,hz1,hz2⟩:=Spn.info_parts iK
 refine step_append_lies V hgd s x 24 ho base 57 i0' _ 6 48 Tryz.underlying24 hi0 hz0 hz1 hz2 rfl (by omega) (.slice (some ⟨b0,0,none⟩) 0 0) 0 [] hs hen ad n c (bG L) hx hl hN (Cde.qQ L) hn0 (by unfold maxLen;omega) (by omega) hbase V.heap.size rfl ?_
 intro g cap w' hown hgrow hat hlt
 rw[Nat.zero_add,List.nil_append] at hown
 rw[Nat.zero_add]
 exact h g cap w' hown hgrow
theorem iA (f d o1 o2:Int){a1 a2:Option Addr}{n1 n2 c1 c2:Nat}{M L:List In}{W:World}(hM:Ins W a1 n1 c1 M)(hL:Ins W a2 n2 c2 L)(hn0:0 < n2)(hn:n2<=1000) :
  Calls Tryz.prog 59 #[.agg (cd f d a2 n2 c2 o2),.agg (cd f d a1 n1 c1 o1)] W fun e W' =>
   (bL f d M o1=0/\e=.returned (.agg (cd f d a1 n1 c1 o1))/\Below W.heap.size W W') \/
   (bL f d M o1≠0/\∃ a' c',e=.returned (.agg (cd f d a' n2 c' o2))/\W'.ownsRow W.heap.size 57 6 (.slice a' n2 c') n2 (bG L)/\Below W.heap.size W W'):=by
 have b1:=aH W (.cells (cd f d a2 n2 c2 o2) 26)
 have b2:=bel b1 (aH _ (.cells (cd f d a1 n1 c1 o1) 26))
 have b3:=bel b2 (aH _ (.cells bM 26))
 have h3:=aI.new ((W.alloc (.cells (cd f d a2 n2 c2 o2) 26)).alloc (.cells (cd f d a1 n1 c1 o1) 26)) 26 bM
 rw[World.size_alloc,World.size_alloc] at h3
 have HF0:Hid (Fh W (((W.alloc (.cells (cd f d a2 n2 c2 o2) 26)).alloc (.cells (cd f d a1 n1 c1 o1) 26)).alloc (.cells bM 26)) (cd f d a2 n2 c2 o2) (cd f d a1 n1 c1 o1) bM) :=
  aC ⟨((aI.new W 26 (cd f d a2 n2 c2 o2)).alloc (.cells (cd f d a1 n1 c1 o1) 26)).alloc (.cells bM 26),(aL W (.cells (cd f d a2 n2 c2 o2) 26) 26 (cd f d a1 n1 c1 o1)).alloc (.cells bM 26),h3,b3⟩
 have HV:=aC (Vfy.iD f d o1 (hM.later b3))
 have HLI:=aC hL
 clear b1 b2 b3 h3 hM hL
 go_enter Tryz.func59,Tryz.ntmps59
 go_wp2_with fail
 refine HV.o.mono ?_
 rintro e V1 ⟨ga,gc,rfl,hS,hb,-,-⟩
 obtain⟨m,hm⟩:∃ m,kN f d M o1=m:=⟨_,rfl⟩
 obtain⟨co,hco⟩:∃ co,kK f d M o1=co:=⟨_,rfl⟩
 obtain⟨er,her⟩:∃ er,bL f d M o1=er:=⟨_,rfl⟩
 rw[hm,hco,her]
 have HEr:=aC her
 have hb2:=aH V1 (.cells #[.slice ga m gc,.int .i64 co,.int .i64 0] 47)
 have HF1:=aC ((HF0.o.below hb).below hb2)
 obtain⟨x0,x1,x2,x3⟩:=aG (HF0.o.below hb).c
 obtain⟨w0,w1,w2,w3⟩:=aG (HF0.o.below hb).w
 obtain⟨p0,p1,p2,p3⟩:=aG (HF0.o.below hb).r
 have z0:=(HF0.o.below hb).c.lt
 have z1:=(HF0.o.below hb).w.lt
 have z2:=(HF0.o.below hb).r.lt
 clear hm hco her hb hb2 hS HV HF0
 by_cases h0:er=0
 ·have hr:(er==0)=true:=by simpa using h0
  go_upto_region 3 with fail
  obtain⟨V2,hV2⟩:∃ V2,V1.alloc (.cells #[.slice ga m gc,.int .i64 co,.int .i64 0] 47)=V2:=⟨_,rfl⟩
  rw[hV2] at HF1 ⊢
  clear x0 x1 x2 x3 w0 w1 w2 w3 p0 p1 p2 p3 z0 z1 z2 hV2
  obtain⟨x0,x1,x2,x3⟩:=aG HF1.o.w
  obtain⟨p0,p1,p2,p3⟩:=aG HF1.o.r
  obtain⟨r0,r1,r2,r3⟩:=bC HF1.o.r
  obtain⟨V3,hV3⟩:∃ V3,(((V2.setCell ⟨W.heap.size+1+1,0,none⟩ (.int .i64 f)).setCell ⟨W.heap.size+1+1,1,none⟩ (.int .i64 d)).setCell ⟨W.heap.size+1+1,2,none⟩ (.slice a1 n1 c1)).setCell ⟨W.heap.size+1+1,3,none⟩ (.int .i64 o1)=V3:=⟨_,rfl⟩
  have HF2:Hid (Fh W V3 (cd f d a2 n2 c2 o2) (cd f d a1 n1 c1 o1) (cd f d a1 n1 c1 o1)):=aC (by rw[<-hV3];exact HF1.o.put (.int .i64 f) (.int .i64 d) (.slice a1 n1 c1) (.int .i64 o1))
  go_wp2_with fail
  obtain⟨q0,q1,q2,q3⟩:=aG HF2.o.r
  exact bodyPost_ret (v:=.agg (cd f d a1 n1 c1 o1)) (by simp[results,Tryz.results59,go_sem,q0,q1,q2,q3]) rfl (.inl ⟨HEr.o.trans h0,rfl,HF2.o.lo⟩)
 ·have hr:(er==0)=false:=by simpa using h0
  go_upto_region 4 with fail
  obtain⟨V2,hV2⟩:∃ V2,V1.alloc (.cells #[.slice ga m gc,.int .i64 co,.int .i64 0] 47)=V2:=⟨_,rfl⟩
  rw[hV2] at HF1 ⊢
  clear x0 x1 x2 x3 w0 w1 w2 w3 p0 p1 p2 p3 z0 z1 z2 hV2
  obtain⟨x0,x1,x2,x3⟩:=aG HF1.o.c
  have hbX:Below V2.heap.size V2 ((V2.alloc (.cells #[] 57)).drew):=bel (aH V2 (.cells #[] 57)) (aD _)
  have hOX:((V2.alloc (.cells #[] 57)).drew).ownsRow W.heap.size 57 6 (.slice (some ⟨V2.heap.size,0,none⟩) 0 0) 0 []:=⟨rfl,.inr ⟨V2.heap.size,0,#[],rfl,HF1.o.lo.size,heap_alloc_new V2 _,Nat.le_refl _,Nat.zero_le _,rfl,rfl⟩⟩
  have hFX:=HF1.o.below hbX
  obtain⟨ad,rfl⟩:∃ ad,a2=some ad:=by
   cases a2 with
   | none=>have:=(mO HLI.o).1;omega
   | some ad=>exact⟨ad,rfl⟩
  have hLX:=(HLI.o.later HF1.o.lo).later hbX
  have HNX:=aC (hLX.news ad rfl)
  have HlX:=aC (show (bG L).length=n2*6 by rw[Cde.gV,HLI.o.len])
  have HOX:=aC hOX
  have HsX:=aC (show W.heap.size<=((V2.alloc (.cells #[] 57)).drew).heap.size from hFX.lo.size)
  have HGX:=aC fun V3 (hg:((V2.alloc (.cells #[] 57)).drew).grownBy V3 (some V2.heap.size))=>(⟨aU hOX hg hFX.c (by decide),aU hOX hg hFX.w (by decide),aU hOX hg hFX.r (by decide),hFX.lo.grown hg hFX.lo.size fun k hk=>(Cde.aQ hOX k hk).1⟩:Fh W V3 (cd f d (some ad) n2 c2 o2) (cd f d a1 n1 c1 o1) bM)
  obtain⟨y0,y1,y2,y3⟩:=aG hFX.c
  clear hbX hOX hLX hFX
  go_region_held3 (fun w'=>w'.cell? ⟨W.heap.size,0,none⟩=some (.int .i64 f)/\w'.cell? ⟨W.heap.size,1,none⟩=some (.int .i64 d)/\w'.cell? ⟨W.heap.size,2,none⟩=some (.slice (some ad) n2 c2)/\w'.cell? ⟨W.heap.size,3,none⟩=some (.int .i64 o2))
   (first|with_reducible exact⟨x0,x1,x2,x3⟩|with_reducible exact⟨y0,y1,y2,y3⟩|with_reducible exact⟨k0,k1,k2,k3⟩|with_reducible exact⟨m0,m1,m2,m3⟩|exact⟨x0,x1,x2,x3⟩|go_keep)
   ((refine aNd (L:=L) (by rfl) _ _ (by rfl) (by rfl) HOX.o HsX.o (by rfl) HlX.o HNX.o hn0 (by omega) ?_;intro g' c' V3 hO hg;have HF3:=aC (HGX.o V3 hg);obtain⟨k0,k1,k2,k3⟩:=aG HF3.o.c;obtain⟨p0,p1,p2,p3⟩:=aG HF3.o.r;obtain⟨r0,r1,r2,r3⟩:=bC HF3.o.r;have hp:=HF3.o.put (.int .i64 f) (.int .i64 d) (.slice (some ⟨g',0,none⟩) n2 c') (.int .i64 o2);unfold s4 at hp;obtain⟨m0,m1,m2,m3⟩:=aG hp.c))
  all_goals
   have HO3:=aC hO
   clear k0 k1 k2 k3 p0 p1 p2 p3 r0 r1 r2 r3 m0 m1 m2 m3 hp hO hg HOX HsX HlX HNX HGX x0 x1 x2 x3 y0 y1 y2 y3
   have hq:=own_ne HO3.o HF3.o.r (by decide)
   have HO4:=aC (dB HO3.o hq (.int .i64 f) (.int .i64 d) (.slice (some ⟨g',0,none⟩) n2 c') (.int .i64 o2))
   have HF4:=aC (HF3.o.put (.int .i64 f) (.int .i64 d) (.slice (some ⟨g',0,none⟩) n2 c') (.int .i64 o2))
   obtain⟨V4,hV4⟩:∃ V4,(((V3.setCell ⟨W.heap.size+1+1,0,none⟩ (.int .i64 f)).setCell ⟨W.heap.size+1+1,1,none⟩ (.int .i64 d)).setCell ⟨W.heap.size+1+1,2,none⟩ (.slice (some ⟨g',0,none⟩) n2 c')).setCell ⟨W.heap.size+1+1,3,none⟩ (.int .i64 o2)=V4:=⟨_,rfl⟩
   unfold s4 at HO4 HF4
   rw[hV4] at HO4 HF4 ⊢
   clear hV4 hq HF3 HO3
   go_wp2_with fail
   obtain⟨q0,q1,q2,q3⟩:=aG HF4.o.r
   exact bodyPost_ret (v:=.agg (cd f d (some ⟨g',0,none⟩) n2 c' o2)) (by simp[results,Tryz.results59,go_sem,q0,q1,q2,q3]) rfl (.inr ⟨by rw[HEr.o];exact h0,_,_,rfl,HO4.o,HF4.o.lo⟩)
end Go.Proofs.Fld
