import Derived.Test.YticnbcfmbhjbgaaGreatDoorX25
set_option maxRecDepth 100000
set_option maxHeartbeats 32000000
set_option linter.unusedVariables false
namespace Go.Proofs.Cpl
open Go.RowKit Go.IntWalk Knd
open YticnbcfmbhjbgaaGreatDoor (Wd dQ Fits inpV aB)
open Cde (In i0 ia kd cd Ins aC aP fZ)
open Vfy (aW aI)
open Vmm (Mc aE7 NwP rT zL)
open Chn (Hm aE0 NcP hrV yU)
open YticnbcfmbhjbgaaGreatDoor (aB)
abbrev pgA (m q:Nat)(f d:Int)(a:Option Addr)(n c:Nat)(o:Int)(s:ByteArray)(z:Int):Array Value:=#[.pointer (some ⟨m,0,none⟩),.pointer (some ⟨q,0,none⟩),.i f,.i d,.slice a n c,.i o,.string s,.i z]
structure Pg (V:World)(g:Nat)(f d:Int)(L:List In)(o:Int)(s:ByteArray)(z:Int):Prop where
 x:∃ m q a n c,aB V g 116 (pgA m q f d a n c o s z)/\Ins V a n c L/\(∃ l a2 n2 c2,Mc V l m f d L o a2 n2 c2)/\∃ l b k,Hm V l q f d L o b k
theorem Pg.later {V V':World}{g:Nat}{f d:Int}{L:List In}{o:Int}{s:ByteArray}{z:Int}(h:Pg V g f d L o s z)(hb:Below V.heap.size V V'):Pg V' g f d L o s z:=by
 obtain⟨m,q,a,n,c,h1,h2,⟨l,a2,n2,c2,h3⟩,l2,b,k,h4⟩:=h.x
 exact⟨m,q,a,n,c,h1.below hb,h2.later hb,⟨l,a2,n2,c2,h3.later hb⟩,l2,b,k,h4.later hb⟩
theorem pU {W:World}{b:Nat}{t:TypeId}{x0 x1 x2 x3 x4 x5 x6 x7:Value}(h:aB W b t #[x0,x1,x2,x3,x4,x5,x6,x7]):W.cell? ⟨b,0,none⟩=some x0/\W.cell? ⟨b,1,none⟩=some x1/\W.cell? ⟨b,2,none⟩=some x2/\W.cell? ⟨b,3,none⟩=some x3/\W.cell? ⟨b,4,none⟩=some x4/\W.cell? ⟨b,5,none⟩=some x5/\W.cell? ⟨b,6,none⟩=some x6/\W.cell? ⟨b,7,none⟩=some x7 :=
 ⟨h.cell 0 rfl,h.cell 1 rfl,h.cell 2 rfl,h.cell 3 rfl,h.cell 4 rfl,h.cell 5 rfl,h.cell 6 rfl,h.cell 7 rfl⟩
theorem aLo (f d out:Int)(s:ByteArray)(z:Int){a:Option Addr}{n cap:Nat}{L:List In}{W:World}(hL:Ins W a n cap L) :
  Calls Tryz.prog 34 #[.agg (cd f d a n cap out),.string s,.i z] W fun e W'=>Below W.heap.size W W'/\((aW f d L out≠0/\e=.returned (.tuple #[.pointer none,.i (aW f d L out)]))\/(aW f d L out=0/\∃ g,e=.returned (.tuple #[.pointer (some ⟨g,0,none⟩),.i 0])/\Pg W' g f d L out s z)):=by
 have hb1:=aD W (.cells (cd f d a n cap out) 33)
 have HC0:=aA (aB.new W 33 (cd f d a n cap out))
 have HB0:=aA hb1
 have HL0:=aA (hL.later hb1)
 have HM:=aA fun V (h:Ins V a n cap L)=>aE7 f d out h
 have HH:=aA fun V (h:Ins V a n cap L)=>aE0 f d out h
 clear hL hb1
 by_cases h0:aW f d L out=0
 ·have H0:=aA h0
  clear h0
  obtain⟨c0,c1,c2,c3⟩:=aC HC0.o
  go_enter Tryz.func34,Tryz.ntmps34
  go_wp2_with fail
  refine(HM.o _ HL0.o).mono ?_
  rintro e V1 ⟨hb,⟨hn,-⟩|⟨-,g1,a1,n1,k1,rfl,hM⟩⟩
  ·exact absurd H0.o hn
  have HB1:=aA (bel HB0.o hb)
  have HL1:=aA (HL0.o.later hb)
  have HC1:=aA (HC0.o.below hb)
  have HM1:=aA hM
  clear hb hM HM HC0 HL0 c0 c1 c2 c3
  obtain⟨c0,c1,c2,c3⟩:=aC HC1.o
  go_wp2_with fail
  refine(HH.o _ HL1.o).mono ?_
  rintro e V2 ⟨hb,⟨hn,-⟩|⟨-,g2,b2,n2,rfl,hH⟩⟩
  ·exact absurd H0.o hn
  have HB2:=aA (bel HB1.o hb)
  have HL2:=aA (HL1.o.later hb)
  have HC2:=aA (HC1.o.below hb)
  have HM2:=aA (HM1.o.later hb)
  have HH2:=aA hH
  clear hb hH HH HC1 HL1 HM1 c0 c1 c2 c3
  obtain⟨c0,c1,c2,c3⟩:=aC HC2.o
  go_wp2_with fail
  have hb4:=aD V2 (.cells (pgA g1 g2 f d a n cap out s z) 116)
  exact bPr (v:=.tuple #[.pointer (some ⟨V2.heap.size,0,none⟩),.i 0]) (by simp[results,Tryz.results34,go_sem]) rfl ⟨bel HB2.o hb4,.inr ⟨H0.o,_,rfl,_,_,_,_,_,aB.new _ _ _,HL2.o.later hb4,⟨_,_,_,_,HM2.o.later hb4⟩,_,_,_,HH2.o.later hb4⟩⟩
 ·obtain⟨er,her⟩:∃ er,aW f d L out=er:=⟨_,rfl⟩
  have hr:(er != 0)=true:=by rw[<-her];simpa using h0
  have H0:=aA h0
  have HE:=aA her
  clear h0 her
  obtain⟨c0,c1,c2,c3⟩:=aC HC0.o
  go_enter Tryz.func34,Tryz.ntmps34
  go_wp2_with fail
  refine(HM.o _ HL0.o).mono ?_
  rintro e V1 ⟨hb,⟨-,rfl⟩|⟨hn,-⟩⟩
  ·have HB1:=aA (bel HB0.o hb)
   rw[HE.o]
   clear hb HM HC0 HL0 c0 c1 c2 c3
   go_wp2_with fail
   exact bPr (v:=.tuple #[.pointer none,.i er]) (by simp[results,Tryz.results34,go_sem]) rfl ⟨HB1.o,.inl ⟨H0.o,by rw[HE.o]⟩⟩
  ·exact absurd hn H0.o
end Go.Proofs.Cpl
