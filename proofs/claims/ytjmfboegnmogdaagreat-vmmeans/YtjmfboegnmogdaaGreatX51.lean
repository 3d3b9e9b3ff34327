import Derived.Test.YtjmfboegnmogdaaGreatXH
import Derived.Test.YtjmfboegnmogdaaGreatX50
import Derived.Test.YtjmfboegnmogdaaGreatX30
set_option maxRecDepth 100000
set_option maxHeartbeats 32000000
set_option linter.unusedVariables false
namespace Go.Proofs.Vmm
open Go.RowKit Go.IntWalk Knd
open YtjmfboegnmogdaaGreat (Wd gM Fits inpV)
open Cde (In i0 ia kd cd Ins bU qO aJ aD aR aL bC zA jR aNh aH dU oD iG TwP aS)
open Vfy (bB rE rD w32 aM pG mX rG)
def rnX (Z:Int × List Int)(o:Int):Int:=if Z.1=0 then Z.2.getD o.toNat 0 else 0
def rnN (Z:Int × List Int):Int:=if Z.1=0 then Z.2.length else 0
def aEl (Z:Int × List Int)(o:Int):Value:=.tuple #[.int .i64 (rnX Z o),.int .i64 (rnN Z),.int .i64 Z.1]
theorem aRv {f d out:Int}{L:List In}(h:bB f d L out=0)(v:Wd):(Fits f d v/\∃ D,iG f d v L out=(0,D)/\D.length=L.length/\(∀ i,i < L.length->w32 (D.getD i 0))/\0<=out/\out < L.length)\/(¬Fits f d v/\iG f d v L out=(1,[])):=by
 by_cases hF:Fits f d v
 ·refine .inl ⟨hF,?_⟩
  obtain⟨D,h1,h2,h3⟩:=run_in h hF (Nat.le_refl _)
  rw[List.take_length] at h1
  obtain⟨m,-⟩:=aM h
  obtain⟨-,-,-,m3,m4,-⟩:=aS m
  exact⟨D,by rw[iG,if_pos m,if_pos hF,h1],h2,h3,m3,m4⟩
 ·exact .inr ⟨hF,mX h hF⟩
theorem xN {f d out:Int}(v:Wd){lo g:Nat}{a pa:Option Addr}{n cap pl pc:Nat}{L:List In}{W:World}(hM:Mc W lo g f d L out a n cap)(hP:Ints W pa pl pc v.ps)(h:bB f d L out=0) :
  Calls Tryz.prog 15 #[.pointer (some ⟨g,0,none⟩),.agg (gM v pa pl pc)] W fun e W'=>e=.returned (aEl (iG f d v L out) out)/\Below W.heap.size W W':=by
 have hb1:=aC W (.cells (gM v pa pl pc) 45)
 have HM0:=aA (hM.later hb1)
 have HR:=aA (aMk v (hM.later hb1) (hP.later hb1) h)
 have HB0:=aA hb1
 have h2:=aRv h v
 rw[hM.ins.len] at h2
 clear hb1 hM hP h
 rcases h2 with⟨hF,D,h1,h2,h3,h4,h5⟩|⟨hF,h1⟩
 ·rw[h1] at HR ⊢
  obtain⟨q,rfl⟩:∃ q:Nat,out=q:=⟨out.toNat,by omega⟩
  have hv:aEl (0,D) q=.tuple #[.int .i64 (D.getD q 0),.int .i64 n,.int .i64 0]:=by simp[aEl,rnX,rnN,h2]
  rw[hv]
  obtain⟨x,hx⟩:∃ x,D.getD q 0=x:=⟨_,rfl⟩
  obtain⟨x1,x2⟩:=h3 q (by omega)
  rw[hx] at x1 x2 ⊢
  have HX:=aA hx
  have HDl:=aA h2
  clear hF h1 h2 h3 hv hx h4
  go_enter Tryz.func15,Tryz.ntmps15
  go_wp2_with fail
  refine HR.o.mono ?_
  rintro e V1 ⟨ra,rc,rfl,hO,hb⟩
  have HM1:=aA (HM0.o.later hb)
  have HB1:=aA (bel HB0.o hb)
  obtain⟨a',c',e',hI,-⟩:=Regs.of_owns hO
  cases e'
  dsimp only at hI ⊢
  rw[HDl.o] at hI ⊢
  obtain⟨rb,ro,rfl,-,hat⟩:=hI.at (by omega)
  have px:=hat q (by omega)
  rw[HX.o] at px
  obtain⟨-,-,-,c3⟩:=aD HM1.o.b
  have i0:(0:Int)<=q:=by omega
  clear hb hO hI hat HR HM0 HB0
  go_wp2_with fail
  exact bodyPost_ret (v:=.tuple #[.int .i64 x,.int .i64 n,.int .i64 0]) (by simp[results,Tryz.results15,go_sem]) rfl ⟨rfl,HB1.o⟩
 ·rw[h1] at HR ⊢
  clear hF h1
  go_enter Tryz.func15,Tryz.ntmps15
  go_wp2_with fail
  refine HR.o.mono ?_
  rintro e V1 ⟨ra,rc,rfl,-,hb⟩
  have HB1:=aA (bel HB0.o hb)
  clear hb HR HM0 HB0
  go_wp2_with fail
  exact bodyPost_ret (v:=.tuple #[.int .i64 0,.int .i64 0,.int .i64 1]) (by simp[results,Tryz.results15,go_sem]) rfl ⟨rfl,HB1.o⟩
def NwP (w:World)(f d:Int)(L:List In)(out:Int)(e:Ending)(W':World):Prop :=
 Below w.heap.size w W'/\((bB f d L out≠0/\e=.returned (.tuple #[.pointer none,.int .i64 (bB f d L out)]))\/(bB f d L out=0/\∃ g a n c,e=.returned (.tuple #[.pointer (some ⟨g,0,none⟩),.int .i64 0])/\Mc W' w.heap.size g f d L out a n c))
theorem xM (f d out:Int){a:Option Addr}{n cap:Nat}{L:List In}{W:World}(hL:Ins W a n cap L) :
  Calls Tryz.prog 6 #[.agg (cd f d a n cap out)] W (NwP W f d L out):=by
 have hb1:=aC W (.cells (cd f d a n cap out) 26)
 have HC0:=aA (aB.new W 26 (cd f d a n cap out))
 have HV:=aA (Vfy.dS f d out (hL.later hb1))
 have HB0:=aA hb1
 have HLI:=aA hL
 clear hb1
 by_cases h0:bB f d L out=0
 ·obtain⟨mc,-⟩:=aM h0
  obtain⟨-,m1,m2,-,-,-⟩:=aS mc
  rw[hL.len] at m1 m2
  unfold Vfy.VfP at HV
  rw[h0] at HV
  have H0:=aA h0
  generalize rE f d L out=vm at *
  generalize rD f d L out=vc at *
  generalize Vfy.rO f d L out=vs at *
  clear mc h0 hL
  go_enter Tryz.func6,Tryz.ntmps6
  go_wp2_with fail
  refine HV.o.mono ?_
  rintro e V1 ⟨ga,gc,rfl,hS,hb,-,-⟩
  have hb2:=bel hb (aC V1 (.cells #[.slice ga vm gc,.int .i64 vc,.int .i64 0] 35))
  have HC1:=aA (HC0.o.below hb2)
  have HB1:=aA (bel HB0.o hb2)
  have HCl:=aA (fK (HLI.o.later HB1.o) (by omega) (by omega))
  obtain⟨c0,c1,c2,c3⟩:=aD (HC0.o.below hb)
  have hz:=(HC0.o.below hb).lt
  clear hb hb2 hS HV HC0 HB0
  go_wp2_with fail
  refine HCl.o.mono ?_
  rintro e V2 ⟨a2,k2,rfl,hO,hb⟩
  have HC2:=HC1.o.below hb
  have hne:Value.ownBlock (.slice a2 n k2)≠some W.heap.size:=fun hk=>by
   have:=(hO.lt _ hk).1
   have:=HC1.o.lt
   omega
  have HO2:=aA (Cde.bO (ownsRow_setCell_other hO (a:=⟨W.heap.size,2,none⟩) hne (.slice a2 n k2)) HB1.o.size)
  have HC3:=aA (HC2.set 2 (.slice a2 n k2))
  have HB3:=aA ((bel HB1.o hb).setCell (p:=⟨W.heap.size,2,none⟩) (Nat.le_refl _) (.slice a2 n k2))
  obtain⟨c0,c1,c2',c3⟩:=aD HC2
  have z2:=HC2.frozen 2
  have hz2:=HC2.lt
  obtain⟨d0,d1,d2,d3⟩:=aD HC3.o
  clear hb hO hne HC2
  go_wp2_with fail
  have hb4:=aC (V2.setCell ⟨W.heap.size,2,none⟩ (.slice a2 n k2)) (.cells (cd f d a2 n k2 out) 66)
  have hn:=aB.new (V2.setCell ⟨W.heap.size,2,none⟩ (.slice a2 n k2)) 66 (cd f d a2 n k2 out)
  rw[World.size_setCell] at hn
  have hlo:W.heap.size<=V2.heap.size:=by have:=HB3.o.size;rwa[World.size_setCell] at this
  exact bodyPost_ret (v:=.tuple #[.pointer (some ⟨V2.heap.size,0,none⟩),.int .i64 0]) (by simp[results,Tryz.results6,go_sem]) rfl ⟨bel HB3.o hb4,.inr ⟨H0.o,_,_,_,_,rfl,⟨hn,Cde.aW HO2.o hb4,hlo⟩⟩⟩
 ·unfold Vfy.VfP at HV
  obtain⟨er,her⟩:∃ er,bB f d L out=er:=⟨_,rfl⟩
  have HE:Hid (∀ e W',Below W.heap.size W W'->e=.returned (.tuple #[.pointer none,.int .i64 er])->NwP W f d L out e W'):=aA fun e W' hb he=>⟨hb,.inl ⟨h0,by rw[her];exact he⟩⟩
  have hr:(er != 0)=true:=by rw[<-her];simpa using h0
  rw[her] at HV
  generalize rE f d L out=vm at *
  generalize rD f d L out=vc at *
  generalize Vfy.rO f d L out=vs at *
  clear h0 her hL
  go_enter Tryz.func6,Tryz.ntmps6
  go_wp2_with fail
  refine HV.o.mono ?_
  rintro e V1 ⟨ga,gc,rfl,hS,hb,-,-⟩
  have HB1:=aA (bel HB0.o (bel hb (aC V1 (.cells #[.slice ga vm gc,.int .i64 vc,.int .i64 0] 35))))
  clear hb hS HV HC0 HB0
  go_wp2_with fail
  exact bodyPost_ret (v:=.tuple #[.pointer none,.int .i64 er]) (by simp[results,Tryz.results6,go_sem]) rfl (HE.o _ _ HB1.o rfl)
def awL:List In:=[⟨1,0,0,0,7,0⟩,⟨1,0,0,0,2,0⟩,⟨9,0,1,0,0,0⟩]
def aw0:Wd:=⟨0,0,0,List.replicate 44 0⟩
theorem aSx:bB 0 8 awL 2=0:=by decide +kernel
theorem aWv:Cde.jS 0 8 awL 2=true:=by decide +kernel
theorem aPb:Fits 0 8 aw0:=by
 refine⟨⟨⟨⟨0,4095,by decide +kernel,by decide,by decide⟩,⟨0,4095,by decide +kernel,by decide,by decide⟩⟩,⟨0,3,by decide +kernel,by decide,by decide⟩⟩,by decide +kernel,?_⟩
 decide +kernel
theorem aWw:iG 0 8 aw0 awL 2=(0,[7,2,5]):=by
 rw[iG,if_pos aWv,if_pos aPb]
 decide +kernel
theorem aTk:aEl (iG 0 8 aw0 awL 2) 2=.tuple #[.int .i64 5,.int .i64 3,.int .i64 0]:=by rw[aWw];rfl
theorem aTj (w:World):Ints (w.alloc (.cells (zA (List.replicate 44 0)) 3)) (some ⟨w.heap.size,0,none⟩) 44 44 aw0.ps:=Cde.aLq (L:=List.replicate 44 0) (aB.new w 3 _) (by decide)
theorem aF0 (W:World):Calls Tryz.prog 8 #[] W fun e w'=>e=.returned (.bool true)/\Below W.heap.size W w':=by
 have HN:=aA fun(V:World) (a:Option Addr) (h:Ins V a 3 3 awL)=>xM 0 8 2 h
 have HR:=aA fun(V:World) (lo g:Nat) (a pa:Option Addr) (n c:Nat) (h:Mc V lo g 0 8 awL 2 a n c) (hp:Ints V pa 44 44 aw0.ps)=>xN aw0 h hp aSx
 rw[aTk] at HR
 have hmk:∀ w:World,(Instr.makeSlice 43 (.int .i64 44) (.int .i64 44)).run Tryz.prog w=.ok (.slice (some ⟨w.heap.size,0,none⟩) 44 44) (w.alloc (.cells (zA (List.replicate 44 0)) 3)):=Cde.aMb 44 (by decide)
 have HI:=aA (Cde.aP5 (L:=awL) (aB.new W 41 (bU awL).toArray) (by decide))
 have HB0:=aA (aC W (.cells (bU awL).toArray 41))
 go_enter Tryz.func8,Tryz.ntmps8
 go_wp2_with fail
 refine(HN.o _ _ HI.o).mono ?_
 rintro e V1 ⟨hb,⟨h0,-⟩|⟨-,g,a,n,c,rfl,hM⟩⟩
 ·exact absurd aSx h0
 have HB1:=aA (bel HB0.o hb)
 have HM1:=aA hM
 clear hb hM HN HI HB0
 go_wp2_with fail
 clear hmk
 have HB2:=aA (bel HB1.o (aC V1 (.cells (zA (List.replicate 44 0)) 3)))
 refine(HR.o _ _ _ _ _ _ _ (HM1.o.later (aC _ _)) (aTj V1)).mono ?_
 rintro e V2 ⟨rfl,hb⟩
 have HB3:=aA (bel HB2.o hb)
 clear hb HR HM1
 go_wp2_with fail
 go_ret
 exact⟨rfl,HB3.o⟩
end Go.Proofs.Vmm
