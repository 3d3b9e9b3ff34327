import Derived.Lib.ItoaLen
import Derived.Lib.AppendIntMem
import Derived.Test.YticnbcfmbhjbgaaGreatDoorX14
import Derived.Test.YticnbcfmbhjbgaaGreatDoorX11
import Derived.Test.YticnbcfmbhjbgaaGreatDoorX44
import Derived.Test.YticnbcfmbhjbgaaGreatDoorX45
set_option maxRecDepth 100000
set_option maxHeartbeats 32000000
set_option linter.unusedVariables false
namespace Go.Proofs.YticnbcfmbhjbgaaGreatDoor
section
open Go.RowKit Go.IntWalk Lx Pz Go.Sort
open Spn (aN)
theorem vG:Tryz.prog.follows .mixedOrders=true:=by kernel_rfl
structure Gl (w:World):Prop where
 inp:∀ k,k < 6->w.cell? ⟨0,k,none⟩=some (.string (sB (zC.getD k [])))
 ops:∀ k,k < 29->w.cell? ⟨1,k*2,none⟩=some (.string (sB (oO.getD k ([],0)).1))/\w.cell? ⟨1,k*2+1,none⟩=some (.i (oO.getD k ([],0)).2)
 tab : Lib.TabIs Tryz.prog w "internal/strconv.uint64pow10" .u64 Lib.pow10Tab
theorem aLx {w w' : World}(h : Lib.TabIs Tryz.prog w "internal/strconv.uint64pow10" .u64 Lib.pow10Tab)(hb : Below w.heap.size w w') : Lib.TabIs Tryz.prog w' "internal/strconv.uint64pow10" .u64 Lib.pow10Tab :=
 Lib.tabBelow_of_tabIs h w' hb
theorem Gl.later {w w':World}(h:Gl w)(hb:Below w.heap.size w w'):Gl w' :=
 ⟨fun k hk=>(hb.cell (p:=⟨0,k,none⟩) (wBl w _ (h.inp k hk))).trans (h.inp k hk),
  fun k hk=>⟨(hb.cell (p:=⟨1,k*2,none⟩) (wBl w _ (h.ops k hk).1)).trans (h.ops k hk).1,(hb.cell (p:=⟨1,k*2+1,none⟩) (wBl w _ (h.ops k hk).2)).trans (h.ops k hk).2⟩,
  aLx h.tab hb⟩
theorem below_grow (w:World)(k:Nat)(os:Array Obj):Below w.heap.size w (grow (w.drewN k) os):=by
 have h:=below_regrown w (w.drawn+k) os
 exact h
theorem aOh {w:World}(h:Gl w)(n:Int)(h0:-9223372036854775808<=n)(h1:n<=9223372036854775807) :
  Calls Tryz.prog 284 #[.i n] w fun e w'=>e=.returned (.string (sB (Lib.itoa n)))/\Below w.heap.size w w':=by
 refine(Tryz.strconv_Itoa n h0 h1 w h.tab).mono ?_
 rintro e w' ⟨rfl,k,os,rfl⟩
 exact⟨rfl,below_grow w k os⟩
theorem uF {n:Int}(h0:-9223372036854775808<=n)(h1:n<=9223372036854775807):(Lib.itoa n).length<=21:=Lib.itoa_length_le n h0 h1
theorem eT {w W:World}{b:Nat}{t:Tv}{out:List UInt8}(hP:Pb w W b t out)(hG:Gl w)(n:Int)(h0:-9223372036854775808<=n)(h1:n<=9223372036854775807)(hlen:out.length+(Lib.itoa n).length<=1099511627776) :
  Calls Tryz.prog 213 #[ptr b,.i n] W fun e W'=>e=.returned (.tuple #[])/\Pb w W' b t (out++Lib.itoa n)/\Kp SP W W':=by
 have HI:=fun(G:World) (hb:Below W.heap.size W G)=>aA (aOh (hG.later (bel hP.old hb)) n h0 h1)
 have HP:=aA hP
 have HL:=aA hlen
 clear hP hG h0 h1 hlen
 go_enter Tryz.func213,Tryz.ntmps213
 go_wp2_with fail
 refine aN (hf:=(List.dropLast_concat_getLast (by simp)).symm) vG (by kernel_rfl) rfl (by kernel_rfl) (by kernel_rfl) (by kernel_rfl) (by kernel_rfl) (by kernel_rfl) ?_
 simp only[List.dropLast_cons_cons,List.dropLast_singleton,List.getLast_cons_cons,List.getLast_singleton]
 repeat (go_big_quiet_step ((go_at_call 284;exact Calls.regrown_of (HI _ (below_regrown _ _ _)).o)))
 refine wpQuiet_nil ?_
 intro _ hw'
 obtain⟨pq,hw''⟩:=hw'
 subst hw''
 have hb2:=below_regrown W pq.d pq.os
 have HP2:=aA (HP.o.later hb2)
 have HK2:=aA (Kp.of_below SP hb2)
 clear HP hb2
 generalize grow (redrawn W pq.d) pq.os=G at *
 go_wp2_with fail
 refine(aY HP2.o _ (by exact HL.o)).mono ?_
 rintro e W1 ⟨rfl,hP1,hK1⟩
 go_wp2_with fail
 go_end0
 exact⟨rfl,hP1,HK2.o.trans hK1⟩
end
section
open Go.RowKit Go.IntWalk Lx Pz Go.Sort
variable {W w:World} {b:Nat}
theorem aMa {t:Tv}{out:List UInt8}(hP:Pb w W b t out)(hG:Gl w)(back co x y:Int)(h0:-9223372036854775808<=back/\back<=9223372036854775807)(h1:-9223372036854775808<=x/\x<=9223372036854775807)(h2:-9223372036854775808<=y/\y<=9223372036854775807)
  (hb:(back==0)=true) (hc:(co==2)=false) (hlen:out.length+(vL ⟨3,0,0,0,0,back,co,x,y⟩).length<=1099511627776) :
  Calls Tryz.prog 214 #[ptr b,.agg (rQ back co x y)] W fun e W'=>e=.returned (.tuple #[])/\Pb w W' b t (out++vL ⟨3,0,0,0,0,back,co,x,y⟩)/\Kp SP W W':=by
 have HX0:=aA (aB.new W 135 (rQ back co x y))
 have HP0:=aA (hP.later (aD W (.cells (rQ back co x y) 135)))
 have HK0:=aA (Kp.of_below SP (aD W (.cells (rQ back co x y) 135)))
 have HG:=aA hG
 have HB0:=aA h0
 have HB1:=aA h1
 have HB2:=aA h2
 have hb2:back=0:=by simpa using hb
 have hc2:¬co=2:=by simpa using hc
 have HT:=aA (show out++vL ⟨3,0,0,0,0,back,co,x,y⟩=(((out++bs ⟨#[112,40]⟩)++Lib.itoa x)++[UInt8.ofNat 41]) by simp[vL,hb2,hc2,bs])
 have HL:=aA (show ((((out++bs ⟨#[112,40]⟩)++Lib.itoa x)++[UInt8.ofNat 41])).length<=1099511627776 by rw[<-HT.o,lLa];exact hlen)
 clear hP hG h0 h1 h2 hlen hb2 hc2
 obtain⟨c0,c1,c2,c3⟩:=aX HX0.o
 go_enter Tryz.func214,Tryz.ntmps214
 go_wp2_with fail
 refine(aY HP0.o _ (by have:=HL.o;simp[bs] at this ⊢;omega)).mono ?_
 rintro e W1 ⟨rfl,hP,hK⟩
 have HP1:=aA hP
 have HX1:=aA (HX0.o.kp hK (by decide))
 have HK1:=aA (HK0.o.trans hK)
 clear HP0 HX0 HK0 hP hK c0 c1 c2 c3
 obtain⟨c0,c1,c2,c3⟩:=aX HX1.o
 go_wp2_with fail
 refine(eT HP1.o HG.o _ HB1.o.1 HB1.o.2 (by have:=HL.o;simp[bs] at this ⊢;omega)).mono ?_
 rintro e W2 ⟨rfl,hP,hK⟩
 have HP2:=aA hP
 have HX2:=aA (HX1.o.kp hK (by decide))
 have HK2:=aA (HK1.o.trans hK)
 clear HP1 HX1 HK1 hP hK c0 c1 c2 c3
 obtain⟨c0,c1,c2,c3⟩:=aX HX2.o
 go_wp2_with fail
 refine(aT HP2.o 41 (by decide) (by have:=HL.o;simp[bs] at this ⊢;omega)).mono ?_
 rintro e W3 ⟨rfl,hP,hK⟩
 have HP3:=aA hP
 have HX3:=aA (HX2.o.kp hK (by decide))
 have HK3:=aA (HK2.o.trans hK)
 clear HP2 HX2 HK2 hP hK c0 c1 c2 c3
 obtain⟨c0,c1,c2,c3⟩:=aX HX3.o
 go_wp2_with fail
 go_end0
 exact⟨rfl,HT.o ▸ HP3.o,HK3.o⟩
theorem aMb {t:Tv}{out:List UInt8}(hP:Pb w W b t out)(hG:Gl w)(back co x y:Int)(h0:-9223372036854775808<=back/\back<=9223372036854775807)(h1:-9223372036854775808<=x/\x<=9223372036854775807)(h2:-9223372036854775808<=y/\y<=9223372036854775807)
  (hb:(back==0)=true) (hc:(co==2)=true) (hlen:out.length+(vL ⟨3,0,0,0,0,back,co,x,y⟩).length<=1099511627776) :
  Calls Tryz.prog 214 #[ptr b,.agg (rQ back co x y)] W fun e W'=>e=.returned (.tuple #[])/\Pb w W' b t (out++vL ⟨3,0,0,0,0,back,co,x,y⟩)/\Kp SP W W':=by
 have HX0:=aA (aB.new W 135 (rQ back co x y))
 have HP0:=aA (hP.later (aD W (.cells (rQ back co x y) 135)))
 have HK0:=aA (Kp.of_below SP (aD W (.cells (rQ back co x y) 135)))
 have HG:=aA hG
 have HB0:=aA h0
 have HB1:=aA h1
 have HB2:=aA h2
 have hb2:back=0:=by simpa using hb
 have hc2:co=2:=by simpa using hc
 have HT:=aA (show out++vL ⟨3,0,0,0,0,back,co,x,y⟩=(((((out++bs ⟨#[112,40]⟩)++Lib.itoa x)++[UInt8.ofNat 44])++Lib.itoa y)++[UInt8.ofNat 41]) by simp[vL,hb2,hc2,bs])
 have HL:=aA (show ((((((out++bs ⟨#[112,40]⟩)++Lib.itoa x)++[UInt8.ofNat 44])++Lib.itoa y)++[UInt8.ofNat 41])).length<=1099511627776 by rw[<-HT.o,lLa];exact hlen)
 clear hP hG h0 h1 h2 hlen hb2 hc2
 obtain⟨c0,c1,c2,c3⟩:=aX HX0.o
 go_enter Tryz.func214,Tryz.ntmps214
 go_wp2_with fail
 refine(aY HP0.o _ (by have:=HL.o;simp[bs] at this ⊢;omega)).mono ?_
 rintro e W1 ⟨rfl,hP,hK⟩
 have HP1:=aA hP
 have HX1:=aA (HX0.o.kp hK (by decide))
 have HK1:=aA (HK0.o.trans hK)
 clear HP0 HX0 HK0 hP hK c0 c1 c2 c3
 obtain⟨c0,c1,c2,c3⟩:=aX HX1.o
 go_wp2_with fail
 refine(eT HP1.o HG.o _ HB1.o.1 HB1.o.2 (by have:=HL.o;simp[bs] at this ⊢;omega)).mono ?_
 rintro e W2 ⟨rfl,hP,hK⟩
 have HP2:=aA hP
 have HX2:=aA (HX1.o.kp hK (by decide))
 have HK2:=aA (HK1.o.trans hK)
 clear HP1 HX1 HK1 hP hK c0 c1 c2 c3
 obtain⟨c0,c1,c2,c3⟩:=aX HX2.o
 go_wp2_with fail
 refine(aT HP2.o 44 (by decide) (by have:=HL.o;simp[bs] at this ⊢;omega)).mono ?_
 rintro e W3 ⟨rfl,hP,hK⟩
 have HP3:=aA hP
 have HX3:=aA (HX2.o.kp hK (by decide))
 have HK3:=aA (HK2.o.trans hK)
 clear HP2 HX2 HK2 hP hK c0 c1 c2 c3
 obtain⟨c0,c1,c2,c3⟩:=aX HX3.o
 go_wp2_with fail
 refine(eT HP3.o HG.o _ HB2.o.1 HB2.o.2 (by have:=HL.o;simp[bs] at this ⊢;omega)).mono ?_
 rintro e W4 ⟨rfl,hP,hK⟩
 have HP4:=aA hP
 have HX4:=aA (HX3.o.kp hK (by decide))
 have HK4:=aA (HK3.o.trans hK)
 clear HP3 HX3 HK3 hP hK c0 c1 c2 c3
 obtain⟨c0,c1,c2,c3⟩:=aX HX4.o
 go_wp2_with fail
 refine(aT HP4.o 41 (by decide) (by have:=HL.o;simp[bs] at this ⊢;omega)).mono ?_
 rintro e W5 ⟨rfl,hP,hK⟩
 have HP5:=aA hP
 have HX5:=aA (HX4.o.kp hK (by decide))
 have HK5:=aA (HK4.o.trans hK)
 clear HP4 HX4 HK4 hP hK c0 c1 c2 c3
 obtain⟨c0,c1,c2,c3⟩:=aX HX5.o
 go_wp2_with fail
 go_end0
 exact⟨rfl,HT.o ▸ HP5.o,HK5.o⟩
theorem aMc {t:Tv}{out:List UInt8}(hP:Pb w W b t out)(hG:Gl w)(back co x y:Int)(h0:-9223372036854775808<=back/\back<=9223372036854775807)(h1:-9223372036854775808<=x/\x<=9223372036854775807)(h2:-9223372036854775808<=y/\y<=9223372036854775807)
  (hb:(back==0)=false) (hc:(co==2)=false) (hlen:out.length+(vL ⟨3,0,0,0,0,back,co,x,y⟩).length<=1099511627776) :
  Calls Tryz.prog 214 #[ptr b,.agg (rQ back co x y)] W fun e W'=>e=.returned (.tuple #[])/\Pb w W' b t (out++vL ⟨3,0,0,0,0,back,co,x,y⟩)/\Kp SP W W':=by
 have HX0:=aA (aB.new W 135 (rQ back co x y))
 have HP0:=aA (hP.later (aD W (.cells (rQ back co x y) 135)))
 have HK0:=aA (Kp.of_below SP (aD W (.cells (rQ back co x y) 135)))
 have HG:=aA hG
 have HB0:=aA h0
 have HB1:=aA h1
 have HB2:=aA h2
 have hb2:¬back=0:=by simpa using hb
 have hc2:¬co=2:=by simpa using hc
 have HT:=aA (show out++vL ⟨3,0,0,0,0,back,co,x,y⟩=(((((out++bs ⟨#[113,40]⟩)++Lib.itoa back)++[UInt8.ofNat 44])++Lib.itoa x)++[UInt8.ofNat 41]) by simp[vL,hb2,hc2,bs])
 have HL:=aA (show ((((((out++bs ⟨#[113,40]⟩)++Lib.itoa back)++[UInt8.ofNat 44])++Lib.itoa x)++[UInt8.ofNat 41])).length<=1099511627776 by rw[<-HT.o,lLa];exact hlen)
 clear hP hG h0 h1 h2 hlen hb2 hc2
 obtain⟨c0,c1,c2,c3⟩:=aX HX0.o
 go_enter Tryz.func214,Tryz.ntmps214
 go_wp2_with fail
 refine(aY HP0.o _ (by have:=HL.o;simp[bs] at this ⊢;omega)).mono ?_
 rintro e W1 ⟨rfl,hP,hK⟩
 have HP1:=aA hP
 have HX1:=aA (HX0.o.kp hK (by decide))
 have HK1:=aA (HK0.o.trans hK)
 clear HP0 HX0 HK0 hP hK c0 c1 c2 c3
 obtain⟨c0,c1,c2,c3⟩:=aX HX1.o
 go_wp2_with fail
 refine(eT HP1.o HG.o _ HB0.o.1 HB0.o.2 (by have:=HL.o;simp[bs] at this ⊢;omega)).mono ?_
 rintro e W2 ⟨rfl,hP,hK⟩
 have HP2:=aA hP
 have HX2:=aA (HX1.o.kp hK (by decide))
 have HK2:=aA (HK1.o.trans hK)
 clear HP1 HX1 HK1 hP hK c0 c1 c2 c3
 obtain⟨c0,c1,c2,c3⟩:=aX HX2.o
 go_wp2_with fail
 refine(aT HP2.o 44 (by decide) (by have:=HL.o;simp[bs] at this ⊢;omega)).mono ?_
 rintro e W3 ⟨rfl,hP,hK⟩
 have HP3:=aA hP
 have HX3:=aA (HX2.o.kp hK (by decide))
 have HK3:=aA (HK2.o.trans hK)
 clear HP2 HX2 HK2 hP hK c0 c1 c2 c3
 obtain⟨c0,c1,c2,c3⟩:=aX HX3.o
 go_wp2_with fail
 refine(eT HP3.o HG.o _ HB1.o.1 HB1.o.2 (by have:=HL.o;simp[bs] at this ⊢;omega)).mono ?_
 rintro e W4 ⟨rfl,hP,hK⟩
 have HP4:=aA hP
 have HX4:=aA (HX3.o.kp hK (by decide))
 have HK4:=aA (HK3.o.trans hK)
 clear HP3 HX3 HK3 hP hK c0 c1 c2 c3
 obtain⟨c0,c1,c2,c3⟩:=aX HX4.o
 go_wp2_with fail
 refine(aT HP4.o 41 (by decide) (by have:=HL.o;simp[bs] at this ⊢;omega)).mono ?_
 rintro e W5 ⟨rfl,hP,hK⟩
 have HP5:=aA hP
 have HX5:=aA (HX4.o.kp hK (by decide))
 have HK5:=aA (HK4.o.trans hK)
 clear HP4 HX4 HK4 hP hK c0 c1 c2 c3
 obtain⟨c0,c1,c2,c3⟩:=aX HX5.o
 go_wp2_with fail
 go_end0
 exact⟨rfl,HT.o ▸ HP5.o,HK5.o⟩
theorem aMd {t:Tv}{out:List UInt8}(hP:Pb w W b t out)(hG:Gl w)(back co x y:Int)(h0:-9223372036854775808<=back/\back<=9223372036854775807)(h1:-9223372036854775808<=x/\x<=9223372036854775807)(h2:-9223372036854775808<=y/\y<=9223372036854775807)
  (hb:(back==0)=false) (hc:(co==2)=true) (hlen:out.length+(vL ⟨3,0,0,0,0,back,co,x,y⟩).length<=1099511627776) :
  Calls Tryz.prog 214 #[ptr b,.agg (rQ back co x y)] W fun e W'=>e=.returned (.tuple #[])/\Pb w W' b t (out++vL ⟨3,0,0,0,0,back,co,x,y⟩)/\Kp SP W W':=by
 have HX0:=aA (aB.new W 135 (rQ back co x y))
 have HP0:=aA (hP.later (aD W (.cells (rQ back co x y) 135)))
 have HK0:=aA (Kp.of_below SP (aD W (.cells (rQ back co x y) 135)))
 have HG:=aA hG
 have HB0:=aA h0
 have HB1:=aA h1
 have HB2:=aA h2
 have hb2:¬back=0:=by simpa using hb
 have hc2:co=2:=by simpa using hc
 have HT:=aA (show out++vL ⟨3,0,0,0,0,back,co,x,y⟩=(((((((out++bs ⟨#[113,40]⟩)++Lib.itoa back)++[UInt8.ofNat 44])++Lib.itoa x)++[UInt8.ofNat 44])++Lib.itoa y)++[UInt8.ofNat 41]) by simp[vL,hb2,hc2,bs])
 have HL:=aA (show ((((((((out++bs ⟨#[113,40]⟩)++Lib.itoa back)++[UInt8.ofNat 44])++Lib.itoa x)++[UInt8.ofNat 44])++Lib.itoa y)++[UInt8.ofNat 41])).length<=1099511627776 by rw[<-HT.o,lLa];exact hlen)
 clear hP hG h0 h1 h2 hlen hb2 hc2
 obtain⟨c0,c1,c2,c3⟩:=aX HX0.o
 go_enter Tryz.func214,Tryz.ntmps214
 go_wp2_with fail
 refine(aY HP0.o _ (by have:=HL.o;simp[bs] at this ⊢;omega)).mono ?_
 rintro e W1 ⟨rfl,hP,hK⟩
 have HP1:=aA hP
 have HX1:=aA (HX0.o.kp hK (by decide))
 have HK1:=aA (HK0.o.trans hK)
 clear HP0 HX0 HK0 hP hK c0 c1 c2 c3
 obtain⟨c0,c1,c2,c3⟩:=aX HX1.o
 go_wp2_with fail
 refine(eT HP1.o HG.o _ HB0.o.1 HB0.o.2 (by have:=HL.o;simp[bs] at this ⊢;omega)).mono ?_
 rintro e W2 ⟨rfl,hP,hK⟩
 have HP2:=aA hP
 have HX2:=aA (HX1.o.kp hK (by decide))
 have HK2:=aA (HK1.o.trans hK)
 clear HP1 HX1 HK1 hP hK c0 c1 c2 c3
 obtain⟨c0,c1,c2,c3⟩:=aX HX2.o
 go_wp2_with fail
 refine(aT HP2.o 44 (by decide) (by have:=HL.o;simp[bs] at this ⊢;omega)).mono ?_
 rintro e W3 ⟨rfl,hP,hK⟩
 have HP3:=aA hP
 have HX3:=aA (HX2.o.kp hK (by decide))
 have HK3:=aA (HK2.o.trans hK)
 clear HP2 HX2 HK2 hP hK c0 c1 c2 c3
 obtain⟨c0,c1,c2,c3⟩:=aX HX3.o
 go_wp2_with fail
 refine(eT HP3.o HG.o _ HB1.o.1 HB1.o.2 (by have:=HL.o;simp[bs] at this ⊢;omega)).mono ?_
 rintro e W4 ⟨rfl,hP,hK⟩
 have HP4:=aA hP
 have HX4:=aA (HX3.o.kp hK (by decide))
 have HK4:=aA (HK3.o.trans hK)
 clear HP3 HX3 HK3 hP hK c0 c1 c2 c3
 obtain⟨c0,c1,c2,c3⟩:=aX HX4.o
 go_wp2_with fail
 refine(aT HP4.o 44 (by decide) (by have:=HL.o;simp[bs] at this ⊢;omega)).mono ?_
 rintro e W5 ⟨rfl,hP,hK⟩
 have HP5:=aA hP
 have HX5:=aA (HX4.o.kp hK (by decide))
 have HK5:=aA (HK4.o.trans hK)
 clear HP4 HX4 HK4 hP hK c0 c1 c2 c3
 obtain⟨c0,c1,c2,c3⟩:=aX HX5.o
 go_wp2_with fail
 refine(eT HP5.o HG.o _ HB2.o.1 HB2.o.2 (by have:=HL.o;simp[bs] at this ⊢;omega)).mono ?_
 rintro e W6 ⟨rfl,hP,hK⟩
 have HP6:=aA hP
 have HX6:=aA (HX5.o.kp hK (by decide))
 have HK6:=aA (HK5.o.trans hK)
 clear HP5 HX5 HK5 hP hK c0 c1 c2 c3
 obtain⟨c0,c1,c2,c3⟩:=aX HX6.o
 go_wp2_with fail
 refine(aT HP6.o 41 (by decide) (by have:=HL.o;simp[bs] at this ⊢;omega)).mono ?_
 rintro e W7 ⟨rfl,hP,hK⟩
 have HP7:=aA hP
 have HX7:=aA (HX6.o.kp hK (by decide))
 have HK7:=aA (HK6.o.trans hK)
 clear HP6 HX6 HK6 hP hK c0 c1 c2 c3
 obtain⟨c0,c1,c2,c3⟩:=aX HX7.o
 go_wp2_with fail
 go_end0
 exact⟨rfl,HT.o ▸ HP7.o,HK7.o⟩
theorem aIf {t:Tv}{out:List UInt8}(hP:Pb w W b t out)(hG:Gl w)(n:Nd)(h0:-9223372036854775808<=n.back/\n.back<=9223372036854775807)(h1:-9223372036854775808<=n.x/\n.x<=9223372036854775807)(h2:-9223372036854775808<=n.y/\n.y<=9223372036854775807)
  (hlen:out.length+(vL n).length<=1099511627776) :
  Calls Tryz.prog 214 #[ptr b,.agg (rQ n.back n.co n.x n.y)] W fun e W'=>e=.returned (.tuple #[])/\Pb w W' b t (out++vL n)/\Kp SP W W':=by
 have e:vL n=vL ⟨3,0,0,0,0,n.back,n.co,n.x,n.y⟩:=rfl
 rw[e] at hlen ⊢
 cases hb:(n.back==0) <;> cases hc:(n.co==2)
 ·exact aMc hP hG _ _ _ _ h0 h1 h2 hb hc hlen
 ·exact aMd hP hG _ _ _ _ h0 h1 h2 hb hc hlen
 ·exact aMa hP hG _ _ _ _ h0 h1 h2 hb hc hlen
 ·exact aMb hP hG _ _ _ _ h0 h1 h2 hb hc hlen
end
section
open Go.RowKit Go.IntWalk Lx Pz Go.Sort
structure Env (w:World)(t:Tv)(NM:List aM)(BS:List Int)(NS:List Nd)(root:Int):Prop where
 names:∃ na nl nc,t.nv=.slice na nl nc/\Tx w na nl nc NM
 binds:∃ ba bl bc,t.bv=.slice ba bl bc/\Iz w ba bl bc BS
 nodes:∃ da dl dc,t.dv=.slice da dl dc/\Nz w da dl dc NS
 root:t.rv=.i root
 gl:Gl w
 few:NS.length<=1024
def wJ:E->Int
 | .leaf n=>n.op
 | .un o _=>o
 | .bin o _ _=>o
 | .tri o _ _ _=>o
theorem bBt (e:E):rkE e=ork (wJ e):=by cases e <;> rfl
theorem aTl {NS:List Nd}{e:E}{i:Nat}(h:dK NS e i):∃ n,NS[i]?=some n/\n.op=wJ e:=by
 cases e with
 | leaf n=>exact⟨n,h,rfl⟩
 | un o a=>obtain⟨p,h,-⟩:=h;exact⟨_,h,rfl⟩
 | bin o a b=>obtain⟨p,q,h,-⟩:=h;exact⟨_,h,rfl⟩
 | tri o a b c=>obtain⟨p,q,r,h,-⟩:=h;exact⟨_,h,rfl⟩
def dM (w:World)(t:Tv)(b:Nat)(nm:List aM)(NS:List Nd)(e:E):Prop :=
 ∀(W:World) (out:List UInt8) (i:Nat),Pb w W b t out->dK NS e i->out.length+(dI nm e).length<=1099511627776 ->
  Calls Tryz.prog 141 #[ptr b,.i i] W fun r W'=>r=.returned (.tuple #[])/\Pb w W' b t (out++dI nm e)/\Kp SP W W'
theorem Env.node {w W:World}{t:Tv}{NM:List aM}{BS:List Int}{NS:List Nd}{root:Int}{b:Nat}{out:List UInt8}(h:Env w t NM BS NS root)(hP:Pb w W b t out){i:Nat}{n:Nd}(hi:NS[i]?=some n) :
  ∃ g off dl dc,t.dv=.slice (some ⟨g,off,none⟩) dl dc/\i < dl/\dl<=1024/\dl<=dc/\at9 W g (off+i*9) n/\g < W.heap.size:=by
 obtain⟨da,dl,dc,h1,h2⟩:=h.nodes
 have hlt:i < NS.length:=(List.getElem?_eq_some_iff.1 hi).1
 have hl:=h2.len
 have hf:=h.few
 obtain⟨g,off,rfl,hc⟩:=(h2.later hP.old).at (by omega)
 refine⟨g,off,dl,dc,h1,by omega,by omega,h2.le,?_⟩
 have:=hc i (by omega)
 rw[gdE,hi] at this
 exact⟨this,wBl W _ this.1⟩
theorem rO {w:World}{t:Tv}{NM:List aM}{BS:List Int}{NS:List Nd}{root:Int}{b:Nat}(hE:Env w t NM BS NS root){e:E}(hN:dM w t b NM NS e)(ho:1<=wJ e/\wJ e<=28)(c:Nat)(hc:c<=9)
  (W:World) (out:List UInt8) (i:Nat) (hP:Pb w W b t out) (hL:dK NS e i) (hlen:out.length+(prp NM c e).length<=1099511627776) :
  Calls Tryz.prog 215 #[ptr b,.i i,.i c] W fun r W'=>r=.returned (.tuple #[])/\Pb w W' b t (out++prp NM c e)/\Kp SP W W':=by
 obtain⟨n,hi,hop⟩:=aTl hL
 obtain⟨g,off,dl,dc,hdv,hil,hdl,hdc,⟨c0,-⟩,hg⟩:=hE.node hP hi
 obtain⟨k,hk⟩:∃ k:Nat,wJ e=k:=⟨(wJ e).toNat,by omega⟩
 have hg1:=((hE.gl.later hP.old).ops k (by omega)).2
 have hrk:(oO.getD k ([],0)).2=rkE e:=by rw[bBt,hk];rfl
 rw[hrk] at hg1
 rw[hop,hk] at c0
 obtain⟨p,v,hp,hb,hown⟩:=hP.ex
 have c4:W.cell? ⟨b,4,none⟩=some t.dv:=hb.cell 4 rfl
 rw[hdv] at c4
 have HP:=aA hP
 have HL:=aA hL
 have hk28:k < 29:=by omega
 clear hp hb hown hP hL hop hi hdv
 by_cases hr:rkE e < c
 ·have hr2:¬c<=rkE e:=by omega
  have ht:prp NM c e=40::(dI NM e++[41]):=by unfold prp brk;rw[decide_eq_true hr];rfl
  have hlen':=aA (show out.length+(dI NM e).length+2<=1099511627776 by rw[ht] at hlen;simp at hlen;omega)
  have HT:=aA (show out++prp NM c e=((out++[UInt8.ofNat 40])++dI NM e)++[UInt8.ofNat 41] by rw[ht];simp)
  have HN:=aA hN
  clear hN hE hrk hlen ht
  generalize rkE e=rr at *
  go_enter Tryz.func215,Tryz.ntmps215
  go_wp2_with fail
  refine(aT HP.o 40 (by decide) (by have:=hlen'.o;omega)).mono ?_
  rintro e1 W1 ⟨rfl,hP1,hK1⟩
  have HP1:=aA hP1
  have HK1:=aA hK1
  clear hP1 hK1 HP c0 c4 hg1
  go_wp2_with fail
  refine(HN.o W1 _ i HP1.o HL.o (by have:=hlen'.o;simp;omega)).mono ?_
  rintro e1 W2 ⟨rfl,hP2,hK2⟩
  have HP2:=aA hP2
  have HK2:=aA (HK1.o.trans hK2)
  clear hP2 hK2 HP1
  go_wp2_with fail
  refine(aT HP2.o 41 (by decide) (by have:=hlen'.o;simp;omega)).mono ?_
  rintro e1 W3 ⟨rfl,hP3,hK3⟩
  have HP3:=aA hP3
  have HK3:=aA (HK2.o.trans hK3)
  clear hP3 hK3 HP2
  go_wp2_with fail
  go_end0
  exact⟨rfl,HT.o ▸ HP3.o,HK3.o⟩
 ·have hr2:c<=rkE e:=by omega
  have ht:prp NM c e=dI NM e:=by unfold prp brk;rw[decide_eq_false hr];rfl
  have hlen':=aA (show out.length+(dI NM e).length<=1099511627776 by rw[<-ht];exact hlen)
  rw[ht]
  have HN:=aA (hN W out i HP.o HL.o hlen'.o)
  clear hN hE hrk hlen ht
  generalize rkE e=rr at *
  go_enter Tryz.func215,Tryz.ntmps215
  go_wp2_with fail
  refine HN.o.mono ?_
  rintro e1 W1 ⟨rfl,hP1,hK1⟩
  have HP1:=aA hP1
  have HK1:=aA hK1
  clear hP1 hK1 HP c0 c4 hg1
  go_wp2_with fail
  refine bPr (results_none rfl _ _ _) rfl ?_
  exact⟨rfl,HP1.o,HK1.o⟩
end
open Go.RowKit Go.IntWalk Lx Pz Go.Sort
open Spn (aN)
theorem aGp {w:World}{t:Tv}{NM:List aM}{BS:List Int}{NS:List Nd}{root:Int}{b:Nat}(hE:Env w t NM BS NS root){x y z:E}(hx:dM w t b NM NS x)(hy:dM w t b NM NS y)(hz:dM w t b NM NS z)(ho:1<=wJ x/\wJ x<=28)
  (W:World) (out:List UInt8) (p q r:Nat) (hP:Pb w W b t out) (h1:dK NS x p) (h2:dK NS y q) (h3:dK NS z r) (hlen:out.length+(dI NM (.tri 28 x y z)).length<=1099511627776) :
  Calls Tryz.prog 217 #[ptr b,.agg (bH ⟨28,p,q,r,0,0,0,0,0⟩)] W fun e W'=>e=.returned (.tuple #[])/\Pb w W' b t (out++dI NM (.tri 28 x y z))/\Kp SP W W':=by
 have ht:dI NM (.tri 28 x y z)=prp NM 1 x++63::(dI NM y++58::dI NM z):=by simp[dI,prp]
 have HL:=aA (show out.length+(prp NM 1 x).length+(dI NM y).length+(dI NM z).length+2<=1099511627776 by rw[ht] at hlen;simp at hlen;omega)
 have HT:=aA (show out++dI NM (.tri 28 x y z)=((((out++prp NM 1 x)++[UInt8.ofNat 63])++dI NM y)++[UInt8.ofNat 58])++dI NM z by rw[ht];simp)
 have HX0:=aA (aB.new W 137 (bH ⟨28,p,q,r,0,0,0,0,0⟩))
 have HP0:=aA (hP.later (aD W (.cells (bH ⟨28,p,q,r,0,0,0,0,0⟩) 137)))
 have HK0:=aA (Kp.of_below SP (aD W (.cells (bH ⟨28,p,q,r,0,0,0,0,0⟩) 137)))
 have Hx:=aA (fun V o hV hl=>rO hE hx ho 1 (by decide) V o p hV h1 hl)
 have Hy:=aA (fun V o hV hl=>hy V o q hV h2 hl)
 have Hz:=aA (fun V o hV hl=>hz V o r hV h3 hl)
 clear hP hE hx hy hz ho h1 h2 h3 hlen ht
 obtain⟨c0,c1,c2,c3,-⟩:=HX0.o.nine
 simp only at c0 c1 c2 c3
 go_enter Tryz.func217,Tryz.ntmps217
 go_wp2_with fail
 refine(Hx.o _ _ HP0.o (by have:=HL.o;omega)).mono ?_
 rintro e W1 ⟨rfl,hP,hK⟩
 have HP1:=aA hP
 have HX1:=aA (HX0.o.kp hK (by decide))
 have HK1:=aA (HK0.o.trans hK)
 clear HP0 HX0 HK0 hP hK c0 c1 c2 c3
 obtain⟨c0,c1,c2,c3,-⟩:=HX1.o.nine
 simp only at c0 c1 c2 c3
 go_wp2_with fail
 refine(aT HP1.o 63 (by decide) (by have:=HL.o;simp;omega)).mono ?_
 rintro e W2 ⟨rfl,hP,hK⟩
 have HP2:=aA hP
 have HX2:=aA (HX1.o.kp hK (by decide))
 have HK2:=aA (HK1.o.trans hK)
 clear HP1 HX1 HK1 hP hK c0 c1 c2 c3
 obtain⟨c0,c1,c2,c3,-⟩:=HX2.o.nine
 simp only at c0 c1 c2 c3
 go_wp2_with fail
 refine(Hy.o _ _ HP2.o (by have:=HL.o;simp;omega)).mono ?_
 rintro e W3 ⟨rfl,hP,hK⟩
 have HP3:=aA hP
 have HX3:=aA (HX2.o.kp hK (by decide))
 have HK3:=aA (HK2.o.trans hK)
 clear HP2 HX2 HK2 hP hK c0 c1 c2 c3
 obtain⟨c0,c1,c2,c3,-⟩:=HX3.o.nine
 simp only at c0 c1 c2 c3
 go_wp2_with fail
 refine(aT HP3.o 58 (by decide) (by have:=HL.o;simp;omega)).mono ?_
 rintro e W4 ⟨rfl,hP,hK⟩
 have HP4:=aA hP
 have HX4:=aA (HX3.o.kp hK (by decide))
 have HK4:=aA (HK3.o.trans hK)
 clear HP3 HX3 HK3 hP hK c0 c1 c2 c3
 obtain⟨c0,c1,c2,c3,-⟩:=HX4.o.nine
 simp only at c0 c1 c2 c3
 go_wp2_with fail
 refine(Hz.o _ _ HP4.o (by have:=HL.o;simp;omega)).mono ?_
 rintro e W5 ⟨rfl,hP,hK⟩
 have HP5:=aA hP
 have HK5:=aA (HK4.o.trans hK)
 clear HP4 HX4 HK4 hP hK c0 c1 c2 c3
 go_wp2_with fail
 go_end0
 exact⟨rfl,HT.o ▸ HP5.o,HK5.o⟩
theorem aEb {w:World}{t:Tv}{NM:List aM}{BS:List Int}{NS:List Nd}{root:Int}{b:Nat}(hE:Env w t NM BS NS root){x y:E}(hx:dM w t b NM NS x)(hy:dM w t b NM NS y)(hox:1<=wJ x/\wJ x<=28)(hoy:1<=wJ y/\wJ y<=28)
  (k:Nat) (hk:8<=k/\k<=23)
  (W:World) (out:List UInt8) (p q:Nat) (hP:Pb w W b t out) (h1:dK NS x p) (h2:dK NS y q) (hlen:out.length+(dI NM (.bin k x y)).length<=1099511627776) :
  Calls Tryz.prog 218 #[ptr b,.agg (bH ⟨k,p,q,0,0,0,0,0,0⟩)] W fun e W'=>e=.returned (.tuple #[])/\Pb w W' b t (out++dI NM (.bin k x y))/\Kp SP W W':=by
 have ht:dI NM (.bin k x y)=prp NM (lfk k) x++(pG k++prp NM (ork k+1) y):=by simp only[dI,prp];rw[if_neg (by omega)]
 have h9:ork (k:Int)<=8:=by
  have:∀ j:Nat,j < 16->ork ((8+j:Nat):Int)<=8:=by decide
  have:=this (k-8) (by omega)
  rwa[show 8+(k-8)=k by omega] at this
 have hf:lfk (k:Int)<=9:=by unfold lfk;split <;> omega
 have HL:=aA (show out.length+(prp NM (lfk k) x).length+(bs (sB (pG k))).length+(prp NM (ork k+1) y).length<=1099511627776 by rw[ht] at hlen;rw[iB];simp at hlen;omega)
 have HT:=aA (show out++dI NM (.bin k x y)=((out++prp NM (lfk k) x)++bs (sB (pG k)))++prp NM (ork k+1) y by rw[ht,iB];simp)
 have HX0:=aA (aB.new W 137 (bH ⟨k,p,q,0,0,0,0,0,0⟩))
 have hP0:=hP.later (aD W (.cells (bH ⟨k,p,q,0,0,0,0,0,0⟩) 137))
 have HP0:=aA hP0
 have HK0:=aA (Kp.of_below SP (aD W (.cells (bH ⟨k,p,q,0,0,0,0,0,0⟩) 137)))
 obtain⟨g0,g1⟩:=(hE.gl.later hP0.old).ops k (by omega)
 rw[show (oO.getD k ([],0)).1=pG k from rfl] at g0
 rw[show (oO.getD k ([],0)).2=ork k from rfl] at g1
 have Hx:=aA (fun V o hV hl=>rO hE hx hox (lfk k) hf V o p hV h1 hl)
 have Hy:=aA (fun V o hV hl=>rO hE hy hoy (ork k+1) (by omega) V o q hV h2 hl)
 have hk28:k < 29:=by omega
 have hlf:=aA (show lfk (k:Int)=if ork (k:Int)=4 then 5 else ork (k:Int) from rfl)
 clear hP hP0 hE hx hy hox hoy h1 h2 hlen ht hf
 generalize pG (k:Int)=ot at *
 generalize ork (k:Int)=ok at *
 generalize lfk (k:Int)=fk at *
 have HR1:=aA (aB.new (W.alloc (.cells (bH ⟨k,p,q,0,0,0,0,0,0⟩) 137)) 330 #[.string (sB ot),.i ok])
 have HX1:=aA (HX0.o.alloc (.cells #[.string (sB ot),.i ok] 330))
 have HP1:=aA (HP0.o.later (aD _ (.cells #[.string (sB ot),.i ok] 330)))
 have HK1:=aA (HK0.o.trans (Kp.of_below SP (aD _ (.cells #[.string (sB ot),.i ok] 330))))
 obtain⟨c0,-⟩:=HX0.o.nine
 obtain⟨-,c1,c2,-⟩:=HX1.o.nine
 have d0:=HR1.o.cell 0 rfl
 have d1:=HR1.o.cell 1 rfl
 simp only[wSa] at c0 c1 c2 d0 d1 HR1
 clear HX0 HP0 HK0
 by_cases h4:ok=4
 ·subst h4
  obtain rfl:fk=5:=hlf.o
  clear hlf
  go_enter Tryz.func218,Tryz.ntmps218
  go_wp2_with fail
  refine(Hx.o _ _ HP1.o (by have:=HL.o;omega)).mono ?_
  rintro e W2 ⟨rfl,hP,hK⟩
  have HP2:=aA hP
  have HX2:=aA (HX1.o.kp hK (by decide))
  have HR2:=aA (HR1.o.kp hK (by decide))
  have HK2:=aA (HK1.o.trans hK)
  clear HP1 HX1 HR1 HK1 hP hK c0 c1 c2 d0 d1 g0 g1
  have e0:=fun dd os=>cell_regrown (HR2.o.cell 0 rfl) dd os
  go_wp2_with fail
  refine aN (hf:=(List.dropLast_concat_getLast (by simp)).symm) vG (by kernel_rfl) rfl (by kernel_rfl) (by kernel_rfl) (by kernel_rfl) (by kernel_rfl) (by kernel_rfl) ?_
  simp only[List.dropLast_cons_cons,List.dropLast_singleton,List.getLast_cons_cons,List.getLast_singleton]
  repeat (go_big_quiet_step (fail))
  refine wpQuiet_nil ?_
  intro _ hw'
  obtain⟨pq,hw''⟩:=hw'
  subst hw''
  have hb2:=below_regrown W2 pq.d pq.os
  have HP3:=aA (HP2.o.later hb2)
  have HX3:=aA (HX2.o.below hb2)
  have HR3:=aA (HR2.o.below hb2)
  have HK3:=aA (HK2.o.trans (Kp.of_below SP hb2))
  clear HP2 HX2 HR2 HK2 hb2 e0
  generalize grow (redrawn W2 pq.d) pq.os=G at *
  go_wp2_with fail
  refine(aY HP3.o _ (by have:=HL.o;simp only[lLa];omega)).mono ?_
  rintro e W4 ⟨rfl,hP,hK⟩
  have HP4:=aA hP
  have HX4:=aA (HX3.o.kp hK (by decide))
  have HR4:=aA (HR3.o.kp hK (by decide))
  have HK4:=aA (HK3.o.trans hK)
  clear HP3 HX3 HR3 HK3 hP hK
  obtain⟨c0,c1,c2,-⟩:=HX4.o.nine
  have d1:=HR4.o.cell 1 rfl
  simp only at c0 c1 c2 d1
  go_wp2_with fail
  refine(Hy.o _ _ HP4.o (by have:=HL.o;simp only[lLa];omega)).mono ?_
  rintro e W5 ⟨rfl,hP,hK⟩
  have HP5:=aA hP
  have HK5:=aA (HK4.o.trans hK)
  clear HP4 HX4 HR4 HK4 hP hK c0 c1 c2 d1
  go_wp2_with fail
  go_end0
  exact⟨rfl,HT.o ▸ HP5.o,HK5.o⟩
 ·have h4b:((ok:Int)==4)=false:=by simp;omega
  obtain rfl:fk=ok:=by rw[hlf.o,if_neg h4]
  clear hlf h4
  go_enter Tryz.func218,Tryz.ntmps218
  go_wp2_with fail
  refine(Hx.o _ _ HP1.o (by have:=HL.o;omega)).mono ?_
  rintro e W2 ⟨rfl,hP,hK⟩
  have HP2:=aA hP
  have HX2:=aA (HX1.o.kp hK (by decide))
  have HR2:=aA (HR1.o.kp hK (by decide))
  have HK2:=aA (HK1.o.trans hK)
  clear HP1 HX1 HR1 HK1 hP hK c0 c1 c2 d0 d1 g0 g1
  have e0:=fun dd os=>cell_regrown (HR2.o.cell 0 rfl) dd os
  go_wp2_with fail
  refine aN (hf:=(List.dropLast_concat_getLast (by simp)).symm) vG (by kernel_rfl) rfl (by kernel_rfl) (by kernel_rfl) (by kernel_rfl) (by kernel_rfl) (by kernel_rfl) ?_
  simp only[List.dropLast_cons_cons,List.dropLast_singleton,List.getLast_cons_cons,List.getLast_singleton]
  repeat (go_big_quiet_step (fail))
  refine wpQuiet_nil ?_
  intro _ hw'
  obtain⟨pq,hw''⟩:=hw'
  subst hw''
  have hb2:=below_regrown W2 pq.d pq.os
  have HP3:=aA (HP2.o.later hb2)
  have HX3:=aA (HX2.o.below hb2)
  have HR3:=aA (HR2.o.below hb2)
  have HK3:=aA (HK2.o.trans (Kp.of_below SP hb2))
  clear HP2 HX2 HR2 HK2 hb2 e0
  generalize grow (redrawn W2 pq.d) pq.os=G at *
  go_wp2_with fail
  refine(aY HP3.o _ (by have:=HL.o;simp only[lLa];omega)).mono ?_
  rintro e W4 ⟨rfl,hP,hK⟩
  have HP4:=aA hP
  have HX4:=aA (HX3.o.kp hK (by decide))
  have HR4:=aA (HR3.o.kp hK (by decide))
  have HK4:=aA (HK3.o.trans hK)
  clear HP3 HX3 HR3 HK3 hP hK
  obtain⟨c0,c1,c2,-⟩:=HX4.o.nine
  have d1:=HR4.o.cell 1 rfl
  simp only at c0 c1 c2 d1
  go_wp2_with fail
  refine(Hy.o _ _ HP4.o (by have:=HL.o;simp only[lLa];omega)).mono ?_
  rintro e W5 ⟨rfl,hP,hK⟩
  have HP5:=aA hP
  have HK5:=aA (HK4.o.trans hK)
  clear HP4 HX4 HR4 HK4 hP hK c0 c1 c2 d1
  go_wp2_with fail
  go_end0
  exact⟨rfl,HT.o ▸ HP5.o,HK5.o⟩
def z0:E:=.leaf n0
def jn (NM:List aM)(es:List E)(k:Nat):aM:=(List.range k).flatMap fun j=>(if j=0 then[] else[44])++dI NM (es.getD j z0)
theorem aTj (NM:List aM)(es:List E):jn NM es 0=[]:=rfl
theorem aCy (NM:List aM)(es:List E)(k:Nat):jn NM es (k+1)=jn NM es k++((if k=0 then[] else[44])++dI NM (es.getD k z0)):=by simp[jn,List.range_succ]
theorem aTi (NM:List aM)(es:List E){k n:Nat}(h:k<=n):(jn NM es k).length<=(jn NM es n).length:=by
 induction n with
 | zero=>rw[show k=0 by omega];exact nLr _
 | succ n ih =>
  by_cases e:k=n+1
  ·rw[e];exact nLr _
  ·rw[aCy,lLa];have:=ih (by omega);omega
theorem kV {w:World}{t:Tv}{NM:List aM}{BS:List Int}{NS:List Nd}{root:Int}{b:Nat}(hE:Env w t NM BS NS root)(es:List E)(ps:List Nat)(n:Nat)(hn:n<=3)(hN:∀ j,j < n->dM w t b NM NS (es.getD j z0))(hps:∀ j,j < n->dK NS (es.getD j z0) (ps.getD j 0))
  (k:Nat) (hk:k < 29) (W:World) (out:List UInt8) (hP:Pb w W b t out) (q0:Nat) (cs:Array Value) (hQ:aB W q0 3 cs) (hcs:∀ j,j < n->cs[j]?=some (.i (ps.getD j 0:Nat))) (hlen:out.length+(pG k).length+(jn NM es n).length+2<=1099511627776) :
  Calls Tryz.prog 216 #[ptr b,.i k,.slice (some ⟨q0,0,none⟩) n n] W fun e W'=>e=.returned (.tuple #[])/\Pb w W' b t (out++(pG k++40::(jn NM es n++[41])))/\Kp SP W W':=by
 have HL:=aA (show out.length+(bs (sB (pG k))).length+(jn NM es n).length+2<=1099511627776 from hlen)
 have HT:=aA (show out++(pG k++40::(jn NM es n++[41]))=(((out++bs (sB (pG k)))++[UInt8.ofNat 40])++jn NM es n)++[UInt8.ofNat 41] by rw[iB];simp)
 obtain⟨g0,-⟩:=(hE.gl.later hP.old).ops k hk
 rw[show (oO.getD k ([],0)).1=pG k from rfl] at g0
 have e0:=fun dd os=>cell_regrown g0 dd os
 have HP0:=aA hP
 have HQ0:=aA hQ
 have HN:=aA hN
 have HPS:=aA hps
 have HCS:=aA hcs
 clear hP hQ hN hps hcs hlen hE g0
 generalize pG (k:Int)=ot at *
 go_enter Tryz.func216,Tryz.ntmps216
 go_wp2_with fail
 refine aN (hf:=(List.dropLast_concat_getLast (by simp)).symm) vG (by kernel_rfl) rfl (by kernel_rfl) (by kernel_rfl) (by kernel_rfl) (by kernel_rfl) (by kernel_rfl) ?_
 simp only[List.dropLast_cons_cons,List.dropLast_singleton,List.getLast_cons_cons,List.getLast_singleton]
 repeat (go_big_quiet_step (fail))
 refine wpQuiet_nil ?_
 intro _ hw'
 obtain⟨pq,hw''⟩:=hw'
 subst hw''
 have hb2:=below_regrown W pq.d pq.os
 have HP1:=aA (HP0.o.later hb2)
 have HQ1:=aA (HQ0.o.below hb2)
 have HK1:=aA (Kp.of_below SP hb2)
 clear HP0 HQ0 hb2 e0
 generalize grow (redrawn W pq.d) pq.os=G at *
 go_wp2_with fail
 refine(aY HP1.o _ (by have:=HL.o;omega)).mono ?_
 rintro e W2 ⟨rfl,hP,hK⟩
 have HP2:=aA hP
 have HQ2:=aA (HQ1.o.kp hK (by decide))
 have HK2:=aA (HK1.o.trans hK)
 clear HP1 HQ1 HK1 hP hK
 go_wp2_with fail
 refine(aT HP2.o 40 (by decide) (by have:=HL.o;simp only[lLa];omega)).mono ?_
 rintro e W3 ⟨rfl,hP,hK⟩
 have HP3:=aA hP
 have HQ3:=aA (HQ2.o.kp hK (by decide))
 have HK3:=aA (HK2.o.trans hK)
 clear HP2 HQ2 HK2 hP hK
 have HL2:=aA (show ((out++bs (sB ot))++[UInt8.ofNat 40]).length+(jn NM es n).length+1<=1099511627776 by have:=HL.o;simp only[lLa,lLc,lLn];omega)
 generalize (out++bs (sB ot))++[UInt8.ofNat 40]=o1 at *
 clear HL
 go_wp2_with fail
 go_loopw [22] (fun i wr=>∃ k:Nat,k<=n/\i=.i k/\Hid (Pb w wr b t (o1++jn NM es k))/\Hid (aB wr q0 3 cs)/\Hid (Kp SP W wr)) (fun i _=>n-(intOf i).toNat)
 case atStart=>exact⟨0,nZl _,rfl,aA (by rw[aTj,List.append_nil];exact HP3.o),HQ3,HK3⟩
 case round =>
  obtain⟨j,hj,rfl,HPj,HQj,HKj⟩:=hrel
  rename World=>V
  clear HP3 HQ3 HK3
  by_cases hlt:j < n
  ·have c0:=HQj.o.cell j (HCS.o j hlt)
   have HNj:=aA (HN.o j hlt)
   have HLj:=aA (HPS.o j hlt)
   have hm:=aTi NM es (show j+1<=n from hlt)
   rw[aCy] at hm
   have HM:=aA hm
   have HJ:=aA (aCy NM es j)
   clear hm
   generalize ps.getD j 0=pj at *
   generalize es.getD j z0=ej at *
   have hj1:(j:Int) < n:=by omega
   by_cases h0:j=0
   ·subst h0
    rw[if_pos rfl,List.nil_append] at HJ HM
    go_wp2_with fail
    refine(HNj.o V _ pj HPj.o HLj.o (by have:=HL2.o;have:=HM.o;simp only[lLa] at *;omega)).mono ?_
    rintro e V1 ⟨rfl,hP,hK⟩
    rw[lAa,<-HJ.o] at hP
    have HP4:=aA hP
    have HQ4:=aA (HQj.o.kp hK (by decide))
    have HK4:=aA (HKj.o.trans hK)
    clear hP hK
    go_wp2_with fail
    go_roundw
    case rel=>exact⟨0+1,by omega,by go_num,HP4,HQ4,HK4⟩
    case measure=>simp[intOf];omega
   ·rw[if_neg h0] at HJ HM
    have h01:(0:Int) < j:=by omega
    go_wp2_with fail
    refine(aT HPj.o 44 (by decide) (by have:=HL2.o;have:=HM.o;simp only[lLa,lLc,lLn] at *;omega)).mono ?_
    rintro e V0 ⟨rfl,hP,hK⟩
    have HP4:=aA hP
    have HQ4:=aA (HQj.o.kp hK (by decide))
    have HK4:=aA (HKj.o.trans hK)
    clear hP hK c0
    go_wp2_with fail
    refine(HNj.o V0 _ pj HP4.o HLj.o (by have:=HL2.o;have:=HM.o;simp only[lLa,lLc,lLn] at *;omega)).mono ?_
    rintro e V1 ⟨rfl,hP,hK⟩
    rw[show o1++jn NM es j++[UInt8.ofNat 44]++dI NM ej=o1++jn NM es (j+1) by rw[HJ.o];simp] at hP
    have HP5:=aA hP
    have HQ5:=aA (HQ4.o.kp hK (by decide))
    have HK5:=aA (HK4.o.trans hK)
    clear hP hK
    go_wp2_with fail
    go_roundw
    case rel=>exact⟨j+1,by omega,by go_num,HP5,HQ5,HK5⟩
    case measure=>simp[intOf];omega
  ·obtain rfl:j=n:=by omega
   go_wp2_with fail
   refine(aT HPj.o 41 (by decide) (by have:=HL2.o;simp only[lLa] at *;omega)).mono ?_
   rintro e V1 ⟨rfl,hP,hK⟩
   have HP4:=aA hP
   have HK4:=aA (HKj.o.trans hK)
   clear hP hK
   go_wp2_with fail
   go_end0
   exact⟨rfl,HT.o ▸ HP4.o,HK4.o⟩
end Go.Proofs.YticnbcfmbhjbgaaGreatDoor
