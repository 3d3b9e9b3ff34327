import Derived.Test.YticnbcfmbhjbgaaGreatDoorX46
import Derived.Test.YticnbcfmbhjbgaaGreatDoorX12
import Derived.Test.YticnbcfmbhjbgaaGreatDoorX27
set_option maxRecDepth 100000
set_option maxHeartbeats 32000000
set_option linter.unusedVariables false
namespace Go.Proofs.YticnbcfmbhjbgaaGreatDoor
section
open Go.RowKit Go.IntWalk Lx Pz Go.Sort
open Spn (aN)
variable {w:World} {BS:List Int} {root:Int} {b:Nat}
theorem aVv {t:Tv}{NM:List aM}{NS:List Nd}(hE:Env w t NM BS NS root)(k:Int)(hk:0<=k/\k<=2147483647)
  (W:World) (out:List UInt8) (i:Nat) (hP:Pb w W b t out) (hi:NS[i]?=some ⟨1,0,0,0,k,0,0,0,0⟩) (hlen:out.length+(Lib.itoa k).length<=1099511627776) :
  Calls Tryz.prog 141 #[ptr b,.i i] W fun r W'=>r=.returned (.tuple #[])/\Pb w W' b t (out++Lib.itoa k)/\Kp SP W W':=by
 obtain⟨g,off,dl,dc,hdv,hil,hdl,hdc,⟨n0,n1,n2,n3,n4,n5,n6,n7,n8⟩,hg⟩:=hE.node hP hi
 obtain⟨p0,v0,hp0,hb0,hown0⟩:=hP.ex
 have c4:W.cell? ⟨b,4,none⟩=some t.dv:=hb0.cell 4 rfl
 rw[hdv] at c4
 have HX0:=aA (aB.new W 137 (bH ⟨1,0,0,0,k,0,0,0,0⟩))
 have HP0:=aA (hP.later (aD W (.cells (bH ⟨1,0,0,0,k,0,0,0,0⟩) 137)))
 have HK0:=aA (Kp.of_below SP (aD W (.cells (bH ⟨1,0,0,0,k,0,0,0,0⟩) 137)))
 have HL:=aA hlen
 have HG:=aA (hE.gl)
 simp only at n0 n1 n2 n3 n4 n5 n6 n7 n8
 clear hp0 hb0 hown0 hP hi hdv hlen hE
 go_enter Tryz.func141,Tryz.ntmps141
 go_wp2_with fail
 refine(eT HP0.o HG.o k (by omega) (by omega) HL.o).mono ?_
 rintro e W1 ⟨rfl,hP1,hK1⟩
 have HP1:=aA hP1
 have HK1:=aA (HK0.o.trans hK1)
 clear hP1 hK1 HP0 HX0 n0 n1 n2 n3 n4 n5 n6 n7 n8 c4
 go_wp2_with fail
 go_end0
 exact⟨rfl,HP1.o,HK1.o⟩
theorem aVw {t:Tv}{NM:List aM}{NS:List Nd}(hE:Env w t NM BS NS root)(k:Nat)(hk:k < 6)
  (W:World) (out:List UInt8) (i:Nat) (hP:Pb w W b t out) (hi:NS[i]?=some ⟨2,0,0,0,((k:Nat):Int),0,0,0,0⟩) (hlen:out.length+(zC.getD k []).length<=1099511627776) :
  Calls Tryz.prog 141 #[ptr b,.i i] W fun r W'=>r=.returned (.tuple #[])/\Pb w W' b t (out++zC.getD k [])/\Kp SP W W':=by
 obtain⟨g,off,dl,dc,hdv,hil,hdl,hdc,⟨n0,n1,n2,n3,n4,n5,n6,n7,n8⟩,hg⟩:=hE.node hP hi
 obtain⟨p0,v0,hp0,hb0,hown0⟩:=hP.ex
 have c4:W.cell? ⟨b,4,none⟩=some t.dv:=hb0.cell 4 rfl
 rw[hdv] at c4
 have HX0:=aA (aB.new W 137 (bH ⟨2,0,0,0,((k:Nat):Int),0,0,0,0⟩))
 have HP0:=aA (hP.later (aD W (.cells (bH ⟨2,0,0,0,((k:Nat):Int),0,0,0,0⟩) 137)))
 have HK0:=aA (Kp.of_below SP (aD W (.cells (bH ⟨2,0,0,0,((k:Nat):Int),0,0,0,0⟩) 137)))
 have HL:=aA hlen
 have HG:=aA (hE.gl)
 have h4:(W.alloc (.cells (bH ⟨2,0,0,0,((k:Nat):Int),0,0,0,0⟩) 137)).cell? ⟨W.heap.size,4,none⟩=some (.i ((k:Nat):Int)):=HX0.o.cell 4 rfl
 have e1:=fun dd os=>cell_regrown h4 dd os
 have e2:=fun dd os=>cell_regrown ((HG.o.later HP0.o.old).inp k hk) dd os
 clear h4 hlen
 generalize zC.getD k []=tx at *
 simp only at n0 n1 n2 n3 n4 n5 n6 n7 n8
 clear hp0 hb0 hown0 hP hi hdv hE
 go_enter Tryz.func141,Tryz.ntmps141
 go_wp2_with fail
 refine aN (hf:=(List.dropLast_concat_getLast (by simp)).symm) vG (by kernel_rfl) rfl (by kernel_rfl) (by kernel_rfl) (by kernel_rfl) (by kernel_rfl) (by kernel_rfl) ?_
 simp only[List.dropLast_cons_cons,List.dropLast_singleton,List.getLast_cons_cons,List.getLast_singleton]
 repeat (go_big_quiet_step (fail))
 refine wpQuiet_nil ?_
 intro _ hw'
 obtain⟨pq,hw''⟩:=hw'
 subst hw''
 have hb2:=below_regrown (W.alloc (.cells (bH ⟨2,0,0,0,((k:Nat):Int),0,0,0,0⟩) 137)) pq.d pq.os
 have HP9:=aA (HP0.o.later hb2)
 have HK9:=aA (HK0.o.trans (Kp.of_below SP hb2))
 clear e1 e2 HP0 HK0 hb2 HX0
 generalize grow (redrawn (W.alloc (.cells (bH ⟨2,0,0,0,((k:Nat):Int),0,0,0,0⟩) 137)) pq.d) pq.os=G at *
 go_wp2_with fail
 refine(aY HP9.o _ (by have:=HL.o;rw[iB];omega)).mono ?_
 rintro e W1 ⟨rfl,hP1,hK1⟩
 rw[iB] at hP1
 have HP1:=aA hP1
 have HK1:=aA (HK9.o.trans hK1)
 clear hP1 hK1 HP9 n0 n1 n2 n3 n4 n5 n6 n7 n8 c4
 go_wp2_with fail
 go_end0
 exact⟨rfl,HP1.o,HK1.o⟩
theorem aVy {t:Tv}{NM:List aM}{NS:List Nd}(hE:Env w t NM BS NS root)(k:Nat)(hk:k < NM.length)
  (W:World) (out:List UInt8) (i:Nat) (hP:Pb w W b t out) (hi:NS[i]?=some ⟨4,0,0,0,((k:Nat):Int),0,0,0,0⟩) (hlen:out.length+(NM.getD k []).length<=1099511627776) :
  Calls Tryz.prog 141 #[ptr b,.i i] W fun r W'=>r=.returned (.tuple #[])/\Pb w W' b t (out++NM.getD k [])/\Kp SP W W':=by
 obtain⟨g,off,dl,dc,hdv,hil,hdl,hdc,⟨n0,n1,n2,n3,n4,n5,n6,n7,n8⟩,hg⟩:=hE.node hP hi
 obtain⟨p0,v0,hp0,hb0,hown0⟩:=hP.ex
 have c4:W.cell? ⟨b,4,none⟩=some t.dv:=hb0.cell 4 rfl
 rw[hdv] at c4
 have HX0:=aA (aB.new W 137 (bH ⟨4,0,0,0,((k:Nat):Int),0,0,0,0⟩))
 have HP0:=aA (hP.later (aD W (.cells (bH ⟨4,0,0,0,((k:Nat):Int),0,0,0,0⟩) 137)))
 have HK0:=aA (Kp.of_below SP (aD W (.cells (bH ⟨4,0,0,0,((k:Nat):Int),0,0,0,0⟩) 137)))
 have HL:=aA hlen
 have HG:=aA (hE.gl)
 obtain⟨na,nl,nc,hnv,hTx⟩:=hE.names
 have hnl:=hTx.len
 have hnc:=hTx.le
 have hnm:=hTx.max
 unfold maxLen at hnm
 obtain⟨gn,ofn,rfl,hcn⟩:∃ gn ofn,na=some ⟨gn,ofn,none⟩/\∀ j,j < nl->(W.alloc (.cells (bH ⟨4,0,0,0,((k:Nat):Int),0,0,0,0⟩) 137)).cell? ⟨gn,ofn+j,none⟩=some (.string (sB (NM.getD j []))):=by
  rcases(hTx.later HP0.o.old).cell with h|⟨gn,ofn,h1,h2⟩
  ·omega
  ·exact⟨gn,ofn,h1,h2⟩
 have h4:(W.alloc (.cells (bH ⟨4,0,0,0,((k:Nat):Int),0,0,0,0⟩) 137)).cell? ⟨W.heap.size,4,none⟩=some (.i ((k:Nat):Int)):=HX0.o.cell 4 rfl
 have e1:=fun dd os=>cell_regrown h4 dd os
 have e2:=fun dd os=>cell_regrown (hcn k (by omega)) dd os
 obtain⟨p1,v1,hp1,hb1,hown1⟩:=HP0.o.ex
 have h2:(W.alloc (.cells (bH ⟨4,0,0,0,((k:Nat):Int),0,0,0,0⟩) 137)).cell? ⟨b,2,none⟩=some t.nv:=hb1.cell 2 rfl
 rw[hnv] at h2
 have e3:=fun dd os=>cell_regrown h2 dd os
 have hkl:k < nl:=by omega
 clear hTx hnl hcn h2 hp1 hb1 hown1 hnv hk
 clear h4 hlen
 generalize NM.getD k []=tx at *
 simp only at n0 n1 n2 n3 n4 n5 n6 n7 n8
 clear hp0 hb0 hown0 hP hi hdv hE
 go_enter Tryz.func141,Tryz.ntmps141
 go_wp2_with fail
 refine aN (hf:=(List.dropLast_concat_getLast (by simp)).symm) vG (by kernel_rfl) rfl (by kernel_rfl) (by kernel_rfl) (by kernel_rfl) (by kernel_rfl) (by kernel_rfl) ?_
 simp only[List.dropLast_cons_cons,List.dropLast_singleton,List.getLast_cons_cons,List.getLast_singleton]
 repeat (go_big_quiet_step (fail))
 refine wpQuiet_nil ?_
 intro _ hw'
 obtain⟨pq,hw''⟩:=hw'
 subst hw''
 have hb2:=below_regrown (W.alloc (.cells (bH ⟨4,0,0,0,((k:Nat):Int),0,0,0,0⟩) 137)) pq.d pq.os
 have HP9:=aA (HP0.o.later hb2)
 have HK9:=aA (HK0.o.trans (Kp.of_below SP hb2))
 clear e1 e2 e3 HP0 HK0 hb2 HX0
 generalize grow (redrawn (W.alloc (.cells (bH ⟨4,0,0,0,((k:Nat):Int),0,0,0,0⟩) 137)) pq.d) pq.os=G at *
 go_wp2_with fail
 refine(aY HP9.o _ (by have:=HL.o;rw[iB];omega)).mono ?_
 rintro e W1 ⟨rfl,hP1,hK1⟩
 rw[iB] at hP1
 have HP1:=aA hP1
 have HK1:=aA (HK9.o.trans hK1)
 clear hP1 hK1 HP9 n0 n1 n2 n3 n4 n5 n6 n7 n8 c4
 go_wp2_with fail
 go_end0
 exact⟨rfl,HP1.o,HK1.o⟩
theorem aVx {t:Tv}{NM:List aM}{NS:List Nd}(hE:Env w t NM BS NS root)(back co x y:Int)(h0:0<=back/\back<=2147483647)(h1:-2147483647<=x/\x<=2147483647)(h2:-2147483647<=y/\y<=2147483647)
  (W:World) (out:List UInt8) (i:Nat) (hP:Pb w W b t out) (hi:NS[i]?=some ⟨3,0,0,0,0,back,co,x,y⟩) (hlen:out.length+(vL ⟨3,0,0,0,0,back,co,x,y⟩).length<=1099511627776) :
  Calls Tryz.prog 141 #[ptr b,.i i] W fun r W'=>r=.returned (.tuple #[])/\Pb w W' b t (out++vL ⟨3,0,0,0,0,back,co,x,y⟩)/\Kp SP W W':=by
 obtain⟨g,off,dl,dc,hdv,hil,hdl,hdc,⟨n0,n1,n2,n3,n4,n5,n6,n7,n8⟩,hg⟩:=hE.node hP hi
 obtain⟨p0,v0,hp0,hb0,hown0⟩:=hP.ex
 have c4:W.cell? ⟨b,4,none⟩=some t.dv:=hb0.cell 4 rfl
 rw[hdv] at c4
 have HX0:=aA (aB.new W 137 (bH ⟨3,0,0,0,0,back,co,x,y⟩))
 have HP0:=aA (hP.later (aD W (.cells (bH ⟨3,0,0,0,0,back,co,x,y⟩) 137)))
 have HK0:=aA (Kp.of_below SP (aD W (.cells (bH ⟨3,0,0,0,0,back,co,x,y⟩) 137)))
 have HL:=aA hlen
 have HG:=aA (hE.gl)
 simp only at n0 n1 n2 n3 n4 n5 n6 n7 n8
 clear hp0 hb0 hown0 hP hi hdv hlen hE
 go_enter Tryz.func141,Tryz.ntmps141
 go_wp2_with fail
 refine(aIf HP0.o HG.o ⟨3,0,0,0,0,back,co,x,y⟩ (by simp only;omega) (by simp only;omega) (by simp only;omega) HL.o).mono ?_
 rintro e W1 ⟨rfl,hP1,hK1⟩
 have HP1:=aA hP1
 have HK1:=aA (HK0.o.trans hK1)
 clear hP1 hK1 HP0 HX0 n0 n1 n2 n3 n4 n5 n6 n7 n8 c4
 go_wp2_with fail
 go_end0
 exact⟨rfl,HP1.o,HK1.o⟩
theorem aVz {t:Tv}{NM:List aM}{NS:List Nd}(hE:Env w t NM BS NS root){x:E}(hx:dM w t b NM NS x)(ho:1<=wJ x/\wJ x<=28)(p:Nat)(h1:dK NS x p)
  (W:World) (out:List UInt8) (i:Nat) (hP:Pb w W b t out) (hi:NS[i]?=some ⟨5,((p:Nat):Int),0,0,0,0,0,0,0⟩) (hlen:out.length+(dI NM (.un 5 x)).length<=1099511627776) :
  Calls Tryz.prog 141 #[ptr b,.i i] W fun r W'=>r=.returned (.tuple #[])/\Pb w W' b t (out++dI NM (.un 5 x))/\Kp SP W W':=by
 obtain⟨g,off,dl,dc,hdv,hil,hdl,hdc,⟨n0,n1,n2,n3,n4,n5,n6,n7,n8⟩,hg⟩:=hE.node hP hi
 obtain⟨p0,v0,hp0,hb0,hown0⟩:=hP.ex
 have c4:W.cell? ⟨b,4,none⟩=some t.dv:=hb0.cell 4 rfl
 rw[hdv] at c4
 have HX0:=aA (aB.new W 137 (bH ⟨5,((p:Nat):Int),0,0,0,0,0,0,0⟩))
 have HP0:=aA (hP.later (aD W (.cells (bH ⟨5,((p:Nat):Int),0,0,0,0,0,0,0⟩) 137)))
 have HK0:=aA (Kp.of_below SP (aD W (.cells (bH ⟨5,((p:Nat):Int),0,0,0,0,0,0,0⟩) 137)))
 have HL:=aA hlen
 have HG:=aA (hE.gl)
 have ht:dI NM (.un 5 x)=45::prp NM 8 x:=by simp[dI,prp]
 have HL2:=aA (show out.length+(prp NM 8 x).length+1<=1099511627776 by rw[ht] at hlen;simp at hlen;omega)
 have HT:=aA (show out++dI NM (.un 5 x)=(out++[UInt8.ofNat 45])++prp NM 8 x by rw[ht];simp)
 have Hx:=aA (fun V o hV hl=>rO hE hx ho 8 (by decide) V o p hV h1 hl)
 clear ht hx ho h1 HL
 simp only at n0 n1 n2 n3 n4 n5 n6 n7 n8
 clear hp0 hb0 hown0 hP hi hdv hlen hE
 go_enter Tryz.func141,Tryz.ntmps141
 go_wp2_with fail
 refine(aT HP0.o 45 (by decide) (by have:=HL2.o;omega)).mono ?_
 rintro e W1 ⟨rfl,hP1,hK1⟩
 have HP1:=aA hP1
 have HK1:=aA (HK0.o.trans hK1)
 have HX1:=aA (HX0.o.kp hK1 (by decide))
 clear hP1 hK1 HP0 HX0 n0 n1 n2 n3 n4 n5 n6 n7 n8 c4
 obtain⟨m0,m1,-⟩:=HX1.o.nine
 simp only at m0 m1
 go_wp2_with fail
 refine(Hx.o _ _ HP1.o (by have:=HL2.o;simp;omega)).mono ?_
 rintro e W2 ⟨rfl,hP2,hK2⟩
 have HP2:=aA hP2
 have HK2:=aA (HK1.o.trans hK2)
 clear hP2 hK2 HP1 HX1 m0 m1
 go_wp2_with fail
 go_end0
 exact⟨rfl,HT.o ▸ HP2.o,HK2.o⟩
theorem aV0 {t:Tv}{NM:List aM}{NS:List Nd}(hE:Env w t NM BS NS root){x:E}(hx:dM w t b NM NS x)(p:Nat)(lx:dK NS x p)
  (W:World) (out:List UInt8) (i:Nat) (hP:Pb w W b t out) (hi:NS[i]?=some ⟨6,((p:Nat):Int),0,0,0,0,0,0,0⟩) (hlen:out.length+(dI NM (.un 6 x)).length<=1099511627776) :
  Calls Tryz.prog 141 #[ptr b,.i i] W fun r W'=>r=.returned (.tuple #[])/\Pb w W' b t (out++dI NM (.un 6 x))/\Kp SP W W':=by
 obtain⟨g,off,dl,dc,hdv,hil,hdl,hdc,⟨n0,n1,n2,n3,n4,n5,n6,n7,n8⟩,hg⟩:=hE.node hP hi
 obtain⟨p0,v0,hp0,hb0,hown0⟩:=hP.ex
 have c4:W.cell? ⟨b,4,none⟩=some t.dv:=hb0.cell 4 rfl
 rw[hdv] at c4
 have HX0:=aA (aB.new W 137 (bH ⟨6,((p:Nat):Int),0,0,0,0,0,0,0⟩))
 have HP0:=aA (hP.later (aD W (.cells (bH ⟨6,((p:Nat):Int),0,0,0,0,0,0,0⟩) 137)))
 have HK0:=aA (Kp.of_below SP (aD W (.cells (bH ⟨6,((p:Nat):Int),0,0,0,0,0,0,0⟩) 137)))
 have HL:=aA hlen
 have HG:=aA (hE.gl)
 have ht:dI NM (.un 6 x)=pG 6++40::(jn NM [x] 1++[41]):=by simp[dI,jn,List.range_succ]
 have hN:∀ j,j < 1->dM w t b NM NS (([x]:List E).getD j z0):=by
   intro j hj
   match j,hj with
   | 0,_=>exact hx
   | _+1,hj=>exact absurd hj (by omega)
 have hS:∀ j,j < 1->dK NS (([x]:List E).getD j z0) (([p]:List Nat).getD j 0):=by
   intro j hj
   match j,hj with
   | 0,_=>exact lx
   | _+1,hj=>exact absurd hj (by omega)
 have hC:∀ j,j < 1->(#[.i ((p:Nat):Int)]:Array Value)[j]?=some (.i ((([p]:List Nat).getD j 0:Nat):Int)):=by
   intro j hj
   match j,hj with
   | 0,_=>rfl
   | _+1,hj=>exact absurd hj (by omega)
 have HL2:=aA (show out.length+(pG 6).length+(jn NM [x] 1).length+2<=1099511627776 by rw[ht] at hlen;simp at hlen;omega)
 have HT:=aA (show out++dI NM (.un 6 x)=out++(pG ((6:Nat):Int)++40::(jn NM [x] 1++[41])) by rw[ht];rfl)
 have HP0A:=aA (HP0.o.later (aD _ (.cells #[.i ((p:Nat):Int)] 3)))
 have HK0A:=aA (HK0.o.trans (Kp.of_below SP (aD _ (.cells #[.i ((p:Nat):Int)] 3))))
 have HQ:=aA (aB.new (W.alloc (.cells (bH ⟨6,((p:Nat):Int),0,0,0,0,0,0,0⟩) 137)) 3 #[.i ((p:Nat):Int)])
 have Hc:=aA (kV hE [x] [p] 1 (by decide) hN hS 6 (by decide) _ out HP0A.o _ #[.i ((p:Nat):Int)] HQ.o hC HL2.o)
 rw[wSa] at Hc
 clear ht hN hS hC HL hx lx
 simp only at n0 n1 n2 n3 n4 n5 n6 n7 n8
 clear hp0 hb0 hown0 hP hi hdv hlen hE
 go_enter Tryz.func141,Tryz.ntmps141
 go_wp2_with fail
 refine Hc.o.mono ?_
 rintro e W1 ⟨rfl,hP1,hK1⟩
 have HP1:=aA hP1
 have HK1:=aA (HK0A.o.trans hK1)
 clear hP1 hK1 HP0 HX0 n0 n1 n2 n3 n4 n5 n6 n7 n8 c4
 go_wp2_with fail
 go_end0
 exact⟨rfl,HT.o ▸ HP1.o,HK1.o⟩
theorem aV1 {t:Tv}{NM:List aM}{NS:List Nd}(hE:Env w t NM BS NS root){x:E}(hx:dM w t b NM NS x)(p:Nat)(lx:dK NS x p)
  (W:World) (out:List UInt8) (i:Nat) (hP:Pb w W b t out) (hi:NS[i]?=some ⟨7,((p:Nat):Int),0,0,0,0,0,0,0⟩) (hlen:out.length+(dI NM (.un 7 x)).length<=1099511627776) :
  Calls Tryz.prog 141 #[ptr b,.i i] W fun r W'=>r=.returned (.tuple #[])/\Pb w W' b t (out++dI NM (.un 7 x))/\Kp SP W W':=by
 obtain⟨g,off,dl,dc,hdv,hil,hdl,hdc,⟨n0,n1,n2,n3,n4,n5,n6,n7,n8⟩,hg⟩:=hE.node hP hi
 obtain⟨p0,v0,hp0,hb0,hown0⟩:=hP.ex
 have c4:W.cell? ⟨b,4,none⟩=some t.dv:=hb0.cell 4 rfl
 rw[hdv] at c4
 have HX0:=aA (aB.new W 137 (bH ⟨7,((p:Nat):Int),0,0,0,0,0,0,0⟩))
 have HP0:=aA (hP.later (aD W (.cells (bH ⟨7,((p:Nat):Int),0,0,0,0,0,0,0⟩) 137)))
 have HK0:=aA (Kp.of_below SP (aD W (.cells (bH ⟨7,((p:Nat):Int),0,0,0,0,0,0,0⟩) 137)))
 have HL:=aA hlen
 have HG:=aA (hE.gl)
 have ht:dI NM (.un 7 x)=pG 7++40::(jn NM [x] 1++[41]):=by simp[dI,jn,List.range_succ]
 have hN:∀ j,j < 1->dM w t b NM NS (([x]:List E).getD j z0):=by
   intro j hj
   match j,hj with
   | 0,_=>exact hx
   | _+1,hj=>exact absurd hj (by omega)
 have hS:∀ j,j < 1->dK NS (([x]:List E).getD j z0) (([p]:List Nat).getD j 0):=by
   intro j hj
   match j,hj with
   | 0,_=>exact lx
   | _+1,hj=>exact absurd hj (by omega)
 have hC:∀ j,j < 1->(#[.i ((p:Nat):Int)]:Array Value)[j]?=some (.i ((([p]:List Nat).getD j 0:Nat):Int)):=by
   intro j hj
   match j,hj with
   | 0,_=>rfl
   | _+1,hj=>exact absurd hj (by omega)
 have HL2:=aA (show out.length+(pG 7).length+(jn NM [x] 1).length+2<=1099511627776 by rw[ht] at hlen;simp at hlen;omega)
 have HT:=aA (show out++dI NM (.un 7 x)=out++(pG ((7:Nat):Int)++40::(jn NM [x] 1++[41])) by rw[ht];rfl)
 have HP0A:=aA (HP0.o.later (aD _ (.cells #[.i ((p:Nat):Int)] 3)))
 have HK0A:=aA (HK0.o.trans (Kp.of_below SP (aD _ (.cells #[.i ((p:Nat):Int)] 3))))
 have HQ:=aA (aB.new (W.alloc (.cells (bH ⟨7,((p:Nat):Int),0,0,0,0,0,0,0⟩) 137)) 3 #[.i ((p:Nat):Int)])
 have Hc:=aA (kV hE [x] [p] 1 (by decide) hN hS 7 (by decide) _ out HP0A.o _ #[.i ((p:Nat):Int)] HQ.o hC HL2.o)
 rw[wSa] at Hc
 clear ht hN hS hC HL hx lx
 simp only at n0 n1 n2 n3 n4 n5 n6 n7 n8
 clear hp0 hb0 hown0 hP hi hdv hlen hE
 go_enter Tryz.func141,Tryz.ntmps141
 go_wp2_with fail
 refine Hc.o.mono ?_
 rintro e W1 ⟨rfl,hP1,hK1⟩
 have HP1:=aA hP1
 have HK1:=aA (HK0A.o.trans hK1)
 clear hP1 hK1 HP0 HX0 n0 n1 n2 n3 n4 n5 n6 n7 n8 c4
 go_wp2_with fail
 go_end0
 exact⟨rfl,HT.o ▸ HP1.o,HK1.o⟩
theorem aRp {t:Tv}{NM:List aM}{NS:List Nd}(hE:Env w t NM BS NS root){x y:E}(hx:dM w t b NM NS x)(hy:dM w t b NM NS y)(p q:Nat)(lx:dK NS x p)(ly:dK NS y q)
  (W:World) (out:List UInt8) (i:Nat) (hP:Pb w W b t out) (hi:NS[i]?=some ⟨24,((p:Nat):Int),((q:Nat):Int),0,0,0,0,0,0⟩) (hlen:out.length+(dI NM (.bin 24 x y)).length<=1099511627776) :
  Calls Tryz.prog 141 #[ptr b,.i i] W fun r W'=>r=.returned (.tuple #[])/\Pb w W' b t (out++dI NM (.bin 24 x y))/\Kp SP W W':=by
 obtain⟨g,off,dl,dc,hdv,hil,hdl,hdc,⟨n0,n1,n2,n3,n4,n5,n6,n7,n8⟩,hg⟩:=hE.node hP hi
 obtain⟨p0,v0,hp0,hb0,hown0⟩:=hP.ex
 have c4:W.cell? ⟨b,4,none⟩=some t.dv:=hb0.cell 4 rfl
 rw[hdv] at c4
 have HX0:=aA (aB.new W 137 (bH ⟨24,((p:Nat):Int),((q:Nat):Int),0,0,0,0,0,0⟩))
 have HP0:=aA (hP.later (aD W (.cells (bH ⟨24,((p:Nat):Int),((q:Nat):Int),0,0,0,0,0,0⟩) 137)))
 have HK0:=aA (Kp.of_below SP (aD W (.cells (bH ⟨24,((p:Nat):Int),((q:Nat):Int),0,0,0,0,0,0⟩) 137)))
 have HL:=aA hlen
 have HG:=aA (hE.gl)
 have ht:dI NM (.bin 24 x y)=pG 24++40::(jn NM [x,y] 2++[41]):=by simp[dI,jn,List.range_succ]
 have hN:∀ j,j < 2->dM w t b NM NS (([x,y]:List E).getD j z0):=by
   intro j hj
   match j,hj with
   | 0,_=>exact hx
   | 1,_=>exact hy
   | _+2,hj=>exact absurd hj (by omega)
 have hS:∀ j,j < 2->dK NS (([x,y]:List E).getD j z0) (([p,q]:List Nat).getD j 0):=by
   intro j hj
   match j,hj with
   | 0,_=>exact lx
   | 1,_=>exact ly
   | _+2,hj=>exact absurd hj (by omega)
 have hC:∀ j,j < 2->(#[.i ((p:Nat):Int),.i ((q:Nat):Int)]:Array Value)[j]?=some (.i ((([p,q]:List Nat).getD j 0:Nat):Int)):=by
   intro j hj
   match j,hj with
   | 0,_=>rfl
   | 1,_=>rfl
   | _+2,hj=>exact absurd hj (by omega)
 have HL2:=aA (show out.length+(pG 24).length+(jn NM [x,y] 2).length+2<=1099511627776 by rw[ht] at hlen;simp at hlen;omega)
 have HT:=aA (show out++dI NM (.bin 24 x y)=out++(pG ((24:Nat):Int)++40::(jn NM [x,y] 2++[41])) by rw[ht];rfl)
 have HP0A:=aA (HP0.o.later (aD _ (.cells #[.i ((p:Nat):Int),.i ((q:Nat):Int)] 3)))
 have HK0A:=aA (HK0.o.trans (Kp.of_below SP (aD _ (.cells #[.i ((p:Nat):Int),.i ((q:Nat):Int)] 3))))
 have HQ:=aA (aB.new (W.alloc (.cells (bH ⟨24,((p:Nat):Int),((q:Nat):Int),0,0,0,0,0,0⟩) 137)) 3 #[.i ((p:Nat):Int),.i ((q:Nat):Int)])
 have Hc:=aA (kV hE [x,y] [p,q] 2 (by decide) hN hS 24 (by decide) _ out HP0A.o _ #[.i ((p:Nat):Int),.i ((q:Nat):Int)] HQ.o hC HL2.o)
 rw[wSa] at Hc
 clear ht hN hS hC HL hx hy lx ly
 simp only at n0 n1 n2 n3 n4 n5 n6 n7 n8
 clear hp0 hb0 hown0 hP hi hdv hlen hE
 go_enter Tryz.func141,Tryz.ntmps141
 go_wp2_with fail
 refine Hc.o.mono ?_
 rintro e W1 ⟨rfl,hP1,hK1⟩
 have HP1:=aA hP1
 have HK1:=aA (HK0A.o.trans hK1)
 clear hP1 hK1 HP0 HX0 n0 n1 n2 n3 n4 n5 n6 n7 n8 c4
 go_wp2_with fail
 go_end0
 exact⟨rfl,HT.o ▸ HP1.o,HK1.o⟩
theorem aRq {t:Tv}{NM:List aM}{NS:List Nd}(hE:Env w t NM BS NS root){x y:E}(hx:dM w t b NM NS x)(hy:dM w t b NM NS y)(p q:Nat)(lx:dK NS x p)(ly:dK NS y q)
  (W:World) (out:List UInt8) (i:Nat) (hP:Pb w W b t out) (hi:NS[i]?=some ⟨25,((p:Nat):Int),((q:Nat):Int),0,0,0,0,0,0⟩) (hlen:out.length+(dI NM (.bin 25 x y)).length<=1099511627776) :
  Calls Tryz.prog 141 #[ptr b,.i i] W fun r W'=>r=.returned (.tuple #[])/\Pb w W' b t (out++dI NM (.bin 25 x y))/\Kp SP W W':=by
 obtain⟨g,off,dl,dc,hdv,hil,hdl,hdc,⟨n0,n1,n2,n3,n4,n5,n6,n7,n8⟩,hg⟩:=hE.node hP hi
 obtain⟨p0,v0,hp0,hb0,hown0⟩:=hP.ex
 have c4:W.cell? ⟨b,4,none⟩=some t.dv:=hb0.cell 4 rfl
 rw[hdv] at c4
 have HX0:=aA (aB.new W 137 (bH ⟨25,((p:Nat):Int),((q:Nat):Int),0,0,0,0,0,0⟩))
 have HP0:=aA (hP.later (aD W (.cells (bH ⟨25,((p:Nat):Int),((q:Nat):Int),0,0,0,0,0,0⟩) 137)))
 have HK0:=aA (Kp.of_below SP (aD W (.cells (bH ⟨25,((p:Nat):Int),((q:Nat):Int),0,0,0,0,0,0⟩) 137)))
 have HL:=aA hlen
 have HG:=aA (hE.gl)
 have ht:dI NM (.bin 25 x y)=pG 25++40::(jn NM [x,y] 2++[41]):=by simp[dI,jn,List.range_succ]
 have hN:∀ j,j < 2->dM w t b NM NS (([x,y]:List E).getD j z0):=by
   intro j hj
   match j,hj with
   | 0,_=>exact hx
   | 1,_=>exact hy
   | _+2,hj=>exact absurd hj (by omega)
 have hS:∀ j,j < 2->dK NS (([x,y]:List E).getD j z0) (([p,q]:List Nat).getD j 0):=by
   intro j hj
   match j,hj with
   | 0,_=>exact lx
   | 1,_=>exact ly
   | _+2,hj=>exact absurd hj (by omega)
 have hC:∀ j,j < 2->(#[.i ((p:Nat):Int),.i ((q:Nat):Int)]:Array Value)[j]?=some (.i ((([p,q]:List Nat).getD j 0:Nat):Int)):=by
   intro j hj
   match j,hj with
   | 0,_=>rfl
   | 1,_=>rfl
   | _+2,hj=>exact absurd hj (by omega)
 have HL2:=aA (show out.length+(pG 25).length+(jn NM [x,y] 2).length+2<=1099511627776 by rw[ht] at hlen;simp at hlen;omega)
 have HT:=aA (show out++dI NM (.bin 25 x y)=out++(pG ((25:Nat):Int)++40::(jn NM [x,y] 2++[41])) by rw[ht];rfl)
 have HP0A:=aA (HP0.o.later (aD _ (.cells #[.i ((p:Nat):Int),.i ((q:Nat):Int)] 3)))
 have HK0A:=aA (HK0.o.trans (Kp.of_below SP (aD _ (.cells #[.i ((p:Nat):Int),.i ((q:Nat):Int)] 3))))
 have HQ:=aA (aB.new (W.alloc (.cells (bH ⟨25,((p:Nat):Int),((q:Nat):Int),0,0,0,0,0,0⟩) 137)) 3 #[.i ((p:Nat):Int),.i ((q:Nat):Int)])
 have Hc:=aA (kV hE [x,y] [p,q] 2 (by decide) hN hS 25 (by decide) _ out HP0A.o _ #[.i ((p:Nat):Int),.i ((q:Nat):Int)] HQ.o hC HL2.o)
 rw[wSa] at Hc
 clear ht hN hS hC HL hx hy lx ly
 simp only at n0 n1 n2 n3 n4 n5 n6 n7 n8
 clear hp0 hb0 hown0 hP hi hdv hlen hE
 go_enter Tryz.func141,Tryz.ntmps141
 go_wp2_with fail
 refine Hc.o.mono ?_
 rintro e W1 ⟨rfl,hP1,hK1⟩
 have HP1:=aA hP1
 have HK1:=aA (HK0A.o.trans hK1)
 clear hP1 hK1 HP0 HX0 n0 n1 n2 n3 n4 n5 n6 n7 n8 c4
 go_wp2_with fail
 go_end0
 exact⟨rfl,HT.o ▸ HP1.o,HK1.o⟩
theorem aRr {t:Tv}{NM:List aM}{NS:List Nd}(hE:Env w t NM BS NS root){x y z:E}(hx:dM w t b NM NS x)(hy:dM w t b NM NS y)(hz:dM w t b NM NS z)(p q r:Nat)(lx:dK NS x p)(ly:dK NS y q)(lz:dK NS z r)
  (W:World) (out:List UInt8) (i:Nat) (hP:Pb w W b t out) (hi:NS[i]?=some ⟨26,((p:Nat):Int),((q:Nat):Int),((r:Nat):Int),0,0,0,0,0⟩) (hlen:out.length+(dI NM (.tri 26 x y z)).length<=1099511627776) :
  Calls Tryz.prog 141 #[ptr b,.i i] W fun r W'=>r=.returned (.tuple #[])/\Pb w W' b t (out++dI NM (.tri 26 x y z))/\Kp SP W W':=by
 obtain⟨g,off,dl,dc,hdv,hil,hdl,hdc,⟨n0,n1,n2,n3,n4,n5,n6,n7,n8⟩,hg⟩:=hE.node hP hi
 obtain⟨p0,v0,hp0,hb0,hown0⟩:=hP.ex
 have c4:W.cell? ⟨b,4,none⟩=some t.dv:=hb0.cell 4 rfl
 rw[hdv] at c4
 have HX0:=aA (aB.new W 137 (bH ⟨26,((p:Nat):Int),((q:Nat):Int),((r:Nat):Int),0,0,0,0,0⟩))
 have HP0:=aA (hP.later (aD W (.cells (bH ⟨26,((p:Nat):Int),((q:Nat):Int),((r:Nat):Int),0,0,0,0,0⟩) 137)))
 have HK0:=aA (Kp.of_below SP (aD W (.cells (bH ⟨26,((p:Nat):Int),((q:Nat):Int),((r:Nat):Int),0,0,0,0,0⟩) 137)))
 have HL:=aA hlen
 have HG:=aA (hE.gl)
 have ht:dI NM (.tri 26 x y z)=pG 26++40::(jn NM [x,y,z] 3++[41]):=by simp[dI,jn,List.range_succ]
 have hN:∀ j,j < 3->dM w t b NM NS (([x,y,z]:List E).getD j z0):=by
   intro j hj
   match j,hj with
   | 0,_=>exact hx
   | 1,_=>exact hy
   | 2,_=>exact hz
   | _+3,hj=>exact absurd hj (by omega)
 have hS:∀ j,j < 3->dK NS (([x,y,z]:List E).getD j z0) (([p,q,r]:List Nat).getD j 0):=by
   intro j hj
   match j,hj with
   | 0,_=>exact lx
   | 1,_=>exact ly
   | 2,_=>exact lz
   | _+3,hj=>exact absurd hj (by omega)
 have hC:∀ j,j < 3->(#[.i ((p:Nat):Int),.i ((q:Nat):Int),.i ((r:Nat):Int)]:Array Value)[j]?=some (.i ((([p,q,r]:List Nat).getD j 0:Nat):Int)):=by
   intro j hj
   match j,hj with
   | 0,_=>rfl
   | 1,_=>rfl
   | 2,_=>rfl
   | _+3,hj=>exact absurd hj (by omega)
 have HL2:=aA (show out.length+(pG 26).length+(jn NM [x,y,z] 3).length+2<=1099511627776 by rw[ht] at hlen;simp at hlen;omega)
 have HT:=aA (show out++dI NM (.tri 26 x y z)=out++(pG ((26:Nat):Int)++40::(jn NM [x,y,z] 3++[41])) by rw[ht];rfl)
 have HP0A:=aA (HP0.o.later (aD _ (.cells #[.i ((p:Nat):Int),.i ((q:Nat):Int),.i ((r:Nat):Int)] 3)))
 have HK0A:=aA (HK0.o.trans (Kp.of_below SP (aD _ (.cells #[.i ((p:Nat):Int),.i ((q:Nat):Int),.i ((r:Nat):Int)] 3))))
 have HQ:=aA (aB.new (W.alloc (.cells (bH ⟨26,((p:Nat):Int),((q:Nat):Int),((r:Nat):Int),0,0,0,0,0⟩) 137)) 3 #[.i ((p:Nat):Int),.i ((q:Nat):Int),.i ((r:Nat):Int)])
 have Hc:=aA (kV hE [x,y,z] [p,q,r] 3 (by decide) hN hS 26 (by decide) _ out HP0A.o _ #[.i ((p:Nat):Int),.i ((q:Nat):Int),.i ((r:Nat):Int)] HQ.o hC HL2.o)
 rw[wSa] at Hc
 clear ht hN hS hC HL hx hy hz lx ly lz
 simp only at n0 n1 n2 n3 n4 n5 n6 n7 n8
 clear hp0 hb0 hown0 hP hi hdv hlen hE
 go_enter Tryz.func141,Tryz.ntmps141
 go_wp2_with fail
 refine Hc.o.mono ?_
 rintro e W1 ⟨rfl,hP1,hK1⟩
 have HP1:=aA hP1
 have HK1:=aA (HK0A.o.trans hK1)
 clear hP1 hK1 HP0 HX0 n0 n1 n2 n3 n4 n5 n6 n7 n8 c4
 go_wp2_with fail
 go_end0
 exact⟨rfl,HT.o ▸ HP1.o,HK1.o⟩
theorem aRs {t:Tv}{NM:List aM}{NS:List Nd}(hE:Env w t NM BS NS root){x y z:E}(hx:dM w t b NM NS x)(hy:dM w t b NM NS y)(hz:dM w t b NM NS z)(p q r:Nat)(lx:dK NS x p)(ly:dK NS y q)(lz:dK NS z r)
  (W:World) (out:List UInt8) (i:Nat) (hP:Pb w W b t out) (hi:NS[i]?=some ⟨27,((p:Nat):Int),((q:Nat):Int),((r:Nat):Int),0,0,0,0,0⟩) (hlen:out.length+(dI NM (.tri 27 x y z)).length<=1099511627776) :
  Calls Tryz.prog 141 #[ptr b,.i i] W fun r W'=>r=.returned (.tuple #[])/\Pb w W' b t (out++dI NM (.tri 27 x y z))/\Kp SP W W':=by
 obtain⟨g,off,dl,dc,hdv,hil,hdl,hdc,⟨n0,n1,n2,n3,n4,n5,n6,n7,n8⟩,hg⟩:=hE.node hP hi
 obtain⟨p0,v0,hp0,hb0,hown0⟩:=hP.ex
 have c4:W.cell? ⟨b,4,none⟩=some t.dv:=hb0.cell 4 rfl
 rw[hdv] at c4
 have HX0:=aA (aB.new W 137 (bH ⟨27,((p:Nat):Int),((q:Nat):Int),((r:Nat):Int),0,0,0,0,0⟩))
 have HP0:=aA (hP.later (aD W (.cells (bH ⟨27,((p:Nat):Int),((q:Nat):Int),((r:Nat):Int),0,0,0,0,0⟩) 137)))
 have HK0:=aA (Kp.of_below SP (aD W (.cells (bH ⟨27,((p:Nat):Int),((q:Nat):Int),((r:Nat):Int),0,0,0,0,0⟩) 137)))
 have HL:=aA hlen
 have HG:=aA (hE.gl)
 have ht:dI NM (.tri 27 x y z)=pG 27++40::(jn NM [x,y,z] 3++[41]):=by simp[dI,jn,List.range_succ]
 have hN:∀ j,j < 3->dM w t b NM NS (([x,y,z]:List E).getD j z0):=by
   intro j hj
   match j,hj with
   | 0,_=>exact hx
   | 1,_=>exact hy
   | 2,_=>exact hz
   | _+3,hj=>exact absurd hj (by omega)
 have hS:∀ j,j < 3->dK NS (([x,y,z]:List E).getD j z0) (([p,q,r]:List Nat).getD j 0):=by
   intro j hj
   match j,hj with
   | 0,_=>exact lx
   | 1,_=>exact ly
   | 2,_=>exact lz
   | _+3,hj=>exact absurd hj (by omega)
 have hC:∀ j,j < 3->(#[.i ((p:Nat):Int),.i ((q:Nat):Int),.i ((r:Nat):Int)]:Array Value)[j]?=some (.i ((([p,q,r]:List Nat).getD j 0:Nat):Int)):=by
   intro j hj
   match j,hj with
   | 0,_=>rfl
   | 1,_=>rfl
   | 2,_=>rfl
   | _+3,hj=>exact absurd hj (by omega)
 have HL2:=aA (show out.length+(pG 27).length+(jn NM [x,y,z] 3).length+2<=1099511627776 by rw[ht] at hlen;simp at hlen;omega)
 have HT:=aA (show out++dI NM (.tri 27 x y z)=out++(pG ((27:Nat):Int)++40::(jn NM [x,y,z] 3++[41])) by rw[ht];rfl)
 have HP0A:=aA (HP0.o.later (aD _ (.cells #[.i ((p:Nat):Int),.i ((q:Nat):Int),.i ((r:Nat):Int)] 3)))
 have HK0A:=aA (HK0.o.trans (Kp.of_below SP (aD _ (.cells #[.i ((p:Nat):Int),.i ((q:Nat):Int),.i ((r:Nat):Int)] 3))))
 have HQ:=aA (aB.new (W.alloc (.cells (bH ⟨27,((p:Nat):Int),((q:Nat):Int),((r:Nat):Int),0,0,0,0,0⟩) 137)) 3 #[.i ((p:Nat):Int),.i ((q:Nat):Int),.i ((r:Nat):Int)])
 have Hc:=aA (kV hE [x,y,z] [p,q,r] 3 (by decide) hN hS 27 (by decide) _ out HP0A.o _ #[.i ((p:Nat):Int),.i ((q:Nat):Int),.i ((r:Nat):Int)] HQ.o hC HL2.o)
 rw[wSa] at Hc
 clear ht hN hS hC HL hx hy hz lx ly lz
 simp only at n0 n1 n2 n3 n4 n5 n6 n7 n8
 clear hp0 hb0 hown0 hP hi hdv hlen hE
 go_enter Tryz.func141,Tryz.ntmps141
 go_wp2_with fail
 refine Hc.o.mono ?_
 rintro e W1 ⟨rfl,hP1,hK1⟩
 have HP1:=aA hP1
 have HK1:=aA (HK0A.o.trans hK1)
 clear hP1 hK1 HP0 HX0 n0 n1 n2 n3 n4 n5 n6 n7 n8 c4
 go_wp2_with fail
 go_end0
 exact⟨rfl,HT.o ▸ HP1.o,HK1.o⟩
theorem aRt {t:Tv}{NM:List aM}{NS:List Nd}(hE:Env w t NM BS NS root){x y z:E}(hx:dM w t b NM NS x)(hy:dM w t b NM NS y)(hz:dM w t b NM NS z)(ho:1<=wJ x/\wJ x<=28)(p q r:Nat)(lx:dK NS x p)(ly:dK NS y q)(lz:dK NS z r)
  (W:World) (out:List UInt8) (i:Nat) (hP:Pb w W b t out) (hi:NS[i]?=some ⟨28,((p:Nat):Int),((q:Nat):Int),((r:Nat):Int),0,0,0,0,0⟩) (hlen:out.length+(dI NM (.tri 28 x y z)).length<=1099511627776) :
  Calls Tryz.prog 141 #[ptr b,.i i] W fun r W'=>r=.returned (.tuple #[])/\Pb w W' b t (out++dI NM (.tri 28 x y z))/\Kp SP W W':=by
 obtain⟨g,off,dl,dc,hdv,hil,hdl,hdc,⟨n0,n1,n2,n3,n4,n5,n6,n7,n8⟩,hg⟩:=hE.node hP hi
 obtain⟨p0,v0,hp0,hb0,hown0⟩:=hP.ex
 have c4:W.cell? ⟨b,4,none⟩=some t.dv:=hb0.cell 4 rfl
 rw[hdv] at c4
 have HX0:=aA (aB.new W 137 (bH ⟨28,((p:Nat):Int),((q:Nat):Int),((r:Nat):Int),0,0,0,0,0⟩))
 have HP0:=aA (hP.later (aD W (.cells (bH ⟨28,((p:Nat):Int),((q:Nat):Int),((r:Nat):Int),0,0,0,0,0⟩) 137)))
 have HK0:=aA (Kp.of_below SP (aD W (.cells (bH ⟨28,((p:Nat):Int),((q:Nat):Int),((r:Nat):Int),0,0,0,0,0⟩) 137)))
 have HL:=aA hlen
 have HG:=aA (hE.gl)
 have Hc:=aA (aGp hE hx hy hz ho _ out p q r HP0.o lx ly lz hlen)
 clear hx hy hz ho lx ly lz
 simp only at n0 n1 n2 n3 n4 n5 n6 n7 n8
 clear hp0 hb0 hown0 hP hi hdv hlen hE
 go_enter Tryz.func141,Tryz.ntmps141
 go_wp2_with fail
 refine(Hc.o).mono ?_
 rintro e W1 ⟨rfl,hP1,hK1⟩
 have HP1:=aA hP1
 have HK1:=aA (HK0.o.trans hK1)
 clear hP1 hK1 HP0 HX0 n0 n1 n2 n3 n4 n5 n6 n7 n8 c4
 go_wp2_with fail
 go_end0
 exact⟨rfl,HP1.o,HK1.o⟩
theorem aV2 {t:Tv}{NM:List aM}{NS:List Nd}(hE:Env w t NM BS NS root)(k:Nat)(hk:8<=k/\k<=23){x y:E}(hx:dM w t b NM NS x)(hy:dM w t b NM NS y)(hox:1<=wJ x/\wJ x<=28)(hoy:1<=wJ y/\wJ y<=28)(p q:Nat)(lx:dK NS x p)(ly:dK NS y q)
  (W:World) (out:List UInt8) (i:Nat) (hP:Pb w W b t out) (hi:NS[i]?=some ⟨((k:Nat):Int),((p:Nat):Int),((q:Nat):Int),0,0,0,0,0,0⟩) (hlen:out.length+(dI NM (.bin k x y)).length<=1099511627776) :
  Calls Tryz.prog 141 #[ptr b,.i i] W fun r W'=>r=.returned (.tuple #[])/\Pb w W' b t (out++dI NM (.bin k x y))/\Kp SP W W':=by
 obtain⟨g,off,dl,dc,hdv,hil,hdl,hdc,⟨n0,n1,n2,n3,n4,n5,n6,n7,n8⟩,hg⟩:=hE.node hP hi
 obtain⟨p0,v0,hp0,hb0,hown0⟩:=hP.ex
 have c4:W.cell? ⟨b,4,none⟩=some t.dv:=hb0.cell 4 rfl
 rw[hdv] at c4
 have HX0:=aA (aB.new W 137 (bH ⟨((k:Nat):Int),((p:Nat):Int),((q:Nat):Int),0,0,0,0,0,0⟩))
 have HP0:=aA (hP.later (aD W (.cells (bH ⟨((k:Nat):Int),((p:Nat):Int),((q:Nat):Int),0,0,0,0,0,0⟩) 137)))
 have HK0:=aA (Kp.of_below SP (aD W (.cells (bH ⟨((k:Nat):Int),((p:Nat):Int),((q:Nat):Int),0,0,0,0,0,0⟩) 137)))
 have HL:=aA hlen
 have HG:=aA (hE.gl)
 have Hc:=aA (aEb hE hx hy hox hoy k hk _ out p q HP0.o lx ly hlen)
 have t1:((k:Int)==1)=false:=by simp;omega
 have t2:((k:Int)==2)=false:=by simp;omega
 have t3:((k:Int)==3)=false:=by simp;omega
 have t4:((k:Int)==4)=false:=by simp;omega
 have t5:((k:Int)==5)=false:=by simp;omega
 have t6:((k:Int)==6)=false:=by simp;omega
 have t7:((k:Int)==7)=false:=by simp;omega
 have t24:((k:Int)==24)=false:=by simp;omega
 have t25:((k:Int)==25)=false:=by simp;omega
 have t26:((k:Int)==26)=false:=by simp;omega
 have t27:((k:Int)==27)=false:=by simp;omega
 have t28:((k:Int)==28)=false:=by simp;omega
 clear hx hy hox hoy lx ly
 simp only at n0 n1 n2 n3 n4 n5 n6 n7 n8
 clear hp0 hb0 hown0 hP hi hdv hlen hE
 go_enter Tryz.func141,Tryz.ntmps141
 go_wp2_with fail
 refine(Hc.o).mono ?_
 rintro e W1 ⟨rfl,hP1,hK1⟩
 have HP1:=aA hP1
 have HK1:=aA (HK0.o.trans hK1)
 clear hP1 hK1 HP0 HX0 n0 n1 n2 n3 n4 n5 n6 n7 n8 c4
 go_wp2_with fail
 go_end0
 exact⟨rfl,HP1.o,HK1.o⟩
end
section
open Go.RowKit Go.IntWalk Lx Pz Go.Sort
theorem aIz {bd:Nat}{e:E}(h:Gd bd e):1<=wJ e/\wJ e<=28:=by
 cases e with
 | leaf n=>have:=xD h;simp only[wJ];omega
 | un o a=>have:=aPx h.1;simp only[wJ];omega
 | bin o a b=>have:=aPy h.1;simp only[wJ];omega
 | tri o a b c=>have:=aFt h.1;simp only[wJ];omega
theorem aJf {n:Nd}{op a b c k back co x y:Int}(h0:n.op=op)(h1:n.a=a)(h2:n.b=b)(h3:n.c=c)(h4:n.k=k)(h5:n.back=back)(h6:n.co=co)(h7:n.x=x)(h8:n.y=y):n=⟨op,a,b,c,k,back,co,x,y⟩:=by
 cases n;simp_all
theorem iW {w:World}{t:Tv}{NM:List aM}{BS:List Int}{NS:List Nd}{root:Int}{b:Nat}(hE:Env w t NM BS NS root){bd:Nat}(hbd:bd<=NM.length):∀(e:E),Gd bd e->dM w t b NM NS e
 | .leaf n,hg=>by
  intro W out i hP hL hlen
  obtain⟨ha,hb,hc,h⟩:=xD hg
  rcases h with⟨ho,hk,-,hr⟩|⟨h5,h6,h7,h8,⟨ho,hk⟩|⟨ho,hk⟩|⟨ho,hk⟩⟩
  ·have e:n=⟨3,0,0,0,0,n.back,n.co,n.x,n.y⟩:=aJf ho ha hb hc hk rfl rfl rfl rfl
   have ht:dI NM (.leaf n)=vL n:=by simp only[dI,wH,ho];rfl
   rw[ht] at hlen ⊢
   have hi:NS[i]?=some n:=hL
   rw[e] at hi hlen ⊢
   exact aVx hE n.back n.co n.x n.y ⟨hr.1,hr.2.1⟩ ⟨hr.2.2.1,hr.2.2.2.1⟩ ⟨hr.2.2.2.2.1,hr.2.2.2.2.2⟩ W out i hP hi hlen
  ·have e:n=⟨1,0,0,0,n.k,0,0,0,0⟩:=aJf ho ha hb hc rfl h5 h6 h7 h8
   have ht:dI NM (.leaf n)=Lib.itoa n.k:=by simp only[dI,wH,ho];rfl
   rw[ht] at hlen ⊢
   have hi:NS[i]?=some n:=hL
   rw[e] at hi
   exact aVv hE n.k hk W out i hP hi hlen
  ·obtain⟨k,hk2⟩:∃ k:Nat,n.k=k:=⟨n.k.toNat,by omega⟩
   have e:n=⟨2,0,0,0,((k:Nat):Int),0,0,0,0⟩:=aJf ho ha hb hc hk2 h5 h6 h7 h8
   have ht:dI NM (.leaf n)=zC.getD k []:=by simp only[dI,wH,ho,hk2];rfl
   rw[ht] at hlen ⊢
   have hi:NS[i]?=some n:=hL
   rw[e] at hi
   exact aVw hE k (by omega) W out i hP hi hlen
  ·obtain⟨k,hk2⟩:∃ k:Nat,n.k=k:=⟨n.k.toNat,by omega⟩
   have e:n=⟨4,0,0,0,((k:Nat):Int),0,0,0,0⟩:=aJf ho ha hb hc hk2 h5 h6 h7 h8
   have ht:dI NM (.leaf n)=NM.getD k []:=by simp only[dI,wH,ho,hk2];rfl
   rw[ht] at hlen ⊢
   have hi:NS[i]?=some n:=hL
   rw[e] at hi
   exact aVy hE k (by omega) W out i hP hi hlen
 | .un o x,hg=>by
  intro W out i hP hL hlen
  have hx:=iW (b:=b) hE hbd x hg.2
  obtain⟨p,hi,lx⟩:=hL
  rcases aPx hg.1 with rfl|rfl|rfl
  ·exact aVz hE hx (aIz hg.2) p lx W out i hP hi hlen
  ·exact aV0 hE hx p lx W out i hP hi hlen
  ·exact aV1 hE hx p lx W out i hP hi hlen
 | .bin o x y,hg=>by
  intro W out i hP hL hlen
  have hx:=iW (b:=b) hE hbd x hg.2.1
  have hy:=iW (b:=b) hE hbd y hg.2.2
  obtain⟨p,q,hi,lx,ly⟩:=hL
  have ho:=aPy hg.1
  by_cases h24:o=24
  ·subst h24;exact aRp hE hx hy p q lx ly W out i hP hi hlen
  by_cases h25:o=25
  ·subst h25;exact aRq hE hx hy p q lx ly W out i hP hi hlen
  obtain⟨k,rfl⟩:∃ k:Nat,o=k:=⟨o.toNat,by omega⟩
  exact aV2 hE k (by omega) hx hy (aIz hg.2.1) (aIz hg.2.2) p q lx ly W out i hP hi hlen
 | .tri o x y z,hg=>by
  intro W out i hP hL hlen
  have hx:=iW (b:=b) hE hbd x hg.2.1
  have hy:=iW (b:=b) hE hbd y hg.2.2.1
  have hz:=iW (b:=b) hE hbd z hg.2.2.2
  obtain⟨p,q,r,hi,lx,ly,lz⟩:=hL
  rcases aFt hg.1 with rfl|rfl|rfl
  ·exact aRr hE hx hy hz p q r lx ly lz W out i hP hi hlen
  ·exact aRs hE hx hy hz p q r lx ly lz W out i hP hi hlen
  ·exact aRt hE hx hy hz (aIz hg.2.1) p q r lx ly lz W out i hP hi hlen
def ltT (NM:List aM)(es:List E)(k:Nat):aM:=(List.range k).flatMap fun j=>[108,101,116,32]++(NM.getD j []++61::(dI NM (es.getD j z0)++[59]))
theorem uI (NM:List aM)(es:List E)(k:Nat):ltT NM es (k+1)=ltT NM es k++([108,101,116,32]++(NM.getD k []++61::(dI NM (es.getD k z0)++[59]))):=by simp[ltT,List.range_succ]
theorem aOr (NM:List aM)(es:List E){k n:Nat}(h:k<=n):(ltT NM es k).length<=(ltT NM es n).length:=by
 induction n with
 | zero=>rw[show k=0 by omega];exact nLr _
 | succ n ih =>
  by_cases e:k=n+1
  ·rw[e];exact nLr _
  ·rw[uI,lLa];have:=ih (by omega);omega
theorem aEc {w:World}{t:Tv}{NM:List aM}{BS:List Int}{NS:List Nd}{b:Nat}{r:Nat}(hE:Env w t NM BS NS (r:Int))(es:List E)(ex:E)(n:Nat)(hnm:NM.length=n)(hbs:BS.length=n)(hn:n<=1024)
  (hN:∀ j,j < n->dM w t b NM NS (es.getD j z0)) (hps:∀ j,j < n->∃ p:Nat,BS.getD j 0=p/\dK NS (es.getD j z0) p) (hR:dM w t b NM NS ex) (hlr:dK NS ex r)
  (W:World) (hP:Pb w W b t []) (hlen:(ltT NM es n).length+(dI NM ex).length<=1099511627776) :
  Calls Tryz.prog 75 #[ptr b] W fun e W'=>e=.returned (.tuple #[])/\Pb w W' b t (ltT NM es n++dI NM ex):=by
 obtain⟨na,nl,nc,hnv,hTx⟩:=hE.names
 obtain⟨ba,bl,bc,hbv,hIz⟩:=hE.binds
 have h1:=hTx.len
 have h2:=hIz.len
 have h3:=hTx.le
 have h4:=hTx.max
 have h5:=hIz.le
 obtain rfl:nl=n:=by omega
 obtain rfl:bl=nl:=by omega
 have hrv:=hE.root
 obtain⟨nv,bv,dv,rv⟩:=t
 simp only at hnv hbv hrv
 subst hnv hbv hrv
 obtain⟨p0,v0,hp0,hb0,-⟩:=hP.ex
 have c2:W.cell? ⟨b,2,none⟩=some (.slice na bl nc):=hb0.cell 2 rfl
 have HP0:=aA hP
 have HTx:=aA hTx
 have HIz:=aA hIz
 have HN:=aA hN
 have HPS:=aA hps
 have HR:=aA hR
 have HLR:=aA hlr
 have HL:=aA hlen
 clear hP hTx hIz hN hps hR hlr hlen hE h1 h2 hnm hbs hp0 hb0
 go_enter Tryz.func75,Tryz.ntmps75
 go_wp2_with fail
 go_loopw [10] (fun i wr=>∃ k:Nat,k<=bl/\i=.i k/\Hid (Pb w wr b ⟨.slice na bl nc,.slice ba bl bc,dv,.i r⟩ (ltT NM es k))) (fun i _=>bl-(intOf i).toNat)
 case atStart=>exact⟨0,nZl _,rfl,HP0⟩
 case round =>
  obtain⟨j,hj,rfl,HPj⟩:=hrel
  rename World=>V
  clear HP0 c2
  by_cases hlt:j < bl
  ·obtain⟨gn,ofn,rfl,e1⟩:∃ gn ofn,na=some ⟨gn,ofn,none⟩/\V.cell? ⟨gn,ofn+j,none⟩=some (.string (sB (NM.getD j []))):=by
    rcases(HTx.o.later HPj.o.old).cell with h0|⟨gn,ofn,ha,hc⟩
    ·omega
    ·exact⟨gn,ofn,ha,hc j hlt⟩
   have HNj:=aA (HN.o j hlt)
   obtain⟨pj,hpj,hlj⟩:=HPS.o j hlt
   have HLj:=aA hlj
   have HPJ:=aA hpj
   have hm:=aOr NM es (show j+1<=bl from hlt)
   rw[uI] at hm
   have HM:=aA hm
   have HJ:=aA (uI NM es j)
   clear hm hpj hlj
   generalize es.getD j z0=ej at *
   generalize NM.getD j []=tx at *
   have hj1:(j:Int) < bl:=by omega
   go_wp2_with fail
   refine(aY HPj.o _ (by have:=HL.o;have:=HM.o;simp[bs] at *;omega)).mono ?_
   rintro e V1 ⟨rfl,hP,-⟩
   have HP1:=aA hP
   clear hP e1
   go_wp2_with fail
   refine(aY HP1.o _ (by have:=HL.o;have:=HM.o;simp[bs] at *;omega)).mono ?_
   rintro e V2 ⟨rfl,hP,-⟩
   have HP2:=aA hP
   clear hP HP1
   go_wp2_with fail
   refine(aT HP2.o 61 (by decide) (by have:=HL.o;have:=HM.o;simp[bs] at *;omega)).mono ?_
   rintro e V3 ⟨rfl,hP,-⟩
   have HP3:=aA hP
   clear hP HP2
   obtain⟨p0,v0,hp0,hb0,-⟩:=HP3.o.ex
   have c3:V3.cell? ⟨b,3,none⟩=some (.slice ba bl bc):=hb0.cell 3 rfl
   obtain⟨gb,ofb,rfl,e2⟩:∃ gb ofb,ba=some ⟨gb,ofb,none⟩/\V3.cell? ⟨gb,ofb+j,none⟩=some (.i (pj:Int)):=by
    rcases(HIz.o.later HP3.o.old).cell with h0|⟨gb,ofb,ha,-,hc⟩
    ·omega
    ·have:=hc j hlt
     rw[HPJ.o] at this
     exact⟨gb,ofb,ha,this⟩
   clear hp0 hb0
   go_wp2_with fail
   refine(HNj.o V3 _ pj HP3.o HLj.o (by have:=HL.o;have:=HM.o;simp[bs] at *;omega)).mono ?_
   rintro e V4 ⟨rfl,hP,-⟩
   have HP4:=aA hP
   clear hP HP3 c3 e2
   go_wp2_with fail
   refine(aT HP4.o 59 (by decide) (by have:=HL.o;have:=HM.o;simp[bs] at *;omega)).mono ?_
   rintro e V5 ⟨rfl,hP,-⟩
   rw[show ltT NM es j++bs { data:=#[108,101,116,32] }++bs (sB tx)++[UInt8.ofNat 61]++dI NM ej++[UInt8.ofNat 59]=ltT NM es (j+1) by rw[HJ.o,iB];simp[bs]] at hP
   have HP5:=aA hP
   clear hP HP4
   go_wp2_with fail
   go_roundw
   case rel=>exact⟨j+1,by omega,by go_num,HP5⟩
   case measure=>simp[intOf];omega
  ·obtain rfl:j=bl:=by omega
   obtain⟨p0,v0,hp0,hb0,-⟩:=HPj.o.ex
   have c5:V.cell? ⟨b,5,none⟩=some (.i (r:Int)):=hb0.cell 5 rfl
   clear hp0 hb0
   go_wp2_with fail
   refine(HR.o V _ r HPj.o HLR.o (by have:=HL.o;omega)).mono ?_
   rintro e V1 ⟨rfl,hP,-⟩
   have HP4:=aA hP
   clear hP
   go_wp2_with fail
   go_end0
   exact⟨rfl,HP4.o⟩
end
open Go.RowKit Go.IntWalk Lx Pz Go.Sort
variable {BS:List Int} {root:Int}
theorem aJ8 {s:aM}(h:rW s=true):s.length<=16:=by simp only[rW,bAt,dEt] at h;exact h.1.1.2
theorem aHk {NM:List aM}(h:zO NM=true){s:aM}(hs:s ∈ NM):rW s=true/\mU s=false:=by
 simp only[zO,bAt,lAe] at h
 have:=h.1 s hs
 simpa using this
theorem aPc {NM:List aM}(h:zO NM=true)(k:Nat):(NM.getD k []).length<=16:=by
 rw[gdE]
 cases hk:NM[k]? with
 | none=>simp
 | some s=>exact aJ8 (aHk h (List.mem_of_getElem? hk)).1
theorem aDd (o:Int):(pG o).length<=5:=by
 unfold pG
 have:∀ x ∈ oO,x.1.length<=5:=by decide
 rw[gdE]
 cases h:oO[o.toNat]? with
 | none=>simp
 | some x=>exact this x (List.mem_of_getElem? h)
theorem aTd (k:Nat):(zC.getD k []).length<=5:=by
 have:∀ x ∈ zC,x.length<=5:=by decide
 rw[gdE]
 cases h:zC[k]? with
 | none=>simp
 | some x=>exact this x (List.mem_of_getElem? h)
theorem aCa (x:Bool)(l:aM):(brk x l).length<=l.length+2:=by unfold brk;split <;> simp
theorem mD {NM:List aM}(hn:zO NM=true){bd:Nat}:∀(e:E),Gd bd e->(dI NM e).length<=80*e.size
 | .leaf n,hg=>by
  obtain⟨-,-,-,h⟩:=xD hg
  simp only[dI,E.size]
  have h1:=aPc hn n.k.toNat
  have h2:=aTd n.k.toNat
  unfold wH
  split
  ·have:=uF (n:=n.k) (by omega) (by omega);omega
  split
  ·omega
  split
  ·omega
  ·rename_i h3 h4 h5
   have hb:=uF (n:=n.back) (by omega) (by omega)
   have hx:=uF (n:=n.x) (by omega) (by omega)
   have hy:=uF (n:=n.y) (by omega) (by omega)
   unfold vL
   split <;> split <;> simp <;> omega
 | .un o a,hg=>by
  have h1:=mD hn a hg.2
  have h2:=aDd o
  have h3:=aCa (decide (rkE a < 8)) (dI NM a)
  simp only[dI,E.size]
  split <;> simp <;> omega
 | .bin o a b,hg=>by
  have h1:=mD hn a hg.2.1
  have h1b:=mD hn b hg.2.2
  have h2:=aDd o
  have h3:=aCa (decide (rkE a < lfk o)) (dI NM a)
  have h4:=aCa (decide (rkE b < ork o+1)) (dI NM b)
  simp only[dI,E.size]
  split <;> simp only[lLa,lLc,lLn] <;> omega
 | .tri o a b c,hg=>by
  have h1:=mD hn a hg.2.1
  have h1b:=mD hn b hg.2.2.1
  have h1c:=mD hn c hg.2.2.2
  have h2:=aDd o
  have h3:=aCa (decide (rkE a < 1)) (dI NM a)
  simp only[dI,E.size]
  split <;> simp only[lLa,lLc,lLn] <;> omega
theorem aCs {es:List E}{j:Nat}(h:j < es.length):es[j]?=some (es.getD j z0):=by
 rw[gdE,gEg h];rfl
theorem aJ2:∀(es:List E) (k:Nat),k < es.length->bZ (es.take (k+1))=bZ (es.take k)+(es.getD k z0).size
 | [],k,h=>by simp at h
 | a::es,0,h=>by simp[bZ]
 | a::es,k+1,h=>by
  have:=aJ2 es k (by simpa using h)
  simp only[List.take_succ_cons,bZ,this,List.getD_cons_succ]
  omega
theorem aJa {NM:List aM}(hn:zO NM=true){es:List E}(hg:∀ j e,es[j]?=some e->Gd j e):∀ k,k<=es.length->(ltT NM es k).length<=22*k+80*bZ (es.take k)
 | 0,_=>by simp[ltT]
 | k+1,h=>by
  have h1:=aJa hn hg k (by omega)
  have h2:=mD hn _ (hg k _ (aCs (by omega)))
  have h3:=aPc hn k
  rw[uI,aJ2 es k (by omega)]
  simp only[lLa,lLc,lLn]
  omega
def whole (NM:List aM)(es:List E)(ex:E):aM:=ltT NM es es.length++dI NM ex
theorem Dec.short {NM:List aM}{NS:List Nd}{es:List E}{ex:E}(h:Dec NM BS NS root es ex):(whole NM es ex).length<=200000:=by
 have h1:=aJa h.ok h.gd es.length (nLr _)
 have h2:=mD h.ok ex h.gx
 have h3:=h.few
 rw[h.nodes,lLa,E.flat_len,dD] at h3
 have h4:es.length<=bZ es:=by
  clear h h1 h2 h3
  induction es with
  | nil=>simp
  | cons a es ih=>have:=a.size_pos;simp only[lLc,bZ];omega
 unfold whole
 rw[lLa]
 rw[lTg] at h1
 omega
theorem aI8 {NM:List aM}{bd:Nat}(hn:zO NM=true)(hb:bd<=NM.length):∀(e:E),Gd bd e->dI NM e≠[]
 | .leaf n,hg=>by
  obtain⟨-,-,-,h⟩:=xD hg
  simp only[dI]
  have hi:∀ z:Int,Lib.itoa z≠[]:=by
   intro z
   unfold Lib.itoa
   split
   ·simp
   ·unfold Lib.decDigits;split <;> simp
  unfold wH
  split
  ·exact hi _
  split
  ·have:∀ k,k < 6->zC.getD k []≠[]:=by decide
   exact this _ (by omega)
  split
  ·have hk:n.k.toNat < NM.length:=by omega
   rw[gdE,gEg hk]
   have:=(aHk hn (List.getElem_mem hk)).1
   intro e
   simp only[oGs] at e
   rw[e] at this
   exact absurd this (by decide)
  ·unfold vL;split <;> simp
 | .un o a,hg=>by simp only[dI];split <;> simp
 | .bin o a b,hg=>by
  have h1:=aI8 hn hb a hg.2.1
  have h2:∀ x,brk x (dI NM a)≠[]:=by intro x;unfold brk;split <;> simp[h1]
  simp only[dI];split
  ·simp
  ·intro e;exact h2 _ (List.append_eq_nil_iff.1 e).1
 | .tri o a b c,hg=>by simp only[dI];split <;> simp
theorem aRl {NM:List aM}{NS:List Nd}{es:List E}{ex:E}(h:Dec NM BS NS root es ex):whole NM es ex≠[]:=by
 intro e
 exact aI8 h.ok (by rw[h.names];exact nLr _) ex h.gx (List.append_eq_nil_iff.1 e).2
abbrev aRe (na ba da:Option Addr)(nl nc bl bc dl dc:Nat)(root:Int):Value:=.agg (eY (.slice na nl nc) (.slice ba bl bc) (.slice da dl dc) (.i root))
theorem aYn (W:World)(t:Tv):Pb W (W.alloc (.cells (pcs (.pointer none) (.slice none 0 0) t) 145)) W.heap.size t [] :=
 ⟨⟨_,_,.inl rfl,aB.new W 145 _,⟨rfl,.inl ⟨rfl,rfl⟩⟩⟩,nLr _,aD _ _⟩
theorem aFu {W:World}{na ba da:Option Addr}{nl nc bl bc dl dc:Nat}{NM:List aM}{NS:List Nd}(hX:Tx W na nl nc NM)(hB:Iz W ba bl bc BS)(hN:Nz W da dl dc NS)(hG:Gl W){es:List E}{ex:E}(hD:Dec NM BS NS root es ex) :
  Calls Tryz.prog 33 #[aRe na ba da nl nc bl bc dl dc root] W fun e W'=>e=.returned (.tuple (if 1024 < (whole NM es ex).length then #[.string ⟨#[]⟩,.i 4] else #[.string (sB (whole NM es ex)),.i 0]))/\Below W.heap.size W W':=by
 have hs:∀ s ∈ NM,s.length<=9223372036854775807:=fun s h=>by have:=aJ8 (aHk hD.ok h).1;omega
 have hb0:=aD W (.cells (eY (.slice na nl nc) (.slice ba bl bc) (.slice da dl dc) (.i root)) 50)
 have HC:=aA (uX (root:=root) (hX.later hb0) (hB.later hb0) (hN.later hb0) hs)
 rw[iK.2 ⟨es,ex,hD⟩] at HC
 have HV:=aA (fun(V:World) (hV:Below W.heap.size W V)=>(show Env V ⟨.slice na nl nc,.slice ba bl bc,.slice da dl dc,.i root⟩ NM BS NS root from⟨⟨_,_,_,rfl,hX.later hV⟩,⟨_,_,_,rfl,hB.later hV⟩,⟨_,_,_,rfl,hN.later hV⟩,rfl,hG.later hV,hD.few⟩))
 have hnl:=hX.len
 have hbl:=hB.len
 obtain⟨r,hr⟩:∃ r:Nat,root=r:=⟨NS.length-1,by
  have h2:1<=NS.length:=by rw[hD.nodes,lLa,E.flat_len];have:=ex.size_pos;omega
  rw[hD.root];omega⟩
 have hH:=aB.new W 50 (eY (.slice na nl nc) (.slice ba bl bc) (.slice da dl dc) (.i root))
 have HB:=aA hb0
 have HH:=aA hH
 have HP:=aA (fun(V:World) (hV:Below W.heap.size W V)=>show Calls Tryz.prog 75 #[ptr V.heap.size] (V.alloc (.cells (pcs (.pointer none) (.slice none 0 0) ⟨.slice na nl nc,.slice ba bl bc,.slice da dl dc,.i root⟩) 145)) fun e W'=>e=.returned (.tuple #[])/\Pb V W' V.heap.size ⟨.slice na nl nc,.slice ba bl bc,.slice da dl dc,.i root⟩ (whole NM es ex) from by
  have hE:=HV.o V hV
  have hsh:=hD.short
  unfold whole at hsh ⊢
  rw[lLa] at hsh
  have hle:es.length<=1024:=by
   have h3:=hD.few
   have h4:BS.length<=NS.length:=aJl (zU.2 ⟨es,ex,hD.nodes,hD.binds,hD.gd,hD.gx⟩)
   rw[hD.binds,eX] at h4
   omega
  subst hr
  refine aEc hE es ex es.length hD.names (by rw[hD.binds,eX]) hle (fun j hj=>iW hE (bd:=j) (by rw[hD.names];omega) _ (hD.gd j _ (aCs hj))) (fun j hj=>?_) (iW hE (bd:=es.length) (by rw[hD.names];exact nLr _) ex hD.gx) ?_ _ (aYn V _) (by omega)
  ·obtain⟨p,h1,h2⟩:=aBe es [] (ex.flat (bZ es)) j _ (aCs hj)
   refine⟨p,?_,?_⟩
   ·rw[hD.binds,gdE]
    simp only[lLn] at h1
    rw[h1];rfl
   ·rw[hD.nodes]
    simpa using h2
  ·have h1:=iQ ex (jL es 0) []
   rw[dD,List.append_nil,<-hD.nodes] at h1
   have h2:=hD.root
   rw[hD.nodes,lLa,E.flat_len,dD] at h2
   have h3:=ex.size_pos
   rw[show r=bZ es+ex.size-1 by omega]
   exact h1)
 have HS:=aA (fun(V W':World) (hP:Pb V W' V.heap.size ⟨.slice na nl nc,.slice ba bl bc,.slice da dl dc,.i root⟩ (whole NM es ex))=>(And.intro (xE hP) (aH5 hP (aRl hD))))
 clear hX hB hN hs hb0 hD hG HV hnl hbl hr hH
 generalize whole NM es ex=T at *
 by_cases hlen:1024 < T.length
 ·rw[if_pos hlen]
  go_enter Tryz.func33,Tryz.ntmps33
  go_wp2_with fail
  refine HC.o.mono ?_
  rintro e W1 ⟨rfl,hb⟩
  have HB1:=aA (bel HB.o hb)
  have HH1:=aA (HH.o.below hb)
  obtain⟨c0,c1,c2,c3⟩:=aX HH1.o
  clear hb HB HH HC
  go_wp2_with fail
  refine(HP.o W1 HB1.o).mono ?_
  rintro e W2 ⟨rfl,hP⟩
  have HP2:=aA hP
  clear hP c0 c1 c2 c3 HH1 HP
  go_wp2_with fail
  refine(HS.o W1 W2 HP2.o).1.mono ?_
  rintro e W3 ⟨rfl,rfl⟩
  go_wp2_with fail
  go_ret2
  exact⟨rfl,bel HB1.o HP2.o.old⟩
 ·rw[if_neg hlen]
  go_enter Tryz.func33,Tryz.ntmps33
  go_wp2_with fail
  refine HC.o.mono ?_
  rintro e W1 ⟨rfl,hb⟩
  have HB1:=aA (bel HB.o hb)
  have HH1:=aA (HH.o.below hb)
  obtain⟨c0,c1,c2,c3⟩:=aX HH1.o
  clear hb HB HH HC
  go_wp2_with fail
  refine(HP.o W1 HB1.o).mono ?_
  rintro e W2 ⟨rfl,hP⟩
  have HP2:=aA hP
  clear hP c0 c1 c2 c3 HH1 HP
  go_wp2_with fail
  refine(HS.o W1 W2 HP2.o).1.mono ?_
  rintro e W3 ⟨rfl,rfl⟩
  go_wp2_with fail
  refine(HS.o W1 W3 HP2.o).2.mono ?_
  rintro e W4 ⟨rfl,hb⟩
  go_wp2_with fail
  go_ret2
  exact⟨rfl,bel HB1.o hb⟩
end Go.Proofs.YticnbcfmbhjbgaaGreatDoor
