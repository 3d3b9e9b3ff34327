import Derived.Test.YticnbcfmbhjbgabGreatDoorXH
import Derived.Test.YticnbcfmbhjbgabGreatDoorX46
import Derived.Test.YticnbcfmbhjbgabGreatDoorX12
import Derived.Test.YticnbcfmbhjbgabGreatDoorX10
import Derived.Test.YticnbcfmbhjbgabGreatDoorX28
set_option maxRecDepth 100000
set_option maxHeartbeats 32000000
set_option linter.unusedVariables false
namespace Go.Proofs.YticnbcfmbhjbgabGreatDoor
open Go.RowKit Go.IntWalk Lx Pz Go.Sort
open Spn (aM)
variable {w:World} {BS:List Int} {root:Int} {b:Nat}
theorem aVh {t:Tv}{NM:List aN}{NS:List Nd}(hE:Env w t NM BS NS root)(k:Int)(hk:0<=k/\k<=2147483647)
  (W:World) (out:List UInt8) (i:Nat) (hP:Pb w W b t out) (hi:NS[i]?=some ⟨1,0,0,0,k,0,0,0,0⟩) (hlen:out.length+(Lib.itoa k).length<=1099511627776) :
  Calls Tryz.prog 144 #[ptr b,.i i] W fun r W'=>r=.returned (.tuple #[])/\Pb w W' b t (out++Lib.itoa k)/\Kp SP W W':=by
 obtain⟨g,off,dl,dc,hdv,hil,hdl,hdc,⟨n0,n1,n2,n3,n4,n5,n6,n7,n8⟩,hg⟩:=hE.node hP hi
 obtain⟨p0,v0,hp0,hb0,hown0⟩:=hP.ex
 have c4:W.cell? ⟨b,4,none⟩=some t.dv:=hb0.cell 4 rfl
 rw[hdv] at c4
 have HX0:=aA (aB.new W 124 (bN ⟨1,0,0,0,k,0,0,0,0⟩))
 have HP0:=aA (hP.later (aD W (.cells (bN ⟨1,0,0,0,k,0,0,0,0⟩) 124)))
 have HK0:=aA (Kp.of_below SP (aD W (.cells (bN ⟨1,0,0,0,k,0,0,0,0⟩) 124)))
 have HL:=aA hlen
 have HG:=aA (hE.gl)
 simp only at n0 n1 n2 n3 n4 n5 n6 n7 n8
 clear hp0 hb0 hown0 hP hi hdv hlen hE
 go_enter Tryz.func144,Tryz.ntmps144
 go_wp2_with fail
 refine(eO HP0.o HG.o k (by omega) (by omega) HL.o).mono ?_
 rintro e W1 ⟨rfl,hP1,hK1⟩
 have HP1:=aA hP1
 have HK1:=aA (HK0.o.trans hK1)
 clear hP1 hK1 HP0 HX0 n0 n1 n2 n3 n4 n5 n6 n7 n8 c4
 go_wp2_with fail
 go_end0
 exact⟨rfl,HP1.o,HK1.o⟩
theorem aVi {t:Tv}{NM:List aN}{NS:List Nd}(hE:Env w t NM BS NS root)(k:Nat)(hk:k < 6)
  (W:World) (out:List UInt8) (i:Nat) (hP:Pb w W b t out) (hi:NS[i]?=some ⟨2,0,0,0,((k:Nat):Int),0,0,0,0⟩) (hlen:out.length+(yZ.getD k []).length<=1099511627776) :
  Calls Tryz.prog 144 #[ptr b,.i i] W fun r W'=>r=.returned (.tuple #[])/\Pb w W' b t (out++yZ.getD k [])/\Kp SP W W':=by
 obtain⟨g,off,dl,dc,hdv,hil,hdl,hdc,⟨n0,n1,n2,n3,n4,n5,n6,n7,n8⟩,hg⟩:=hE.node hP hi
 obtain⟨p0,v0,hp0,hb0,hown0⟩:=hP.ex
 have c4:W.cell? ⟨b,4,none⟩=some t.dv:=hb0.cell 4 rfl
 rw[hdv] at c4
 have HX0:=aA (aB.new W 124 (bN ⟨2,0,0,0,((k:Nat):Int),0,0,0,0⟩))
 have HP0:=aA (hP.later (aD W (.cells (bN ⟨2,0,0,0,((k:Nat):Int),0,0,0,0⟩) 124)))
 have HK0:=aA (Kp.of_below SP (aD W (.cells (bN ⟨2,0,0,0,((k:Nat):Int),0,0,0,0⟩) 124)))
 have HL:=aA hlen
 have HG:=aA (hE.gl)
 have h4:(W.alloc (.cells (bN ⟨2,0,0,0,((k:Nat):Int),0,0,0,0⟩) 124)).cell? ⟨W.heap.size,4,none⟩=some (.i ((k:Nat):Int)):=HX0.o.cell 4 rfl
 have e1:=fun dd os=>cell_regrown h4 dd os
 have e2:=fun dd os=>cell_regrown ((HG.o.later HP0.o.old).inp k hk) dd os
 clear h4 hlen
 generalize yZ.getD k []=tx at *
 simp only at n0 n1 n2 n3 n4 n5 n6 n7 n8
 clear hp0 hb0 hown0 hP hi hdv hE
 go_enter Tryz.func144,Tryz.ntmps144
 go_wp2_with fail
 refine aM (hf:=(List.dropLast_concat_getLast (by simp)).symm) vD (by kernel_rfl) rfl (by kernel_rfl) (by kernel_rfl) (by kernel_rfl) (by kernel_rfl) (by kernel_rfl) ?_
 simp only[List.dropLast_cons_cons,List.dropLast_singleton,List.getLast_cons_cons,List.getLast_singleton]
 repeat (go_big_quiet_step (fail))
 refine wpQuiet_nil ?_
 intro _ hw'
 obtain⟨pq,hw''⟩:=hw'
 subst hw''
 have hb2:=below_regrown (W.alloc (.cells (bN ⟨2,0,0,0,((k:Nat):Int),0,0,0,0⟩) 124)) pq.d pq.os
 have HP9:=aA (HP0.o.later hb2)
 have HK9:=aA (HK0.o.trans (Kp.of_below SP hb2))
 clear e1 e2 HP0 HK0 hb2 HX0
 generalize grow (redrawn (W.alloc (.cells (bN ⟨2,0,0,0,((k:Nat):Int),0,0,0,0⟩) 124)) pq.d) pq.os=G at *
 go_wp2_with fail
 refine(aZ HP9.o _ (by have:=HL.o;rw[gT];omega)).mono ?_
 rintro e W1 ⟨rfl,hP1,hK1⟩
 rw[gT] at hP1
 have HP1:=aA hP1
 have HK1:=aA (HK9.o.trans hK1)
 clear hP1 hK1 HP9 n0 n1 n2 n3 n4 n5 n6 n7 n8 c4
 go_wp2_with fail
 go_end0
 exact⟨rfl,HP1.o,HK1.o⟩
theorem aVk {t:Tv}{NM:List aN}{NS:List Nd}(hE:Env w t NM BS NS root)(k:Nat)(hk:k < NM.length)
  (W:World) (out:List UInt8) (i:Nat) (hP:Pb w W b t out) (hi:NS[i]?=some ⟨4,0,0,0,((k:Nat):Int),0,0,0,0⟩) (hlen:out.length+(NM.getD k []).length<=1099511627776) :
  Calls Tryz.prog 144 #[ptr b,.i i] W fun r W'=>r=.returned (.tuple #[])/\Pb w W' b t (out++NM.getD k [])/\Kp SP W W':=by
 obtain⟨g,off,dl,dc,hdv,hil,hdl,hdc,⟨n0,n1,n2,n3,n4,n5,n6,n7,n8⟩,hg⟩:=hE.node hP hi
 obtain⟨p0,v0,hp0,hb0,hown0⟩:=hP.ex
 have c4:W.cell? ⟨b,4,none⟩=some t.dv:=hb0.cell 4 rfl
 rw[hdv] at c4
 have HX0:=aA (aB.new W 124 (bN ⟨4,0,0,0,((k:Nat):Int),0,0,0,0⟩))
 have HP0:=aA (hP.later (aD W (.cells (bN ⟨4,0,0,0,((k:Nat):Int),0,0,0,0⟩) 124)))
 have HK0:=aA (Kp.of_below SP (aD W (.cells (bN ⟨4,0,0,0,((k:Nat):Int),0,0,0,0⟩) 124)))
 have HL:=aA hlen
 have HG:=aA (hE.gl)
 obtain⟨na,nl,nc,hnv,hTx⟩:=hE.names
 have hnl:=hTx.len
 have hnc:=hTx.le
 have hnm:=hTx.max
 unfold maxLen at hnm
 obtain⟨gn,ofn,rfl,hcn⟩:∃ gn ofn,na=some ⟨gn,ofn,none⟩/\∀ j,j < nl->(W.alloc (.cells (bN ⟨4,0,0,0,((k:Nat):Int),0,0,0,0⟩) 124)).cell? ⟨gn,ofn+j,none⟩=some (.string (sB (NM.getD j []))):=by
  rcases(hTx.later HP0.o.old).cell with h|⟨gn,ofn,h1,h2⟩
  ·omega
  ·exact⟨gn,ofn,h1,h2⟩
 have h4:(W.alloc (.cells (bN ⟨4,0,0,0,((k:Nat):Int),0,0,0,0⟩) 124)).cell? ⟨W.heap.size,4,none⟩=some (.i ((k:Nat):Int)):=HX0.o.cell 4 rfl
 have e1:=fun dd os=>cell_regrown h4 dd os
 have e2:=fun dd os=>cell_regrown (hcn k (by omega)) dd os
 obtain⟨p1,v1,hp1,hb1,hown1⟩:=HP0.o.ex
 have h2:(W.alloc (.cells (bN ⟨4,0,0,0,((k:Nat):Int),0,0,0,0⟩) 124)).cell? ⟨b,2,none⟩=some t.nv:=hb1.cell 2 rfl
 rw[hnv] at h2
 have e3:=fun dd os=>cell_regrown h2 dd os
 have hkl:k < nl:=by omega
 clear hTx hnl hcn h2 hp1 hb1 hown1 hnv hk
 clear h4 hlen
 generalize NM.getD k []=tx at *
 simp only at n0 n1 n2 n3 n4 n5 n6 n7 n8
 clear hp0 hb0 hown0 hP hi hdv hE
 go_enter Tryz.func144,Tryz.ntmps144
 go_wp2_with fail
 refine aM (hf:=(List.dropLast_concat_getLast (by simp)).symm) vD (by kernel_rfl) rfl (by kernel_rfl) (by kernel_rfl) (by kernel_rfl) (by kernel_rfl) (by kernel_rfl) ?_
 simp only[List.dropLast_cons_cons,List.dropLast_singleton,List.getLast_cons_cons,List.getLast_singleton]
 repeat (go_big_quiet_step (fail))
 refine wpQuiet_nil ?_
 intro _ hw'
 obtain⟨pq,hw''⟩:=hw'
 subst hw''
 have hb2:=below_regrown (W.alloc (.cells (bN ⟨4,0,0,0,((k:Nat):Int),0,0,0,0⟩) 124)) pq.d pq.os
 have HP9:=aA (HP0.o.later hb2)
 have HK9:=aA (HK0.o.trans (Kp.of_below SP hb2))
 clear e1 e2 e3 HP0 HK0 hb2 HX0
 generalize grow (redrawn (W.alloc (.cells (bN ⟨4,0,0,0,((k:Nat):Int),0,0,0,0⟩) 124)) pq.d) pq.os=G at *
 go_wp2_with fail
 refine(aZ HP9.o _ (by have:=HL.o;rw[gT];omega)).mono ?_
 rintro e W1 ⟨rfl,hP1,hK1⟩
 rw[gT] at hP1
 have HP1:=aA hP1
 have HK1:=aA (HK9.o.trans hK1)
 clear hP1 hK1 HP9 n0 n1 n2 n3 n4 n5 n6 n7 n8 c4
 go_wp2_with fail
 go_end0
 exact⟨rfl,HP1.o,HK1.o⟩
theorem aVj {t:Tv}{NM:List aN}{NS:List Nd}(hE:Env w t NM BS NS root)(back co x y:Int)(h0:0<=back/\back<=2147483647)(h1:-2147483647<=x/\x<=2147483647)(h2:-2147483647<=y/\y<=2147483647)
  (W:World) (out:List UInt8) (i:Nat) (hP:Pb w W b t out) (hi:NS[i]?=some ⟨3,0,0,0,0,back,co,x,y⟩) (hlen:out.length+(wG ⟨3,0,0,0,0,back,co,x,y⟩).length<=1099511627776) :
  Calls Tryz.prog 144 #[ptr b,.i i] W fun r W'=>r=.returned (.tuple #[])/\Pb w W' b t (out++wG ⟨3,0,0,0,0,back,co,x,y⟩)/\Kp SP W W':=by
 obtain⟨g,off,dl,dc,hdv,hil,hdl,hdc,⟨n0,n1,n2,n3,n4,n5,n6,n7,n8⟩,hg⟩:=hE.node hP hi
 obtain⟨p0,v0,hp0,hb0,hown0⟩:=hP.ex
 have c4:W.cell? ⟨b,4,none⟩=some t.dv:=hb0.cell 4 rfl
 rw[hdv] at c4
 have HX0:=aA (aB.new W 124 (bN ⟨3,0,0,0,0,back,co,x,y⟩))
 have HP0:=aA (hP.later (aD W (.cells (bN ⟨3,0,0,0,0,back,co,x,y⟩) 124)))
 have HK0:=aA (Kp.of_below SP (aD W (.cells (bN ⟨3,0,0,0,0,back,co,x,y⟩) 124)))
 have HL:=aA hlen
 have HG:=aA (hE.gl)
 simp only at n0 n1 n2 n3 n4 n5 n6 n7 n8
 clear hp0 hb0 hown0 hP hi hdv hlen hE
 go_enter Tryz.func144,Tryz.ntmps144
 go_wp2_with fail
 refine(aH7 HP0.o HG.o ⟨3,0,0,0,0,back,co,x,y⟩ (by simp only;omega) (by simp only;omega) (by simp only;omega) HL.o).mono ?_
 rintro e W1 ⟨rfl,hP1,hK1⟩
 have HP1:=aA hP1
 have HK1:=aA (HK0.o.trans hK1)
 clear hP1 hK1 HP0 HX0 n0 n1 n2 n3 n4 n5 n6 n7 n8 c4
 go_wp2_with fail
 go_end0
 exact⟨rfl,HP1.o,HK1.o⟩
theorem aVl {t:Tv}{NM:List aN}{NS:List Nd}(hE:Env w t NM BS NS root){x:E}(hx:dJ w t b NM NS x)(ho:1<=wE x/\wE x<=28)(p:Nat)(h1:dI NS x p)
  (W:World) (out:List UInt8) (i:Nat) (hP:Pb w W b t out) (hi:NS[i]?=some ⟨5,((p:Nat):Int),0,0,0,0,0,0,0⟩) (hlen:out.length+(dC NM (.un 5 x)).length<=1099511627776) :
  Calls Tryz.prog 144 #[ptr b,.i i] W fun r W'=>r=.returned (.tuple #[])/\Pb w W' b t (out++dC NM (.un 5 x))/\Kp SP W W':=by
 obtain⟨g,off,dl,dc,hdv,hil,hdl,hdc,⟨n0,n1,n2,n3,n4,n5,n6,n7,n8⟩,hg⟩:=hE.node hP hi
 obtain⟨p0,v0,hp0,hb0,hown0⟩:=hP.ex
 have c4:W.cell? ⟨b,4,none⟩=some t.dv:=hb0.cell 4 rfl
 rw[hdv] at c4
 have HX0:=aA (aB.new W 124 (bN ⟨5,((p:Nat):Int),0,0,0,0,0,0,0⟩))
 have HP0:=aA (hP.later (aD W (.cells (bN ⟨5,((p:Nat):Int),0,0,0,0,0,0,0⟩) 124)))
 have HK0:=aA (Kp.of_below SP (aD W (.cells (bN ⟨5,((p:Nat):Int),0,0,0,0,0,0,0⟩) 124)))
 have HL:=aA hlen
 have HG:=aA (hE.gl)
 have ht:dC NM (.un 5 x)=45::prp NM 8 x:=by simp[dC,prp]
 have HL2:=aA (show out.length+(prp NM 8 x).length+1<=1099511627776 by rw[ht] at hlen;simp at hlen;omega)
 have HT:=aA (show out++dC NM (.un 5 x)=(out++[UInt8.ofNat 45])++prp NM 8 x by rw[ht];simp)
 have Hx:=aA (fun V o hV hl=>rJ hE hx ho 8 (by decide) V o p hV h1 hl)
 clear ht hx ho h1 HL
 simp only at n0 n1 n2 n3 n4 n5 n6 n7 n8
 clear hp0 hb0 hown0 hP hi hdv hlen hE
 go_enter Tryz.func144,Tryz.ntmps144
 go_wp2_with fail
 refine(aT HP0.o 45 (by decide) (by have:=HL2.o;omega)).mono ?_
 rintro e W1 ⟨rfl,hP1,hK1⟩
 have HP1:=aA hP1
 have HK1:=aA (HK0.o.trans hK1)
 have HX1:=aA (HX0.o.kp hK1 (by decide))
 clear hP1 hK1 HP0 HX0 n0 n1 n2 n3 n4 n5 n6 n7 n8 c4
 obtain⟨m0,m1,-⟩:=HX1.o.nine
 simp only at m0 m1
 go_wp2_with fail
 refine(Hx.o _ _ HP1.o (by have:=HL2.o;simp;omega)).mono ?_
 rintro e W2 ⟨rfl,hP2,hK2⟩
 have HP2:=aA hP2
 have HK2:=aA (HK1.o.trans hK2)
 clear hP2 hK2 HP1 HX1 m0 m1
 go_wp2_with fail
 go_end0
 exact⟨rfl,HT.o ▸ HP2.o,HK2.o⟩
theorem aVm {t:Tv}{NM:List aN}{NS:List Nd}(hE:Env w t NM BS NS root){x:E}(hx:dJ w t b NM NS x)(p:Nat)(lx:dI NS x p)
  (W:World) (out:List UInt8) (i:Nat) (hP:Pb w W b t out) (hi:NS[i]?=some ⟨6,((p:Nat):Int),0,0,0,0,0,0,0⟩) (hlen:out.length+(dC NM (.un 6 x)).length<=1099511627776) :
  Calls Tryz.prog 144 #[ptr b,.i i] W fun r W'=>r=.returned (.tuple #[])/\Pb w W' b t (out++dC NM (.un 6 x))/\Kp SP W W':=by
 obtain⟨g,off,dl,dc,hdv,hil,hdl,hdc,⟨n0,n1,n2,n3,n4,n5,n6,n7,n8⟩,hg⟩:=hE.node hP hi
 obtain⟨p0,v0,hp0,hb0,hown0⟩:=hP.ex
 have c4:W.cell? ⟨b,4,none⟩=some t.dv:=hb0.cell 4 rfl
 rw[hdv] at c4
 have HX0:=aA (aB.new W 124 (bN ⟨6,((p:Nat):Int),0,0,0,0,0,0,0⟩))
 have HP0:=aA (hP.later (aD W (.cells (bN ⟨6,((p:Nat):Int),0,0,0,0,0,0,0⟩) 124)))
 have HK0:=aA (Kp.of_below SP (aD W (.cells (bN ⟨6,((p:Nat):Int),0,0,0,0,0,0,0⟩) 124)))
 have HL:=aA hlen
 have HG:=aA (hE.gl)
 have ht:dC NM (.un 6 x)=pJ 6++40::(jn NM [x] 1++[41]):=by simp[dC,jn,List.range_succ]
 have hN:∀ j,j < 1->dJ w t b NM NS (([x]:List E).getD j z0):=by
   intro j hj
   match j,hj with
   | 0,_=>exact hx
   | _+1,hj=>exact absurd hj (by omega)
 have hS:∀ j,j < 1->dI NS (([x]:List E).getD j z0) (([p]:List Nat).getD j 0):=by
   intro j hj
   match j,hj with
   | 0,_=>exact lx
   | _+1,hj=>exact absurd hj (by omega)
 have hC:∀ j,j < 1->(#[.i ((p:Nat):Int)]:Array Value)[j]?=some (.i ((([p]:List Nat).getD j 0:Nat):Int)):=by
   intro j hj
   match j,hj with
   | 0,_=>rfl
   | _+1,hj=>exact absurd hj (by omega)
 have HL2:=aA (show out.length+(pJ 6).length+(jn NM [x] 1).length+2<=1099511627776 by rw[ht] at hlen;simp at hlen;omega)
 have HT:=aA (show out++dC NM (.un 6 x)=out++(pJ ((6:Nat):Int)++40::(jn NM [x] 1++[41])) by rw[ht];rfl)
 have HP0A:=aA (HP0.o.later (aD _ (.cells #[.i ((p:Nat):Int)] 3)))
 have HK0A:=aA (HK0.o.trans (Kp.of_below SP (aD _ (.cells #[.i ((p:Nat):Int)] 3))))
 have HQ:=aA (aB.new (W.alloc (.cells (bN ⟨6,((p:Nat):Int),0,0,0,0,0,0,0⟩) 124)) 3 #[.i ((p:Nat):Int)])
 have Hc:=aA (kT hE [x] [p] 1 (by decide) hN hS 6 (by decide) _ out HP0A.o _ #[.i ((p:Nat):Int)] HQ.o hC HL2.o)
 rw[wSa] at Hc
 clear ht hN hS hC HL hx lx
 simp only at n0 n1 n2 n3 n4 n5 n6 n7 n8
 clear hp0 hb0 hown0 hP hi hdv hlen hE
 go_enter Tryz.func144,Tryz.ntmps144
 go_wp2_with fail
 refine Hc.o.mono ?_
 rintro e W1 ⟨rfl,hP1,hK1⟩
 have HP1:=aA hP1
 have HK1:=aA (HK0A.o.trans hK1)
 clear hP1 hK1 HP0 HX0 n0 n1 n2 n3 n4 n5 n6 n7 n8 c4
 go_wp2_with fail
 go_end0
 exact⟨rfl,HT.o ▸ HP1.o,HK1.o⟩
theorem aVn {t:Tv}{NM:List aN}{NS:List Nd}(hE:Env w t NM BS NS root){x:E}(hx:dJ w t b NM NS x)(p:Nat)(lx:dI NS x p)
  (W:World) (out:List UInt8) (i:Nat) (hP:Pb w W b t out) (hi:NS[i]?=some ⟨7,((p:Nat):Int),0,0,0,0,0,0,0⟩) (hlen:out.length+(dC NM (.un 7 x)).length<=1099511627776) :
  Calls Tryz.prog 144 #[ptr b,.i i] W fun r W'=>r=.returned (.tuple #[])/\Pb w W' b t (out++dC NM (.un 7 x))/\Kp SP W W':=by
 obtain⟨g,off,dl,dc,hdv,hil,hdl,hdc,⟨n0,n1,n2,n3,n4,n5,n6,n7,n8⟩,hg⟩:=hE.node hP hi
 obtain⟨p0,v0,hp0,hb0,hown0⟩:=hP.ex
 have c4:W.cell? ⟨b,4,none⟩=some t.dv:=hb0.cell 4 rfl
 rw[hdv] at c4
 have HX0:=aA (aB.new W 124 (bN ⟨7,((p:Nat):Int),0,0,0,0,0,0,0⟩))
 have HP0:=aA (hP.later (aD W (.cells (bN ⟨7,((p:Nat):Int),0,0,0,0,0,0,0⟩) 124)))
 have HK0:=aA (Kp.of_below SP (aD W (.cells (bN ⟨7,((p:Nat):Int),0,0,0,0,0,0,0⟩) 124)))
 have HL:=aA hlen
 have HG:=aA (hE.gl)
 have ht:dC NM (.un 7 x)=pJ 7++40::(jn NM [x] 1++[41]):=by simp[dC,jn,List.range_succ]
 have hN:∀ j,j < 1->dJ w t b NM NS (([x]:List E).getD j z0):=by
   intro j hj
   match j,hj with
   | 0,_=>exact hx
   | _+1,hj=>exact absurd hj (by omega)
 have hS:∀ j,j < 1->dI NS (([x]:List E).getD j z0) (([p]:List Nat).getD j 0):=by
   intro j hj
   match j,hj with
   | 0,_=>exact lx
   | _+1,hj=>exact absurd hj (by omega)
 have hC:∀ j,j < 1->(#[.i ((p:Nat):Int)]:Array Value)[j]?=some (.i ((([p]:List Nat).getD j 0:Nat):Int)):=by
   intro j hj
   match j,hj with
   | 0,_=>rfl
   | _+1,hj=>exact absurd hj (by omega)
 have HL2:=aA (show out.length+(pJ 7).length+(jn NM [x] 1).length+2<=1099511627776 by rw[ht] at hlen;simp at hlen;omega)
 have HT:=aA (show out++dC NM (.un 7 x)=out++(pJ ((7:Nat):Int)++40::(jn NM [x] 1++[41])) by rw[ht];rfl)
 have HP0A:=aA (HP0.o.later (aD _ (.cells #[.i ((p:Nat):Int)] 3)))
 have HK0A:=aA (HK0.o.trans (Kp.of_below SP (aD _ (.cells #[.i ((p:Nat):Int)] 3))))
 have HQ:=aA (aB.new (W.alloc (.cells (bN ⟨7,((p:Nat):Int),0,0,0,0,0,0,0⟩) 124)) 3 #[.i ((p:Nat):Int)])
 have Hc:=aA (kT hE [x] [p] 1 (by decide) hN hS 7 (by decide) _ out HP0A.o _ #[.i ((p:Nat):Int)] HQ.o hC HL2.o)
 rw[wSa] at Hc
 clear ht hN hS hC HL hx lx
 simp only at n0 n1 n2 n3 n4 n5 n6 n7 n8
 clear hp0 hb0 hown0 hP hi hdv hlen hE
 go_enter Tryz.func144,Tryz.ntmps144
 go_wp2_with fail
 refine Hc.o.mono ?_
 rintro e W1 ⟨rfl,hP1,hK1⟩
 have HP1:=aA hP1
 have HK1:=aA (HK0A.o.trans hK1)
 clear hP1 hK1 HP0 HX0 n0 n1 n2 n3 n4 n5 n6 n7 n8 c4
 go_wp2_with fail
 go_end0
 exact⟨rfl,HT.o ▸ HP1.o,HK1.o⟩
theorem aRa {t:Tv}{NM:List aN}{NS:List Nd}(hE:Env w t NM BS NS root){x y:E}(hx:dJ w t b NM NS x)(hy:dJ w t b NM NS y)(p q:Nat)(lx:dI NS x p)(ly:dI NS y q)
  (W:World) (out:List UInt8) (i:Nat) (hP:Pb w W b t out) (hi:NS[i]?=some ⟨24,((p:Nat):Int),((q:Nat):Int),0,0,0,0,0,0⟩) (hlen:out.length+(dC NM (.bin 24 x y)).length<=1099511627776) :
  Calls Tryz.prog 144 #[ptr b,.i i] W fun r W'=>r=.returned (.tuple #[])/\Pb w W' b t (out++dC NM (.bin 24 x y))/\Kp SP W W':=by
 obtain⟨g,off,dl,dc,hdv,hil,hdl,hdc,⟨n0,n1,n2,n3,n4,n5,n6,n7,n8⟩,hg⟩:=hE.node hP hi
 obtain⟨p0,v0,hp0,hb0,hown0⟩:=hP.ex
 have c4:W.cell? ⟨b,4,none⟩=some t.dv:=hb0.cell 4 rfl
 rw[hdv] at c4
 have HX0:=aA (aB.new W 124 (bN ⟨24,((p:Nat):Int),((q:Nat):Int),0,0,0,0,0,0⟩))
 have HP0:=aA (hP.later (aD W (.cells (bN ⟨24,((p:Nat):Int),((q:Nat):Int),0,0,0,0,0,0⟩) 124)))
 have HK0:=aA (Kp.of_below SP (aD W (.cells (bN ⟨24,((p:Nat):Int),((q:Nat):Int),0,0,0,0,0,0⟩) 124)))
 have HL:=aA hlen
 have HG:=aA (hE.gl)
 have ht:dC NM (.bin 24 x y)=pJ 24++40::(jn NM [x,y] 2++[41]):=by simp[dC,jn,List.range_succ]
 have hN:∀ j,j < 2->dJ w t b NM NS (([x,y]:List E).getD j z0):=by
   intro j hj
   match j,hj with
   | 0,_=>exact hx
   | 1,_=>exact hy
   | _+2,hj=>exact absurd hj (by omega)
 have hS:∀ j,j < 2->dI NS (([x,y]:List E).getD j z0) (([p,q]:List Nat).getD j 0):=by
   intro j hj
   match j,hj with
   | 0,_=>exact lx
   | 1,_=>exact ly
   | _+2,hj=>exact absurd hj (by omega)
 have hC:∀ j,j < 2->(#[.i ((p:Nat):Int),.i ((q:Nat):Int)]:Array Value)[j]?=some (.i ((([p,q]:List Nat).getD j 0:Nat):Int)):=by
   intro j hj
   match j,hj with
   | 0,_=>rfl
   | 1,_=>rfl
   | _+2,hj=>exact absurd hj (by omega)
 have HL2:=aA (show out.length+(pJ 24).length+(jn NM [x,y] 2).length+2<=1099511627776 by rw[ht] at hlen;simp at hlen;omega)
 have HT:=aA (show out++dC NM (.bin 24 x y)=out++(pJ ((24:Nat):Int)++40::(jn NM [x,y] 2++[41])) by rw[ht];rfl)
 have HP0A:=aA (HP0.o.later (aD _ (.cells #[.i ((p:Nat):Int),.i ((q:Nat):Int)] 3)))
 have HK0A:=aA (HK0.o.trans (Kp.of_below SP (aD _ (.cells #[.i ((p:Nat):Int),.i ((q:Nat):Int)] 3))))
 have HQ:=aA (aB.new (W.alloc (.cells (bN ⟨24,((p:Nat):Int),((q:Nat):Int),0,0,0,0,0,0⟩) 124)) 3 #[.i ((p:Nat):Int),.i ((q:Nat):Int)])
 have Hc:=aA (kT hE [x,y] [p,q] 2 (by decide) hN hS 24 (by decide) _ out HP0A.o _ #[.i ((p:Nat):Int),.i ((q:Nat):Int)] HQ.o hC HL2.o)
 rw[wSa] at Hc
 clear ht hN hS hC HL hx hy lx ly
 simp only at n0 n1 n2 n3 n4 n5 n6 n7 n8
 clear hp0 hb0 hown0 hP hi hdv hlen hE
 go_enter Tryz.func144,Tryz.ntmps144
 go_wp2_with fail
 refine Hc.o.mono ?_
 rintro e W1 ⟨rfl,hP1,hK1⟩
 have HP1:=aA hP1
 have HK1:=aA (HK0A.o.trans hK1)
 clear hP1 hK1 HP0 HX0 n0 n1 n2 n3 n4 n5 n6 n7 n8 c4
 go_wp2_with fail
 go_end0
 exact⟨rfl,HT.o ▸ HP1.o,HK1.o⟩
theorem aRb {t:Tv}{NM:List aN}{NS:List Nd}(hE:Env w t NM BS NS root){x y:E}(hx:dJ w t b NM NS x)(hy:dJ w t b NM NS y)(p q:Nat)(lx:dI NS x p)(ly:dI NS y q)
  (W:World) (out:List UInt8) (i:Nat) (hP:Pb w W b t out) (hi:NS[i]?=some ⟨25,((p:Nat):Int),((q:Nat):Int),0,0,0,0,0,0⟩) (hlen:out.length+(dC NM (.bin 25 x y)).length<=1099511627776) :
  Calls Tryz.prog 144 #[ptr b,.i i] W fun r W'=>r=.returned (.tuple #[])/\Pb w W' b t (out++dC NM (.bin 25 x y))/\Kp SP W W':=by
 obtain⟨g,off,dl,dc,hdv,hil,hdl,hdc,⟨n0,n1,n2,n3,n4,n5,n6,n7,n8⟩,hg⟩:=hE.node hP hi
 obtain⟨p0,v0,hp0,hb0,hown0⟩:=hP.ex
 have c4:W.cell? ⟨b,4,none⟩=some t.dv:=hb0.cell 4 rfl
 rw[hdv] at c4
 have HX0:=aA (aB.new W 124 (bN ⟨25,((p:Nat):Int),((q:Nat):Int),0,0,0,0,0,0⟩))
 have HP0:=aA (hP.later (aD W (.cells (bN ⟨25,((p:Nat):Int),((q:Nat):Int),0,0,0,0,0,0⟩) 124)))
 have HK0:=aA (Kp.of_below SP (aD W (.cells (bN ⟨25,((p:Nat):Int),((q:Nat):Int),0,0,0,0,0,0⟩) 124)))
 have HL:=aA hlen
 have HG:=aA (hE.gl)
 have ht:dC NM (.bin 25 x y)=pJ 25++40::(jn NM [x,y] 2++[41]):=by simp[dC,jn,List.range_succ]
 have hN:∀ j,j < 2->dJ w t b NM NS (([x,y]:List E).getD j z0):=by
   intro j hj
   match j,hj with
   | 0,_=>exact hx
   | 1,_=>exact hy
   | _+2,hj=>exact absurd hj (by omega)
 have hS:∀ j,j < 2->dI NS (([x,y]:List E).getD j z0) (([p,q]:List Nat).getD j 0):=by
   intro j hj
   match j,hj with
   | 0,_=>exact lx
   | 1,_=>exact ly
   | _+2,hj=>exact absurd hj (by omega)
 have hC:∀ j,j < 2->(#[.i ((p:Nat):Int),.i ((q:Nat):Int)]:Array Value)[j]?=some (.i ((([p,q]:List Nat).getD j 0:Nat):Int)):=by
   intro j hj
   match j,hj with
   | 0,_=>rfl
   | 1,_=>rfl
   | _+2,hj=>exact absurd hj (by omega)
 have HL2:=aA (show out.length+(pJ 25).length+(jn NM [x,y] 2).length+2<=1099511627776 by rw[ht] at hlen;simp at hlen;omega)
 have HT:=aA (show out++dC NM (.bin 25 x y)=out++(pJ ((25:Nat):Int)++40::(jn NM [x,y] 2++[41])) by rw[ht];rfl)
 have HP0A:=aA (HP0.o.later (aD _ (.cells #[.i ((p:Nat):Int),.i ((q:Nat):Int)] 3)))
 have HK0A:=aA (HK0.o.trans (Kp.of_below SP (aD _ (.cells #[.i ((p:Nat):Int),.i ((q:Nat):Int)] 3))))
 have HQ:=aA (aB.new (W.alloc (.cells (bN ⟨25,((p:Nat):Int),((q:Nat):Int),0,0,0,0,0,0⟩) 124)) 3 #[.i ((p:Nat):Int),.i ((q:Nat):Int)])
 have Hc:=aA (kT hE [x,y] [p,q] 2 (by decide) hN hS 25 (by decide) _ out HP0A.o _ #[.i ((p:Nat):Int),.i ((q:Nat):Int)] HQ.o hC HL2.o)
 rw[wSa] at Hc
 clear ht hN hS hC HL hx hy lx ly
 simp only at n0 n1 n2 n3 n4 n5 n6 n7 n8
 clear hp0 hb0 hown0 hP hi hdv hlen hE
 go_enter Tryz.func144,Tryz.ntmps144
 go_wp2_with fail
 refine Hc.o.mono ?_
 rintro e W1 ⟨rfl,hP1,hK1⟩
 have HP1:=aA hP1
 have HK1:=aA (HK0A.o.trans hK1)
 clear hP1 hK1 HP0 HX0 n0 n1 n2 n3 n4 n5 n6 n7 n8 c4
 go_wp2_with fail
 go_end0
 exact⟨rfl,HT.o ▸ HP1.o,HK1.o⟩
theorem aRc {t:Tv}{NM:List aN}{NS:List Nd}(hE:Env w t NM BS NS root){x y z:E}(hx:dJ w t b NM NS x)(hy:dJ w t b NM NS y)(hz:dJ w t b NM NS z)(p q r:Nat)(lx:dI NS x p)(ly:dI NS y q)(lz:dI NS z r)
  (W:World) (out:List UInt8) (i:Nat) (hP:Pb w W b t out) (hi:NS[i]?=some ⟨26,((p:Nat):Int),((q:Nat):Int),((r:Nat):Int),0,0,0,0,0⟩) (hlen:out.length+(dC NM (.tri 26 x y z)).length<=1099511627776) :
  Calls Tryz.prog 144 #[ptr b,.i i] W fun r W'=>r=.returned (.tuple #[])/\Pb w W' b t (out++dC NM (.tri 26 x y z))/\Kp SP W W':=by
 obtain⟨g,off,dl,dc,hdv,hil,hdl,hdc,⟨n0,n1,n2,n3,n4,n5,n6,n7,n8⟩,hg⟩:=hE.node hP hi
 obtain⟨p0,v0,hp0,hb0,hown0⟩:=hP.ex
 have c4:W.cell? ⟨b,4,none⟩=some t.dv:=hb0.cell 4 rfl
 rw[hdv] at c4
 have HX0:=aA (aB.new W 124 (bN ⟨26,((p:Nat):Int),((q:Nat):Int),((r:Nat):Int),0,0,0,0,0⟩))
 have HP0:=aA (hP.later (aD W (.cells (bN ⟨26,((p:Nat):Int),((q:Nat):Int),((r:Nat):Int),0,0,0,0,0⟩) 124)))
 have HK0:=aA (Kp.of_below SP (aD W (.cells (bN ⟨26,((p:Nat):Int),((q:Nat):Int),((r:Nat):Int),0,0,0,0,0⟩) 124)))
 have HL:=aA hlen
 have HG:=aA (hE.gl)
 have ht:dC NM (.tri 26 x y z)=pJ 26++40::(jn NM [x,y,z] 3++[41]):=by simp[dC,jn,List.range_succ]
 have hN:∀ j,j < 3->dJ w t b NM NS (([x,y,z]:List E).getD j z0):=by
   intro j hj
   match j,hj with
   | 0,_=>exact hx
   | 1,_=>exact hy
   | 2,_=>exact hz
   | _+3,hj=>exact absurd hj (by omega)
 have hS:∀ j,j < 3->dI NS (([x,y,z]:List E).getD j z0) (([p,q,r]:List Nat).getD j 0):=by
   intro j hj
   match j,hj with
   | 0,_=>exact lx
   | 1,_=>exact ly
   | 2,_=>exact lz
   | _+3,hj=>exact absurd hj (by omega)
 have hC:∀ j,j < 3->(#[.i ((p:Nat):Int),.i ((q:Nat):Int),.i ((r:Nat):Int)]:Array Value)[j]?=some (.i ((([p,q,r]:List Nat).getD j 0:Nat):Int)):=by
   intro j hj
   match j,hj with
   | 0,_=>rfl
   | 1,_=>rfl
   | 2,_=>rfl
   | _+3,hj=>exact absurd hj (by omega)
 have HL2:=aA (show out.length+(pJ 26).length+(jn NM [x,y,z] 3).length+2<=1099511627776 by rw[ht] at hlen;simp at hlen;omega)
 have HT:=aA (show out++dC NM (.tri 26 x y z)=out++(pJ ((26:Nat):Int)++40::(jn NM [x,y,z] 3++[41])) by rw[ht];rfl)
 have HP0A:=aA (HP0.o.later (aD _ (.cells #[.i ((p:Nat):Int),.i ((q:Nat):Int),.i ((r:Nat):Int)] 3)))
 have HK0A:=aA (HK0.o.trans (Kp.of_below SP (aD _ (.cells #[.i ((p:Nat):Int),.i ((q:Nat):Int),.i ((r:Nat):Int)] 3))))
 have HQ:=aA (aB.new (W.alloc (.cells (bN ⟨26,((p:Nat):Int),((q:Nat):Int),((r:Nat):Int),0,0,0,0,0⟩) 124)) 3 #[.i ((p:Nat):Int),.i ((q:Nat):Int),.i ((r:Nat):Int)])
 have Hc:=aA (kT hE [x,y,z] [p,q,r] 3 (by decide) hN hS 26 (by decide) _ out HP0A.o _ #[.i ((p:Nat):Int),.i ((q:Nat):Int),.i ((r:Nat):Int)] HQ.o hC HL2.o)
 rw[wSa] at Hc
 clear ht hN hS hC HL hx hy hz lx ly lz
 simp only at n0 n1 n2 n3 n4 n5 n6 n7 n8
 clear hp0 hb0 hown0 hP hi hdv hlen hE
 go_enter Tryz.func144,Tryz.ntmps144
 go_wp2_with fail
 refine Hc.o.mono ?_
 rintro e W1 ⟨rfl,hP1,hK1⟩
 have HP1:=aA hP1
 have HK1:=aA (HK0A.o.trans hK1)
 clear hP1 hK1 HP0 HX0 n0 n1 n2 n3 n4 n5 n6 n7 n8 c4
 go_wp2_with fail
 go_end0
 exact⟨rfl,HT.o ▸ HP1.o,HK1.o⟩
theorem aRd {t:Tv}{NM:List aN}{NS:List Nd}(hE:Env w t NM BS NS root){x y z:E}(hx:dJ w t b NM NS x)(hy:dJ w t b NM NS y)(hz:dJ w t b NM NS z)(p q r:Nat)(lx:dI NS x p)(ly:dI NS y q)(lz:dI NS z r)
  (W:World) (out:List UInt8) (i:Nat) (hP:Pb w W b t out) (hi:NS[i]?=some ⟨27,((p:Nat):Int),((q:Nat):Int),((r:Nat):Int),0,0,0,0,0⟩) (hlen:out.length+(dC NM (.tri 27 x y z)).length<=1099511627776) :
  Calls Tryz.prog 144 #[ptr b,.i i] W fun r W'=>r=.returned (.tuple #[])/\Pb w W' b t (out++dC NM (.tri 27 x y z))/\Kp SP W W':=by
 obtain⟨g,off,dl,dc,hdv,hil,hdl,hdc,⟨n0,n1,n2,n3,n4,n5,n6,n7,n8⟩,hg⟩:=hE.node hP hi
 obtain⟨p0,v0,hp0,hb0,hown0⟩:=hP.ex
 have c4:W.cell? ⟨b,4,none⟩=some t.dv:=hb0.cell 4 rfl
 rw[hdv] at c4
 have HX0:=aA (aB.new W 124 (bN ⟨27,((p:Nat):Int),((q:Nat):Int),((r:Nat):Int),0,0,0,0,0⟩))
 have HP0:=aA (hP.later (aD W (.cells (bN ⟨27,((p:Nat):Int),((q:Nat):Int),((r:Nat):Int),0,0,0,0,0⟩) 124)))
 have HK0:=aA (Kp.of_below SP (aD W (.cells (bN ⟨27,((p:Nat):Int),((q:Nat):Int),((r:Nat):Int),0,0,0,0,0⟩) 124)))
 have HL:=aA hlen
 have HG:=aA (hE.gl)
 have ht:dC NM (.tri 27 x y z)=pJ 27++40::(jn NM [x,y,z] 3++[41]):=by simp[dC,jn,List.range_succ]
 have hN:∀ j,j < 3->dJ w t b NM NS (([x,y,z]:List E).getD j z0):=by
   intro j hj
   match j,hj with
   | 0,_=>exact hx
   | 1,_=>exact hy
   | 2,_=>exact hz
   | _+3,hj=>exact absurd hj (by omega)
 have hS:∀ j,j < 3->dI NS (([x,y,z]:List E).getD j z0) (([p,q,r]:List Nat).getD j 0):=by
   intro j hj
   match j,hj with
   | 0,_=>exact lx
   | 1,_=>exact ly
   | 2,_=>exact lz
   | _+3,hj=>exact absurd hj (by omega)
 have hC:∀ j,j < 3->(#[.i ((p:Nat):Int),.i ((q:Nat):Int),.i ((r:Nat):Int)]:Array Value)[j]?=some (.i ((([p,q,r]:List Nat).getD j 0:Nat):Int)):=by
   intro j hj
   match j,hj with
   | 0,_=>rfl
   | 1,_=>rfl
   | 2,_=>rfl
   | _+3,hj=>exact absurd hj (by omega)
 have HL2:=aA (show out.length+(pJ 27).length+(jn NM [x,y,z] 3).length+2<=1099511627776 by rw[ht] at hlen;simp at hlen;omega)
 have HT:=aA (show out++dC NM (.tri 27 x y z)=out++(pJ ((27:Nat):Int)++40::(jn NM [x,y,z] 3++[41])) by rw[ht];rfl)
 have HP0A:=aA (HP0.o.later (aD _ (.cells #[.i ((p:Nat):Int),.i ((q:Nat):Int),.i ((r:Nat):Int)] 3)))
 have HK0A:=aA (HK0.o.trans (Kp.of_below SP (aD _ (.cells #[.i ((p:Nat):Int),.i ((q:Nat):Int),.i ((r:Nat):Int)] 3))))
 have HQ:=aA (aB.new (W.alloc (.cells (bN ⟨27,((p:Nat):Int),((q:Nat):Int),((r:Nat):Int),0,0,0,0,0⟩) 124)) 3 #[.i ((p:Nat):Int),.i ((q:Nat):Int),.i ((r:Nat):Int)])
 have Hc:=aA (kT hE [x,y,z] [p,q,r] 3 (by decide) hN hS 27 (by decide) _ out HP0A.o _ #[.i ((p:Nat):Int),.i ((q:Nat):Int),.i ((r:Nat):Int)] HQ.o hC HL2.o)
 rw[wSa] at Hc
 clear ht hN hS hC HL hx hy hz lx ly lz
 simp only at n0 n1 n2 n3 n4 n5 n6 n7 n8
 clear hp0 hb0 hown0 hP hi hdv hlen hE
 go_enter Tryz.func144,Tryz.ntmps144
 go_wp2_with fail
 refine Hc.o.mono ?_
 rintro e W1 ⟨rfl,hP1,hK1⟩
 have HP1:=aA hP1
 have HK1:=aA (HK0A.o.trans hK1)
 clear hP1 hK1 HP0 HX0 n0 n1 n2 n3 n4 n5 n6 n7 n8 c4
 go_wp2_with fail
 go_end0
 exact⟨rfl,HT.o ▸ HP1.o,HK1.o⟩
theorem aRe {t:Tv}{NM:List aN}{NS:List Nd}(hE:Env w t NM BS NS root){x y z:E}(hx:dJ w t b NM NS x)(hy:dJ w t b NM NS y)(hz:dJ w t b NM NS z)(ho:1<=wE x/\wE x<=28)(p q r:Nat)(lx:dI NS x p)(ly:dI NS y q)(lz:dI NS z r)
  (W:World) (out:List UInt8) (i:Nat) (hP:Pb w W b t out) (hi:NS[i]?=some ⟨28,((p:Nat):Int),((q:Nat):Int),((r:Nat):Int),0,0,0,0,0⟩) (hlen:out.length+(dC NM (.tri 28 x y z)).length<=1099511627776) :
  Calls Tryz.prog 144 #[ptr b,.i i] W fun r W'=>r=.returned (.tuple #[])/\Pb w W' b t (out++dC NM (.tri 28 x y z))/\Kp SP W W':=by
 obtain⟨g,off,dl,dc,hdv,hil,hdl,hdc,⟨n0,n1,n2,n3,n4,n5,n6,n7,n8⟩,hg⟩:=hE.node hP hi
 obtain⟨p0,v0,hp0,hb0,hown0⟩:=hP.ex
 have c4:W.cell? ⟨b,4,none⟩=some t.dv:=hb0.cell 4 rfl
 rw[hdv] at c4
 have HX0:=aA (aB.new W 124 (bN ⟨28,((p:Nat):Int),((q:Nat):Int),((r:Nat):Int),0,0,0,0,0⟩))
 have HP0:=aA (hP.later (aD W (.cells (bN ⟨28,((p:Nat):Int),((q:Nat):Int),((r:Nat):Int),0,0,0,0,0⟩) 124)))
 have HK0:=aA (Kp.of_below SP (aD W (.cells (bN ⟨28,((p:Nat):Int),((q:Nat):Int),((r:Nat):Int),0,0,0,0,0⟩) 124)))
 have HL:=aA hlen
 have HG:=aA (hE.gl)
 have Hc:=aA (aGh hE hx hy hz ho _ out p q r HP0.o lx ly lz hlen)
 clear hx hy hz ho lx ly lz
 simp only at n0 n1 n2 n3 n4 n5 n6 n7 n8
 clear hp0 hb0 hown0 hP hi hdv hlen hE
 go_enter Tryz.func144,Tryz.ntmps144
 go_wp2_with fail
 refine(Hc.o).mono ?_
 rintro e W1 ⟨rfl,hP1,hK1⟩
 have HP1:=aA hP1
 have HK1:=aA (HK0.o.trans hK1)
 clear hP1 hK1 HP0 HX0 n0 n1 n2 n3 n4 n5 n6 n7 n8 c4
 go_wp2_with fail
 go_end0
 exact⟨rfl,HP1.o,HK1.o⟩
theorem aVo {t:Tv}{NM:List aN}{NS:List Nd}(hE:Env w t NM BS NS root)(k:Nat)(hk:8<=k/\k<=23){x y:E}(hx:dJ w t b NM NS x)(hy:dJ w t b NM NS y)(hox:1<=wE x/\wE x<=28)(hoy:1<=wE y/\wE y<=28)(p q:Nat)(lx:dI NS x p)(ly:dI NS y q)
  (W:World) (out:List UInt8) (i:Nat) (hP:Pb w W b t out) (hi:NS[i]?=some ⟨((k:Nat):Int),((p:Nat):Int),((q:Nat):Int),0,0,0,0,0,0⟩) (hlen:out.length+(dC NM (.bin k x y)).length<=1099511627776) :
  Calls Tryz.prog 144 #[ptr b,.i i] W fun r W'=>r=.returned (.tuple #[])/\Pb w W' b t (out++dC NM (.bin k x y))/\Kp SP W W':=by
 obtain⟨g,off,dl,dc,hdv,hil,hdl,hdc,⟨n0,n1,n2,n3,n4,n5,n6,n7,n8⟩,hg⟩:=hE.node hP hi
 obtain⟨p0,v0,hp0,hb0,hown0⟩:=hP.ex
 have c4:W.cell? ⟨b,4,none⟩=some t.dv:=hb0.cell 4 rfl
 rw[hdv] at c4
 have HX0:=aA (aB.new W 124 (bN ⟨((k:Nat):Int),((p:Nat):Int),((q:Nat):Int),0,0,0,0,0,0⟩))
 have HP0:=aA (hP.later (aD W (.cells (bN ⟨((k:Nat):Int),((p:Nat):Int),((q:Nat):Int),0,0,0,0,0,0⟩) 124)))
 have HK0:=aA (Kp.of_below SP (aD W (.cells (bN ⟨((k:Nat):Int),((p:Nat):Int),((q:Nat):Int),0,0,0,0,0,0⟩) 124)))
 have HL:=aA hlen
 have HG:=aA (hE.gl)
 have Hc:=aA (aD5 hE hx hy hox hoy k hk _ out p q HP0.o lx ly hlen)
 have t1:((k:Int)==1)=false:=by simp;omega
 have t2:((k:Int)==2)=false:=by simp;omega
 have t3:((k:Int)==3)=false:=by simp;omega
 have t4:((k:Int)==4)=false:=by simp;omega
 have t5:((k:Int)==5)=false:=by simp;omega
 have t6:((k:Int)==6)=false:=by simp;omega
 have t7:((k:Int)==7)=false:=by simp;omega
 have t24:((k:Int)==24)=false:=by simp;omega
 have t25:((k:Int)==25)=false:=by simp;omega
 have t26:((k:Int)==26)=false:=by simp;omega
 have t27:((k:Int)==27)=false:=by simp;omega
 have t28:((k:Int)==28)=false:=by simp;omega
 clear hx hy hox hoy lx ly
 simp only at n0 n1 n2 n3 n4 n5 n6 n7 n8
 clear hp0 hb0 hown0 hP hi hdv hlen hE
 go_enter Tryz.func144,Tryz.ntmps144
 go_wp2_with fail
 refine(Hc.o).mono ?_
 rintro e W1 ⟨rfl,hP1,hK1⟩
 have HP1:=aA hP1
 have HK1:=aA (HK0.o.trans hK1)
 clear hP1 hK1 HP0 HX0 n0 n1 n2 n3 n4 n5 n6 n7 n8 c4
 go_wp2_with fail
 go_end0
 exact⟨rfl,HP1.o,HK1.o⟩
end Go.Proofs.YticnbcfmbhjbgabGreatDoor
namespace Go.Proofs.YticnbcfmbhjbgabGreatDoor
open Go.RowKit Go.IntWalk Lx Pz Go.Sort
theorem aIs {bd:Nat}{e:E}(h:Gd bd e):1<=wE e/\wE e<=28:=by
 cases e with
 | leaf n=>have:=xC h;simp only[wE];omega
 | un o a=>have:=aPk h.1;simp only[wE];omega
 | bin o a b=>have:=aPl h.1;simp only[wE];omega
 | tri o a b c=>have:=aFk h.1;simp only[wE];omega
theorem aI8 {n:Nd}{op a b c k back co x y:Int}(h0:n.op=op)(h1:n.a=a)(h2:n.b=b)(h3:n.c=c)(h4:n.k=k)(h5:n.back=back)(h6:n.co=co)(h7:n.x=x)(h8:n.y=y):n=⟨op,a,b,c,k,back,co,x,y⟩:=by
 cases n;simp_all
theorem iT {w:World}{t:Tv}{NM:List aN}{BS:List Int}{NS:List Nd}{root:Int}{b:Nat}(hE:Env w t NM BS NS root){bd:Nat}(hbd:bd<=NM.length):∀(e:E),Gd bd e->dJ w t b NM NS e
 | .leaf n,hg=>by
  intro W out i hP hL hlen
  obtain⟨ha,hb,hc,h⟩:=xC hg
  rcases h with⟨ho,hk,-,hr⟩|⟨h5,h6,h7,h8,⟨ho,hk⟩|⟨ho,hk⟩|⟨ho,hk⟩⟩
  ·have e:n=⟨3,0,0,0,0,n.back,n.co,n.x,n.y⟩:=aI8 ho ha hb hc hk rfl rfl rfl rfl
   have ht:dC NM (.leaf n)=wG n:=by simp only[dC,zI,ho];rfl
   rw[ht] at hlen ⊢
   have hi:NS[i]?=some n:=hL
   rw[e] at hi hlen ⊢
   exact aVj hE n.back n.co n.x n.y ⟨hr.1,hr.2.1⟩ ⟨hr.2.2.1,hr.2.2.2.1⟩ ⟨hr.2.2.2.2.1,hr.2.2.2.2.2⟩ W out i hP hi hlen
  ·have e:n=⟨1,0,0,0,n.k,0,0,0,0⟩:=aI8 ho ha hb hc rfl h5 h6 h7 h8
   have ht:dC NM (.leaf n)=Lib.itoa n.k:=by simp only[dC,zI,ho];rfl
   rw[ht] at hlen ⊢
   have hi:NS[i]?=some n:=hL
   rw[e] at hi
   exact aVh hE n.k hk W out i hP hi hlen
  ·obtain⟨k,hk2⟩:∃ k:Nat,n.k=k:=⟨n.k.toNat,by omega⟩
   have e:n=⟨2,0,0,0,((k:Nat):Int),0,0,0,0⟩:=aI8 ho ha hb hc hk2 h5 h6 h7 h8
   have ht:dC NM (.leaf n)=yZ.getD k []:=by simp only[dC,zI,ho,hk2];rfl
   rw[ht] at hlen ⊢
   have hi:NS[i]?=some n:=hL
   rw[e] at hi
   exact aVi hE k (by omega) W out i hP hi hlen
  ·obtain⟨k,hk2⟩:∃ k:Nat,n.k=k:=⟨n.k.toNat,by omega⟩
   have e:n=⟨4,0,0,0,((k:Nat):Int),0,0,0,0⟩:=aI8 ho ha hb hc hk2 h5 h6 h7 h8
   have ht:dC NM (.leaf n)=NM.getD k []:=by simp only[dC,zI,ho,hk2];rfl
   rw[ht] at hlen ⊢
   have hi:NS[i]?=some n:=hL
   rw[e] at hi
   exact aVk hE k (by omega) W out i hP hi hlen
 | .un o x,hg=>by
  intro W out i hP hL hlen
  have hx:=iT (b:=b) hE hbd x hg.2
  obtain⟨p,hi,lx⟩:=hL
  rcases aPk hg.1 with rfl|rfl|rfl
  ·exact aVl hE hx (aIs hg.2) p lx W out i hP hi hlen
  ·exact aVm hE hx p lx W out i hP hi hlen
  ·exact aVn hE hx p lx W out i hP hi hlen
 | .bin o x y,hg=>by
  intro W out i hP hL hlen
  have hx:=iT (b:=b) hE hbd x hg.2.1
  have hy:=iT (b:=b) hE hbd y hg.2.2
  obtain⟨p,q,hi,lx,ly⟩:=hL
  have ho:=aPl hg.1
  by_cases h24:o=24
  ·subst h24;exact aRa hE hx hy p q lx ly W out i hP hi hlen
  by_cases h25:o=25
  ·subst h25;exact aRb hE hx hy p q lx ly W out i hP hi hlen
  obtain⟨k,rfl⟩:∃ k:Nat,o=k:=⟨o.toNat,by omega⟩
  exact aVo hE k (by omega) hx hy (aIs hg.2.1) (aIs hg.2.2) p q lx ly W out i hP hi hlen
 | .tri o x y z,hg=>by
  intro W out i hP hL hlen
  have hx:=iT (b:=b) hE hbd x hg.2.1
  have hy:=iT (b:=b) hE hbd y hg.2.2.1
  have hz:=iT (b:=b) hE hbd z hg.2.2.2
  obtain⟨p,q,r,hi,lx,ly,lz⟩:=hL
  rcases aFk hg.1 with rfl|rfl|rfl
  ·exact aRc hE hx hy hz p q r lx ly lz W out i hP hi hlen
  ·exact aRd hE hx hy hz p q r lx ly lz W out i hP hi hlen
  ·exact aRe hE hx hy hz (aIs hg.2.1) p q r lx ly lz W out i hP hi hlen
def ltT (NM:List aN)(es:List E)(k:Nat):aN:=(List.range k).flatMap fun j=>[108,101,116,32]++(NM.getD j []++61::(dC NM (es.getD j z0)++[59]))
theorem uD (NM:List aN)(es:List E)(k:Nat):ltT NM es (k+1)=ltT NM es k++([108,101,116,32]++(NM.getD k []++61::(dC NM (es.getD k z0)++[59]))):=by simp[ltT,List.range_succ]
theorem aOf (NM:List aN)(es:List E){k n:Nat}(h:k<=n):(ltT NM es k).length<=(ltT NM es n).length:=by
 induction n with
 | zero=>rw[show k=0 by omega];exact nLr _
 | succ n ih =>
  by_cases e:k=n+1
  ·rw[e];exact nLr _
  ·rw[uD,lLa];have:=ih (by omega);omega
theorem aD6 {w:World}{t:Tv}{NM:List aN}{BS:List Int}{NS:List Nd}{b:Nat}{r:Nat}(hE:Env w t NM BS NS (r:Int))(es:List E)(ex:E)(n:Nat)(hnm:NM.length=n)(hbs:BS.length=n)(hn:n<=1024)
  (hN:∀ j,j < n->dJ w t b NM NS (es.getD j z0)) (hps:∀ j,j < n->∃ p:Nat,BS.getD j 0=p/\dI NS (es.getD j z0) p) (hR:dJ w t b NM NS ex) (hlr:dI NS ex r)
  (W:World) (hP:Pb w W b t []) (hlen:(ltT NM es n).length+(dC NM ex).length<=1099511627776) :
  Calls Tryz.prog 85 #[ptr b] W fun e W'=>e=.returned (.tuple #[])/\Pb w W' b t (ltT NM es n++dC NM ex):=by
 obtain⟨na,nl,nc,hnv,hTx⟩:=hE.names
 obtain⟨ba,bl,bc,hbv,hIz⟩:=hE.binds
 have h1:=hTx.len
 have h2:=hIz.len
 have h3:=hTx.le
 have h4:=hTx.max
 have h5:=hIz.le
 obtain rfl:nl=n:=by omega
 obtain rfl:bl=nl:=by omega
 have hrv:=hE.root
 obtain⟨nv,bv,dv,rv⟩:=t
 simp only at hnv hbv hrv
 subst hnv hbv hrv
 obtain⟨p0,v0,hp0,hb0,-⟩:=hP.ex
 have c2:W.cell? ⟨b,2,none⟩=some (.slice na bl nc):=hb0.cell 2 rfl
 have HP0:=aA hP
 have HTx:=aA hTx
 have HIz:=aA hIz
 have HN:=aA hN
 have HPS:=aA hps
 have HR:=aA hR
 have HLR:=aA hlr
 have HL:=aA hlen
 clear hP hTx hIz hN hps hR hlr hlen hE h1 h2 hnm hbs hp0 hb0
 go_enter Tryz.func85,Tryz.ntmps85
 go_wp2_with fail
 go_loopw [10] (fun i wr=>∃ k:Nat,k<=bl/\i=.i k/\Hid (Pb w wr b ⟨.slice na bl nc,.slice ba bl bc,dv,.i r⟩ (ltT NM es k))) (fun i _=>bl-(intOf i).toNat)
 case atStart=>exact⟨0,nZl _,rfl,HP0⟩
 case round =>
  obtain⟨j,hj,rfl,HPj⟩:=hrel
  rename World=>V
  clear HP0 c2
  by_cases hlt:j < bl
  ·obtain⟨gn,ofn,rfl,e1⟩:∃ gn ofn,na=some ⟨gn,ofn,none⟩/\V.cell? ⟨gn,ofn+j,none⟩=some (.string (sB (NM.getD j []))):=by
    rcases(HTx.o.later HPj.o.old).cell with h0|⟨gn,ofn,ha,hc⟩
    ·omega
    ·exact⟨gn,ofn,ha,hc j hlt⟩
   have HNj:=aA (HN.o j hlt)
   obtain⟨pj,hpj,hlj⟩:=HPS.o j hlt
   have HLj:=aA hlj
   have HPJ:=aA hpj
   have hm:=aOf NM es (show j+1<=bl from hlt)
   rw[uD] at hm
   have HM:=aA hm
   have HJ:=aA (uD NM es j)
   clear hm hpj hlj
   generalize es.getD j z0=ej at *
   generalize NM.getD j []=tx at *
   have hj1:(j:Int) < bl:=by omega
   go_wp2_with fail
   refine(aZ HPj.o _ (by have:=HL.o;have:=HM.o;simp[bs] at *;omega)).mono ?_
   rintro e V1 ⟨rfl,hP,-⟩
   have HP1:=aA hP
   clear hP e1
   go_wp2_with fail
   refine(aZ HP1.o _ (by have:=HL.o;have:=HM.o;simp[bs] at *;omega)).mono ?_
   rintro e V2 ⟨rfl,hP,-⟩
   have HP2:=aA hP
   clear hP HP1
   go_wp2_with fail
   refine(aT HP2.o 61 (by decide) (by have:=HL.o;have:=HM.o;simp[bs] at *;omega)).mono ?_
   rintro e V3 ⟨rfl,hP,-⟩
   have HP3:=aA hP
   clear hP HP2
   obtain⟨p0,v0,hp0,hb0,-⟩:=HP3.o.ex
   have c3:V3.cell? ⟨b,3,none⟩=some (.slice ba bl bc):=hb0.cell 3 rfl
   obtain⟨gb,ofb,rfl,e2⟩:∃ gb ofb,ba=some ⟨gb,ofb,none⟩/\V3.cell? ⟨gb,ofb+j,none⟩=some (.i (pj:Int)):=by
    rcases(HIz.o.later HP3.o.old).cell with h0|⟨gb,ofb,ha,-,hc⟩
    ·omega
    ·have:=hc j hlt
     rw[HPJ.o] at this
     exact⟨gb,ofb,ha,this⟩
   clear hp0 hb0
   go_wp2_with fail
   refine(HNj.o V3 _ pj HP3.o HLj.o (by have:=HL.o;have:=HM.o;simp[bs] at *;omega)).mono ?_
   rintro e V4 ⟨rfl,hP,-⟩
   have HP4:=aA hP
   clear hP HP3 c3 e2
   go_wp2_with fail
   refine(aT HP4.o 59 (by decide) (by have:=HL.o;have:=HM.o;simp[bs] at *;omega)).mono ?_
   rintro e V5 ⟨rfl,hP,-⟩
   rw[show ltT NM es j++bs { data:=#[108,101,116,32] }++bs (sB tx)++[UInt8.ofNat 61]++dC NM ej++[UInt8.ofNat 59]=ltT NM es (j+1) by rw[HJ.o,gT];simp[bs]] at hP
   have HP5:=aA hP
   clear hP HP4
   go_wp2_with fail
   go_roundw
   case rel=>exact⟨j+1,by omega,by go_num,HP5⟩
   case measure=>simp[intOf];omega
  ·obtain rfl:j=bl:=by omega
   obtain⟨p0,v0,hp0,hb0,-⟩:=HPj.o.ex
   have c5:V.cell? ⟨b,5,none⟩=some (.i (r:Int)):=hb0.cell 5 rfl
   clear hp0 hb0
   go_wp2_with fail
   refine(HR.o V _ r HPj.o HLR.o (by have:=HL.o;omega)).mono ?_
   rintro e V1 ⟨rfl,hP,-⟩
   have HP4:=aA hP
   clear hP
   go_wp2_with fail
   go_end0
   exact⟨rfl,HP4.o⟩
end Go.Proofs.YticnbcfmbhjbgabGreatDoor
namespace Go.Proofs.YticnbcfmbhjbgabGreatDoor
open Go.RowKit Go.IntWalk Lx Pz Go.Sort
variable {BS:List Int} {root:Int}
theorem aJ2 {s:aN}(h:rU s=true):s.length<=16:=by simp only[rU,bAt,dEt] at h;exact h.1.1.2
theorem aHb {NM:List aN}(h:zO NM=true){s:aN}(hs:s ∈ NM):rU s=true/\mM s=false:=by
 simp only[zO,bAt,lAe] at h
 have:=h.1 s hs
 simpa using this
theorem aOz {NM:List aN}(h:zO NM=true)(k:Nat):(NM.getD k []).length<=16:=by
 rw[gdE]
 cases hk:NM[k]? with
 | none=>simp
 | some s=>exact aJ2 (aHb h (List.mem_of_getElem? hk)).1
theorem aDc (o:Int):(pJ o).length<=5:=by
 unfold pJ
 have:∀ x ∈ qE,x.1.length<=5:=by decide
 rw[gdE]
 cases h:qE[o.toNat]? with
 | none=>simp
 | some x=>exact this x (List.mem_of_getElem? h)
theorem aSx (k:Nat):(yZ.getD k []).length<=5:=by
 have:∀ x ∈ yZ,x.length<=5:=by decide
 rw[gdE]
 cases h:yZ[k]? with
 | none=>simp
 | some x=>exact this x (List.mem_of_getElem? h)
theorem aB9 (x:Bool)(l:aN):(brk x l).length<=l.length+2:=by unfold brk;split <;> simp
theorem lV {NM:List aN}(hn:zO NM=true){bd:Nat}:∀(e:E),Gd bd e->(dC NM e).length<=80*e.size
 | .leaf n,hg=>by
  obtain⟨-,-,-,h⟩:=xC hg
  simp only[dC,E.size]
  have h1:=aOz hn n.k.toNat
  have h2:=aSx n.k.toNat
  unfold zI
  split
  ·have:=uB (n:=n.k) (by omega) (by omega);omega
  split
  ·omega
  split
  ·omega
  ·rename_i h3 h4 h5
   have hb:=uB (n:=n.back) (by omega) (by omega)
   have hx:=uB (n:=n.x) (by omega) (by omega)
   have hy:=uB (n:=n.y) (by omega) (by omega)
   unfold wG
   split <;> split <;> simp <;> omega
 | .un o a,hg=>by
  have h1:=lV hn a hg.2
  have h2:=aDc o
  have h3:=aB9 (decide (rkE a < 8)) (dC NM a)
  simp only[dC,E.size]
  split <;> simp <;> omega
 | .bin o a b,hg=>by
  have h1:=lV hn a hg.2.1
  have h1b:=lV hn b hg.2.2
  have h2:=aDc o
  have h3:=aB9 (decide (rkE a < lfk o)) (dC NM a)
  have h4:=aB9 (decide (rkE b < ork o+1)) (dC NM b)
  simp only[dC,E.size]
  split <;> simp only[lLa,lLc,lLn] <;> omega
 | .tri o a b c,hg=>by
  have h1:=lV hn a hg.2.1
  have h1b:=lV hn b hg.2.2.1
  have h1c:=lV hn c hg.2.2.2
  have h2:=aDc o
  have h3:=aB9 (decide (rkE a < 1)) (dC NM a)
  simp only[dC,E.size]
  split <;> simp only[lLa,lLc,lLn] <;> omega
theorem aCr {es:List E}{j:Nat}(h:j < es.length):es[j]?=some (es.getD j z0):=by
 rw[gdE,gEg h];rfl
theorem aJu:∀(es:List E) (k:Nat),k < es.length->bY (es.take (k+1))=bY (es.take k)+(es.getD k z0).size
 | [],k,h=>by simp at h
 | a::es,0,h=>by simp[bY]
 | a::es,k+1,h=>by
  have:=aJu es k (by simpa using h)
  simp only[List.take_succ_cons,bY,this,List.getD_cons_succ]
  omega
theorem aI3 {NM:List aN}(hn:zO NM=true){es:List E}(hg:∀ j e,es[j]?=some e->Gd j e):∀ k,k<=es.length->(ltT NM es k).length<=22*k+80*bY (es.take k)
 | 0,_=>by simp[ltT]
 | k+1,h=>by
  have h1:=aI3 hn hg k (by omega)
  have h2:=lV hn _ (hg k _ (aCr (by omega)))
  have h3:=aOz hn k
  rw[uD,aJu es k (by omega)]
  simp only[lLa,lLc,lLn]
  omega
def whole (NM:List aN)(es:List E)(ex:E):aN:=ltT NM es es.length++dC NM ex
theorem Dec.short {NM:List aN}{NS:List Nd}{es:List E}{ex:E}(h:Dec NM BS NS root es ex):(whole NM es ex).length<=200000:=by
 have h1:=aI3 h.ok h.gd es.length (nLr _)
 have h2:=lV h.ok ex h.gx
 have h3:=h.few
 rw[h.nodes,lLa,E.flat_len,cZ] at h3
 have h4:es.length<=bY es:=by
  clear h h1 h2 h3
  induction es with
  | nil=>simp
  | cons a es ih=>have:=a.size_pos;simp only[lLc,bY];omega
 unfold whole
 rw[lLa]
 rw[lTg] at h1
 omega
theorem aI0 {NM:List aN}{bd:Nat}(hn:zO NM=true)(hb:bd<=NM.length):∀(e:E),Gd bd e->dC NM e≠[]
 | .leaf n,hg=>by
  obtain⟨-,-,-,h⟩:=xC hg
  simp only[dC]
  have hi:∀ z:Int,Lib.itoa z≠[]:=by
   intro z
   unfold Lib.itoa
   split
   ·simp
   ·unfold Lib.decDigits;split <;> simp
  unfold zI
  split
  ·exact hi _
  split
  ·have:∀ k,k < 6->yZ.getD k []≠[]:=by decide
   exact this _ (by omega)
  split
  ·have hk:n.k.toNat < NM.length:=by omega
   rw[gdE,gEg hk]
   have:=(aHb hn (List.getElem_mem hk)).1
   intro e
   simp only[oGs] at e
   rw[e] at this
   exact absurd this (by decide)
  ·unfold wG;split <;> simp
 | .un o a,hg=>by simp only[dC];split <;> simp
 | .bin o a b,hg=>by
  have h1:=aI0 hn hb a hg.2.1
  have h2:∀ x,brk x (dC NM a)≠[]:=by intro x;unfold brk;split <;> simp[h1]
  simp only[dC];split
  ·simp
  ·intro e;exact h2 _ (List.append_eq_nil_iff.1 e).1
 | .tri o a b c,hg=>by simp only[dC];split <;> simp
theorem aQ6 {NM:List aN}{NS:List Nd}{es:List E}{ex:E}(h:Dec NM BS NS root es ex):whole NM es ex≠[]:=by
 intro e
 exact aI0 h.ok (by rw[h.names];exact nLr _) ex h.gx (List.append_eq_nil_iff.1 e).2
abbrev aQ0 (na ba da:Option Addr)(nl nc bl bc dl dc:Nat)(root:Int):Value:=.agg (iG (.slice na nl nc) (.slice ba bl bc) (.slice da dl dc) (.i root))
theorem aYa (W:World)(t:Tv):Pb W (W.alloc (.cells (pcs (.pointer none) (.slice none 0 0) t) 156)) W.heap.size t [] :=
 ⟨⟨_,_,.inl rfl,aB.new W 156 _,⟨rfl,.inl ⟨rfl,rfl⟩⟩⟩,nLr _,aD _ _⟩
theorem aFl {W:World}{na ba da:Option Addr}{nl nc bl bc dl dc:Nat}{NM:List aN}{NS:List Nd}(hX:Tx W na nl nc NM)(hB:Iz W ba bl bc BS)(hN:Nz W da dl dc NS)(hG:Gl W){es:List E}{ex:E}(hD:Dec NM BS NS root es ex) :
  Calls Tryz.prog 35 #[aQ0 na ba da nl nc bl bc dl dc root] W fun e W'=>e=.returned (.tuple (if 1024 < (whole NM es ex).length then #[.string ⟨#[]⟩,.i 4] else #[.string (sB (whole NM es ex)),.i 0]))/\Below W.heap.size W W':=by
 have hs:∀ s ∈ NM,s.length<=9223372036854775807:=fun s h=>by have:=aJ2 (aHb hD.ok h).1;omega
 have hb0:=aD W (.cells (iG (.slice na nl nc) (.slice ba bl bc) (.slice da dl dc) (.i root)) 51)
 have HC:=aA (uU (root:=root) (hX.later hb0) (hB.later hb0) (hN.later hb0) hs)
 rw[jS.2 ⟨es,ex,hD⟩] at HC
 have HV:=aA (fun(V:World) (hV:Below W.heap.size W V)=>(show Env V ⟨.slice na nl nc,.slice ba bl bc,.slice da dl dc,.i root⟩ NM BS NS root from⟨⟨_,_,_,rfl,hX.later hV⟩,⟨_,_,_,rfl,hB.later hV⟩,⟨_,_,_,rfl,hN.later hV⟩,rfl,hG.later hV,hD.few⟩))
 have hnl:=hX.len
 have hbl:=hB.len
 obtain⟨r,hr⟩:∃ r:Nat,root=r:=⟨NS.length-1,by
  have h2:1<=NS.length:=by rw[hD.nodes,lLa,E.flat_len];have:=ex.size_pos;omega
  rw[hD.root];omega⟩
 have hH:=aB.new W 51 (iG (.slice na nl nc) (.slice ba bl bc) (.slice da dl dc) (.i root))
 have HB:=aA hb0
 have HH:=aA hH
 have HP:=aA (fun(V:World) (hV:Below W.heap.size W V)=>show Calls Tryz.prog 85 #[ptr V.heap.size] (V.alloc (.cells (pcs (.pointer none) (.slice none 0 0) ⟨.slice na nl nc,.slice ba bl bc,.slice da dl dc,.i root⟩) 156)) fun e W'=>e=.returned (.tuple #[])/\Pb V W' V.heap.size ⟨.slice na nl nc,.slice ba bl bc,.slice da dl dc,.i root⟩ (whole NM es ex) from by
  have hE:=HV.o V hV
  have hsh:=hD.short
  unfold whole at hsh ⊢
  rw[lLa] at hsh
  have hle:es.length<=1024:=by
   have h3:=hD.few
   have h4:BS.length<=NS.length:=aJe (zW.2 ⟨es,ex,hD.nodes,hD.binds,hD.gd,hD.gx⟩)
   rw[hD.binds,eU] at h4
   omega
  subst hr
  refine aD6 hE es ex es.length hD.names (by rw[hD.binds,eU]) hle (fun j hj=>iT hE (bd:=j) (by rw[hD.names];omega) _ (hD.gd j _ (aCr hj))) (fun j hj=>?_) (iT hE (bd:=es.length) (by rw[hD.names];exact nLr _) ex hD.gx) ?_ _ (aYa V _) (by omega)
  ·obtain⟨p,h1,h2⟩:=aBf es [] (ex.flat (bY es)) j _ (aCr hj)
   refine⟨p,?_,?_⟩
   ·rw[hD.binds,gdE]
    simp only[lLn] at h1
    rw[h1];rfl
   ·rw[hD.nodes]
    simpa using h2
  ·have h1:=iN ex (jH es 0) []
   rw[cZ,List.append_nil,<-hD.nodes] at h1
   have h2:=hD.root
   rw[hD.nodes,lLa,E.flat_len,cZ] at h2
   have h3:=ex.size_pos
   rw[show r=bY es+ex.size-1 by omega]
   exact h1)
 have HS:=aA (fun(V W':World) (hP:Pb V W' V.heap.size ⟨.slice na nl nc,.slice ba bl bc,.slice da dl dc,.i root⟩ (whole NM es ex))=>(And.intro (xD hP) (aHy hP (aQ6 hD))))
 clear hX hB hN hs hb0 hD hG HV hnl hbl hr hH
 generalize whole NM es ex=T at *
 by_cases hlen:1024 < T.length
 ·rw[if_pos hlen]
  go_enter Tryz.func35,Tryz.ntmps35
  go_wp2_with fail
  refine HC.o.mono ?_
  rintro e W1 ⟨rfl,hb⟩
  have HB1:=aA (bel HB.o hb)
  have HH1:=aA (HH.o.below hb)
  obtain⟨c0,c1,c2,c3⟩:=aX HH1.o
  clear hb HB HH HC
  go_wp2_with fail
  refine(HP.o W1 HB1.o).mono ?_
  rintro e W2 ⟨rfl,hP⟩
  have HP2:=aA hP
  clear hP c0 c1 c2 c3 HH1 HP
  go_wp2_with fail
  refine(HS.o W1 W2 HP2.o).1.mono ?_
  rintro e W3 ⟨rfl,rfl⟩
  go_wp2_with fail
  go_ret2
  exact⟨rfl,bel HB1.o HP2.o.old⟩
 ·rw[if_neg hlen]
  go_enter Tryz.func35,Tryz.ntmps35
  go_wp2_with fail
  refine HC.o.mono ?_
  rintro e W1 ⟨rfl,hb⟩
  have HB1:=aA (bel HB.o hb)
  have HH1:=aA (HH.o.below hb)
  obtain⟨c0,c1,c2,c3⟩:=aX HH1.o
  clear hb HB HH HC
  go_wp2_with fail
  refine(HP.o W1 HB1.o).mono ?_
  rintro e W2 ⟨rfl,hP⟩
  have HP2:=aA hP
  clear hP c0 c1 c2 c3 HH1 HP
  go_wp2_with fail
  refine(HS.o W1 W2 HP2.o).1.mono ?_
  rintro e W3 ⟨rfl,rfl⟩
  go_wp2_with fail
  refine(HS.o W1 W3 HP2.o).2.mono ?_
  rintro e W4 ⟨rfl,hb⟩
  go_wp2_with fail
  go_ret2
  exact⟨rfl,bel HB1.o hb⟩
end Go.Proofs.YticnbcfmbhjbgabGreatDoor
