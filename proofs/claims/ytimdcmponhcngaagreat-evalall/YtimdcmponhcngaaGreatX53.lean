/-
  EvalAll: of every kind, tree and window the law returns true, and the arguments read as before.
-/
import Derived.Test.YtimdcmponhcngaaGreatRows
import Derived.Test.YtimdcmponhcngaaGreatX52
namespace Go.Proofs.YtimdcmponhcngaaGreat
open Go.RowKit Go.IntWalk Lx Pz
set_option linter.unusedVariables false
set_option maxRecDepth 100000
set_option maxHeartbeats 16000000
theorem Ls.ins {w W:World}{a:Option Addr}{n c:Nat}{L:List Int}(h:Ls w W (.slice a n c) L):Knd.Ints W a L.length c L:=by
 obtain⟨a',c',e,hi,-⟩:=Knd.Ints.of_owns h.a
 cases e
 exact hi
theorem evall_walk (f d:Int)(v:Wd){W:World}{na ba da pa:Option Addr}{nl nc bl bc dl dc pl pc:Nat}{root:Int}{NM:List Txt}{BS:List Int}{NS:List Nd}(hX:Tx W na nl nc NM)(hB:Iz W ba bl bc BS)(hN:Nz W da dl dc NS)(hs:∀ s ∈ NM,s.length<=9223372036854775807)(hP:Knd.Ints W pa pl pc v.ps)
  (hn1:na=none->nl=0/\nc=0) (hn2:ba=none->bl=0/\bc=0) (hn3:da=none->dl=0/\dc=0) (hs1:(nl+1)*16<=140737488355328) (hs2:(bl+1)*8<=140737488355328) (hs3:(dl+1)*72<=140737488355328) (hp:pl<=17592186044000) :
  Calls Tryz.prog 3 #[.agg (kdA f d),.agg #[.slice na nl nc,.slice ba bl bc,.slice da dl dc,.int .i64 root],.agg (wdA v pa pl pc)] W fun e W'=>e=.returned (.bool true)/\Below W.heap.size W W':=by
 have HQ0:=hide (Tq.new W (kdA f d) #[.slice na nl nc,.slice ba bl bc,.slice da dl dc,.int .i64 root] (wdA v pa pl pc))
 have HR:=hide (roomy_any (hX.later HQ0.out.lo) (hB.later HQ0.out.lo) (hN.later HQ0.out.lo) hn1 hn2 hn3 hs1 hs2 hs3 (root:=root))
 have HX:=hide hX
 have HB:=hide hB
 have HN:=hide hN
 have HP:=hide hP
 have HS:=hide hs
 obtain⟨E,hE⟩:∃ E,evE f d v NM BS NS root=E:=⟨_,rfl⟩
 obtain⟨R,hR⟩:∃ R,evV f d v NM BS NS root=R:=⟨_,rfl⟩
 obtain⟨L,hL⟩:∃ L,evL f d v NM BS NS root=L:=⟨_,rfl⟩
 have HLl:=hide (evL_few f d v NM BS NS root)
 rw[hL] at HLl
 have HA1:=hide fun(V:World) (g1 g2 g3 g4 k1 k2 k3 pu pv:Nat) (h:Ea W V f d v na ba da pa nl nc bl bc dl dc pl pc g1 g2 g3 g4 k1 k2 k3 pu pv root NM BS NS)=>vall_ls f d v h.X2 h.B2 h.N2 hs h.P2 (root:=root)
 have HA2:=hide fun(V:World) (g1 g2 g3 g4 k1 k2 k3 pu pv:Nat) (h:Ea W V f d v na ba da pa nl nc bl bc dl dc pl pc g1 g2 g3 g4 k1 k2 k3 pu pv root NM BS NS)=>veval_any f d v h.X2 h.B2 h.N2 hs h.P2 (root:=root)
 have HA3:=hide fun(V:World) (g1 g2 g3 g4 k1 k2 k3 pu pv:Nat) (h:Ea W V f d v na ba da pa nl nc bl bc dl dc pl pc g1 g2 g3 g4 k1 k2 k3 pu pv root NM BS NS)=>wall_ints f d v h.X h.B h.N hs h.P (root:=root)
 have HA4:=hide fun(V:World) (g1 g2 g3 g4 k1 k2 k3 pu pv:Nat) (h:Ea W V f d v na ba da pa nl nc bl bc dl dc pl pc g1 g2 g3 g4 k1 k2 k3 pu pv root NM BS NS)=>weval_any f d v h.X h.B h.N hs h.P (root:=root)
 rw[hE,hL] at HA1 HA3
 rw[hE,hR] at HA2 HA4
 clear hX hB hN hs hP hn1 hn2 hn3 hs1 hs2 hs3 hE hR hL
 go_enter Tryz.func3,Tryz.ntmps3
 go_wp2_with fail
 refine HR.out.mono ?_
 clear HR
 rintro e V ⟨nv,bv,dv,rfl,h1,h2,h3,hb⟩
 obtain⟨g1,k1,rfl,hX2,l1,m1,c1⟩:=h1.tx
 obtain⟨g2,k2,rfl,hB2,l2,m2,c2⟩:=h2.iz
 obtain⟨g3,k3,rfl,hN2,l3,m3,c3⟩:=h3.nz
 have HQ1:=hide (HQ0.out.below hb)
 have HL:=hide (And.intro (And.intro l1 (And.intro l2 l3)) (And.intro m1 (And.intro m2 m3)))
 have H2:=hide (And.intro hX2 (And.intro hB2 hN2))
 have HC:=hide (And.intro c1 (And.intro c2 c3))
 clear h1 h2 h3 hb hX2 hB2 hN2 c1 c2 c3 l1 l2 l3 m1 m2 m3 HQ0
 have hbu:=bel1 V (.cells #[.slice (some ⟨g1,0,none⟩) nl k1,.slice (some ⟨g2,0,none⟩) bl k2,.slice (some ⟨g3,0,none⟩) dl k3,.int .i64 root] 28)
 have HU:=hide (HasC.new V 28 #[.slice (some ⟨g1,0,none⟩) nl k1,.slice (some ⟨g2,0,none⟩) bl k2,.slice (some ⟨g3,0,none⟩) dl k3,.int .i64 root])
 have hbv:=bel hbu (bel1 (V.alloc (.cells #[.slice (some ⟨g1,0,none⟩) nl k1,.slice (some ⟨g2,0,none⟩) bl k2,.slice (some ⟨g3,0,none⟩) dl k3,.int .i64 root] 28)) (.cells (wdA v pa pl pc) 30))
 have HZ:Hid (HasC ((V.alloc (.cells #[.slice (some ⟨g1,0,none⟩) nl k1,.slice (some ⟨g2,0,none⟩) bl k2,.slice (some ⟨g3,0,none⟩) dl k3,.int .i64 root] 28)).alloc (.cells (wdA v pa pl pc) 30)) (V.heap.size+1) 30 (wdA v pa pl pc)):=by
  have:=HasC.new (V.alloc (.cells #[.slice (some ⟨g1,0,none⟩) nl k1,.slice (some ⟨g2,0,none⟩) bl k2,.slice (some ⟨g3,0,none⟩) dl k3,.int .i64 root] 28)) 30 (wdA v pa pl pc)
  rw[World.size_alloc] at this
  exact hide this
 have HBv:=hide hbv
 have HBu:=hide hbu
 have HRm:=hide (Knd.roomy_any pa pl pc v.ps ((V.alloc (.cells #[.slice (some ⟨g1,0,none⟩) nl k1,.slice (some ⟨g2,0,none⟩) bl k2,.slice (some ⟨g3,0,none⟩) dl k3,.int .i64 root] 28)).alloc (.cells (wdA v pa pl pc) 30)) ((HP.out.later HQ1.out.lo).later hbv) hp)
 obtain⟨w0,w1,w2,w3⟩:=four_of HQ1.out.w
 have z0:=HQ1.out.w.lt
 have z1:W.heap.size+1+1 < V.heap.size+1:=by omega
 clear hbv hbu
 go_wp2_with fail
 refine HRm.out.mono ?_
 rintro e V4 ⟨rfl,hO,hb⟩
 simp only[World.size_alloc] at hO ⊢
 have HZ4:=HZ.out.below hb
 obtain⟨y0,y1,y2,y3⟩:=four_of HZ4
 have y4:=HZ4.frozen 3
 have hbv4:=bel HBv.out hb
 have hpz:V.heap.size+1 < V4.heap.size:=HZ4.lt
 have HQ5:Tq W (V4.setCell ⟨V.heap.size+1,3,none⟩ (.slice (some ⟨V.heap.size+1+1,0,none⟩) pl (pl+40))) (kdA f d) #[.slice na nl nc,.slice ba bl bc,.slice da dl dc,.int .i64 root] (wdA v pa pl pc) :=
  HQ1.out.below (hbv4.setCell (p:=⟨V.heap.size+1,3,none⟩) (by simp) _)
 have hb5:Below V.heap.size V (V4.setCell ⟨V.heap.size+1,3,none⟩ (.slice (some ⟨V.heap.size+1+1,0,none⟩) pl (pl+40))):=hbv4.setCell (p:=⟨V.heap.size+1,3,none⟩) (by simp) _
 have hU5:HasC (V4.setCell ⟨V.heap.size+1,3,none⟩ (.slice (some ⟨V.heap.size+1+1,0,none⟩) pl (pl+40))) V.heap.size 28 #[.slice (some ⟨g1,0,none⟩) nl k1,.slice (some ⟨g2,0,none⟩) bl k2,.slice (some ⟨g3,0,none⟩) dl k3,.int .i64 root] :=
  ((HU.out.alloc (.cells (wdA v pa pl pc) 30)).below hb).other (p:=⟨V.heap.size+1,3,none⟩) (by simp) _
 have HEa:Hid (Ea W (V4.setCell ⟨V.heap.size+1,3,none⟩ (.slice (some ⟨V.heap.size+1+1,0,none⟩) pl (pl+40))) f d v na ba da pa nl nc bl bc dl dc pl pc g1 g2 g3 (V.heap.size+1+1) k1 k2 k3 V.heap.size (V.heap.size+1) root NM BS NS) :=
  ⟨HQ5.lo,HX.out.later HQ5.lo,HB.out.later HQ5.lo,HN.out.later HQ5.lo,HP.out.later HQ5.lo,H2.out.1.later hb5,H2.out.2.1.later hb5,H2.out.2.2.later hb5,below_cell hb5 HC.out.1,below_cell hb5 HC.out.2.1,below_cell hb5 HC.out.2.2,
   own_put1 (own_mono hO (by have:=HQ1.out.lo.size;omega)) HZ4 (by decide) 3 _,HQ5,hU5,HZ4.set 3 _⟩
 obtain⟨k0,k1',-,-⟩:=two_of (HQ1.out.below hbv4).k
 obtain⟨u0,u1,u2,u3⟩:=four_of ((HU.out.alloc (.cells (wdA v pa pl pc) 30)).below hb)
 have n1:¬W.heap.size=V.heap.size+1:=by have:=HQ1.out.k.lt;omega
 clear w0 w1 w2 w3 z0 z1 HQ5 hb5 hU5 hO hb hbv4 HZ4 HU HZ HBv HBu HRm HQ1 H2 HC HX HB HN HP HS
 go_wp2_with fail
 obtain⟨V5,hV5⟩:∃ V5,V4.setCell ⟨V.heap.size+1,3,none⟩ (.slice (some ⟨V.heap.size+1+1,0,none⟩) pl (pl+40))=V5:=⟨_,rfl⟩
 rw[hV5] at HEa ⊢
 clear hV5 y0 y1 y2 y3 y4 k0 k1' u0 u1 u2 u3 n1 hpz
 generalize V.heap.size+1+1=g4 at *
 generalize V.heap.size+1=pv at *
 generalize V.heap.size=pu at *
 refine(HA1.out V5 _ _ _ _ _ _ _ _ _ HEa.out).mono ?_
 rintro e V6 ⟨a1,c1,rfl,hL1⟩
 have HE6:=hide (HEa.out.later hL1.bel)
 have HL1:=hide hL1
 have HZ5:=hide (show g4 < V5.heap.size from(HEa.out.O.lt g4 rfl).2)
 clear hL1 HEa
 obtain⟨k0,k1',-,-⟩:=two_of HE6.out.q.k
 obtain⟨u0,u1,u2,u3⟩:=four_of HE6.out.u
 obtain⟨y0,y1,y2,y3⟩:=four_of HE6.out.z
 go_wp2_with fail
 refine(HA2.out V6 _ _ _ _ _ _ _ _ _ HE6.out).mono ?_
 rintro e V7 ⟨rfl,hb⟩
 have HE7:=hide (HE6.out.later hb)
 have HL7:=hide (HL1.out.later hb)
 clear hb HE6 HL1 HA2 k0 k1' u0 u1 u2 u3 y0 y1 y2 y3
 obtain⟨k0,k1',-,-⟩:=two_of HE7.out.q.k
 obtain⟨t0,t1,t2,t3⟩:=four_of HE7.out.q.t
 obtain⟨w0,w1,w2,w3⟩:=four_of HE7.out.q.w
 go_wp2_with fail
 refine(HA3.out V7 _ _ _ _ _ _ _ _ _ HE7.out).mono ?_
 rintro e V8 ⟨a2,c2,rfl,hL2,hb⟩
 have HE8:=hide (HE7.out.later hb)
 have HL8:=hide (HL7.out.later hb)
 have HM8:=hide hL2
 clear hb HE7 HL7 HA3 k0 k1' t0 t1 t2 t3 w0 w1 w2 w3 hL2
 obtain⟨k0,k1',-,-⟩:=two_of HE8.out.q.k
 obtain⟨t0,t1,t2,t3⟩:=four_of HE8.out.q.t
 obtain⟨w0,w1,w2,w3⟩:=four_of HE8.out.q.w
 go_wp2_with fail
 refine(HA4.out V8 _ _ _ _ _ _ _ _ _ HE8.out).mono ?_
 rintro e V9 ⟨rfl,hb⟩
 have HE9:=hide (HE8.out.later hb)
 have HL9:=hide (HL8.out.later hb)
 have HM9:=hide (HM8.out.later hb)
 clear hb HE8 HL8 HM8 HA4 k0 k1' t0 t1 t2 t3 w0 w1 w2 w3
 go_wp2_with fail
 refine(vawake_any V9).mono ?_
 rintro e V10 ⟨rfl,hb⟩
 have HE10:=hide (HE9.out.later hb)
 have HL10:=hide (HL9.out.later hb)
 have HM10:=hide (HM9.out.later hb)
 clear hb HE9 HL9 HM9
 have hI1:=HL10.out.ins
 have HS1:=hide (Knd.sameI_any a1 a2 L.length L.length c1 c2 L L V10 hI1 HM10.out)
 rw[show decide (L=L)=true by simp] at HS1
 clear hI1
 go_wp2_with fail
 refine HS1.out.mono ?_
 rintro e V11 ⟨rfl,qq,rfl⟩
 have HE11:=hide (HE10.out.later (below_drewN V10 qq))
 have HL11:=hide (HL10.out.later (below_drewN V10 qq))
 have HM11:=hide (HM10.out.later (below_drewN V10 qq))
 clear HE10 HL10 HM10 HS1
 generalize V10.drewN qq=V12 at *
 have HL1:=HL.out
 have HH:=hide (held_any HE11.out.X2 HE11.out.B2 HE11.out.N2 HE11.out.X HE11.out.B HE11.out.N HL1.1.1 HL1.1.2.1 HL1.1.2.2 HL1.2.1 HL1.2.2.1 HL1.2.2.2 HE11.out.c1 HE11.out.c2 HE11.out.c3 (root:=root))
 clear HL1 HL
 obtain⟨t0,t1,t2,t3⟩:=four_of HE11.out.q.t
 obtain⟨u0,u1,u2,u3⟩:=four_of HE11.out.u
 go_wp2_with fail
 refine HH.out.mono ?_
 rintro e V13 ⟨rfl,hb⟩
 have HE13:=hide (HE11.out.later hb)
 have HL13:=hide (HL11.out.later hb)
 have HM13:=hide (HM11.out.later hb)
 clear hb HE11 HL11 HM11 HH t0 t1 t2 t3 u0 u1 u2 u3
 have HH:=hide (Knd.held_any g4 0 pl (pl+40) pa pc v.ps V13 HE13.out.more HE13.out.P)
 obtain⟨w0,w1,w2,w3⟩:=four_of HE13.out.q.w
 obtain⟨y0,y1,y2,y3⟩:=four_of HE13.out.z
 go_wp2_with fail
 refine HH.out.mono ?_
 rintro e V14 ⟨rfl,qr,rfl⟩
 have HE14:=hide (HE13.out.later (below_drewN V13 qr))
 have HL14:=hide (HL13.out.later (below_drewN V13 qr))
 have HM14:=hide (HM13.out.later (below_drewN V13 qr))
 clear HE13 HL13 HM13 HH w0 w1 w2 w3 y0 y1 y2 y3
 generalize V13.drewN qr=V15 at *
 obtain⟨k0,k1',-,-⟩:=two_of HE14.out.q.k
 obtain⟨u0,u1,u2,u3⟩:=four_of HE14.out.u
 obtain⟨y0,y1,y2,y3⟩:=four_of HE14.out.z
 go_wp2_with fail
 refine(HA1.out V15 _ _ _ _ _ _ _ _ _ HE14.out).mono ?_
 rintro e V16 ⟨a3,c3,rfl,hL3⟩
 have HE16:=hide (HE14.out.later hL3.bel)
 have HL16:=hide (HL14.out.later hL3.bel)
 have HM16:=hide (HM14.out.later hL3.bel)
 have HK16:=hide hL3
 have HS15:=hide (show V5.heap.size<=V15.heap.size from HL14.out.bel.size)
 have HO15:=hide (show ∀ k,Value.ownBlock (.slice a1 L.length c1)=some k->V5.heap.size<=k/\k < V15.heap.size from HL14.out.a.lt)
 clear hL3 HE14 HL14 HM14 HA1 k0 k1' u0 u1 u2 u3 y0 y1 y2 y3
 have hI3:=HK16.out.ins
 have HS3:=hide (Knd.sameI_any a3 a2 L.length L.length c3 c2 L L V16 hI3 HM16.out)
 rw[show decide (L=L)=true by simp] at HS3
 clear hI3
 go_wp2_with fail
 refine HS3.out.mono ?_
 rintro e V17 ⟨rfl,qs,rfl⟩
 have HE17:=hide (HE16.out.later (below_drewN V16 qs))
 have HL17:=hide (HL16.out.later (below_drewN V16 qs))
 have HK17:=hide (HK16.out.later (below_drewN V16 qs))
 clear HE16 HL16 HM16 HK16 HS3
 generalize V16.drewN qs=V18 at *
 obtain⟨y0,y1,y2,y3⟩:=four_of HE17.out.z
 go_wp2_with fail
 have hba:=bel1 V18 (.cells #[.slice a1 L.length c1,.slice a3 L.length c3,.slice (some ⟨g4,0,none⟩) pl (pl+40)] 25)
 have hX:=HasC.new V18 25 #[.slice a1 L.length c1,.slice a3 L.length c3,.slice (some ⟨g4,0,none⟩) pl (pl+40)]
 have r0:=own_later HL17.out.a hba
 have r1:=own_later HK17.out.a hba
 have r2:=own_later HE17.out.own hba
 have hA:∀ k,Value.ownBlock (.slice a1 L.length c1)=some k->V5.heap.size<=k/\k < V15.heap.size:=HO15.out
 have hC:∀ k,Value.ownBlock (.slice a3 L.length c3)=some k->V15.heap.size<=k/\k < V18.heap.size:=HK17.out.a.lt
 have hD:∀ k,Value.ownBlock (.slice (some ⟨g4,0,none⟩) pl (pl+40))=some k->W.heap.size<=k/\k < V5.heap.size:=fun k hk=>by
  have h4:k=g4:=by simp[Value.ownBlock] at hk;exact hk.symm
  subst h4
  exact⟨(HE17.out.O.lt _ rfl).1,HZ5.out⟩
 have s15:V15.heap.size<=V18.heap.size:=HK17.out.bel.size
 have s5:W.heap.size<=V5.heap.size:=by have:=(HE17.out.O.lt g4 rfl).1;have:=HZ5.out;omega
 have hlf:=HLl.out
 have hl:Ap.Lists (V18.alloc (.cells #[.slice a1 L.length c1,.slice a3 L.length c3,.slice (some ⟨g4,0,none⟩) pl (pl+40)] 25)) V18.heap.size 3 (fun i=>if i=0 then .slice a1 L.length c1 else if i=1 then .slice a3 L.length c3 else .slice (some ⟨g4,0,none⟩) pl (pl+40)) (fun i=>if i=0 then L.length else if i=1 then L.length else pl):=by
  have s5':V5.heap.size<=V18.heap.size:=by have:=HL17.out.bel.size;exact this
  have s6:=HS15.out
  refine⟨hX.lt,fun i hi=>?_,fun i hi=>?_,fun i j hi hj hij k hk=>?_,fun i hi=>?_,fun i hi=>?_,by omega⟩
  ·match i,hi with
   | 0,_=>exact hX.cell 0 rfl
   | 1,_=>exact hX.cell 1 rfl
   | 2,_=>exact hX.cell 2 rfl
  ·match i,hi with
   | 0,_=>exact⟨_,own_mono r0 (Nat.zero_le _)⟩
   | 1,_=>exact⟨_,own_mono r1 (Nat.zero_le _)⟩
   | 2,_=>exact⟨_,own_mono r2 (Nat.zero_le _)⟩
  ·intro hk2
   match i,hi,j,hj with
   | 0,_,0,_=>exact hij rfl
   | 1,_,1,_=>exact hij rfl
   | 2,_,2,_=>exact hij rfl
   | 0,_,1,_=>have h1:=hA k hk;have h2:=hC k hk2;omega
   | 0,_,2,_=>have h1:=hA k hk;have h2:=hD k hk2;omega
   | 1,_,0,_=>have h1:=hC k hk;have h2:=hA k hk2;omega
   | 1,_,2,_=>have h1:=hC k hk;have h2:=hD k hk2;omega
   | 2,_,0,_=>have h1:=hD k hk;have h2:=hA k hk2;omega
   | 2,_,1,_=>have h1:=hD k hk;have h2:=hC k hk2;omega
  ·intro hk2
   match i,hi with
   | 0,_=>have h1:=hA _ hk2;omega
   | 1,_=>have h1:=hC _ hk2;omega
   | 2,_=>have h1:=hD _ hk2;omega
  ·match i,hi with
   | 0,_=>show L.length<=17592186044000;omega
   | 1,_=>show L.length<=17592186044000;omega
   | 2,_=>exact hp
 have HLs:=hide hl
 have HBf:=hide (bel HE17.out.old hba)
 have HOf:=hide (show ∀ k,Ap.Of 3 (fun i=>if i=0 then .slice a1 L.length c1 else if i=1 then .slice a3 L.length c3 else .slice (some ⟨g4,0,none⟩) pl (pl+40)) k->W.heap.size<=k from by
  rintro k ⟨i,hi,hk⟩
  match i,hi with
  | 0,_=>have h1:=(hA k hk).1;omega
  | 1,_=>have h1:=(hC k hk).1;exact Nat.le_trans s5 (Nat.le_trans HS15.out h1)
  | 2,_=>exact(hD k hk).1)
 clear hl r0 r1 r2 hX hba hA hC hD s15 s5 hlf y0 y1 y2 y3
 refine(show Calls Tryz.prog 18 #[.slice (some ⟨V18.heap.size,0,none⟩) 3 3] _ _ from Ap.apart_any V18.heap.size 3 3 _ _ _ HLs.out).mono ?_
 rintro e W13 ⟨rfl,hK⟩
 have HB13:=hide (HBf.out.trans (hK.below (B:=W.heap.size) HBf.out.size HOf.out))
 clear hK
 go_wp2_with fail
 go_ret
 exact⟨rfl,HB13.out⟩
end Go.Proofs.YtimdcmponhcngaaGreat
namespace Go.Proofs.YtimdcmponhcngaaGreat
open Go.ChangeShapes Go.WideShapes Go.ChangeAt Go.RowKit
set_option linter.unusedVariables false
set_option maxRecDepth 100000
set_option maxHeartbeats 16000000
theorem evalAll_lifted (os:Os)(started:os.Started)(H:Type)(enc:TypeId × Value->H) :
  ReturnsInHanded {} Tryz.checked os 3 .any (Rows.evalAllSpec.pre6 enc Tryz.prog Tryz.f3 Rows.evalAllRow.domain false) (Rows.evalAllSpec.post enc Tryz.prog Tryz.f3 false true false false):=by
 refine returnsInHanded_of_change_sized (C:=Tryz.checked) ownK started (by kernel_rfl) Tryz.func3
  (ChangeSpec.witness6 (enc:=enc) (C:=Tryz.checked) false ⟨#[],#[.agg #[.int .i64 0,.int .i64 0],.agg #[.slice none 0 0,.slice none 0 0,.slice none 0 0,.int .i64 0],.agg #[.int .i64 0,.int .i64 0,.int .i64 0,.slice none 0 0]],[]⟩ 8 (by kernel_rfl) (by kernel_rfl) (by kernel_rfl) (by kernel_rfl)) ?_
 intro W base args ds gs before hval0 hW hcnd hsz0 _
 have hsz:(DataW.weightsEach Tryz.prog (Tryz.f3.params.toList++Rows.evalAllSpec.plain.varTypes Tryz.prog) (ds++gs)).all (·<=reachBytes)=true:=hsz0
 have hval:∀(j:Nat) t v,Tryz.f3.params[j]?=some t->args[j]?=some v->Value.okWide Tryz.prog W .any base t v:=hval0
 have hW':=hW
 obtain⟨p,q,hA0,hV,rfl,hfz,hnd⟩:=hW
 have hA:DataW.TrodAll enc Tryz.prog W 0 (fun _=>true) true Tryz.f3.params.toList args.toList ds p:=hA0
 rw[Tryz.params3] at hA hval hsz
 obtain⟨v0,vs0,d0,ds0,p0,q0,hargs,rfl,rfl,h0,r0⟩:=trodAll_cons hA
 obtain⟨v1,vs1,d1,ds1,p1,q1,rfl,rfl,rfl,h1,r1⟩:=trodAll_cons r0
 obtain⟨v2,vs2,d2,ds2,p2,q2,rfl,rfl,rfl,h2,r2⟩:=trodAll_cons r1
 obtain⟨rfl,rfl,rfl⟩:=trodAll_nil r2
 obtain rfl:args=#[v0,v1,v2]:=by cases args;simp_all
 obtain⟨rfl,rfl⟩:=trodVars_none hV
 have k0:=h0
 have lt0:∀ x ∈ p0,x.block < W.heap.size:=by obtain⟨m,hm⟩:=k0;exact DataW.trod_lt m _ _ _ hm
 obtain⟨f0,e0,rfl⟩:=open_kind (hval 0 23 v0 rfl rfl) h0
 have k1:=h1
 have lt1:∀ x ∈ p1,x.block < W.heap.size:=by obtain⟨m,hm⟩:=k1;exact DataW.trod_lt m _ _ _ hm
 obtain⟨na1,nl1,nc1,NM1,ba1,bl1,bc1,BS1,da1,dl1,dc1,NS1,root1,rfl,hX1,hN1,hI1,hY1,o01,o11,o21,y01,y11,y21,y31,hd1,he1,hf1,hg1⟩:=open_tree (hval 1 28 v1 rfl rfl) h1
 obtain⟨hR1,hS1,hT1⟩:=tree_reach hd1 he1 hf1 hg1 hsz 1 rfl rfl
 have k2:=h2
 have lt2:∀ x ∈ p2,x.block < W.heap.size:=by obtain⟨m,hm⟩:=k2;exact DataW.trod_lt m _ _ _ hm
 obtain⟨a2,b2,c2,sa2,sn2,sc2,zs2,rfl,hZ2,x0,x1,x2,x3,hxd,hxe⟩:=open_windowS (hval 2 30 v2 rfl rfl) h2
 have hp2:=window_reach hxd hxe hsz 2 rfl rfl
 clear hA0 hval0 hsz0
 refine(evall_walk f0 e0 ⟨a2,b2,c2,zs2⟩ hX1 hI1 hY1 hN1 hZ2 o01 o11 o21 hR1 hS1 hT1 hp2).mono fun e W' ⟨he,bel⟩=>?_
 subst he
 exact⟨_,rfl,_,_,_,[],_,[],hW',trodAll_mk1 (shut_bool Tryz.underlying4 _),trodAll_cons_mk (Below.trod laidOut' (by kernel_rfl) (of_decide_eq_true (by kernel_rfl)) k0 bel lt0) (trodAll_cons_mk (Below.trod laidOut' (by kernel_rfl) (of_decide_eq_true (by kernel_rfl)) k1 bel lt1) (trodAll_cons_mk (Below.trod laidOut' (by kernel_rfl) (of_decide_eq_true (by kernel_rfl)) k2 bel lt2) (trodAll_mk0))),rfl,bel.frame _,fun h=>by cases h⟩
theorem evalAll_holds:Rows.EvalAllSaid :=
 OpenClaim.holds_of_wide 3 Tryz.f3 rfl rfl rfl rfl rfl rfl rfl ⟨rfl,rfl,rfl,rfl,rfl⟩ rfl rfl rfl rfl rfl (by kernel_rfl) Tryz.func3 (by kernel_rfl)
  (of_decide_eq_true (by kernel_rfl)) (by unfold Func.isWrapper;first|(rw[if_pos (by decide +kernel)];kernel_rfl)|(rw[if_neg (by decide +kernel)];exact⟨rfl,rfl⟩))
  (fun os started H enc _=>evalAll_lifted os started H enc)
#print axioms evalAll_holds
end Go.Proofs.YtimdcmponhcngaaGreat
