import Derived.Test.YticnbcfmbhjbgaaGreatDoorX29
import Derived.Test.YticnbcfmbhjbgaaGreatDoorX22
set_option maxRecDepth 100000
set_option maxHeartbeats 32000000
set_option linter.unusedVariables false
namespace Go.Proofs.YticnbcfmbhjbgaaGreatDoor
section
open Go.RowKit Go.IntWalk Lx Pz
variable {V W:World} {b:Nat} {t:TypeId}
theorem aG8 (W:World)(o:Obj)(t:TypeId)(cs:Array Value):aB ((W.alloc o).alloc (.cells cs t)) (W.heap.size+1) t cs:=by
 have:=aB.new (W.alloc o) t cs
 rwa[wSa] at this
theorem aG9 (W:World)(o p:Obj)(t:TypeId)(cs:Array Value):aB (((W.alloc o).alloc p).alloc (.cells cs t)) (W.heap.size+1+1) t cs:=by
 have:=aB.new ((W.alloc o).alloc p) t cs
 simp only[wSa] at this
 exact this
theorem aW6 (W:World)(o p q:Obj)(t:TypeId)(cs:Array Value):aB ((((W.alloc o).alloc p).alloc q).alloc (.cells cs t)) (W.heap.size+1+1+1) t cs:=by
 have:=aB.new (((W.alloc o).alloc p).alloc q) t cs
 simp only[wSa] at this
 exact this
theorem kN {n:Nd}(h:aB W b t (bH n)):at9 W b 0 n :=
 ⟨h.cell 0 rfl,h.cell 1 rfl,h.cell 2 rfl,h.cell 3 rfl,h.cell 4 rfl,h.cell 5 rfl,h.cell 6 rfl,h.cell 7 rfl,h.cell 8 rfl⟩
theorem aAq (f d:Int)(n:Nd)(hw:(jX n).wf)(W:World) :
  Calls Tryz.prog 134 #[.agg (dB f d),.agg (bH n)] W fun e W'=>e=.returned (.i (loK f d n))/\Below W.heap.size W W':=by
 have HB:=aA (bel (aD W (.cells (dB f d) 23)) (aD (W.alloc (.cells (dB f d) 23)) (.cells (bH n) 137)))
 unfold loK
 by_cases h3:n.op=3
 ·rw[if_pos h3]
  have q3:(n.op != 3)=false:=by simpa using h3
  have HN:=aA fun W=>Knd.jP f d (jX n) hw W
  unfold Knd.aPe at HN
  generalize Knd.mP f d (jX n)=Z at *
  clear h3
  go_enter Tryz.func134,Tryz.ntmps134
  go_wp2_with fail
  refine(HN.o _).mono ?_
  rintro e V1 ⟨rfl,hb⟩
  have HB1:=aA (bel HB.o hb)
  clear hb
  go_wp2_with fail
  go_ret
  exact⟨rfl,HB1.o⟩
 ·rw[if_neg h3]
  have q3:(n.op != 3)=true:=by simpa using h3
  clear h3
  go_enter Tryz.func134,Tryz.ntmps134
  go_wp2_with fail
  go_ret
  exact⟨rfl,HB.o⟩
theorem aTo {f d:Int}{BS D Z:List Int}{n:Nd}(hn:Wn BS D.length n)(h4:n.op≠4):qW f d (D++Z) n=qW f d D n:=by
 have hp:∀ p ∈ dG n,uH (D++Z) p=uH D p:=fun p h=>lF (hn.prt p h).2
 unfold qW
 rcases tO hn h4 with⟨e,-⟩|⟨-,e,hq⟩|⟨-,e,hq⟩|⟨-,e,hq⟩
 ·rw[e];rfl
 ·rw[hq] at hp
  rw[e,if_pos rfl,if_pos rfl,hp n.a (by simp)]
 ·rw[hq] at hp
  rw[e,if_neg (by decide),if_pos rfl,if_neg (by decide),if_pos rfl,hp n.a (by simp),hp n.b (by simp)]
 ·rw[hq] at hp
  rw[e,if_neg (by decide),if_neg (by decide),if_pos rfl,if_neg (by decide),if_neg (by decide),if_pos rfl,hp n.a (by simp),hp n.b (by simp),hp n.c (by simp)]
theorem aOi {a:Option Addr}{n c:Nat}{L:List Int}(h:Iz W a n c L)(h0:0 < n):∃ b off,a=some ⟨b,off,none⟩/\b < W.heap.size/\∀ i,i < n->W.cell? ⟨b,off+i,none⟩=some (.i (L.getD i 0)):=by
 rcases h.cell with h|h
 ·omega
 ·exact h
abbrev in0:Array Value:=#[.i 0,.i 0,.i 0,.i 0,.i 0,.i 0]
theorem xI {w:World}{p0 p1 p2 p3 p4 p5:Value}(h:aB V b t #[p0,p1,p2,p3,p4,p5])(hB:Below w.heap.size w V)(hb:w.heap.size<=b)(x0 x1 x2 x3 x4 x5:Value) :
  aB ((((((V.setCell ⟨b,0,none⟩ x0).setCell ⟨b,1,none⟩ x1).setCell ⟨b,2,none⟩ x2).setCell ⟨b,3,none⟩ x3).setCell ⟨b,4,none⟩ x4).setCell ⟨b,5,none⟩ x5) b t #[x0,x1,x2,x3,x4,x5] /\
  Below w.heap.size w ((((((V.setCell ⟨b,0,none⟩ x0).setCell ⟨b,1,none⟩ x1).setCell ⟨b,2,none⟩ x2).setCell ⟨b,3,none⟩ x3).setCell ⟨b,4,none⟩ x4).setCell ⟨b,5,none⟩ x5) :=
 ⟨(((((h.set 0 x0).set 1 x1).set 2 x2).set 3 x3).set 4 x4).set 5 x5,(((((hB.setCell (p:=⟨b,0,none⟩) hb _).setCell (p:=⟨b,1,none⟩) hb _).setCell (p:=⟨b,2,none⟩) hb _).setCell (p:=⟨b,3,none⟩) hb _).setCell (p:=⟨b,4,none⟩) hb _).setCell (p:=⟨b,5,none⟩) hb _⟩
theorem qM {p0 p1 p2 p3 p4 p5:Value}(h:aB W b t #[p0,p1,p2,p3,p4,p5]):W.cell? ⟨b,0,none⟩=some p0/\W.cell? ⟨b,1,none⟩=some p1/\W.cell? ⟨b,2,none⟩=some p2/\W.cell? ⟨b,3,none⟩=some p3/\W.cell? ⟨b,4,none⟩=some p4/\W.cell? ⟨b,5,none⟩=some p5 /\
  W.frozen? ⟨b,0,none⟩=false/\W.frozen? ⟨b,1,none⟩=false/\W.frozen? ⟨b,2,none⟩=false/\W.frozen? ⟨b,3,none⟩=false/\W.frozen? ⟨b,4,none⟩=false/\W.frozen? ⟨b,5,none⟩=false :=
 ⟨h.cell 0 rfl,h.cell 1 rfl,h.cell 2 rfl,h.cell 3 rfl,h.cell 4 rfl,h.cell 5 rfl,h.frozen 0,h.frozen 1,h.frozen 2,h.frozen 3,h.frozen 4,h.frozen 5⟩
structure Ld (W V:World)(kd nd:Array Value)(ms:Array Value):Prop where
 k:aB V W.heap.size 23 kd
 n:aB V (W.heap.size+1) 137 nd
 r:aB V (W.heap.size+1+1) 132 in0
 m:aB V (W.heap.size+1+1+1) 132 ms
 lo:Below W.heap.size W V
theorem Ld.below {W V V':World}{kd nd ms:Array Value}(h:Ld W V kd nd ms)(hb:Below V.heap.size V V'):Ld W V' kd nd ms:=⟨h.k.below hb,h.n.below hb,h.r.below hb,h.m.below hb,bel h.lo hb⟩
theorem Ld.put {kd nd ms:Array Value}(h:Ld W V kd nd ms)(i:Nat)(x:Value):Ld W (V.setCell ⟨W.heap.size+1+1+1,i,none⟩ x) kd nd (ms.setIfInBounds i x) :=
 ⟨h.k.other (p:=⟨W.heap.size+1+1+1,i,none⟩) (show W.heap.size≠W.heap.size+1+1+1 by omega) _,h.n.other (p:=⟨W.heap.size+1+1+1,i,none⟩) (show W.heap.size+1≠W.heap.size+1+1+1 by omega) _,h.r.other (p:=⟨W.heap.size+1+1+1,i,none⟩) (show W.heap.size+1+1≠W.heap.size+1+1+1 by omega) _,h.m.set i x,h.lo.setCell (p:=⟨W.heap.size+1+1+1,i,none⟩) (show W.heap.size<=W.heap.size+1+1+1 by omega) _⟩
abbrev ms0 (op:Int):Array Value:=#[.i op,.i 0,.i 0,.i 0,.i 0,.i 0]
theorem aDb (f d:Int){n:Nd}{BS:List Int}{i rl rc:Nat}{ra:Option Addr}{R:List Int}(hn:Wn BS i n)(h4:n.op≠4)(hR:Iz W ra rl rc R)(hi:i<=rl) :
  Calls Tryz.prog 72 #[.agg (dB f d),.agg (bH n),.slice ra rl rc] W fun e W'=>e=.returned (.agg (Cde.ia (qW f d R n)))/\Below W.heap.size W W':=by
 have HA:=aA fun W=>Spn.bQ n.op W
 rw[wV] at HA
 have HK:=aA fun W=>aAq f d n hn.wf W
 have hb1:=aD W (.cells (dB f d) 23)
 have hb2:=bel hb1 (aD (W.alloc (.cells (dB f d) 23)) (.cells (bH n) 137))
 have hb3:=bel hb2 (aD ((W.alloc (.cells (dB f d) 23)).alloc (.cells (bH n) 137)) (.cells in0 132))
 have hb4:=bel hb3 (aD (((W.alloc (.cells (dB f d) 23)).alloc (.cells (bH n) 137)).alloc (.cells in0 132)) (.cells (ms0 n.op) 132))
 have HL0:Hid (Ld W ((((W.alloc (.cells (dB f d) 23)).alloc (.cells (bH n) 137)).alloc (.cells in0 132)).alloc (.cells (ms0 n.op) 132)) (dB f d) (bH n) (ms0 n.op)) :=
  aA ⟨((aB.new W 23 (dB f d)).alloc (.cells (bH n) 137)).alloc (.cells in0 132) |>.alloc (.cells (ms0 n.op) 132),((aG8 W (.cells (dB f d) 23) 137 (bH n)).alloc (.cells in0 132)).alloc (.cells (ms0 n.op) 132),
   (aG9 W (.cells (dB f d) 23) (.cells (bH n) 137) 132 in0).alloc (.cells (ms0 n.op) 132),aW6 W (.cells (dB f d) 23) (.cells (bH n) 137) (.cells in0 132) 132 (ms0 n.op),hb4⟩
 have HRI:=aA (hR.later hb4)
 have HRW:=aA hR
 have hp:=hn.prt
 have hf:=tO hn h4
 clear hb1 hb2 hb3 hb4 hR hn
 unfold qW
 rcases hf with⟨e,-⟩|⟨-,e,hq⟩|⟨-,e,hq⟩|⟨-,e,hq⟩
 ·rw[e,if_neg (by decide),if_neg (by decide),if_neg (by decide)]
  rw[e] at HA
  generalize loK f d n=z at *
  clear e h4 hp
  go_enter Tryz.func72,Tryz.ntmps72
  go_wp2_with fail
  refine(HA.o _).mono ?_
  rintro e V1 ⟨rfl,rfl⟩
  obtain⟨V,hV⟩:∃ V,(((W.alloc (.cells (dB f d) 23)).alloc (.cells (bH n) 137)).alloc (.cells in0 132)).alloc (.cells (ms0 n.op) 132)=V:=⟨_,rfl⟩
  rw[hV] at HL0 HRI ⊢
  clear hV HA
  obtain⟨k0,k1,-,-⟩:=aP HL0.o.k
  obtain⟨e0,e1,e2,e3,e4,e5,e6,e7,e8⟩:=kN HL0.o.n
  go_wp2_with fail
  refine(HK.o _).mono ?_
  rintro e V1 ⟨rfl,hb⟩
  have HL1:=aA (HL0.o.below hb)
  obtain⟨m0,m1,m2,m3,m4,m5,y0,y1,y2,y3,y4,y5⟩:=qM HL1.o.m
  obtain⟨r0,r1,r2,r3,r4,r5,x0,x1,x2,x3,x4,x5⟩:=qM HL1.o.r
  clear hb k0 k1 e0 e1 e2 e3 e4 e5 e6 e7 e8 HL0
  go_wp2_with fail
  have HL2:=aA (HL1.o.put 4 (.i z))
  obtain⟨hc,hb⟩:=xI HL2.o.r HL2.o.lo (by omega) (.i n.op) (.i 0) (.i 0) (.i 0) (.i z) (.i 0)
  have c0:=hc.cell 0 rfl
  have c1:=hc.cell 1 rfl
  have c2:=hc.cell 2 rfl
  have c3:=hc.cell 3 rfl
  have c4:=hc.cell 4 rfl
  have c5:=hc.cell 5 rfl
  exact bPr (v:=.agg #[.i n.op,.i 0,.i 0,.i 0,.i z,.i 0]) (by simp[results,Tryz.results72,go_sem,c0,c1,c2,c3,c4,c5]) rfl ⟨rfl,hb⟩
 ·rw[e,if_pos rfl]
  rw[e] at HA
  rw[hq] at hp
  clear e h4 hq HK
  have ha:=hp n.a (by simp)
  obtain⟨pa,hpa⟩:∃ q:Nat,n.a=(q:Int):=⟨n.a.toNat,by omega⟩
  unfold uH
  rw[hpa]
  simp only[iTn]
  rw[hpa] at ha
  simp only[iTn] at ha
  clear hp
  obtain⟨b,off,rfl,hlb,hcw⟩:=aOi HRW.o (by omega)
  have hcv:=(HRI.o).cell
  have hne:b≠W.heap.size+1+1+1:=by omega
  obtain⟨za,hza⟩:∃ z,R.getD pa 0=z:=⟨_,rfl⟩
  rw[hza]
  go_enter Tryz.func72,Tryz.ntmps72
  go_wp2_with fail
  refine(HA.o _).mono ?_
  rintro e V1 ⟨rfl,rfl⟩
  obtain⟨V,hV⟩:∃ V,(((W.alloc (.cells (dB f d) 23)).alloc (.cells (bH n) 137)).alloc (.cells in0 132)).alloc (.cells (ms0 n.op) 132)=V:=⟨_,rfl⟩
  rw[hV] at HL0 HRI hcv ⊢
  clear hV HA hcw
  obtain⟨e0,e1,e2,e3,e4,e5,e6,e7,e8⟩:=kN HL0.o.n
  rw[hpa] at e1
  obtain⟨hcx⟩:Nonempty (∀ i,i < rl->V.cell? ⟨b,off+i,none⟩=some (.i (R.getD i 0))):=by
   rcases hcv with h|⟨b',off',h1,-,h2⟩
   ·omega
   ·cases h1;exact⟨h2⟩
  have ca:=hcx pa (by omega)
  rw[hza] at ca
  have ia:(pa:Int) < rl:=by omega
  have ja:(0:Int)<=pa:=by omega
  obtain⟨m0,m1,m2,m3,m4,m5,y0,y1,y2,y3,y4,y5⟩:=qM HL0.o.m
  obtain⟨r0,r1,r2,r3,r4,r5,x0,x1,x2,x3,x4,x5⟩:=qM HL0.o.r
  clear hcx hcv hlb HRI HRW hpa ha hza
  go_wp2_with fail
  have HL2:=aA (HL0.o.put 1 (.i za))
  obtain⟨hc,hb⟩:=xI HL2.o.r HL2.o.lo (by omega) (.i n.op) (.i za) (.i 0) (.i 0) (.i 0) (.i 0)
  have c0:=hc.cell 0 rfl
  have c1:=hc.cell 1 rfl
  have c2:=hc.cell 2 rfl
  have c3:=hc.cell 3 rfl
  have c4:=hc.cell 4 rfl
  have c5:=hc.cell 5 rfl
  exact bPr (v:=.agg #[.i n.op,.i za,.i 0,.i 0,.i 0,.i 0]) (by simp[results,Tryz.results72,go_sem,c0,c1,c2,c3,c4,c5]) rfl ⟨rfl,hb⟩
 ·rw[e,if_neg (by decide),if_pos rfl]
  rw[e] at HA
  rw[hq] at hp
  clear e h4 hq HK
  have ha:=hp n.a (by simp)
  have hb:=hp n.b (by simp)
  obtain⟨pa,hpa⟩:∃ q:Nat,n.a=(q:Int):=⟨n.a.toNat,by omega⟩
  obtain⟨pb,hpb⟩:∃ q:Nat,n.b=(q:Int):=⟨n.b.toNat,by omega⟩
  unfold uH
  rw[hpa,hpb]
  simp only[iTn]
  rw[hpa] at ha
  rw[hpb] at hb
  simp only[iTn] at ha hb
  clear hp
  obtain⟨b,off,rfl,hlb,hcw⟩:=aOi HRW.o (by omega)
  have hcv:=(HRI.o).cell
  have hne:b≠W.heap.size+1+1+1:=by omega
  obtain⟨za,hza⟩:∃ z,R.getD pa 0=z:=⟨_,rfl⟩
  obtain⟨zb,hzb⟩:∃ z,R.getD pb 0=z:=⟨_,rfl⟩
  rw[hza,hzb]
  go_enter Tryz.func72,Tryz.ntmps72
  go_wp2_with fail
  refine(HA.o _).mono ?_
  rintro e V1 ⟨rfl,rfl⟩
  obtain⟨V,hV⟩:∃ V,(((W.alloc (.cells (dB f d) 23)).alloc (.cells (bH n) 137)).alloc (.cells in0 132)).alloc (.cells (ms0 n.op) 132)=V:=⟨_,rfl⟩
  rw[hV] at HL0 HRI hcv ⊢
  clear hV HA hcw
  obtain⟨e0,e1,e2,e3,e4,e5,e6,e7,e8⟩:=kN HL0.o.n
  rw[hpa] at e1
  rw[hpb] at e2
  obtain⟨hcx⟩:Nonempty (∀ i,i < rl->V.cell? ⟨b,off+i,none⟩=some (.i (R.getD i 0))):=by
   rcases hcv with h|⟨b',off',h1,-,h2⟩
   ·omega
   ·cases h1;exact⟨h2⟩
  have ca:=hcx pa (by omega)
  rw[hza] at ca
  have ia:(pa:Int) < rl:=by omega
  have ja:(0:Int)<=pa:=by omega
  have cb:=hcx pb (by omega)
  rw[hzb] at cb
  have ib:(pb:Int) < rl:=by omega
  have jb:(0:Int)<=pb:=by omega
  obtain⟨m0,m1,m2,m3,m4,m5,y0,y1,y2,y3,y4,y5⟩:=qM HL0.o.m
  obtain⟨r0,r1,r2,r3,r4,r5,x0,x1,x2,x3,x4,x5⟩:=qM HL0.o.r
  clear hcx hcv hlb HRI HRW hpa ha hza hpb hb hzb
  go_wp2_with fail
  have HL2:=aA ((HL0.o.put 2 (.i zb)).put 1 (.i za))
  obtain⟨hc,hb⟩:=xI HL2.o.r HL2.o.lo (by omega) (.i n.op) (.i za) (.i zb) (.i 0) (.i 0) (.i 0)
  have c0:=hc.cell 0 rfl
  have c1:=hc.cell 1 rfl
  have c2:=hc.cell 2 rfl
  have c3:=hc.cell 3 rfl
  have c4:=hc.cell 4 rfl
  have c5:=hc.cell 5 rfl
  exact bPr (v:=.agg #[.i n.op,.i za,.i zb,.i 0,.i 0,.i 0]) (by simp[results,Tryz.results72,go_sem,c0,c1,c2,c3,c4,c5]) rfl ⟨rfl,hb⟩
 ·rw[e,if_neg (by decide),if_neg (by decide),if_pos rfl]
  rw[e] at HA
  rw[hq] at hp
  clear e h4 hq HK
  have ha:=hp n.a (by simp)
  have hb:=hp n.b (by simp)
  have hc:=hp n.c (by simp)
  obtain⟨pa,hpa⟩:∃ q:Nat,n.a=(q:Int):=⟨n.a.toNat,by omega⟩
  obtain⟨pb,hpb⟩:∃ q:Nat,n.b=(q:Int):=⟨n.b.toNat,by omega⟩
  obtain⟨pc,hpc⟩:∃ q:Nat,n.c=(q:Int):=⟨n.c.toNat,by omega⟩
  unfold uH
  rw[hpa,hpb,hpc]
  simp only[iTn]
  rw[hpa] at ha
  rw[hpb] at hb
  rw[hpc] at hc
  simp only[iTn] at ha hb hc
  clear hp
  obtain⟨b,off,rfl,hlb,hcw⟩:=aOi HRW.o (by omega)
  have hcv:=(HRI.o).cell
  have hne:b≠W.heap.size+1+1+1:=by omega
  obtain⟨za,hza⟩:∃ z,R.getD pa 0=z:=⟨_,rfl⟩
  obtain⟨zb,hzb⟩:∃ z,R.getD pb 0=z:=⟨_,rfl⟩
  obtain⟨zc,hzc⟩:∃ z,R.getD pc 0=z:=⟨_,rfl⟩
  rw[hza,hzb,hzc]
  go_enter Tryz.func72,Tryz.ntmps72
  go_wp2_with fail
  refine(HA.o _).mono ?_
  rintro e V1 ⟨rfl,rfl⟩
  obtain⟨V,hV⟩:∃ V,(((W.alloc (.cells (dB f d) 23)).alloc (.cells (bH n) 137)).alloc (.cells in0 132)).alloc (.cells (ms0 n.op) 132)=V:=⟨_,rfl⟩
  rw[hV] at HL0 HRI hcv ⊢
  clear hV HA hcw
  obtain⟨e0,e1,e2,e3,e4,e5,e6,e7,e8⟩:=kN HL0.o.n
  rw[hpa] at e1
  rw[hpb] at e2
  rw[hpc] at e3
  obtain⟨hcx⟩:Nonempty (∀ i,i < rl->V.cell? ⟨b,off+i,none⟩=some (.i (R.getD i 0))):=by
   rcases hcv with h|⟨b',off',h1,-,h2⟩
   ·omega
   ·cases h1;exact⟨h2⟩
  have ca:=hcx pa (by omega)
  rw[hza] at ca
  have ia:(pa:Int) < rl:=by omega
  have ja:(0:Int)<=pa:=by omega
  have cb:=hcx pb (by omega)
  rw[hzb] at cb
  have ib:(pb:Int) < rl:=by omega
  have jb:(0:Int)<=pb:=by omega
  have cc:=hcx pc (by omega)
  rw[hzc] at cc
  have ic:(pc:Int) < rl:=by omega
  have jc:(0:Int)<=pc:=by omega
  obtain⟨m0,m1,m2,m3,m4,m5,y0,y1,y2,y3,y4,y5⟩:=qM HL0.o.m
  obtain⟨r0,r1,r2,r3,r4,r5,x0,x1,x2,x3,x4,x5⟩:=qM HL0.o.r
  clear hcx hcv hlb HRI HRW hpa ha hza hpb hb hzb hpc hc hzc
  go_wp2_with fail
  have HL2:=aA (((HL0.o.put 3 (.i zc)).put 2 (.i zb)).put 1 (.i za))
  obtain⟨hc,hb⟩:=xI HL2.o.r HL2.o.lo (by omega) (.i n.op) (.i za) (.i zb) (.i zc) (.i 0) (.i 0)
  have c0:=hc.cell 0 rfl
  have c1:=hc.cell 1 rfl
  have c2:=hc.cell 2 rfl
  have c3:=hc.cell 3 rfl
  have c4:=hc.cell 4 rfl
  have c5:=hc.cell 5 rfl
  exact bPr (v:=.agg #[.i n.op,.i za,.i zb,.i zc,.i 0,.i 0]) (by simp[results,Tryz.results72,go_sem,c0,c1,c2,c3,c4,c5]) rfl ⟨rfl,hb⟩
end
section
open Go.RowKit Go.IntWalk Lx Pz
open Fld (oN)
variable {V W:World} {b base g gc n size:Nat} {sv v:Value} {e t:TypeId} {xs:List Value} {cs kd rs tr:Array Value} {d f:Int}
theorem oH {n:Cde.In}(h:aB W b 132 (Cde.ia n)):∀ j u,(Cde.i6 n)[j]?=some u->W.cell? ((⟨b,0,none⟩:Addr).add j)=some u:=by
 intro j u hu
 rw[Addr.add_lit,nZa]
 exact h.cell j (by rw[<-hu];simp[Cde.ia,Cde.i6])
theorem uD {L:List Cde.In}{ops:Array Oper}{o:Oper}{a:Act}{K:Act->World->Prop}{Q:Exit->Act->World->Prop}{E:Prop}
  (hgd:o.guard=none) (s x:Operand) (ho:o.op=.call { callee:=.builtin .append,args:=#[s,x],argTypes:=#[31,31] })
  (hs:a.eval s=v) (hen:V.ownsRow base 132 6 v L.length (Cde.dL L)) (hbase:base<=V.heap.size) (b:Nat) (n:Cde.In) (hx:a.eval x=.slice (some ⟨b,0,none⟩) 1 1) (hc:aB V b 132 (Cde.ia n)) (h3:L.length<=2000000)
  (h:∀ g cap w',w'.ownsRow base 132 6 (.slice (some ⟨g,0,none⟩) (L.length+1) cap) (L++[n]).length (Cde.dL (L++[n]))->V.grownBy w' v.ownBlock->K (a.put o.dst (.slice (some ⟨g,0,none⟩) (L.length+1) cap)) w') :
  if Region.wanted o (yielded ops a.tmps)=true then Oper.wp Tryz.prog o a V K Q else E:=by
 obtain⟨i0,hi0,hz0,hz1,hz2⟩:=Spn.info_parts oN
 refine step_append_lies V hgd s x 31 ho base 132 i0 _ 6 48 Tryz.underlying31 hi0 hz0 hz1 hz2 rfl (by omega) v L.length (Cde.dL L) hs hen ⟨b,0,none⟩ 1 1 (Cde.i6 n) hx rfl (oH hc) (by simp[Value.oneCell',Cde.i6]) (by omega) (by unfold maxLen;omega) (by omega) hbase V.heap.size rfl ?_
 intro g cap w' hown hgrow hat hlt
 refine h g cap w' ?_ hgrow
 rw[Cde.uE,lLa]
 exact hown
abbrev cO:Array Value:=#[.i 0,.i 0,.slice none 0 0,.i 0]
abbrev cdv (f d:Int)(v:Value)(o:Int):Array Value:=#[.i f,.i d,v,.i o]
theorem qH {i:Nat}(h:V.ownsRow base e size v n xs)(hb:aB V b t cs)(ht:t≠e)(x:Value):(V.setCell ⟨b,i,none⟩ x).ownsRow base e size v n xs:=nO h hb ht i x
theorem aU {w':World}(h:V.ownsRow base e size v n xs)(hg:V.grownBy w' v.ownBlock)(hb:aB V b t cs)(ht:t≠e):aB w' b t cs :=
 hb.kept hg fun he=>aJm h hb ht he.symm
theorem aUe {V':World}(h:V.ownsRow base e size v n xs)(hb:Below V.heap.size V V'):V'.ownsRow base e size v n xs:=Cde.bI h hb
structure Lb (W V:World)(gc g:Nat)(kd tr rs:Array Value)(f d:Int)(sv:Value)(I:List Cde.In)(R:List Int):Prop where
 k:aB V W.heap.size 23 kd
 t:aB V (W.heap.size+1) 50 tr
 o:aB V (W.heap.size+1+1) 33 rs
 c:aB V gc 33 (cdv f d sv 0)
 m:aB V g 3 (yZ R)
 s:V.ownsRow W.heap.size 132 6 sv I.length (Cde.dL I)
 hc:W.heap.size+1+1 < gc
 hg:gc < g
 lo:Below W.heap.size W V
theorem Lb.below {W V V':World}{gc g:Nat}{kd tr rs:Array Value}{f d:Int}{sv:Value}{I:List Cde.In}{R:List Int}(h:Lb W V gc g kd tr rs f d sv I R)(hb:Below V.heap.size V V'):Lb W V' gc g kd tr rs f d sv I R :=
 ⟨h.k.below hb,h.t.below hb,h.o.below hb,h.c.below hb,h.m.below hb,aUe h.s hb,h.hc,h.hg,bel h.lo hb⟩
theorem Lb.put {i:Nat}{I:List Cde.In}{D Z:List Int}{q:Int}(h:Lb W V gc g kd tr rs f d sv I (D++q::Z))(hk:D.length=i)(x:Int):Lb W (V.setCell ⟨g,i,none⟩ (.i x)) gc g kd tr rs f d sv I (D++x::Z):=by
 have hg:=h.hg
 have hc:=h.hc
 exact⟨h.k.other (p:=⟨g,i,none⟩) (by simp;omega) _,h.t.other (p:=⟨g,i,none⟩) (by simp;omega) _,h.o.other (p:=⟨g,i,none⟩) (by simp;omega) _,h.c.other (p:=⟨g,i,none⟩) (by simp;omega) _,aDj h.m hk x,qH h.s h.m (by decide) _,hc,hg,h.lo.setCell (p:=⟨g,i,none⟩) (by simp;omega) _⟩
theorem Lb.grow {w':World}{v':Value}{I J:List Cde.In}{R:List Int}(h:Lb W V gc g kd tr rs f d sv I R)(hg:V.grownBy w' sv.ownBlock)(hO:w'.ownsRow W.heap.size 132 6 v' J.length (Cde.dL J)):Lb W (w'.setCell ⟨gc,2,none⟩ v') gc g kd tr rs f d v' J R:=by
 have hgg:=h.hg
 have hc:=h.hc
 have hcc:=aU h.s hg h.c (by decide)
 refine⟨(aU h.s hg h.k (by decide)).other (p:=⟨gc,2,none⟩) (by simp;omega) _,(aU h.s hg h.t (by decide)).other (p:=⟨gc,2,none⟩) (by simp;omega) _,(aU h.s hg h.o (by decide)).other (p:=⟨gc,2,none⟩) (by simp;omega) _,?_,(aU h.s hg h.m (by decide)).other (p:=⟨gc,2,none⟩) (by simp;omega) _,qH hO hcc (by decide) _,hc,hgg,?_⟩
 ·exact hcc.set 2 v'
 ·exact(h.lo.grown hg h.lo.size fun k hk=>(Cde.aR h.s k hk).1).setCell (p:=⟨gc,2,none⟩) (by simp;omega) _
theorem lS {w:World}{p q r s:Value}(h:aB V b t #[p,q,r,s])(hB:Below w.heap.size w V)(hb:w.heap.size<=b)(x0 x1 x2 x3:Value) :
  aB ((((V.setCell ⟨b,0,none⟩ x0).setCell ⟨b,1,none⟩ x1).setCell ⟨b,2,none⟩ x2).setCell ⟨b,3,none⟩ x3) b t #[x0,x1,x2,x3] /\
  Below w.heap.size w ((((V.setCell ⟨b,0,none⟩ x0).setCell ⟨b,1,none⟩ x1).setCell ⟨b,2,none⟩ x2).setCell ⟨b,3,none⟩ x3) :=
 ⟨(((h.set 0 x0).set 1 x1).set 2 x2).set 3 x3,(((hB.setCell (p:=⟨b,0,none⟩) hb _).setCell (p:=⟨b,1,none⟩) hb _).setCell (p:=⟨b,2,none⟩) hb _).setCell (p:=⟨b,3,none⟩) hb _⟩
theorem nN (h:V.ownsRow base e size v n xs)(hb:aB V b t cs)(ht:t≠e)(x0 x1 x2 x3:Value):((((V.setCell ⟨b,0,none⟩ x0).setCell ⟨b,1,none⟩ x1).setCell ⟨b,2,none⟩ x2).setCell ⟨b,3,none⟩ x3).ownsRow base e size v n xs:=by
 have h0:=nO h hb ht 0 x0
 have b0:=hb.set 0 x0
 have h1:=nO h0 b0 ht 1 x1
 have b1:=b0.set 1 x1
 have h2:=nO h1 b1 ht 2 x2
 exact nO h2 (b1.set 2 x2) ht 3 x3
theorem aHo (f d:Int){na ba da:Option Addr}{nl nc bl bc dl dc:Nat}{root:Int}{NM:List aM}{BS:List Int}{NS:List Nd}(hX:Tx W na nl nc NM)(hB:Iz W ba bl bc BS)(hN:Nz W da dl dc NS)(hs:∀ s ∈ NM,s.length<=9223372036854775807) :
  Calls Tryz.prog 31 #[.agg (dB f d),.agg (eY (.slice na nl nc) (.slice ba bl bc) (.slice da dl dc) (.i root))] W (LoP W (loV f d NM BS NS root)):=by
 have hb1:=aD W (.cells (dB f d) 23)
 have hb2:=bel hb1 (aD (W.alloc (.cells (dB f d) 23)) (.cells (eY (.slice na nl nc) (.slice ba bl bc) (.slice da dl dc) (.i root)) 50))
 have hb3:=bel hb2 (aD ((W.alloc (.cells (dB f d) 23)).alloc (.cells (eY (.slice na nl nc) (.slice ba bl bc) (.slice da dl dc) (.i root)) 50)) (.cells cO 33))
 have HK0:=aA (((aB.new W 23 (dB f d)).alloc (.cells (eY (.slice na nl nc) (.slice ba bl bc) (.slice da dl dc) (.i root)) 50)).alloc (.cells cO 33))
 have HT0:=aA ((aG8 W (.cells (dB f d) 23) 50 (eY (.slice na nl nc) (.slice ba bl bc) (.slice da dl dc) (.i root))).alloc (.cells cO 33))
 have HO0:=aA (aG9 W (.cells (dB f d) 23) (.cells (eY (.slice na nl nc) (.slice ba bl bc) (.slice da dl dc) (.i root)) 50) 33 cO)
 have HB0:=aA hb3
 have HCk:=aA (gF f d (root:=root) (hX.later hb3) (hB.later hb3) (hN.later hb3) hs)
 have HBI:=aA hB
 have HNI:=aA hN
 have HLN:=aA hN.len
 have HLB:=aA hB.len
 clear hb1 hb2 hb3 hX hB hN
 go_enter Tryz.func31,Tryz.ntmps31
 go_wp2_with fail
 refine HCk.o.mono ?_
 rintro e V1 (⟨he,rfl,hb⟩|⟨he,g,rfl,-,-,hb⟩)
 ·obtain⟨er,hZ⟩:∃ er,jZ f d NM BS NS root=er:=⟨_,rfl⟩
  have hev:loV f d NM BS NS root=⟨er,0,0,[],0⟩:=by unfold loV;rw[if_neg he,hZ]
  rw[hZ] at he ⊢
  have HEv:=aA hev
  have h1:(er != 0)=true:=by simpa using he
  have HB1:=aA (bel HB0.o hb)
  have HO1:=aA (HO0.o.below hb)
  have hlt:=HO1.o.lt
  obtain⟨o0,o1,o2,o3⟩:=aC HO1.o
  have y0:=HO1.o.frozen 0
  have y1:=HO1.o.frozen 1
  have y2:=HO1.o.frozen 2
  have y3:=HO1.o.frozen 3
  clear he hev hZ hb HB0 HCk HK0 HT0 HO0
  go_wp2_with fail
  obtain⟨hp0,hpb0⟩:=lS HO1.o HB1.o (by omega) (.i 0) (.i 0) (.slice none 0 0) (.i 0)
  have hp:=hp0.alloc (.cells jJ 55)
  have hpb:=bel hpb0 (aD _ (.cells jJ 55))
  have p0:=hp.cell 0 rfl
  have p1:=hp.cell 1 rfl
  have p2:=hp.cell 2 rfl
  have p3:=hp.cell 3 rfl
  exact bPr (v:=.tuple #[.agg cO,.i er]) (by simp[results,Tryz.results31,go_sem,p0,p1,p2,p3]) rfl (by rw[HEv.o];exact⟨none,0,rfl,⟨rfl,.inl ⟨rfl,rfl⟩⟩,hpb⟩)
 ·have HE:=aA he
  have hev:loV f d NM BS NS root=⟨0,f,d,(pF f d BS NS).2,(pF f d BS NS).1.getD root.toNat 0⟩:=by unfold loV;rw[if_pos he]
  have HEv:=aA hev
  have HRt:=aA (jS (nC he))
  have HLw:=aA (zK he)
  obtain⟨es,ex,hD⟩:=iK.1 (nC he)
  have HW:=aA hD.wl
  have hfew:=hD.few
  rw[HLN.o] at hfew
  have hmk:=uK dl hfew
  have HNm:=aA fun(n:Nd) hn h3=>xZ he (n:=n) hn h3
  have hz:=(HO0.o.below hb).lt
  have HBx:Hid (Lb W (((V1.alloc (.cells #[.slice (some ⟨g,0,none⟩) NS.length NS.length,.i (oW NS),.i (mxR (rY BS NS []))] 55)).alloc (.cells (cdv f d (.slice none 0 0) 0) 33)).alloc (.cells (yZ (List.replicate dl 0)) 3)) (V1.heap.size+1) (V1.heap.size+1+1) (dB f d) (eY (.slice na nl nc) (.slice ba bl bc) (.slice da dl dc) (.i root)) cO f d (.slice none 0 0) [] (List.replicate dl 0)) :=
   aA ⟨(((HK0.o.below hb).alloc _).alloc _).alloc _,(((HT0.o.below hb).alloc _).alloc _).alloc _,(((HO0.o.below hb).alloc _).alloc _).alloc _,(aG8 _ _ _ _).alloc _,aG9 _ _ _ _ _,⟨rfl,.inl ⟨rfl,rfl⟩⟩,by omega,by omega,bel (bel (bel (bel HB0.o hb) (aD _ _)) (aD _ _)) (aD _ _)⟩
  obtain⟨k0,k1,-,-⟩:=aP (HK0.o.below hb)
  obtain⟨t0,t1,t2,t3⟩:=aC (HT0.o.below hb)
  have hz0:=(HK0.o.below hb).lt
  have hz1:=(HT0.o.below hb).lt
  clear hb he HB0 HCk HK0 HT0 HO0 hD hev
  generalize oW NS=co at *
  generalize mxR (rY BS NS [])=mx at *
  go_wp2_with fail
  obtain⟨gc,hgc⟩:∃ gc,V1.heap.size+1=gc:=⟨_,rfl⟩
  rw[hgc] at HBx ⊢
  obtain⟨gv,hgv⟩:∃ gv,gc+1=gv:=⟨_,rfl⟩
  rw[hgv] at HBx ⊢
  clear hgc hgv k0 k1 t0 t1 t2 t3 hz hz0 hz1 hmk
  go_loopw [31] (fun i wr=>∃(k:Nat) (D:List Int) (I:List Cde.In) (sa:Option Addr) (sc:Nat),k<=dl/\i=.i k/\Hid (pF f d BS (NS.take k)=(D,I))/\Hid (Lb W wr gc gv (dB f d) (eY (.slice na nl nc) (.slice ba bl bc) (.slice da dl dc) (.i root)) cO f d (.slice sa I.length sc) I (D++List.replicate (dl-k) 0))) (fun i _=>dl-(intOf i).toNat)
  case atStart=>exact⟨0,[],[],none,0,nZl _,rfl,aA rfl,HBx⟩
  case round =>
   obtain⟨k,D,I,sa,sc,hk,rfl,HD,HX⟩:=hrel
   rename World=>V
   clear HBx
   by_cases hlt:k < dl
   ·obtain⟨gn,off,rfl,hat⟩:=(HNI.o.later HX.o.lo).at (by omega)
    obtain⟨e0,e1,e2,e3,e4,e5,e6,e7,e8⟩:=hat k hlt
    clear hat
    have hi0:(0:Int)<=k:=by omega
    have hi1:(k:Int) < dl:=by omega
    have hWl:=aJ6 HW.o k
    have hLk:Lw (NS.take k) D I:=by
     have:=Lw.run (f:=f) (d:=d) (BS:=BS) (NS.take k) [] ([],[]) aC3 hWl (fun n hn h3=>HNm.o n (List.mem_of_mem_take hn) h3)
     rw[List.nil_append,show List.foldl (loS f d BS) ([],[]) (NS.take k)=(D,I) from HD.o] at this
     exact this
    have hDl:D.length=k:=by have:=hLk.len;rw[lLt,HLN.o] at this;omega
    have hIl:I.length<=1024:=by
     have h1:=hLk.cnt
     have h2:cn (NS.take k)<=(NS.take k).length:=List.length_filter_le _ _
     rw[lLt,HLN.o] at h2
     omega
    have HDl:=aA hDl
    have HWn:=aA (aB2 HW.o (by rw[HLN.o];exact hlt:k < NS.length))
    rw[nZa] at HWn
    have HD2:=aA (aOq f d BS (NS.take k) (NS.getD k n0))
    rw[<-aG n0 (by rw[HLN.o];exact hlt),HD.o] at HD2
    unfold loS at HD2
    rw[vO hlt] at HX
    have hz1:gv < V.heap.size:=HX.o.m.lt
    have hz2:gc < V.heap.size:=HX.o.c.lt
    have y0:=HX.o.m.frozen k
    have da:=HX.o.m.cell k (fF _ k (by simp;omega))
    clear hWl hLk
    generalize NS.getD k n0=n at *
    by_cases ho4:n.op=4
    ·have q4:(n.op==4)=true:=by simpa using ho4
     rw[if_pos ho4] at HD2
     unfold uH at HD2
     obtain⟨u0,u1,u2,u3⟩:=HWn.o.use ho4
     obtain⟨kk,hkk⟩:∃ kk:Nat,n.k=(kk:Int):=⟨n.k.toNat,by omega⟩
     rw[hkk] at e4 u1 u2 u3 HD2
     simp only[iTn] at u1 u2 u3 HD2
     obtain⟨bb,boff,rfl,hbb,hbc⟩:∃ b off,ba=some ⟨b,off,none⟩/\b < V.heap.size/\V.cell? ⟨b,off+kk,none⟩=some (.i (BS.getD kk 0)):=by
      rcases(HBI.o.later HX.o.lo).cell with h0|⟨b,off,ha,hlb,hc⟩
      ·rw[HLB.o] at u1;omega
      ·exact⟨b,off,ha,hlb,hc kk (by rw[<-HLB.o];exact u1)⟩
     obtain⟨q,hq⟩:∃ q:Nat,BS.getD kk 0=(q:Int):=⟨(BS.getD kk 0).toNat,by omega⟩
     rw[hq] at hbc u3 HD2
     simp only[iTn] at u3 HD2
     have s0:=fF (D++0::List.replicate (dl-(k+1)) 0) q (by simp;omega)
     rw[lF (by rw[hDl];exact u3)] at s0
     have d0:=HX.o.m.cell q s0
     generalize D.getD q 0=z at *
     have HX2:=aA ((HX.o.put hDl z).below (aD _ (.cells #[.i n.op,.i n.a,.i n.b,.i n.c,.i kk,.i n.back,.i n.co,.i n.x,.i n.y] 137)))
     have t1:=HX.o.t.cell 1 rfl
     have hz3:=HX.o.t.lt
     have w0:(kk:Int) < bl:=by have:=HLB.o;omega
     have w1:(q:Int) < dl:=by omega
     have w2:(0:Int)<=kk:=by omega
     have w3:(0:Int)<=q:=by omega
     clear s0 hq u0 u1 u2 u3 HWn hDl ho4
     go_wp2_with fail
     go_roundw
     case rel=>exact⟨k+1,D++[z],I,sa,sc,by omega,by go_num,aA HD2.o,aA (by rw[lAa];exact HX2.o)⟩
     case measure=>simp[intOf];omega
    have q4:(n.op==4)=false:=by simpa using ho4
    rw[if_neg ho4] at HD2
    dsimp only at HD2
    have HX4:=aA ((HX.o.put hDl (I.length:Int)).below (aD _ (.cells (bH n) 137)))
    have HNd:=aA (aB.new (V.setCell ⟨gv,k,none⟩ (.i (I.length:Int))) 137 (bH n))
    rw[World.size_setCell] at HNd
    obtain⟨c0,c1,c2,c3⟩:=aC HX.o.c
    go_wp2_with fail
    obtain⟨V4,hV4⟩:∃ V4,(V.setCell ⟨gv,k,none⟩ (.i (I.length:Int))).alloc (.cells (bH n) 137)=V4:=⟨_,rfl⟩
    rw[hV4] at HX4 HNd ⊢
    clear hV4 e0 e1 e2 e3 e4 e5 e6 e7 e8 y0 da c0 c1 c2 c3
    generalize V.heap.size=gp at *
    have hlen:(D++(I.length:Int)::List.replicate (dl-(k+1)) 0).length=dl:=by simp;omega
    have HZ:=aG7 HX4.o.m (by rw[hlen];exact hfew)
    rw[hlen] at HZ
    have HLo:=aA fun(w:World) (hb:Below V4.heap.size V4 w)=>aDb f d HWn.o ho4 (HZ.later hb) (by omega)
    rw[aTo (by rw[hDl];exact HWn.o) ho4] at HLo
    generalize qW f d D n=x at *
    obtain⟨c0,c1,c2,c3⟩:=aC HX4.o.c
    obtain⟨k0,k1,-,-⟩:=aP HX4.o.k
    obtain⟨e0,e1,e2,e3,e4,e5,e6,e7,e8⟩:=kN HNd.o
    clear HZ hlen ho4 HWn hDl HX
    have HS1:=aA (show aB V4.drew W.heap.size 23 (dB f d)/\aB V4.drew gp 137 (bH n) from⟨HX4.o.k.below (aF _),HNd.o.below (aF _)⟩)
    refine wp_region_held_drew (S:=fun w=>aB w W.heap.size 23 (dB f d)/\aB w gp 137 (bH n)) (by kernel_rfl) HS1.o (fun _=>?_)
    refine wpAnyH_take (i:=0) (v:=.pointer (some ⟨gc,2,none⟩)) rfl (by kernel_rfl) (by kernel_rfl) (by kernel_rfl) (fun _ _ _ h=>h) (Or.inl ⟨by rfl,fun w hS=>by obtain⟨a0,a1,-,-⟩:=aP hS.1;obtain⟨b0,b1,b2,b3,b4,b5,b6,b7,b8⟩:=kN hS.2;go_simp⟩) HS1.o ?_
    refine wpAnyH_take (i:=2) (v:=.agg (dB f d)) rfl (by kernel_rfl) (by kernel_rfl) (by kernel_rfl) (fun _ _ _ h=>h) (Or.inl ⟨by rfl,fun w hS=>by obtain⟨a0,a1,-,-⟩:=aP hS.1;obtain⟨b0,b1,b2,b3,b4,b5,b6,b7,b8⟩:=kN hS.2;go_simp⟩) HS1.o ?_
    refine wpAnyH_take (i:=3) (v:=.agg (bH n)) rfl (by kernel_rfl) (by kernel_rfl) (by kernel_rfl) (fun _ _ _ h=>h) (Or.inl ⟨by rfl,fun w hS=>by obtain⟨a0,a1,-,-⟩:=aP hS.1;obtain⟨b0,b1,b2,b3,b4,b5,b6,b7,b8⟩:=kN hS.2;go_simp⟩) HS1.o ?_
    refine wpAnyH_take (i:=4) (v:=.slice (some ⟨gv,0,none⟩) dl dl) rfl (by kernel_rfl) (by kernel_rfl) (by kernel_rfl) (fun _ _ _ h=>h) (Or.inl ⟨by rfl,fun w hS=>by obtain⟨a0,a1,-,-⟩:=aP hS.1;obtain⟨b0,b1,b2,b3,b4,b5,b6,b7,b8⟩:=kN hS.2;go_simp⟩) HS1.o ?_
    refine wpAnyH_ready (rs:=[1,5]) (by kernel_rfl) (by simp) (AllReadyH.cons rfl (fun K hK=>?_) (AllReadyH.cons rfl (fun K hK=>?_) AllReadyH.nil))
    ·have c2:=(HX4.o.c.below (aF _)).cell 2 rfl
     go_simp
     refine hK.out _ _ ⟨HS1.o.1,HS1.o.2⟩ (fun _=>?_)
     clear hK K
     refine wpAnyH_ready (rs:=[5]) (by kernel_rfl) (by simp) (AllReadyH.cons rfl (fun K hK=>?_) AllReadyH.nil)
     go_simp
     refine(HLo.o _ (aF _)).mono ?_
     rintro r w2 ⟨rfl,hb⟩
     have HX5:=aA ((HX4.o.below (aF _)).below hb)
     have HN5:=aA ((HNd.o.below (aF _)).below hb)
     have HX6:=aA (HX5.o.below (aD w2 (.cells (Cde.ia x) 132)))
     have HN6:=aA (HN5.o.below (aD w2 (.cells (Cde.ia x) 132)))
     clear hb
     refine hK.out _ _ ⟨HX5.o.k,HN5.o⟩ (fun _=>?_)
     clear hK K
     refine wpAnyH_ready (rs:=[6]) (by kernel_rfl) (by simp) (AllReadyH.cons rfl (fun K hK=>?_) AllReadyH.nil)
     go_simp
     refine hK.out _ _ ⟨HX6.o.k,HN6.o⟩ (fun _=>?_)
     clear hK K
     refine wpAnyH_ready (rs:=[7]) (by kernel_rfl) (by simp) (AllReadyH.cons rfl (fun K hK=>?_) AllReadyH.nil)
     refine uD (L:=I) (by rfl) _ _ (by rfl) (by rfl) HX6.o.s HX6.o.lo.size _ x (by rfl) (aB.new w2 _ _) (by omega) ?_
     intro g2 cap2 w3 hown hgrow
     have HC7:=aA (aU HX6.o.s hgrow HX6.o.c (by decide))
     have HK7:=aA (aU HX6.o.s hgrow HX6.o.k (by decide))
     have HN7:=aA (aU HX6.o.s hgrow HN6.o (by decide))
     have HX7:=aA (HX6.o.grow hgrow hown)
     have hge:=HX6.o.hc
     clear hown hgrow HX6 HN6
     refine hK.out _ _ ⟨HK7.o,HN7.o⟩ (fun _=>?_)
     clear hK K
     refine wpAnyH_ready (rs:=[8]) (by kernel_rfl) (by simp) (AllReadyH.cons rfl (fun K hK=>?_) AllReadyH.nil)
     go_simp
     refine hK.out _ _ ⟨HK7.o,HN7.o⟩ (fun _=>?_)
     clear hK K
     refine wpAnyH_ready (rs:=[9]) (by kernel_rfl) (by simp) (AllReadyH.cons rfl (fun K hK=>?_) AllReadyH.nil)
     have v2:=HC7.o.cell 2 rfl
     have yv:=HC7.o.frozen 2
     go_simp
     refine hK.out _ _ ⟨HX7.o.k,HN7.o.other (p:=⟨gc,2,none⟩) (show gp≠gc by omega) _⟩ (fun _=>?_)
     clear hK K
     refine wpAnyH_done (by kernel_rfl) ?_ _
     go_simp
     go_wp2_with fail
     go_roundw
     case rel=>exact⟨k+1,D++[(I.length:Int)],I++[x],_,_,by omega,by go_num,aA HD2.o,aA (by rw[lAa];simpa using HX7.o)⟩
     case measure=>simp[intOf];omega
    ·go_simp
     refine(HLo.o _ (aF _)).mono ?_
     rintro r w2 ⟨rfl,hb⟩
     have HX5:=aA ((HX4.o.below (aF _)).below hb)
     have HN5:=aA ((HNd.o.below (aF _)).below hb)
     have HX6:=aA (HX5.o.below (aD w2 (.cells (Cde.ia x) 132)))
     have HN6:=aA (HN5.o.below (aD w2 (.cells (Cde.ia x) 132)))
     clear hb
     refine hK.out _ _ ⟨HX5.o.k,HN5.o⟩ (fun _=>?_)
     clear hK K
     refine wpAnyH_ready (rs:=[1,6]) (by kernel_rfl) (by simp) (AllReadyH.cons rfl (fun K hK=>?_) (AllReadyH.cons rfl (fun K hK=>?_) AllReadyH.nil))
     have c2:=HX5.o.c.cell 2 rfl
     go_simp
     refine hK.out _ _ ⟨HX5.o.k,HN5.o⟩ (fun _=>?_)
     clear hK K
     refine wpAnyH_ready (rs:=[6]) (by kernel_rfl) (by simp) (AllReadyH.cons rfl (fun K hK=>?_) AllReadyH.nil)
     rotate_left
     go_simp
     refine hK.out _ _ ⟨HX6.o.k,HN6.o⟩ (fun _=>?_)
     clear hK K
     refine wpAnyH_ready (rs:=[1]) (by kernel_rfl) (by simp) (AllReadyH.cons rfl (fun K hK=>?_) AllReadyH.nil)
     have c2:=HX6.o.c.cell 2 rfl
     rotate_left
     all_goals
      go_simp
      refine hK.out _ _ ⟨HX6.o.k,HN6.o⟩ (fun _=>?_)
      clear hK K
      refine wpAnyH_ready (rs:=[7]) (by kernel_rfl) (by simp) (AllReadyH.cons rfl (fun K hK=>?_) AllReadyH.nil)
      refine uD (L:=I) (by rfl) _ _ (by rfl) (by rfl) HX6.o.s HX6.o.lo.size _ x (by rfl) (aB.new w2 _ _) (by omega) ?_
      intro g2 cap2 w3 hown hgrow
      have HC7:=aA (aU HX6.o.s hgrow HX6.o.c (by decide))
      have HK7:=aA (aU HX6.o.s hgrow HX6.o.k (by decide))
      have HN7:=aA (aU HX6.o.s hgrow HN6.o (by decide))
      have HX7:=aA (HX6.o.grow hgrow hown)
      have hge:=HX6.o.hc
      clear hown hgrow HX6 HN6
      refine hK.out _ _ ⟨HK7.o,HN7.o⟩ (fun _=>?_)
      clear hK K
      refine wpAnyH_ready (rs:=[8]) (by kernel_rfl) (by simp) (AllReadyH.cons rfl (fun K hK=>?_) AllReadyH.nil)
      go_simp
      refine hK.out _ _ ⟨HK7.o,HN7.o⟩ (fun _=>?_)
      clear hK K
      refine wpAnyH_ready (rs:=[9]) (by kernel_rfl) (by simp) (AllReadyH.cons rfl (fun K hK=>?_) AllReadyH.nil)
      have v2:=HC7.o.cell 2 rfl
      have yv:=HC7.o.frozen 2
      go_simp
      refine hK.out _ _ ⟨HX7.o.k,HN7.o.other (p:=⟨gc,2,none⟩) (show gp≠gc by omega) _⟩ (fun _=>?_)
      clear hK K
      refine wpAnyH_done (by kernel_rfl) ?_ _
      go_simp
      go_wp2_with fail
      go_roundw
      case rel=>exact⟨k+1,D++[(I.length:Int)],I++[x],_,_,by omega,by go_num,aA HD2.o,aA (by rw[lAa];simpa using HX7.o)⟩
      case measure=>simp[intOf];omega
   ·obtain rfl:k=dl:=by omega
    have e1:NS.take k=NS:=lTl (by rw[HLN.o];exact nLr _)
    have hD:=HD.o
    rw[e1] at hD
    have HX2:=HX.o
    rw[Nat.sub_self,List.replicate_zero,List.append_nil] at HX2
    obtain⟨r0,r1,-⟩:=HRt.o
    have hLk:=HLw.o
    rw[show pF f d BS NS=(D,I) from hD] at hLk
    have hDl:D.length=NS.length:=hLk.len
    rw[HLN.o] at hDl r1
    obtain⟨q,rfl⟩:∃ q:Nat,root=q:=⟨root.toNat,by omega⟩
    simp only[iTn] at r1 HEv
    rw[show pF f d BS NS=(D,I) from hD] at HEv
    dsimp only at HEv
    have x0:=HX2.m.cell q (fF D q (by omega))
    generalize D.getD q 0=z at *
    have HX:=aA HX2
    have t3:=HX2.t.cell 3 rfl
    obtain⟨c0,c1,c2,c3⟩:=aC HX2.c
    obtain⟨o0,o1,o2,o3⟩:=aC HX2.o
    have yc:=HX2.c.frozen 3
    have y0:=HX2.o.frozen 0
    have y1:=HX2.o.frozen 1
    have y2:=HX2.o.frozen 2
    have y3:=HX2.o.frozen 3
    have i0:(0:Int)<=q:=by omega
    have i1:(q:Int) < k:=by omega
    have hgc:=HX2.hc
    have hgn:gc≠W.heap.size+1+1:=by omega
    have hgn2:W.heap.size+1+1≠gc:=by omega
    clear hD e1 hLk hDl r0 r1 HX2 HD HLw HRt HW HNm HE
    go_wp2_with fail
    have hc1:=HX.o.c.set 3 (.i z)
    have ho1:=HX.o.o.other (p:=⟨gc,3,none⟩) hgn2 (.i z)
    have hs1:=nO HX.o.s HX.o.c (by decide) 3 (.i z)
    have hl1:=HX.o.lo.setCell (p:=⟨gc,3,none⟩) (show W.heap.size<=gc by omega) (.i z)
    obtain⟨hp,hpb⟩:=lS ho1 hl1 (by omega) (.i f) (.i d) (.slice sa I.length sc) (.i z)
    have hs2:=nN hs1 ho1 (by decide) (.i f) (.i d) (.slice sa I.length sc) (.i z)
    have p0:=hp.cell 0 rfl
    have p1:=hp.cell 1 rfl
    have p2:=hp.cell 2 rfl
    have p3:=hp.cell 3 rfl
    exact bPr (v:=.tuple #[.agg (cdv f d (.slice sa I.length sc) z),.i 0]) (by simp[results,Tryz.results31,go_sem,p0,p1,p2,p3]) rfl (by rw[HEv.o];exact⟨sa,sc,rfl,hs2,hpb⟩)
end
section
open Go.RowKit Go.IntWalk Lx Pz
theorem LoP.ins {w:World}{Z:LoV}{e:Ending}{W':World}(h:LoP w Z e W'):∃ a c,e=.returned (.tuple #[.agg (Cde.cd Z.f Z.d a Z.I.length c Z.o),.i Z.er])/\Cde.Ins W' a Z.I.length c Z.I/\Below w.heap.size w W':=by
 obtain⟨a,c,rfl,hO,hb⟩:=h
 obtain⟨a',c',e1,hI,-⟩:=Cde.Ins.of_owns hO
 cases e1
 exact⟨a,c,rfl,hI,hb⟩
end
section
open Go.RowKit Go.IntWalk Lx Pz
open Vfy (jV)

end
section
open Go.RowKit Go.IntWalk Lx Pz
theorem vF (f d:Int){W:World}{na ba da:Option Addr}{nl nc bl bc dl dc:Nat}{root:Int}{NM:List aM}{BS:List Int}{NS:List Nd}(hX:Tx W na nl nc NM)(hB:Iz W ba bl bc BS)(hN:Nz W da dl dc NS)(hs:∀ s ∈ NM,s.length<=9223372036854775807) :
  Calls Tryz.prog 31 #[.agg (dB f d),.agg (eY (.slice na nl nc) (.slice ba bl bc) (.slice da dl dc) (.i root))] W fun e W' =>
   ∃ F D I o a c,e=.returned (.tuple #[.agg (Cde.cd F D a I.length c o),.i (jZ f d NM BS NS root)])/\Cde.Ins W' a I.length c I/\(jZ f d NM BS NS root≠0->I=[]) /\
    (jZ f d NM BS NS root=0->F=f/\D=d/\I=(pF f d BS NS).2/\o=(pF f d BS NS).1.getD root.toNat 0)/\Below W.heap.size W W':=by
 refine(aHo f d hX hB hN hs).mono ?_
 intro e V h
 obtain⟨a,c,rfl,hI,hb⟩:=h.ins
 by_cases h0:jZ f d NM BS NS root=0
 ·have hv:loV f d NM BS NS root=⟨0,f,d,(pF f d BS NS).2,(pF f d BS NS).1.getD root.toNat 0⟩:=by unfold loV;rw[if_pos h0]
  rw[hv] at hI ⊢
  rw[h0]
  exact⟨f,d,_,_,a,c,rfl,hI,fun h=>absurd rfl h,fun _=>⟨rfl,rfl,rfl,rfl⟩,hb⟩
 ·have hv:loV f d NM BS NS root=⟨jZ f d NM BS NS root,0,0,[],0⟩:=by unfold loV;rw[if_neg h0]
  rw[hv] at hI ⊢
  exact⟨0,0,[],0,a,c,rfl,hI,fun _=>rfl,fun h=>absurd h h0,hb⟩
end
open Go.RowKit Lx Pz
variable {d f:Int} {BS:List Int}
structure Lg (f d:Int)(S:eO)(R:List Int)(I:List Cde.In)(T:eO):Prop where
 run:Vfy.iL f d I=(0,T)
 len:T.length=I.length
 val:∀ j,j < R.length->S.getD j (0,0)=T.getD (R.getD j 0).toNat (0,0)
 ah:I.any (Vfy.pI f d)=false
theorem bA4 {R:List Int}{S T:eO}{n:Nd}(hl:R.length=S.length)(hn:Wn BS S.length n)(h4:n.op≠4)
  (hv:∀ j,j < R.length->S.getD j (0,0)=T.getD (R.getD j 0).toNat (0,0)):Vfy.kR f d T (qW f d R n)=sV f d BS S n:=by
 have hv2:∀ p ∈ dG n,T.getD (uH R p).toNat (0,0)=S.getD p.toNat (0,0):=fun p hp=>(hv _ (by rw[hl];exact(hn.prt p hp).2)).symm
 unfold Vfy.kR sV
 rw[qB,if_neg h4]
 by_cases h1:n.op=1
 ·rw[if_pos h1,if_pos h1]
  have e:lW n.op=0:=by rw[h1];rfl
  have ek:(qW f d R n).k=n.k:=by
   unfold qW loK
   rw[e,if_neg (by decide),if_neg (by decide),if_neg (by decide),if_neg (by omega)]
  rw[ek]
 rw[if_neg h1,if_neg h1]
 by_cases h2:n.op=2
 ·rw[if_pos h2,if_pos h2]
  have e:lW n.op=0:=by rw[h2];rfl
  have ek:(qW f d R n).k=n.k:=by
   unfold qW loK
   rw[e,if_neg (by decide),if_neg (by decide),if_neg (by decide),if_neg (by omega)]
  rw[ek]
 rw[if_neg h2,if_neg h2]
 by_cases h3:n.op=3
 ·rw[if_pos h3,if_pos h3]
 rw[if_neg h3,if_neg h3]
 have hk:(qW f d R n).k=0/\(qW f d R n).s=0/\Vfy.wX T (qW f d R n)=(dG n).map fun p=>S.getD p.toNat (0,0):=by
  unfold Vfy.wX Cde.eF Cde.dC Cde.abc
  rw[qB,wV]
  unfold qW
  rcases tO hn h4 with⟨e,h⟩|⟨h5,e,hq⟩|⟨h5,e,hq⟩|⟨h5,e,hq⟩
  ·omega
  ·rw[hq] at hv2 ⊢
   rw[e,if_pos rfl]
   refine⟨rfl,rfl,?_⟩
   show [T.getD (uH R n.a).toNat (0,0)]=[S.getD n.a.toNat (0,0)]
   rw[hv2 n.a (by simp)]
  ·rw[hq] at hv2 ⊢
   rw[e,if_neg (by decide),if_pos rfl]
   refine⟨rfl,rfl,?_⟩
   show [T.getD (uH R n.a).toNat (0,0),T.getD (uH R n.b).toNat (0,0)]=[S.getD n.a.toNat (0,0),S.getD n.b.toNat (0,0)]
   rw[hv2 n.a (by simp),hv2 n.b (by simp)]
  ·rw[hq] at hv2 ⊢
   rw[e,if_neg (by decide),if_neg (by decide),if_pos rfl]
   refine⟨rfl,rfl,?_⟩
   show [T.getD (uH R n.a).toNat (0,0),T.getD (uH R n.b).toNat (0,0),T.getD (uH R n.c).toNat (0,0)]=[S.getD n.a.toNat (0,0),S.getD n.b.toNat (0,0),S.getD n.c.toNat (0,0)]
   rw[hv2 n.a (by simp),hv2 n.b (by simp),hv2 n.c (by simp)]
 rw[hk.1,hk.2.1,hk.2.2]
theorem bA3 {R:List Int}{n:Nd}(ha:n.op=3->∃ q,Knd.mP f d (jX n)=some q):Vfy.pI f d (qW f d R n)=false:=by
 unfold Vfy.pI
 rw[qB]
 by_cases h3:n.op=3
 ·obtain⟨q,hq⟩:=ha h3
  have:=aHl hq
  have e:lW n.op=0:=by rw[h3];rfl
  have ek:(qW f d R n).k=(q:Int):=by
   unfold qW loK
   rw[e,if_neg (by decide),if_neg (by decide),if_neg (by decide),if_pos h3,hq]
   rfl
  rw[ek]
  simp
  omega
 ·rw[show (n.op==3)=false by simpa using h3];rfl
theorem Lg.all {f d:Int}{BS:List Int}:∀(B A:List Nd) (s:List Int × List Cde.In) (S T U:eO),S.length=A.length->Lw A s.1 s.2->Lg f d S s.1 s.2 T->Wl BS A.length B->(∀ n ∈ B,n.op=3->∃ q,Knd.mP f d (jX n)=some q)->oQ f d BS B S=(U,0)->∃ T',Lg f d U (B.foldl (loS f d BS) s).1 (B.foldl (loS f d BS) s).2 T'
 | [],A,s,S,T,U,hS,hw,hg,_,_,h=>by cases h;exact⟨T,hg⟩
 | n::B,A,s,S,T,U,hS,hw,hg,hl,ha,h=>by
  simp only[oQ] at h
  split at h
  ·rename_i h1
   have hn:=hl.1
   rw[<-hS] at hn
   have hRl:=hw.len
   have hlw:=hw.step (f:=f) (d:=d) (BS:=BS) hl.1 (ha n (by simp))
   have hlg:∃ T',Lg f d (S++[(sV f d BS S n).1]) (loS f d BS s n).1 (loS f d BS s n).2 T':=by
    unfold loS
    by_cases h4:n.op=4
    ·rw[if_pos h4]
     refine⟨T,hg.run,hg.len,fun j hj=>?_,hg.ah⟩
     simp only[lLa,lLc,lLn] at hj
     by_cases e:j < s.1.length
     ·rw[bM (by omega),bM e];exact hg.val j e
     ·obtain rfl:j=s.1.length:=by omega
      rw[bU,show s.1.length=S.length by omega,bU]
      unfold sV
      rw[if_pos h4]
      exact hg.val _ (by have:=(hn.use h4).2.2.2;omega)
    ·rw[if_neg h4]
     have e1:=bA4 (f:=f) (d:=d) (BS:=BS) (R:=s.1) (T:=T) (by omega) hn h4 hg.val
     refine⟨T++[(sV f d BS S n).1],?_,by simp[hg.len],fun j hj=>?_,?_⟩
     ·rw[Vfy.jF,hg.run]
      unfold Vfy.sgS
      simp only[if_true]
      rw[e1,if_pos h1]
     ·simp only[lLa,lLc,lLn] at hj
      by_cases e:j < s.1.length
      ·have hr:=hw.reg j (by omega)
       rw[bM (by omega),bM e,bM (by rw[hg.len];exact hr.2)]
       exact hg.val j e
      ·obtain rfl:j=s.1.length:=by omega
       rw[bU,show s.1.length=S.length by omega,bU,iTn,<-hg.len,bU]
     ·show (s.2++[qW f d s.1 n]).any (Vfy.pI f d)=false
      rw[List.any_append,hg.ah,List.any_cons,bA3 (ha n (by simp))]
      rfl
   obtain⟨T',hg'⟩:=hlg
   exact Lg.all B (A++[n]) (loS f d BS s n) _ T' U (by simp[hS]) hlw hg' (by simpa using hl.2) (fun m hm=>ha m (by simp[hm])) h
  ·rename_i h1;exact absurd (congrArg Prod.snd h) h1
theorem aXh {NM:List aM}{NS:List Nd}{root:Int}(h:jZ f d NM BS NS root=0):∃ T,Lg f d (oQ f d BS NS []).1 (pF f d BS NS).1 (pF f d BS NS).2 T:=by
 obtain⟨a1,a2,a3,a4,-⟩:=nY.1 h
 obtain⟨es,ex,hD⟩:=iK.1 a2
 exact Lg.all NS [] ([],[]) [] [] _ rfl aC3 ⟨rfl,rfl,fun j hj=>by simp at hj,rfl⟩ hD.wl (fun n hn h3=>xZ h hn h3) (Prod.ext rfl a4)
theorem lJ {NM:List aM}{NS:List Nd}{root:Int}(h:jZ f d NM BS NS root=0){I:List Cde.In}{o:Int}(hI:I=(pF f d BS NS).2)(ho:o=(pF f d BS NS).1.getD root.toNat 0) :
  Vfy.aW f d I o=0/\Vfy.pJ f d I o=oW NS/\0<=o/\o.toNat < Vfy.rM f d I o/\(Vfy.sD f d I o).getD o.toNat (0,0)=(oQ f d BS NS []).1.getD (NS.length-1) (0,0)/\1<=NS.length/\NS.length<=1024:=by
 obtain⟨a1,a2,a3,a4,a5,a6⟩:=nY.1 h
 obtain⟨T,hT⟩:=aXh h
 have hw:=zK h
 have hm:=aXm h
 obtain⟨r0,r1,r2⟩:=jS a2
 obtain⟨es,ex,hD⟩:=iK.1 a2
 have hr:=hD.root
 rw[<-hI] at hT hw hm
 rw[<-ho] at hm
 have hco:=hw.co
 have h0:Vfy.aW f d I o=0:=Vfy.aD9.2 ⟨Vfy.xG.2 ⟨hm,hT.ah⟩,by rw[hT.run],by omega⟩
 obtain⟨-,-,⟨S',h1,h2,h3⟩,-,h5,h6⟩:=Vfy.aI h0
 rw[hT.run] at h1
 cases h1
 obtain⟨-,-,-,q1,q2,-⟩:=Cde.aQ hm
 have e1:root.toNat=NS.length-1:=by omega
 refine⟨h0,by rw[h6,hco],q1,by rw[h5];omega,?_,by omega,r2⟩
 rw[h3,<-e1,hT.val root.toNat (by rw[hw.len];exact r1),<-ho]
end Go.Proofs.YticnbcfmbhjbgaaGreatDoor
