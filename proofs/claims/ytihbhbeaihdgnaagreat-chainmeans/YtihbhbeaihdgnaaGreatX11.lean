import Derived.Test.YtihbhbeaihdgnaaGreatXH
import Derived.Lib.QuietBelow
import Derived.BigQuiet
import Derived.Test.YtihbhbeaihdgnaaGreatX10
set_option maxRecDepth 100000
set_option maxHeartbeats 32000000
set_option linter.unusedVariables false
namespace Go.Proofs.Knd
open Go.RowKit Go.Sort
def mF (f d i n:Int):Prop:=∃ lo hi,fM f d i=some (lo,hi)/\lo<=n/\n<=hi
theorem jU (f d i n:Int)(w:World)(h:mF f d i n) :
  Calls Tryz.prog 55 #[.agg #[.int .i64 f,.int .i64 d],.int .i64 i,.int .i64 n] w fun e w'=>e=.returned (.bool true)/\Below w.heap.size w w':=by
 obtain⟨lo,hi,hz,h1,h2⟩:=h
 have HB1:=aA (aC w (.cells #[.int .i64 f,.int .i64 d] 23))
 have HV:Hid (qE f d i=.tuple #[.agg #[.int .i64 lo,.int .i64 hi],.bool true]):=by unfold Hid;rw[qE,hz];rfl
 clear hz
 go_enter Tryz.func55,Tryz.ntmps55
 go_wp2_with (go_at_call 100;refine(fQ f d i _).mono ?_;rintro e w2 ⟨rfl,hb2⟩;rw[HV.o])
 go_ret
 exact⟨rfl,(bel HB1.o hb2).alloc (bel HB1.o hb2).size _⟩
theorem xI (f d i n:Int)(w:World)(h:¬mF f d i n) :
  Calls Tryz.prog 55 #[.agg #[.int .i64 f,.int .i64 d],.int .i64 i,.int .i64 n] w fun e w'=>e=.returned (.bool false)/\Below w.heap.size w w':=by
 have HB1:=aA (aC w (.cells #[.int .i64 f,.int .i64 d] 23))
 cases hz:fM f d i with
 | none =>
  have HV:Hid (qE f d i=.tuple #[.agg #[.int .i64 0,.int .i64 0],.bool false]):=by unfold Hid;rw[qE,hz];rfl
  clear hz h
  go_enter Tryz.func55,Tryz.ntmps55
  go_wp2_with (go_at_call 100;refine(fQ f d i _).mono ?_;rintro e w2 ⟨rfl,hb2⟩;rw[HV.o])
  go_ret
  exact⟨rfl,(bel HB1.o hb2).alloc (bel HB1.o hb2).size _⟩
 | some q =>
  obtain⟨lo,hi⟩:=q
  have HV:Hid (qE f d i=.tuple #[.agg #[.int .i64 lo,.int .i64 hi],.bool true]):=by unfold Hid;rw[qE,hz];rfl
  have hn:¬(lo<=n/\n<=hi):=fun h'=>h ⟨lo,hi,hz,h'.1,h'.2⟩
  clear hz h
  by_cases h1:lo<=n
  ·have h2:decide (n<=hi)=false:=by simp;omega
   clear hn
   go_enter Tryz.func55,Tryz.ntmps55
   go_wp2_with (go_at_call 100;refine(fQ f d i _).mono ?_;rintro e w2 ⟨rfl,hb2⟩;rw[HV.o])
   go_ret
   exact⟨rfl,(bel HB1.o hb2).alloc (bel HB1.o hb2).size _⟩
  ·have h2:decide (lo<=n)=false:=by simp;omega
   clear hn
   go_enter Tryz.func55,Tryz.ntmps55
   go_wp2_with (go_at_call 100;refine(fQ f d i _).mono ?_;rintro e w2 ⟨rfl,hb2⟩;rw[HV.o])
   go_ret
   exact⟨rfl,(bel HB1.o hb2).alloc (bel HB1.o hb2).size _⟩
def Fit (f d x y c:Int)(zs:List Int):Prop :=
 ((mF f d 0 x/\mF f d 1 y)/\mF f d 2 c)/\(zs.length:Int)=bL f d/\∀ z ∈ zs,dR f d<=z/\z<=bH f d
open Classical in
noncomputable def vC (f d x y c:Int)(zs:List Int):Int:=if Fit f d x y c zs then 0 else 1
theorem iG {W:World}{b:Nat}{t:TypeId}{x y c p:Value}(h:aB W b t #[x,y,c,p]):W.cell? ⟨b,0,none⟩=some x/\W.cell? ⟨b,1,none⟩=some y/\W.cell? ⟨b,2,none⟩=some c/\W.cell? ⟨b,3,none⟩=some p :=
 ⟨h.cell 0 rfl,h.cell 1 rfl,h.cell 2 rfl,h.cell 3 rfl⟩
theorem mixed':Tryz.prog.follows .mixedOrders=true:=by kernel_rfl
theorem aTk (f d x y c:Int)(a:Option Addr)(n cap:Nat)(w:World)(hx:¬mF f d 0 x) :
  Calls Tryz.prog 27 #[.agg #[.int .i64 f,.int .i64 d],.agg #[.int .i64 x,.int .i64 y,.int .i64 c,.slice a n cap]] w fun e w'=>e=.returned (.int .i64 1)/\Below w.heap.size w w':=by
 have HB1:=aA ((aC w (.cells #[.int .i64 f,.int .i64 d] 23)).alloc (by simp) (.cells #[.int .i64 x,.int .i64 y,.int .i64 c,.slice a n cap] 44))
 have HK1:=aA ((aB.new w 23 #[.int .i64 f,.int .i64 d]).alloc (.cells #[.int .i64 x,.int .i64 y,.int .i64 c,.slice a n cap] 44))
 have hP:aB ((w.alloc (.cells #[.int .i64 f,.int .i64 d] 23)).alloc (.cells #[.int .i64 x,.int .i64 y,.int .i64 c,.slice a n cap] 44)) (w.heap.size+1) 44 #[.int .i64 x,.int .i64 y,.int .i64 c,.slice a n cap]:=by
  have:=aB.new (w.alloc (.cells #[.int .i64 f,.int .i64 d] 23)) 44 #[.int .i64 x,.int .i64 y,.int .i64 c,.slice a n cap]
  rwa[World.size_alloc] at this
 have HP1:=aA hP
 clear hP
 go_enter Tryz.func27,Tryz.ntmps27
 go_wp2_with fail
 refine(xI f d 0 x _ hx).mono ?_
 rintro e w2 ⟨rfl,hb2⟩
 have HK2:=aA (HK1.o.below hb2)
 have HP2:=aA (HP1.o.below hb2)
 have HB2:=aA (bel HB1.o hb2)
 clear hb2 HK1 HP1 HB1
 obtain⟨x2,y2,-,-⟩:=aG HK2.o
 obtain⟨p2,q2,r2,t2⟩:=iG HP2.o
 go_wp2
 go_ret
 exact⟨rfl,HB2.o⟩
theorem aTl (f d x y c:Int)(a:Option Addr)(n cap:Nat)(w:World)(hx:mF f d 0 x)(hy:¬mF f d 1 y) :
  Calls Tryz.prog 27 #[.agg #[.int .i64 f,.int .i64 d],.agg #[.int .i64 x,.int .i64 y,.int .i64 c,.slice a n cap]] w fun e w'=>e=.returned (.int .i64 1)/\Below w.heap.size w w':=by
 have HB1:=aA ((aC w (.cells #[.int .i64 f,.int .i64 d] 23)).alloc (by simp) (.cells #[.int .i64 x,.int .i64 y,.int .i64 c,.slice a n cap] 44))
 have HK1:=aA ((aB.new w 23 #[.int .i64 f,.int .i64 d]).alloc (.cells #[.int .i64 x,.int .i64 y,.int .i64 c,.slice a n cap] 44))
 have hP:aB ((w.alloc (.cells #[.int .i64 f,.int .i64 d] 23)).alloc (.cells #[.int .i64 x,.int .i64 y,.int .i64 c,.slice a n cap] 44)) (w.heap.size+1) 44 #[.int .i64 x,.int .i64 y,.int .i64 c,.slice a n cap]:=by
  have:=aB.new (w.alloc (.cells #[.int .i64 f,.int .i64 d] 23)) 44 #[.int .i64 x,.int .i64 y,.int .i64 c,.slice a n cap]
  rwa[World.size_alloc] at this
 have HP1:=aA hP
 clear hP
 go_enter Tryz.func27,Tryz.ntmps27
 go_wp2_with fail
 refine(jU f d 0 x _ hx).mono ?_
 rintro e w2 ⟨rfl,hb2⟩
 have HK2:=aA (HK1.o.below hb2)
 have HP2:=aA (HP1.o.below hb2)
 have HB2:=aA (bel HB1.o hb2)
 clear hb2 HK1 HP1 HB1
 obtain⟨x2,y2,-,-⟩:=aG HK2.o
 obtain⟨p2,q2,r2,t2⟩:=iG HP2.o
 go_wp2_with fail
 refine(xI f d 1 y _ hy).mono ?_
 rintro e w3 ⟨rfl,hb3⟩
 have HK3:=aA (HK2.o.below hb3)
 have HP3:=aA (HP2.o.below hb3)
 have HB3:=aA (bel HB2.o hb3)
 clear hb3 HK2 HP2 HB2
 obtain⟨x3,y3,-,-⟩:=aG HK3.o
 obtain⟨p3,q3,r3,t3⟩:=iG HP3.o
 go_wp2
 go_ret
 exact⟨rfl,HB3.o⟩
theorem aTh (f d x y c:Int)(a:Option Addr)(n cap:Nat)(w:World)(hx:mF f d 0 x)(hy:mF f d 1 y)(hc:¬mF f d 2 c) :
  Calls Tryz.prog 27 #[.agg #[.int .i64 f,.int .i64 d],.agg #[.int .i64 x,.int .i64 y,.int .i64 c,.slice a n cap]] w fun e w'=>e=.returned (.int .i64 1)/\Below w.heap.size w w':=by
 have HB1:=aA ((aC w (.cells #[.int .i64 f,.int .i64 d] 23)).alloc (by simp) (.cells #[.int .i64 x,.int .i64 y,.int .i64 c,.slice a n cap] 44))
 have HK1:=aA ((aB.new w 23 #[.int .i64 f,.int .i64 d]).alloc (.cells #[.int .i64 x,.int .i64 y,.int .i64 c,.slice a n cap] 44))
 have hP:aB ((w.alloc (.cells #[.int .i64 f,.int .i64 d] 23)).alloc (.cells #[.int .i64 x,.int .i64 y,.int .i64 c,.slice a n cap] 44)) (w.heap.size+1) 44 #[.int .i64 x,.int .i64 y,.int .i64 c,.slice a n cap]:=by
  have:=aB.new (w.alloc (.cells #[.int .i64 f,.int .i64 d] 23)) 44 #[.int .i64 x,.int .i64 y,.int .i64 c,.slice a n cap]
  rwa[World.size_alloc] at this
 have HP1:=aA hP
 clear hP
 go_enter Tryz.func27,Tryz.ntmps27
 go_wp2_with fail
 refine(jU f d 0 x _ hx).mono ?_
 rintro e w2 ⟨rfl,hb2⟩
 have HK2:=aA (HK1.o.below hb2)
 have HP2:=aA (HP1.o.below hb2)
 have HB2:=aA (bel HB1.o hb2)
 clear hb2 HK1 HP1 HB1
 obtain⟨x2,y2,-,-⟩:=aG HK2.o
 obtain⟨p2,q2,r2,t2⟩:=iG HP2.o
 go_wp2_with fail
 refine(jU f d 1 y _ hy).mono ?_
 rintro e w3 ⟨rfl,hb3⟩
 have HK3:=aA (HK2.o.below hb3)
 have HP3:=aA (HP2.o.below hb3)
 have HB3:=aA (bel HB2.o hb3)
 clear hb3 HK2 HP2 HB2
 obtain⟨x3,y3,-,-⟩:=aG HK3.o
 obtain⟨p3,q3,r3,t3⟩:=iG HP3.o
 go_wp2_with fail
 refine(xI f d 2 c _ hc).mono ?_
 rintro e w4 ⟨rfl,hb4⟩
 have HK4:=aA (HK3.o.below hb4)
 have HP4:=aA (HP3.o.below hb4)
 have HB4:=aA (bel HB3.o hb4)
 clear hb4 HK3 HP3 HB3
 obtain⟨x4,y4,-,-⟩:=aG HK4.o
 obtain⟨p4,q4,r4,t4⟩:=iG HP4.o
 go_wp2
 go_ret
 exact⟨rfl,HB4.o⟩
theorem aTj (f d x y c:Int)(a:Option Addr)(n cap:Nat)(w:World)(hx:mF f d 0 x)(hy:mF f d 1 y)(hc:mF f d 2 c)(hn:((n:Nat):Int)≠bL f d) :
  Calls Tryz.prog 27 #[.agg #[.int .i64 f,.int .i64 d],.agg #[.int .i64 x,.int .i64 y,.int .i64 c,.slice a n cap]] w fun e w'=>e=.returned (.int .i64 1)/\Below w.heap.size w w':=by
 have HB1:=aA ((aC w (.cells #[.int .i64 f,.int .i64 d] 23)).alloc (by simp) (.cells #[.int .i64 x,.int .i64 y,.int .i64 c,.slice a n cap] 44))
 have HK1:=aA ((aB.new w 23 #[.int .i64 f,.int .i64 d]).alloc (.cells #[.int .i64 x,.int .i64 y,.int .i64 c,.slice a n cap] 44))
 have hP:aB ((w.alloc (.cells #[.int .i64 f,.int .i64 d] 23)).alloc (.cells #[.int .i64 x,.int .i64 y,.int .i64 c,.slice a n cap] 44)) (w.heap.size+1) 44 #[.int .i64 x,.int .i64 y,.int .i64 c,.slice a n cap]:=by
  have:=aB.new (w.alloc (.cells #[.int .i64 f,.int .i64 d] 23)) 44 #[.int .i64 x,.int .i64 y,.int .i64 c,.slice a n cap]
  rwa[World.size_alloc] at this
 have HP1:=aA hP
 clear hP
 go_enter Tryz.func27,Tryz.ntmps27
 go_wp2_with fail
 refine(jU f d 0 x _ hx).mono ?_
 rintro e w2 ⟨rfl,hb2⟩
 have HK2:=aA (HK1.o.below hb2)
 have HP2:=aA (HP1.o.below hb2)
 have HB2:=aA (bel HB1.o hb2)
 clear hb2 HK1 HP1 HB1
 obtain⟨x2,y2,-,-⟩:=aG HK2.o
 obtain⟨p2,q2,r2,t2⟩:=iG HP2.o
 go_wp2_with fail
 refine(jU f d 1 y _ hy).mono ?_
 rintro e w3 ⟨rfl,hb3⟩
 have HK3:=aA (HK2.o.below hb3)
 have HP3:=aA (HP2.o.below hb3)
 have HB3:=aA (bel HB2.o hb3)
 clear hb3 HK2 HP2 HB2
 obtain⟨x3,y3,-,-⟩:=aG HK3.o
 obtain⟨p3,q3,r3,t3⟩:=iG HP3.o
 go_wp2_with fail
 refine(jU f d 2 c _ hc).mono ?_
 rintro e w4 ⟨rfl,hb4⟩
 have HK4:=aA (HK3.o.below hb4)
 have HP4:=aA (HP3.o.below hb4)
 have HB4:=aA (bel HB3.o hb4)
 clear hb4 HK3 HP3 HB3
 obtain⟨x4,y4,-,-⟩:=aG HK4.o
 obtain⟨p4,q4,r4,t4⟩:=iG HP4.o
 have hn':(((n:Nat):Int) != bL f d)=true:=by simp[hn]
 go_wp2
 have k0:=cell_regrown x4
 have k1:=cell_regrown y4
 have k2:=cell_regrown t4
 refine wp_region_quiet_below mixed' (by kernel_rfl) ?_
 repeat (first|go_big_quiet_step (first
  | (go_at_call 56;exact Calls.regrown_of (pF _ _ _))))
 refine wpQuiet_nil ?_
 intro _ hw'
 obtain⟨⟨dq,osq⟩,hw''⟩:=hw'
 subst hw''
 go_wp2
 go_ret
 exact⟨rfl,bel HB4.o (below_regrown _ _ _)⟩
theorem aTi (f d x y c:Int)(a:Option Addr)(n cap:Nat)(zs:List Int)(w:World)(hZ:Ints w a n cap zs)(hx:mF f d 0 x)(hy:mF f d 1 y)(hc:mF f d 2 c)(hn:((n:Nat):Int)=bL f d) :
  Calls Tryz.prog 27 #[.agg #[.int .i64 f,.int .i64 d],.agg #[.int .i64 x,.int .i64 y,.int .i64 c,.slice a n cap]] w fun e w'=>((e=.returned (.int .i64 0)/\∀ z ∈ zs,dR f d<=z/\z<=bH f d)\/(e=.returned (.int .i64 1)/\∃ z ∈ zs,¬(dR f d<=z/\z<=bH f d)))/\Below w.heap.size w w':=by
 have HZ1:=aA hZ
 clear hZ
 have HB1:=aA ((aC w (.cells #[.int .i64 f,.int .i64 d] 23)).alloc (by simp) (.cells #[.int .i64 x,.int .i64 y,.int .i64 c,.slice a n cap] 44))
 have HK1:=aA ((aB.new w 23 #[.int .i64 f,.int .i64 d]).alloc (.cells #[.int .i64 x,.int .i64 y,.int .i64 c,.slice a n cap] 44))
 have hP:aB ((w.alloc (.cells #[.int .i64 f,.int .i64 d] 23)).alloc (.cells #[.int .i64 x,.int .i64 y,.int .i64 c,.slice a n cap] 44)) (w.heap.size+1) 44 #[.int .i64 x,.int .i64 y,.int .i64 c,.slice a n cap]:=by
  have:=aB.new (w.alloc (.cells #[.int .i64 f,.int .i64 d] 23)) 44 #[.int .i64 x,.int .i64 y,.int .i64 c,.slice a n cap]
  rwa[World.size_alloc] at this
 have HP1:=aA hP
 clear hP
 go_enter Tryz.func27,Tryz.ntmps27
 go_wp2_with fail
 refine(jU f d 0 x _ hx).mono ?_
 rintro e w2 ⟨rfl,hb2⟩
 have HK2:=aA (HK1.o.below hb2)
 have HP2:=aA (HP1.o.below hb2)
 have HB2:=aA (bel HB1.o hb2)
 clear hb2 HK1 HP1 HB1
 obtain⟨x2,y2,-,-⟩:=aG HK2.o
 obtain⟨p2,q2,r2,t2⟩:=iG HP2.o
 go_wp2_with fail
 refine(jU f d 1 y _ hy).mono ?_
 rintro e w3 ⟨rfl,hb3⟩
 have HK3:=aA (HK2.o.below hb3)
 have HP3:=aA (HP2.o.below hb3)
 have HB3:=aA (bel HB2.o hb3)
 clear hb3 HK2 HP2 HB2
 obtain⟨x3,y3,-,-⟩:=aG HK3.o
 obtain⟨p3,q3,r3,t3⟩:=iG HP3.o
 go_wp2_with fail
 refine(jU f d 2 c _ hc).mono ?_
 rintro e w4 ⟨rfl,hb4⟩
 have HK4:=aA (HK3.o.below hb4)
 have HP4:=aA (HP3.o.below hb4)
 have HB4:=aA (bel HB3.o hb4)
 clear hb4 HK3 HP3 HB3
 obtain⟨x4,y4,-,-⟩:=aG HK4.o
 obtain⟨p4,q4,r4,t4⟩:=iG HP4.o
 have hn':(((n:Nat):Int) != bL f d)=false:=by simp[hn]
 have HN:=aA hn
 clear hn
 go_wp2
 have k0:=cell_regrown x4
 have k1:=cell_regrown y4
 have k2:=cell_regrown t4
 refine wp_region_quiet_below mixed' (by kernel_rfl) ?_
 repeat (first|go_big_quiet_step (first
  | (go_at_call 56;exact Calls.regrown_of (pF _ _ _))))
 refine wpQuiet_nil ?_
 intro _ hw'
 obtain⟨⟨dq,osq⟩,hw''⟩:=hw'
 have hb5:Below w4.heap.size w4 (grow (redrawn w4 dq) osq):=below_regrown _ _ _
 simp only at hw''
 rw[<-hw''] at hb5
 rename_i w5
 have HK5:=aA (HK4.o.below hb5)
 have HP5:=aA (HP4.o.below hb5)
 have HB5:=aA (bel HB4.o hb5)
 clear hw'' hb5 HK4 HP4 HB4 k0 k1 k2 x2 y2 p2 q2 r2 t2 x3 y3 p3 q3 r3 t3 x4 y4 p4 q4 r4 t4
 obtain⟨x5,y5,-,-⟩:=aG HK5.o
 obtain⟨p5,q5,r5,t5⟩:=iG HP5.o
 go_wp2
 have k0:=cell_regrown x5
 have k1:=cell_regrown y5
 refine wp_region_quiet_below mixed' (by kernel_rfl) ?_
 repeat (first|go_big_quiet_step (first
  | (go_at_call 57;exact Calls.regrown_of (nL _ _ _))
  | (go_at_call 58;exact Calls.regrown_of (kN _ _ _))))
 refine wpQuiet_nil ?_
 intro w6 hw'
 obtain⟨⟨dq6,osq6⟩,hw''⟩:=hw'
 have hb6:Below w5.heap.size w5 (grow (redrawn w5 dq6) osq6):=below_regrown _ _ _
 simp only at hw''
 rw[<-hw''] at hb6
 have HP6:=aA (HP5.o.below hb6)
 have HB6:=aA (bel HB5.o hb6)
 clear hw'' hb6 HK5 HP5 HB5 k0 k1 x5 y5 p5 q5 r5 t5
 obtain⟨-,-,-,t6⟩:=iG HP6.o
 have HZ6:=aA (HZ1.o.later HB6.o)
 obtain⟨hn1,hn2⟩:1<=n/\n<=44:=by
  obtain⟨lo,hi,hz,_⟩:=hx
  have hm:May f d:=Classical.byContradiction fun h'=>by simp[fM,h'] at hz
  have h:=HN.o
  unfold bL at h
  rw[if_pos hm] at h
  split at h <;> omega
 obtain⟨sb,so,rfl,-,hcell⟩:=HZ6.o.at (by omega)
 have HC:=aA hcell
 have HLen:Hid (zs.length=n):=HZ6.o.len
 clear hcell HZ1 HZ6
 go_wp2
 go_loop [41] (fun iv=>∃ k:Nat,k<=n/\iv=.int .i64 k/\Hid (∀ j,j < k->dR f d<=zs.getD j 0/\zs.getD j 0<=bH f d)) (fun iv=>n-(intOf iv).toNat)
 case atStart=>exact⟨0,by omega,rfl,fun j hj=>by omega⟩
 case round =>
  obtain⟨k,hk,rfl,HA⟩:=hrel
  by_cases hlt:k < n
  ·have hck:=HC.o k hlt
   obtain⟨z,hz⟩:∃ z,zs.getD k 0=z:=⟨_,rfl⟩
   rw[hz] at hck
   have HZk:=aA hz
   have HM:Hid (z ∈ zs):=by
    unfold Hid
    rw[<-HZk.o]
    simp only[List.getD]
    rw[List.getElem?_eq_getElem (by have:=HLen.o;omega)]
    exact List.getElem_mem _
   clear hz
   by_cases h1:z < dR f d
   ·go_wp2
    go_ret
    exact⟨.inr ⟨rfl,z,HM.o,by omega⟩,HB6.o⟩
   ·by_cases h2:bH f d < z
    ·go_wp2
     go_ret
     exact⟨.inr ⟨rfl,z,HM.o,by omega⟩,HB6.o⟩
    ·have h1':decide (z < dR f d)=false:=by simpa using h1
     have h2':decide (bH f d < z)=false:=by simpa using h2
     go_wp2
     go_round
     case rel=>exact⟨k+1,by omega,by go_num,fun j hj=>by
      by_cases e:j=k
      ·subst e;rw[HZk.o];omega
      ·exact HA.o j (by omega)⟩
     case measure=>simp[intOf];omega
  ·obtain rfl:k=n:=by omega
   go_wp2
   go_ret
   refine⟨.inl ⟨rfl,fun z hz=>?_⟩,HB6.o⟩
   obtain⟨i,hi,rfl⟩:=List.getElem_of_mem hz
   have:=HA.o i (by have:=HLen.o;omega)
   simpa [List.getD,hi] using this
open Classical in
theorem aDf (f d x y c:Int)(a:Option Addr)(n cap:Nat)(zs:List Int)(w:World)(hZ:Ints w a n cap zs) :
  Calls Tryz.prog 27 #[.agg #[.int .i64 f,.int .i64 d],.agg #[.int .i64 x,.int .i64 y,.int .i64 c,.slice a n cap]] w fun e w'=>e=.returned (.int .i64 (vC f d x y c zs))/\Below w.heap.size w w':=by
 by_cases hx:mF f d 0 x
 ·by_cases hy:mF f d 1 y
  ·by_cases hc:mF f d 2 c
   ·by_cases hn:((n:Nat):Int)=bL f d
    ·refine(aTi f d x y c a n cap zs w hZ hx hy hc hn).mono ?_
     rintro e w' ⟨h,hB⟩
     refine⟨?_,hB⟩
     rcases h with⟨rfl,h⟩|⟨rfl,z,hz,h⟩
     ·have hF:Fit f d x y c zs:=⟨⟨⟨hx,hy⟩,hc⟩,by rw[hZ.len];exact hn,h⟩
      rw[vC,if_pos hF]
     ·have hF:¬Fit f d x y c zs:=fun hF=>h (hF.2.2 z hz)
      rw[vC,if_neg hF]
    ·have hF:¬Fit f d x y c zs:=fun hF=>hn (by rw[<-hZ.len];exact hF.2.1)
     rw[vC,if_neg hF]
     exact aTj f d x y c a n cap w hx hy hc hn
   ·have hF:¬Fit f d x y c zs:=fun hF=>hc hF.1.2
    rw[vC,if_neg hF]
    exact aTh f d x y c a n cap w hx hy hc
  ·have hF:¬Fit f d x y c zs:=fun hF=>hy hF.1.1.2
   rw[vC,if_neg hF]
   exact aTl f d x y c a n cap w hx hy
 ·have hF:¬Fit f d x y c zs:=fun hF=>hx hF.1.1.1
  rw[vC,if_neg hF]
  exact aTk f d x y c a n cap w hx
end Go.Proofs.Knd
namespace Go.Proofs.Knd
open Go.RowKit

end Go.Proofs.Knd
