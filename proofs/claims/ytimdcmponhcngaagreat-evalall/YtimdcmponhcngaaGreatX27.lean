import Derived.Test.YtimdcmponhcngaaGreatX26
namespace Go.Proofs.YtimdcmponhcngaaGreat.Knd
open Go.RowKit Go.Sort
set_option linter.unusedVariables false
set_option maxRecDepth 100000
set_option maxHeartbeats 16000000
def Lies (f d i n:Int):Prop:=∃ lo hi,inZ f d i=some (lo,hi)/\lo<=n/\n<=hi
theorem lies_ok (f d i n:Int)(w:World)(h:Lies f d i n) :
  Calls Tryz.prog 47 #[.agg #[.int .i64 f,.int .i64 d],.int .i64 i,.int .i64 n] w fun e w'=>e=.returned (.bool true)/\Below w.heap.size w w':=by
 obtain⟨lo,hi,hz,h1,h2⟩:=h
 have HB1:=hide (bel1 w (.cells #[.int .i64 f,.int .i64 d] 23))
 have HV:Hid (inV f d i=.tuple #[.agg #[.int .i64 lo,.int .i64 hi],.bool true]):=by unfold Hid;rw[inV,hz];rfl
 clear hz
 go_enter Tryz.func47,Tryz.ntmps47
 go_wp2_with (go_at_call 78;refine(input_any f d i _).mono ?_;rintro e w2 ⟨rfl,hb2⟩;rw[HV.out])
 go_ret
 exact⟨rfl,(bel HB1.out hb2).alloc (bel HB1.out hb2).size _⟩
theorem lies_bad (f d i n:Int)(w:World)(h:¬Lies f d i n) :
  Calls Tryz.prog 47 #[.agg #[.int .i64 f,.int .i64 d],.int .i64 i,.int .i64 n] w fun e w'=>e=.returned (.bool false)/\Below w.heap.size w w':=by
 have HB1:=hide (bel1 w (.cells #[.int .i64 f,.int .i64 d] 23))
 cases hz:inZ f d i with
 | none =>
  have HV:Hid (inV f d i=.tuple #[.agg #[.int .i64 0,.int .i64 0],.bool false]):=by unfold Hid;rw[inV,hz];rfl
  clear hz h
  go_enter Tryz.func47,Tryz.ntmps47
  go_wp2_with (go_at_call 78;refine(input_any f d i _).mono ?_;rintro e w2 ⟨rfl,hb2⟩;rw[HV.out])
  go_ret
  exact⟨rfl,(bel HB1.out hb2).alloc (bel HB1.out hb2).size _⟩
 | some q =>
  obtain⟨lo,hi⟩:=q
  have HV:Hid (inV f d i=.tuple #[.agg #[.int .i64 lo,.int .i64 hi],.bool true]):=by unfold Hid;rw[inV,hz];rfl
  have hn:¬(lo<=n/\n<=hi):=fun h'=>h ⟨lo,hi,hz,h'.1,h'.2⟩
  clear hz h
  by_cases h1:lo<=n
  ·have h2:decide (n<=hi)=false:=by simp;omega
   clear hn
   go_enter Tryz.func47,Tryz.ntmps47
   go_wp2_with (go_at_call 78;refine(input_any f d i _).mono ?_;rintro e w2 ⟨rfl,hb2⟩;rw[HV.out])
   go_ret
   exact⟨rfl,(bel HB1.out hb2).alloc (bel HB1.out hb2).size _⟩
  ·have h2:decide (lo<=n)=false:=by simp;omega
   clear hn
   go_enter Tryz.func47,Tryz.ntmps47
   go_wp2_with (go_at_call 78;refine(input_any f d i _).mono ?_;rintro e w2 ⟨rfl,hb2⟩;rw[HV.out])
   go_ret
   exact⟨rfl,(bel HB1.out hb2).alloc (bel HB1.out hb2).size _⟩
def Fit (f d x y c:Int)(zs:List Int):Prop :=
 ((Lies f d 0 x/\Lies f d 1 y)/\Lies f d 2 c)/\(zs.length:Int)=countZ f d/\∀ z ∈ zs,lowZ f d<=z/\z<=highZ f d
open Classical in
noncomputable def fitE (f d x y c:Int)(zs:List Int):Int:=if Fit f d x y c zs then 0 else 1
theorem factsW {W:World}{b:Nat}{t:TypeId}{x y c p:Value}(h:HasC W b t #[x,y,c,p]):W.cell? ⟨b,0,none⟩=some x/\W.cell? ⟨b,1,none⟩=some y/\W.cell? ⟨b,2,none⟩=some c/\W.cell? ⟨b,3,none⟩=some p :=
 ⟨h.cell 0 rfl,h.cell 1 rfl,h.cell 2 rfl,h.cell 3 rfl⟩
theorem mixed':Tryz.prog.follows .mixedOrders=true:=by kernel_rfl
theorem fits_x (f d x y c:Int)(a:Option Addr)(n cap:Nat)(w:World)(hx:¬Lies f d 0 x) :
  Calls Tryz.prog 21 #[.agg #[.int .i64 f,.int .i64 d],.agg #[.int .i64 x,.int .i64 y,.int .i64 c,.slice a n cap]] w fun e w'=>e=.returned (.int .i64 1)/\Below w.heap.size w w':=by
 have HB1:=hide ((bel1 w (.cells #[.int .i64 f,.int .i64 d] 23)).alloc (by simp) (.cells #[.int .i64 x,.int .i64 y,.int .i64 c,.slice a n cap] 30))
 have HK1:=hide ((HasC.new w 23 #[.int .i64 f,.int .i64 d]).alloc (.cells #[.int .i64 x,.int .i64 y,.int .i64 c,.slice a n cap] 30))
 have hP:HasC ((w.alloc (.cells #[.int .i64 f,.int .i64 d] 23)).alloc (.cells #[.int .i64 x,.int .i64 y,.int .i64 c,.slice a n cap] 30)) (w.heap.size+1) 30 #[.int .i64 x,.int .i64 y,.int .i64 c,.slice a n cap]:=by
  have:=HasC.new (w.alloc (.cells #[.int .i64 f,.int .i64 d] 23)) 30 #[.int .i64 x,.int .i64 y,.int .i64 c,.slice a n cap]
  rwa[World.size_alloc] at this
 have HP1:=hide hP
 clear hP
 go_enter Tryz.func21,Tryz.ntmps21
 go_wp2_with fail
 refine(lies_bad f d 0 x _ hx).mono ?_
 rintro e w2 ⟨rfl,hb2⟩
 have HK2:=hide (HK1.out.below hb2)
 have HP2:=hide (HP1.out.below hb2)
 have HB2:=hide (bel HB1.out hb2)
 clear hb2 HK1 HP1 HB1
 obtain⟨x2,y2,-,-⟩:=facts2 HK2.out
 obtain⟨p2,q2,r2,t2⟩:=factsW HP2.out
 go_wp2
 go_ret
 exact⟨rfl,HB2.out⟩
theorem fits_y (f d x y c:Int)(a:Option Addr)(n cap:Nat)(w:World)(hx:Lies f d 0 x)(hy:¬Lies f d 1 y) :
  Calls Tryz.prog 21 #[.agg #[.int .i64 f,.int .i64 d],.agg #[.int .i64 x,.int .i64 y,.int .i64 c,.slice a n cap]] w fun e w'=>e=.returned (.int .i64 1)/\Below w.heap.size w w':=by
 have HB1:=hide ((bel1 w (.cells #[.int .i64 f,.int .i64 d] 23)).alloc (by simp) (.cells #[.int .i64 x,.int .i64 y,.int .i64 c,.slice a n cap] 30))
 have HK1:=hide ((HasC.new w 23 #[.int .i64 f,.int .i64 d]).alloc (.cells #[.int .i64 x,.int .i64 y,.int .i64 c,.slice a n cap] 30))
 have hP:HasC ((w.alloc (.cells #[.int .i64 f,.int .i64 d] 23)).alloc (.cells #[.int .i64 x,.int .i64 y,.int .i64 c,.slice a n cap] 30)) (w.heap.size+1) 30 #[.int .i64 x,.int .i64 y,.int .i64 c,.slice a n cap]:=by
  have:=HasC.new (w.alloc (.cells #[.int .i64 f,.int .i64 d] 23)) 30 #[.int .i64 x,.int .i64 y,.int .i64 c,.slice a n cap]
  rwa[World.size_alloc] at this
 have HP1:=hide hP
 clear hP
 go_enter Tryz.func21,Tryz.ntmps21
 go_wp2_with fail
 refine(lies_ok f d 0 x _ hx).mono ?_
 rintro e w2 ⟨rfl,hb2⟩
 have HK2:=hide (HK1.out.below hb2)
 have HP2:=hide (HP1.out.below hb2)
 have HB2:=hide (bel HB1.out hb2)
 clear hb2 HK1 HP1 HB1
 obtain⟨x2,y2,-,-⟩:=facts2 HK2.out
 obtain⟨p2,q2,r2,t2⟩:=factsW HP2.out
 go_wp2_with fail
 refine(lies_bad f d 1 y _ hy).mono ?_
 rintro e w3 ⟨rfl,hb3⟩
 have HK3:=hide (HK2.out.below hb3)
 have HP3:=hide (HP2.out.below hb3)
 have HB3:=hide (bel HB2.out hb3)
 clear hb3 HK2 HP2 HB2
 obtain⟨x3,y3,-,-⟩:=facts2 HK3.out
 obtain⟨p3,q3,r3,t3⟩:=factsW HP3.out
 go_wp2
 go_ret
 exact⟨rfl,HB3.out⟩
theorem fits_c (f d x y c:Int)(a:Option Addr)(n cap:Nat)(w:World)(hx:Lies f d 0 x)(hy:Lies f d 1 y)(hc:¬Lies f d 2 c) :
  Calls Tryz.prog 21 #[.agg #[.int .i64 f,.int .i64 d],.agg #[.int .i64 x,.int .i64 y,.int .i64 c,.slice a n cap]] w fun e w'=>e=.returned (.int .i64 1)/\Below w.heap.size w w':=by
 have HB1:=hide ((bel1 w (.cells #[.int .i64 f,.int .i64 d] 23)).alloc (by simp) (.cells #[.int .i64 x,.int .i64 y,.int .i64 c,.slice a n cap] 30))
 have HK1:=hide ((HasC.new w 23 #[.int .i64 f,.int .i64 d]).alloc (.cells #[.int .i64 x,.int .i64 y,.int .i64 c,.slice a n cap] 30))
 have hP:HasC ((w.alloc (.cells #[.int .i64 f,.int .i64 d] 23)).alloc (.cells #[.int .i64 x,.int .i64 y,.int .i64 c,.slice a n cap] 30)) (w.heap.size+1) 30 #[.int .i64 x,.int .i64 y,.int .i64 c,.slice a n cap]:=by
  have:=HasC.new (w.alloc (.cells #[.int .i64 f,.int .i64 d] 23)) 30 #[.int .i64 x,.int .i64 y,.int .i64 c,.slice a n cap]
  rwa[World.size_alloc] at this
 have HP1:=hide hP
 clear hP
 go_enter Tryz.func21,Tryz.ntmps21
 go_wp2_with fail
 refine(lies_ok f d 0 x _ hx).mono ?_
 rintro e w2 ⟨rfl,hb2⟩
 have HK2:=hide (HK1.out.below hb2)
 have HP2:=hide (HP1.out.below hb2)
 have HB2:=hide (bel HB1.out hb2)
 clear hb2 HK1 HP1 HB1
 obtain⟨x2,y2,-,-⟩:=facts2 HK2.out
 obtain⟨p2,q2,r2,t2⟩:=factsW HP2.out
 go_wp2_with fail
 refine(lies_ok f d 1 y _ hy).mono ?_
 rintro e w3 ⟨rfl,hb3⟩
 have HK3:=hide (HK2.out.below hb3)
 have HP3:=hide (HP2.out.below hb3)
 have HB3:=hide (bel HB2.out hb3)
 clear hb3 HK2 HP2 HB2
 obtain⟨x3,y3,-,-⟩:=facts2 HK3.out
 obtain⟨p3,q3,r3,t3⟩:=factsW HP3.out
 go_wp2_with fail
 refine(lies_bad f d 2 c _ hc).mono ?_
 rintro e w4 ⟨rfl,hb4⟩
 have HK4:=hide (HK3.out.below hb4)
 have HP4:=hide (HP3.out.below hb4)
 have HB4:=hide (bel HB3.out hb4)
 clear hb4 HK3 HP3 HB3
 obtain⟨x4,y4,-,-⟩:=facts2 HK4.out
 obtain⟨p4,q4,r4,t4⟩:=factsW HP4.out
 go_wp2
 go_ret
 exact⟨rfl,HB4.out⟩
theorem fits_n (f d x y c:Int)(a:Option Addr)(n cap:Nat)(w:World)(hx:Lies f d 0 x)(hy:Lies f d 1 y)(hc:Lies f d 2 c)(hn:((n:Nat):Int)≠countZ f d) :
  Calls Tryz.prog 21 #[.agg #[.int .i64 f,.int .i64 d],.agg #[.int .i64 x,.int .i64 y,.int .i64 c,.slice a n cap]] w fun e w'=>e=.returned (.int .i64 1)/\Below w.heap.size w w':=by
 have HB1:=hide ((bel1 w (.cells #[.int .i64 f,.int .i64 d] 23)).alloc (by simp) (.cells #[.int .i64 x,.int .i64 y,.int .i64 c,.slice a n cap] 30))
 have HK1:=hide ((HasC.new w 23 #[.int .i64 f,.int .i64 d]).alloc (.cells #[.int .i64 x,.int .i64 y,.int .i64 c,.slice a n cap] 30))
 have hP:HasC ((w.alloc (.cells #[.int .i64 f,.int .i64 d] 23)).alloc (.cells #[.int .i64 x,.int .i64 y,.int .i64 c,.slice a n cap] 30)) (w.heap.size+1) 30 #[.int .i64 x,.int .i64 y,.int .i64 c,.slice a n cap]:=by
  have:=HasC.new (w.alloc (.cells #[.int .i64 f,.int .i64 d] 23)) 30 #[.int .i64 x,.int .i64 y,.int .i64 c,.slice a n cap]
  rwa[World.size_alloc] at this
 have HP1:=hide hP
 clear hP
 go_enter Tryz.func21,Tryz.ntmps21
 go_wp2_with fail
 refine(lies_ok f d 0 x _ hx).mono ?_
 rintro e w2 ⟨rfl,hb2⟩
 have HK2:=hide (HK1.out.below hb2)
 have HP2:=hide (HP1.out.below hb2)
 have HB2:=hide (bel HB1.out hb2)
 clear hb2 HK1 HP1 HB1
 obtain⟨x2,y2,-,-⟩:=facts2 HK2.out
 obtain⟨p2,q2,r2,t2⟩:=factsW HP2.out
 go_wp2_with fail
 refine(lies_ok f d 1 y _ hy).mono ?_
 rintro e w3 ⟨rfl,hb3⟩
 have HK3:=hide (HK2.out.below hb3)
 have HP3:=hide (HP2.out.below hb3)
 have HB3:=hide (bel HB2.out hb3)
 clear hb3 HK2 HP2 HB2
 obtain⟨x3,y3,-,-⟩:=facts2 HK3.out
 obtain⟨p3,q3,r3,t3⟩:=factsW HP3.out
 go_wp2_with fail
 refine(lies_ok f d 2 c _ hc).mono ?_
 rintro e w4 ⟨rfl,hb4⟩
 have HK4:=hide (HK3.out.below hb4)
 have HP4:=hide (HP3.out.below hb4)
 have HB4:=hide (bel HB3.out hb4)
 clear hb4 HK3 HP3 HB3
 obtain⟨x4,y4,-,-⟩:=facts2 HK4.out
 obtain⟨p4,q4,r4,t4⟩:=factsW HP4.out
 have hn':(((n:Nat):Int) != countZ f d)=true:=by simp[hn]
 go_wp2
 have k0:=cell_regrown x4
 have k1:=cell_regrown y4
 have k2:=cell_regrown t4
 refine wp_region_quiet_below mixed' (by kernel_rfl) ?_
 repeat (first|go_big_quiet_step (first
  | (go_at_call 48;exact Calls.regrown_of (count_any _ _ _))))
 refine wpQuiet_nil ?_
 intro _ hw'
 obtain⟨⟨dq,osq⟩,hw''⟩:=hw'
 subst hw''
 go_wp2
 go_ret
 exact⟨rfl,bel HB4.out (below_regrown _ _ _)⟩
theorem fits_e (f d x y c:Int)(a:Option Addr)(n cap:Nat)(zs:List Int)(w:World)(hZ:Ints w a n cap zs)(hx:Lies f d 0 x)(hy:Lies f d 1 y)(hc:Lies f d 2 c)(hn:((n:Nat):Int)=countZ f d) :
  Calls Tryz.prog 21 #[.agg #[.int .i64 f,.int .i64 d],.agg #[.int .i64 x,.int .i64 y,.int .i64 c,.slice a n cap]] w fun e w'=>((e=.returned (.int .i64 0)/\∀ z ∈ zs,lowZ f d<=z/\z<=highZ f d)\/(e=.returned (.int .i64 1)/\∃ z ∈ zs,¬(lowZ f d<=z/\z<=highZ f d)))/\Below w.heap.size w w':=by
 have HZ1:=hide hZ
 clear hZ
 have HB1:=hide ((bel1 w (.cells #[.int .i64 f,.int .i64 d] 23)).alloc (by simp) (.cells #[.int .i64 x,.int .i64 y,.int .i64 c,.slice a n cap] 30))
 have HK1:=hide ((HasC.new w 23 #[.int .i64 f,.int .i64 d]).alloc (.cells #[.int .i64 x,.int .i64 y,.int .i64 c,.slice a n cap] 30))
 have hP:HasC ((w.alloc (.cells #[.int .i64 f,.int .i64 d] 23)).alloc (.cells #[.int .i64 x,.int .i64 y,.int .i64 c,.slice a n cap] 30)) (w.heap.size+1) 30 #[.int .i64 x,.int .i64 y,.int .i64 c,.slice a n cap]:=by
  have:=HasC.new (w.alloc (.cells #[.int .i64 f,.int .i64 d] 23)) 30 #[.int .i64 x,.int .i64 y,.int .i64 c,.slice a n cap]
  rwa[World.size_alloc] at this
 have HP1:=hide hP
 clear hP
 go_enter Tryz.func21,Tryz.ntmps21
 go_wp2_with fail
 refine(lies_ok f d 0 x _ hx).mono ?_
 rintro e w2 ⟨rfl,hb2⟩
 have HK2:=hide (HK1.out.below hb2)
 have HP2:=hide (HP1.out.below hb2)
 have HB2:=hide (bel HB1.out hb2)
 clear hb2 HK1 HP1 HB1
 obtain⟨x2,y2,-,-⟩:=facts2 HK2.out
 obtain⟨p2,q2,r2,t2⟩:=factsW HP2.out
 go_wp2_with fail
 refine(lies_ok f d 1 y _ hy).mono ?_
 rintro e w3 ⟨rfl,hb3⟩
 have HK3:=hide (HK2.out.below hb3)
 have HP3:=hide (HP2.out.below hb3)
 have HB3:=hide (bel HB2.out hb3)
 clear hb3 HK2 HP2 HB2
 obtain⟨x3,y3,-,-⟩:=facts2 HK3.out
 obtain⟨p3,q3,r3,t3⟩:=factsW HP3.out
 go_wp2_with fail
 refine(lies_ok f d 2 c _ hc).mono ?_
 rintro e w4 ⟨rfl,hb4⟩
 have HK4:=hide (HK3.out.below hb4)
 have HP4:=hide (HP3.out.below hb4)
 have HB4:=hide (bel HB3.out hb4)
 clear hb4 HK3 HP3 HB3
 obtain⟨x4,y4,-,-⟩:=facts2 HK4.out
 obtain⟨p4,q4,r4,t4⟩:=factsW HP4.out
 have hn':(((n:Nat):Int) != countZ f d)=false:=by simp[hn]
 have HN:=hide hn
 clear hn
 go_wp2
 have k0:=cell_regrown x4
 have k1:=cell_regrown y4
 have k2:=cell_regrown t4
 refine wp_region_quiet_below mixed' (by kernel_rfl) ?_
 repeat (first|go_big_quiet_step (first
  | (go_at_call 48;exact Calls.regrown_of (count_any _ _ _))))
 refine wpQuiet_nil ?_
 intro _ hw'
 obtain⟨⟨dq,osq⟩,hw''⟩:=hw'
 have hb5:Below w4.heap.size w4 (grow (redrawn w4 dq) osq):=below_regrown _ _ _
 simp only at hw''
 rw[<-hw''] at hb5
 rename_i w5
 have HK5:=hide (HK4.out.below hb5)
 have HP5:=hide (HP4.out.below hb5)
 have HB5:=hide (bel HB4.out hb5)
 clear hw'' hb5 HK4 HP4 HB4 k0 k1 k2 x2 y2 p2 q2 r2 t2 x3 y3 p3 q3 r3 t3 x4 y4 p4 q4 r4 t4
 obtain⟨x5,y5,-,-⟩:=facts2 HK5.out
 obtain⟨p5,q5,r5,t5⟩:=factsW HP5.out
 go_wp2
 have k0:=cell_regrown x5
 have k1:=cell_regrown y5
 refine wp_region_quiet_below mixed' (by kernel_rfl) ?_
 repeat (first|go_big_quiet_step (first
  | (go_at_call 27;exact Calls.regrown_of (low_any _ _ _))
  | (go_at_call 28;exact Calls.regrown_of (high_any _ _ _))))
 refine wpQuiet_nil ?_
 intro w6 hw'
 obtain⟨⟨dq6,osq6⟩,hw''⟩:=hw'
 have hb6:Below w5.heap.size w5 (grow (redrawn w5 dq6) osq6):=below_regrown _ _ _
 simp only at hw''
 rw[<-hw''] at hb6
 have HP6:=hide (HP5.out.below hb6)
 have HB6:=hide (bel HB5.out hb6)
 clear hw'' hb6 HK5 HP5 HB5 k0 k1 x5 y5 p5 q5 r5 t5
 obtain⟨-,-,-,t6⟩:=factsW HP6.out
 have HZ6:=hide (HZ1.out.later HB6.out)
 obtain⟨hn1,hn2⟩:1<=n/\n<=44:=by
  obtain⟨lo,hi,hz,_⟩:=hx
  have hm:May f d:=Classical.byContradiction fun h'=>by simp[inZ,h'] at hz
  have h:=HN.out
  unfold countZ at h
  rw[if_pos hm] at h
  split at h <;> omega
 obtain⟨sb,so,rfl,-,hcell⟩:=HZ6.out.at (by omega)
 have HC:=hide hcell
 have HLen:Hid (zs.length=n):=HZ6.out.len
 clear hcell HZ1 HZ6
 go_wp2
 go_loop [41] (fun iv=>∃ k:Nat,k<=n/\iv=.int .i64 k/\Hid (∀ j,j < k->lowZ f d<=zs.getD j 0/\zs.getD j 0<=highZ f d)) (fun iv=>n-(intOf iv).toNat)
 case atStart=>exact⟨0,by omega,rfl,fun j hj=>by omega⟩
 case round =>
  obtain⟨k,hk,rfl,HA⟩:=hrel
  by_cases hlt:k < n
  ·have hck:=HC.out k hlt
   obtain⟨z,hz⟩:∃ z,zs.getD k 0=z:=⟨_,rfl⟩
   rw[hz] at hck
   have HZk:=hide hz
   have HM:Hid (z ∈ zs):=by
    unfold Hid
    rw[<-HZk.out]
    simp only[List.getD]
    rw[List.getElem?_eq_getElem (by have:=HLen.out;omega)]
    exact List.getElem_mem _
   clear hz
   by_cases h1:z < lowZ f d
   ·go_wp2
    go_ret
    exact⟨.inr ⟨rfl,z,HM.out,by omega⟩,HB6.out⟩
   ·by_cases h2:highZ f d < z
    ·go_wp2
     go_ret
     exact⟨.inr ⟨rfl,z,HM.out,by omega⟩,HB6.out⟩
    ·have h1':decide (z < lowZ f d)=false:=by simpa using h1
     have h2':decide (highZ f d < z)=false:=by simpa using h2
     go_wp2
     go_round
     case rel=>exact⟨k+1,by omega,by go_num,fun j hj=>by
      by_cases e:j=k
      ·subst e;rw[HZk.out];omega
      ·exact HA.out j (by omega)⟩
     case measure=>simp[intOf];omega
  ·obtain rfl:k=n:=by omega
   go_wp2
   go_ret
   refine⟨.inl ⟨rfl,fun z hz=>?_⟩,HB6.out⟩
   obtain⟨i,hi,rfl⟩:=List.getElem_of_mem hz
   have:=HA.out i (by have:=HLen.out;omega)
   simpa [List.getD,hi] using this
open Classical in
theorem fits_any (f d x y c:Int)(a:Option Addr)(n cap:Nat)(zs:List Int)(w:World)(hZ:Ints w a n cap zs) :
  Calls Tryz.prog 21 #[.agg #[.int .i64 f,.int .i64 d],.agg #[.int .i64 x,.int .i64 y,.int .i64 c,.slice a n cap]] w fun e w'=>e=.returned (.int .i64 (fitE f d x y c zs))/\Below w.heap.size w w':=by
 by_cases hx:Lies f d 0 x
 ·by_cases hy:Lies f d 1 y
  ·by_cases hc:Lies f d 2 c
   ·by_cases hn:((n:Nat):Int)=countZ f d
    ·refine(fits_e f d x y c a n cap zs w hZ hx hy hc hn).mono ?_
     rintro e w' ⟨h,hB⟩
     refine⟨?_,hB⟩
     rcases h with⟨rfl,h⟩|⟨rfl,z,hz,h⟩
     ·have hF:Fit f d x y c zs:=⟨⟨⟨hx,hy⟩,hc⟩,by rw[hZ.len];exact hn,h⟩
      rw[fitE,if_pos hF]
     ·have hF:¬Fit f d x y c zs:=fun hF=>h (hF.2.2 z hz)
      rw[fitE,if_neg hF]
    ·have hF:¬Fit f d x y c zs:=fun hF=>hn (by rw[<-hZ.len];exact hF.2.1)
     rw[fitE,if_neg hF]
     exact fits_n f d x y c a n cap w hx hy hc hn
   ·have hF:¬Fit f d x y c zs:=fun hF=>hc hF.1.2
    rw[fitE,if_neg hF]
    exact fits_c f d x y c a n cap w hx hy hc
  ·have hF:¬Fit f d x y c zs:=fun hF=>hy hF.1.1.2
   rw[fitE,if_neg hF]
   exact fits_y f d x y c a n cap w hx hy
 ·have hF:¬Fit f d x y c zs:=fun hF=>hx hF.1.1.1
  rw[fitE,if_neg hF]
  exact fits_x f d x y c a n cap w hx
end Go.Proofs.YtimdcmponhcngaaGreat.Knd
namespace Go.Proofs.YtimdcmponhcngaaGreat
open Lx Pz
set_option linter.unusedVariables false
set_option maxRecDepth 100000
set_option maxHeartbeats 16000000
structure Wd where
 x:Int
 y:Int
 c:Int
 ps:List Int
abbrev wdA (v:Wd)(a:Option Addr)(n cap:Nat):Array Value:=#[.int .i64 v.x,.int .i64 v.y,.int .i64 v.c,.slice a n cap]
abbrev Fits (f d:Int)(v:Wd):Prop:=Knd.Fit f d v.x v.y v.c v.ps
def inpV (f d:Int)(v:Wd)(k:Int):Int:=if k=0 then v.x else if k=1 then v.y else if k=2 then v.c else if k=3 then Knd.lowZ f d else if k=4 then Knd.highZ f d else Knd.borderZ f d
def smpV (f d:Int)(v:Wd)(n:Nd):Int:=v.ps.getD ((Knd.numZ f d (plOf n)).getD 0) 0
def opV (V:List Int)(n:Nd):Int:=(Spn.valZ n.op 0 0 ((prts n).map fun p=>V.getD p.toNat 0)).1
def vaN (f d:Int)(v:Wd)(BS V:List Int)(n:Nd):Int :=
 if n.op=4 then V.getD (BS.getD n.k.toNat 0).toNat 0 else if n.op=1 then n.k else if n.op=2 then inpV f d v n.k else if n.op=3 then smpV f d v n else opV V n
def vaR (f d:Int)(v:Wd)(BS:List Int):List Nd->List Int->List Int
 | [],V=>V
 | n::NS,V=>vaR f d v BS NS (V++[vaN f d v BS V n])
theorem vaR_app (f d:Int)(v:Wd)(BS:List Int):∀(A B:List Nd) (V:List Int),vaR f d v BS (A++B) V=vaR f d v BS B (vaR f d v BS A V)
 | [],B,V=>rfl
 | n::A,B,V=>vaR_app f d v BS A B _
theorem vaR_len (f d:Int)(v:Wd)(BS:List Int):∀(A:List Nd) (V:List Int),(vaR f d v BS A V).length=V.length+A.length
 | [],V=>rfl
 | n::A,V=>by rw[vaR,vaR_len f d v BS A];simp;omega
theorem vaR_snoc (f d:Int)(v:Wd)(BS:List Int)(A:List Nd)(n:Nd)(V:List Int):vaR f d v BS (A++[n]) V=vaR f d v BS A V++[vaN f d v BS (vaR f d v BS A V) n]:=by
 rw[vaR_app];rfl
noncomputable def evE (f d:Int)(v:Wd)(NM:List Txt)(BS:List Int)(NS:List Nd)(root:Int):Int:=if ckE f d NM BS NS root=0 then Knd.fitE f d v.x v.y v.c v.ps else ckE f d NM BS NS root
noncomputable def evV (f d:Int)(v:Wd)(NM:List Txt)(BS:List Int)(NS:List Nd)(root:Int):Int:=if evE f d v NM BS NS root=0 then(vaR f d v BS NS []).getD root.toNat 0 else 0
theorem fitE_cases (f d:Int)(v:Wd):(Fits f d v/\Knd.fitE f d v.x v.y v.c v.ps=0)\/(¬Fits f d v/\Knd.fitE f d v.x v.y v.c v.ps=1):=by
 unfold Knd.fitE
 by_cases h:Fits f d v
 ·exact .inl ⟨h,if_pos h⟩
 ·exact .inr ⟨h,if_neg h⟩
theorem evE_zero {f d:Int}{v:Wd}{NM:List Txt}{BS:List Int}{NS:List Nd}{root:Int}:evE f d v NM BS NS root=0↔ckE f d NM BS NS root=0/\Fits f d v:=by
 unfold evE
 constructor
 ·intro h
  split at h
  ·rename_i h1
   rcases fitE_cases f d v with⟨h2,-⟩|⟨-,h2⟩
   ·exact⟨h1,h2⟩
   ·omega
  ·rename_i h1;exact absurd h h1
 ·rintro⟨h1,h2⟩
  rw[if_pos h1]
  rcases fitE_cases f d v with⟨-,h3⟩|⟨h3,-⟩
  ·exact h3
  ·exact absurd h2 h3
theorem look_lt (L:List Knd.Plc)(p:Knd.Plc):∀(k:Nat),k<=64->∀ q,Knd.look L (Knd.upto k) p=some q->q < k
 | 0,_,q,h=>by simp[Knd.upto,Knd.look] at h
 | k+1,hk,q,h=>by
  rw[Knd.upto_succ k (by omega),Knd.look_snoc] at h
  split at h
  ·cases h;exact Nat.lt_succ_self k
  ·have:=look_lt L p k (by omega) q h;omega
end Go.Proofs.YtimdcmponhcngaaGreat
namespace Go.Proofs.YtimdcmponhcngaaGreat
open Go.RowKit Go.IntWalk Lx Pz
set_option linter.unusedVariables false
set_option maxRecDepth 100000
set_option maxHeartbeats 16000000
theorem four_of {W:World}{b:Nat}{t:TypeId}{x y z u:Value}(h:HasC W b t #[x,y,z,u]):W.cell? ⟨b,0,none⟩=some x/\W.cell? ⟨b,1,none⟩=some y/\W.cell? ⟨b,2,none⟩=some z/\W.cell? ⟨b,3,none⟩=some u :=
 ⟨h.cell 0 rfl,h.cell 1 rfl,h.cell 2 rfl,h.cell 3 rfl⟩
theorem vinput_any (f d k:Int)(v:Wd)(a:Option Addr)(n cap:Nat)(W:World) :
  Calls Tryz.prog 32 #[.agg (kdA f d),.agg (wdA v a n cap),.int .i64 k] W fun e W'=>e=.returned (.int .i64 (inpV f d v k))/\Below W.heap.size W W':=by
 have HL:=hide fun W=>Knd.low_any f d W
 have HH:=hide fun W=>Knd.high_any f d W
 have HO:=hide fun W=>Knd.border_any f d W
 have HB:=hide (bel (bel1 W (.cells (kdA f d) 23)) (bel1 (W.alloc (.cells (kdA f d) 23)) (.cells (wdA v a n cap) 30)))
 unfold inpV
 by_cases h0:k=0
 ·subst h0
  rw[if_pos rfl]
  go_enter Tryz.func32,Tryz.ntmps32
  go_wp2_with fail
  go_ret
  exact⟨rfl,HB.out⟩
 rw[if_neg h0]
 by_cases h1:k=1
 ·subst h1
  rw[if_pos rfl]
  go_enter Tryz.func32,Tryz.ntmps32
  go_wp2_with fail
  go_ret
  exact⟨rfl,HB.out⟩
 rw[if_neg h1]
 by_cases h2:k=2
 ·subst h2
  rw[if_pos rfl]
  go_enter Tryz.func32,Tryz.ntmps32
  go_wp2_with fail
  go_ret
  exact⟨rfl,HB.out⟩
 rw[if_neg h2]
 by_cases h3:k=3
 ·subst h3
  rw[if_pos rfl]
  go_enter Tryz.func32,Tryz.ntmps32
  go_wp2_with fail
  refine(HL.out _).mono ?_
  rintro e V1 ⟨rfl,hb⟩
  go_wp2_with fail
  go_ret
  exact⟨rfl,bel HB.out hb⟩
 rw[if_neg h3]
 by_cases h4:k=4
 ·subst h4
  rw[if_pos rfl]
  go_enter Tryz.func32,Tryz.ntmps32
  go_wp2_with fail
  refine(HH.out _).mono ?_
  rintro e V1 ⟨rfl,hb⟩
  go_wp2_with fail
  go_ret
  exact⟨rfl,bel HB.out hb⟩
 rw[if_neg h4]
 have q0:(k==0)=false:=by simpa using h0
 have q1:(k==1)=false:=by simpa using h1
 have q2:(k==2)=false:=by simpa using h2
 have q3:(k==3)=false:=by simpa using h3
 have q4:(k==4)=false:=by simpa using h4
 clear h0 h1 h2 h3 h4
 go_enter Tryz.func32,Tryz.ntmps32
 go_wp2_with fail
 refine(HO.out _).mono ?_
 rintro e V1 ⟨rfl,hb⟩
 go_wp2_with fail
 go_ret
 exact⟨rfl,bel HB.out hb⟩
theorem vsample_any (f d:Int)(nd:Nd)(v:Wd){a:Option Addr}{n cap q:Nat}{W:World}(hP:Knd.Ints W a n cap v.ps)(hw:(plOf nd).wf)(hq:Knd.numZ f d (plOf nd)=some q)(hn:q < n) :
  Calls Tryz.prog 33 #[.agg (kdA f d),.agg (wdA v a n cap),.agg #[.int .i64 nd.back,.int .i64 nd.co,.int .i64 nd.x,.int .i64 nd.y]] W fun e W'=>e=.returned (.int .i64 (smpV f d v nd))/\Below W.heap.size W W':=by
 have HN:=hide fun W=>Knd.number_any f d (plOf nd) hw W
 unfold Knd.numV at HN
 unfold smpV
 rw[hq] at HN ⊢
 simp only[Option.getD_some,Option.isSome_some] at HN ⊢
 have hb1:=bel1 W (.cells (kdA f d) 23)
 have hb2:=bel hb1 (bel1 (W.alloc (.cells (kdA f d) 23)) (.cells (wdA v a n cap) 30))
 have hb3:=bel hb2 (bel1 ((W.alloc (.cells (kdA f d) 23)).alloc (.cells (wdA v a n cap) 30)) (.cells #[.int .i64 nd.back,.int .i64 nd.co,.int .i64 nd.x,.int .i64 nd.y] 65))
 have HB:=hide hb3
 have HW0:Hid (HasC (((W.alloc (.cells (kdA f d) 23)).alloc (.cells (wdA v a n cap) 30)).alloc (.cells #[.int .i64 nd.back,.int .i64 nd.co,.int .i64 nd.x,.int .i64 nd.y] 65)) (W.heap.size+1) 30 (wdA v a n cap)):=by
  have:=(HasC.new (W.alloc (.cells (kdA f d) 23)) 30 (wdA v a n cap)).alloc (.cells #[.int .i64 nd.back,.int .i64 nd.co,.int .i64 nd.x,.int .i64 nd.y] 65)
  simp only[World.size_alloc] at this
  exact hide this
 have HP:=hide (hP.later hb3)
 clear hb1 hb2 hb3 hP hw hq
 have i0:(0:Int)<=q:=by omega
 have i1:(q:Int) < n:=by omega
 obtain⟨z,hz⟩:∃ z,v.ps.getD q 0=z:=⟨_,rfl⟩
 rw[hz]
 go_enter Tryz.func33,Tryz.ntmps33
 go_wp2_with fail
 refine(HN.out _).mono ?_
 rintro e V1 ⟨rfl,hb⟩
 obtain⟨x0,x1,x2,x3⟩:=four_of (HW0.out.below hb)
 obtain⟨b,off,rfl,-,hc⟩:=(HP.out.later hb).at (by omega)
 have c0:=hc q hn
 rw[hz] at c0
 have HB2:=hide (bel HB.out hb)
 clear hc hb HB HP HW0 HN hz
 go_wp2_with fail
 go_ret
 exact⟨rfl,HB2.out⟩
structure Ls (w W:World)(v:Value)(L:List Int):Prop where
 a:W.ownsRow w.heap.size 3 1 v L.length (in64 L)
 bel:Below w.heap.size w W
theorem Ls.alloc {w W:World}{v:Value}{L:List Int}(h:Ls w W v L)(o:Obj):Ls w (W.alloc o) v L:=⟨h.a.alloc o,h.bel.alloc h.bel.size o⟩
theorem Ls.drew {w W:World}{v:Value}{L:List Int}(h:Ls w W v L):Ls w W.drew v L:=⟨h.a.drew,h.bel.drew⟩
theorem Ls.start (W:World):Ls W W (.slice none 0 0) []:=⟨⟨rfl,.inl ⟨rfl,rfl⟩⟩,Below.refl _ _⟩
theorem Ls.later {w W W':World}{v:Value}{L:List Int}(h:Ls w W v L)(hb:Below W.heap.size W W'):Ls w W' v L:=by
 have hg:W.grownBy W' none:=⟨hb.os,hb.tape,hb.output,hb.size,fun k hk _=>hb.block k hk⟩
 refine⟨h.a.kept hg ?_,h.bel.trans (hb.mono h.bel.size)⟩
 cases hv:v.ownBlock with
 | none=>exact .inl rfl
 | some q=>exact .inr (by simp)
theorem list_ls {w W:World}{v:Value}{L:List Int}{ops:Array Oper}{rest:List Oper}{o:Oper}{a:Act}{Q:Exit->Act->World->Prop}
  (hgd:o.guard=none) (s x:Operand) (ho:o.op=.call { callee:=.builtin .append,args:=#[s,x],argTypes:=#[25,25] })
  (hs:a.eval s=v) (hen:Ls w W v L) (b:Nat) (p:Int) (hx:a.eval x=.slice (some ⟨b,0,none⟩) 1 1) (hc:HasC W b 3 #[.int .i64 p]) (h3:L.length<=2000000)
  (h:∀ g cap w',Ls w w' (.slice (some ⟨g,0,none⟩) (L.length+1) cap) (L++[p])->wpList Tryz.prog ops Q rest (a.put o.dst (.slice (some ⟨g,0,none⟩) (L.length+1) cap)) w') :
  wpList Tryz.prog ops Q (o::rest) a W :=
 list_in hgd s x ho hs hen.a hen.bel.size b p hx hc h3 fun g cap w' h1 h2 h4=>h g cap w' ⟨h1,h4 w hen.bel rfl⟩
theorem op_args {V:List Int}{n:Nd}{k:Nat}(hk:k < (prts n).length):((prts n).map fun p=>V.getD p.toNat 0).take (k+1)=((prts n).map fun p=>V.getD p.toNat 0).take k++[V.getD ((prts n).getD k 0).toNat 0]:=by
 rw[take_snoc 0 (by simpa using hk)]
 congr 2
 simp[List.getD_eq_getElem?_getD,List.getElem?_map,List.getElem?_eq_getElem hk]
theorem vmade_any (n:Nd){BS:List Int}{i sl sc:Nat}{a:Option Addr}{V:List Int}{W:World}(hn:Wn BS i n)(h5:5<=n.op)(hS:Iz W a sl sc V)(hi:i<=sl) :
  Calls Tryz.prog 34 #[.agg (ndA n),.slice a sl sc] W fun e W'=>e=.returned (.int .i64 (opV V n))/\Below W.heap.size W W':=by
 obtain⟨k,hk⟩:∃ k:Nat,prZ n.op=k:=⟨(prZ n.op).toNat,by have:=hn.pr;omega⟩
 have h3:k<=3:=by
  have:prZ n.op<=3:=by unfold prZ arZ;repeat' split <;> omega
  omega
 have har:arZ n.op=k:=by rw[hn.ar (by omega),hk]
 have hsl:sl<=9223372036854775807:=by have:=hS.le;have:=hS.max;unfold maxLen at *;omega
 unfold opV
 have HPt:=hide fun j hj=>prts_at (n:=n) (j:=j) hk h3 hj
 have HPl:=hide (prts_len hk h3)
 have HPr:=hide hn.prt
 have HSg:=hide fun j hj=>op_args (V:=V) (n:=n) (k:=j) hj
 obtain⟨L,hL⟩:∃ L,((prts n).map fun p=>V.getD p.toNat 0)=L:=⟨_,rfl⟩
 have HLl:Hid (L.length=k):=hide (by rw[<-hL,List.length_map,HPl.out])
 rw[hL] at HSg ⊢
 have HA:=hide fun W=>arity_any n.op W
 rw[har] at HA
 have HB:=hide (bel1 W (.cells (ndA n) 69))
 have HN0:=hide (HasC.new W 69 (ndA n))
 obtain⟨f0,f1,f2,f3,f4,f5,f6,f7,f8⟩:=(HasC.new W 69 (ndA n)).nine
 have hz:W.heap.size < (W.alloc (.cells (ndA n) 69)).heap.size:=by simp
 have HS0:=hide (hS.later HB.out)
 clear hS hL har hk hn h5
 have hk0:(0:Int)<=k:=by omega
 have hk1:(k:Int)<=3:=by omega
 go_enter Tryz.func34,Tryz.ntmps34
 go_wp2_with fail
 go_region_held3 (fun w'=>w'.cell? ⟨W.heap.size,0,none⟩=some (.int .i64 n.op)/\w'.cell? ⟨W.heap.size,1,none⟩=some (.int .i64 n.a)/\w'.cell? ⟨W.heap.size,2,none⟩=some (.int .i64 n.b)/\w'.cell? ⟨W.heap.size,3,none⟩=some (.int .i64 n.c))
  (first|exact⟨f0,f1,f2,f3⟩|go_keep)
  ((first
   | (go_at_call 57;refine(HA.out _).mono ?_;rintro e w2 ⟨rfl,rfl⟩)))
 all_goals
  have h5:=HasC.new (W.alloc (.cells (ndA n) 69)) 3 (ab3 n)
  rw[World.size_alloc] at h5
  have hb5:=(bel1 (W.alloc (.cells (ndA n) 69)) (.cells (ab3 n) 3)).drew
  have HG:=hide (h5.below (below_drew _))
  have HN1:=hide (HN0.out.below hb5)
  have HB1:=hide (bel HB.out hb5)
  have HS1:=hide (HS0.out.later hb5)
  clear h5 hb5 HB HN0 HS0 f0 f1 f2 f3 f4 f5 f6 f7 f8
  go_wp2_with fail
  obtain⟨V1,hV1⟩:∃ V1,((W.alloc (.cells (ndA n) 69)).alloc (.cells (ab3 n) 3)).drew=V1:=⟨_,rfl⟩
  rw[hV1] at HG HN1 HB1 HS1 ⊢
  have hgl:=HG.out.lt
  clear hV1 HA
  go_loopw [5,22] (fun v i wr=>∃ j:Nat,j<=k/\i=.int .i64 j/\Hid (Ls V1 wr v (L.take j))) (fun _ i _=>k-(intOf i).toNat)
  case atStart=>exact⟨0,Nat.zero_le _,rfl,hide (Ls.start V1)⟩
  case round =>
   obtain⟨j,hj,rfl,HE⟩:=hrel
   rename World=>V2
   by_cases hlt:j < k
   ·have cp:=(HG.out.below HE.out.bel).cell j (HPt.out j hlt).1
    obtain⟨p0,p1⟩:=HPr.out _ (HPt.out j hlt).2
    have HT:=hide (HSg.out j (by rw[HPl.out];exact hlt))
    obtain⟨q,hq⟩:∃ q:Nat,(prts n).getD j 0=(q:Int):=⟨((prts n).getD j 0).toNat,by omega⟩
    rw[hq] at cp p1 HT
    simp only[Int.toNat_natCast] at p1 HT
    obtain⟨b,off,rfl,hcq⟩:∃ b off,a=some ⟨b,off,none⟩/\V2.cell? ⟨b,off+q,none⟩=some (.int .i64 (V.getD q 0)):=by
     rcases(HS1.out.later HE.out.bel).cell with h0|⟨b,off,ha,hlb,hc⟩
     ·omega
     ·exact⟨b,off,ha,hc q (by omega)⟩
    generalize V.getD q 0=sv at *
    have j0:(0:Int)<=j:=by omega
    have j1:(j:Int) < k:=by omega
    have j2:(j:Int) < 3:=by omega
    have i0:(0:Int)<=q:=by omega
    have i1:(q:Int) < sl:=by omega
    have HJ:Hid ((L.take j).length=j):=hide (by rw[List.length_take,HLl.out];omega)
    clear p0 p1 hq
    go_wp2_with (at_builtin;refine list_ls (w:=V1) (L:=L.take j) rfl _ _ rfl rfl (HE.out.alloc _) _ sv rfl (HasC.new _ _ _) (by rw[HJ.out];omega) ?_;intro g2 cap2 w2 HE2;rw[HJ.out] at HE2 ⊢)
    go_roundw
    case rel=>exact⟨j+1,by omega,by go_num,hide (by rw[HT.out];exact HE2)⟩
    case measure=>simp[intOf];omega
   ·obtain rfl:j=k:=by omega
    have e:L.take j=L:=List.take_of_length_le (by rw[HLl.out];exact Nat.le_refl _)
    have HE1:=HE.out
    rw[e] at HE1
    obtain⟨va,vc,rfl,hA,-⟩:=Spn.Ints.of_owns HE1.a
    have hLl:=HLl.out
    rw[hLl] at hA ⊢
    have HOf:=hide (Spn.value_any n.op 0 0 _ _ _ _ _ hA)
    have HB2:=hide (bel HB1.out HE1.bel)
    have x0:=(HN1.out.below HE1.bel).cell 0 rfl
    obtain⟨⟨vv,er⟩,hZ⟩:∃ Z,Spn.valZ n.op 0 0 L=Z:=⟨_,rfl⟩
    rw[hZ] at HOf
    have HZ:=hide hZ
    clear hZ hA e HE HE1 hLl
    go_wp2_with fail
    refine HOf.out.mono ?_
    rintro e V3 ⟨rfl,hb⟩
    have HB3:=hide (bel HB2.out hb)
    clear hb
    go_wp2_with fail
    go_ret
    exact⟨by rw[HZ.out];rfl,HB3.out⟩
end Go.Proofs.YtimdcmponhcngaaGreat
