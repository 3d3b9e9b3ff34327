import Derived.Lib.QuietBelow
import Derived.BigQuiet
import Derived.Test.YticnbcfmbhjbgaaGreatDoorX02
import Derived.Test.YticnbcfmbhjbgaaGreatDoorX03
set_option maxRecDepth 100000
set_option maxHeartbeats 32000000
set_option linter.unusedVariables false
namespace Go.Proofs.Knd
section
open Go.RowKit

end
section
open Go.RowKit
open YticnbcfmbhjbgaaGreatDoor (aB)
def nZ (f:Int):Int:=if f=0 then 4096 else 1048576
def oK (f:Int):Int:=if f=0 then 4096 else 1
theorem aEn (f d:Int)(w:World) :
  Calls Tryz.prog 261 #[.agg #[.i f,.i d]] w fun e w'=>e=.returned (.i (nZ f))/\Below w.heap.size w w':=by
 have hb:=aD w (.cells #[.i f,.i d] 23)
 by_cases h:f=0
 ·subst h
  go_enter Tryz.func261,Tryz.ntmps261
  go_wp2
  go_ret
  exact⟨rfl,hb⟩
 ·go_enter Tryz.func261,Tryz.ntmps261
  go_wp2
  go_ret
  exact⟨aO (by simp[nZ,h]),hb⟩
theorem aQd (f d:Int)(w:World) :
  Calls Tryz.prog 262 #[.agg #[.i f,.i d]] w fun e w'=>e=.returned (.i (oK f))/\Below w.heap.size w w':=by
 have hb:=aD w (.cells #[.i f,.i d] 23)
 by_cases h:f=0
 ·subst h
  go_enter Tryz.func262,Tryz.ntmps262
  go_wp2
  go_ret
  exact⟨rfl,hb⟩
 ·go_enter Tryz.func262,Tryz.ntmps262
  go_wp2
  go_ret
  exact⟨aO (by simp[oK,h]),hb⟩
theorem aPk (n:Int)(w:World) :
  Calls Tryz.prog 263 #[.i n] w fun e w'=>e=.returned (.agg #[.i n,.i n])/\Below w.heap.size w w':=by
 go_enter Tryz.func263,Tryz.ntmps263
 go_wp2
 exact bPr (v:=.agg #[.i n,.i n]) (by simp[results,Tryz.results263,go_sem]) rfl ⟨rfl,aD _ _⟩
def gL (f d n:Int):Option (Int × Int) :=
 if ¬May f d then none else
 if n=0 then some (0,nZ f-1) else
 if n=1 then some (0,oK f-1) else
 if n=2 then some (0,3) else
 if n=3 then some (fG f d,fG f d) else
 if n=4 then some (cK f d,cK f d) else
 if n=5 then some (bL f d,bL f d) else none
def wF (f d n:Int):Value:=.tuple #[.agg #[.i ((gL f d n).getD (0,0)).1,.i ((gL f d n).getD (0,0)).2],.bool (gL f d n).isSome]
theorem aL {W:World}{b:Nat}{t:TypeId}{x y:Value}(h:aB W b t #[x,y]):W.cell? ⟨b,0,none⟩=some x/\W.cell? ⟨b,1,none⟩=some y/\W.frozen? ⟨b,0,none⟩=false/\W.frozen? ⟨b,1,none⟩=false :=
 ⟨h.cell 0 rfl,h.cell 1 rfl,h.frozen 0,h.frozen 1⟩
theorem aS {w w2:World}{b:Nat}(h:aB w2 b 165 #[.i 0,.i 0])(hB:Below w.heap.size w w2)(hb:w.heap.size<=b)(x y:Int) :
  ((w2.setCell ⟨b,0,none⟩ (.i x)).setCell ⟨b,1,none⟩ (.i y)).cell? ⟨b,0,none⟩=some (.i x)/\((w2.setCell ⟨b,0,none⟩ (.i x)).setCell ⟨b,1,none⟩ (.i y)).cell? ⟨b,1,none⟩=some (.i y) /\
  Below w.heap.size w ((w2.setCell ⟨b,0,none⟩ (.i x)).setCell ⟨b,1,none⟩ (.i y)):=by
 have h3:=(h.set 0 (.i x)).set 1 (.i y)
 exact⟨h3.cell 0 rfl,h3.cell 1 rfl,(hB.setCell (p:=⟨b,0,none⟩) hb _).setCell (p:=⟨b,1,none⟩) hb _⟩
structure B2 (w W:World)(t u:TypeId)(P Q:Array Value):Prop where
 k:aB W w.heap.size t P
 r:aB W (w.heap.size+1) u Q
 b:Below w.heap.size w W
theorem B2.start (w:World)(t u:TypeId)(P Q:Array Value):B2 w ((w.alloc (.cells P t)).alloc (.cells Q u)) t u P Q:=by
 have h:=aB.new (w.alloc (.cells P t)) u Q
 rw[wSa] at h
 exact⟨(aB.new w t P).alloc _,h,(aD w _).alloc (by simp) _⟩
theorem B2.later {w W W':World}{t u:TypeId}{P Q:Array Value}(h:B2 w W t u P Q)(hb:Below W.heap.size W W'):B2 w W' t u P Q:=⟨h.k.below hb,h.r.below hb,bel h.b hb⟩
theorem gQ (f d n:Int)(w:World) :
  Calls Tryz.prog 188 #[.agg #[.i f,.i d],.i n] w fun e w'=>e=.returned (wF f d n)/\Below w.heap.size w w':=by
 have H:=aA (B2.start w 23 165 #[.i f,.i d] #[.i 0,.i 0])
 by_cases hm:May f d
 case' neg =>
  have HC:=aA fun w=>iM f d w hm
  have e:wF f d n=.tuple #[.agg #[.i 0,.i 0],.bool false]:=by simp[wF,gL,hm]
 case' pos =>
  have HC:=aA fun w=>fK f d w hm
  obtain⟨p1,p2⟩:0<=nZ f/\nZ f<=1048576:=by unfold nZ;split <;> omega
  obtain⟨q1,q2⟩:0<=oK f/\oK f<=1048576:=by unfold oK;split <;> omega
  rcases(by omega:n=0\/n=1\/n=2\/n=3\/n=4\/n=5\/n≠0/\n≠1/\n≠2/\n≠3/\n≠4/\n≠5) with rfl|rfl|rfl|rfl|rfl|rfl|⟨h0,h1,h2,h3,h4,h5⟩
  have e:wF f d 0=.tuple #[.agg #[.i 0,.i (nZ f-1)],.bool true]:=by simp[wF,gL,hm]
  rotate_left
  have e:wF f d 1=.tuple #[.agg #[.i 0,.i (oK f-1)],.bool true]:=by simp[wF,gL,hm]
  rotate_left
  have e:wF f d 2=.tuple #[.agg #[.i 0,.i 3],.bool true]:=by simp[wF,gL,hm]
  rotate_left
  have e:wF f d 3=.tuple #[.agg #[.i (fG f d),.i (fG f d)],.bool true]:=by simp[wF,gL,hm]
  rotate_left
  have e:wF f d 4=.tuple #[.agg #[.i (cK f d),.i (cK f d)],.bool true]:=by simp[wF,gL,hm]
  rotate_left
  have e:wF f d 5=.tuple #[.agg #[.i (bL f d),.i (bL f d)],.bool true]:=by simp[wF,gL,hm]
  rotate_left
  have e:wF f d n=.tuple #[.agg #[.i 0,.i 0],.bool false]:=by simp[wF,gL,hm,h0,h1,h2,h3,h4,h5]
 all_goals
  have HE:=aA e
  clear e
  go_enter Tryz.func188,Tryz.ntmps188
  go_wp2_with (first
   | (go_at_call 30;refine(HC.o _).mono ?_;rintro e w2 ⟨rfl,hb2⟩;have H:=aA (H.o.later hb2);clear hb2;obtain⟨s2,t2,u2,v2⟩:=aL H.o.r;obtain⟨x2,y2,-,-⟩:=aL H.o.k)
   | ((first | (go_at_call 261;refine(aEn _ _ _).mono ?_) | (go_at_call 262;refine(aQd _ _ _).mono ?_) | (go_at_call 189;refine(mH _ _ _).mono ?_) | (go_at_call 190;refine(jW _ _ _).mono ?_) | (go_at_call 193;refine(kZ _ _ _).mono ?_) | (go_at_call 263;refine(aPk _ _).mono ?_));rintro e w3 ⟨rfl,hb3⟩;have H:=aA (H.o.later hb3);clear hb3;obtain⟨s3,t3,u3,v3⟩:=aL H.o.r;obtain⟨x3,y3,-,-⟩:=aL H.o.k))
  have c:=fun x y=>aS H.o.r H.o.b (by omega) x y
  exact bPr (v:=wF f d _) (by rw[HE.o];simp[results,Tryz.results188,go_sem,fun x y=>(c x y).1,fun x y=>(c x y).2.1]) rfl ⟨rfl,(c _ _).2.2⟩
end
section
open Go.RowKit
variable {w:World} {a:Option Addr} {cap n:Nat} {xs:List Int}
theorem info3:(Tryz.prog.info? 3).map (fun i=>(i.zero,i.size,i.bytes))=some (some (.i 0),1,8):=by kernel_rfl
abbrev iD (xs:List Int):List Value:=xs.map (Value.int .i64)
structure Ints (w:World)(a:Option Addr)(n cap:Nat)(xs:List Int):Prop where
 len:xs.length=n
 le:n<=cap
 max:cap<=maxLen
 nil:a=none->cap=0
 cell:n=0\/∃ b off,a=some ⟨b,off,none⟩/\∀ i,i < n->w.cell? ⟨b,off+i,none⟩=some (.i (xs.getD i 0))
theorem Ints.at (h:Ints w a n cap xs)(hn:n≠0) :
  ∃ b off,a=some ⟨b,off,none⟩/\b < w.heap.size/\∀ i,i < n->w.cell? ⟨b,off+i,none⟩=some (.i (xs.getD i 0)):=by
 rcases h.cell with h0|⟨b,off,ha,hc⟩
 ·exact absurd h0 hn
 ·exact⟨b,off,ha,wBl w _ (hc 0 (by omega)),hc⟩
theorem Ints.of_cells {w':World}(h:Ints w a n cap xs)
  (hc:∀ b off,a=some ⟨b,off,none⟩->n≠0->∀ i,i < n->w'.cell? ⟨b,off+i,none⟩=w.cell? ⟨b,off+i,none⟩):Ints w' a n cap xs:=by
 refine⟨h.len,h.le,h.max,h.nil,?_⟩
 by_cases hn:n=0
 ·exact .inl hn
 ·obtain⟨b,off,ha,_,hcell⟩:=h.at hn
  exact .inr ⟨b,off,ha,fun i hi=>(hc b off ha hn i hi).trans (hcell i hi)⟩
theorem Ints.later {w':World}(h:Ints w a n cap xs)(hb:Below w.heap.size w w'):Ints w' a n cap xs:=by
 refine h.of_cells fun b off ha hn i hi=>?_
 obtain⟨b',off',ha',hlt,_⟩:=h.at hn
 rw[ha] at ha'
 cases ha'
 exact hb.cell (p:=⟨b,off+i,none⟩) hlt
theorem Ints.of_owns {base:Nat}{v:Value}(h:w.ownsRow base 3 1 v n (iD xs)) :
  ∃ a cap,v=.slice a n cap/\Ints w a n cap xs/\(∀ x,a=some x->base<=x.block/\x.block < w.heap.size):=by
 have hl:xs.length=n:=by simpa using h.1
 have hlt:=h.lt
 have hcs:=fun g hg=>h.cells (g:=g) hg
 rcases h.2 with⟨rfl,rfl⟩|⟨g,cap,cur,rfl,hb,hg,hnc,hcm,hsz,htake⟩
 ·exact⟨none,0,rfl,⟨hl,nLr _,nZl _,fun _=>rfl,.inl rfl⟩,fun x hx=>by cases hx⟩
 ·refine⟨some ⟨g,0,none⟩,cap,rfl,⟨hl,hnc,hcm,(fun h=>by cases h),.inr ⟨g,0,rfl,fun i hi=>?_⟩⟩,fun x hx=>by cases hx;exact hlt g rfl⟩
  have:=hcs g rfl i (.i (xs.getD i 0)) (by simp[List.getD,hl,hi])
  rw[Addr.add_lit] at this
  exact this
end
open Go.RowKit Go.Sort
open YticnbcfmbhjbgaaGreatDoor (aB)
def dK (f d i n:Int):Prop:=∃ lo hi,gL f d i=some (lo,hi)/\lo<=n/\n<=hi
theorem aCz (f d i n:Int)(w:World)(h:dK f d i n) :
  Calls Tryz.prog 192 #[.agg #[.i f,.i d],.i i,.i n] w fun e w'=>e=.returned (.bool true)/\Below w.heap.size w w':=by
 obtain⟨lo,hi,hz,h1,h2⟩:=h
 have HB1:=aA (aD w (.cells #[.i f,.i d] 23))
 have HV:Hid (wF f d i=.tuple #[.agg #[.i lo,.i hi],.bool true]):=by unfold Hid;rw[wF,hz];rfl
 clear hz
 go_enter Tryz.func192,Tryz.ntmps192
 go_wp2_with (go_at_call 188;refine(gQ f d i _).mono ?_;rintro e w2 ⟨rfl,hb2⟩;rw[HV.o])
 go_ret
 exact⟨rfl,(bel HB1.o hb2).alloc (bel HB1.o hb2).size _⟩
theorem zJ (f d i n:Int)(w:World)(h:¬dK f d i n) :
  Calls Tryz.prog 192 #[.agg #[.i f,.i d],.i i,.i n] w fun e w'=>e=.returned (.bool false)/\Below w.heap.size w w':=by
 have HB1:=aA (aD w (.cells #[.i f,.i d] 23))
 cases hz:gL f d i with
 | none =>
  have HV:Hid (wF f d i=.tuple #[.agg #[.i 0,.i 0],.bool false]):=by unfold Hid;rw[wF,hz];rfl
  clear hz h
  go_enter Tryz.func192,Tryz.ntmps192
  go_wp2_with (go_at_call 188;refine(gQ f d i _).mono ?_;rintro e w2 ⟨rfl,hb2⟩;rw[HV.o])
  go_ret
  exact⟨rfl,(bel HB1.o hb2).alloc (bel HB1.o hb2).size _⟩
 | some q =>
  obtain⟨lo,hi⟩:=q
  have HV:Hid (wF f d i=.tuple #[.agg #[.i lo,.i hi],.bool true]):=by unfold Hid;rw[wF,hz];rfl
  have hn:¬(lo<=n/\n<=hi):=fun h'=>h ⟨lo,hi,hz,h'.1,h'.2⟩
  clear hz h
  by_cases h1:lo<=n
  ·have h2:decide (n<=hi)=false:=by simp;omega
   clear hn
   go_enter Tryz.func192,Tryz.ntmps192
   go_wp2_with (go_at_call 188;refine(gQ f d i _).mono ?_;rintro e w2 ⟨rfl,hb2⟩;rw[HV.o])
   go_ret
   exact⟨rfl,(bel HB1.o hb2).alloc (bel HB1.o hb2).size _⟩
  ·have h2:decide (lo<=n)=false:=by simp;omega
   clear hn
   go_enter Tryz.func192,Tryz.ntmps192
   go_wp2_with (go_at_call 188;refine(gQ f d i _).mono ?_;rintro e w2 ⟨rfl,hb2⟩;rw[HV.o])
   go_ret
   exact⟨rfl,(bel HB1.o hb2).alloc (bel HB1.o hb2).size _⟩
def Fit (f d x y c:Int)(zs:List Int):Prop :=
 ((dK f d 0 x/\dK f d 1 y)/\dK f d 2 c)/\(zs.length:Int)=bX f d/\∀ z ∈ zs,fG f d<=z/\z<=cK f d
open Classical in
noncomputable def aEu (f d x y c:Int)(zs:List Int):Int:=if Fit f d x y c zs then 0 else 1
theorem pV {W:World}{b:Nat}{t:TypeId}{x y c p:Value}(h:aB W b t #[x,y,c,p]):W.cell? ⟨b,0,none⟩=some x/\W.cell? ⟨b,1,none⟩=some y/\W.cell? ⟨b,2,none⟩=some c/\W.cell? ⟨b,3,none⟩=some p :=
 ⟨h.cell 0 rfl,h.cell 1 rfl,h.cell 2 rfl,h.cell 3 rfl⟩
theorem mixed':Tryz.prog.follows .mixedOrders=true:=by kernel_rfl
theorem aNv (f d x y c:Int)(a:Option Addr)(n cap:Nat)(zs:List Int)(w:World)(hZ:Ints w a n cap zs) :
  Calls Tryz.prog 114 #[.agg #[.i f,.i d],.agg #[.i x,.i y,.i c,.slice a n cap]] w fun e w'=>((e=.returned (.i 0)/\Fit f d x y c zs)\/(e=.returned (.i 1)/\¬Fit f d x y c zs))/\Below w.heap.size w w':=by
 have HZ1:=aA hZ
 clear hZ
 have H:=aA (B2.start w 23 26 #[.i f,.i d] #[.i x,.i y,.i c,.slice a n cap])
 go_enter Tryz.func114,Tryz.ntmps114
 go_wp2_with fail
 by_cases hx:¬dK f d 0 x
 ·refine(zJ f d 0 x _ hx).mono ?_
  rintro e w2 ⟨rfl,hb⟩
  have H:=aA (H.o.later hb)
  clear hb
  obtain⟨x2,y2,-,-⟩:=aL H.o.k
  obtain⟨p2,q2,r2,t2⟩:=pV H.o.r
  go_wp2
  go_ret
  exact⟨.inr ⟨rfl,fun h=>hx h.1.1.1⟩,H.o.b⟩
 have hx:=Classical.not_not.1 hx
 refine(aCz f d 0 x _ hx).mono ?_
 rintro e w4 ⟨rfl,hb⟩
 have H:=aA (H.o.later hb)
 clear hb
 obtain⟨x4,y4,-,-⟩:=aL H.o.k
 obtain⟨p4,q4,r4,t4⟩:=pV H.o.r
 go_wp2_with fail
 by_cases hy:¬dK f d 1 y
 ·refine(zJ f d 1 y _ hy).mono ?_
  rintro e w2 ⟨rfl,hb⟩
  have H:=aA (H.o.later hb)
  clear hb
  obtain⟨x2,y2,-,-⟩:=aL H.o.k
  obtain⟨p2,q2,r2,t2⟩:=pV H.o.r
  go_wp2
  go_ret
  exact⟨.inr ⟨rfl,fun h=>hy h.1.1.2⟩,H.o.b⟩
 have hy:=Classical.not_not.1 hy
 refine(aCz f d 1 y _ hy).mono ?_
 rintro e w4 ⟨rfl,hb⟩
 have H:=aA (H.o.later hb)
 clear hb
 obtain⟨x4,y4,-,-⟩:=aL H.o.k
 obtain⟨p4,q4,r4,t4⟩:=pV H.o.r
 go_wp2_with fail
 by_cases hc:¬dK f d 2 c
 ·refine(zJ f d 2 c _ hc).mono ?_
  rintro e w2 ⟨rfl,hb⟩
  have H:=aA (H.o.later hb)
  clear hb
  obtain⟨x2,y2,-,-⟩:=aL H.o.k
  obtain⟨p2,q2,r2,t2⟩:=pV H.o.r
  go_wp2
  go_ret
  exact⟨.inr ⟨rfl,fun h=>hc h.1.2⟩,H.o.b⟩
 have hc:=Classical.not_not.1 hc
 refine(aCz f d 2 c _ hc).mono ?_
 rintro e w4 ⟨rfl,hb⟩
 have H:=aA (H.o.later hb)
 clear hb
 obtain⟨x4,y4,-,-⟩:=aL H.o.k
 obtain⟨p4,q4,r4,t4⟩:=pV H.o.r
 by_cases hn:((n:Nat):Int)≠bX f d
 ·have hn':(((n:Nat):Int) != bX f d)=true:=by simp[hn]
  go_wp2
  have k0:=cell_regrown x4
  have k1:=cell_regrown y4
  have k2:=cell_regrown t4
  refine wp_region_quiet_below mixed' (by kernel_rfl) ?_
  repeat (first|go_big_quiet_step (first
   | (go_at_call 132;exact Calls.regrown_of (qR _ _ _))))
  refine wpQuiet_nil ?_
  intro _ hw'
  obtain⟨⟨dq,osq⟩,hw''⟩:=hw'
  subst hw''
  go_wp2
  go_ret
  exact⟨.inr ⟨rfl,fun h=>hn (by rw[<-HZ1.o.len];exact h.2.1)⟩,bel H.o.b (below_regrown _ _ _)⟩
 have hn:=Classical.not_not.1 hn
 have hn':(((n:Nat):Int) != bX f d)=false:=by simp[hn]
 have HN:=aA hn
 have HFt:Hid ((∀ z ∈ zs,fG f d<=z/\z<=cK f d)->Fit f d x y c zs):=aA fun h=>⟨⟨⟨hx,hy⟩,hc⟩,by rw[HZ1.o.len];exact hn,h⟩
 clear hn
 go_wp2
 have k0:=cell_regrown x4
 have k1:=cell_regrown y4
 have k2:=cell_regrown t4
 refine wp_region_quiet_below mixed' (by kernel_rfl) ?_
 repeat (first|go_big_quiet_step (first
  | (go_at_call 132;exact Calls.regrown_of (qR _ _ _))))
 refine wpQuiet_nil ?_
 intro _ hw'
 obtain⟨⟨dq,osq⟩,hw''⟩:=hw'
 have hb5:Below w4.heap.size w4 (grow (redrawn w4 dq) osq):=below_regrown _ _ _
 simp only at hw''
 rw[<-hw''] at hb5
 rename_i w5
 have H5:=aA (H.o.later hb5)
 clear hw'' hb5 H k0 k1 k2 x4 y4 p4 q4 r4 t4
 obtain⟨x5,y5,-,-⟩:=aL H5.o.k
 obtain⟨p5,q5,r5,t5⟩:=pV H5.o.r
 go_wp2
 have k0:=cell_regrown x5
 have k1:=cell_regrown y5
 refine wp_region_quiet_below mixed' (by kernel_rfl) ?_
 repeat (first|go_big_quiet_step (first
  | (go_at_call 189;exact Calls.regrown_of (mH _ _ _))
  | (go_at_call 190;exact Calls.regrown_of (jW _ _ _))))
 refine wpQuiet_nil ?_
 intro w6 hw'
 obtain⟨⟨dq6,osq6⟩,hw''⟩:=hw'
 have hb6:Below w5.heap.size w5 (grow (redrawn w5 dq6) osq6):=below_regrown _ _ _
 simp only at hw''
 rw[<-hw''] at hb6
 have H6:=aA (H5.o.later hb6)
 clear hw'' hb6 H5 k0 k1 x5 y5 p5 q5 r5 t5
 obtain⟨-,-,-,t6⟩:=pV H6.o.r
 have HZ6:=aA (HZ1.o.later H6.o.b)
 obtain⟨hn1,hn2⟩:1<=n/\n<=44:=by
  obtain⟨lo,hi,hz,_⟩:=hx
  have hm:May f d:=Classical.byContradiction fun h'=>by simp[gL,h'] at hz
  have h:=HN.o
  unfold bX at h
  rw[if_pos hm] at h
  split at h <;> omega
 obtain⟨sb,so,rfl,-,hcell⟩:=HZ6.o.at (by omega)
 have HC:=aA hcell
 have HLen:Hid (zs.length=n):=HZ6.o.len
 clear hcell HZ1 HZ6
 go_wp2
 go_loop [41] (fun iv=>∃ k:Nat,k<=n/\iv=.i k/\Hid (∀ j,j < k->fG f d<=zs.getD j 0/\zs.getD j 0<=cK f d)) (fun iv=>n-(intOf iv).toNat)
 case atStart=>exact⟨0,by omega,rfl,fun j hj=>by omega⟩
 case round =>
  obtain⟨k,hk,rfl,HA⟩:=hrel
  by_cases hlt:k < n
  ·have hck:=HC.o k hlt
   obtain⟨z,hz⟩:∃ z,zs.getD k 0=z:=⟨_,rfl⟩
   rw[hz] at hck
   have HZk:=aA hz
   have HM:Hid (z ∈ zs):=by
    unfold Hid
    rw[<-HZk.o]
    simp only[List.getD]
    rw[gEg (by have:=HLen.o;omega)]
    exact List.getElem_mem _
   clear hz
   by_cases h1:z < fG f d
   ·go_wp2
    go_ret
    exact⟨.inr ⟨rfl,fun h=>by have:=h.2.2 z HM.o;omega⟩,H6.o.b⟩
   ·by_cases h2:cK f d < z
    ·go_wp2
     go_ret
     exact⟨.inr ⟨rfl,fun h=>by have:=h.2.2 z HM.o;omega⟩,H6.o.b⟩
    ·have h1':decide (z < fG f d)=false:=by simpa using h1
     have h2':decide (cK f d < z)=false:=by simpa using h2
     go_wp2
     go_round
     case rel=>exact⟨k+1,by omega,by go_num,fun j hj=>by
      by_cases e:j=k
      ·subst e;rw[HZk.o];omega
      ·exact HA.o j (by omega)⟩
     case measure=>simp[intOf];omega
  ·obtain rfl:k=n:=by omega
   go_wp2
   go_ret
   refine⟨.inl ⟨rfl,HFt.o fun z hz=>?_⟩,H6.o.b⟩
   obtain⟨i,hi,rfl⟩:=List.getElem_of_mem hz
   have:=HA.o i (by have:=HLen.o;omega)
   simpa [List.getD,hi] using this
open Classical in
theorem yM (f d x y c:Int)(a:Option Addr)(n cap:Nat)(zs:List Int)(w:World)(hZ:Ints w a n cap zs) :
  Calls Tryz.prog 114 #[.agg #[.i f,.i d],.agg #[.i x,.i y,.i c,.slice a n cap]] w fun e w'=>e=.returned (.i (aEu f d x y c zs))/\Below w.heap.size w w':=by
 refine(aNv f d x y c a n cap zs w hZ).mono ?_
 rintro e w' ⟨⟨rfl,h⟩|⟨rfl,h⟩,hB⟩
 ·rw[aEu,if_pos h];exact⟨rfl,hB⟩
 ·rw[aEu,if_neg h];exact⟨rfl,hB⟩
end Go.Proofs.Knd
