import Derived.Test.YtngnnijpdjhelaaGreatX51
namespace Go.Proofs.YtngnnijpdjhelaaGreat
open Go.RowKit Go.IntWalk Lx Pz
set_option linter.unusedVariables false
set_option maxRecDepth 100000
set_option maxHeartbeats 16000000
def spareT:Txt:=[115,112,97,114,101]
def spareN:Nd:=⟨7777,0,0,0,0,0,0,0,0⟩
def RmR (w:World)(base:Nat)(e:TypeId)(size:Nat)(v:Value)(n:Nat)(xs:List Value):Prop :=
 ∃ g cap,v=.slice (some ⟨g,0,none⟩) n cap/\w.ownsRow base e size (.slice (some ⟨g,0,none⟩) (n+1) cap) (n+1) xs
theorem RmR.kp {S:List TypeId}{W W':World}{base:Nat}{e:TypeId}{size:Nat}{v:Value}{n:Nat}{xs:List Value}(h:RmR W base e size v n xs)(hk:Kp S W W')(ht:e ∉ S):RmR W' base e size v n xs:=by
 obtain⟨g,cap,hv,ho⟩:=h
 exact⟨g,cap,hv,owns_kp ho hk ht⟩
theorem own_caps {w:World}{base:Nat}{e:TypeId}{size g n cap:Nat}{xs:List Value}(h:w.ownsRow base e size (.slice (some ⟨g,0,none⟩) n cap) n xs):n<=cap/\cap<=maxLen:=by
 rcases h.2 with⟨h1,-⟩|⟨g',cap',cur,hv,-,-,h3,h4,-⟩
 ·cases h1
 ·cases hv
  exact⟨h3,h4⟩
theorem own_mono' {w:World}{base base':Nat}{e:TypeId}{size:Nat}{v:Value}{n:Nat}{xs:List Value}(h:w.ownsRow base e size v n xs)(hb:base'<=base):w.ownsRow base' e size v n xs:=by
 obtain⟨h1,h2⟩:=h
 refine⟨h1,?_⟩
 rcases h2 with h2|⟨g,cap,cur,hv,hg,rest⟩
 ·exact .inl h2
 ·exact .inr ⟨g,cap,cur,hv,Nat.le_trans hb hg,rest⟩
theorem append_one {P:Program}(w:World){ops:Array Oper}{rest:List Oper}{o:Oper}{a:Act}{Q:Exit->Act->World->Prop}
  (hg:o.guard=none) (s x:Operand) (t:TypeId) (hop:o.op=Op.call { callee:=Callee.builtin Builtin.append,args:=#[s,x],argTypes:=#[t,t] })
  (base:Nat) (e:TypeId) (i:TypeInfo) (z:Value) (size bytes:Nat) (h1:P.underlying t=some (.slice e)) (h2:P.info? e=some i) (h3:i.zero=some z) (h4:i.size=size) (h5:i.bytes=bytes) (h6:z.cells.size=size) (h7:0 < size)
  (v:Value) (n:Nat) (xs:List Value) (hs:a.eval s=v) (hown:w.ownsRow base e size v n xs) (q:Nat) (new:Array Value) (hx:a.eval x=.slice (some ⟨q,0,none⟩) 1 1) (hn:new.size=size) (hc:HasC w q e new)
  (h1c:∀ u ∈ new.toList,u.oneCell'=true) (b1:n+1<=maxLen) (b2:(n+1)*bytes<=140737488355328) (hbase:base<=w.heap.size)
  (hK:∀ g cap w',w'.ownsRow base e size (.slice (some ⟨g,0,none⟩) (n+1) cap) (n+1) (xs++new.toList)->w.grownBy w' v.ownBlock->wpList P ops Q rest (a.put o.dst (.slice (some ⟨g,0,none⟩) (n+1) cap)) w') :
  wpList P ops Q (o::rest) a w:=by
 refine wpList_append_lies w hg s x t hop base e i z size bytes h1 h2 h3 h4 h5 h6 h7 v n xs hs hown ⟨q,0,none⟩ 1 1 new.toList hx (by simp[hn]) ?_ h1c (by omega) b1 b2 hbase w.heap.size rfl ?_
 ·intro j u hu
  rw[Addr.add_lit,Nat.zero_add]
  exact hc.cell j (by simpa using hu)
 ·intro g cap w' ho hgr _ _
  exact hK g cap w' ho hgr
structure Rg (W0 Wr:World)(q1 q2 u:Nat)(e:TypeId)(size fi:Nat)(tA uA:Array Value)(av ov:Value)(n:Nat)(xs new:List Value)(k:Nat)(d:Nat->Bool)(y0 y1 yb y2 y3 y4 y5 y6 y7 y8:Value)(w:World):Prop where
 bel:Below W0.heap.size W0 w
 kp:Kp [e,28] Wr w
 tb:HasC w q1 28 tA
 rz:HasC w q2 28 nil4
 ua:d (k+9)=false->HasC w u 28 uA
 ub:d (k+9)=true->HasC w u 28 (uA.setIfInBounds fi y7)
 f0:d 0=true->y0=.pointer (some ⟨u,fi,none⟩)
 f1:d 1=true->y1=ov
 fb:k=1->d 2=true->yb=.agg new.toArray
 f2:d (k+2)=true->d (k+3)=false->∃ g,y2=.slice (some ⟨g,0,none⟩) 1 1/\HasC w g e new.toArray
 f3:d (k+3)=false->w.ownsRow W0.heap.size e size ov n xs
 g3:d (k+3)=true->∃ g cap,y3=.slice (some ⟨g,0,none⟩) (n+1) cap/\w.ownsRow W0.heap.size e size (.slice (some ⟨g,0,none⟩) (n+1) cap) (n+1) (xs++new)
 f4:d (k+4)=true->y4=.pointer (some ⟨q1,fi,none⟩)
 f5:d (k+5)=true->y5=av
 f6:d (k+6)=true->y6=.int .i64 (n:Int)
 f7:d (k+7)=true->d (k+3)=true/\∃ g cap,y3=.slice (some ⟨g,0,none⟩) (n+1) cap/\y7=.slice (some ⟨g,0,none⟩) n cap
 f8:d (k+8)=true->y8=.pointer (some ⟨u,fi,none⟩)
 ph:d (k+9)=true->d (k+7)=true/\d (k+3)=true/\d 1=true
def RooP (W:World)(nl bl dl:Nat)(root:Int)(NM:List Txt)(BS:List Int)(NS:List Nd)(e:Ending)(W':World):Prop :=
 ∃ nv bv dv,e=.returned (.agg #[nv,bv,dv,.int .i64 root])/\RmR W' W.heap.size 9 1 nv nl (tx64 NM++[.string (sB spareT)])/\RmR W' W.heap.size 3 1 bv bl (in64 BS++[.int .i64 7777])/\RmR W' W.heap.size 65 9 dv dl (nd64 NS++nd9 spareN)/\Below W.heap.size W W'
theorem res_roomy {F:World}{A:Nat}{a b c d:Value}{tmps:Array Value}(hA:HasC F A 28 #[a,b,c,d])(h2:tmps[2]?=some (.pointer (some ⟨A,0,none⟩))) :
  (results Tryz.f7 tmps).run Tryz.prog F=.ok (.agg #[a,b,c,d]) F:=by
 obtain⟨c0,c1,c2,c3⟩:=facts4 hA
 simp[results,Tryz.results7,go_sem,h2,c0,c1,c2,c3]
theorem roomy_any {W:World}{na ba da:Option Addr}{nl nc bl bc dl dc:Nat}{root:Int}{NM:List Txt}{BS:List Int}{NS:List Nd}(hX:Tx W na nl nc NM)(hB:Iz W ba bl bc BS)(hN:Nz W da dl dc NS)
  (hn1:na=none->nl=0/\nc=0) (hn2:ba=none->bl=0/\bc=0) (hn3:da=none->dl=0/\dc=0) (hs1:(nl+1)*16<=140737488355328) (hs2:(bl+1)*8<=140737488355328) (hs3:(dl+1)*72<=140737488355328) :
  Calls Tryz.prog 7 #[.agg #[.slice na nl nc,.slice ba bl bc,.slice da dl dc,.int .i64 root]] W fun e W'=>RooP W nl bl dl root NM BS NS e W':=by
 have HT1:=hide (HasC.new (W.alloc (.cells #[.slice na nl nc,.slice ba bl bc,.slice da dl dc,.int .i64 root] 28)) 28 nil4)
 rw[World.size_alloc] at HT1
 have HT:=hide ((HasC.new W 28 #[.slice na nl nc,.slice ba bl bc,.slice da dl dc,.int .i64 root]).alloc (.cells nil4 28))
 have HW:=hide (bel (bel1 W (.cells #[.slice na nl nc,.slice ba bl bc,.slice da dl dc,.int .i64 root] 28)) (bel1 (W.alloc (.cells #[.slice na nl nc,.slice ba bl bc,.slice da dl dc,.int .i64 root] 28)) (.cells nil4 28)))
 have CC:=copy_any (hX.later HW.out) (hB.later HW.out) (hN.later HW.out) hn1 hn2 hn3 (root:=root) (by omega) (by omega) (by omega)
 have HS:=hide (show (nl+1)*16<=140737488355328/\(bl+1)*8<=140737488355328/\(dl+1)*72<=140737488355328 from⟨hs1,hs2,hs3⟩)
 have HCC:=hide CC
 clear hX hB hN hn1 hn2 hn3 hs1 hs2 hs3 CC
 obtain⟨i9,hi9,hz90,hz91,hz92⟩:=info_parts infoStr
 obtain⟨i3,hi3,hz30,hz31,hz32⟩:=info_parts infoInt
 obtain⟨iN,hiN,hzN0,hzN1,hzN2⟩:=info_parts infoN
 have HI9:=hide (And.intro hi9 (And.intro hz90 (And.intro hz91 hz92)))
 have HI3:=hide (And.intro hi3 (And.intro hz30 (And.intro hz31 hz32)))
 have HIN:=hide (And.intro hiN (And.intro hzN0 (And.intro hzN1 hzN2)))
 clear hi9 hz90 hz91 hz92 hi3 hz30 hz31 hz32 hiN hzN0 hzN1 hzN2
 obtain⟨t0,t1,t2,t3⟩:=facts4 HT.out
 go_enter Tryz.func7,Tryz.ntmps7
 go_wp2_with fail
 refine HCC.out.mono ?_
 clear HCC t0 t1 t2 t3
 rintro e w1 ⟨nv,bv,dv,rfl,hO1,hO2,hO3,hb⟩
 obtain⟨A1,c1,rfl⟩:=owns_form hO1
 obtain⟨A2,c2,rfl⟩:=owns_form hO2
 obtain⟨A3,c3,rfl⟩:=owns_form hO3
 have HO:=hide (And.intro (own_mono' hO1 HW.out.size) (And.intro (own_mono' hO2 HW.out.size) (own_mono' hO3 HW.out.size)))
 have HB1:=hide (bel HW.out hb)
 have HT2:=hide (HT.out.below hb)
 have HR2:=hide (HT1.out.below hb)
 clear hb hO1 hO2 hO3 HW HT HT1
 go_wp2
 obtain⟨u,hu⟩:∃ u,w1.heap.size=u:=⟨_,rfl⟩
 obtain⟨V2,hV2⟩:∃ V,w1.alloc (.cells #[.slice A1 nl c1,.slice A2 bl c2,.slice A3 dl c3,.int .i64 root] 28)=V:=⟨_,rfl⟩
 have HQ:=hide (show W.heap.size≠u/\W.heap.size+1≠u/\W.heap.size<=u from by
  have h1:=HT2.out.lt
  have h2:=HR2.out.lt
  exact⟨by omega,by omega,by omega⟩)
 have HUr:=hide (show HasC V2 u 28 #[.slice A1 nl c1,.slice A2 bl c2,.slice A3 dl c3,.int .i64 root] from by rw[<-hV2,<-hu];exact HasC.new _ _ _)
 have hb2:Below w1.heap.size w1 V2:=by rw[<-hV2];exact bel1 w1 _
 have HTr:=hide (HT2.out.below hb2)
 have HZr:=hide (HR2.out.below hb2)
 have HBr:=hide (bel HB1.out hb2)
 have HOr:=hide (owns_kp HO.out.1 (Kp.of_below [] hb2) (by simp))
 have HOb:=hide (owns_kp HO.out.2.1 (Kp.of_below [] hb2) (by simp))
 have HOd:=hide (owns_kp HO.out.2.2 (Kp.of_below [] hb2) (by simp))
 rw[hV2,hu]
 clear hV2 hu hb2 HO HB1 HT2 HR2
 refine wp_region_flags mixedC (ord_of (by kernel_rfl)) (fun d a w=>∃ z4 z5 y0 y1 y2 y3 y4 y5 y6 y7 y8 z15 z16 z17 z18 z19 z20 z21 z22 z23 z24 z25 z26 z27 z28 z29 z30 z31 z32 z33 z34,a=⟨#[.agg #[.slice na nl nc,.slice ba bl bc,.slice da dl dc,.int .i64 root],.pointer (some ⟨W.heap.size,0,none⟩),.pointer (some ⟨W.heap.size+1,0,none⟩),.pointer (some ⟨u,0,none⟩),z4,z5,y0,y1,y2,y3,y4,y5,y6,y7,y8,z15,z16,z17,z18,z19,z20,z21,z22,z23,z24,z25,z26,z27,z28,z29,z30,z31,z32,z33,z34],[]⟩/\Rg W V2 W.heap.size (W.heap.size+1) u 9 1 0 #[.slice na nl nc,.slice ba bl bc,.slice da dl dc,.int .i64 root] #[.slice A1 nl c1,.slice A2 bl c2,.slice A3 dl c3,.int .i64 root] (.slice na nl nc) (.slice A1 nl c1) nl (tx64 NM) [.string (sB spareT)] 0 d y0 y1 (.bool false) y2 y3 y4 y5 y6 y7 y8 w) ?_ ?_ ?_
 ·refine⟨_,_,_,_,_,_,_,_,_,_,_,_,_,_,_,_,_,_,_,_,_,_,_,_,_,_,_,_,_,_,_,rfl,⟨HBr.out.os,HBr.out.tape,HBr.out.output,HBr.out.size,HBr.out.block⟩,⟨Nat.le_refl _,fun _ _ _ _ h _=>h⟩,HTr.out,HZr.out,fun _=>HUr.out,?_,?_,?_,?_,?_,fun _=>HOr.out,?_,?_,?_,?_,?_,?_,?_⟩
  all_goals first|(intro h;cases h;done)|(intro _ h;cases h;done)
 ·rintro d a w i o ⟨z4,z5,y0,y1,y2,y3,y4,y5,y6,y7,y8,z15,z16,z17,z18,z19,z20,z21,z22,z23,z24,z25,z26,z27,z28,z29,z30,z31,z32,z33,z34,rfl,C⟩ hdi ho haft Q' hk'
  have HK:=hide hk'
  clear hk'
  clear HBr HTr HZr HUr HOr
  have hi:i < 10:=(Array.getElem?_eq_some_iff.1 ho).1
  match i,hi with
  | 0,_ =>
   obtain rfl:=(Option.some.inj ho)
   clear haft ho
   have C:=hide C
   go_wp2
   have C:=C.out
   exact HK.out _ _ ⟨z4,z5,_,y1,y2,y3,y4,y5,y6,y7,y8,z15,z16,z17,z18,z19,z20,z21,z22,z23,z24,z25,z26,z27,z28,z29,z30,z31,z32,z33,z34,rfl,⟨C.bel,C.kp,C.tb,C.rz,C.ua,C.ub,(fun _=>rfl),C.f1,(fun h=>absurd h (by decide)),C.f2,C.f3,C.g3,C.f4,C.f5,C.f6,(fun h=>⟨or_t (C.f7 h).1,(C.f7 h).2⟩),C.f8,(fun h=>⟨or_t (C.ph h).1,or_t (C.ph h).2.1,or_t (C.ph h).2.2⟩)⟩⟩
  | 1,_ =>
   obtain rfl:=(Option.some.inj ho)
   have g0:d 0=true:=haft ⟨0,.data⟩ (by simp) rfl
   clear haft ho
   have e1:=C.f0 g0
   subst e1
   have h9:d 9=false:=by
    cases h9:d 9 with
    | false=>rfl
    | true=>have h2:=(C.ph h9).2.2;rw[hdi] at h2;cases h2
   obtain⟨q0,q1,q2,q3⟩:=facts4 (C.ua h9)
   have C:=hide C
   go_wp2
   have C:=C.out
   exact HK.out _ _ ⟨z4,z5,_,_,y2,y3,y4,y5,y6,y7,y8,z15,z16,z17,z18,z19,z20,z21,z22,z23,z24,z25,z26,z27,z28,z29,z30,z31,z32,z33,z34,rfl,⟨C.bel,C.kp,C.tb,C.rz,C.ua,C.ub,C.f0,(fun _=>rfl),(fun h=>absurd h (by decide)),C.f2,C.f3,C.g3,C.f4,C.f5,C.f6,(fun h=>⟨or_t (C.f7 h).1,(C.f7 h).2⟩),C.f8,(fun h=>⟨or_t (C.ph h).1,or_t (C.ph h).2.1,or_t (C.ph h).2.2⟩)⟩⟩
  | 2,_ =>
   obtain rfl:=(Option.some.inj ho)
   clear haft ho
   have C:=hide C
   go_wp2
   have C:=C.out
   have hk:Kp [] w (w.alloc (.cells #[.string (sB spareT)] 9)):=Kp.of_below [] (bel1 w _)
   have hb:Below W.heap.size W (w.alloc (.cells #[.string (sB spareT)] 9)):=C.bel.alloc C.bel.size _
   have hnew:∃ g,Value.slice (some ⟨w.heap.size,0,none⟩) 1 1=.slice (some ⟨g,0,none⟩) 1 1/\HasC (w.alloc (.cells #[.string (sB spareT)] 9)) g 9 ([.string (sB spareT)]:List Value).toArray:=⟨_,rfl,HasC.new w 9 _⟩
   exact HK.out _ _ ⟨z4,z5,y0,y1,_,y3,y4,y5,y6,y7,y8,z15,z16,z17,z18,z19,z20,z21,z22,z23,z24,z25,z26,z27,z28,z29,z30,z31,z32,z33,z34,rfl,⟨hb,(C.kp.trans (hk.mono (by decide))),(C.tb.kp hk (by decide)),(C.rz.kp hk (by decide)),(fun h=>(C.ua h).kp hk (by decide)),(fun h=>(C.ub h).kp hk (by decide)),C.f0,C.f1,(fun h=>absurd h (by decide)),(fun _ _=>hnew),(fun h=>owns_kp (C.f3 h) hk (by decide)),(fun h=>by obtain⟨g,cap,h3,h4⟩:=C.g3 h;exact⟨g,cap,h3,owns_kp h4 hk (by decide)⟩),C.f4,C.f5,C.f6,(fun h=>⟨or_t (C.f7 h).1,(C.f7 h).2⟩),C.f8,(fun h=>⟨or_t (C.ph h).1,or_t (C.ph h).2.1,or_t (C.ph h).2.2⟩)⟩⟩
  | 3,_ =>
   obtain rfl:=(Option.some.inj ho)
   have g1:d 1=true:=haft ⟨1,.data⟩ (by simp) rfl
   have g2:d 2=true:=haft ⟨2,.data⟩ (by simp) rfl
   clear haft ho
   have e1:=C.f1 g1
   subst e1
   obtain⟨g,e2,hc⟩:=C.f2 g2 hdi
   subst e2
   have hO:=C.f3 hdi
   have hbd:=HS.out.1
   refine append_one w rfl (.tmp 7) (.tmp 8) 24 rfl W.heap.size 9 _ _ 1 16 Tryz.underlying24 HI9.out.1 HI9.out.2.1 HI9.out.2.2.1 HI9.out.2.2.2 rfl (by omega) _ nl (tx64 NM) rfl hO g ([.string (sB spareT)]:List Value).toArray rfl rfl hc (by simp[Value.oneCell']) (by unfold maxLen;omega) (by omega) C.bel.size ?_
   intro gg cap w' hown hgrow
   have hnew:∃ g cap',Value.slice (some ⟨gg,0,none⟩) (nl+1) cap=.slice (some ⟨g,0,none⟩) (nl+1) cap'/\w'.ownsRow W.heap.size 9 1 (.slice (some ⟨g,0,none⟩) (nl+1) cap') (nl+1) ((tx64 NM)++[.string (sB spareT)]):=⟨gg,cap,rfl,hown⟩
   have hk:Kp [9] w w':=Kp.grown hgrow fun k hk=>by
    obtain⟨_,cs,fr,hb⟩:=owns_block hO k hk
    exact⟨cs,_,fr,hb,by simp⟩
   have hb:Below W.heap.size W w':=C.bel.grown hgrow C.bel.size fun k hk=>(owns_block hO k hk).1
   exact HK.out _ _ ⟨z4,z5,y0,_,_,_,y4,y5,y6,y7,y8,z15,z16,z17,z18,z19,z20,z21,z22,z23,z24,z25,z26,z27,z28,z29,z30,z31,z32,z33,z34,rfl,⟨hb,(C.kp.trans (hk.mono (by decide))),(C.tb.kp hk (by decide)),(C.rz.kp hk (by decide)),(fun h=>(C.ua h).kp hk (by decide)),(fun h=>(C.ub h).kp hk (by decide)),C.f0,C.f1,(fun h=>absurd h (by decide)),(fun _ h=>by cases h),(fun h=>by cases h),(fun _=>hnew),C.f4,C.f5,C.f6,(fun h=>by have h2:=(C.f7 h).1;rw[hdi] at h2;cases h2),C.f8,(fun h=>⟨or_t (C.ph h).1,or_t (C.ph h).2.1,or_t (C.ph h).2.2⟩)⟩⟩
  | 4,_ =>
   obtain rfl:=(Option.some.inj ho)
   clear haft ho
   have C:=hide C
   go_wp2
   have C:=C.out
   exact HK.out _ _ ⟨z4,z5,y0,y1,y2,y3,_,y5,y6,y7,y8,z15,z16,z17,z18,z19,z20,z21,z22,z23,z24,z25,z26,z27,z28,z29,z30,z31,z32,z33,z34,rfl,⟨C.bel,C.kp,C.tb,C.rz,C.ua,C.ub,C.f0,C.f1,(fun h=>absurd h (by decide)),C.f2,C.f3,C.g3,(fun _=>rfl),C.f5,C.f6,(fun h=>⟨or_t (C.f7 h).1,(C.f7 h).2⟩),C.f8,(fun h=>⟨or_t (C.ph h).1,or_t (C.ph h).2.1,or_t (C.ph h).2.2⟩)⟩⟩
  | 5,_ =>
   obtain rfl:=(Option.some.inj ho)
   have g4:d 4=true:=haft ⟨4,.data⟩ (by simp) rfl
   clear haft ho
   have e1:=C.f4 g4
   subst e1
   obtain⟨q0,q1,q2,q3⟩:=facts4 C.tb
   have C:=hide C
   go_wp2
   have C:=C.out
   exact HK.out _ _ ⟨z4,z5,y0,y1,y2,y3,_,_,y6,y7,y8,z15,z16,z17,z18,z19,z20,z21,z22,z23,z24,z25,z26,z27,z28,z29,z30,z31,z32,z33,z34,rfl,⟨C.bel,C.kp,C.tb,C.rz,C.ua,C.ub,C.f0,C.f1,(fun h=>absurd h (by decide)),C.f2,C.f3,C.g3,C.f4,(fun _=>rfl),C.f6,(fun h=>⟨or_t (C.f7 h).1,(C.f7 h).2⟩),C.f8,(fun h=>⟨or_t (C.ph h).1,or_t (C.ph h).2.1,or_t (C.ph h).2.2⟩)⟩⟩
  | 6,_ =>
   obtain rfl:=(Option.some.inj ho)
   have g5:d 5=true:=haft ⟨5,.data⟩ (by simp) rfl
   clear haft ho
   have e1:=C.f5 g5
   subst e1
   have C:=hide C
   go_wp2
   have C:=C.out
   exact HK.out _ _ ⟨z4,z5,y0,y1,y2,y3,y4,_,_,y7,y8,z15,z16,z17,z18,z19,z20,z21,z22,z23,z24,z25,z26,z27,z28,z29,z30,z31,z32,z33,z34,rfl,⟨C.bel,C.kp,C.tb,C.rz,C.ua,C.ub,C.f0,C.f1,(fun h=>absurd h (by decide)),C.f2,C.f3,C.g3,C.f4,C.f5,(fun _=>rfl),(fun h=>⟨or_t (C.f7 h).1,(C.f7 h).2⟩),C.f8,(fun h=>⟨or_t (C.ph h).1,or_t (C.ph h).2.1,or_t (C.ph h).2.2⟩)⟩⟩
  | 7,_ =>
   obtain rfl:=(Option.some.inj ho)
   have g3:d 3=true:=haft ⟨3,.data⟩ (by simp) rfl
   have g6:d 6=true:=haft ⟨6,.data⟩ (by simp) rfl
   clear haft ho
   obtain⟨g,cap,e1,hO⟩:=C.g3 g3
   have e2:=C.f6 g6
   subst e1 e2
   obtain⟨hc1,hc2⟩:=own_caps hO
   unfold maxLen at hc2
   have hc3:nl<=cap:=by omega
   clear hO
   have C:=hide C
   go_wp2
   have C:=C.out
   have hnew:(d 3=true)/\∃ g' cap',Value.slice (some ⟨g,0,none⟩) (nl+1) cap=.slice (some ⟨g',0,none⟩) (nl+1) cap'/\Value.slice (some ⟨g,0,none⟩) nl cap=.slice (some ⟨g',0,none⟩) nl cap':=⟨g3,g,cap,rfl,rfl⟩
   exact HK.out _ _ ⟨z4,z5,y0,y1,y2,_,y4,y5,_,_,y8,z15,z16,z17,z18,z19,z20,z21,z22,z23,z24,z25,z26,z27,z28,z29,z30,z31,z32,z33,z34,rfl,⟨C.bel,C.kp,C.tb,C.rz,C.ua,(fun h=>by have h2:=(C.ph h).1;rw[hdi] at h2;cases h2),C.f0,C.f1,(fun h=>absurd h (by decide)),C.f2,C.f3,C.g3,C.f4,C.f5,C.f6,(fun _=>hnew),C.f8,(fun h=>⟨or_t (C.ph h).1,or_t (C.ph h).2.1,or_t (C.ph h).2.2⟩)⟩⟩
  | 8,_ =>
   obtain rfl:=(Option.some.inj ho)
   clear haft ho
   have C:=hide C
   go_wp2
   have C:=C.out
   exact HK.out _ _ ⟨z4,z5,y0,y1,y2,y3,y4,y5,y6,y7,_,z15,z16,z17,z18,z19,z20,z21,z22,z23,z24,z25,z26,z27,z28,z29,z30,z31,z32,z33,z34,rfl,⟨C.bel,C.kp,C.tb,C.rz,C.ua,C.ub,C.f0,C.f1,(fun h=>absurd h (by decide)),C.f2,C.f3,C.g3,C.f4,C.f5,C.f6,(fun h=>⟨or_t (C.f7 h).1,(C.f7 h).2⟩),(fun _=>rfl),(fun h=>⟨or_t (C.ph h).1,or_t (C.ph h).2.1,or_t (C.ph h).2.2⟩)⟩⟩
  | 9,_ =>
   obtain rfl:=(Option.some.inj ho)
   have g8:d 8=true:=haft ⟨8,.data⟩ (by simp) rfl
   have g7:d 7=true:=haft ⟨7,.data⟩ (by simp) rfl
   have g3:d 3=true:=haft ⟨3,.phase⟩ (by simp) rfl
   have g1:d 1=true:=haft ⟨1,.phase⟩ (by simp) rfl
   clear haft ho
   have e1:=C.f8 g8
   obtain⟨-,g,cap,e2,e3⟩:=C.f7 g7
   subst e1 e2 e3
   have hQ:W.heap.size≠u/\W.heap.size+1≠u/\W.heap.size<=u:=HQ.out
   obtain⟨q0,q1,q2,q3⟩:=facts4 (C.ua hdi)
   obtain⟨s0,s1,s2,s3⟩:=free4 (C.ua hdi)
   have C:=hide C
   go_wp2
   have C:=C.out
   have h4:=(C.ua hdi).set 0 (.slice (some ⟨g,0,none⟩) nl cap)
   have hk:=Kp.set (C.ua hdi) (List.mem_singleton.2 rfl) 0 (.slice (some ⟨g,0,none⟩) nl cap)
   have ht:=C.tb.other (p:=⟨u,0,none⟩) hQ.1 (.slice (some ⟨g,0,none⟩) nl cap)
   have hz:=C.rz.other (p:=⟨u,0,none⟩) hQ.2.1 (.slice (some ⟨g,0,none⟩) nl cap)
   have hb:=C.bel.setCell (p:=⟨u,0,none⟩) hQ.2.2 (.slice (some ⟨g,0,none⟩) nl cap)
   exact HK.out _ _ ⟨z4,z5,y0,y1,y2,_,y4,y5,y6,_,_,z15,z16,z17,z18,z19,z20,z21,z22,z23,z24,z25,z26,z27,z28,z29,z30,z31,z32,z33,z34,rfl,⟨hb,(C.kp.trans (hk.mono (by decide))),ht,hz,(fun h=>by cases h),(fun _=>h4),C.f0,C.f1,(fun h=>absurd h (by decide)),(fun h h2=>by obtain⟨g,h3,h4⟩:=C.f2 h h2;exact⟨g,h3,h4.kp hk (by decide)⟩),(fun h=>owns_kp (C.f3 h) hk (by decide)),(fun h=>by obtain⟨g,cap,h3,h4⟩:=C.g3 h;exact⟨g,cap,h3,owns_kp h4 hk (by decide)⟩),C.f4,C.f5,C.f6,(fun h=>⟨or_t (C.f7 h).1,(C.f7 h).2⟩),C.f8,(fun _=>⟨or_t g7,or_t g3,or_t g1⟩)⟩⟩
 rintro d a V3 ⟨z4,z5,y0,y1,y2,y3,y4,y5,y6,y7,y8,z15,z16,z17,z18,z19,z20,z21,z22,z23,z24,z25,z26,z27,z28,z29,z30,z31,z32,z33,z34,rfl,C⟩ hall
 clear HUr HTr HZr HBr HOr
 have D:∀ i,i < 10->d i=true:=hall
 obtain⟨-,g1,k1,e1,e2⟩:=C.f7 (D 7 (by omega))
 obtain⟨g',k',e3,hO⟩:=C.g3 (D 3 (by omega))
 subst e1 e2
 obtain⟨rfl,rfl⟩:g1=g'/\k1=k':=by cases e3;exact⟨rfl,rfl⟩
 have HUr:=hide (show HasC V3 u 28 #[.slice (some ⟨g1,0,none⟩) nl k1,.slice A2 bl c2,.slice A3 dl c3,.int .i64 root] from C.ub (D 9 (by omega)))
 have HTr:=hide C.tb
 have HZr:=hide C.rz
 have HBr:=hide C.bel
 have HRM2:=hide (show RmR V3 W.heap.size 9 1 (.slice (some ⟨g1,0,none⟩) nl k1) nl ((tx64 NM)++[.string (sB spareT)]) from⟨_,_,rfl,hO⟩)
 have hkr:=C.kp
 clear e3 hO D hall
 have HOr:=hide (owns_kp HOb.out hkr (by decide))
 have HOd2:=hide (owns_kp HOd.out hkr (by decide))
 clear C hkr HOb HOd d
 go_wp2
 refine wp_region_flags mixedC (ord_of (by kernel_rfl)) (fun d a w=>∃ z4 z5 z6 z7 z8 z9 z10 z11 z12 z13 z14 y0 y1 y2 y3 y4 y5 y6 y7 y8 z24 z25 z26 z27 z28 z29 z30 z31 z32 z33 z34,a=⟨#[.agg #[.slice na nl nc,.slice ba bl bc,.slice da dl dc,.int .i64 root],.pointer (some ⟨W.heap.size,0,none⟩),.pointer (some ⟨W.heap.size+1,0,none⟩),.pointer (some ⟨u,0,none⟩),z4,z5,z6,z7,z8,z9,z10,z11,z12,z13,z14,y0,y1,y2,y3,y4,y5,y6,y7,y8,z24,z25,z26,z27,z28,z29,z30,z31,z32,z33,z34],[]⟩/\Rg W V3 W.heap.size (W.heap.size+1) u 3 1 1 #[.slice na nl nc,.slice ba bl bc,.slice da dl dc,.int .i64 root] #[.slice (some ⟨g1,0,none⟩) nl k1,.slice A2 bl c2,.slice A3 dl c3,.int .i64 root] (.slice ba bl bc) (.slice A2 bl c2) bl (in64 BS) [.int .i64 7777] 0 d y0 y1 (.bool false) y2 y3 y4 y5 y6 y7 y8 w) ?_ ?_ ?_
 ·refine⟨_,_,_,_,_,_,_,_,_,_,_,_,_,_,_,_,_,_,_,_,_,_,_,_,_,_,_,_,_,_,_,rfl,⟨HBr.out.os,HBr.out.tape,HBr.out.output,HBr.out.size,HBr.out.block⟩,⟨Nat.le_refl _,fun _ _ _ _ h _=>h⟩,HTr.out,HZr.out,fun _=>HUr.out,?_,?_,?_,?_,?_,fun _=>HOr.out,?_,?_,?_,?_,?_,?_,?_⟩
  all_goals first|(intro h;cases h;done)|(intro _ h;cases h;done)
 ·rintro d a w i o ⟨z4,z5,z6,z7,z8,z9,z10,z11,z12,z13,z14,y0,y1,y2,y3,y4,y5,y6,y7,y8,z24,z25,z26,z27,z28,z29,z30,z31,z32,z33,z34,rfl,C⟩ hdi ho haft Q' hk'
  have HK:=hide hk'
  clear hk'
  clear HBr HTr HZr HUr HOr
  have hi:i < 10:=(Array.getElem?_eq_some_iff.1 ho).1
  match i,hi with
  | 0,_ =>
   obtain rfl:=(Option.some.inj ho)
   clear haft ho
   have C:=hide C
   go_wp2
   have C:=C.out
   exact HK.out _ _ ⟨z4,z5,z6,z7,z8,z9,z10,z11,z12,z13,z14,_,y1,y2,y3,y4,y5,y6,y7,y8,z24,z25,z26,z27,z28,z29,z30,z31,z32,z33,z34,rfl,⟨C.bel,C.kp,C.tb,C.rz,C.ua,C.ub,(fun _=>rfl),C.f1,(fun h=>absurd h (by decide)),C.f2,C.f3,C.g3,C.f4,C.f5,C.f6,(fun h=>⟨or_t (C.f7 h).1,(C.f7 h).2⟩),C.f8,(fun h=>⟨or_t (C.ph h).1,or_t (C.ph h).2.1,or_t (C.ph h).2.2⟩)⟩⟩
  | 1,_ =>
   obtain rfl:=(Option.some.inj ho)
   have g0:d 0=true:=haft ⟨0,.data⟩ (by simp) rfl
   clear haft ho
   have e1:=C.f0 g0
   subst e1
   have h9:d 9=false:=by
    cases h9:d 9 with
    | false=>rfl
    | true=>have h2:=(C.ph h9).2.2;rw[hdi] at h2;cases h2
   obtain⟨q0,q1,q2,q3⟩:=facts4 (C.ua h9)
   have C:=hide C
   go_wp2
   have C:=C.out
   exact HK.out _ _ ⟨z4,z5,z6,z7,z8,z9,z10,z11,z12,z13,z14,_,_,y2,y3,y4,y5,y6,y7,y8,z24,z25,z26,z27,z28,z29,z30,z31,z32,z33,z34,rfl,⟨C.bel,C.kp,C.tb,C.rz,C.ua,C.ub,C.f0,(fun _=>rfl),(fun h=>absurd h (by decide)),C.f2,C.f3,C.g3,C.f4,C.f5,C.f6,(fun h=>⟨or_t (C.f7 h).1,(C.f7 h).2⟩),C.f8,(fun h=>⟨or_t (C.ph h).1,or_t (C.ph h).2.1,or_t (C.ph h).2.2⟩)⟩⟩
  | 2,_ =>
   obtain rfl:=(Option.some.inj ho)
   clear haft ho
   have C:=hide C
   go_wp2
   have C:=C.out
   have hk:Kp [] w (w.alloc (.cells #[.int .i64 7777] 3)):=Kp.of_below [] (bel1 w _)
   have hb:Below W.heap.size W (w.alloc (.cells #[.int .i64 7777] 3)):=C.bel.alloc C.bel.size _
   have hnew:∃ g,Value.slice (some ⟨w.heap.size,0,none⟩) 1 1=.slice (some ⟨g,0,none⟩) 1 1/\HasC (w.alloc (.cells #[.int .i64 7777] 3)) g 3 ([.int .i64 7777]:List Value).toArray:=⟨_,rfl,HasC.new w 3 _⟩
   exact HK.out _ _ ⟨z4,z5,z6,z7,z8,z9,z10,z11,z12,z13,z14,y0,y1,_,y3,y4,y5,y6,y7,y8,z24,z25,z26,z27,z28,z29,z30,z31,z32,z33,z34,rfl,⟨hb,(C.kp.trans (hk.mono (by decide))),(C.tb.kp hk (by decide)),(C.rz.kp hk (by decide)),(fun h=>(C.ua h).kp hk (by decide)),(fun h=>(C.ub h).kp hk (by decide)),C.f0,C.f1,(fun h=>absurd h (by decide)),(fun _ _=>hnew),(fun h=>owns_kp (C.f3 h) hk (by decide)),(fun h=>by obtain⟨g,cap,h3,h4⟩:=C.g3 h;exact⟨g,cap,h3,owns_kp h4 hk (by decide)⟩),C.f4,C.f5,C.f6,(fun h=>⟨or_t (C.f7 h).1,(C.f7 h).2⟩),C.f8,(fun h=>⟨or_t (C.ph h).1,or_t (C.ph h).2.1,or_t (C.ph h).2.2⟩)⟩⟩
  | 3,_ =>
   obtain rfl:=(Option.some.inj ho)
   have g1:d 1=true:=haft ⟨1,.data⟩ (by simp) rfl
   have g2:d 2=true:=haft ⟨2,.data⟩ (by simp) rfl
   clear haft ho
   have e1:=C.f1 g1
   subst e1
   obtain⟨g,e2,hc⟩:=C.f2 g2 hdi
   subst e2
   have hO:=C.f3 hdi
   have hbd:=HS.out.2.1
   refine append_one w rfl (.tmp 16) (.tmp 17) 25 rfl W.heap.size 3 _ _ 1 8 Tryz.underlying25 HI3.out.1 HI3.out.2.1 HI3.out.2.2.1 HI3.out.2.2.2 rfl (by omega) _ bl (in64 BS) rfl hO g ([.int .i64 7777]:List Value).toArray rfl rfl hc (by simp[Value.oneCell']) (by unfold maxLen;omega) (by omega) C.bel.size ?_
   intro gg cap w' hown hgrow
   have hnew:∃ g cap',Value.slice (some ⟨gg,0,none⟩) (bl+1) cap=.slice (some ⟨g,0,none⟩) (bl+1) cap'/\w'.ownsRow W.heap.size 3 1 (.slice (some ⟨g,0,none⟩) (bl+1) cap') (bl+1) ((in64 BS)++[.int .i64 7777]):=⟨gg,cap,rfl,hown⟩
   have hk:Kp [3] w w':=Kp.grown hgrow fun k hk=>by
    obtain⟨_,cs,fr,hb⟩:=owns_block hO k hk
    exact⟨cs,_,fr,hb,by simp⟩
   have hb:Below W.heap.size W w':=C.bel.grown hgrow C.bel.size fun k hk=>(owns_block hO k hk).1
   exact HK.out _ _ ⟨z4,z5,z6,z7,z8,z9,z10,z11,z12,z13,z14,y0,_,_,_,y4,y5,y6,y7,y8,z24,z25,z26,z27,z28,z29,z30,z31,z32,z33,z34,rfl,⟨hb,(C.kp.trans (hk.mono (by decide))),(C.tb.kp hk (by decide)),(C.rz.kp hk (by decide)),(fun h=>(C.ua h).kp hk (by decide)),(fun h=>(C.ub h).kp hk (by decide)),C.f0,C.f1,(fun h=>absurd h (by decide)),(fun _ h=>by cases h),(fun h=>by cases h),(fun _=>hnew),C.f4,C.f5,C.f6,(fun h=>by have h2:=(C.f7 h).1;rw[hdi] at h2;cases h2),C.f8,(fun h=>⟨or_t (C.ph h).1,or_t (C.ph h).2.1,or_t (C.ph h).2.2⟩)⟩⟩
  | 4,_ =>
   obtain rfl:=(Option.some.inj ho)
   clear haft ho
   have C:=hide C
   go_wp2
   have C:=C.out
   exact HK.out _ _ ⟨z4,z5,z6,z7,z8,z9,z10,z11,z12,z13,z14,y0,y1,y2,y3,_,y5,y6,y7,y8,z24,z25,z26,z27,z28,z29,z30,z31,z32,z33,z34,rfl,⟨C.bel,C.kp,C.tb,C.rz,C.ua,C.ub,C.f0,C.f1,(fun h=>absurd h (by decide)),C.f2,C.f3,C.g3,(fun _=>rfl),C.f5,C.f6,(fun h=>⟨or_t (C.f7 h).1,(C.f7 h).2⟩),C.f8,(fun h=>⟨or_t (C.ph h).1,or_t (C.ph h).2.1,or_t (C.ph h).2.2⟩)⟩⟩
  | 5,_ =>
   obtain rfl:=(Option.some.inj ho)
   have g4:d 4=true:=haft ⟨4,.data⟩ (by simp) rfl
   clear haft ho
   have e1:=C.f4 g4
   subst e1
   obtain⟨q0,q1,q2,q3⟩:=facts4 C.tb
   have C:=hide C
   go_wp2
   have C:=C.out
   exact HK.out _ _ ⟨z4,z5,z6,z7,z8,z9,z10,z11,z12,z13,z14,y0,y1,y2,y3,_,_,y6,y7,y8,z24,z25,z26,z27,z28,z29,z30,z31,z32,z33,z34,rfl,⟨C.bel,C.kp,C.tb,C.rz,C.ua,C.ub,C.f0,C.f1,(fun h=>absurd h (by decide)),C.f2,C.f3,C.g3,C.f4,(fun _=>rfl),C.f6,(fun h=>⟨or_t (C.f7 h).1,(C.f7 h).2⟩),C.f8,(fun h=>⟨or_t (C.ph h).1,or_t (C.ph h).2.1,or_t (C.ph h).2.2⟩)⟩⟩
  | 6,_ =>
   obtain rfl:=(Option.some.inj ho)
   have g5:d 5=true:=haft ⟨5,.data⟩ (by simp) rfl
   clear haft ho
   have e1:=C.f5 g5
   subst e1
   have C:=hide C
   go_wp2
   have C:=C.out
   exact HK.out _ _ ⟨z4,z5,z6,z7,z8,z9,z10,z11,z12,z13,z14,y0,y1,y2,y3,y4,_,_,y7,y8,z24,z25,z26,z27,z28,z29,z30,z31,z32,z33,z34,rfl,⟨C.bel,C.kp,C.tb,C.rz,C.ua,C.ub,C.f0,C.f1,(fun h=>absurd h (by decide)),C.f2,C.f3,C.g3,C.f4,C.f5,(fun _=>rfl),(fun h=>⟨or_t (C.f7 h).1,(C.f7 h).2⟩),C.f8,(fun h=>⟨or_t (C.ph h).1,or_t (C.ph h).2.1,or_t (C.ph h).2.2⟩)⟩⟩
  | 7,_ =>
   obtain rfl:=(Option.some.inj ho)
   have g3:d 3=true:=haft ⟨3,.data⟩ (by simp) rfl
   have g6:d 6=true:=haft ⟨6,.data⟩ (by simp) rfl
   clear haft ho
   obtain⟨g,cap,e1,hO⟩:=C.g3 g3
   have e2:=C.f6 g6
   subst e1 e2
   obtain⟨hc1,hc2⟩:=own_caps hO
   unfold maxLen at hc2
   have hc3:bl<=cap:=by omega
   clear hO
   have C:=hide C
   go_wp2
   have C:=C.out
   have hnew:(d 3=true)/\∃ g' cap',Value.slice (some ⟨g,0,none⟩) (bl+1) cap=.slice (some ⟨g',0,none⟩) (bl+1) cap'/\Value.slice (some ⟨g,0,none⟩) bl cap=.slice (some ⟨g',0,none⟩) bl cap':=⟨g3,g,cap,rfl,rfl⟩
   exact HK.out _ _ ⟨z4,z5,z6,z7,z8,z9,z10,z11,z12,z13,z14,y0,y1,y2,_,y4,y5,_,_,y8,z24,z25,z26,z27,z28,z29,z30,z31,z32,z33,z34,rfl,⟨C.bel,C.kp,C.tb,C.rz,C.ua,(fun h=>by have h2:=(C.ph h).1;rw[hdi] at h2;cases h2),C.f0,C.f1,(fun h=>absurd h (by decide)),C.f2,C.f3,C.g3,C.f4,C.f5,C.f6,(fun _=>hnew),C.f8,(fun h=>⟨or_t (C.ph h).1,or_t (C.ph h).2.1,or_t (C.ph h).2.2⟩)⟩⟩
  | 8,_ =>
   obtain rfl:=(Option.some.inj ho)
   clear haft ho
   have C:=hide C
   go_wp2
   have C:=C.out
   exact HK.out _ _ ⟨z4,z5,z6,z7,z8,z9,z10,z11,z12,z13,z14,y0,y1,y2,y3,y4,y5,y6,y7,_,z24,z25,z26,z27,z28,z29,z30,z31,z32,z33,z34,rfl,⟨C.bel,C.kp,C.tb,C.rz,C.ua,C.ub,C.f0,C.f1,(fun h=>absurd h (by decide)),C.f2,C.f3,C.g3,C.f4,C.f5,C.f6,(fun h=>⟨or_t (C.f7 h).1,(C.f7 h).2⟩),(fun _=>rfl),(fun h=>⟨or_t (C.ph h).1,or_t (C.ph h).2.1,or_t (C.ph h).2.2⟩)⟩⟩
  | 9,_ =>
   obtain rfl:=(Option.some.inj ho)
   have g8:d 8=true:=haft ⟨8,.data⟩ (by simp) rfl
   have g7:d 7=true:=haft ⟨7,.data⟩ (by simp) rfl
   have g3:d 3=true:=haft ⟨3,.phase⟩ (by simp) rfl
   have g1:d 1=true:=haft ⟨1,.phase⟩ (by simp) rfl
   clear haft ho
   have e1:=C.f8 g8
   obtain⟨-,g,cap,e2,e3⟩:=C.f7 g7
   subst e1 e2 e3
   have hQ:W.heap.size≠u/\W.heap.size+1≠u/\W.heap.size<=u:=HQ.out
   obtain⟨q0,q1,q2,q3⟩:=facts4 (C.ua hdi)
   obtain⟨s0,s1,s2,s3⟩:=free4 (C.ua hdi)
   have C:=hide C
   go_wp2
   have C:=C.out
   have h4:=(C.ua hdi).set 1 (.slice (some ⟨g,0,none⟩) bl cap)
   have hk:=Kp.set (C.ua hdi) (List.mem_singleton.2 rfl) 1 (.slice (some ⟨g,0,none⟩) bl cap)
   have ht:=C.tb.other (p:=⟨u,1,none⟩) hQ.1 (.slice (some ⟨g,0,none⟩) bl cap)
   have hz:=C.rz.other (p:=⟨u,1,none⟩) hQ.2.1 (.slice (some ⟨g,0,none⟩) bl cap)
   have hb:=C.bel.setCell (p:=⟨u,1,none⟩) hQ.2.2 (.slice (some ⟨g,0,none⟩) bl cap)
   exact HK.out _ _ ⟨z4,z5,z6,z7,z8,z9,z10,z11,z12,z13,z14,y0,y1,y2,_,y4,y5,y6,_,_,z24,z25,z26,z27,z28,z29,z30,z31,z32,z33,z34,rfl,⟨hb,(C.kp.trans (hk.mono (by decide))),ht,hz,(fun h=>by cases h),(fun _=>h4),C.f0,C.f1,(fun h=>absurd h (by decide)),(fun h h2=>by obtain⟨g,h3,h4⟩:=C.f2 h h2;exact⟨g,h3,h4.kp hk (by decide)⟩),(fun h=>owns_kp (C.f3 h) hk (by decide)),(fun h=>by obtain⟨g,cap,h3,h4⟩:=C.g3 h;exact⟨g,cap,h3,owns_kp h4 hk (by decide)⟩),C.f4,C.f5,C.f6,(fun h=>⟨or_t (C.f7 h).1,(C.f7 h).2⟩),C.f8,(fun _=>⟨or_t g7,or_t g3,or_t g1⟩)⟩⟩
 rintro d a V4 ⟨z4,z5,z6,z7,z8,z9,z10,z11,z12,z13,z14,y0,y1,y2,y3,y4,y5,y6,y7,y8,z24,z25,z26,z27,z28,z29,z30,z31,z32,z33,z34,rfl,C⟩ hall
 clear HUr HTr HZr HBr HOr
 have D:∀ i,i < 10->d i=true:=hall
 obtain⟨-,g2,k2,e1,e2⟩:=C.f7 (D 7 (by omega))
 obtain⟨g',k',e3,hO⟩:=C.g3 (D 3 (by omega))
 subst e1 e2
 obtain⟨rfl,rfl⟩:g2=g'/\k2=k':=by cases e3;exact⟨rfl,rfl⟩
 have HUr:=hide (show HasC V4 u 28 #[.slice (some ⟨g1,0,none⟩) nl k1,.slice (some ⟨g2,0,none⟩) bl k2,.slice A3 dl c3,.int .i64 root] from C.ub (D 9 (by omega)))
 have HTr:=hide C.tb
 have HZr:=hide C.rz
 have HBr:=hide C.bel
 have HRM3:=hide (show RmR V4 W.heap.size 3 1 (.slice (some ⟨g2,0,none⟩) bl k2) bl ((in64 BS)++[.int .i64 7777]) from⟨_,_,rfl,hO⟩)
 have hkr:=C.kp
 clear e3 hO D hall
 have HRM2b:=hide (HRM2.out.kp hkr (by decide))
 have HOr:=hide (owns_kp HOd2.out hkr (by decide))
 clear C hkr HOd2 HRM2 d
 go_wp2
 refine wp_region_flags mixedC (ord_of (by kernel_rfl)) (fun d a w=>∃ z4 z5 z6 z7 z8 z9 z10 z11 z12 z13 z14 z15 z16 z17 z18 z19 z20 z21 z22 z23 y0 y1 yb y2 y3 y4 y5 y6 y7 y8 z34,a=⟨#[.agg #[.slice na nl nc,.slice ba bl bc,.slice da dl dc,.int .i64 root],.pointer (some ⟨W.heap.size,0,none⟩),.pointer (some ⟨W.heap.size+1,0,none⟩),.pointer (some ⟨u,0,none⟩),z4,z5,z6,z7,z8,z9,z10,z11,z12,z13,z14,z15,z16,z17,z18,z19,z20,z21,z22,z23,y0,y1,yb,y2,y3,y4,y5,y6,y7,y8,z34],[]⟩/\Rg W V4 W.heap.size (W.heap.size+1) u 65 9 2 #[.slice na nl nc,.slice ba bl bc,.slice da dl dc,.int .i64 root] #[.slice (some ⟨g1,0,none⟩) nl k1,.slice (some ⟨g2,0,none⟩) bl k2,.slice A3 dl c3,.int .i64 root] (.slice da dl dc) (.slice A3 dl c3) dl (nd64 NS) (nd9 spareN) 1 d y0 y1 yb y2 y3 y4 y5 y6 y7 y8 w) ?_ ?_ ?_
 ·refine⟨_,_,_,_,_,_,_,_,_,_,_,_,_,_,_,_,_,_,_,_,_,_,_,_,_,_,_,_,_,_,_,rfl,⟨HBr.out.os,HBr.out.tape,HBr.out.output,HBr.out.size,HBr.out.block⟩,⟨Nat.le_refl _,fun _ _ _ _ h _=>h⟩,HTr.out,HZr.out,fun _=>HUr.out,?_,?_,?_,?_,?_,fun _=>HOr.out,?_,?_,?_,?_,?_,?_,?_⟩
  all_goals first|(intro h;cases h;done)|(intro _ h;cases h;done)
 ·rintro d a w i o ⟨z4,z5,z6,z7,z8,z9,z10,z11,z12,z13,z14,z15,z16,z17,z18,z19,z20,z21,z22,z23,y0,y1,yb,y2,y3,y4,y5,y6,y7,y8,z34,rfl,C⟩ hdi ho haft Q' hk'
  have HK:=hide hk'
  clear hk'
  clear HBr HTr HZr HUr HOr
  have hi:i < 11:=(Array.getElem?_eq_some_iff.1 ho).1
  match i,hi with
  | 0,_ =>
   obtain rfl:=(Option.some.inj ho)
   clear haft ho
   have C:=hide C
   go_wp2
   have C:=C.out
   exact HK.out _ _ ⟨z4,z5,z6,z7,z8,z9,z10,z11,z12,z13,z14,z15,z16,z17,z18,z19,z20,z21,z22,z23,_,y1,yb,y2,y3,y4,y5,y6,y7,y8,z34,rfl,⟨C.bel,C.kp,C.tb,C.rz,C.ua,C.ub,(fun _=>rfl),C.f1,C.fb,C.f2,C.f3,C.g3,C.f4,C.f5,C.f6,(fun h=>⟨or_t (C.f7 h).1,(C.f7 h).2⟩),C.f8,(fun h=>⟨or_t (C.ph h).1,or_t (C.ph h).2.1,or_t (C.ph h).2.2⟩)⟩⟩
  | 1,_ =>
   obtain rfl:=(Option.some.inj ho)
   have g0:d 0=true:=haft ⟨0,.data⟩ (by simp) rfl
   clear haft ho
   have e1:=C.f0 g0
   subst e1
   have h9:d 10=false:=by
    cases h9:d 10 with
    | false=>rfl
    | true=>have h2:=(C.ph h9).2.2;rw[hdi] at h2;cases h2
   obtain⟨q0,q1,q2,q3⟩:=facts4 (C.ua h9)
   have C:=hide C
   go_wp2
   have C:=C.out
   exact HK.out _ _ ⟨z4,z5,z6,z7,z8,z9,z10,z11,z12,z13,z14,z15,z16,z17,z18,z19,z20,z21,z22,z23,_,_,yb,y2,y3,y4,y5,y6,y7,y8,z34,rfl,⟨C.bel,C.kp,C.tb,C.rz,C.ua,C.ub,C.f0,(fun _=>rfl),C.fb,C.f2,C.f3,C.g3,C.f4,C.f5,C.f6,(fun h=>⟨or_t (C.f7 h).1,(C.f7 h).2⟩),C.f8,(fun h=>⟨or_t (C.ph h).1,or_t (C.ph h).2.1,or_t (C.ph h).2.2⟩)⟩⟩
  | 2,_ =>
   obtain rfl:=(Option.some.inj ho)
   clear haft ho
   have C:=hide C
   go_wp2
   have C:=C.out
   exact HK.out _ _ ⟨z4,z5,z6,z7,z8,z9,z10,z11,z12,z13,z14,z15,z16,z17,z18,z19,z20,z21,z22,z23,y0,y1,_,y2,y3,y4,y5,y6,y7,y8,z34,rfl,⟨C.bel,C.kp,C.tb,C.rz,C.ua,C.ub,C.f0,C.f1,(fun _ _=>rfl),C.f2,C.f3,C.g3,C.f4,C.f5,C.f6,(fun h=>⟨or_t (C.f7 h).1,(C.f7 h).2⟩),C.f8,(fun h=>⟨or_t (C.ph h).1,or_t (C.ph h).2.1,or_t (C.ph h).2.2⟩)⟩⟩
  | 3,_ =>
   obtain rfl:=(Option.some.inj ho)
   have gb:d 2=true:=haft ⟨2,.data⟩ (by simp) rfl
   clear haft ho
   have e1:=C.fb rfl gb
   subst e1
   have C:=hide C
   go_wp2
   have C:=C.out
   have hk:Kp [] w (w.alloc (.cells (nd9 spareN).toArray 65)):=Kp.of_below [] (bel1 w _)
   have hb:Below W.heap.size W (w.alloc (.cells (nd9 spareN).toArray 65)):=C.bel.alloc C.bel.size _
   have hnew:∃ g,Value.slice (some ⟨w.heap.size,0,none⟩) 1 1=.slice (some ⟨g,0,none⟩) 1 1/\HasC (w.alloc (.cells (nd9 spareN).toArray 65)) g 65 ((nd9 spareN):List Value).toArray:=⟨_,rfl,HasC.new w 65 _⟩
   exact HK.out _ _ ⟨z4,z5,z6,z7,z8,z9,z10,z11,z12,z13,z14,z15,z16,z17,z18,z19,z20,z21,z22,z23,y0,y1,_,_,y3,y4,y5,y6,y7,y8,z34,rfl,⟨hb,(C.kp.trans (hk.mono (by decide))),(C.tb.kp hk (by decide)),(C.rz.kp hk (by decide)),(fun h=>(C.ua h).kp hk (by decide)),(fun h=>(C.ub h).kp hk (by decide)),C.f0,C.f1,C.fb,(fun _ _=>hnew),(fun h=>owns_kp (C.f3 h) hk (by decide)),(fun h=>by obtain⟨g,cap,h3,h4⟩:=C.g3 h;exact⟨g,cap,h3,owns_kp h4 hk (by decide)⟩),C.f4,C.f5,C.f6,(fun h=>⟨or_t (C.f7 h).1,(C.f7 h).2⟩),C.f8,(fun h=>⟨or_t (C.ph h).1,or_t (C.ph h).2.1,or_t (C.ph h).2.2⟩)⟩⟩
  | 4,_ =>
   obtain rfl:=(Option.some.inj ho)
   have g1:d 1=true:=haft ⟨1,.data⟩ (by simp) rfl
   have g2:d 3=true:=haft ⟨3,.data⟩ (by simp) rfl
   clear haft ho
   have e1:=C.f1 g1
   subst e1
   obtain⟨g,e2,hc⟩:=C.f2 g2 hdi
   subst e2
   have hO:=C.f3 hdi
   have hbd:=HS.out.2.2
   refine append_one w rfl (.tmp 25) (.tmp 27) 26 rfl W.heap.size 65 _ _ 9 72 Tryz.underlying26 HIN.out.1 HIN.out.2.1 HIN.out.2.2.1 HIN.out.2.2.2 rfl (by omega) _ dl (nd64 NS) rfl hO g ((nd9 spareN):List Value).toArray rfl rfl hc (by simp[nd9,Value.oneCell']) (by unfold maxLen;omega) (by omega) C.bel.size ?_
   intro gg cap w' hown hgrow
   have hnew:∃ g cap',Value.slice (some ⟨gg,0,none⟩) (dl+1) cap=.slice (some ⟨g,0,none⟩) (dl+1) cap'/\w'.ownsRow W.heap.size 65 9 (.slice (some ⟨g,0,none⟩) (dl+1) cap') (dl+1) ((nd64 NS)++(nd9 spareN)):=⟨gg,cap,rfl,hown⟩
   have hk:Kp [65] w w':=Kp.grown hgrow fun k hk=>by
    obtain⟨_,cs,fr,hb⟩:=owns_block hO k hk
    exact⟨cs,_,fr,hb,by simp⟩
   have hb:Below W.heap.size W w':=C.bel.grown hgrow C.bel.size fun k hk=>(owns_block hO k hk).1
   exact HK.out _ _ ⟨z4,z5,z6,z7,z8,z9,z10,z11,z12,z13,z14,z15,z16,z17,z18,z19,z20,z21,z22,z23,y0,_,yb,_,_,y4,y5,y6,y7,y8,z34,rfl,⟨hb,(C.kp.trans (hk.mono (by decide))),(C.tb.kp hk (by decide)),(C.rz.kp hk (by decide)),(fun h=>(C.ua h).kp hk (by decide)),(fun h=>(C.ub h).kp hk (by decide)),C.f0,C.f1,C.fb,(fun _ h=>by cases h),(fun h=>by cases h),(fun _=>hnew),C.f4,C.f5,C.f6,(fun h=>by have h2:=(C.f7 h).1;rw[hdi] at h2;cases h2),C.f8,(fun h=>⟨or_t (C.ph h).1,or_t (C.ph h).2.1,or_t (C.ph h).2.2⟩)⟩⟩
  | 5,_ =>
   obtain rfl:=(Option.some.inj ho)
   clear haft ho
   have C:=hide C
   go_wp2
   have C:=C.out
   exact HK.out _ _ ⟨z4,z5,z6,z7,z8,z9,z10,z11,z12,z13,z14,z15,z16,z17,z18,z19,z20,z21,z22,z23,y0,y1,yb,y2,y3,_,y5,y6,y7,y8,z34,rfl,⟨C.bel,C.kp,C.tb,C.rz,C.ua,C.ub,C.f0,C.f1,C.fb,C.f2,C.f3,C.g3,(fun _=>rfl),C.f5,C.f6,(fun h=>⟨or_t (C.f7 h).1,(C.f7 h).2⟩),C.f8,(fun h=>⟨or_t (C.ph h).1,or_t (C.ph h).2.1,or_t (C.ph h).2.2⟩)⟩⟩
  | 6,_ =>
   obtain rfl:=(Option.some.inj ho)
   have g4:d 5=true:=haft ⟨5,.data⟩ (by simp) rfl
   clear haft ho
   have e1:=C.f4 g4
   subst e1
   obtain⟨q0,q1,q2,q3⟩:=facts4 C.tb
   have C:=hide C
   go_wp2
   have C:=C.out
   exact HK.out _ _ ⟨z4,z5,z6,z7,z8,z9,z10,z11,z12,z13,z14,z15,z16,z17,z18,z19,z20,z21,z22,z23,y0,y1,yb,y2,y3,_,_,y6,y7,y8,z34,rfl,⟨C.bel,C.kp,C.tb,C.rz,C.ua,C.ub,C.f0,C.f1,C.fb,C.f2,C.f3,C.g3,C.f4,(fun _=>rfl),C.f6,(fun h=>⟨or_t (C.f7 h).1,(C.f7 h).2⟩),C.f8,(fun h=>⟨or_t (C.ph h).1,or_t (C.ph h).2.1,or_t (C.ph h).2.2⟩)⟩⟩
  | 7,_ =>
   obtain rfl:=(Option.some.inj ho)
   have g5:d 6=true:=haft ⟨6,.data⟩ (by simp) rfl
   clear haft ho
   have e1:=C.f5 g5
   subst e1
   have C:=hide C
   go_wp2
   have C:=C.out
   exact HK.out _ _ ⟨z4,z5,z6,z7,z8,z9,z10,z11,z12,z13,z14,z15,z16,z17,z18,z19,z20,z21,z22,z23,y0,y1,yb,y2,y3,y4,_,_,y7,y8,z34,rfl,⟨C.bel,C.kp,C.tb,C.rz,C.ua,C.ub,C.f0,C.f1,C.fb,C.f2,C.f3,C.g3,C.f4,C.f5,(fun _=>rfl),(fun h=>⟨or_t (C.f7 h).1,(C.f7 h).2⟩),C.f8,(fun h=>⟨or_t (C.ph h).1,or_t (C.ph h).2.1,or_t (C.ph h).2.2⟩)⟩⟩
  | 8,_ =>
   obtain rfl:=(Option.some.inj ho)
   have g3:d 4=true:=haft ⟨4,.data⟩ (by simp) rfl
   have g6:d 7=true:=haft ⟨7,.data⟩ (by simp) rfl
   clear haft ho
   obtain⟨g,cap,e1,hO⟩:=C.g3 g3
   have e2:=C.f6 g6
   subst e1 e2
   obtain⟨hc1,hc2⟩:=own_caps hO
   unfold maxLen at hc2
   have hc3:dl<=cap:=by omega
   clear hO
   have C:=hide C
   go_wp2
   have C:=C.out
   have hnew:(d 4=true)/\∃ g' cap',Value.slice (some ⟨g,0,none⟩) (dl+1) cap=.slice (some ⟨g',0,none⟩) (dl+1) cap'/\Value.slice (some ⟨g,0,none⟩) dl cap=.slice (some ⟨g',0,none⟩) dl cap':=⟨g3,g,cap,rfl,rfl⟩
   exact HK.out _ _ ⟨z4,z5,z6,z7,z8,z9,z10,z11,z12,z13,z14,z15,z16,z17,z18,z19,z20,z21,z22,z23,y0,y1,yb,y2,_,y4,y5,_,_,y8,z34,rfl,⟨C.bel,C.kp,C.tb,C.rz,C.ua,(fun h=>by have h2:=(C.ph h).1;rw[hdi] at h2;cases h2),C.f0,C.f1,C.fb,C.f2,C.f3,C.g3,C.f4,C.f5,C.f6,(fun _=>hnew),C.f8,(fun h=>⟨or_t (C.ph h).1,or_t (C.ph h).2.1,or_t (C.ph h).2.2⟩)⟩⟩
  | 9,_ =>
   obtain rfl:=(Option.some.inj ho)
   clear haft ho
   have C:=hide C
   go_wp2
   have C:=C.out
   exact HK.out _ _ ⟨z4,z5,z6,z7,z8,z9,z10,z11,z12,z13,z14,z15,z16,z17,z18,z19,z20,z21,z22,z23,y0,y1,yb,y2,y3,y4,y5,y6,y7,_,z34,rfl,⟨C.bel,C.kp,C.tb,C.rz,C.ua,C.ub,C.f0,C.f1,C.fb,C.f2,C.f3,C.g3,C.f4,C.f5,C.f6,(fun h=>⟨or_t (C.f7 h).1,(C.f7 h).2⟩),(fun _=>rfl),(fun h=>⟨or_t (C.ph h).1,or_t (C.ph h).2.1,or_t (C.ph h).2.2⟩)⟩⟩
  | 10,_ =>
   obtain rfl:=(Option.some.inj ho)
   have g8:d 9=true:=haft ⟨9,.data⟩ (by simp) rfl
   have g7:d 8=true:=haft ⟨8,.data⟩ (by simp) rfl
   have g3:d 4=true:=haft ⟨4,.phase⟩ (by simp) rfl
   have g1:d 1=true:=haft ⟨1,.phase⟩ (by simp) rfl
   clear haft ho
   have e1:=C.f8 g8
   obtain⟨-,g,cap,e2,e3⟩:=C.f7 g7
   subst e1 e2 e3
   have hQ:W.heap.size≠u/\W.heap.size+1≠u/\W.heap.size<=u:=HQ.out
   obtain⟨q0,q1,q2,q3⟩:=facts4 (C.ua hdi)
   obtain⟨s0,s1,s2,s3⟩:=free4 (C.ua hdi)
   have C:=hide C
   go_wp2
   have C:=C.out
   have h4:=(C.ua hdi).set 2 (.slice (some ⟨g,0,none⟩) dl cap)
   have hk:=Kp.set (C.ua hdi) (List.mem_singleton.2 rfl) 2 (.slice (some ⟨g,0,none⟩) dl cap)
   have ht:=C.tb.other (p:=⟨u,2,none⟩) hQ.1 (.slice (some ⟨g,0,none⟩) dl cap)
   have hz:=C.rz.other (p:=⟨u,2,none⟩) hQ.2.1 (.slice (some ⟨g,0,none⟩) dl cap)
   have hb:=C.bel.setCell (p:=⟨u,2,none⟩) hQ.2.2 (.slice (some ⟨g,0,none⟩) dl cap)
   exact HK.out _ _ ⟨z4,z5,z6,z7,z8,z9,z10,z11,z12,z13,z14,z15,z16,z17,z18,z19,z20,z21,z22,z23,y0,y1,yb,y2,_,y4,y5,y6,_,_,z34,rfl,⟨hb,(C.kp.trans (hk.mono (by decide))),ht,hz,(fun h=>by cases h),(fun _=>h4),C.f0,C.f1,C.fb,(fun h h2=>by obtain⟨g,h3,h4⟩:=C.f2 h h2;exact⟨g,h3,h4.kp hk (by decide)⟩),(fun h=>owns_kp (C.f3 h) hk (by decide)),(fun h=>by obtain⟨g,cap,h3,h4⟩:=C.g3 h;exact⟨g,cap,h3,owns_kp h4 hk (by decide)⟩),C.f4,C.f5,C.f6,(fun h=>⟨or_t (C.f7 h).1,(C.f7 h).2⟩),C.f8,(fun _=>⟨or_t g7,or_t g3,or_t g1⟩)⟩⟩
 rintro d a V5 ⟨z4,z5,z6,z7,z8,z9,z10,z11,z12,z13,z14,z15,z16,z17,z18,z19,z20,z21,z22,z23,y0,y1,yb,y2,y3,y4,y5,y6,y7,y8,z34,rfl,C⟩ hall
 clear HUr HTr HZr HBr HOr
 have D:∀ i,i < 11->d i=true:=hall
 obtain⟨-,g3,k3,e1,e2⟩:=C.f7 (D 8 (by omega))
 obtain⟨g',k',e3,hO⟩:=C.g3 (D 4 (by omega))
 subst e1 e2
 obtain⟨rfl,rfl⟩:g3=g'/\k3=k':=by cases e3;exact⟨rfl,rfl⟩
 have HUr:=hide (show HasC V5 u 28 #[.slice (some ⟨g1,0,none⟩) nl k1,.slice (some ⟨g2,0,none⟩) bl k2,.slice (some ⟨g3,0,none⟩) dl k3,.int .i64 root] from C.ub (D 10 (by omega)))
 have HTr:=hide C.tb
 have HZr:=hide C.rz
 have HBr:=hide C.bel
 have HRM4:=hide (show RmR V5 W.heap.size 65 9 (.slice (some ⟨g3,0,none⟩) dl k3) dl ((nd64 NS)++(nd9 spareN)) from⟨_,_,rfl,hO⟩)
 have hkr:=C.kp
 clear e3 hO D hall
 have HRM2c:=hide (HRM2b.out.kp hkr (by decide))
 have HRM3c:=hide (HRM3.out.kp hkr (by decide))
 clear C hkr HRM2b HRM3 d
 obtain⟨q0,q1,q2,q3⟩:=facts4 HUr.out
 obtain⟨r0,r1,r2,r3⟩:=facts4 HZr.out
 obtain⟨s0,s1,s2,s3⟩:=free4 HZr.out
 go_wp2
 have h4:=(((HZr.out.set 0 (.slice (some ⟨g1,0,none⟩) nl k1)).set 1 (.slice (some ⟨g2,0,none⟩) bl k2)).set 2 (.slice (some ⟨g3,0,none⟩) dl k3)).set 3 (.int .i64 root)
 have hk:=((Kp.set HZr.out (List.mem_singleton.2 rfl) 0 (.slice (some ⟨g1,0,none⟩) nl k1)).trans (Kp.set (HZr.out.set 0 (.slice (some ⟨g1,0,none⟩) nl k1)) (List.mem_singleton.2 rfl) 1 (.slice (some ⟨g2,0,none⟩) bl k2))).trans ((Kp.set ((HZr.out.set 0 (.slice (some ⟨g1,0,none⟩) nl k1)).set 1 (.slice (some ⟨g2,0,none⟩) bl k2)) (List.mem_singleton.2 rfl) 2 (.slice (some ⟨g3,0,none⟩) dl k3)).trans (Kp.set (((HZr.out.set 0 (.slice (some ⟨g1,0,none⟩) nl k1)).set 1 (.slice (some ⟨g2,0,none⟩) bl k2)).set 2 (.slice (some ⟨g3,0,none⟩) dl k3)) (List.mem_singleton.2 rfl) 3 (.int .i64 root)))
 have hb:=(((HBr.out.setCell (p:=⟨W.heap.size+1,0,none⟩) (by simp) (.slice (some ⟨g1,0,none⟩) nl k1)).setCell (p:=⟨W.heap.size+1,1,none⟩) (by simp) (.slice (some ⟨g2,0,none⟩) bl k2)).setCell (p:=⟨W.heap.size+1,2,none⟩) (by simp) (.slice (some ⟨g3,0,none⟩) dl k3)).setCell (p:=⟨W.heap.size+1,3,none⟩) (by simp) (.int .i64 root)
 exact bodyPost_ret (res_roomy h4 rfl) rfl ⟨_,_,_,rfl,HRM2c.out.kp hk (by decide),HRM3c.out.kp hk (by decide),HRM4.out.kp hk (by decide),hb⟩
end Go.Proofs.YtngnnijpdjhelaaGreat
