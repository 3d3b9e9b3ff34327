import Derived.Laws.CopyOwn
import Derived.Test.YticnbcfmbhjbgaaGreatDoorX08
set_option maxRecDepth 100000
set_option maxHeartbeats 32000000
set_option linter.unusedVariables false
namespace Go.Proofs.YticnbcfmbhjbgaaGreatDoor
section
open Go.RowKit Go.IntWalk Lx Pz
variable {A B:Nat} {a b c d:Value}
abbrev eY (a b c d:Value):Array Value:=#[a,b,c,d]
abbrev vH:Array Value:=#[.slice none 0 0,.slice none 0 0,.slice none 0 0,.i 0]
abbrev aCd (w:World)(A B:Nat):World:=((((w.setCell ⟨A,0,none⟩ (.slice none 0 0)).setCell ⟨A,1,none⟩ (.slice none 0 0)).setCell ⟨A,2,none⟩ (.slice none 0 0)).setCell ⟨A,3,none⟩ (.i 0)).setCell ⟨B,0,none⟩ (.i 10)
theorem wN (A B:Nat)(x:Value)(u:TypeId)(pv:Value)(older:List PanicEntry)(w:World)(hA:aB w A 50 vH)(hB:aB w B 28 #[x])(hne:A≠B) :
  CallsD Tryz.prog 52 #[.pointer (some ⟨A,0,none⟩),.pointer (some ⟨B,0,none⟩)] (.panicking ({ v:=.iface u pv,recovered:=false }::older)) w fun e u' w' =>
   e=.returned (.tuple #[])/\u'=.panicking ({ v:=.iface u pv,recovered:=true }::older)/\w'=aCd w A B:=by
 obtain⟨c0,c1,c2,c3⟩:=aX hA
 obtain⟨y0,y1,y2,y3⟩:=wC hA
 have cB:=hB.cell 0 rfl
 have yB:=hB.frozen 0
 have e1:=(hA.set 0 (.slice none 0 0)).cell 1 rfl
 have z1:=(hA.set 0 (.slice none 0 0)).frozen 1
 have e2:=((hA.set 0 (.slice none 0 0)).set 1 (.slice none 0 0)).cell 2 rfl
 have z2:=((hA.set 0 (.slice none 0 0)).set 1 (.slice none 0 0)).frozen 2
 have e3:=(((hA.set 0 (.slice none 0 0)).set 1 (.slice none 0 0)).set 2 (.slice none 0 0)).cell 3 rfl
 have z3:=(((hA.set 0 (.slice none 0 0)).set 1 (.slice none 0 0)).set 2 (.slice none 0 0)).frozen 3
 have eB:=((((hB.other (p:=⟨A,0,none⟩) (Ne.symm hne) (.slice none 0 0)).other (p:=⟨A,1,none⟩) (Ne.symm hne) (.slice none 0 0)).other (p:=⟨A,2,none⟩) (Ne.symm hne) (.slice none 0 0)).other (p:=⟨A,3,none⟩) (Ne.symm hne) (.i 0)).cell 0 rfl
 have zB:=((((hB.other (p:=⟨A,0,none⟩) (Ne.symm hne) (.slice none 0 0)).other (p:=⟨A,1,none⟩) (Ne.symm hne) (.slice none 0 0)).other (p:=⟨A,2,none⟩) (Ne.symm hne) (.slice none 0 0)).other (p:=⟨A,3,none⟩) (Ne.symm hne) (.i 0)).frozen 0
 refine callsD_of_wpS Tryz.func52 rfl fun c₀ cs hu=>?_
 apply wpS_seq
 apply wpS_region
 simp[wpOpsS,go_sem,recoverD,hu,Tryz.ntmps52,Exit.thenS]
 refine wpS_cond (t:=true) (by simp[Act.eval,Array.replicate]) ?_
 simp only[if_true]
 apply wpS_region
 simp[wpOpsS,go_sem,c0,y0,e1,z1,e2,z2,e3,z3,eB,zB,bodyPostS,results,Tryz.results52]
theorem aGw (p q:Value)(w:World) :
  CallsD Tryz.prog 52 #[p,q] .returning w fun e u' w'=>e=.returned (.tuple #[])/\u'=.returning/\w'=w:=by
 refine callsD_of_wpS Tryz.func52 rfl fun c₀ cs hu=>?_
 apply wpS_seq
 apply wpS_region
 simp[wpOpsS,go_sem,recoverD,hu,Tryz.ntmps52,Exit.thenS]
 refine wpS_cond (t:=false) (by simp[Act.eval,Array.replicate]) ?_
 simp only[Bool.false_eq_true,if_false]
 refine wpS_of_wp (wp_skip ?_)
 cases c₀
 simp_all [bodyPostS,results,Tryz.results52]
theorem tX {w0 w:World}{x:Value}(hA:aB w A 50 #[a,b,c,d])(hB:aB w B 28 #[x])(hne:A≠B)(h0:Below w0.heap.size w0 w)(hA0:w0.heap.size<=A)(hB0:w0.heap.size<=B) :
   aB (aCd w A B) A 50 vH/\aB (aCd w A B) B 28 #[.i 10]/\Below w0.heap.size w0 (aCd w A B) :=
 ⟨((((hA.set 0 (.slice none 0 0)).set 1 (.slice none 0 0)).set 2 (.slice none 0 0)).set 3 (.i 0)).other (p:=⟨B,0,none⟩) hne (.i 10),
  ((((hB.other (p:=⟨A,0,none⟩) (Ne.symm hne) (.slice none 0 0)).other (p:=⟨A,1,none⟩) (Ne.symm hne) (.slice none 0 0)).other (p:=⟨A,2,none⟩) (Ne.symm hne) (.slice none 0 0)).other (p:=⟨A,3,none⟩) (Ne.symm hne) (.i 0)).set 0 (.i 10),
  ((((h0.setCell (p:=⟨A,0,none⟩) hA0 _).setCell (p:=⟨A,1,none⟩) hA0 _).setCell (p:=⟨A,2,none⟩) hA0 _).setCell (p:=⟨A,3,none⟩) hA0 _).setCell (p:=⟨B,0,none⟩) hB0 _⟩
abbrev told (w:World)(A B:Nat)(a b c d x:Value):World:=((((w.setCell ⟨A,0,none⟩ a).setCell ⟨A,1,none⟩ b).setCell ⟨A,2,none⟩ c).setCell ⟨A,3,none⟩ d).setCell ⟨B,0,none⟩ x
theorem aH8 {w0 w:World}{x a' b' c' d' x':Value}(hA:aB w A 50 #[a',b',c',d'])(hB:aB w B 28 #[x'])(hne:A≠B)(h0:Below w0.heap.size w0 w)(hA0:w0.heap.size<=A)(hB0:w0.heap.size<=B) :
   aB (told w A B a b c d x) A 50 #[a,b,c,d]/\aB (told w A B a b c d x) B 28 #[x]/\Below w0.heap.size w0 (told w A B a b c d x)/\Kp [50,28] w (told w A B a b c d x) :=
 ⟨((((hA.set 0 a).set 1 b).set 2 c).set 3 d).other (p:=⟨B,0,none⟩) hne x,
  ((((hB.other (p:=⟨A,0,none⟩) (Ne.symm hne) a).other (p:=⟨A,1,none⟩) (Ne.symm hne) b).other (p:=⟨A,2,none⟩) (Ne.symm hne) c).other (p:=⟨A,3,none⟩) (Ne.symm hne) d).set 0 x,
  ((((h0.setCell (p:=⟨A,0,none⟩) hA0 _).setCell (p:=⟨A,1,none⟩) hA0 _).setCell (p:=⟨A,2,none⟩) hA0 _).setCell (p:=⟨A,3,none⟩) hA0 _).setCell (p:=⟨B,0,none⟩) hB0 _,
  ((((Kp.set hA (by simp) 0 a).trans (Kp.set (hA.set 0 a) (by simp) 1 b)).trans (Kp.set ((hA.set 0 a).set 1 b) (by simp) 2 c)).trans (Kp.set (((hA.set 0 a).set 1 b).set 2 c) (by simp) 3 d)).trans
    (Kp.set ((((hB.other (p:=⟨A,0,none⟩) (Ne.symm hne) a).other (p:=⟨A,1,none⟩) (Ne.symm hne) b).other (p:=⟨A,2,none⟩) (Ne.symm hne) c).other (p:=⟨A,3,none⟩) (Ne.symm hne) d) (by simp) 0 x)⟩
theorem vP {F:World}{x:Int}{tmps:Array Value}(hA:aB F A 50 #[a,b,c,d])(hB:aB F B 28 #[.i x])(h2:tmps[2]?=some (.pointer (some ⟨A,0,none⟩)))(h3:tmps[3]?=some (.pointer (some ⟨B,0,none⟩))) :
  (results Tryz.f17 tmps).run Tryz.prog F=.ok (.tuple #[.agg #[a,b,c,d],.i x]) F:=by
 obtain⟨c0,c1,c2,c3⟩:=aX hA
 have cB:=hB.cell 0 rfl
 simp[results,Tryz.results17,go_sem,h2,h3,c0,c1,c2,c3,cB]
theorem vJ {W:World}{base base':Nat}{e:TypeId}{size:Nat}{v:Value}{n:Nat}{xs:List Value}(h:W.ownsRow base' e size v n xs)(hb:base<=base'):W.ownsRow base e size v n xs:=by
 refine⟨h.1,?_⟩
 rcases h.2 with hn|⟨g,cap,cur,rfl,hg,rest⟩
 ·exact .inl hn
 ·exact .inr ⟨g,cap,cur,rfl,by omega,rest⟩
theorem vK {W:World}{base:Nat}{e:TypeId}{size:Nat}{v:Value}{n:Nat}{xs:List Value}(h:W.ownsRow base e size v n xs):∃ a cap,v=.slice a n cap:=by
 rcases h.2 with⟨rfl,rfl⟩|⟨g,cap,cur,rfl,hg,rest⟩
 ·exact⟨_,_,rfl⟩
 ·exact⟨_,_,rfl⟩
def bCd (w:World)(l:List UInt8)(e:Ending)(W':World):Prop :=
 (e=.returned (.tuple #[.agg vH,.i 10])/\Below w.heap.size w W'/\(tks l=none\/∃ T,tks l=some T/\Ans (T.map ab) none)) \/
 (∃ T NM es ex nv bv dv,tks l=some T/\Ans (T.map ab) (some (NM,es,ex))/\NM.length=es.length/\bZ es+ex.size<=T.length /\
  e=.returned (.tuple #[.agg (eY nv bv dv (.i (((bZ es+ex.size:Nat):Int)-1))),.i 0])/\W'.ownsRow w.heap.size 9 1 nv NM.length (aL0 NM)/\W'.ownsRow w.heap.size 3 1 bv es.length (kK (iA es 0)) /\
  W'.ownsRow w.heap.size 137 9 dv (bZ es+ex.size) (uN (jL es 0++ex.flat (bZ es)))/\Below w.heap.size w W')
theorem aLf (s:ByteArray)(w:World):Calls Tryz.prog 17 #[.string s] w fun e W'=>bCd w (bs s) e W':=by
 have hmf:∀(fn:Fn) (first cap:Array Value) (w:World),(Instr.makeFunc fn first cap).run Tryz.prog w=.ok (.func fn first cap) w:=fun _ _ _ _=>rfl
 go_enter_defers Tryz.func17,Tryz.ntmps17
 go_wp2_with fail
 refine(aH7 s _).mono ?_
 have HB0:=aA (bel (aD w (.cells vH 50)) (aD (w.alloc (.cells vH 50)) (.cells #[.i 0] 28)))
 have HA0:=aA ((aB.new w 50 vH).alloc (.cells #[.i 0] 28))
 have HE0:=aA (aB.new (w.alloc (.cells vH 50)) 28 #[.i 0])
 rintro e W1 (⟨hn,rfl,hb⟩|⟨T,v,hT,rfl,ho,hb⟩)
 ·have HN:=aA hn
  have HB1:=aA (bel HB0.o hb)
  have HA:=aA (HA0.o.below hb)
  have HE:=aA (HE0.o.below hb)
  rw[wSa] at HE
  clear hn hb HB0 HA0 HE0
  have e0:=HE.o.cell 0 rfl
  have z0:=HE.o.frozen 0
  have e1:=(HE.o.set 0 (.i 10)).cell 0 rfl
  have z1:=(HE.o.set 0 (.i 10)).frozen 0
  have HAs:=aA (HA.o.other (p:=⟨w.heap.size+1,0,none⟩) (show w.heap.size≠w.heap.size+1 by omega) (.i 10))
  obtain⟨c0,c1,c2,c3⟩:=aX HAs.o
  obtain⟨y0,y1,y2,y3⟩:=wC HAs.o
  go_wp2_with fail
  have HF:=tX HAs.o (HE.o.set 0 (.i 10)) (by omega) (HB1.o.setCell (p:=⟨w.heap.size+1,0,none⟩) (by simp) (.i 10)) (nLr _) (Nat.le_succ _)
  exact⟨_,vP HF.1 HF.2.1 rfl rfl,.inl ⟨rfl,HF.2.2,.inl HN.o⟩⟩
 ·have HT:=aA hT
  have HB1:=aA (bel HB0.o hb)
  have HA:=aA (HA0.o.below hb)
  have HE:=aA (HE0.o.below hb)
  rw[wSa] at HE
  have hTl:T.length<=1024:=by
   obtain⟨h1,h2⟩:=aD1 hT
   have:=aCi T _ 0 h1
   omega
  obtain⟨a,cap,rfl,hToks,-⟩:=Toks.of_owns ho
  have HZ:=aA (show Tz W1 a T.length cap T from⟨hToks,fun x hx=>by
   subst hx
   obtain⟨-,cs,fr,h⟩:=aR ho x.block rfl
   exact⟨cs,fr,h⟩⟩)
  have hAB:w.heap.size≠w.heap.size+1:=by omega
  have HAs:=aA (HA.o.other (p:=⟨w.heap.size+1,0,none⟩) hAB (.i 0))
  have HEs:=aA (HE.o.set 0 (.i 0))
  have HBs:=aA (HB1.o.setCell (p:=⟨w.heap.size+1,0,none⟩) (by simp) (.i 0))
  have HZs:=aA (HZ.o.kp (Kp.set HE.o (List.mem_singleton.2 rfl) 0 (.i 0)) (by decide))
  have e0:=HE.o.cell 0 rfl
  have z0:=HE.o.frozen 0
  have e1:=HEs.o.cell 0 rfl
  clear hT hb HB0 HA0 HE0 ho hToks HZ HB1 HA HE
  go_wp2_with fail
  obtain⟨S,hS⟩:∃ S,W1.setCell ⟨w.heap.size+1,0,none⟩ (.i 0)=S:=⟨_,rfl⟩
  have hsz:W1.heap.size=S.heap.size:=by rw[<-hS];simp[World.setCell]
  rw[hS] at HAs HEs HBs HZs
  rw[hS,hsz]
  clear e0 z0 e1 hS hsz
  have hRd:Rd S (S.alloc (.cells #[.slice a T.length cap,.slice none 0 0,.slice none 0 0,.slice none 0 0,.i 0] 106)) S.heap.size ⟨a,T.length,cap,.slice none 0 0,.slice none 0 0,.slice none 0 0,0⟩ T [] [] [] :=
   ⟨aB.new _ _ _,nLr _,HZs.o.kp (Kp.of_below [] (aD _ _)) (by simp),World.ownsRow_nil _ _ _ _,World.ownsRow_nil _ _ _ _,World.ownsRow_nil _ _ _ _,aQ8 HT.o,aD _ _⟩
  have HAa:=aA (HAs.o.alloc (.cells #[.slice a T.length cap,.slice none 0 0,.slice none 0 0,.slice none 0 0,.i 0] 106))
  have HEa:=aA (HEs.o.alloc (.cells #[.slice a T.length cap,.slice none 0 0,.slice none 0 0,.slice none 0 0,.i 0] 106))
  have HRd:=aA hRd
  clear hRd HZs
  refine(aHt HRd.o hTl).mono ?_
  rintro e W2 ⟨res,hRP,(⟨rfl,rfl,hb2⟩|⟨NM,es,ex,rfl,hln,hsz,rfl,⟨m',hR,hroot⟩,hk⟩)⟩
  ·have HRP:=aA hRP.ans
   have HA2:=aA (HAs.o.below hb2)
   have HE2:=aA (HEs.o.below hb2)
   have HB2:=aA (bel HBs.o hb2)
   clear hb2 hRP
   go_wp2_with fail
   refine leaves_cons (f:=52) (args:=#[.pointer (some ⟨w.heap.size,0,none⟩),.pointer (some ⟨w.heap.size+1,0,none⟩)]) (by simp) (by simp[go_sem]) ?_
   refine(wN w.heap.size (w.heap.size+1) (.i 0) 28 _ [] W2 HA2.o HE2.o hAB).mono ?_
   rintro e u' w'' ⟨rfl,rfl,rfl⟩
   have HF:=tX HA2.o HE2.o hAB HB2.o (nLr _) (Nat.le_succ _)
   exact⟨_,vP HF.1 HF.2.1 rfl rfl,.inl ⟨rfl,HF.2.2,.inr ⟨T,HT.o,HRP.o⟩⟩⟩
  ·have HRP:=aA hRP.ans
   have HA2:=aA (HAa.o.kp hk (by decide))
   have HE2:=aA (HEa.o.kp hk (by decide))
   have HB2:=aA (HBs.o.trans (hR.old.mono HBs.o.size))
   have HR2:=aA hR
   have HLN:=aA hln
   have HSZ:=aA hsz
   obtain⟨la,ln,lc,nv,bv,dv,root⟩:=m'
   simp only at hroot
   subst hroot
   obtain⟨zz,hzz⟩:∃ zz:Int,((bZ es+ex.size:Nat):Int)-1=zz:=⟨_,rfl⟩
   have HZZ:=aA hzz
   rw[hzz] at HR2
   obtain⟨na,nc,hnv⟩:=vK HR2.o.names
   obtain⟨ba,bc,hbv⟩:=vK HR2.o.binds
   obtain⟨da,dc,hdv⟩:=vK HR2.o.nodes
   simp only at hnv hbv hdv
   generalize hn1:NM.length=n1 at hnv
   generalize hn2:(iA es 0).length=n2 at hbv
   generalize hn3:(jL es 0++ex.flat (bZ es)).length=n3 at hdv
   subst hnv hbv hdv
   clear hn1 hn2 hn3
   have c1:W2.cell? ⟨S.heap.size,1,none⟩=some (.slice na n1 nc):=HR2.o.blk.cell 1 rfl
   have c2:W2.cell? ⟨S.heap.size,2,none⟩=some (.slice ba n2 bc):=HR2.o.blk.cell 2 rfl
   have c3:W2.cell? ⟨S.heap.size,3,none⟩=some (.slice da n3 dc):=HR2.o.blk.cell 3 rfl
   have c4:W2.cell? ⟨S.heap.size,4,none⟩=some (.i zz):=HR2.o.blk.cell 4 rfl
   obtain⟨f0,f1,f2,f3⟩:=aX HA2.o
   obtain⟨y0,y1,y2,y3⟩:=wC HA2.o
   have fB:=HE2.o.cell 0 rfl
   have yB:=HE2.o.frozen 0
   have e1:=(HA2.o.set 0 (.slice na n1 nc)).cell 1 rfl
   have z1:=(HA2.o.set 0 (.slice na n1 nc)).frozen 1
   have e2:=((HA2.o.set 0 (.slice na n1 nc)).set 1 (.slice ba n2 bc)).cell 2 rfl
   have z2:=((HA2.o.set 0 (.slice na n1 nc)).set 1 (.slice ba n2 bc)).frozen 2
   have e3:=(((HA2.o.set 0 (.slice na n1 nc)).set 1 (.slice ba n2 bc)).set 2 (.slice da n3 dc)).cell 3 rfl
   have z3:=(((HA2.o.set 0 (.slice na n1 nc)).set 1 (.slice ba n2 bc)).set 2 (.slice da n3 dc)).frozen 3
   have HEE:=aA ((((HE2.o.other (p:=⟨w.heap.size,0,none⟩) (Ne.symm hAB) (.slice na n1 nc)).other (p:=⟨w.heap.size,1,none⟩) (Ne.symm hAB) (.slice ba n2 bc)).other (p:=⟨w.heap.size,2,none⟩) (Ne.symm hAB) (.slice da n3 dc)).other (p:=⟨w.heap.size,3,none⟩) (Ne.symm hAB) (.i zz))
   have eB:=HEE.o.cell 0 rfl
   have zB:=HEE.o.frozen 0
   clear hR hk hRP hln hsz hzz
   go_wp2_with fail
   refine leaves_cons (f:=52) (args:=#[.pointer (some ⟨w.heap.size,0,none⟩),.pointer (some ⟨w.heap.size+1,0,none⟩)]) (by simp) (by simp[go_sem]) ?_
   refine(aGw _ _ _).mono ?_
   rintro e u' w'' ⟨rfl,rfl,rfl⟩
   obtain⟨q1,q2,q3,q4⟩:=aH8 (a:=(.slice na n1 nc)) (b:=(.slice ba n2 bc)) (c:=(.slice da n3 dc)) (d:=.i zz) (x:=.i 0) HA2.o HE2.o hAB HB2.o (nLr _) (Nat.le_succ _)
   refine⟨_,vP q1 q2 rfl rfl,.inr ⟨T,NM,es,ex,(.slice na n1 nc),(.slice ba n2 bc),(.slice da n3 dc),HT.o,HRP.o,HLN.o,HSZ.o,by rw[HZZ.o],bB (vJ HR2.o.names HBs.o.size) q4 (by decide),?_,?_,q3⟩⟩
   ·have:=bB (vJ HR2.o.binds HBs.o.size) q4 (by decide)
    rw[eX] at this
    exact this
   ·have:=bB (vJ HR2.o.nodes HBs.o.size) q4 (by decide)
    rw[lLa,dD,E.flat_len] at this
    exact this
end
section
open Go.RowKit Go.IntWalk Lx Pz
variable {W W':World} {cap n:Nat} {a:Option Addr}
def n0:Nd:=⟨0,0,0,0,0,0,0,0,0⟩
theorem aFb:∀(L:List Nd) (i:Nat),i < L.length->∀ j v,(nd9 (L.getD i n0))[j]?=some v->(uN L)[i*9+j]?=some v
 | [],i,h=>by simp at h
 | p::L,0,h=>fun j v hv=>by
  have hj:j < 9:=by
   rcases Nat.lt_or_ge j 9 with h|h
   ·exact h
   ·rw[List.getElem?_eq_none (by simpa [nd9] using h)] at hv;cases hv
  simp only[uN,List.flatMap_cons,Nat.zero_mul,nZa]
  rw[gAl (by simpa [nd9] using hj)]
  simpa using hv
 | p::L,i+1,h=>fun j v hv=>by
  have:=aFb L i (by simpa using h) j v (by simpa using hv)
  simp only[uN,List.flatMap_cons] at this ⊢
  rw[gAr (by simp[nd9];omega)]
  rw[show (i+1)*9+j-(nd9 p).length=i*9+j by simp[nd9];omega]
  exact this
structure Nz (W:World)(a:Option Addr)(n cap:Nat)(L:List Nd):Prop where
 len:L.length=n
 le:n<=cap
 max:cap<=maxLen
 cell:n=0\/∃ b off,a=some ⟨b,off,none⟩/\b < W.heap.size/\∀ i,i < n->∀ j v,(nd9 (L.getD i n0))[j]?=some v->W.cell? ⟨b,off+i*9+j,none⟩=some v
structure Iz (W:World)(a:Option Addr)(n cap:Nat)(L:List Int):Prop where
 len:L.length=n
 le:n<=cap
 max:cap<=maxLen
 cell:n=0\/∃ b off,a=some ⟨b,off,none⟩/\b < W.heap.size/\∀ i,i < n->W.cell? ⟨b,off+i,none⟩=some (.i (L.getD i 0))
theorem Nz.of_owns {base:Nat}{v:Value}{L:List Nd}(h:W.ownsRow base 137 9 v n (uN L)):∃ a cap,v=.slice a n cap/\Nz W a n cap L:=by
 have hl:L.length=n:=by have:=h.1;rw[aO8] at this;omega
 have hcs:=fun g hg=>h.cells (g:=g) hg
 have hlt:=h.lt
 rcases h.2 with⟨rfl,rfl⟩|⟨g,cap,cur,rfl,hb,hg,hnc,hcm,hsz,htake⟩
 ·exact⟨none,0,rfl,⟨hl,nLr _,nZl _,.inl rfl⟩⟩
 ·refine⟨some ⟨g,0,none⟩,cap,rfl,⟨hl,hnc,hcm,.inr ⟨g,0,rfl,(hlt g rfl).2,fun i hi j u hu=>?_⟩⟩⟩
  have:=hcs g rfl _ _ (aFb L i (by omega) j u hu)
  rw[Addr.add_lit] at this
  rw[Nat.add_assoc]
  exact this
theorem Iz.of_owns {base:Nat}{v:Value}{L:List Int}(h:W.ownsRow base 3 1 v n (kK L)):∃ a cap,v=.slice a n cap/\Iz W a n cap L:=by
 have hl:L.length=n:=by have:=h.1;simpa using this
 have hcs:=fun g hg=>h.cells (g:=g) hg
 have hlt:=h.lt
 rcases h.2 with⟨rfl,rfl⟩|⟨g,cap,cur,rfl,hb,hg,hnc,hcm,hsz,htake⟩
 ·exact⟨none,0,rfl,⟨hl,nLr _,nZl _,.inl rfl⟩⟩
 ·refine⟨some ⟨g,0,none⟩,cap,rfl,⟨hl,hnc,hcm,.inr ⟨g,0,rfl,(hlt g rfl).2,fun i hi=>?_⟩⟩⟩
  have:=hcs g rfl i (.i (L.getD i 0)) (by rw[gEm,gdE,gEg (by omega)];rfl)
  rwa[Addr.add_lit] at this
theorem Nz.later {L:List Nd}(h:Nz W a n cap L)(hb:Below W.heap.size W W'):Nz W' a n cap L:=by
 refine⟨h.len,h.le,h.max,?_⟩
 rcases h.cell with h0|⟨b,off,ha,hlt,hc⟩
 ·exact .inl h0
 ·exact .inr ⟨b,off,ha,Nat.lt_of_lt_of_le hlt hb.size,fun i hi j v hv=>(hb.cell (p:=⟨b,off+i*9+j,none⟩) hlt).trans (hc i hi j v hv)⟩
theorem Iz.later {L:List Int}(h:Iz W a n cap L)(hb:Below W.heap.size W W'):Iz W' a n cap L:=by
 refine⟨h.len,h.le,h.max,?_⟩
 rcases h.cell with h0|⟨b,off,ha,hlt,hc⟩
 ·exact .inl h0
 ·exact .inr ⟨b,off,ha,Nat.lt_of_lt_of_le hlt hb.size,fun i hi=>(hb.cell (p:=⟨b,off+i,none⟩) hlt).trans (hc i hi)⟩
theorem Tx.later {L:List aM}(h:Tx W a n cap L)(hb:Below W.heap.size W W'):Tx W' a n cap L:=by
 refine⟨h.len,h.le,h.max,?_⟩
 rcases h.cell with h0|⟨b,off,ha,hc⟩
 ·exact .inl h0
 ·by_cases hn:n=0
  ·exact .inl hn
  ·have hlt:=wBl W _ (hc 0 (by omega))
   exact .inr ⟨b,off,ha,fun i hi=>(hb.cell (p:=⟨b,off+i,none⟩) hlt).trans (hc i hi)⟩
def bCe (w:World)(l:List UInt8)(e:Ending)(W':World):Prop :=
 (e=.returned (.tuple #[.agg vH,.i 10])/\Below w.heap.size w W'/\(tks l=none\/∃ T,tks l=some T/\Ans (T.map ab) none)) \/
 (∃ T NM es ex na nc ba bc da dc,tks l=some T/\Ans (T.map ab) (some (NM,es,ex))/\NM.length=es.length/\bZ es+ex.size<=T.length /\
  e=.returned (.tuple #[.agg (eY (.slice na es.length nc) (.slice ba es.length bc) (.slice da (bZ es+ex.size) dc) (.i (((bZ es+ex.size:Nat):Int)-1))),.i 0])/\Tx W' na es.length nc NM/\Iz W' ba es.length bc (iA es 0) /\
  Nz W' da (bZ es+ex.size) dc (jL es 0++ex.flat (bZ es))/\Below w.heap.size w W')
theorem sP (s:ByteArray)(w:World):Calls Tryz.prog 17 #[.string s] w fun e W'=>bCe w (bs s) e W':=by
 refine(aLf s w).mono ?_
 rintro e W' (h|⟨T,NM,es,ex,nv,bv,dv,h1,h2,h3,h4,h5,h6,h7,h8,h9⟩)
 ·exact .inl h
 ·obtain⟨na,nc,rfl,hx⟩:=Tx.of_owns h6
  obtain⟨ba,bc,rfl,hi⟩:=Iz.of_owns h7
  obtain⟨da,dc,rfl,hn⟩:=Nz.of_owns h8
  rw[h3] at hx h5
  exact .inr ⟨T,NM,es,ex,na,nc,ba,bc,da,dc,h1,h2,h3,h4,h5,hx,hi,hn,h9⟩
theorem G.ups {nm : List aM} {l : List Tk} {e : E} {c : Nat} (h : G nm c l e) : ∀ {c' : Nat}, c' ≤ c → c ≤ 8 → G nm c' l e := by
  induction c with
  | zero => intro c' h1 h2; obtain rfl : c' = 0 := by omega
            exact h
  | succ c ih =>
    intro c' h1 h2
    by_cases e : c' = c + 1
    · subst e; exact h
    · exact ih (G.up (by omega) h) (by omega) (by omega)
end
section
open Go.RowKit Go.IntWalk Lx Pz
abbrev MX:Int:=2147483647
def gM (op:Int):Int:=if op=4 then 0 else if 28 < op then -1 else lW op
def jC (op bd:Int):Int:=if op=1 then MX else if op=2 then 5 else if op=4 then bd-1 else 0
def zM (back co x y:Int):Bool:=(co==2 || (co==1&&y==0))&&(bW back 0 MX&&(bW x (-MX) MX&&bW y (-MX) MX))
def rR (n:Nd):Bool:=n.back==0&&n.co==0&&n.x==0&&n.y==0
def kC (n:Nd)(bd:Int):Bool:=if n.op=3 then n.k==0&&zM n.back n.co n.x n.y else rR n&&bW n.k 0 (jC n.op bd)
theorem iR (x a b:Int)(W:World):Calls Tryz.prog 207 #[.i x,.i a,.i b] W fun e W'=>e=.returned (.bool (bW x a b))/\W'=W:=by
 by_cases h:a<=x
 ·rw[show bW x a b=decide (x<=b) by simp[bW,h]]
  go_enter Tryz.func207,Tryz.ntmps207
  go_wp2
  go_ret
  exact⟨rfl,rfl⟩
 ·rw[show bW x a b=false by simp[bW];omega]
  go_enter Tryz.func207,Tryz.ntmps207
  go_wp2
  go_ret
  exact⟨rfl,rfl⟩
theorem aLg (op:Int)(W:World):Calls Tryz.prog 208 #[.i op] W fun e W'=>e=.returned (.i (gM op))/\W'=W:=by
 by_cases h4:op=4
 ·subst h4
  go_enter Tryz.func208,Tryz.ntmps208
  go_wp2
  go_ret
  exact⟨rfl,rfl⟩
 ·have k4:(op==4)=false:=by simpa using h4
  by_cases h28:28 < op
  ·rw[show gM op=-1 by unfold gM;rw[if_neg h4,if_pos h28]]
   go_enter Tryz.func208,Tryz.ntmps208
   go_wp2
   go_ret
   exact⟨rfl,rfl⟩
  ·rw[show gM op=lW op by unfold gM;rw[if_neg h4,if_neg h28]]
   have HA:=aA fun W=>bQ op W
   generalize lW op=z at HA
   clear h4
   go_enter Tryz.func208,Tryz.ntmps208
   go_wp2_with fail
   refine(HA.o _).mono ?_
   rintro e W1 ⟨rfl,rfl⟩
   go_wp2_with fail
   go_ret
   exact⟨rfl,rfl⟩
theorem aO3 (op bd:Int)(W:World)(hb:-1000000<=bd)(hb2:bd<=9223372036854775807):Calls Tryz.prog 282 #[.i op,.i bd] W fun e W'=>e=.returned (.i (jC op bd))/\W'=W:=by
 by_cases h1:op=1
 ·subst h1
  go_enter Tryz.func282,Tryz.ntmps282
  go_wp2
  go_ret
  exact⟨rfl,rfl⟩
 by_cases h2:op=2
 ·subst h2
  go_enter Tryz.func282,Tryz.ntmps282
  go_wp2
  go_ret
  exact⟨rfl,rfl⟩
 by_cases h4:op=4
 ·subst h4
  go_enter Tryz.func282,Tryz.ntmps282
  go_wp2
  go_ret
  exact⟨rfl,rfl⟩
 ·rw[show jC op bd=0 by unfold jC;rw[if_neg h1,if_neg h2,if_neg h4]]
  have k1:(op==1)=false:=by simpa using h1
  have k2:(op==2)=false:=by simpa using h2
  have k4:(op==4)=false:=by simpa using h4
  go_enter Tryz.func282,Tryz.ntmps282
  go_wp2
  go_ret
  exact⟨rfl,rfl⟩
theorem wI (x:Int)(W:World):Calls Tryz.prog 333 #[.i x] W fun e W'=>e=.returned (.bool (bW x (-MX) MX))/\W'=W:=by
 have H:=aA fun W=>iR x (-MX) MX W
 generalize bW x (-MX) MX=z at H
 go_enter Tryz.func333,Tryz.ntmps333
 go_wp2_with fail
 refine(H.o _).mono ?_
 rintro e W1 ⟨rfl,rfl⟩
 go_wp2_with fail
 go_ret
 exact⟨rfl,rfl⟩
theorem aK6 (a b c d:Int)(W:World):Calls Tryz.prog 281 #[.agg (rQ a b c d)] W fun e W'=>e=.returned (.bool (zM a b c d))/\Below W.heap.size W W':=by
 have HB:=aA (aD W (.cells (rQ a b c d) 135))
 have H1:=aA fun W=>iR a 0 MX W
 have H2:=aA fun W=>wI c W
 have H3:=aA fun W=>wI d W
 cases hok:(b==2 || (b==1&&d==0)) with
 | false =>
  rw[show zM a b c d=false by unfold zM;rw[hok];rfl]
  simp only[Bool.or_eq_false_iff] at hok
  obtain⟨k1,k2⟩:=hok
  have k1':(b != 2)=true:=by simpa using k1
  cases k3:(b==1) with
  | false =>
   have k3':(b != 1)=true:=by simpa using k3
   clear k1 k2 k3
   go_enter Tryz.func281,Tryz.ntmps281
   go_wp2_with fail
   go_ret
   exact⟨rfl,HB.o⟩
  | true =>
   rw[k3,Bool.true_and] at k2
   have k4:(d != 0)=true:=by simpa using k2
   have k3':(b != 1)=false:=by simpa using k3
   clear k1 k2 k3
   go_enter Tryz.func281,Tryz.ntmps281
   go_wp2_with fail
   go_ret
   exact⟨rfl,HB.o⟩
 | true =>
  rw[show zM a b c d=(bW a 0 MX&&(bW c (-MX) MX&&bW d (-MX) MX)) by unfold zM;rw[hok];rfl]
  generalize bW a 0 MX=z1 at *
  generalize bW c (-MX) MX=z2 at *
  generalize bW d (-MX) MX=z3 at *
  have hg:((b != 2)=false)\/((b != 2)=true/\(b != 1)=false/\(d != 0)=false):=by
   simp only[Bool.or_eq_true,bAt,beq_iff_eq] at hok
   by_cases h2:b=2
   ·left;simp[h2]
   ·right
    rcases hok with h|⟨h,h'⟩
    ·exact absurd h h2
    ·subst h;subst h';decide
  clear hok
  cases z1 with
  | false =>
   rw[Bool.false_and]
   rcases hg with hg|⟨hg1,hg2,hg3⟩
   all_goals
    go_enter Tryz.func281,Tryz.ntmps281
    go_wp2_with fail
    refine(H1.o _).mono ?_
    rintro e W1 ⟨rfl,rfl⟩
    go_wp2_with fail
    go_ret
    exact⟨rfl,HB.o⟩
  | true =>
   rw[Bool.true_and]
   cases z2 with
   | false =>
    rw[Bool.false_and]
    rcases hg with hg|⟨hg1,hg2,hg3⟩
    all_goals
     go_enter Tryz.func281,Tryz.ntmps281
     go_wp2_with fail
     refine(H1.o _).mono ?_
     rintro e W1 ⟨rfl,rfl⟩
     go_wp2_with fail
     refine(H2.o _).mono ?_
     rintro e W1 ⟨rfl,rfl⟩
     go_wp2_with fail
     go_ret
     exact⟨rfl,HB.o⟩
   | true =>
    rw[Bool.true_and]
    rcases hg with hg|⟨hg1,hg2,hg3⟩
    all_goals
     go_enter Tryz.func281,Tryz.ntmps281
     go_wp2_with fail
     refine(H1.o _).mono ?_
     rintro e W1 ⟨rfl,rfl⟩
     go_wp2_with fail
     refine(H2.o _).mono ?_
     rintro e W1 ⟨rfl,rfl⟩
     go_wp2_with fail
     refine(H3.o _).mono ?_
     rintro e W1 ⟨rfl,rfl⟩
     go_wp2_with fail
     go_ret
     exact⟨rfl,HB.o⟩
end
open Go.RowKit Go.IntWalk Lx Pz
theorem aSr (d:Nat)(a b c x y z:Int)(w:World):(Op.equalIn (d+2) 276 (.agg #[.i a,.i b,.i c]) (.agg #[.i x,.i y,.i z])).run Tryz.prog w=.ok (a==x&&(b==y&&c==z)) w:=by
 rw[Op.equalIn]
 simp only[Sem.run_bind,run_underlying Tryz.underlying276,Result.andThen_ok]
 simp[go_sem,Std.Legacy.Range.forIn_eq_forIn_range',List.range']
 by_cases h1:a=x
 ·by_cases h2:b=y
  ·by_cases h3:c=z
   ·simp[h1,h2,h3]
   ·simp[h1,h2,h3]
  ·simp[h1,h2]
 ·simp[h1]
theorem aUj {n:Nd}(h:rR n=false):¬n.back=0\/(n.back=0/\¬n.co=0)\/(n.back=0/\n.co=0/\¬n.x=0)\/(n.back=0/\n.co=0/\n.x=0/\¬n.y=0):=by
 by_cases h1:n.back=0
 ·by_cases h2:n.co=0
  ·by_cases h3:n.x=0
   ·by_cases h4:n.y=0
    ·simp[rR,h1,h2,h3,h4] at h
    ·exact .inr (.inr (.inr ⟨h1,h2,h3,h4⟩))
   ·exact .inr (.inr (.inl ⟨h1,h2,h3⟩))
  ·exact .inr (.inl ⟨h1,h2⟩)
 ·exact .inl h1
theorem aPs {n:Nd}(h:rR n=true):n.back=0/\n.co=0/\n.x=0/\n.y=0:=by
 simp only[rR,bAt,beq_iff_eq] at h
 exact⟨h.1.1.1,h.1.1.2,h.1.2,h.2⟩
theorem aG3 (n:Nd)(bd:Int)(W:World)(hb:-1000000<=bd)(hb2:bd<=9223372036854775807):Calls Tryz.prog 209 #[.agg (bH n),.i bd] W fun e W'=>e=.returned (.bool (kC n bd))/\Below W.heap.size W W':=by
 have HB:=aA (aD W (.cells (bH n) 137))
 have HM:=aA fun W=>aK6 n.back n.co n.x n.y W
 have HO:=aA fun W=>aO3 n.op bd W hb hb2
 have HW:=aA fun W=>iR n.k 0 (jC n.op bd) W
 by_cases h3:n.op=3
 ·rw[show kC n bd=(n.k==0&&zM n.back n.co n.x n.y) by unfold kC;rw[if_pos h3]]
  have k3:(n.op==3)=true:=by simpa using h3
  cases hk:(n.k==0) with
  | false =>
   rw[Bool.false_and]
   clear h3
   go_enter Tryz.func209,Tryz.ntmps209
   go_wp2_with fail
   go_ret
   exact⟨rfl,HB.o⟩
  | true =>
   rw[Bool.true_and]
   clear h3
   go_enter Tryz.func209,Tryz.ntmps209
   go_wp2_with fail
   refine(HM.o _).mono ?_
   rintro e W1 ⟨rfl,hb1⟩
   have HB1:=aA (bel HB.o hb1)
   clear hb1
   go_wp2_with fail
   go_ret
   exact⟨rfl,HB1.o⟩
 ·have k3:(n.op==3)=false:=by simpa using h3
  rw[show kC n bd=(rR n&&bW n.k 0 (jC n.op bd)) by unfold kC;rw[if_neg h3]]
  generalize jC n.op bd=mz at *
  generalize bW n.k 0 mz=z at *
  have HN:=aA (aB.new W 137 (bH n))
  clear h3 HM
  cases hp:rR n with
  | false =>
   rw[Bool.false_and]
   have hc:=aUj hp
   obtain⟨op,a,b,c,k,back,co,x,y⟩:=n
   simp only at hc k3 HB HN HO HW
   clear hp HO HW
   have HBB:=aA (show ∀ nq,Below W.heap.size W ((W.alloc (.cells (bH ⟨op,a,b,c,k,back,co,x,y⟩) 137)).drewN nq) from fun nq=>bel HB.o (below_drewN _ nq))
   go_enter Tryz.func209,Tryz.ntmps209
   go_wp2_with fail
   obtain⟨e0,e1,e2,e3,e4,e5,e6,e7,e8⟩:=HN.o.nine
   simp only at e0 e1 e2 e3 e4 e5 e6 e7 e8
   generalize W.alloc (.cells (bH ⟨op,a,b,c,k,back,co,x,y⟩) 137)=V at *
   generalize hq:W.heap.size=q at *
   rcases hc with h1|⟨h1,h2⟩|⟨h1,h2,h3⟩|⟨h1,h2,h3,h4⟩
   ·go_quiet (fail)
    go_wp2_with fail
    go_ret
    exact⟨rfl,by rw[hq];exact HBB.o _⟩
   ·subst h1
    go_quiet (fail)
    go_wp2_with fail
    go_ret
    exact⟨rfl,by rw[hq];exact HBB.o _⟩
   ·subst h1 h2
    go_quiet (fail)
    go_wp2_with fail
    go_ret
    exact⟨rfl,by rw[hq];exact HBB.o _⟩
   ·subst h1 h2 h3
    go_quiet (fail)
    go_wp2_with fail
    go_ret
    exact⟨rfl,by rw[hq];exact HBB.o _⟩
  | true =>
   rw[Bool.true_and]
   obtain⟨h1,h2,h3,h4⟩:=aPs hp
   obtain⟨op,a,b,c,k,back,co,x,y⟩:=n
   simp only at h1 h2 h3 h4 k3 HB HN HO HW
   subst h1 h2 h3 h4
   clear hp
   have HBB:=aA (show ∀ nq,Below W.heap.size W ((W.alloc (.cells (bH ⟨op,a,b,c,k,0,0,0,0⟩) 137)).drewN nq) from fun nq=>bel HB.o (below_drewN _ nq))
   go_enter Tryz.func209,Tryz.ntmps209
   go_wp2_with fail
   obtain⟨e0,e1,e2,e3,e4,e5,e6,e7,e8⟩:=HN.o.nine
   simp only at e0 e1 e2 e3 e4 e5 e6 e7 e8
   generalize W.alloc (.cells (bH ⟨op,a,b,c,k,0,0,0,0⟩) 137)=V at *
   generalize hq:W.heap.size=q at *
   go_quiet ((first|(go_at_call 282;exact Calls.quiet_of_same (HO.o _))|(go_at_call 207;exact Calls.quiet_of_same (HW.o _))))
   go_wp2_with fail
   go_ret
   exact⟨rfl,by rw[hq];exact HBB.o _⟩
abbrev tk3 (L:List Int):Array Value:=#[.i (L.getD 0 0),.i (L.getD 1 0),.i (L.getD 2 0)]
theorem aOe:(Tryz.prog.info? 3).map (·.size)=some 1:=by kernel_rfl
theorem bAg {V:World}{a:Option Addr}{n cap g:Nat}{L:List Int}(h:Iz V a n cap L)(h3:n<=3)(hA:aB V g 276 #[.i 0,.i 0,.i 0]) :
  ∃ V',(Builtin.copy_ #[24,24] 3 #[.slice (some ⟨g,0,none⟩) 3 3,.slice a n cap]).run Tryz.prog V=.ok (.i L.length) V'/\aB V' g 276 (tk3 L)/\V.grownBy V' (some g):=by
 have hl:=h.len
 by_cases hn:n=0
 ·subst hn
  obtain rfl:L=[]:=List.length_eq_zero_iff.1 hl
  exact⟨V,run_copy_none V 24 24 3 3 _ _ 3 3 0 cap Tryz.underlying24 aOe rfl,hA,World.grownBy.refl _ _⟩
 ·obtain⟨b,off,rfl,hlt,hc⟩:∃ b off,a=some ⟨b,off,none⟩/\b < V.heap.size/\∀ i,i < n->V.cell? ⟨b,off+i,none⟩=some (.i (L.getD i 0)):=by
   rcases h.cell with h0|h
   ·exact absurd h0 hn
   ·exact h
  have hr:=run_copy_row (P:=Tryz.prog) V 24 24 3 3 g 0 3 3 ⟨b,off,none⟩ n cap #[.i 0,.i 0,.i 0] 276 (kK L) Tryz.underlying24 aOe hA (by rw[List.length_map,hl];exact(Nat.min_eq_left h3).symm)
   (by
    intro j v hv
    rw[gEm] at hv
    cases hj:L[j]? with
    | none=>rw[hj] at hv;cases hv
    | some x =>
     rw[hj] at hv
     cases hv
     have hjl:j < L.length:=(List.getElem?_eq_some_iff.1 hj).1
     have:=hc j (by omega)
     rw[gdE,hj] at this
     rw[Addr.add_lit]
     exact this) (by simp;omega) (by simp[Value.oneCell'])
  have e:(#[Value.int .i64 0,.i 0,.i 0].toList.take 0++kK L++#[Value.int .i64 0,.i 0,.i 0].toList.drop (0+(kK L).length)).toArray=tk3 L:=by
   match L,(show L.length<=3 by omega) with
   | [],_=>rfl
   | [x],_=>rfl
   | [x,y],_=>rfl
   | [x,y,z],_=>rfl
   | _::_::_::_::_,h=>simp at h
  rw[e,List.length_map] at hr
  refine⟨V.setRow g (tk3 L),hr,setRow_heap V g _ (tk3 L) 276 (0,0) hA,⟨rfl,rfl,rfl,by rw[size_setRow];exact nLr _,fun k hk hne=>setRow_other V g k _ (fun e=>hne (by rw[e]))⟩⟩
theorem vU {W:World}{a:Option Addr}{n cap:Nat}{L:List Int}(h:Iz W a n cap L)(h3:n<=3) :
  Calls Tryz.prog 210 #[.slice a n cap] W fun e W'=>e=.returned (.agg (tk3 L))/\Below W.heap.size W W':=by
 have hb2:=bel (aD W (.cells #[.i 0,.i 0,.i 0] 276)) (aD (W.alloc (.cells #[.i 0,.i 0,.i 0] 276)) (.cells #[.i 0,.i 0,.i 0] 276))
 have hR:=(aB.new W 276 #[.i 0,.i 0,.i 0]).alloc (.cells #[.i 0,.i 0,.i 0] 276)
 have hA:=aB.new (W.alloc (.cells #[.i 0,.i 0,.i 0] 276)) 276 #[.i 0,.i 0,.i 0]
 rw[wSa] at hA
 obtain⟨V',hrun,hA',hg⟩:=bAg (h.later hb2) h3 hA
 have HR:=aA (hR.kept hg (by simp))
 have HA':=aA hA'
 have HB:=aA (hb2.grown hg hb2.size (fun k hk=>by cases hk;omega))
 clear h hb2 hR hA hA' hg
 go_enter Tryz.func210,Tryz.ntmps210
 go_upto_region 2 with fail
 generalize (W.alloc (.cells #[.i 0,.i 0,.i 0] 276)).alloc (.cells #[.i 0,.i 0,.i 0] 276)=V at hrun ⊢
 obtain⟨c0,c1,c2⟩:=jA HA'.o
 obtain⟨d0,d1,d2⟩:=jA HR.o
 obtain⟨y0,y1,y2⟩:=aA8 HR.o
 have e1:=(HR.o.set 0 (.i (L.getD 0 0))).cell 1 rfl
 have z1:=(HR.o.set 0 (.i (L.getD 0 0))).frozen 1
 have e2:=((HR.o.set 0 (.i (L.getD 0 0))).set 1 (.i (L.getD 1 0))).cell 2 rfl
 have z2:=((HR.o.set 0 (.i (L.getD 0 0))).set 1 (.i (L.getD 1 0))).frozen 2
 have HF:=aA (((HR.o.set 0 (.i (L.getD 0 0))).set 1 (.i (L.getD 1 0))).set 2 (.i (L.getD 2 0)))
 have HFB:=aA (((HB.o.setCell (p:=⟨W.heap.size,0,none⟩) (nLr _) (.i (L.getD 0 0))).setCell (p:=⟨W.heap.size,1,none⟩) (nLr _) (.i (L.getD 1 0))).setCell (p:=⟨W.heap.size,2,none⟩) (nLr _) (.i (L.getD 2 0)))
 generalize hl0:L.getD 0 0=l0 at *
 generalize hl1:L.getD 1 0=l1 at *
 generalize hl2:L.getD 2 0=l2 at *
 have H0:=aA hl0
 have H1:=aA hl1
 have H2:=aA hl2
 clear hl0 hl1 hl2
 go_wp2_with fail
 obtain⟨f0,f1,f2⟩:=jA HF.o
 exact bPr (v:=.agg #[.i l0,.i l1,.i l2]) (by simp[results,Tryz.results210,go_sem,f0,f1,f2]) rfl ⟨by rw[<-H0.o,<-H1.o,<-H2.o],HFB.o⟩
def yJ (n:Nat)(root:Int):Bool:=bW n 1 1024&&root==(n:Int)-1
theorem yK (nv bv:Value)(da:Option Addr)(d dc:Nat)(root:Int)(W:World)(hd:d<=9223372036854775807)(h1:∃ a n c,nv=.slice a n c)(h2:∃ a n c,bv=.slice a n c) :
  Calls Tryz.prog 136 #[.agg (eY nv bv (.slice da d dc) (.i root))] W fun e W'=>e=.returned (.bool (yJ d root))/\Below W.heap.size W W':=by
 obtain⟨a1,n1,c1,rfl⟩:=h1
 obtain⟨a2,n2,c2,rfl⟩:=h2
 have HB:=aA (aD W (.cells (eY (.slice a1 n1 c1) (.slice a2 n2 c2) (.slice da d dc) (.i root)) 50))
 have HW:=aA fun W=>iR d 1 1024 W
 unfold yJ
 cases hz:bW d 1 1024 with
 | false =>
  rw[hz] at HW
  rw[Bool.false_and]
  clear hz
  go_enter Tryz.func136,Tryz.ntmps136
  go_wp2_with fail
  refine(HW.o _).mono ?_
  rintro e W1 ⟨rfl,rfl⟩
  go_wp2_with fail
  go_ret
  exact⟨rfl,HB.o⟩
 | true =>
  rw[hz] at HW
  rw[Bool.true_and]
  clear hz
  go_enter Tryz.func136,Tryz.ntmps136
  go_wp2_with fail
  refine(HW.o _).mono ?_
  rintro e W1 ⟨rfl,rfl⟩
  go_wp2_with fail
  go_ret
  exact⟨rfl,HB.o⟩
end Go.Proofs.YticnbcfmbhjbgaaGreatDoor
namespace Pz
open Lx
def aFe:List aM->Bool
 | []=>true
 | s::r=>!r.contains s&&aFe r
theorem aBj:∀(L:List aM) (s:aM),aFe (L++[s])=(aFe L&&!L.contains s)
 | [],s=>by simp[aFe]
 | a::L,s=>by
  simp only[List.cons_append,aFe,aBj L s,List.contains_append,List.contains_cons,List.contains_nil,Bool.or_false]
  rw[show (a==s)=(s==a) by rw[Bool.eq_iff_iff];simp;exact⟨Eq.symm,Eq.symm⟩]
  cases L.contains a <;> cases (s==a) <;> cases aFe L <;> cases L.contains s <;> rfl
def zO (L:List aM):Bool:=(L.all fun s=>rW s&&!mU s)&&aFe L
theorem zP (L:List aM)(s:aM):zO (L++[s])=(zO L&&(rW s&&!mU s&&!L.contains s)):=by
 unfold zO
 rw[List.all_append,aBj]
 simp only[lAc,List.all_nil,Bool.and_true]
 cases (L.all fun s=>rW s&&!mU s) <;> cases rW s <;> cases mU s <;> cases aFe L <;> cases L.contains s <;> rfl
theorem aC9 {L:List aM}{k:Nat}(h:zO (L.take k)=false):zO L=false:=by
 induction h2:L.length-k generalizing k with
 | zero=>rw[lTl (by omega)] at h;exact h
 | succ m ih =>
  refine ih (k:=k+1) ?_ (by omega)
  rw[lTs (by omega),zP,h]
  rfl
end Pz
namespace Go.Proofs.YticnbcfmbhjbgaaGreatDoor
open Go.RowKit Go.IntWalk Lx Pz
theorem aXf:Maps.Keyed Tryz.prog 9:=Maps.string_keyed Tryz.underlying9
theorem aWm (w:World):(zeroValue 279).run Tryz.prog w=.ok (.agg #[]) w:=by simp[Tryz.zeroValue279]
abbrev aQk (L:List aM):DataW Unit:=Maps.setOf (.agg []) (L.map fun s=>Lit.string s)
theorem aN7 (L:List aM)(s:aM):Maps.has (aQk L) (.string s)=L.contains s:=by
 rw[Maps.has_setOf _ _ _ (by intro x hx;simp at hx;obtain⟨a,-,rfl⟩:=hx;trivial)]
 rw[List.any_map]
 rw[Bool.eq_iff_iff]
 simp only[List.any_eq_true,Function.comp,Lit.sameKey,beq_iff_eq,List.contains_iff_mem]
 exact⟨fun⟨x,hx,e⟩=>e ▸ hx,fun h=>⟨s,h,rfl⟩⟩
theorem bCn (u:ByteArray)(h:u.size<=maxLen):keyOf Tryz.prog 9 (.string u)=some (.string u.data.toList):=by
 rw[keyOf_string Tryz.underlying9]
 simp[mapKey,Tryz.underlying9,h]
theorem aK5 (V:World){n:Nat}(hn:n<=1024):(Instr.makeMap 278 (some (.i n))).run Tryz.prog V=.ok (.map (some V.heap.size)) (V.alloc (.map #[] 0)):=by
 simp[Instr.makeMap,asInt,asIntOf,Result.andThen]
theorem aKh {W:World}{a:Option Addr}{n cap:Nat}{L:List aM}(h:Tx W a n cap L)(hn:n<=1024)(hs:∀ s ∈ L,s.length<=9223372036854775807) :
  Calls Tryz.prog 138 #[.slice a n cap] W fun e W'=>e=.returned (.bool (zO L))/\Below W.heap.size W W':=by
 have HT:=aA h
 have HS:=aA hs
 have hl:=aA h.len
 clear h hs
 have hmm:=fun V=>aK5 V hn
 go_enter Tryz.func138,Tryz.ntmps138
 go_wp2_with fail
 go_loopw [13] (fun i wr=>∃ k:Nat,k<=n/\i=.i k/\Hid (zO (L.take k)=true)/\Hid (wr.ownsMap Tryz.prog 9 (unitElem (H:=Unit)) W.heap.size k (aQk (L.take k)))/\Hid (Below W.heap.size W wr)) (fun i _=>n-(intOf i).toNat)
 case atStart=>exact⟨0,nZl _,rfl,aA (by simp;rfl),aA (World.ownsMap_made W _ _ _),aA (aD _ _)⟩
 case round =>
  obtain⟨k,hk,rfl,HN,HO,HB⟩:=hrel
  rename World=>V
  by_cases hlt:k < n
  ·obtain⟨b,off,rfl,hc0⟩:∃ b off,a=some ⟨b,off,none⟩/\W.cell? ⟨b,off+k,none⟩=some (.string (sB (L.getD k []))):=by
    rcases HT.o.cell with h0|⟨b,off,ha,hc⟩
    ·omega
    ·exact⟨b,off,ha,hc k hlt⟩
   have hc:=(HB.o.cell (p:=⟨b,off+k,none⟩) (wBl W _ hc0)).trans hc0
   have hi0:(0:Int)<=k:=by omega
   have hi1:(k:Int) < n:=by omega
   have hkl:k < L.length:=by rw[hl.o];exact hlt
   have hget:L.getD k []=L[k]:=by rw[gdE,gEg hkl];rfl
   rw[hget] at hc
   have HSN:=aA (show zO (L.take (k+1))=(zO (L.take k)&&(rW L[k]&&!mU L[k]&&!(L.take k).contains L[k])) by rw[lTs hkl,zP])
   have HTK:=aA (show aQk (L.take (k+1))=(aQk (L.take k)).put (.string L[k]) (.agg []) by rw[lTs hkl];unfold aQk;rw[List.map_append];exact Maps.setOf_snoc _ _ _)
   have hsz:=HS.o L[k] (List.getElem_mem hkl)
   have HWd:=aA fun V=>eQ (sB L[k]) V (by rw[aDn];unfold maxLen;omega)
   have HRs:=aA fun V=>uQ (sB L[k]) V
   rw[iB] at HWd HRs
   have HKY:=aA (bCn (sB L[k]) (by rw[aDn];unfold maxLen;omega))
   rw[show (sB L[k]).data.toList=L[k] from rfl] at HKY
   have HHS:=aA (aN7 (L.take k) L[k])
   clear hc0 hget
   generalize L[k]=s at *
   clear hkl
   rw[HN.o,Bool.true_and] at HSN
   cases hw:rW s with
   | false =>
    rw[hw] at HWd HSN
    generalize sB s=u at hc HWd HRs HKY
    have HF:=aA (aC9 HSN.o)
    clear hw
    go_wp2_with fail
    refine(HWd.o _).mono ?_
    rintro e V1 ⟨rfl,rfl⟩
    go_wp2_with fail
    go_ret
    exact⟨aV HF.o.symm,HB.o⟩
   | true =>
    rw[hw] at HWd HSN
    cases hr:mU s with
    | true =>
     rw[hr] at HRs HSN
     generalize sB s=u at hc HWd HRs HKY
     have HF:=aA (aC9 HSN.o)
     clear hw hr
     go_wp2_with fail
     refine(HWd.o _).mono ?_
     rintro e V1 ⟨rfl,rfl⟩
     go_wp2_with fail
     refine(HRs.o _).mono ?_
     rintro e V1 ⟨rfl,rfl⟩
     go_wp2_with fail
     go_ret
     exact⟨aV HF.o.symm,HB.o⟩
    | false =>
     rw[hr] at HRs HSN
     clear hw hr
     cases hct:(L.take k).contains s with
     | true =>
      rw[hct] at HSN HHS
      have HF:=aA (aC9 HSN.o)
      clear hct
      generalize sB s=u at hc HWd HRs HKY
      go_wp2_with fail
      refine(HWd.o _).mono ?_
      rintro e V1 ⟨rfl,rfl⟩
      go_wp2_with fail
      refine(HRs.o _).mono ?_
      rintro e V1 ⟨rfl,rfl⟩
      go_wp2_with (at_lookup;refine wpList_lookup_own_unit _ rfl _ _ 278 rfl 9 279 aXf Tryz.underlying278 (aWm _) W.heap.size k _ rfl HO.o _ _ rfl HKY.o ?_;rw[HHS.o])
      go_ret
      exact⟨aV HF.o.symm,bel HB.o (aD _ _)⟩
     | false =>
      rw[hct] at HSN HHS
      clear hct
      generalize sB s=u at hc HWd HRs HKY
      go_wp2_with fail
      refine(HWd.o _).mono ?_
      rintro e V1 ⟨rfl,rfl⟩
      go_wp2_with fail
      refine(HRs.o _).mono ?_
      rintro e V1 ⟨rfl,rfl⟩
      go_wp2_with (first|(at_lookup;refine wpList_lookup_own_unit _ rfl _ _ 278 rfl 9 279 aXf Tryz.underlying278 (aWm _) W.heap.size k _ rfl HO.o _ _ rfl HKY.o ?_;rw[HHS.o])|(at_mapUpdate;refine wpList_mapUpdate_own _ rfl _ _ _ 278 rfl 9 279 aXf Tryz.underlying278 (unitElem (H:=Unit)) W.heap.size k _ rfl (HO.o.alloc _) (by unfold maxLen;omega) _ _ (.string s) rfl rfl HKY.o (.agg []) [] unitElem_mk ?_;intro w1 hown1 hgrow1))
      go_roundw
      case rel=>exact⟨k+1,by omega,by go_num,aA HSN.o,aA (by rw[HTK.o];exact hown1),aA ((bel HB.o (aD _ _)).grown hgrow1 (by have:=HB.o.size;simp;omega) (fun q hq=>by cases hq;exact nLr _))⟩
      case measure=>simp[intOf];omega
  ·obtain rfl:k=n:=by omega
   have HF:=aA (show zO L=true by rw[<-HN.o,lTl (by rw[hl.o];exact nLr _)])
   go_wp2_with fail
   go_ret
   exact⟨aV HF.o.symm,HB.o⟩
end Go.Proofs.YticnbcfmbhjbgaaGreatDoor
namespace Pz
section
open Lx
end
section
open Lx
def ak (l:List UInt8):Option (List Tk):=(sc l 0).map (List.map ab)
theorem aZb:∀(n:Nat) (l:List UInt8) (p q:Nat),l.length<=n->(sc l p).map (List.map ab)=(sc l q).map (List.map ab):=by
 intro n
 induction n with
 | zero =>
  intro l p q h
  have:l=[]:=List.length_eq_zero_iff.1 (by omega)
  subst this
  rw[mW,mW]
 | succ n ih =>
  intro l p q h
  cases l with
  | nil=>rw[mW,mW]
  | cons c r =>
   simp only[lLc] at h
   cases hb:bl c with
   | true=>rw[qL hb,qL hb];exact ih r _ _ (by omega)
   | false =>
    by_cases h35:c=35
    ·subst h35
     rw[aDp,aDp]
     exact ih _ _ _ (by have:=kJ nl r;omega)
    ·cases hg:gd (c::r) with
     | false=>rw[aDo hb h35 hg,aDo hb h35 hg]
     | true =>
      rw[aAa hb h35 hg,aAa hb h35 hg]
      have hp:=yQ hg
      have:=ih ((c::r).drop (sz (c::r))) (p+sz (c::r)) (q+sz (c::r)) (by simp;omega)
      cases h1:sc ((c::r).drop (sz (c::r))) (p+sz (c::r)) with
      | none =>
       rw[h1] at this
       cases h2:sc ((c::r).drop (sz (c::r))) (q+sz (c::r)) with
       | none=>rfl
       | some T=>rw[h2] at this;cases this
      | some T =>
       rw[h1] at this
       cases h2:sc ((c::r).drop (sz (c::r))) (q+sz (c::r)) with
       | none=>rw[h2] at this;cases this
       | some T' =>
        rw[h2] at this
        simp only[Option.map_some,Option.some.injEq] at this
        simp only[Option.map_some,lMc,this]
        rfl
theorem bBy (l:List UInt8)(p:Nat):(sc l p).map (List.map ab)=ak l:=aZb l.length l p 0 (nLr _)
theorem aWn:ak []=some []:=by unfold ak;rw[mW];rfl
theorem aMq {c:UInt8}{r:List UInt8}(h1:bl c=false)(h2:c≠35)(h:gd (c::r)=true) :
  ak (c::r)=(ak ((c::r).drop (sz (c::r)))).map (ab ⟨kd (c::r),(c::r).take (sz (c::r)),0⟩::·):=by
 show (sc (c::r) 0).map (List.map ab)=_
 rw[aAa h1 h2 h,<-bBy _ (0+sz (c::r)),Option.map_map,Option.map_map]
 rfl
theorem aZ7 {l:List UInt8}{T:List Tok}(h:tks l=some T):ak l=some (T.map ab)/\l.length<=1024:=by
 unfold tks at h
 split at h
 ·cases h
 ·exact⟨by unfold ak;rw[h];rfl,by omega⟩
theorem aZj {l:List UInt8}{A:List Tk}(h:ak l=some A)(hl:l.length<=1024):∃ T,tks l=some T/\T.map ab=A:=by
 unfold tks
 rw[if_neg (by omega)]
 unfold ak at h
 cases hs:sc l 0 with
 | none=>rw[hs] at h;cases h
 | some T=>rw[hs] at h;cases h;exact⟨T,rfl,rfl⟩
theorem aR1 {c:UInt8}(hc:sh.contains c=true)(h60:c≠60)(h61:c≠61)(h62:c≠62)(h33:c≠33)(r:List UInt8):ak (c::r)=(ak r).map (mkT [c]::·):=by
 obtain⟨h1,h2,h3,h4⟩:=aQn hc
 have hm:mk (c::r)=1:=by
  unfold mk
  have:two.contains ((c::r).take 2)=false:=by
   cases r with
   | nil=>simp[two]
   | cons d r=>simp[two,h60,h61,h62,h33]
  rw[this]
  simp
  simpa using hc
 have hz:sz (c::r)=1:=by simp only[sz,List.headD_cons,h1,h2,Bool.false_eq_true,if_false];exact hm
 have hk:kd (c::r)=3:=by simp[kd,h1,h2]
 have hg:gd (c::r)=true:=by unfold gd;rw[hk,hz];simp[may]
 rw[aMq h3 h4 hg,hz,hk]
 rfl
end
open Lx
open Go.Proofs.YticnbcfmbhjbgaaGreatDoor (row rows G.ups)
end Pz
namespace Go.Proofs.YticnbcfmbhjbgaaGreatDoor
open Go.RowKit Go.IntWalk Lx Pz

abbrev at9 (W:World)(g o:Nat)(n:Nd):Prop:=W.cell? ⟨g,o,none⟩=some (.i n.op)/\W.cell? ⟨g,o+1,none⟩=some (.i n.a)/\W.cell? ⟨g,o+2,none⟩=some (.i n.b)/\W.cell? ⟨g,o+3,none⟩=some (.i n.c)/\W.cell? ⟨g,o+4,none⟩=some (.i n.k)/\W.cell? ⟨g,o+5,none⟩=some (.i n.back)/\W.cell? ⟨g,o+6,none⟩=some (.i n.co)/\W.cell? ⟨g,o+7,none⟩=some (.i n.x)/\W.cell? ⟨g,o+8,none⟩=some (.i n.y)
theorem Nz.at {W:World}{a:Option Addr}{n cap:Nat}{L:List Nd}(h:Nz W a n cap L)(h0:0 < n):∃ g off,a=some ⟨g,off,none⟩/\∀ i,i < n->at9 W g (off+i*9) (L.getD i n0):=by
 rcases h.cell with h|⟨g,off,ha,-,hc⟩
 ·omega
 ·exact⟨g,off,ha,fun i hi=>⟨hc i hi 0 _ rfl,hc i hi 1 _ rfl,hc i hi 2 _ rfl,hc i hi 3 _ rfl,hc i hi 4 _ rfl,hc i hi 5 _ rfl,hc i hi 6 _ rfl,hc i hi 7 _ rfl,hc i hi 8 _ rfl⟩⟩
theorem aVg {l:List UInt8}{T:List Tok}(h:tks l=some T):T.length<=1024:=by
 obtain⟨h1,h2⟩:=aD1 h
 have:=aCi T _ 0 h1
 omega
end Go.Proofs.YticnbcfmbhjbgaaGreatDoor
