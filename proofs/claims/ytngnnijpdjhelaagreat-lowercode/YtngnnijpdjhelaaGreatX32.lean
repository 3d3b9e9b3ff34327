import Derived.Defers
import Derived.Recover
import Derived.Laws.Pointers
import Derived.SliceStrings
import Derived.Test.YtngnnijpdjhelaaGreatX31
namespace Go.Proofs.YtngnnijpdjhelaaGreat
open Go.RowKit Go.IntWalk Lx Pz
set_option linter.unusedVariables false
set_option maxRecDepth 100000
set_option maxHeartbeats 16000000
abbrev tr4 (a b c d:Value):Array Value:=#[a,b,c,d]
abbrev nil4:Array Value:=#[.slice none 0 0,.slice none 0 0,.slice none 0 0,.int .i64 0]
abbrev caught (w:World)(A B:Nat):World:=((((w.setCell ⟨A,0,none⟩ (.slice none 0 0)).setCell ⟨A,1,none⟩ (.slice none 0 0)).setCell ⟨A,2,none⟩ (.slice none 0 0)).setCell ⟨A,3,none⟩ (.int .i64 0)).setCell ⟨B,0,none⟩ (.int .i64 10)
theorem catch_panicking (A B:Nat)(x:Value)(u:TypeId)(pv:Value)(older:List PanicEntry)(w:World)(hA:HasC w A 28 nil4)(hB:HasC w B 33 #[x])(hne:A≠B) :
  CallsD Tryz.prog 31 #[.pointer (some ⟨A,0,none⟩),.pointer (some ⟨B,0,none⟩)] (.panicking ({ v:=.iface u pv,recovered:=false }::older)) w fun e u' w' =>
   e=.returned (.tuple #[])/\u'=.panicking ({ v:=.iface u pv,recovered:=true }::older)/\w'=caught w A B:=by
 obtain⟨c0,c1,c2,c3⟩:=facts4 hA
 obtain⟨y0,y1,y2,y3⟩:=free4 hA
 have cB:=hB.cell 0 rfl
 have yB:=hB.frozen 0
 have e1:=(hA.set 0 (.slice none 0 0)).cell 1 rfl
 have z1:=(hA.set 0 (.slice none 0 0)).frozen 1
 have e2:=((hA.set 0 (.slice none 0 0)).set 1 (.slice none 0 0)).cell 2 rfl
 have z2:=((hA.set 0 (.slice none 0 0)).set 1 (.slice none 0 0)).frozen 2
 have e3:=(((hA.set 0 (.slice none 0 0)).set 1 (.slice none 0 0)).set 2 (.slice none 0 0)).cell 3 rfl
 have z3:=(((hA.set 0 (.slice none 0 0)).set 1 (.slice none 0 0)).set 2 (.slice none 0 0)).frozen 3
 have eB:=((((hB.other (p:=⟨A,0,none⟩) (Ne.symm hne) (.slice none 0 0)).other (p:=⟨A,1,none⟩) (Ne.symm hne) (.slice none 0 0)).other (p:=⟨A,2,none⟩) (Ne.symm hne) (.slice none 0 0)).other (p:=⟨A,3,none⟩) (Ne.symm hne) (.int .i64 0)).cell 0 rfl
 have zB:=((((hB.other (p:=⟨A,0,none⟩) (Ne.symm hne) (.slice none 0 0)).other (p:=⟨A,1,none⟩) (Ne.symm hne) (.slice none 0 0)).other (p:=⟨A,2,none⟩) (Ne.symm hne) (.slice none 0 0)).other (p:=⟨A,3,none⟩) (Ne.symm hne) (.int .i64 0)).frozen 0
 refine callsD_of_wpS Tryz.func31 rfl fun c₀ cs hu=>?_
 apply wpS_seq
 apply wpS_region
 simp[wpOpsS,go_sem,recoverD,hu,Tryz.ntmps31,Exit.thenS]
 refine wpS_cond (t:=true) (by simp[Act.eval,Array.replicate]) ?_
 simp only[if_true]
 apply wpS_region
 simp[wpOpsS,go_sem,c0,y0,e1,z1,e2,z2,e3,z3,eB,zB,bodyPostS,results,Tryz.results31]
theorem catch_idle (p q:Value)(w:World) :
  CallsD Tryz.prog 31 #[p,q] .returning w fun e u' w'=>e=.returned (.tuple #[])/\u'=.returning/\w'=w:=by
 refine callsD_of_wpS Tryz.func31 rfl fun c₀ cs hu=>?_
 apply wpS_seq
 apply wpS_region
 simp[wpOpsS,go_sem,recoverD,hu,Tryz.ntmps31,Exit.thenS]
 refine wpS_cond (t:=false) (by simp[Act.eval,Array.replicate]) ?_
 simp only[Bool.false_eq_true,if_false]
 refine wpS_of_wp (wp_skip ?_)
 cases c₀
 simp_all [bodyPostS,results,Tryz.results31]
theorem caught_facts {w0 w:World}{A B:Nat}{a b c d x:Value}(hA:HasC w A 28 #[a,b,c,d])(hB:HasC w B 33 #[x])(hne:A≠B)(h0:Below w0.heap.size w0 w)(hA0:w0.heap.size<=A)(hB0:w0.heap.size<=B) :
   HasC (caught w A B) A 28 nil4/\HasC (caught w A B) B 33 #[.int .i64 10]/\Below w0.heap.size w0 (caught w A B) :=
 ⟨((((hA.set 0 (.slice none 0 0)).set 1 (.slice none 0 0)).set 2 (.slice none 0 0)).set 3 (.int .i64 0)).other (p:=⟨B,0,none⟩) hne (.int .i64 10),
  ((((hB.other (p:=⟨A,0,none⟩) (Ne.symm hne) (.slice none 0 0)).other (p:=⟨A,1,none⟩) (Ne.symm hne) (.slice none 0 0)).other (p:=⟨A,2,none⟩) (Ne.symm hne) (.slice none 0 0)).other (p:=⟨A,3,none⟩) (Ne.symm hne) (.int .i64 0)).set 0 (.int .i64 10),
  ((((h0.setCell (p:=⟨A,0,none⟩) hA0 _).setCell (p:=⟨A,1,none⟩) hA0 _).setCell (p:=⟨A,2,none⟩) hA0 _).setCell (p:=⟨A,3,none⟩) hA0 _).setCell (p:=⟨B,0,none⟩) hB0 _⟩
abbrev told (w:World)(A B:Nat)(a b c d x:Value):World:=((((w.setCell ⟨A,0,none⟩ a).setCell ⟨A,1,none⟩ b).setCell ⟨A,2,none⟩ c).setCell ⟨A,3,none⟩ d).setCell ⟨B,0,none⟩ x
theorem told_facts {w0 w:World}{A B:Nat}{a b c d x a' b' c' d' x':Value}(hA:HasC w A 28 #[a',b',c',d'])(hB:HasC w B 33 #[x'])(hne:A≠B)(h0:Below w0.heap.size w0 w)(hA0:w0.heap.size<=A)(hB0:w0.heap.size<=B) :
   HasC (told w A B a b c d x) A 28 #[a,b,c,d]/\HasC (told w A B a b c d x) B 33 #[x]/\Below w0.heap.size w0 (told w A B a b c d x)/\Kp [28,33] w (told w A B a b c d x) :=
 ⟨((((hA.set 0 a).set 1 b).set 2 c).set 3 d).other (p:=⟨B,0,none⟩) hne x,
  ((((hB.other (p:=⟨A,0,none⟩) (Ne.symm hne) a).other (p:=⟨A,1,none⟩) (Ne.symm hne) b).other (p:=⟨A,2,none⟩) (Ne.symm hne) c).other (p:=⟨A,3,none⟩) (Ne.symm hne) d).set 0 x,
  ((((h0.setCell (p:=⟨A,0,none⟩) hA0 _).setCell (p:=⟨A,1,none⟩) hA0 _).setCell (p:=⟨A,2,none⟩) hA0 _).setCell (p:=⟨A,3,none⟩) hA0 _).setCell (p:=⟨B,0,none⟩) hB0 _,
  ((((Kp.set hA (by simp) 0 a).trans (Kp.set (hA.set 0 a) (by simp) 1 b)).trans (Kp.set ((hA.set 0 a).set 1 b) (by simp) 2 c)).trans (Kp.set (((hA.set 0 a).set 1 b).set 2 c) (by simp) 3 d)).trans
    (Kp.set ((((hB.other (p:=⟨A,0,none⟩) (Ne.symm hne) a).other (p:=⟨A,1,none⟩) (Ne.symm hne) b).other (p:=⟨A,2,none⟩) (Ne.symm hne) c).other (p:=⟨A,3,none⟩) (Ne.symm hne) d) (by simp) 0 x)⟩
theorem res_parse {F:World}{A B:Nat}{a b c d:Value}{x:Int}{tmps:Array Value}(hA:HasC F A 28 #[a,b,c,d])(hB:HasC F B 33 #[.int .i64 x])(h2:tmps[2]?=some (.pointer (some ⟨A,0,none⟩)))(h3:tmps[3]?=some (.pointer (some ⟨B,0,none⟩))) :
  (results Tryz.f14 tmps).run Tryz.prog F=.ok (.tuple #[.agg #[a,b,c,d],.int .i64 x]) F:=by
 obtain⟨c0,c1,c2,c3⟩:=facts4 hA
 have cB:=hB.cell 0 rfl
 simp[results,Tryz.results14,go_sem,h2,h3,c0,c1,c2,c3,cB]
theorem owns_base {W:World}{base base':Nat}{e:TypeId}{size:Nat}{v:Value}{n:Nat}{xs:List Value}(h:W.ownsRow base' e size v n xs)(hb:base<=base'):W.ownsRow base e size v n xs:=by
 refine⟨h.1,?_⟩
 rcases h.2 with hn|⟨g,cap,cur,rfl,hg,rest⟩
 ·exact .inl hn
 ·exact .inr ⟨g,cap,cur,rfl,by omega,rest⟩
theorem owns_form {W:World}{base:Nat}{e:TypeId}{size:Nat}{v:Value}{n:Nat}{xs:List Value}(h:W.ownsRow base e size v n xs):∃ a cap,v=.slice a n cap:=by
 rcases h.2 with⟨rfl,rfl⟩|⟨g,cap,cur,rfl,hg,rest⟩
 ·exact⟨_,_,rfl⟩
 ·exact⟨_,_,rfl⟩
def ParP (w:World)(l:List UInt8)(e:Ending)(W':World):Prop :=
 (e=.returned (.tuple #[.agg nil4,.int .i64 10])/\Below w.heap.size w W'/\(tks l=none\/∃ T,tks l=some T/\Ans (T.map ab) none)) \/
 (∃ T NM es ex nv bv dv,tks l=some T/\Ans (T.map ab) (some (NM,es,ex))/\NM.length=es.length/\szL es+ex.size<=T.length /\
  e=.returned (.tuple #[.agg (tr4 nv bv dv (.int .i64 (((szL es+ex.size:Nat):Int)-1))),.int .i64 0])/\W'.ownsRow w.heap.size 9 1 nv NM.length (tx64 NM)/\W'.ownsRow w.heap.size 3 1 bv es.length (in64 (bdL es 0)) /\
  W'.ownsRow w.heap.size 65 9 dv (szL es+ex.size) (nd64 (flL es 0++ex.flat (szL es)))/\Below w.heap.size w W')
theorem parse_any (s:ByteArray)(w:World):Calls Tryz.prog 14 #[.string s] w fun e W'=>ParP w (bs s) e W':=by
 have hmf:∀(fn:Fn) (first cap:Array Value) (w:World),(Instr.makeFunc fn first cap).run Tryz.prog w=.ok (.func fn first cap) w:=fun _ _ _ _=>rfl
 go_enter_defers Tryz.func14,Tryz.ntmps14
 go_wp2_with fail
 refine(tokens_any s _).mono ?_
 have HB0:=hide (bel (bel1 w (.cells nil4 28)) (bel1 (w.alloc (.cells nil4 28)) (.cells #[.int .i64 0] 33)))
 have HA0:=hide ((HasC.new w 28 nil4).alloc (.cells #[.int .i64 0] 33))
 have HE0:=hide (HasC.new (w.alloc (.cells nil4 28)) 33 #[.int .i64 0])
 rintro e W1 (⟨hn,rfl,hb⟩|⟨T,v,hT,rfl,ho,hb⟩)
 ·have HN:=hide hn
  have HB1:=hide (bel HB0.out hb)
  have HA:=hide (HA0.out.below hb)
  have HE:=hide (HE0.out.below hb)
  rw[World.size_alloc] at HE
  clear hn hb HB0 HA0 HE0
  have e0:=HE.out.cell 0 rfl
  have z0:=HE.out.frozen 0
  have e1:=(HE.out.set 0 (.int .i64 10)).cell 0 rfl
  have z1:=(HE.out.set 0 (.int .i64 10)).frozen 0
  have HAs:=hide (HA.out.other (p:=⟨w.heap.size+1,0,none⟩) (show w.heap.size≠w.heap.size+1 by omega) (.int .i64 10))
  obtain⟨c0,c1,c2,c3⟩:=facts4 HAs.out
  obtain⟨y0,y1,y2,y3⟩:=free4 HAs.out
  go_wp2_with fail
  have HF:=caught_facts HAs.out (HE.out.set 0 (.int .i64 10)) (by omega) (HB1.out.setCell (p:=⟨w.heap.size+1,0,none⟩) (by simp) (.int .i64 10)) (Nat.le_refl _) (Nat.le_succ _)
  exact⟨_,res_parse HF.1 HF.2.1 rfl rfl,.inl ⟨rfl,HF.2.2,.inl HN.out⟩⟩
 ·have HT:=hide hT
  have HB1:=hide (bel HB0.out hb)
  have HA:=hide (HA0.out.below hb)
  have HE:=hide (HE0.out.below hb)
  rw[World.size_alloc] at HE
  have hTl:T.length<=1024:=by
   obtain⟨h1,h2⟩:=tks_cov hT
   have:=cov_len T _ 0 h1
   omega
  obtain⟨a,cap,rfl,hToks,-⟩:=Toks.of_owns ho
  have HZ:=hide (show Tz W1 a T.length cap T from⟨hToks,fun x hx=>by
   subst hx
   obtain⟨-,cs,fr,h⟩:=owns_block ho x.block rfl
   exact⟨cs,fr,h⟩⟩)
  have hAB:w.heap.size≠w.heap.size+1:=by omega
  have HAs:=hide (HA.out.other (p:=⟨w.heap.size+1,0,none⟩) hAB (.int .i64 0))
  have HEs:=hide (HE.out.set 0 (.int .i64 0))
  have HBs:=hide (HB1.out.setCell (p:=⟨w.heap.size+1,0,none⟩) (by simp) (.int .i64 0))
  have HZs:=hide (HZ.out.kp (Kp.set HE.out (List.mem_singleton.2 rfl) 0 (.int .i64 0)) (by decide))
  have e0:=HE.out.cell 0 rfl
  have z0:=HE.out.frozen 0
  have e1:=HEs.out.cell 0 rfl
  clear hT hb HB0 HA0 HE0 ho hToks HZ HB1 HA HE
  go_wp2_with fail
  obtain⟨S,hS⟩:∃ S,W1.setCell ⟨w.heap.size+1,0,none⟩ (.int .i64 0)=S:=⟨_,rfl⟩
  have hsz:W1.heap.size=S.heap.size:=by rw[<-hS];simp[World.setCell]
  rw[hS] at HAs HEs HBs HZs
  rw[hS,hsz]
  clear e0 z0 e1 hS hsz
  have hRd:Rd S (S.alloc (.cells #[.slice a T.length cap,.slice none 0 0,.slice none 0 0,.slice none 0 0,.int .i64 0] 81)) S.heap.size ⟨a,T.length,cap,.slice none 0 0,.slice none 0 0,.slice none 0 0,0⟩ T [] [] [] :=
   ⟨HasC.new _ _ _,Nat.le_refl _,HZs.out.kp (Kp.of_below [] (bel1 _ _)) (by simp),World.ownsRow_nil _ _ _ _,World.ownsRow_nil _ _ _ _,World.ownsRow_nil _ _ _ _,tks_wf HT.out,bel1 _ _⟩
  have HAa:=hide (HAs.out.alloc (.cells #[.slice a T.length cap,.slice none 0 0,.slice none 0 0,.slice none 0 0,.int .i64 0] 81))
  have HEa:=hide (HEs.out.alloc (.cells #[.slice a T.length cap,.slice none 0 0,.slice none 0 0,.slice none 0 0,.int .i64 0] 81))
  have HRd:=hide hRd
  clear hRd HZs
  refine(program_rd HRd.out hTl).mono ?_
  rintro e W2 ⟨res,hRP,(⟨rfl,rfl,hb2⟩|⟨NM,es,ex,rfl,hln,hsz,rfl,⟨m',hR,hroot⟩,hk⟩)⟩
  ·have HRP:=hide hRP.ans
   have HA2:=hide (HAs.out.below hb2)
   have HE2:=hide (HEs.out.below hb2)
   have HB2:=hide (bel HBs.out hb2)
   clear hb2 hRP
   go_wp2_with fail
   refine leaves_cons (f:=31) (args:=#[.pointer (some ⟨w.heap.size,0,none⟩),.pointer (some ⟨w.heap.size+1,0,none⟩)]) (by simp) (by simp[go_sem]) ?_
   refine(catch_panicking w.heap.size (w.heap.size+1) (.int .i64 0) 33 _ [] W2 HA2.out HE2.out hAB).mono ?_
   rintro e u' w'' ⟨rfl,rfl,rfl⟩
   have HF:=caught_facts HA2.out HE2.out hAB HB2.out (Nat.le_refl _) (Nat.le_succ _)
   exact⟨_,res_parse HF.1 HF.2.1 rfl rfl,.inl ⟨rfl,HF.2.2,.inr ⟨T,HT.out,HRP.out⟩⟩⟩
  ·have HRP:=hide hRP.ans
   have HA2:=hide (HAa.out.kp hk (by decide))
   have HE2:=hide (HEa.out.kp hk (by decide))
   have HB2:=hide (HBs.out.trans (hR.old.mono HBs.out.size))
   have HR2:=hide hR
   have HLN:=hide hln
   have HSZ:=hide hsz
   obtain⟨la,ln,lc,nv,bv,dv,root⟩:=m'
   simp only at hroot
   subst hroot
   obtain⟨zz,hzz⟩:∃ zz:Int,((szL es+ex.size:Nat):Int)-1=zz:=⟨_,rfl⟩
   have HZZ:=hide hzz
   rw[hzz] at HR2
   obtain⟨na,nc,hnv⟩:=owns_form HR2.out.names
   obtain⟨ba,bc,hbv⟩:=owns_form HR2.out.binds
   obtain⟨da,dc,hdv⟩:=owns_form HR2.out.nodes
   simp only at hnv hbv hdv
   generalize hn1:NM.length=n1 at hnv
   generalize hn2:(bdL es 0).length=n2 at hbv
   generalize hn3:(flL es 0++ex.flat (szL es)).length=n3 at hdv
   subst hnv hbv hdv
   clear hn1 hn2 hn3
   have c1:W2.cell? ⟨S.heap.size,1,none⟩=some (.slice na n1 nc):=HR2.out.blk.cell 1 rfl
   have c2:W2.cell? ⟨S.heap.size,2,none⟩=some (.slice ba n2 bc):=HR2.out.blk.cell 2 rfl
   have c3:W2.cell? ⟨S.heap.size,3,none⟩=some (.slice da n3 dc):=HR2.out.blk.cell 3 rfl
   have c4:W2.cell? ⟨S.heap.size,4,none⟩=some (.int .i64 zz):=HR2.out.blk.cell 4 rfl
   obtain⟨f0,f1,f2,f3⟩:=facts4 HA2.out
   obtain⟨y0,y1,y2,y3⟩:=free4 HA2.out
   have fB:=HE2.out.cell 0 rfl
   have yB:=HE2.out.frozen 0
   have e1:=(HA2.out.set 0 (.slice na n1 nc)).cell 1 rfl
   have z1:=(HA2.out.set 0 (.slice na n1 nc)).frozen 1
   have e2:=((HA2.out.set 0 (.slice na n1 nc)).set 1 (.slice ba n2 bc)).cell 2 rfl
   have z2:=((HA2.out.set 0 (.slice na n1 nc)).set 1 (.slice ba n2 bc)).frozen 2
   have e3:=(((HA2.out.set 0 (.slice na n1 nc)).set 1 (.slice ba n2 bc)).set 2 (.slice da n3 dc)).cell 3 rfl
   have z3:=(((HA2.out.set 0 (.slice na n1 nc)).set 1 (.slice ba n2 bc)).set 2 (.slice da n3 dc)).frozen 3
   have HEE:=hide ((((HE2.out.other (p:=⟨w.heap.size,0,none⟩) (Ne.symm hAB) (.slice na n1 nc)).other (p:=⟨w.heap.size,1,none⟩) (Ne.symm hAB) (.slice ba n2 bc)).other (p:=⟨w.heap.size,2,none⟩) (Ne.symm hAB) (.slice da n3 dc)).other (p:=⟨w.heap.size,3,none⟩) (Ne.symm hAB) (.int .i64 zz))
   have eB:=HEE.out.cell 0 rfl
   have zB:=HEE.out.frozen 0
   clear hR hk hRP hln hsz hzz
   go_wp2_with fail
   refine leaves_cons (f:=31) (args:=#[.pointer (some ⟨w.heap.size,0,none⟩),.pointer (some ⟨w.heap.size+1,0,none⟩)]) (by simp) (by simp[go_sem]) ?_
   refine(catch_idle _ _ _).mono ?_
   rintro e u' w'' ⟨rfl,rfl,rfl⟩
   obtain⟨q1,q2,q3,q4⟩:=told_facts (a:=(.slice na n1 nc)) (b:=(.slice ba n2 bc)) (c:=(.slice da n3 dc)) (d:=.int .i64 zz) (x:=.int .i64 0) HA2.out HE2.out hAB HB2.out (Nat.le_refl _) (Nat.le_succ _)
   refine⟨_,res_parse q1 q2 rfl rfl,.inr ⟨T,NM,es,ex,(.slice na n1 nc),(.slice ba n2 bc),(.slice da n3 dc),HT.out,HRP.out,HLN.out,HSZ.out,by rw[HZZ.out],owns_kp (owns_base HR2.out.names HBs.out.size) q4 (by decide),?_,?_,q3⟩⟩
   ·have:=owns_kp (owns_base HR2.out.binds HBs.out.size) q4 (by decide)
    rw[bdL_len] at this
    exact this
   ·have:=owns_kp (owns_base HR2.out.nodes HBs.out.size) q4 (by decide)
    rw[List.length_append,flL_len,E.flat_len] at this
    exact this
def n0:Nd:=⟨0,0,0,0,0,0,0,0,0⟩
theorem nd64_get:∀(L:List Nd) (i:Nat),i < L.length->∀ j v,(nd9 (L.getD i n0))[j]?=some v->(nd64 L)[i*9+j]?=some v
 | [],i,h=>by simp at h
 | p::L,0,h=>fun j v hv=>by
  have hj:j < 9:=by
   rcases Nat.lt_or_ge j 9 with h|h
   ·exact h
   ·rw[List.getElem?_eq_none (by simpa [nd9] using h)] at hv;cases hv
  simp only[nd64,List.flatMap_cons,Nat.zero_mul,Nat.zero_add]
  rw[List.getElem?_append_left (by simpa [nd9] using hj)]
  simpa using hv
 | p::L,i+1,h=>fun j v hv=>by
  have:=nd64_get L i (by simpa using h) j v (by simpa using hv)
  simp only[nd64,List.flatMap_cons] at this ⊢
  rw[List.getElem?_append_right (by simp[nd9];omega)]
  rw[show (i+1)*9+j-(nd9 p).length=i*9+j by simp[nd9];omega]
  exact this
structure Nz (W:World)(a:Option Addr)(n cap:Nat)(L:List Nd):Prop where
 len:L.length=n
 le:n<=cap
 max:cap<=maxLen
 cell:n=0\/∃ b off,a=some ⟨b,off,none⟩/\b < W.heap.size/\∀ i,i < n->∀ j v,(nd9 (L.getD i n0))[j]?=some v->W.cell? ⟨b,off+i*9+j,none⟩=some v
structure Iz (W:World)(a:Option Addr)(n cap:Nat)(L:List Int):Prop where
 len:L.length=n
 le:n<=cap
 max:cap<=maxLen
 cell:n=0\/∃ b off,a=some ⟨b,off,none⟩/\b < W.heap.size/\∀ i,i < n->W.cell? ⟨b,off+i,none⟩=some (.int .i64 (L.getD i 0))
theorem Nz.of_owns {W:World}{base:Nat}{v:Value}{n:Nat}{L:List Nd}(h:W.ownsRow base 65 9 v n (nd64 L)):∃ a cap,v=.slice a n cap/\Nz W a n cap L:=by
 have hl:L.length=n:=by have:=h.1;rw[nd64_len] at this;omega
 have hcs:=fun g hg=>h.cells (g:=g) hg
 have hlt:=h.lt
 rcases h.2 with⟨rfl,rfl⟩|⟨g,cap,cur,rfl,hb,hg,hnc,hcm,hsz,htake⟩
 ·exact⟨none,0,rfl,⟨hl,Nat.le_refl _,Nat.zero_le _,.inl rfl⟩⟩
 ·refine⟨some ⟨g,0,none⟩,cap,rfl,⟨hl,hnc,hcm,.inr ⟨g,0,rfl,(hlt g rfl).2,fun i hi j u hu=>?_⟩⟩⟩
  have:=hcs g rfl _ _ (nd64_get L i (by omega) j u hu)
  rw[Addr.add_lit] at this
  rw[Nat.add_assoc]
  exact this
theorem Iz.of_owns {W:World}{base:Nat}{v:Value}{n:Nat}{L:List Int}(h:W.ownsRow base 3 1 v n (in64 L)):∃ a cap,v=.slice a n cap/\Iz W a n cap L:=by
 have hl:L.length=n:=by have:=h.1;simpa using this
 have hcs:=fun g hg=>h.cells (g:=g) hg
 have hlt:=h.lt
 rcases h.2 with⟨rfl,rfl⟩|⟨g,cap,cur,rfl,hb,hg,hnc,hcm,hsz,htake⟩
 ·exact⟨none,0,rfl,⟨hl,Nat.le_refl _,Nat.zero_le _,.inl rfl⟩⟩
 ·refine⟨some ⟨g,0,none⟩,cap,rfl,⟨hl,hnc,hcm,.inr ⟨g,0,rfl,(hlt g rfl).2,fun i hi=>?_⟩⟩⟩
  have:=hcs g rfl i (.int .i64 (L.getD i 0)) (by rw[List.getElem?_map,List.getD_eq_getElem?_getD,List.getElem?_eq_getElem (by omega)];rfl)
  rwa[Addr.add_lit] at this
theorem Nz.later {W W':World}{a:Option Addr}{n cap:Nat}{L:List Nd}(h:Nz W a n cap L)(hb:Below W.heap.size W W'):Nz W' a n cap L:=by
 refine⟨h.len,h.le,h.max,?_⟩
 rcases h.cell with h0|⟨b,off,ha,hlt,hc⟩
 ·exact .inl h0
 ·exact .inr ⟨b,off,ha,Nat.lt_of_lt_of_le hlt hb.size,fun i hi j v hv=>(hb.cell (p:=⟨b,off+i*9+j,none⟩) hlt).trans (hc i hi j v hv)⟩
theorem Iz.later {W W':World}{a:Option Addr}{n cap:Nat}{L:List Int}(h:Iz W a n cap L)(hb:Below W.heap.size W W'):Iz W' a n cap L:=by
 refine⟨h.len,h.le,h.max,?_⟩
 rcases h.cell with h0|⟨b,off,ha,hlt,hc⟩
 ·exact .inl h0
 ·exact .inr ⟨b,off,ha,Nat.lt_of_lt_of_le hlt hb.size,fun i hi=>(hb.cell (p:=⟨b,off+i,none⟩) hlt).trans (hc i hi)⟩
theorem Tx.later {W W':World}{a:Option Addr}{n cap:Nat}{L:List Txt}(h:Tx W a n cap L)(hb:Below W.heap.size W W'):Tx W' a n cap L:=by
 refine⟨h.len,h.le,h.max,?_⟩
 rcases h.cell with h0|⟨b,off,ha,hc⟩
 ·exact .inl h0
 ·by_cases hn:n=0
  ·exact .inl hn
  ·have hlt:=World.block_lt_of_cell? W _ (hc 0 (by omega))
   exact .inr ⟨b,off,ha,fun i hi=>(hb.cell (p:=⟨b,off+i,none⟩) hlt).trans (hc i hi)⟩
def ParR (w:World)(l:List UInt8)(e:Ending)(W':World):Prop :=
 (e=.returned (.tuple #[.agg nil4,.int .i64 10])/\Below w.heap.size w W'/\(tks l=none\/∃ T,tks l=some T/\Ans (T.map ab) none)) \/
 (∃ T NM es ex na nc ba bc da dc,tks l=some T/\Ans (T.map ab) (some (NM,es,ex))/\NM.length=es.length/\szL es+ex.size<=T.length /\
  e=.returned (.tuple #[.agg (tr4 (.slice na es.length nc) (.slice ba es.length bc) (.slice da (szL es+ex.size) dc) (.int .i64 (((szL es+ex.size:Nat):Int)-1))),.int .i64 0])/\Tx W' na es.length nc NM/\Iz W' ba es.length bc (bdL es 0) /\
  Nz W' da (szL es+ex.size) dc (flL es 0++ex.flat (szL es))/\Below w.heap.size w W')
theorem parse_read (s:ByteArray)(w:World):Calls Tryz.prog 14 #[.string s] w fun e W'=>ParR w (bs s) e W':=by
 refine(parse_any s w).mono ?_
 rintro e W' (h|⟨T,NM,es,ex,nv,bv,dv,h1,h2,h3,h4,h5,h6,h7,h8,h9⟩)
 ·exact .inl h
 ·obtain⟨na,nc,rfl,hx⟩:=Tx.of_owns h6
  obtain⟨ba,bc,rfl,hi⟩:=Iz.of_owns h7
  obtain⟨da,dc,rfl,hn⟩:=Nz.of_owns h8
  rw[h3] at hx h5
  exact .inr ⟨T,NM,es,ex,na,nc,ba,bc,da,dc,h1,h2,h3,h4,h5,hx,hi,hn,h9⟩
theorem G.ups {nm : List Txt} {l : List Tk} {e : E} {c : Nat} (h : G nm c l e) : ∀ {c' : Nat}, c' ≤ c → c ≤ 8 → G nm c' l e := by
  induction c with
  | zero => intro c' h1 h2; obtain rfl : c' = 0 := by omega
            exact h
  | succ c ih =>
    intro c' h1 h2
    by_cases e : c' = c + 1
    · subst e; exact h
    · exact ih (G.up (by omega) h) (by omega) (by omega)
end Go.Proofs.YtngnnijpdjhelaaGreat
namespace Go.Proofs.YtngnnijpdjhelaaGreat
open Go.ChangeShapes Go.WideShapes Go.ChangeAt Go.RowKit Lx Pz
set_option linter.unusedVariables false
set_option maxRecDepth 100000
set_option maxHeartbeats 16000000
theorem tcells3:Tryz.prog.cellsOf 3=1:=by kernel_rfl
theorem tcells9:Tryz.prog.cellsOf 9=1:=by kernel_rfl
theorem tcellsN:Tryz.prog.cellsOf 65=9:=by kernel_rfl
theorem tcellsPl:Tryz.prog.cellsOf 63=4:=by kernel_rfl
theorem tcellsTr:Tryz.prog.cellsOf 28=4:=by kernel_rfl
theorem len4 {cs:List Value}(h:cs.length=4):∃ c0 c1 c2 c3,cs=[c0,c1,c2,c3]:=by
 match cs,h with
 | [c0,c1,c2,c3],_=>exact⟨c0,c1,c2,c3,rfl⟩
theorem len9 {cs:List Value}(h:cs.length=9):∃ c0 c1 c2 c3 c4 c5 c6 c7 c8,cs=[c0,c1,c2,c3,c4,c5,c6,c7,c8]:=by
 match cs,h with
 | [c0,c1,c2,c3,c4,c5,c6,c7,c8],_=>exact⟨c0,c1,c2,c3,c4,c5,c6,c7,c8,rfl⟩
theorem field_int {H:Type}{enc:TypeId × Value->H}{W:World}{b:Nat}{sp:Nat->Bool}{hd:Bool}{n:Nat}{v:Value}{y:Option (DataW H × List MemPlace)}
  (h:DataW.trod enc Tryz.prog W b sp hd n 3 [v]=y) (hy:y.isSome=true):∃ a,v=.int .i64 a:=by
 cases y with
 | none=>cases hy
 | some x =>
  obtain⟨a,h1,h2,h3⟩:=DataW.trod_int Tryz.underlying3 h
  simp at h1
  exact⟨a,h1⟩
theorem open_pl {H:Type}{enc:TypeId × Value->H}{W:World}{b:Nat}{sp:Nat->Bool}{hd:Bool}{fuel:Nat}{cs:List Value}{x:DataW H × List MemPlace}
  (h:DataW.trod enc Tryz.prog W b sp hd fuel 63 cs=some x):∃ p q r s,cs=[.int .i64 p,.int .i64 q,.int .i64 r,.int .i64 s]:=by
 obtain⟨xs,n,_,hx,hl,hxs,hall⟩:=DataW.trod_struct Tryz.underlying63 h
 rw[tcellsPl] at hl
 have hlen:xs.length=4:=hxs
 obtain⟨c0,c1,c2,c3,rfl⟩:=len4 hl
 ·have f0:=hall 0 _ rfl
  have f1:=hall 1 _ rfl
  have f2:=hall 2 _ rfl
  have f3:=hall 3 _ rfl
  obtain⟨p,rfl⟩:=field_int (v:=c0) f0 (by simp[hlen])
  obtain⟨q,rfl⟩:=field_int (v:=c1) f1 (by simp[hlen])
  obtain⟨r,rfl⟩:=field_int (v:=c2) f2 (by simp[hlen])
  obtain⟨s,rfl⟩:=field_int (v:=c3) f3 (by simp[hlen])
  exact⟨p,q,r,s,rfl⟩
theorem open_nd {H:Type}{enc:TypeId × Value->H}{W:World}{b:Nat}{sp:Nat->Bool}{hd:Bool}{fuel:Nat}{cs:List Value}{x:DataW H × List MemPlace}
  (h:DataW.trod enc Tryz.prog W b sp hd fuel 65 cs=some x):∃ n:Nd,cs=nd9 n:=by
 obtain⟨xs,n,_,hx,hl,hxs,hall⟩:=DataW.trod_struct Tryz.underlying65 h
 rw[tcellsN] at hl
 have hlen:xs.length=6:=hxs
 obtain⟨c0,c1,c2,c3,c4,c5,c6,c7,c8,rfl⟩:=len9 hl
 ·have f0:=hall 0 _ rfl
  have f1:=hall 1 _ rfl
  have f2:=hall 2 _ rfl
  have f3:=hall 3 _ rfl
  have f4:=hall 4 _ rfl
  have f5:=hall 5 _ rfl
  obtain⟨y0,rfl⟩:=field_int (v:=c0) f0 (by simp[hlen])
  obtain⟨y1,rfl⟩:=field_int (v:=c1) f1 (by simp[hlen])
  obtain⟨y2,rfl⟩:=field_int (v:=c2) f2 (by simp[hlen])
  obtain⟨y3,rfl⟩:=field_int (v:=c3) f3 (by simp[hlen])
  obtain⟨y4,rfl⟩:=field_int (v:=c4) f4 (by simp[hlen])
  obtain⟨z,hz⟩:∃ z,xs[5]?=some z:=⟨xs[5],List.getElem?_eq_getElem (by omega)⟩
  rw[hz] at f5
  obtain⟨p,q,r,s,hp⟩:=open_pl (cs:=[c5,c6,c7,c8]) f5
  simp only[List.cons.injEq,and_true] at hp
  obtain⟨rfl,rfl,rfl,rfl⟩:=hp
  exact⟨⟨y0,y1,y2,y3,y4,p,q,r,s⟩,rfl⟩
theorem open_names {H:Type}{enc:TypeId × Value->H}{W:World}{fuel:Nat}{v:Value}{x:DataW H × List MemPlace}
  (h:DataW.trod enc Tryz.prog W 0 (fun _=>true) true fuel 24 [v]=some x) :
  ∃ a n c L,v=.slice a n c/\Tx W a n c L/\(∀ s ∈ L,s.length<=9223372036854775807)/\(a=none->n=0/\c=0)/\((x.1=.nil/\n=0)\/∃ els spare,x.1=.slice els spare/\els.length=n):=by
 rcases open_strings Tryz.underlying24 Tryz.underlying9 tcells9 h with⟨hcs,hx⟩|⟨ad,l,c',ss,hcs,_,hl,hm,hss,hx,hcell,hsz⟩
 ·simp at hcs
  exact⟨none,0,0,[],hcs,⟨rfl,Nat.le_refl _,Nat.zero_le _,.inl rfl⟩,by simp,fun _=>⟨rfl,rfl⟩,.inl ⟨by rw[hx],rfl⟩⟩
 ·simp at hcs
  simp only[if_true] at hss
  refine⟨some ad,l,c',(ss.take l).map bs,hcs,⟨by rw[List.length_map,List.length_take];omega,hl,hm,?_⟩,?_,(fun h=>by cases h),.inr ⟨_,_,by rw[hx],?_⟩⟩
  ·by_cases h0:l=0
   ·exact .inl h0
   ·obtain⟨b,off,spot⟩:=ad
    have hspot:spot=none:=by simpa [Addr.add] using World.cell?_spot (hcell 0 (by omega))
    subst hspot
    refine .inr ⟨b,off,rfl,fun i hi=>?_⟩
    have:=hcell i (by omega)
    rw[Addr.add_lit] at this
    rw[this]
    have e:((ss.take l).map bs).getD i []=bs (ss.getD i ByteArray.empty):=by
     rw[List.getD_eq_getElem?_getD,List.getElem?_map,List.getElem?_take_of_lt hi,List.getD_eq_getElem?_getD,List.getElem?_eq_getElem (by omega)]
     rfl
    rw[e,sB_bs]
  ·intro s hs
   rw[List.mem_map] at hs
   obtain⟨u,hu,rfl⟩:=hs
   have:=hsz u (List.mem_of_mem_take hu)
   rw[bs_len]
   unfold maxLen at this
   omega
  ·simp[strs,List.length_take]
   omega
theorem open_binds {H:Type}{enc:TypeId × Value->H}{W:World}{fuel:Nat}{v:Value}{x:DataW H × List MemPlace}
  (h:DataW.trod enc Tryz.prog W 0 (fun _=>true) true fuel 25 [v]=some x) :
  ∃ a n c L,v=.slice a n c/\Iz W a n c L/\(a=none->n=0/\c=0)/\((x.1=.nil/\n=0)\/∃ els spare,x.1=.slice els spare/\els.length=n):=by
 rcases open_ints Tryz.underlying25 Tryz.underlying3 tcells3 h with⟨hcs,hx⟩|⟨ad,l,c',zs,hcs,_,hl,hm,hz,hx,hcell,hwz⟩
 ·simp at hcs
  exact⟨none,0,0,[],hcs,⟨rfl,Nat.le_refl _,Nat.zero_le _,.inl rfl⟩,fun _=>⟨rfl,rfl⟩,.inl ⟨by rw[hx],rfl⟩⟩
 ·simp at hcs
  simp only[if_true] at hz
  refine⟨some ad,l,c',zs.take l,hcs,⟨by rw[List.length_take];omega,hl,hm,?_⟩,(fun h=>by cases h),.inr ⟨_,_,by rw[hx],?_⟩⟩
  ·by_cases h0:l=0
   ·exact .inl h0
   ·obtain⟨b,off,spot⟩:=ad
    have hspot:spot=none:=by simpa [Addr.add] using World.cell?_spot (hcell 0 (by omega))
    subst hspot
    refine .inr ⟨b,off,rfl,World.block_lt_of_cell? W _ (hcell 0 (by omega)),fun i hi=>?_⟩
    have:=hcell i (by omega)
    rw[Addr.add_lit] at this
    rw[this]
    simp[List.getD,hi]
  ·simp[lits,List.length_take]
   omega
theorem open_nodes {H:Type}{enc:TypeId × Value->H}{W:World}{fuel:Nat}{v:Value}{x:DataW H × List MemPlace}
  (h:DataW.trod enc Tryz.prog W 0 (fun _=>true) true fuel 26 [v]=some x) :
  ∃ a n c L,v=.slice a n c/\Nz W a n c L/\(a=none->n=0/\c=0)/\((x.1=.nil/\n=0)\/∃ els spare,x.1=.slice els spare/\els.length=n):=by
 rcases DataW.trod_slice Tryz.underlying26 h with⟨hcs,hx⟩|⟨ad,l,c',elems,rest,m,_,hcs,hx,_,hl,hm,hlen,hel,-,-⟩
 ·simp at hcs
  exact⟨none,0,0,[],hcs,⟨rfl,Nat.le_refl _,Nat.zero_le _,.inl rfl⟩,fun _=>⟨rfl,rfl⟩,.inl ⟨by rw[hx],rfl⟩⟩
 ·simp at hcs
  by_cases h0:l=0
  ·exact⟨some ad,l,c',[],hcs,⟨h0.symm,hl,hm,.inl h0⟩,(fun h=>by cases h),.inr ⟨_,_,by rw[hx],by simp[hlen]⟩⟩
  obtain⟨b,off,spot⟩:=ad
  have hspot:spot=none:=by
   have h1:=hel 0 (by omega)
   rw[tcellsN,List.getElem?_eq_getElem (by omega),Option.bind_eq_some_iff] at h1
   obtain⟨cs,hc,ht⟩:=h1
   obtain⟨n,rfl⟩:=open_nd ht
   obtain⟨-,hcl,hce⟩:=World.cells?_some hc
   have h2:=hce 0 (by omega)
   exact by simpa [Addr.add] using World.cell?_spot (h2.trans rfl)
  subst hspot
  have each:∀ i,i < l->∃ n:Nd,∀ j v,(nd9 n)[j]?=some v->W.cell? ⟨b,off+i*9+j,none⟩=some v:=by
   intro i hi
   have h1:=hel i hi
   rw[tcellsN,List.getElem?_eq_getElem (by omega),Option.bind_eq_some_iff] at h1
   obtain⟨cs,hc,ht⟩:=h1
   obtain⟨n,rfl⟩:=open_nd ht
   obtain⟨-,hcl,hce⟩:=World.cells?_some hc
   refine⟨n,fun j v hj=>?_⟩
   have hj9:j < 9:=by have:=(List.getElem?_eq_some_iff.1 hj).1;omega
   have:=hce j hj9
   rw[hj,Addr.add_lit,Addr.add_lit] at this
   exact this
  obtain⟨S,hS⟩:∃ S:Nat->Nd,∀ i,i < l->∀ j v,(nd9 (S i))[j]?=some v->W.cell? ⟨b,off+i*9+j,none⟩=some v:=by
   refine⟨fun i=>if hi:i < l then(each i hi).choose else n0,fun i hi=>?_⟩
   simp only[dif_pos hi]
   exact(each i hi).choose_spec
  have hget:∀ i,i < l->((List.range l).map S).getD i n0=S i:=fun i hi=>by simp[List.getD,hi]
  refine⟨some ⟨b,off,none⟩,l,c',(List.range l).map S,hcs,⟨by simp,hl,hm,?_⟩,(fun h=>by cases h),.inr ⟨_,_,by rw[hx],by simp[hlen]⟩⟩
  refine .inr ⟨b,off,rfl,World.block_lt_of_cell? W _ (hS 0 (by omega) 0 _ rfl),fun i hi j v hj=>?_⟩
  rw[hget i hi] at hj
  exact hS i hi j v hj
theorem open_tree {H:Type}{enc:TypeId × Value->H}{W:World}{r:Reach}{b0:Nat}{v:Value}{d:DataW H}{ps:List MemPlace}
  (hval:Value.okWide Tryz.prog W r b0 28 v) (h:DataW.Trod enc Tryz.prog W 0 (fun _=>true) true 28 v d ps) :
  ∃ na nl nc NM ba bl bc BS da dl dc NS root,v=.agg (tr4 (.slice na nl nc) (.slice ba bl bc) (.slice da dl dc) (.int .i64 root))/\Tx W na nl nc NM/\(∀ s ∈ NM,s.length<=9223372036854775807)/\Iz W ba bl bc BS/\Nz W da dl dc NS/\(na=none->nl=0/\nc=0)/\(ba=none->bl=0/\bc=0)/\(da=none->dl=0/\dc=0) /\
   ∃ e0 e1 e2 e3,d=.agg [e0,e1,e2,e3]/\((e0=.nil/\nl=0)\/∃ els spare,e0=.slice els spare/\els.length=nl)/\((e1=.nil/\bl=0)\/∃ els spare,e1=.slice els spare/\els.length=bl)/\((e2=.nil/\dl=0)\/∃ els spare,e2=.slice els spare/\els.length=dl):=by
 unfold Value.okWide at hval
 rw[Tryz.underlying28] at hval
 obtain⟨cs,rfl,hsz,_⟩:=hval
 rw[tcellsTr] at hsz
 obtain⟨fuel,hf⟩:=h
 obtain⟨xs,n,_,hx,hl,hxs,hall⟩:=DataW.trod_struct Tryz.underlying28 hf
 obtain⟨c0,c1,c2,c3,rfl⟩:∃ c0 c1 c2 c3,cs=#[c0,c1,c2,c3]:=by
  obtain⟨l⟩:=cs
  obtain⟨c0,c1,c2,c3,rfl⟩:=len4 (cs:=l) hsz
  exact⟨c0,c1,c2,c3,rfl⟩
 have hlen:xs.length=4:=hxs
 obtain⟨y0,y1,y2,y3,rfl⟩:∃ y0 y1 y2 y3,xs=[y0,y1,y2,y3]:=by
  match xs,hlen with
  | [y0,y1,y2,y3],_=>exact⟨y0,y1,y2,y3,rfl⟩
 have f0:=hall 0 _ rfl
 have f1:=hall 1 _ rfl
 have f2:=hall 2 _ rfl
 have f3:=hall 3 _ rfl
 simp only[Value.cells] at f0 f1 f2 f3
 obtain⟨na,nl,nc,NM,rfl,hX,hXs,n0,g0⟩:=open_names (v:=c0) f0
 obtain⟨ba,bl,bc,BS,rfl,hB,n1,g1⟩:=open_binds (v:=c1) f1
 obtain⟨da,dl,dc,NS,rfl,hN,n2,g2⟩:=open_nodes (v:=c2) f2
 obtain⟨root,rfl⟩:=field_int (v:=c3) f3 rfl
 simp only[Prod.mk.injEq] at hx
 exact⟨na,nl,nc,NM,ba,bl,bc,BS,da,dl,dc,NS,root,rfl,hX,hXs,hB,hN,n0,n1,n2,y0.1,y1.1,y2.1,y3.1,by rw[hx.1];rfl,g0,g1,g2⟩
theorem tbytes9:Tryz.prog.bytesOf 9=16:=by kernel_rfl
theorem tbytes3:Tryz.prog.bytesOf 3=8:=by kernel_rfl
theorem tbytesN:Tryz.prog.bytesOf 65=72:=by kernel_rfl
theorem tree_reach {H:Type}{nl bl dl:Nat}{d:DataW H}{ts:List TypeId}{ds:List (DataW H)}{e0 e1 e2 e3:DataW H}(hd:d=.agg [e0,e1,e2,e3])
  (h0:(e0=.nil/\nl=0)\/∃ els spare,e0=.slice els spare/\els.length=nl) (h1:(e1=.nil/\bl=0)\/∃ els spare,e1=.slice els spare/\els.length=bl) (h2:(e2=.nil/\dl=0)\/∃ els spare,e2=.slice els spare/\els.length=dl)
  (hsz:(DataW.weightsEach Tryz.prog ts ds).all (·<=reachBytes)=true) (j:Nat) (ht:ts[j]?=some 28) (hj:ds[j]?=some d):(nl+1)*16<=140737488355328/\(bl+1)*8<=140737488355328/\(dl+1)*72<=140737488355328:=by
 subst hd
 refine⟨?_,?_,?_⟩
 ·rcases h0 with⟨_,rfl⟩|⟨els,spare,rfl,rfl⟩
  ·omega
  ·have hmem:(els.length+spare.length)*Tryz.prog.bytesOf 9 ∈ (DataW.agg [DataW.slice els spare,e1,e2,e3]).weights Tryz.prog 28:=by
    simp[DataW.weights,Tryz.underlying28,DataW.weightsEach,Tryz.underlying24]
   have:=of_decide_eq_true (List.all_eq_true.1 hsz _ (DataW.weights_mem_each ht hj _ hmem))
   rw[tbytes9] at this
   simp only[reachBytes] at this
   omega
 ·rcases h1 with⟨_,rfl⟩|⟨els,spare,rfl,rfl⟩
  ·omega
  ·have hmem:(els.length+spare.length)*Tryz.prog.bytesOf 3 ∈ (DataW.agg [e0,DataW.slice els spare,e2,e3]).weights Tryz.prog 28:=by
    simp[DataW.weights,Tryz.underlying28,DataW.weightsEach,Tryz.underlying25]
   have:=of_decide_eq_true (List.all_eq_true.1 hsz _ (DataW.weights_mem_each ht hj _ hmem))
   rw[tbytes3] at this
   simp only[reachBytes] at this
   omega
 ·rcases h2 with⟨_,rfl⟩|⟨els,spare,rfl,rfl⟩
  ·omega
  ·have hmem:(els.length+spare.length)*Tryz.prog.bytesOf 65 ∈ (DataW.agg [e0,e1,DataW.slice els spare,e3]).weights Tryz.prog 28:=by
    simp[DataW.weights,Tryz.underlying28,DataW.weightsEach,Tryz.underlying26]
   have:=of_decide_eq_true (List.all_eq_true.1 hsz _ (DataW.weights_mem_each ht hj _ hmem))
   rw[tbytesN] at this
   simp only[reachBytes] at this
   omega
end Go.Proofs.YtngnnijpdjhelaaGreat
