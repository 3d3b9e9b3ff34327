import Derived.Test.YticnbcfmbhjbgaaGreatDoorXH
import Derived.Deep.RegionHeld3
import Derived.Deep.AppendLies
import Derived.Lib.SliceRun
import Derived.Deep.CutRange
import Derived.Laws.EntriesVeiled
import Derived.Test.YticnbcfmbhjbgaaGreatDoorX14
import Derived.Test.YticnbcfmbhjbgaaGreatDoorX13
set_option maxRecDepth 100000
set_option maxHeartbeats 32000000
set_option linter.unusedVariables false
namespace Go.Proofs.Chn
open Go.RowKit Go.IntWalk Knd
open YticnbcfmbhjbgaaGreatDoor (Wd pE Fits inpV)
open Cde (In i0 ia kd cd Ins dA bG dG aG dH qN fH uV kS aS)
open Vfy (bB w32 rR aJ)
open YticnbcfmbhjbgaaGreatDoor (aB)
def hrX (Z:Int × List Int)(o:Int):Int:=if Z.1=0 then Z.2.getD o.toNat 0 else 0
def hrV (Z:Int × List Int)(o:Int):Value:=.tuple #[.i (hrX Z o),.i Z.1]
end Go.Proofs.Chn
namespace Go.Proofs.Chn
open Go.RowKit Go.IntWalk Knd
open YticnbcfmbhjbgaaGreatDoor (Wd pE Fits inpV)
open Cde (In i0 ia kd cd Ins aH aC aO aI bG zA dH iZ dK abc)
open YticnbcfmbhjbgaaGreatDoor (aB)
variable {V:World} {lo:Nat} {d f:Int} {m:In} {F:Value}
inductive St (V:World) (lo:Nat) (f d:Int) (m:In):Value->Prop
 | con (b:Nat) (x:Int) (hx:∀ v D,dH f d v D m=(x,0)) (hb:lo<=b) (hc:aB V b 3 #[.i x]):St V lo f d m (.func (.func 285) #[] #[.pointer (some ⟨b,0,none⟩)])
 | inx (hx:∀ v D,dH f d v D m=(v.x,0)):St V lo f d m (.func (.func 286) #[] #[])
 | iny (hx:∀ v D,dH f d v D m=(v.y,0)):St V lo f d m (.func (.func 287) #[] #[])
 | inc (hx:∀ v D,dH f d v D m=(v.c,0)):St V lo f d m (.func (.func 288) #[] #[])
 | place (b:Nat) (h3:m.op=3) (hb:lo<=b) (hc:aB V b 132 (ia m)):St V lo f d m (.func (.func 221) #[] #[.pointer (some ⟨b,0,none⟩)])
 | opr (b q g:Nat) (h1:m.op≠1) (h2:m.op≠2) (h3:m.op≠3) (hb:lo<=b) (hq:lo<=q) (hg:lo<=g) (hc:aB V b 132 (ia m)) (hr:aB V q 24 #[.slice (some ⟨g,0,none⟩) (dK m) 3]) (ha:aB V g 3 (zA (abc m))) :
  St V lo f d m (.func (.func 289) #[] #[.pointer (some ⟨q,0,none⟩),.pointer (some ⟨b,0,none⟩)])
theorem St.form (h:St V lo f d m F):∃ fn fs cp,F=.func fn fs cp:=by cases h <;> exact⟨_,_,_,rfl⟩
theorem St.later {V':World}(h:St V lo f d m F)(hb:Below V.heap.size V V'):St V' lo f d m F:=by
 cases h with
 | con b x hx hl hc=>exact .con b x hx hl (hc.below hb)
 | inx hx=>exact .inx hx
 | iny hx=>exact .iny hx
 | inc hx=>exact .inc hx
 | place b h3 hl hc=>exact .place b h3 hl (hc.below hb)
 | opr b q g h1 h2 h3 hl hq hg hc hr ha=>exact .opr b q g h1 h2 h3 hl hq hg (hc.below hb) (hr.below hb) (ha.below hb)
theorem St.put (h:St V lo f d m F){g:Nat}(hn:g < lo)(i:Nat)(u:Value):St (V.setCell ⟨g,i,none⟩ u) lo f d m F:=by
 cases h with
 | con b x hx hl hc=>exact .con b x hx hl (hc.other (p:=⟨g,i,none⟩) (by simp;omega) u)
 | inx hx=>exact .inx hx
 | iny hx=>exact .iny hx
 | inc hx=>exact .inc hx
 | place b h3 hl hc=>exact .place b h3 hl (hc.other (p:=⟨g,i,none⟩) (by simp;omega) u)
 | opr b q r h1 h2 h3 hl hq hg hc hr ha=>exact .opr b q r h1 h2 h3 hl hq hg (hc.other (p:=⟨g,i,none⟩) (by simp;omega) u) (hr.other (p:=⟨g,i,none⟩) (by simp;omega) u) (ha.other (p:=⟨g,i,none⟩) (by simp;omega) u)
theorem St.mono {lo':Nat}(h:St V lo f d m F)(hl:lo'<=lo):St V lo' f d m F:=by
 cases h with
 | con b x hx hb hc=>exact .con b x hx (Nat.le_trans hl hb) hc
 | inx hx=>exact .inx hx
 | iny hx=>exact .iny hx
 | inc hx=>exact .inc hx
 | place b h3 hb hc=>exact .place b h3 (Nat.le_trans hl hb) hc
 | opr b q g h1 h2 h3 hb hq hg hc hr ha=>exact .opr b q g h1 h2 h3 (Nat.le_trans hl hb) (Nat.le_trans hl hq) (Nat.le_trans hl hg) hc hr ha
end Go.Proofs.Chn
namespace Go.Proofs.Chn
open Go.RowKit Go.IntWalk Knd
open YticnbcfmbhjbgaaGreatDoor (Wd pE Fits inpV)
open Cde (In i0 ia kd cd Ins aH aC aO aI zA dH dK abc)
open YticnbcfmbhjbgaaGreatDoor (aB)
theorem vD (x:Int)(W:World):Calls Tryz.prog 219 #[.i x] W fun e W'=>e=.returned (.func (.func 285) #[] #[.pointer (some ⟨W.heap.size,0,none⟩)])/\aB W' W.heap.size 3 #[.i x]/\Below W.heap.size W W':=by
 have hmf:∀(fn:Fn) (first cap:Array Value) (w:World),(Instr.makeFunc fn first cap).run Tryz.prog w=.ok (.func fn first cap) w:=fun _ _ _ _=>rfl
 have HB:=aA (aD W (.cells #[.i x] 3))
 have HC:=aA (aB.new W 3 #[.i x])
 go_enter Tryz.func219,Tryz.ntmps219
 go_wp2_with fail
 go_ret
 exact⟨rfl,HC.o,HB.o⟩
def RyP (W:World)(f d:Int)(m:In)(e:Ending)(W':World):Prop:=∃ F,e=.returned F/\St W' W.heap.size f d m F/\Below W.heap.size W W'
theorem RyP.con {W V:World}{f d:Int}{m:In}{x:Int}(hx:∀ v D,dH f d v D m=(x,0)){b:Nat}(hl:W.heap.size<=b)(hc:aB V b 3 #[.i x])(hb:Below W.heap.size W V):RyP W f d m (.returned (.func (.func 285) #[] #[.pointer (some ⟨b,0,none⟩)])) V :=
 ⟨_,rfl,.con _ x hx hl hc,hb⟩
theorem aGi (f d:Int)(m:In)(h2:m.op=2)(W:World):Calls Tryz.prog 220 #[.agg (kd f d),.i m.k] W (RyP W f d m):=by
 have hv:∀ v D,dH f d v D m=(inpV f d v m.k,0):=fun v D=>by rw[dH,if_neg (by omega),if_pos h2]
 have HB:=aA (aD W (.cells (kd f d) 23))
 have HK:=aA (aB.new W 23 (kd f d))
 have HA:=aA fun x V=>vD x V
 have HL:=aA fun V=>Knd.sU f d V
 have HH:=aA fun V=>Knd.oJ f d V
 have HO:=aA fun V=>Knd.qZ f d V
 clear h2
 generalize m.k=k at *
 by_cases h0:k=0
 ·subst h0
  have HV:=aA (show ∀ v D,dH f d v D m=(v.x,0) from fun v D=>hv v D)
  clear hv
  go_enter Tryz.func220,Tryz.ntmps220
  go_wp2_with fail
  go_ret
  exact⟨_,rfl,.inx HV.o,HB.o⟩
 by_cases h1:k=1
 ·subst h1
  have HV:=aA (show ∀ v D,dH f d v D m=(v.y,0) from fun v D=>hv v D)
  clear hv
  go_enter Tryz.func220,Tryz.ntmps220
  go_wp2_with fail
  go_ret
  exact⟨_,rfl,.iny HV.o,HB.o⟩
 by_cases h2:k=2
 ·subst h2
  have HV:=aA (show ∀ v D,dH f d v D m=(v.c,0) from fun v D=>hv v D)
  clear hv
  go_enter Tryz.func220,Tryz.ntmps220
  go_wp2_with fail
  go_ret
  exact⟨_,rfl,.inc HV.o,HB.o⟩
 obtain⟨x0,x1⟩:=aO HK.o
 by_cases h3:k=3
 ·subst h3
  have HV:=aA (show ∀ v D,dH f d v D m=(gZ f d,0) from fun v D=>hv v D)
  clear hv h0 h1 h2
  go_enter Tryz.func220,Tryz.ntmps220
  go_wp2_with fail
  refine(HL.o _).mono ?_
  rintro e V1 ⟨rfl,hb⟩
  have HB1:=aA (bel HB.o hb)
  clear hb
  go_wp2_with fail
  refine(HA.o _ _).mono ?_
  rintro e V2 ⟨rfl,hc,hb⟩
  have HC2:=aA hc
  have HB2:=aA (bel HB1.o hb)
  clear hc hb
  go_wp2_with fail
  go_ret
  exact RyP.con HV.o HB1.o.size HC2.o HB2.o
 by_cases h4:k=4
 ·subst h4
  have HV:=aA (show ∀ v D,dH f d v D m=(dS f d,0) from fun v D=>hv v D)
  clear hv h0 h1 h2 h3
  go_enter Tryz.func220,Tryz.ntmps220
  go_wp2_with fail
  refine(HH.o _).mono ?_
  rintro e V1 ⟨rfl,hb⟩
  have HB1:=aA (bel HB.o hb)
  clear hb
  go_wp2_with fail
  refine(HA.o _ _).mono ?_
  rintro e V2 ⟨rfl,hc,hb⟩
  have HC2:=aA hc
  have HB2:=aA (bel HB1.o hb)
  clear hc hb
  go_wp2_with fail
  go_ret
  exact RyP.con HV.o HB1.o.size HC2.o HB2.o
 have HV:=aA (show ∀ v D,dH f d v D m=(bU f d,0) from fun v D=>by rw[hv v D,inpV,if_neg h0,if_neg h1,if_neg h2,if_neg h3,if_neg h4])
 have q0:(k==0)=false:=by simpa using h0
 have q1:(k==1)=false:=by simpa using h1
 have q2:(k==2)=false:=by simpa using h2
 have q3:(k==3)=false:=by simpa using h3
 have q4:(k==4)=false:=by simpa using h4
 clear hv h0 h1 h2 h3 h4
 go_enter Tryz.func220,Tryz.ntmps220
 go_wp2_with fail
 refine(HO.o _).mono ?_
 rintro e V1 ⟨rfl,hb⟩
 have HB1:=aA (bel HB.o hb)
 clear hb
 go_wp2_with fail
 refine(HA.o _ _).mono ?_
 rintro e V2 ⟨rfl,hc,hb⟩
 have HC2:=aA hc
 have HB2:=aA (bel HB1.o hb)
 clear hc hb
 go_wp2_with fail
 go_ret
 exact RyP.con HV.o HB1.o.size HC2.o HB2.o
theorem zW (f d:Int)(m:In)(h1:m.op≠1)(h2:m.op≠2)(h3:m.op≠3)(W:World):Calls Tryz.prog 222 #[.agg (ia m)] W (RyP W f d m):=by
 have hmf:∀(fn:Fn) (first cap:Array Value) (w:World),(Instr.makeFunc fn first cap).run Tryz.prog w=.ok (.func fn first cap) w:=fun _ _ _ _=>rfl
 have HB:=aA (aD W (.cells (ia m) 132))
 have HC:=aA (aB.new W 132 (ia m))
 have HA:=aA fun V=>Cde.aAj m V
 have HR:=aA (show ∀(V:World) (b q g:Nat) (hb:W.heap.size<=b) (hq:W.heap.size<=q) (hg:W.heap.size<=g) (hc:aB V b 132 (ia m)) (hr:aB V q 24 #[.slice (some ⟨g,0,none⟩) (dK m) 3]) (ha:aB V g 3 (zA (abc m))),St V W.heap.size f d m (.func (.func 289) #[] #[.pointer (some ⟨q,0,none⟩),.pointer (some ⟨b,0,none⟩)]) from fun V b q g hb hq hg hc hr ha=>.opr b q g h1 h2 h3 hb hq hg hc hr ha)
 obtain⟨f0,f1,f2,f3,f4,f5⟩:=aH HC.o
 clear h1 h2 h3
 go_enter Tryz.func222,Tryz.ntmps222
 go_wp2_with fail
 refine(HA.o _).mono ?_
 rintro e V1 ⟨rfl,hg,hb⟩
 rw[wSa] at hg ⊢
 have hb2:=aD V1 (.cells #[.slice (some ⟨W.heap.size+1+1,0,none⟩) (dK m) 3] 24)
 have HC2:=aA ((HC.o.below hb).below hb2)
 have HG2:=aA (hg.below hb2)
 have HQ2:=aA (aB.new V1 24 #[.slice (some ⟨W.heap.size+1+1,0,none⟩) (dK m) 3])
 have HB1:=aA (bel HB.o hb)
 have HB2:=aA (bel HB1.o hb2)
 clear hb hb2 hg f0 f1 f2 f3 f4 f5
 go_wp2_with fail
 go_ret
 exact⟨_,rfl,HR.o _ _ _ _ (nLr _) HB1.o.size (by omega) HC2.o HQ2.o HG2.o,HB2.o⟩
theorem aGk (f d:Int)(m:In)(W:World):Calls Tryz.prog 142 #[.agg (kd f d),.agg (ia m)] W (RyP W f d m):=by
 have hmf:∀(fn:Fn) (first cap:Array Value) (w:World),(Instr.makeFunc fn first cap).run Tryz.prog w=.ok (.func fn first cap) w:=fun _ _ _ _=>rfl
 have hb1:=bel (aD W (.cells (kd f d) 23)) (aD (W.alloc (.cells (kd f d) 23)) (.cells (ia m) 132))
 have HK:=aA ((aB.new W 23 (kd f d)).alloc (.cells (ia m) 132))
 have HC:=aA (aI W (.cells (kd f d) 23) 132 (ia m))
 have HB:=aA hb1
 clear hb1
 obtain⟨x0,x1⟩:=aO HK.o
 obtain⟨f0,f1,f2,f3,f4,f5⟩:=aH HC.o
 by_cases h1:m.op=1
 ·have p1:(m.op==1)=true:=by simpa using h1
  have HV:=aA (show ∀ v D,dH f d v D m=(m.k,0) from fun v D=>by rw[dH,if_pos h1])
  have HA:=aA fun V=>vD m.k V
  clear h1
  go_enter Tryz.func142,Tryz.ntmps142
  go_wp2_with fail
  refine(HA.o _).mono ?_
  rintro e V2 ⟨rfl,hc,hb⟩
  rw[wSa,wSa] at hc
  have HC2:=aA hc
  have HB2:=aA (bel HB.o hb)
  clear hc hb
  go_wp2_with fail
  go_ret
  exact RyP.con HV.o (by omega) HC2.o HB2.o
 have p1:(m.op==1)=false:=by simpa using h1
 by_cases h2:m.op=2
 ·have p2:(m.op==2)=true:=by simpa using h2
  have HI:=aA fun V=>aGi f d m h2 V
  clear h1 h2
  go_enter Tryz.func142,Tryz.ntmps142
  go_wp2_with fail
  refine(HI.o _).mono ?_
  rintro e V2 ⟨F,rfl,hS,hb⟩
  have HS2:=aA (hS.mono HB.o.size)
  have HB2:=aA (bel HB.o hb)
  clear hS hb
  go_wp2_with fail
  go_ret
  exact⟨_,rfl,HS2.o,HB2.o⟩
 have p2:(m.op==2)=false:=by simpa using h2
 by_cases h3:m.op=3
 ·have p3:(m.op==3)=true:=by simpa using h3
  have H3:=aA h3
  clear h1 h2 h3
  go_enter Tryz.func142,Tryz.ntmps142
  go_wp2_with fail
  go_ret
  exact⟨_,rfl,.place _ H3.o (by simp) HC.o,HB.o⟩
 have p3:(m.op==3)=false:=by simpa using h3
 have HI:=aA fun V=>zW f d m h1 h2 h3 V
 clear h1 h2 h3
 go_enter Tryz.func142,Tryz.ntmps142
 go_wp2_with fail
 refine(HI.o _).mono ?_
 rintro e V2 ⟨F,rfl,hS,hb⟩
 have HS2:=aA (hS.mono HB.o.size)
 have HB2:=aA (bel HB.o hb)
 clear hS hb
 go_wp2_with fail
 go_ret
 exact⟨_,rfl,HS2.o,HB2.o⟩
end Go.Proofs.Chn
namespace Go.Proofs.Chn
open Go.RowKit Go.IntWalk Knd
open YticnbcfmbhjbgaaGreatDoor (Wd pE Fits inpV)
open Cde (In i0 ia kd cd Ins aH aC aO aI zA dH dK abc aS)
open Vfy (bB qG qF aJ)
open YticnbcfmbhjbgaaGreatDoor (aB)
variable {V V' W:World} {b k lo n:Nat} {d f:Int} {L:List In}
theorem aYp:(Tryz.prog.info? 203).map (fun i=>(i.zero,i.size,i.bytes))=some (some .nilFunc,1,8):=by kernel_rfl
def nF (n:Nat):Array Value:=(List.replicate n Value.nilFunc).toArray
theorem aSf (n:Nat):(nF n).size=n:=by simp[nF]
theorem aV6 (n:Nat):madeCells #[Value.nilFunc] (n*1)=nF n:=by
 apply Array.ext_getElem?
 intro i
 by_cases hi:i < n
 ·simp[madeCells,nF,hi,Nat.mod_one]
 ·simp[madeCells,nF,hi]
theorem aV9 (n:Nat)(h:n<=1024)(w:World):(Instr.makeSlice 199 (.i n) (.i n)).run Tryz.prog w=.ok (.slice (some ⟨w.heap.size,0,none⟩) n n) (w.alloc (.cells (nF n) 203)):=by
 obtain⟨i0,hi,hz0,hz1,hz2⟩:=info_parts aYp
 have:=run_make w 199 203 i0 _ Tryz.underlying199 hi hz0 .i64 .i64 n n (by omega) (iLr _) (by rw[hz2];omega) (by omega)
 rw[hz1] at this
 simp only[iTn] at this
 have e:madeCells (Value.nilFunc).cells (n*1)=nF n:=aV6 n
 rw[e] at this
 exact this
structure Fr (V:World)(lo b n k:Nat)(f d:Int)(L:List In):Prop where
 r:∃ cs,aB V b 203 cs/\cs.size=n/\∀ i,i < k->∃ F,cs[i]?=some F/\St V (b+1) f d (L.getD i i0) F
 lo:lo<=b
theorem Fr.later {V V':World}{lo b n k:Nat}{f d:Int}{L:List In}(h:Fr V lo b n k f d L)(hb:Below V.heap.size V V'):Fr V' lo b n k f d L:=by
 obtain⟨cs,h1,h2,h3⟩:=h.r
 exact⟨⟨cs,h1.below hb,h2,fun i hi=>by obtain⟨F,h4,h5⟩:=h3 i hi;exact⟨F,h4,h5.later hb⟩⟩,h.lo⟩
theorem Fr.lt {V:World}{lo b n k:Nat}{f d:Int}{L:List In}(h:Fr V lo b n k f d L):b < V.heap.size:=by
 obtain⟨cs,h1,h2,h3⟩:=h.r
 exact h1.lt
theorem Fr.old (h:Fr V lo b n k f d L)(hk:k < n):V.frozen? ⟨b,k,none⟩=false/\∃ u,V.cell? ⟨b,k,none⟩=some u:=by
 obtain⟨cs,h1,h2,h3⟩:=h.r
 exact⟨h1.frozen k,_,h1.cell k (Array.getElem?_eq_getElem (by omega))⟩
theorem Fr.snoc (h:Fr V lo b n k f d L)(hk:k < n){F:Value}(hF:St V (b+1) f d (L.getD k i0) F):Fr (V.setCell ⟨b,k,none⟩ F) lo b n (k+1) f d L:=by
 obtain⟨cs,h1,h2,h3⟩:=h.r
 refine⟨⟨_,h1.set k F,by simpa using h2,fun i hi=>?_⟩,h.lo⟩
 by_cases he:i=k
 ·subst he
  exact⟨F,by rw[Array.getElem?_setIfInBounds];simp[h2,hk],hF.put (Nat.lt_succ_self b) _ _⟩
 ·obtain⟨G,h4,h5⟩:=h3 i (by omega)
  exact⟨G,by rw[Array.getElem?_setIfInBounds,if_neg (by omega)];exact h4,h5.put (Nat.lt_succ_self b) _ _⟩
structure Hm (V:World)(lo g:Nat)(f d:Int)(L:List In)(o:Int)(b n:Nat):Prop where
 x:aB V g 201 (cd f d (some ⟨b,0,none⟩) n n o)
 s:Fr V lo b n n f d L
 lo:lo<=g
 len:L.length=n
theorem Hm.later {V V':World}{lo g:Nat}{f d:Int}{L:List In}{o:Int}{b n:Nat}(h:Hm V lo g f d L o b n)(hb:Below V.heap.size V V'):Hm V' lo g f d L o b n:=⟨h.x.below hb,h.s.later hb,h.lo,h.len⟩
def NcP (w:World)(f d:Int)(L:List In)(out:Int)(e:Ending)(W':World):Prop :=
 Below w.heap.size w W'/\((bB f d L out≠0/\e=.returned (.tuple #[.pointer none,.i (bB f d L out)]))\/(bB f d L out=0/\∃ g b n,e=.returned (.tuple #[.pointer (some ⟨g,0,none⟩),.i 0])/\Hm W' w.heap.size g f d L out b n))
structure Nx (W V:World)(cv:Array Value)(b n k:Nat)(f d:Int)(L:List In):Prop where
 c:aB V W.heap.size 33 cv
 s:Fr V W.heap.size b n k f d L
 lo:Below W.heap.size W V
 h:W.heap.size < b
theorem Nx.later {W V V':World}{cv:Array Value}{b n k:Nat}{f d:Int}{L:List In}(h:Nx W V cv b n k f d L)(hb:Below V.heap.size V V'):Nx W V' cv b n k f d L:=⟨h.c.below hb,h.s.later hb,bel h.lo hb,h.h⟩
theorem Nx.snoc {W V:World}{cv:Array Value}{b n k:Nat}{f d:Int}{L:List In}(h:Nx W V cv b n k f d L)(hk:k < n){F:Value}(hF:St V (b+1) f d (L.getD k i0) F):Nx W (V.setCell ⟨b,k,none⟩ F) cv b n (k+1) f d L:=by
 have hh:=h.h
 exact⟨h.c.other (p:=⟨b,k,none⟩) (by simp;omega) F,h.s.snoc hk hF,h.lo.setCell (p:=⟨b,k,none⟩) (by simp;omega) F,h.h⟩
theorem aEc (f d out:Int){a:Option Addr}{cap:Nat}(hL:Ins W a n cap L) :
  Calls Tryz.prog 79 #[.agg (cd f d a n cap out)] W (NcP W f d L out):=by
 have hb1:=aD W (.cells (cd f d a n cap out) 33)
 have HC0:=aA (aB.new W 33 (cd f d a n cap out))
 have HV:=aA (Vfy.dI f d out (hL.later hb1))
 have HB0:=aA hb1
 have HLI:=aA hL
 clear hb1
 by_cases h0:bB f d L out=0
 ·obtain⟨mc,-⟩:=aJ h0
  obtain⟨-,m1,m2,-,-,-⟩:=aS mc
  rw[hL.len] at m1 m2
  have HLn:=aA hL.len
  unfold Vfy.VfP at HV
  rw[h0] at HV
  have H0:=aA h0
  generalize qG f d L out=vm at *
  generalize qF f d L out=vc at *
  generalize Vfy.qR f d L out=vs at *
  have HR:=aA fun(m:In) (V:World)=>aGk f d m V
  have hmk:=aV9 n (by omega)
  clear mc h0 hL
  go_enter Tryz.func79,Tryz.ntmps79
  go_wp2_with fail
  refine HV.o.mono ?_
  rintro e V1 ⟨ga,gc,rfl,hS,hb,-,-⟩
  have hb2:=bel hb (aD V1 (.cells #[.slice ga vm gc,.i vc,.i 0] 55))
  have HC1:=aA (HC0.o.below hb2)
  have HB1:=aA (bel HB0.o hb2)
  have hz:=HC1.o.lt
  obtain⟨c0,c1,c2,c3⟩:=aC (HC0.o.below hb)
  have hz0:=(HC0.o.below hb).lt
  have hb3:=aD (V1.alloc (.cells #[.slice ga vm gc,.i vc,.i 0] 55)) (.cells (nF n) 203)
  have HN1:Hid (Nx W ((V1.alloc (.cells #[.slice ga vm gc,.i vc,.i 0] 55)).alloc (.cells (nF n) 203)) (cd f d a n cap out) (V1.heap.size+1) n 0 f d L) :=
   aA ⟨HC1.o.below hb3,⟨⟨_,aI V1 _ 203 (nF n),aSf n,fun i hi=>by omega⟩,by omega⟩,bel HB1.o hb3,by omega⟩
  clear hb hb2 hb3 hS HV HC0 HB0 hz
  go_wp2_with fail
  clear hmk c0 c1 c2 c3
  generalize V1.heap.size+1=b at *
  go_loopw [24] (fun i wr=>∃ k:Nat,k<=n/\i=.i k/\Hid (Nx W wr (cd f d a n cap out) b n k f d L)) (fun i _=>n-(intOf i).toNat)
  case atStart=>exact⟨0,nZl _,rfl,HN1⟩
  case round =>
   obtain⟨k,hk,rfl,HN⟩:=hrel
   rename World=>V
   clear HN1
   by_cases hlt:k < n
   ·obtain⟨ab,off,rfl,-,hat⟩:=(HLI.o.later HN.o.lo).at (by omega)
    obtain⟨e0,e1,e2,e3,e4,e5⟩:=hat k hlt
    have hi0:(0:Int)<=k:=by omega
    have hi1:(k:Int) < n:=by omega
    have HSn:=aA fun(V:World) (F:Value) (h:Nx W V (cd f d (some ⟨ab,off,none⟩) n cap out) b n k f d L) (hF:St V (b+1) f d (L.getD k i0) F)=>h.snoc hlt hF
    generalize L.getD k i0=m at *
    have hb:=aD V (.cells (ia m) 132)
    have HN2:=aA (HN.o.later hb)
    have HM2:=aA (aB.new V 132 (ia m))
    have HLo:=aA (show b+1<=(V.alloc (.cells (ia m) 132)).heap.size from HN2.o.s.lt)
    obtain⟨x0,x1,x2,x3⟩:=aC HN.o.c
    have hz0:=HN.o.c.lt
    clear hb hat
    go_wp2_with fail
    refine(HR.o m _).mono ?_
    rintro e V3 ⟨F,rfl,hS,hb⟩
    obtain⟨fn,fs,cp,rfl⟩:=hS.form
    have HN3:=aA (HN2.o.later hb)
    have HS3:=aA (hS.mono HLo.o)
    obtain⟨w0,u,w1⟩:=HN3.o.s.old hlt
    have HN4:=aA (HSn.o _ _ HN3.o HS3.o)
    clear hb hS HN2 HM2 e0 e1 e2 e3 e4 e5 x0 x1 x2 x3
    go_wp2_with fail
    go_roundw
    case rel=>exact⟨k+1,by omega,by go_num,HN4⟩
    case measure=>simp[intOf];omega
   ·obtain rfl:k=n:=by omega
    obtain⟨x0,x1,x2,x3⟩:=aC HN.o.c
    go_wp2_with fail
    have hb4:=aD V (.cells (cd f d (some ⟨b,0,none⟩) k k out) 201)
    exact bPr (v:=.tuple #[.pointer (some ⟨V.heap.size,0,none⟩),.i 0]) (by simp[results,Tryz.results79,go_sem]) rfl ⟨bel HN.o.lo hb4,.inr ⟨H0.o,_,_,_,rfl,⟨aB.new _ _ _,HN.o.s.later hb4,HN.o.lo.size,HLn.o⟩⟩⟩
 ·unfold Vfy.VfP at HV
  obtain⟨er,her⟩:∃ er,bB f d L out=er:=⟨_,rfl⟩
  have HE:Hid (∀ e W',Below W.heap.size W W'->e=.returned (.tuple #[.pointer none,.i er])->NcP W f d L out e W'):=aA fun e W' hb he=>⟨hb,.inl ⟨h0,by rw[her];exact he⟩⟩
  have hr:(er != 0)=true:=by rw[<-her];simpa using h0
  rw[her] at HV
  generalize qG f d L out=vm at *
  generalize qF f d L out=vc at *
  generalize Vfy.qR f d L out=vs at *
  clear h0 her hL
  go_enter Tryz.func79,Tryz.ntmps79
  go_wp2_with fail
  refine HV.o.mono ?_
  rintro e V1 ⟨ga,gc,rfl,hS,hb,-,-⟩
  have HB1:=aA (bel HB0.o (bel hb (aD V1 (.cells #[.slice ga vm gc,.i vc,.i 0] 55))))
  clear hb hS HV HC0 HB0
  go_wp2_with fail
  exact bPr (v:=.tuple #[.pointer none,.i er]) (by simp[results,Tryz.results79,go_sem]) rfl (HE.o _ _ HB1.o rfl)
end Go.Proofs.Chn
namespace Go.Proofs.Chn
open Go.RowKit Go.IntWalk Knd
open YticnbcfmbhjbgaaGreatDoor (Wd pE Fits inpV)
open Cde (In i0 ia kd cd Ins aH aC aO aI bG zA jF aIw dH iZ dK abc qA pG aLu arM aHp aG dR aQa spn uI aBm)
open YticnbcfmbhjbgaaGreatDoor (aB)

end Go.Proofs.Chn
namespace Go.Proofs.Chn
open Go.RowKit Go.IntWalk Knd
open YticnbcfmbhjbgaaGreatDoor (Wd pE Fits inpV)
open Cde (In i0 ia kd cd Ins Ls aH aC aO aI bG zA dH qN dK abc kS aS)
open Vfy (bB aJ)
open YticnbcfmbhjbgaaGreatDoor (aB)

end Go.Proofs.Chn
