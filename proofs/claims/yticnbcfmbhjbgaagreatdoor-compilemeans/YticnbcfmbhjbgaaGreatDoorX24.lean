import Derived.Deep.CutRange
import Derived.Laws.EntriesVeiled
import Derived.Test.YticnbcfmbhjbgaaGreatDoorX20
set_option maxRecDepth 100000
set_option maxHeartbeats 32000000
set_option linter.unusedVariables false
namespace Go.Proofs.Chn
section
open Go.RowKit Go.IntWalk Knd
open YticnbcfmbhjbgaaGreatDoor (Wd dQ Fits inpV)
open Cde (In i0 ia kd cd Ins dL bE dE aG cZ nA dZ tK fZ aQ)
open Vfy (aW w32 qO aI jY)
open YticnbcfmbhjbgaaGreatDoor (aB)
variable {d f out:Int} {L:List In}
theorem run_in {v:Wd}(h:aW f d L out=0)(hF:Fits f d v){k:Nat}(hk:k<=L.length):∃ D,nA f d v (L.take k)=(0,D)/\D.length=k/\∀ i,i < k->w32 (D.getD i 0):=by
 obtain⟨m,ha,⟨S,hS,hl,hs⟩,-,-,-⟩:=aI h
 obtain⟨hm,-,-,-,-,hok⟩:=aQ m
 obtain⟨V,S',h1,h2,h3⟩:=qO hm hF hok ha (by rw[hS]) k hk
 have hl2:S'.length=k:=by
  have:=Vfy.uR f d L k hk
  rw[h2] at this
  exact this rfl
 exact⟨V,h1,by rw[h3.1,hl2],fun i hi=>(h3.2 i (by omega)).2.2⟩
theorem aHx {v:Wd}(h:aW f d L out=0)(hF:Fits f d v){k:Nat}(hk:k < L.length){D:List Int}(hD:nA f d v (L.take k)=(0,D)) :
  D.length=k/\bE (L.getD k i0) k=true/\∃ x,cZ f d v D (L.getD k i0)=(x,0)/\nA f d v (L.take (k+1))=(0,D++[x]):=by
 obtain⟨D',h1,h2,h3⟩:=run_in h hF (Nat.le_of_lt hk)
 rw[hD] at h1
 cases h1
 obtain⟨E,g1,g2,g3⟩:=run_in h hF (show k+1<=L.length from hk)
 obtain⟨m,-,-,-,-,-⟩:=aI h
 obtain⟨-,-,-,-,-,hok⟩:=aQ m
 have e:=g1
 rw[aG i0 hk,dZ,hD,tK,if_pos rfl] at e
 by_cases hz:(cZ f d v D (L.getD k i0)).2=0
 ·rw[if_pos hz] at e
  have e2:D++[(cZ f d v D (L.getD k i0)).1]=E:=congrArg Prod.snd e
  exact⟨h2,dE hok hk,(cZ f d v D (L.getD k i0)).1,Prod.ext rfl hz,by rw[g1,<-e2]⟩
 ·rw[if_neg hz] at e
  exact absurd (congrArg Prod.fst e) hz
def hrX (Z:Int × List Int)(o:Int):Int:=if Z.1=0 then Z.2.getD o.toNat 0 else 0
def hrV (Z:Int × List Int)(o:Int):Value:=.tuple #[.i (hrX Z o),.i Z.1]
theorem aDm (h:aW f d L out=0)(v:Wd):(Fits f d v/\∃ D,fZ f d v L out=(0,D)/\nA f d v L=(0,D)/\D.length=L.length/\0<=out/\out < L.length)\/(¬Fits f d v/\fZ f d v L out=(1,[])):=by
 by_cases hF:Fits f d v
 ·refine .inl ⟨hF,?_⟩
  obtain⟨D,h1,h2,h3⟩:=run_in h hF (nLr _)
  rw[lTg] at h1
  obtain⟨m,-⟩:=aI h
  obtain⟨-,-,-,m3,m4,-⟩:=aQ m
  exact⟨D,by rw[fZ,if_pos m,if_pos hF,h1],h1,h2,m3,m4⟩
 ·exact .inr ⟨hF,jY h hF⟩
end
section
open Go.RowKit Go.IntWalk Knd
open YticnbcfmbhjbgaaGreatDoor (Wd dQ Fits inpV)
open Cde (In i0 ia kd cd Ins aH aC aP aJ bE zA cZ gW dC abc)
open YticnbcfmbhjbgaaGreatDoor (aB)
variable {V:World} {lo:Nat} {d f:Int} {m:In} {F:Value}
inductive St (V:World) (lo:Nat) (f d:Int) (m:In):Value->Prop
 | con (b:Nat) (x:Int) (hx:∀ v D,cZ f d v D m=(x,0)) (hb:lo<=b) (hc:aB V b 3 #[.i x]):St V lo f d m (.func (.func 285) #[] #[.pointer (some ⟨b,0,none⟩)])
 | inx (hx:∀ v D,cZ f d v D m=(v.x,0)):St V lo f d m (.func (.func 286) #[] #[])
 | iny (hx:∀ v D,cZ f d v D m=(v.y,0)):St V lo f d m (.func (.func 287) #[] #[])
 | inc (hx:∀ v D,cZ f d v D m=(v.c,0)):St V lo f d m (.func (.func 288) #[] #[])
 | place (b:Nat) (h3:m.op=3) (hb:lo<=b) (hc:aB V b 132 (ia m)):St V lo f d m (.func (.func 221) #[] #[.pointer (some ⟨b,0,none⟩)])
 | opr (b q g:Nat) (h1:m.op≠1) (h2:m.op≠2) (h3:m.op≠3) (hb:lo<=b) (hq:lo<=q) (hg:lo<=g) (hc:aB V b 132 (ia m)) (hr:aB V q 24 #[.slice (some ⟨g,0,none⟩) (dC m) 3]) (ha:aB V g 3 (zA (abc m))) :
  St V lo f d m (.func (.func 289) #[] #[.pointer (some ⟨q,0,none⟩),.pointer (some ⟨b,0,none⟩)])
theorem St.form (h:St V lo f d m F):∃ fn fs cp,F=.func fn fs cp:=by cases h <;> exact⟨_,_,_,rfl⟩
theorem St.later {V':World}(h:St V lo f d m F)(hb:Below V.heap.size V V'):St V' lo f d m F:=by
 cases h with
 | con b x hx hl hc=>exact .con b x hx hl (hc.below hb)
 | inx hx=>exact .inx hx
 | iny hx=>exact .iny hx
 | inc hx=>exact .inc hx
 | place b h3 hl hc=>exact .place b h3 hl (hc.below hb)
 | opr b q g h1 h2 h3 hl hq hg hc hr ha=>exact .opr b q g h1 h2 h3 hl hq hg (hc.below hb) (hr.below hb) (ha.below hb)
theorem St.put (h:St V lo f d m F){g:Nat}(hn:g < lo)(i:Nat)(u:Value):St (V.setCell ⟨g,i,none⟩ u) lo f d m F:=by
 cases h with
 | con b x hx hl hc=>exact .con b x hx hl (hc.other (p:=⟨g,i,none⟩) (by simp;omega) u)
 | inx hx=>exact .inx hx
 | iny hx=>exact .iny hx
 | inc hx=>exact .inc hx
 | place b h3 hl hc=>exact .place b h3 hl (hc.other (p:=⟨g,i,none⟩) (by simp;omega) u)
 | opr b q r h1 h2 h3 hl hq hg hc hr ha=>exact .opr b q r h1 h2 h3 hl hq hg (hc.other (p:=⟨g,i,none⟩) (by simp;omega) u) (hr.other (p:=⟨g,i,none⟩) (by simp;omega) u) (ha.other (p:=⟨g,i,none⟩) (by simp;omega) u)
theorem St.mono {lo':Nat}(h:St V lo f d m F)(hl:lo'<=lo):St V lo' f d m F:=by
 cases h with
 | con b x hx hb hc=>exact .con b x hx (Nat.le_trans hl hb) hc
 | inx hx=>exact .inx hx
 | iny hx=>exact .iny hx
 | inc hx=>exact .inc hx
 | place b h3 hb hc=>exact .place b h3 (Nat.le_trans hl hb) hc
 | opr b q g h1 h2 h3 hb hq hg hc hr ha=>exact .opr b q g h1 h2 h3 (Nat.le_trans hl hb) (Nat.le_trans hl hq) (Nat.le_trans hl hg) hc hr ha
theorem aQi (x:Int)(v:Wd)(pa ra:Option Addr)(pl pc rn rc:Nat){b:Nat}{W:World}(h:aB W b 3 #[.i x]) :
  Calls Tryz.prog 285 #[.agg (dQ v pa pl pc),.slice ra rn rc,.pointer (some ⟨b,0,none⟩)] W fun e W'=>e=.returned (.i x)/\Below W.heap.size W W':=by
 have hb:=aD W (.cells (dQ v pa pl pc) 26)
 have h0:=h.cell 0 rfl
 have hz:=h.lt
 have HB:=aA hb
 clear hb h
 go_enter Tryz.func285,Tryz.ntmps285
 go_wp2_with fail
 go_ret
 exact⟨rfl,HB.o⟩
theorem aQq (v:Wd)(pa ra:Option Addr)(pl pc rn rc:Nat)(W:World) :
  Calls Tryz.prog 286 #[.agg (dQ v pa pl pc),.slice ra rn rc] W fun e W'=>e=.returned (.i v.x)/\Below W.heap.size W W':=by
 have HB:=aA (aD W (.cells (dQ v pa pl pc) 26))
 go_enter Tryz.func286,Tryz.ntmps286
 go_wp2_with fail
 go_ret
 exact⟨rfl,HB.o⟩
theorem aQr (v:Wd)(pa ra:Option Addr)(pl pc rn rc:Nat)(W:World) :
  Calls Tryz.prog 287 #[.agg (dQ v pa pl pc),.slice ra rn rc] W fun e W'=>e=.returned (.i v.y)/\Below W.heap.size W W':=by
 have HB:=aA (aD W (.cells (dQ v pa pl pc) 26))
 go_enter Tryz.func287,Tryz.ntmps287
 go_wp2_with fail
 go_ret
 exact⟨rfl,HB.o⟩
theorem aQp (v:Wd)(pa ra:Option Addr)(pl pc rn rc:Nat)(W:World) :
  Calls Tryz.prog 288 #[.agg (dQ v pa pl pc),.slice ra rn rc] W fun e W'=>e=.returned (.i v.c)/\Below W.heap.size W W':=by
 have HB:=aA (aD W (.cells (dQ v pa pl pc) 26))
 go_enter Tryz.func288,Tryz.ntmps288
 go_wp2_with fail
 go_ret
 exact⟨rfl,HB.o⟩
theorem yH {n:In}(h:Cde.nE n=true)(h3:n.op=3):0<=n.k/\n.k<=255:=by
 rw[Cde.nE,if_neg (by omega),if_neg (by omega),if_pos h3,bAt,Spn.aK] at h
 exact h.1
theorem aH4 {v:Wd}{D:List Int}{x:Int}{i:Nat}{pa:Option Addr}(ra:Option Addr){pl pc:Nat}(rn rc:Nat){b:Nat}{W:World}(h:aB W b 132 (ia m))(hP:Ints W pa pl pc v.ps)(hF:Fits f d v)(ho:bE m i=true)(h3:m.op=3)(hx:cZ f d v D m=(x,0)) :
  Calls Tryz.prog 221 #[.agg (dQ v pa pl pc),.slice ra rn rc,.pointer (some ⟨b,0,none⟩)] W fun e W'=>e=.returned (.i x)/\Below W.heap.size W W':=by
 have hb:=aD W (.cells (dQ v pa pl pc) 26)
 obtain⟨k0,k5⟩:=yH (Cde.qE ho) h3
 obtain⟨q,hq⟩:∃ q:Nat,m.k=(q:Int):=⟨m.k.toNat,by omega⟩
 rw[cZ,if_neg (by omega),if_neg (by omega),if_pos h3] at hx
 have hlp:=hP.len
 have hfl:=Cde.aCn hF
 rw[hlp] at hfl
 have hkc:¬Knd.bX f d<=m.k:=fun h=>by rw[if_pos h] at hx;simp at hx
 rw[if_neg hkc,hq,iTn] at hx
 have hql:q < pl:=by omega
 have hx2:v.ps.getD q 0=x:=congrArg Prod.fst hx
 obtain⟨pb,po,rfl,-,hpat⟩:=(hP.later hb).at (by omega)
 have px:=hpat q hql
 rw[hx2] at px
 have i0:(0:Int)<=q:=by omega
 have i1:(q:Int) < pl:=by omega
 obtain⟨-,-,-,-,f4,-⟩:=aH (h.below hb)
 rw[hq] at f4
 have hz:=h.lt
 have HB:=aA hb
 clear hx hx2 hpat hfl hlp hkc k0 k5 h3 hP hF hb h hq
 go_enter Tryz.func221,Tryz.ntmps221
 go_wp2_with fail
 go_ret
 exact⟨rfl,HB.o⟩
end
section
open Go.RowKit Go.IntWalk Knd
open YticnbcfmbhjbgaaGreatDoor (Wd dQ Fits inpV)
open Cde (In i0 ia kd cd Ins aH aC aP aJ zA cZ dC abc)
open YticnbcfmbhjbgaaGreatDoor (aB)
theorem wD (x:Int)(W:World):Calls Tryz.prog 219 #[.i x] W fun e W'=>e=.returned (.func (.func 285) #[] #[.pointer (some ⟨W.heap.size,0,none⟩)])/\aB W' W.heap.size 3 #[.i x]/\Below W.heap.size W W':=by
 have hmf:∀(fn:Fn) (first cap:Array Value) (w:World),(Instr.makeFunc fn first cap).run Tryz.prog w=.ok (.func fn first cap) w:=fun _ _ _ _=>rfl
 have HB:=aA (aD W (.cells #[.i x] 3))
 have HC:=aA (aB.new W 3 #[.i x])
 go_enter Tryz.func219,Tryz.ntmps219
 go_wp2_with fail
 go_ret
 exact⟨rfl,HC.o,HB.o⟩
def RyP (W:World)(f d:Int)(m:In)(e:Ending)(W':World):Prop:=∃ F,e=.returned F/\St W' W.heap.size f d m F/\Below W.heap.size W W'
theorem RyP.con {W V:World}{f d:Int}{m:In}{x:Int}(hx:∀ v D,cZ f d v D m=(x,0)){b:Nat}(hl:W.heap.size<=b)(hc:aB V b 3 #[.i x])(hb:Below W.heap.size W V):RyP W f d m (.returned (.func (.func 285) #[] #[.pointer (some ⟨b,0,none⟩)])) V :=
 ⟨_,rfl,.con _ x hx hl hc,hb⟩
theorem aHb (f d:Int)(m:In)(h2:m.op=2)(W:World):Calls Tryz.prog 220 #[.agg (kd f d),.i m.k] W (RyP W f d m):=by
 have hv:∀ v D,cZ f d v D m=(inpV f d v m.k,0):=fun v D=>by rw[cZ,if_neg (by omega),if_pos h2]
 have HB:=aA (aD W (.cells (kd f d) 23))
 have HK:=aA (aB.new W 23 (kd f d))
 have HA:=aA fun x V=>wD x V
 have HL:=aA fun V=>Knd.mH f d V
 have HH:=aA fun V=>Knd.jW f d V
 have HO:=aA fun V=>Knd.kZ f d V
 clear h2
 generalize m.k=k at *
 by_cases h0:k=0
 ·subst h0
  have HV:=aA (show ∀ v D,cZ f d v D m=(v.x,0) from fun v D=>hv v D)
  clear hv
  go_enter Tryz.func220,Tryz.ntmps220
  go_wp2_with fail
  go_ret
  exact⟨_,rfl,.inx HV.o,HB.o⟩
 by_cases h1:k=1
 ·subst h1
  have HV:=aA (show ∀ v D,cZ f d v D m=(v.y,0) from fun v D=>hv v D)
  clear hv
  go_enter Tryz.func220,Tryz.ntmps220
  go_wp2_with fail
  go_ret
  exact⟨_,rfl,.iny HV.o,HB.o⟩
 by_cases h2:k=2
 ·subst h2
  have HV:=aA (show ∀ v D,cZ f d v D m=(v.c,0) from fun v D=>hv v D)
  clear hv
  go_enter Tryz.func220,Tryz.ntmps220
  go_wp2_with fail
  go_ret
  exact⟨_,rfl,.inc HV.o,HB.o⟩
 obtain⟨x0,x1⟩:=aP HK.o
 by_cases h3:k=3
 ·subst h3
  have HV:=aA (show ∀ v D,cZ f d v D m=(fG f d,0) from fun v D=>hv v D)
  clear hv h0 h1 h2
  go_enter Tryz.func220,Tryz.ntmps220
  go_wp2_with fail
  refine(HL.o _).mono ?_
  rintro e V1 ⟨rfl,hb⟩
  have HB1:=aA (bel HB.o hb)
  clear hb
  go_wp2_with fail
  refine(HA.o _ _).mono ?_
  rintro e V2 ⟨rfl,hc,hb⟩
  have HC2:=aA hc
  have HB2:=aA (bel HB1.o hb)
  clear hc hb
  go_wp2_with fail
  go_ret
  exact RyP.con HV.o HB1.o.size HC2.o HB2.o
 by_cases h4:k=4
 ·subst h4
  have HV:=aA (show ∀ v D,cZ f d v D m=(cK f d,0) from fun v D=>hv v D)
  clear hv h0 h1 h2 h3
  go_enter Tryz.func220,Tryz.ntmps220
  go_wp2_with fail
  refine(HH.o _).mono ?_
  rintro e V1 ⟨rfl,hb⟩
  have HB1:=aA (bel HB.o hb)
  clear hb
  go_wp2_with fail
  refine(HA.o _ _).mono ?_
  rintro e V2 ⟨rfl,hc,hb⟩
  have HC2:=aA hc
  have HB2:=aA (bel HB1.o hb)
  clear hc hb
  go_wp2_with fail
  go_ret
  exact RyP.con HV.o HB1.o.size HC2.o HB2.o
 have HV:=aA (show ∀ v D,cZ f d v D m=(bL f d,0) from fun v D=>by rw[hv v D,inpV,if_neg h0,if_neg h1,if_neg h2,if_neg h3,if_neg h4])
 have q0:(k==0)=false:=by simpa using h0
 have q1:(k==1)=false:=by simpa using h1
 have q2:(k==2)=false:=by simpa using h2
 have q3:(k==3)=false:=by simpa using h3
 have q4:(k==4)=false:=by simpa using h4
 clear hv h0 h1 h2 h3 h4
 go_enter Tryz.func220,Tryz.ntmps220
 go_wp2_with fail
 refine(HO.o _).mono ?_
 rintro e V1 ⟨rfl,hb⟩
 have HB1:=aA (bel HB.o hb)
 clear hb
 go_wp2_with fail
 refine(HA.o _ _).mono ?_
 rintro e V2 ⟨rfl,hc,hb⟩
 have HC2:=aA hc
 have HB2:=aA (bel HB1.o hb)
 clear hc hb
 go_wp2_with fail
 go_ret
 exact RyP.con HV.o HB1.o.size HC2.o HB2.o
theorem aAp (f d:Int)(m:In)(h1:m.op≠1)(h2:m.op≠2)(h3:m.op≠3)(W:World):Calls Tryz.prog 222 #[.agg (ia m)] W (RyP W f d m):=by
 have hmf:∀(fn:Fn) (first cap:Array Value) (w:World),(Instr.makeFunc fn first cap).run Tryz.prog w=.ok (.func fn first cap) w:=fun _ _ _ _=>rfl
 have HB:=aA (aD W (.cells (ia m) 132))
 have HC:=aA (aB.new W 132 (ia m))
 have HA:=aA fun V=>Cde.aA1 m V
 have HR:=aA (show ∀(V:World) (b q g:Nat) (hb:W.heap.size<=b) (hq:W.heap.size<=q) (hg:W.heap.size<=g) (hc:aB V b 132 (ia m)) (hr:aB V q 24 #[.slice (some ⟨g,0,none⟩) (dC m) 3]) (ha:aB V g 3 (zA (abc m))),St V W.heap.size f d m (.func (.func 289) #[] #[.pointer (some ⟨q,0,none⟩),.pointer (some ⟨b,0,none⟩)]) from fun V b q g hb hq hg hc hr ha=>.opr b q g h1 h2 h3 hb hq hg hc hr ha)
 obtain⟨f0,f1,f2,f3,f4,f5⟩:=aH HC.o
 clear h1 h2 h3
 go_enter Tryz.func222,Tryz.ntmps222
 go_wp2_with fail
 refine(HA.o _).mono ?_
 rintro e V1 ⟨rfl,hg,hb⟩
 rw[wSa] at hg ⊢
 have hb2:=aD V1 (.cells #[.slice (some ⟨W.heap.size+1+1,0,none⟩) (dC m) 3] 24)
 have HC2:=aA ((HC.o.below hb).below hb2)
 have HG2:=aA (hg.below hb2)
 have HQ2:=aA (aB.new V1 24 #[.slice (some ⟨W.heap.size+1+1,0,none⟩) (dC m) 3])
 have HB1:=aA (bel HB.o hb)
 have HB2:=aA (bel HB1.o hb2)
 clear hb hb2 hg f0 f1 f2 f3 f4 f5
 go_wp2_with fail
 go_ret
 exact⟨_,rfl,HR.o _ _ _ _ (nLr _) HB1.o.size (by omega) HC2.o HQ2.o HG2.o,HB2.o⟩
theorem aHd (f d:Int)(m:In)(W:World):Calls Tryz.prog 142 #[.agg (kd f d),.agg (ia m)] W (RyP W f d m):=by
 have hmf:∀(fn:Fn) (first cap:Array Value) (w:World),(Instr.makeFunc fn first cap).run Tryz.prog w=.ok (.func fn first cap) w:=fun _ _ _ _=>rfl
 have hb1:=bel (aD W (.cells (kd f d) 23)) (aD (W.alloc (.cells (kd f d) 23)) (.cells (ia m) 132))
 have HK:=aA ((aB.new W 23 (kd f d)).alloc (.cells (ia m) 132))
 have HC:=aA (aJ W (.cells (kd f d) 23) 132 (ia m))
 have HB:=aA hb1
 clear hb1
 obtain⟨x0,x1⟩:=aP HK.o
 obtain⟨f0,f1,f2,f3,f4,f5⟩:=aH HC.o
 by_cases h1:m.op=1
 ·have p1:(m.op==1)=true:=by simpa using h1
  have HV:=aA (show ∀ v D,cZ f d v D m=(m.k,0) from fun v D=>by rw[cZ,if_pos h1])
  have HA:=aA fun V=>wD m.k V
  clear h1
  go_enter Tryz.func142,Tryz.ntmps142
  go_wp2_with fail
  refine(HA.o _).mono ?_
  rintro e V2 ⟨rfl,hc,hb⟩
  rw[wSa,wSa] at hc
  have HC2:=aA hc
  have HB2:=aA (bel HB.o hb)
  clear hc hb
  go_wp2_with fail
  go_ret
  exact RyP.con HV.o (by omega) HC2.o HB2.o
 have p1:(m.op==1)=false:=by simpa using h1
 by_cases h2:m.op=2
 ·have p2:(m.op==2)=true:=by simpa using h2
  have HI:=aA fun V=>aHb f d m h2 V
  clear h1 h2
  go_enter Tryz.func142,Tryz.ntmps142
  go_wp2_with fail
  refine(HI.o _).mono ?_
  rintro e V2 ⟨F,rfl,hS,hb⟩
  have HS2:=aA (hS.mono HB.o.size)
  have HB2:=aA (bel HB.o hb)
  clear hS hb
  go_wp2_with fail
  go_ret
  exact⟨_,rfl,HS2.o,HB2.o⟩
 have p2:(m.op==2)=false:=by simpa using h2
 by_cases h3:m.op=3
 ·have p3:(m.op==3)=true:=by simpa using h3
  have H3:=aA h3
  clear h1 h2 h3
  go_enter Tryz.func142,Tryz.ntmps142
  go_wp2_with fail
  go_ret
  exact⟨_,rfl,.place _ H3.o (by simp) HC.o,HB.o⟩
 have p3:(m.op==3)=false:=by simpa using h3
 have HI:=aA fun V=>aAp f d m h1 h2 h3 V
 clear h1 h2 h3
 go_enter Tryz.func142,Tryz.ntmps142
 go_wp2_with fail
 refine(HI.o _).mono ?_
 rintro e V2 ⟨F,rfl,hS,hb⟩
 have HS2:=aA (hS.mono HB.o.size)
 have HB2:=aA (bel HB.o hb)
 clear hS hb
 go_wp2_with fail
 go_ret
 exact⟨_,rfl,HS2.o,HB2.o⟩
end
section
open Go.RowKit Go.IntWalk Knd
open YticnbcfmbhjbgaaGreatDoor (Wd dQ Fits inpV)
open Cde (In i0 ia kd cd Ins aH aC aP aJ zA cZ dC abc aQ)
open Vfy (aW rM pJ aI)
open YticnbcfmbhjbgaaGreatDoor (aB)
variable {V V' W:World} {b k lo n:Nat} {d f:Int} {L:List In}
theorem bAr:(Tryz.prog.info? 203).map (fun i=>(i.zero,i.size,i.bytes))=some (some .nilFunc,1,8):=by kernel_rfl
def nF (n:Nat):Array Value:=(List.replicate n Value.nilFunc).toArray
theorem aT1 (n:Nat):(nF n).size=n:=by simp[nF]
theorem aXt (n:Nat):madeCells #[Value.nilFunc] (n*1)=nF n:=by
 apply Array.ext_getElem?
 intro i
 by_cases hi:i < n
 ·simp[madeCells,nF,hi,Nat.mod_one]
 ·simp[madeCells,nF,hi]
theorem aXw (n:Nat)(h:n<=1024)(w:World):(Instr.makeSlice 199 (.i n) (.i n)).run Tryz.prog w=.ok (.slice (some ⟨w.heap.size,0,none⟩) n n) (w.alloc (.cells (nF n) 203)):=by
 obtain⟨i0,hi,hz0,hz1,hz2⟩:=info_parts bAr
 have:=run_make w 199 203 i0 _ Tryz.underlying199 hi hz0 .i64 .i64 n n (by omega) (iLr _) (by rw[hz2];omega) (by omega)
 rw[hz1] at this
 simp only[iTn] at this
 have e:madeCells (Value.nilFunc).cells (n*1)=nF n:=aXt n
 rw[e] at this
 exact this
structure Fr (V:World)(lo b n k:Nat)(f d:Int)(L:List In):Prop where
 r:∃ cs,aB V b 203 cs/\cs.size=n/\∀ i,i < k->∃ F,cs[i]?=some F/\St V (b+1) f d (L.getD i i0) F
 lo:lo<=b
theorem Fr.later {V V':World}{lo b n k:Nat}{f d:Int}{L:List In}(h:Fr V lo b n k f d L)(hb:Below V.heap.size V V'):Fr V' lo b n k f d L:=by
 obtain⟨cs,h1,h2,h3⟩:=h.r
 exact⟨⟨cs,h1.below hb,h2,fun i hi=>by obtain⟨F,h4,h5⟩:=h3 i hi;exact⟨F,h4,h5.later hb⟩⟩,h.lo⟩
theorem Fr.at (h:Fr V lo b n k f d L){i:Nat}(hi:i < k):∃ F,V.cell? ⟨b,i,none⟩=some F/\St V (b+1) f d (L.getD i i0) F:=by
 obtain⟨cs,h1,h2,h3⟩:=h.r
 obtain⟨F,h4,h5⟩:=h3 i hi
 exact⟨F,h1.cell i h4,h5⟩
theorem Fr.lt {V:World}{lo b n k:Nat}{f d:Int}{L:List In}(h:Fr V lo b n k f d L):b < V.heap.size:=by
 obtain⟨cs,h1,h2,h3⟩:=h.r
 exact h1.lt
theorem Fr.old (h:Fr V lo b n k f d L)(hk:k < n):V.frozen? ⟨b,k,none⟩=false/\∃ u,V.cell? ⟨b,k,none⟩=some u:=by
 obtain⟨cs,h1,h2,h3⟩:=h.r
 exact⟨h1.frozen k,_,h1.cell k (Array.getElem?_eq_getElem (by omega))⟩
theorem Fr.snoc (h:Fr V lo b n k f d L)(hk:k < n){F:Value}(hF:St V (b+1) f d (L.getD k i0) F):Fr (V.setCell ⟨b,k,none⟩ F) lo b n (k+1) f d L:=by
 obtain⟨cs,h1,h2,h3⟩:=h.r
 refine⟨⟨_,h1.set k F,by simpa using h2,fun i hi=>?_⟩,h.lo⟩
 by_cases he:i=k
 ·subst he
  exact⟨F,by rw[Array.getElem?_setIfInBounds];simp[h2,hk],hF.put (Nat.lt_succ_self b) _ _⟩
 ·obtain⟨G,h4,h5⟩:=h3 i (by omega)
  exact⟨G,by rw[Array.getElem?_setIfInBounds,if_neg (by omega)];exact h4,h5.put (Nat.lt_succ_self b) _ _⟩
structure Hm (V:World)(lo g:Nat)(f d:Int)(L:List In)(o:Int)(b n:Nat):Prop where
 x:aB V g 201 (cd f d (some ⟨b,0,none⟩) n n o)
 s:Fr V lo b n n f d L
 lo:lo<=g
 len:L.length=n
theorem Hm.later {V V':World}{lo g:Nat}{f d:Int}{L:List In}{o:Int}{b n:Nat}(h:Hm V lo g f d L o b n)(hb:Below V.heap.size V V'):Hm V' lo g f d L o b n:=⟨h.x.below hb,h.s.later hb,h.lo,h.len⟩
def NcP (w:World)(f d:Int)(L:List In)(out:Int)(e:Ending)(W':World):Prop :=
 Below w.heap.size w W'/\((aW f d L out≠0/\e=.returned (.tuple #[.pointer none,.i (aW f d L out)]))\/(aW f d L out=0/\∃ g b n,e=.returned (.tuple #[.pointer (some ⟨g,0,none⟩),.i 0])/\Hm W' w.heap.size g f d L out b n))
structure Nx (W V:World)(cv:Array Value)(b n k:Nat)(f d:Int)(L:List In):Prop where
 c:aB V W.heap.size 33 cv
 s:Fr V W.heap.size b n k f d L
 lo:Below W.heap.size W V
 h:W.heap.size < b
theorem Nx.later {W V V':World}{cv:Array Value}{b n k:Nat}{f d:Int}{L:List In}(h:Nx W V cv b n k f d L)(hb:Below V.heap.size V V'):Nx W V' cv b n k f d L:=⟨h.c.below hb,h.s.later hb,bel h.lo hb,h.h⟩
theorem Nx.snoc {W V:World}{cv:Array Value}{b n k:Nat}{f d:Int}{L:List In}(h:Nx W V cv b n k f d L)(hk:k < n){F:Value}(hF:St V (b+1) f d (L.getD k i0) F):Nx W (V.setCell ⟨b,k,none⟩ F) cv b n (k+1) f d L:=by
 have hh:=h.h
 exact⟨h.c.other (p:=⟨b,k,none⟩) (by simp;omega) F,h.s.snoc hk hF,h.lo.setCell (p:=⟨b,k,none⟩) (by simp;omega) F,h.h⟩
theorem aE0 (f d out:Int){a:Option Addr}{cap:Nat}(hL:Ins W a n cap L) :
  Calls Tryz.prog 79 #[.agg (cd f d a n cap out)] W (NcP W f d L out):=by
 have hb1:=aD W (.cells (cd f d a n cap out) 33)
 have HC0:=aA (aB.new W 33 (cd f d a n cap out))
 have HV:=aA (Vfy.dR f d out (hL.later hb1))
 have HB0:=aA hb1
 have HLI:=aA hL
 clear hb1
 by_cases h0:aW f d L out=0
 ·obtain⟨mc,-⟩:=aI h0
  obtain⟨-,m1,m2,-,-,-⟩:=aQ mc
  rw[hL.len] at m1 m2
  have HLn:=aA hL.len
  unfold Vfy.VfP at HV
  rw[h0] at HV
  have H0:=aA h0
  generalize rM f d L out=vm at *
  generalize pJ f d L out=vc at *
  generalize Vfy.sD f d L out=vs at *
  have HR:=aA fun(m:In) (V:World)=>aHd f d m V
  have hmk:=aXw n (by omega)
  clear mc h0 hL
  go_enter Tryz.func79,Tryz.ntmps79
  go_wp2_with fail
  refine HV.o.mono ?_
  rintro e V1 ⟨ga,gc,rfl,hS,hb,-,-⟩
  have hb2:=bel hb (aD V1 (.cells #[.slice ga vm gc,.i vc,.i 0] 55))
  have HC1:=aA (HC0.o.below hb2)
  have HB1:=aA (bel HB0.o hb2)
  have hz:=HC1.o.lt
  obtain⟨c0,c1,c2,c3⟩:=aC (HC0.o.below hb)
  have hz0:=(HC0.o.below hb).lt
  have hb3:=aD (V1.alloc (.cells #[.slice ga vm gc,.i vc,.i 0] 55)) (.cells (nF n) 203)
  have HN1:Hid (Nx W ((V1.alloc (.cells #[.slice ga vm gc,.i vc,.i 0] 55)).alloc (.cells (nF n) 203)) (cd f d a n cap out) (V1.heap.size+1) n 0 f d L) :=
   aA ⟨HC1.o.below hb3,⟨⟨_,aJ V1 _ 203 (nF n),aT1 n,fun i hi=>by omega⟩,by omega⟩,bel HB1.o hb3,by omega⟩
  clear hb hb2 hb3 hS HV HC0 HB0 hz
  go_wp2_with fail
  clear hmk c0 c1 c2 c3
  generalize V1.heap.size+1=b at *
  go_loopw [24] (fun i wr=>∃ k:Nat,k<=n/\i=.i k/\Hid (Nx W wr (cd f d a n cap out) b n k f d L)) (fun i _=>n-(intOf i).toNat)
  case atStart=>exact⟨0,nZl _,rfl,HN1⟩
  case round =>
   obtain⟨k,hk,rfl,HN⟩:=hrel
   rename World=>V
   clear HN1
   by_cases hlt:k < n
   ·obtain⟨ab,off,rfl,-,hat⟩:=(HLI.o.later HN.o.lo).at (by omega)
    obtain⟨e0,e1,e2,e3,e4,e5⟩:=hat k hlt
    have hi0:(0:Int)<=k:=by omega
    have hi1:(k:Int) < n:=by omega
    have HSn:=aA fun(V:World) (F:Value) (h:Nx W V (cd f d (some ⟨ab,off,none⟩) n cap out) b n k f d L) (hF:St V (b+1) f d (L.getD k i0) F)=>h.snoc hlt hF
    generalize L.getD k i0=m at *
    have hb:=aD V (.cells (ia m) 132)
    have HN2:=aA (HN.o.later hb)
    have HM2:=aA (aB.new V 132 (ia m))
    have HLo:=aA (show b+1<=(V.alloc (.cells (ia m) 132)).heap.size from HN2.o.s.lt)
    obtain⟨x0,x1,x2,x3⟩:=aC HN.o.c
    have hz0:=HN.o.c.lt
    clear hb hat
    go_wp2_with fail
    refine(HR.o m _).mono ?_
    rintro e V3 ⟨F,rfl,hS,hb⟩
    obtain⟨fn,fs,cp,rfl⟩:=hS.form
    have HN3:=aA (HN2.o.later hb)
    have HS3:=aA (hS.mono HLo.o)
    obtain⟨w0,u,w1⟩:=HN3.o.s.old hlt
    have HN4:=aA (HSn.o _ _ HN3.o HS3.o)
    clear hb hS HN2 HM2 e0 e1 e2 e3 e4 e5 x0 x1 x2 x3
    go_wp2_with fail
    go_roundw
    case rel=>exact⟨k+1,by omega,by go_num,HN4⟩
    case measure=>simp[intOf];omega
   ·obtain rfl:k=n:=by omega
    obtain⟨x0,x1,x2,x3⟩:=aC HN.o.c
    go_wp2_with fail
    have hb4:=aD V (.cells (cd f d (some ⟨b,0,none⟩) k k out) 201)
    exact bPr (v:=.tuple #[.pointer (some ⟨V.heap.size,0,none⟩),.i 0]) (by simp[results,Tryz.results79,go_sem]) rfl ⟨bel HN.o.lo hb4,.inr ⟨H0.o,_,_,_,rfl,⟨aB.new _ _ _,HN.o.s.later hb4,HN.o.lo.size,HLn.o⟩⟩⟩
 ·unfold Vfy.VfP at HV
  obtain⟨er,her⟩:∃ er,aW f d L out=er:=⟨_,rfl⟩
  have HE:Hid (∀ e W',Below W.heap.size W W'->e=.returned (.tuple #[.pointer none,.i er])->NcP W f d L out e W'):=aA fun e W' hb he=>⟨hb,.inl ⟨h0,by rw[her];exact he⟩⟩
  have hr:(er != 0)=true:=by rw[<-her];simpa using h0
  rw[her] at HV
  generalize rM f d L out=vm at *
  generalize pJ f d L out=vc at *
  generalize Vfy.sD f d L out=vs at *
  clear h0 her hL
  go_enter Tryz.func79,Tryz.ntmps79
  go_wp2_with fail
  refine HV.o.mono ?_
  rintro e V1 ⟨ga,gc,rfl,hS,hb,-,-⟩
  have HB1:=aA (bel HB0.o (bel hb (aD V1 (.cells #[.slice ga vm gc,.i vc,.i 0] 55))))
  clear hb hS HV HC0 HB0
  go_wp2_with fail
  exact bPr (v:=.tuple #[.pointer none,.i er]) (by simp[results,Tryz.results79,go_sem]) rfl (HE.o _ _ HB1.o rfl)
end
section
open Go.RowKit Go.IntWalk Knd
open YticnbcfmbhjbgaaGreatDoor (Wd dQ Fits inpV)
open Cde (In i0 ia kd cd Ins aH aC aP aJ bE zA gZ aJq cZ gW dC abc mV fU aB5 arM aIl aG dJ aRv spn qF xO)
open YticnbcfmbhjbgaaGreatDoor (aB)
variable {g k:Nat} {W:World}
def agM (D:List Int)(n:In)(k:Nat):List Int:=(gW D n).take k++List.replicate (3-k) 0
theorem aRz (D:List Int)(n:In)(h:k<=dC n):(agM D n k).length=3:=by
 have:=Cde.kX n
 simp[agM,fU]
 omega
theorem aJ9 (D:List Int)(n:In)(h:k < dC n):agM D n k=(gW D n).take k++0::List.replicate (3-(k+1)) 0:=by
 have:=Cde.kX n
 rw[agM,show 3-k=(3-(k+1))+1 by omega,List.replicate_succ]
theorem aMo (D:List Int)(n:In)(h:k < dC n):(gW D n).take k++D.getD (mV n k).toNat 0::List.replicate (3-(k+1)) 0=agM D n (k+1):=by
 rw[agM,aG 0 (by rw[fU];exact h),aB5 D n k h]
 simp
theorem aMn (D:List Int)(n:In):agM D n (dC n)=gW D n++List.replicate (3-dC n) 0:=by
 rw[agM,lTl (by rw[fU];exact nLr _)]
theorem aYw {t:TypeId}{D Z:List Int}{q:Int}(h:aB W g t (zA (D++q::Z)))(hk:D.length=k)(x:Int):aB (W.setCell ⟨g,k,none⟩ (.i x)) g t (zA (D++x::Z)):=by
 subst hk
 have:=h.set D.length (.i x)
 have e:(zA (D++q::Z)).setIfInBounds D.length (.i x)=zA (D++x::Z):=by
  apply Array.toList_inj.1
  simp only[Array.toList_setIfInBounds,List.map_append,lMc]
  rw[List.set_append_right _ _ (by simp)]
  simp
 rwa[e] at this
theorem aZ2 {t:TypeId}{L M:List Int}(h:aB W g t (zA (L++M)))(hl:(L++M).length=3):Ints W (some ⟨g,0,none⟩) L.length 3 L:=by
 have h2:L.length<=3:=by rw[<-hl];simp
 refine⟨rfl,h2,by decide,(fun h=>by cases h),.inr ⟨g,0,rfl,fun i hi=>?_⟩⟩
 rw[nZa,h.cell i (gZ _ i (by simp;omega)),dJ hi]
theorem aQw {f d:Int}{m:In}{v:Wd}{D:List Int}{x:Int}{i:Nat}(pa:Option Addr){ra:Option Addr}(pl pc:Nat){rn rc:Nat}{b q:Nat}(hc:aB W b 132 (ia m))(hr:aB W q 24 #[.slice (some ⟨g,0,none⟩) (dC m) 3])(ha:aB W g 3 (zA (abc m)))(hV:Ints W ra rn rc D)(ho:bE m i=true)(hi:i<=rn)(h1:m.op≠1)(h2:m.op≠2)(h3:m.op≠3)(hx:cZ f d v D m=(x,0)) :
  Calls Tryz.prog 289 #[.agg (dQ v pa pl pc),.slice ra rn rc,.pointer (some ⟨q,0,none⟩),.pointer (some ⟨b,0,none⟩)] W fun e W'=>e=.returned (.i x)/\Below W.heap.size W W':=by
 have HC0:=aA hc
 have HR0:=aA hr
 have HA0:=aA ha
 have HV0:=aA hV
 have HM0:=aA (aJ W (.cells (dQ v pa pl pc) 26) 276 (zA [0,0,0]))
 have HB0:=aA (bel (aD W (.cells (dQ v pa pl pc) 26)) (aD _ (.cells (zA [0,0,0]) 276)))
 have hv:Spn.bK m.op m.k m.s (gW D m)=(x,0):=by rw[cZ,if_neg h1,if_neg h2,if_neg h3] at hx;exact hx
 have HVl:=aA hv
 have HReg:=aA fun j hj=>qF ho (j:=j) hj
 have HS:=aA fun k (h:k < dC m)=>aJ9 D m h
 have HU:=aA fun k (h:k < dC m)=>aMo D m h
 have HLn:=aA fun k (h:k<=dC m)=>aRz D m h
 have HD:=aA (aMn D m)
 have HAl:=aA (fU D m)
 have H00:Hid (agM D m 0=[0,0,0]):=aA rfl
 have h3':=Cde.kX m
 have HAb:=aA fun j (h:j < 3)=>(gZ (abc m) j (by simpa [abc] using h)).trans (by rw[xO m j h])
 have hq0:=hr.lt
 have r0:=hr.cell 0 rfl
 clear hc ha hV hr ho h1 h2 h3 hx hv
 generalize agM D m=M at *
 generalize dC m=n at *
 go_enter Tryz.func289,Tryz.ntmps289
 go_wp2_with fail
 clear r0
 go_loopw [14] (fun j wr=>∃ k:Nat,k<=n/\j=.i k/\Hid (aB wr (W.heap.size+1) 276 (zA (M k)))/\Hid (Below W.heap.size W wr)) (fun j _=>n-(intOf j).toNat)
 case atStart=>exact⟨0,nZl _,rfl,aA (by rw[H00.o];exact HM0.o),HB0⟩
 case round =>
  obtain⟨k,hk,rfl,HM,HB⟩:=hrel
  rename World=>V2
  clear HM0 HB0
  by_cases hlt:k < n
  ·obtain⟨p0,p1⟩:=HReg.o k hlt
   have c0:=(HA0.o.below HB.o).cell k (HAb.o k (by omega))
   have HX:=HM.o
   have hl3:=HLn.o k hk
   have w1:=HX.cell k (gZ _ k (by rw[hl3];omega))
   rw[HS.o k hlt] at HX
   have HX2:=aA fun x=>aYw (k:=k) HX (by rw[lLt,HAl.o];omega) x
   have HU2:=aA (HU.o k hlt)
   have y0:=HM.o.frozen k
   obtain⟨p,hp⟩:∃ p:Nat,mV m k=(p:Int):=⟨(mV m k).toNat,by omega⟩
   rw[hp] at c0 p1 HU2
   simp only[iTn] at p1 HU2
   obtain⟨rb,ro,rfl,-,hat⟩:=(HV0.o.later HB.o).at (by omega)
   have c1:=hat p (by omega)
   generalize D.getD p 0=z at *
   have HX3:=aA (HX2.o z)
   rw[HU2.o] at HX3
   have HB4:=aA (HB.o.setCell (p:=⟨W.heap.size+1,k,none⟩) (by simp) (.i z))
   have i0:(0:Int)<=p:=by omega
   have i1:(p:Int) < rn:=by omega
   have j0:(0:Int)<=k:=by omega
   have j1:(k:Int) < n:=by omega
   have j3:(k:Int) < 3:=by omega
   clear HX HX2 HU2 hat hp p0 p1 hl3
   go_wp2_with fail
   go_roundw
   case rel=>exact⟨k+1,by omega,by go_num,HX3,HB4⟩
   case measure=>simp[intOf];omega
  ·obtain rfl:k=n:=by omega
   have hI:=HM.o
   rw[HD.o] at hI
   have hI2:=aZ2 hI (by rw[<-HD.o];exact HLn.o k (nLr _))
   rw[HAl.o] at hI2
   have HVa:=aA fun(V:World) (hb:Below V2.heap.size V2 V)=>Spn.kU m.op m.k m.s _ _ _ _ V (spn (hI2.later hb))
   rw[HVl.o] at HVa
   obtain⟨e0,-,-,-,e4,e5⟩:=aH (HC0.o.below HB.o)
   have x0:=(HR0.o.below HB.o).cell 0 rfl
   have k0:=cell_regrown e0
   have k1:=cell_regrown e4
   have k2:=cell_regrown e5
   have k3:=cell_regrown x0
   have j3:(k:Int)<=3:=by omega
   clear hI hI2
   go_wp2_with fail
   refine wp_region_quiet_below Cde.lL (by kernel_rfl) ?_
   repeat (go_big_quiet_step (fail))
   go_big_quiet_step ((go_at_call 194;exact Calls.regrown_of (HVa.o _ (below_regrown _ _ _))))
   repeat (go_big_quiet_step (fail))
   refine wpQuiet_nil ?_
   intro V3 hw'
   obtain⟨⟨dq,osq⟩,hw''⟩:=hw'
   have hb:=below_regrown V2 dq osq
   simp only at hw''
   rw[<-hw''] at hb
   have HB3:=aA (bel HB.o hb)
   clear hb hw'' k0 k1 k2 k3 e0 e4 e5 x0
   go_wp2_with fail
   go_ret
   exact⟨rfl,HB3.o⟩
end
open Go.RowKit Go.IntWalk Knd
open YticnbcfmbhjbgaaGreatDoor (Wd dQ Fits inpV)
open Cde (In i0 ia kd cd Ins Ls kL aH aC aP aJ bE zA cZ nA dC abc fZ aQ)
open Vfy (aW aI)
open YticnbcfmbhjbgaaGreatDoor (aB)
theorem aXx (n:Nat)(h:n<=1024)(w:World):∃ w',(Instr.makeSlice 24 (.i 0) (.i n)).run Tryz.prog w=.ok (.slice (some ⟨w.heap.size,0,none⟩) 0 n) w'/\Ls w w' (.slice (some ⟨w.heap.size,0,none⟩) 0 n) []:=by
 obtain⟨i0',hi0,hz0,hz1,hz2⟩:=info_parts info3
 obtain⟨w',h1,h2,h3⟩:=run_make_own (P:=Tryz.prog) w w.heap.size 24 3 i0' _ 1 Tryz.underlying24 hi0 hz0 hz1 .i64 .i64 n (by rw[hz2];omega) (by unfold maxLen;omega) (nLr _)
 exact⟨w',h1,h2,(Below.refl _ _).grown h3 (nLr _) (fun k hk=>by cases hk)⟩
theorem yU {f d out:Int}(v:Wd){lo g:Nat}{pa:Option Addr}{b n pl pc:Nat}{L:List In}{W:World}(hM:Hm W lo g f d L out b n)(hP:Ints W pa pl pc v.ps)(h:aW f d L out=0) :
  Calls Tryz.prog 61 #[.pointer (some ⟨g,0,none⟩),.agg (dQ v pa pl pc)] W fun e W'=>e=.returned (hrV (fZ f d v L out) out)/\Below W.heap.size W W':=by
 have hb1:=aD W (.cells (dQ v pa pl pc) 26)
 have HM0:=aA (hM.later hb1)
 have HW0:=aA (aB.new W 26 (dQ v pa pl pc))
 have HB0:=aA hb1
 have HPI:=aA hP
 have HLn:=aA hM.len
 have HF:=aA fun w h=>yM f d v.x v.y v.c pa pl pc v.ps w h
 obtain⟨mc,-⟩:=aI h
 obtain⟨-,m1,m2,-,-,-⟩:=aQ mc
 rw[HLn.o] at m1 m2
 clear hb1 hM hP
 rcases YticnbcfmbhjbgaaGreatDoor.dX f d v with⟨hF,h1⟩|⟨hF,h1⟩
 ·rw[h1] at HF
  have HAt:=aA fun(k:Nat) (hk:k < L.length) (D:List Int) hD=>aHx h hF hk (D:=D) hD
  have HFt:=aA hF
  have hmk:=fun w=>aXx n (by omega) w
  have h2:=aDm h v
  rcases h2 with⟨-,D0,h4,h5,h6,h7,h8⟩|⟨h2,-⟩
  rotate_left
  ·exact absurd hF h2
  rw[h4]
  obtain⟨q,rfl⟩:∃ q:Nat,out=q:=⟨out.toNat,by omega⟩
  have hq:q < n:=by rw[<-HLn.o];omega
  obtain⟨z,hz⟩:∃ z,D0.getD q 0=z:=⟨_,rfl⟩
  have hv:hrV (0,D0) q=.tuple #[.i z,.i 0]:=by simp[hrV,hrX,<-hz]
  rw[hv]
  have HZ:=aA hz
  have HD0:=aA h5
  clear mc h h1 hF h4 h5 h6 h7 h8 hv hz
  go_enter Tryz.func61,Tryz.ntmps61
  go_wp2_with fail
  obtain⟨W1,hW1⟩:∃ W1,W.alloc (.cells (dQ v pa pl pc) 26)=W1:=⟨_,rfl⟩
  rw[hW1] at HM0 HW0 HB0 ⊢
  clear hW1
  obtain⟨c0,c1,c2,c3⟩:=aC HM0.o.x
  obtain⟨y0,y1,y2,y3⟩:=aC HW0.o
  have r0:=cell_regrown c0
  have r1:=cell_regrown c1
  have r2:=cell_regrown y0
  have r3:=cell_regrown y1
  have r4:=cell_regrown y2
  have r5:=cell_regrown y3
  have HFi:=aA fun(V:World) (hb:Below W1.heap.size W1 V)=>HF.o V (HPI.o.later (bel HB0.o hb))
  refine wp_region_quiet_below Cde.lL (by kernel_rfl) ?_
  repeat (go_big_quiet_step (fail))
  go_big_quiet_step ((go_at_call 114;exact Calls.regrown_of (HFi.o _ (below_regrown _ _ _))))
  repeat (go_big_quiet_step (fail))
  refine wpQuiet_nil ?_
  intro V1 hw'
  obtain⟨⟨dq,osq⟩,hw''⟩:=hw'
  have hb:=below_regrown W1 dq osq
  simp only at hw''
  rw[<-hw''] at hb
  have HM1:=aA (HM0.o.later hb)
  have HW1:=aA (HW0.o.below hb)
  have HB1:=aA (bel HB0.o hb)
  clear hw'' hb r0 r1 r2 r3 r4 r5 c0 c1 c2 c3 y0 y1 y2 y3 HFi HM0 HW0 HB0 HF
  obtain⟨c0,c1,c2,c3⟩:=aC HM1.o.x
  obtain⟨V2,hmk2,hL2⟩:=hmk V1
  have HL2:=aA hL2
  have HM2:=aA (HM1.o.later hL2.bel)
  obtain⟨q0,q1,q2,q3⟩:=aC HM2.o.x
  clear hmk hL2
  go_wp2_with fail
  clear hmk2 c0 c1 c2 c3 q0 q1 q2 q3
  go_loopw [7,32] (fun vv i wr=>∃(k:Nat) (D:List Int),k<=n/\i=.i k/\Hid (nA f d v (L.take k)=(0,D))/\Hid (D.length=k)/\Hid (Ls V1 wr vv D)) (fun _ i _=>n-(intOf i).toNat)
  case atStart=>exact⟨0,[],nZl _,rfl,aA rfl,aA rfl,HL2⟩
  case round =>
   obtain⟨k,D,hk,rfl,HD,HDl,HE⟩:=hrel
   rename World=>V
   have HMv:=aA (HM1.o.later HE.o.bel)
   have HWv:=aA (HW1.o.below HE.o.bel)
   have HBv:=aA (bel HB1.o HE.o.bel)
   clear HL2 HM2
   by_cases hlt:k < n
   ·obtain⟨F,hF,hSt⟩:=HMv.o.s.at hlt
    obtain⟨ra,rc,e',hR,-⟩:=Ints.of_owns HE.o.a
    subst e'
    rw[HDl.o] at hR
    obtain⟨-,hok,x,hx,hS⟩:=HAt.o k (by rw[HLn.o];exact hlt) D HD.o
    have hi0:(0:Int)<=k:=by omega
    have hi1:(k:Int) < n:=by omega
    generalize L.getD k i0=m at *
    have HS:=aA hS
    have HJ:Hid (D.length<=2000000):=aA (by rw[HDl.o];omega)
    obtain⟨y0,y1,y2,y3⟩:=aC HWv.o
    obtain⟨c0,c1,c2,c3⟩:=aC HMv.o.x
    have hz1:=HWv.o.lt
    rw[HDl.o]
    clear hS
    cases hSt with
    | con cb cx hxx hcl hc =>
     have e1:cx=x:=by have:=(hxx v D).symm.trans hx;exact congrArg Prod.fst this
     have HC:=aA (aQi cx v pa ra pl pc k rc hc)
     rw[e1] at HC
     clear hx hxx hcl hc e1
     go_wp2_with fail
     refine HC.o.mono ?_
     rintro e V6 ⟨rfl,hb⟩
     have HE6:=aA (HE.o.later hb)
     clear hb y0 y1 y2 y3 c0 c1 c2 c3 HC hz1
     go_wp2_with (at_builtin;refine kL (w:=V1) (L:=D) rfl _ _ rfl (by rw[HDl.o];rfl) (HE6.o.later (aD _ _)) _ x rfl (aB.new _ _ _) HJ.o ?_;intro g2 cap2 w2 HE2;rw[HDl.o] at HE2 ⊢)
     go_roundw
     case rel=>exact⟨k+1,D++[x],by omega,by go_num,HS,aA (by simp[HDl.o]),aA HE2⟩
     case measure=>simp[intOf];omega
    | inx hxx =>
     have e1:v.x=x:=by have:=(hxx v D).symm.trans hx;exact congrArg Prod.fst this
     have HC:=aA (aQq v pa ra pl pc k rc V)
     rw[e1] at HC
     clear hx hxx e1
     go_wp2_with fail
     refine HC.o.mono ?_
     rintro e V6 ⟨rfl,hb⟩
     have HE6:=aA (HE.o.later hb)
     clear hb y0 y1 y2 y3 c0 c1 c2 c3 HC hz1
     go_wp2_with (at_builtin;refine kL (w:=V1) (L:=D) rfl _ _ rfl (by rw[HDl.o];rfl) (HE6.o.later (aD _ _)) _ x rfl (aB.new _ _ _) HJ.o ?_;intro g2 cap2 w2 HE2;rw[HDl.o] at HE2 ⊢)
     go_roundw
     case rel=>exact⟨k+1,D++[x],by omega,by go_num,HS,aA (by simp[HDl.o]),aA HE2⟩
     case measure=>simp[intOf];omega
    | iny hxx =>
     have e1:v.y=x:=by have:=(hxx v D).symm.trans hx;exact congrArg Prod.fst this
     have HC:=aA (aQr v pa ra pl pc k rc V)
     rw[e1] at HC
     clear hx hxx e1
     go_wp2_with fail
     refine HC.o.mono ?_
     rintro e V6 ⟨rfl,hb⟩
     have HE6:=aA (HE.o.later hb)
     clear hb y0 y1 y2 y3 c0 c1 c2 c3 HC hz1
     go_wp2_with (at_builtin;refine kL (w:=V1) (L:=D) rfl _ _ rfl (by rw[HDl.o];rfl) (HE6.o.later (aD _ _)) _ x rfl (aB.new _ _ _) HJ.o ?_;intro g2 cap2 w2 HE2;rw[HDl.o] at HE2 ⊢)
     go_roundw
     case rel=>exact⟨k+1,D++[x],by omega,by go_num,HS,aA (by simp[HDl.o]),aA HE2⟩
     case measure=>simp[intOf];omega
    | inc hxx =>
     have e1:v.c=x:=by have:=(hxx v D).symm.trans hx;exact congrArg Prod.fst this
     have HC:=aA (aQp v pa ra pl pc k rc V)
     rw[e1] at HC
     clear hx hxx e1
     go_wp2_with fail
     refine HC.o.mono ?_
     rintro e V6 ⟨rfl,hb⟩
     have HE6:=aA (HE.o.later hb)
     clear hb y0 y1 y2 y3 c0 c1 c2 c3 HC hz1
     go_wp2_with (at_builtin;refine kL (w:=V1) (L:=D) rfl _ _ rfl (by rw[HDl.o];rfl) (HE6.o.later (aD _ _)) _ x rfl (aB.new _ _ _) HJ.o ?_;intro g2 cap2 w2 HE2;rw[HDl.o] at HE2 ⊢)
     go_roundw
     case rel=>exact⟨k+1,D++[x],by omega,by go_num,HS,aA (by simp[HDl.o]),aA HE2⟩
     case measure=>simp[intOf];omega
    | place cb h3 hcl hc =>
     have HC:=aA (aH4 ra k rc hc (HPI.o.later HBv.o) HFt.o hok h3 hx)
     clear hx h3 hcl hc
     go_wp2_with fail
     refine HC.o.mono ?_
     rintro e V6 ⟨rfl,hb⟩
     have HE6:=aA (HE.o.later hb)
     clear hb y0 y1 y2 y3 c0 c1 c2 c3 HC hz1
     go_wp2_with (at_builtin;refine kL (w:=V1) (L:=D) rfl _ _ rfl (by rw[HDl.o];rfl) (HE6.o.later (aD _ _)) _ x rfl (aB.new _ _ _) HJ.o ?_;intro g2 cap2 w2 HE2;rw[HDl.o] at HE2 ⊢)
     go_roundw
     case rel=>exact⟨k+1,D++[x],by omega,by go_num,HS,aA (by simp[HDl.o]),aA HE2⟩
     case measure=>simp[intOf];omega
    | opr cb cq cg h1 h2 h3 hcl hql hgl hc hr ha =>
     have HC:=aA (aQw pa pl pc hc hr ha hR hok (nLr _) h1 h2 h3 hx)
     clear hx h1 h2 h3 hcl hql hgl hc hr ha
     go_wp2_with fail
     refine HC.o.mono ?_
     rintro e V6 ⟨rfl,hb⟩
     have HE6:=aA (HE.o.later hb)
     clear hb y0 y1 y2 y3 c0 c1 c2 c3 HC hz1
     go_wp2_with (at_builtin;refine kL (w:=V1) (L:=D) rfl _ _ rfl (by rw[HDl.o];rfl) (HE6.o.later (aD _ _)) _ x rfl (aB.new _ _ _) HJ.o ?_;intro g2 cap2 w2 HE2;rw[HDl.o] at HE2 ⊢)
     go_roundw
     case rel=>exact⟨k+1,D++[x],by omega,by go_num,HS,aA (by simp[HDl.o]),aA HE2⟩
     case measure=>simp[intOf];omega
   ·obtain rfl:k=n:=by omega
    have hD:=HD.o
    rw[lTl (by rw[HLn.o];exact nLr _),HD0.o] at hD
    have hDD:D0=D:=congrArg Prod.snd hD
    subst hDD
    obtain⟨a',c',e',hR,-⟩:=Ints.of_owns HE.o.a
    subst e'
    rw[HDl.o] at hR
    obtain⟨rb,ro,rfl,-,hat⟩:=hR.at (by omega)
    have px:=hat q (by omega)
    rw[HZ.o] at px
    obtain⟨c0,c1,c2,c3⟩:=aC HMv.o.x
    have i0:(0:Int)<=q:=by omega
    have i1:(q:Int) < k:=by omega
    rw[HDl.o]
    clear hD hR hat
    go_wp2_with fail
    exact bPr (v:=.tuple #[.i z,.i 0]) (by simp[results,Tryz.results61,go_sem]) rfl ⟨rfl,HBv.o⟩
 ·rw[h1] at HF
  have h2:fZ f d v L out=(1,[]):=by rw[fZ,if_pos mc,if_neg hF]
  rw[h2,show hrV (1,[]) out=.tuple #[.i 0,.i 1] from rfl]
  clear mc h h1 hF h2
  go_enter Tryz.func61,Tryz.ntmps61
  go_wp2_with fail
  obtain⟨W1,hW1⟩:∃ W1,W.alloc (.cells (dQ v pa pl pc) 26)=W1:=⟨_,rfl⟩
  rw[hW1] at HM0 HW0 HB0 ⊢
  clear hW1
  obtain⟨c0,c1,c2,c3⟩:=aC HM0.o.x
  obtain⟨y0,y1,y2,y3⟩:=aC HW0.o
  have r0:=cell_regrown c0
  have r1:=cell_regrown c1
  have r2:=cell_regrown y0
  have r3:=cell_regrown y1
  have r4:=cell_regrown y2
  have r5:=cell_regrown y3
  have HFi:=aA fun(V:World) (hb:Below W1.heap.size W1 V)=>HF.o V (HPI.o.later (bel HB0.o hb))
  refine wp_region_quiet_below Cde.lL (by kernel_rfl) ?_
  repeat (go_big_quiet_step (fail))
  go_big_quiet_step ((go_at_call 114;exact Calls.regrown_of (HFi.o _ (below_regrown _ _ _))))
  repeat (go_big_quiet_step (fail))
  refine wpQuiet_nil ?_
  intro V1 hw'
  obtain⟨⟨dq,osq⟩,hw''⟩:=hw'
  have hb:=below_regrown W1 dq osq
  simp only at hw''
  rw[<-hw''] at hb
  have HB1:=aA (bel HB0.o hb)
  clear hw'' hb r0 r1 r2 r3 r4 r5 c0 c1 c2 c3 y0 y1 y2 y3 HFi HM0 HW0 HB0 HF
  go_wp2_with fail
  exact bPr (v:=.tuple #[.i 0,.i 1]) (by simp[results,Tryz.results61,go_sem]) rfl ⟨rfl,HB1.o⟩
end Go.Proofs.Chn
