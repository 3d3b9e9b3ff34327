import Derived.Test.YticnbcfmbhjbgaaGreatDoorX22
import Derived.Test.YticnbcfmbhjbgaaGreatDoorX33
set_option maxRecDepth 100000
set_option maxHeartbeats 32000000
set_option linter.unusedVariables false
namespace Go.Proofs.Rdc
section
open Go.RowKit Go.IntWalk Knd
open YticnbcfmbhjbgaaGreatDoor (Wd dQ Fits inpV)
open Cde (In i0 eF dC bE eH kM eU jK cZ tK nA fZ gW nE tJ tH)
open Vfy (pI aW aI w32 eZ iL tC)
open Fld (ar vl rg dH dP Rv gv eD av1 uV xP jI oV bO nI kT bR kH gJ mQ)
variable {k m:Nat} {U:List Int} {d f p r x:Int} {v:Wd}
def tmI (r k:Int):In:=if 0<=wS k then⟨29,r,0,0,wS k,0⟩ else⟨32,r,0,0,k,0⟩
def dvL (lo hi x d m:Int):Option (List In) :=
 if 0 < wS d then
  (if 0<=lo then some [⟨30,x,0,0,wS d,0⟩] else
   if hi+d-1<=2147483647 then some [⟨30,x,0,0,31,0⟩,⟨31,m,0,0,d-1,0⟩,⟨8,x,m+1,0,0,0⟩,⟨30,m+2,0,0,wS d,0⟩] else none)
 else if (mgZ (max (-lo) hi) d).2.2=true then
  (if 0<=lo then some [⟨33,x,0,0,(mgZ (max (-lo) hi) d).1,(mgZ (max (-lo) hi) d).2.1⟩] else
   some [⟨33,x,0,0,(mgZ (max (-lo) hi) d).1,(mgZ (max (-lo) hi) d).2.1⟩,⟨30,x,0,0,31,0⟩,⟨9,m,m+1,0,0,0⟩])
 else none
def qkL (L:List In)(S:List (Int × Int))(T:List Int)(n:In)(m:Int):Option (List In) :=
 if n.op=10 then
  (if (rg L n.b).op=1 then some [tmI (gv T n.a) (rg L n.b).k] else if (rg L n.a).op=1 then some [tmI (gv T n.b) (rg L n.a).k] else none)
 else if n.op=15 then
  (if (rg L n.b).op=1/\0<=(rg L n.b).k then some [⟨31,gv T n.a,0,0,(rg L n.b).k,0⟩] else if (rg L n.a).op=1/\0<=(rg L n.a).k then some [⟨31,gv T n.b,0,0,(rg L n.a).k,0⟩] else none)
 else if n.op=13 then(if (rg L n.b).op=1 then some [⟨29,gv T n.a,0,0,(rg L n.b).k,0⟩] else none)
 else if n.op=14 then(if (rg L n.b).op=1 then some [⟨30,gv T n.a,0,0,(rg L n.b).k,0⟩] else none)
 else if n.op=11 then(if (rg L n.b).op=1 then dvL (S.getD n.a.toNat (0,0)).1 (S.getD n.a.toNat (0,0)).2 (gv T n.a) (rg L n.b).k m else none)
 else if n.op=12 then
  (if (rg L n.b).op=1 then
   (if 0 < wS (rg L n.b).k/\0<=(S.getD n.a.toNat (0,0)).1 then some [⟨31,gv T n.a,0,0,(rg L n.b).k-1,0⟩] else
    (dvL (S.getD n.a.toNat (0,0)).1 (S.getD n.a.toNat (0,0)).2 (gv T n.a) (rg L n.b).k m).map fun Q=>Q++[tmI (m+Q.length-1) (rg L n.b).k,⟨9,gv T n.a,m+Q.length,0,0,0⟩])
  else none)
 else none
def rdW (L:List In)(S:List (Int × Int))(T:List Int)(n:In)(m:Int):List In:=(qkL L S T n m).getD [dH n T]
def rdS (L:List In)(S:List (Int × Int))(s:List In × List Int)(n:In):List In × List Int :=
 (s.1++rdW L S s.2 n s.1.length,s.2++[((s.1.length+(rdW L S s.2 n s.1.length).length:Nat):Int)-1])
def vM (L:List In)(S:List (Int × Int))(K:List In):List In × List Int:=K.foldl (rdS L S) ([],[])
theorem aP3 (L:List In)(S:List (Int × Int))(K:List In)(n:In):vM L S (K++[n])=rdS L S (vM L S K) n:=by simp[vM]
theorem qK (S:List (Int × Int)){L:List In}(hk:k < L.length):vM L S (L.take (k+1))=rdS L S (vM L S (L.take k)) (L.getD k i0):=by rw[Cde.aG i0 hk,aP3]
def Ap (f d:Int)(v:Wd)(M:List In)(U:List Int)(W:List In)(x:Int):Prop :=
 1<=W.length/\∃ X,X.length=W.length/\Rv f d v (M++W) (U++X)/\(∀ u ∈ X,w32 u)/\gv (U++X) (((M.length+W.length:Nat):Int)-1)=x
theorem aCu {X:List Int}(h:eD r k)(hk:k<=U.length):gv (U++X) r=gv U r:=by
 unfold gv
 rw[Cde.dJ (by have:=h.2;omega)]
theorem wG (h:eD r k)(hk:k<=m):eD r m:=⟨h.1,by have:=h.2;omega⟩
theorem zS {op k s:Int}(hr:eD r m)(hw:w32 (gv U r))(ha:ar op=1)(hc:nE ⟨op,r,0,0,k,s⟩=true)(hcs:Spn.cons op k s=true)(he:Spn.ex op k s (gv U r) 0 0=(x,0))(hx:w32 x) :
  bE ⟨op,r,0,0,k,s⟩ m=true/\cZ f d v U ⟨op,r,0,0,k,s⟩=(x,0):=by
 have ha':Spn.ar op=1:=ha
 constructor
 ·simp only[bE,tJ,bAt,kH,hc,ha',dEt,decide_eq_false_iff_not]
  exact⟨⟨by omega,⟨⟨fun _=>hr,fun h=>absurd (by omega) h⟩,fun h=>absurd h (by omega),fun _=>trivial⟩,fun h=>absurd h (by omega),fun _=>trivial⟩,trivial⟩
 ·rw[bO (by show 1<=ar op;omega),av1 (show ar op=1 from ha)]
  unfold vl Spn.bK
  have hm:Spn.fT op k s [gv U r]=true:=by
   have hw':Spn.wd (gv U r)=true:=Spn.bY.2 hw
   simp[Spn.fT,ha',hcs,hw']
  rw[if_pos hm]
  simp only[List.getD_cons_zero,List.getD_cons_succ,List.getD_nil,he]
  rw[if_pos trivial,if_pos (Spn.bY.2 hx)]
theorem aH9 {op q:Int}(hop:op=8\/op=9)(hr:eD r m)(hq:eD q m)(hw:w32 (gv U r))(hw2:w32 (gv U q))(he:Spn.ex op 0 0 (gv U r) (gv U q) 0=(x,0))(hx:w32 x) :
  bE ⟨op,r,q,0,0,0⟩ m=true/\cZ f d v U ⟨op,r,q,0,0,0⟩=(x,0):=by
 have ha':Spn.ar op=2:=by rcases hop with e|e <;> rw[e] <;> decide
 have hc:nE ⟨op,r,q,0,0,0⟩=true:=by rcases hop with e|e <;> subst e <;> rfl
 have hcs:Spn.cons op 0 0=true:=by rcases hop with e|e <;> subst e <;> rfl
 constructor
 ·simp only[bE,tJ,bAt,kH,hc,ha',dEt,decide_eq_false_iff_not]
  exact⟨⟨by omega,⟨⟨fun _=>hr,fun h=>absurd (by omega) h⟩,fun _=>hq,fun h=>absurd (by omega) h⟩,fun h=>absurd h (by omega),fun _=>trivial⟩,trivial⟩
 ·rw[bO (by show 1<=ar op;unfold ar;omega),uV (show ar op=2 from ha')]
  unfold vl Spn.bK
  have hm:Spn.fT op 0 0 [gv U r,gv U q]=true:=by
   have h1:Spn.wd (gv U r)=true:=Spn.bY.2 hw
   have h2:Spn.wd (gv U q)=true:=Spn.bY.2 hw2
   simp[Spn.fT,ha',hcs,h1,h2]
  rw[if_pos hm]
  simp only[List.getD_cons_zero,List.getD_cons_succ,List.getD_nil,he]
  rw[if_pos trivial,if_pos (Spn.bY.2 hx)]
theorem kW {M:List In}{n:In}(h:Rv f d v M U)(hn:bE n M.length=true/\cZ f d v U n=(x,0))(hx:w32 x):Ap f d v M U [n] x:=by
 have hl:=h.len
 refine⟨by simp,[x],rfl,h.snoc hn.1 hn.2,by simpa using hx,?_⟩
 have e:(((M.length+[n].length:Nat):Int)-1)=(M.length:Int):=by simp
 rw[e,gv,iTn,<-hl]
 exact bR U x
theorem aIk {M:List In}{W:List In}{n:In}{y:Int}(h:Ap f d v M U W x)(hl:U.length=M.length)
  (hn:∀ X:List Int,X.length=W.length->(∀ u ∈ X,w32 u)->Rv f d v (M++W) (U++X)->gv (U++X) (((M.length+W.length:Nat):Int)-1)=x->(bE n (M.length+W.length)=true/\cZ f d v (U++X) n=(y,0))/\w32 y):Ap f d v M U (W++[n]) y:=by
 obtain⟨h1,X,h2,h3,h4,h5⟩:=h
 obtain⟨⟨ho,hv⟩,hy⟩:=hn X h2 h4 h3 h5
 have hs:=h3.snoc (by rw[lLa];exact ho) hv
 refine⟨by simp,X++[y],by simp[h2],by rw[<-lAa,<-lAa];exact hs,?_,?_⟩
 ·intro u hu
  simp only[List.mem_append,lMm,lNm,or_false] at hu
  rcases hu with hu|rfl
  ·exact h4 u hu
  ·exact hy
 ·have e:(((M.length+(W++[n]).length:Nat):Int)-1)=((U++X).length:Int):=by simp[hl,h2];omega
  rw[e,gv,iTn,<-lAa]
  exact bR _ _
theorem aQo (hr:eD r m)(hw:w32 (gv U r))(hp:0<=p/\p<=31)(he:gv U r*2 ^ p.toNat=x)(hx:w32 x):bE ⟨29,r,0,0,p,0⟩ m=true/\cZ f d v U ⟨29,r,0,0,p,0⟩=(x,0):=by
 have h1:Spn.cons 29 p 0=true:=by simp[Spn.cons,Spn.aK];exact hp
 exact zS hr hw (by decide) (by simp[nE,h1]) h1 (by simp[Spn.ex,he]) hx
theorem aAc (hr:eD r m)(hw:w32 (gv U r))(hp:0<=p/\p<=31)(he:gv U r / 2 ^ p.toNat=x)(hx:w32 x):bE ⟨30,r,0,0,p,0⟩ m=true/\cZ f d v U ⟨30,r,0,0,p,0⟩=(x,0):=by
 have h1:Spn.cons 30 p 0=true:=by simp[Spn.cons,Spn.aK];exact hp
 exact zS hr hw (by decide) (by simp[nE,h1]) h1 (by simp[Spn.ex,he]) hx
theorem aB4 (hr:eD r m)(hw:w32 (gv U r))(hp:0<=p/\p<=2147483647)(he:bits .and .i64 (gv U r) p=x)(hx:w32 x):bE ⟨31,r,0,0,p,0⟩ m=true/\cZ f d v U ⟨31,r,0,0,p,0⟩=(x,0):=by
 have h1:Spn.cons 31 p 0=true:=by simp[Spn.cons,Spn.aK];exact hp
 exact zS hr hw (by decide) (by simp[nE,h1]) h1 (by simp[Spn.ex,he]) hx
theorem aT0 (hr:eD r m)(hw:w32 (gv U r))(hp:w32 p)(he:gv U r*p=x)(hx:w32 x):bE ⟨32,r,0,0,p,0⟩ m=true/\cZ f d v U ⟨32,r,0,0,p,0⟩=(x,0):=by
 have h0:Spn.wd p=true:=Spn.bY.2 hp
 have h1:Spn.cons 32 p 0=true:=by simp[Spn.cons,h0]
 exact zS hr hw (by decide) (by simp[nE,h1]) h1 (by simp[Spn.ex,he]) hx
theorem aJe {s:Int}(hr:eD r m)(hw:w32 (gv U r))(hp:1<=p/\p<=4611686018427387904)(hs:0<=s/\s<=62)(hm:max (gv U r) (-gv U r)*p<=4611686018427387904)(he:gv U r*p / 2 ^ s.toNat=x)(hx:w32 x):bE ⟨33,r,0,0,p,s⟩ m=true/\cZ f d v U ⟨33,r,0,0,p,s⟩=(x,0):=by
 have h0:Spn.fC p 1 4611686018427387904=true:=Spn.aK.2 hp
 have h2:Spn.fC s 0 62=true:=Spn.aK.2 hs
 have h1:Spn.cons 33 p s=true:=by simp[Spn.cons,h0,h2]
 have h3:Spn.ex 33 p s (gv U r) 0 0=(x,0):=by
  have:Spn.ex 33 p s (gv U r) 0 0=if 4611686018427387904 < max (gv U r) (-gv U r)*p then(0,13) else(gv U r*p / 2 ^ s.toNat,0):=by simp[Spn.ex]
  rw[this,if_neg (by omega),he]
 exact zS hr hw (by decide) (by simp[nE,h1]) h1 h3 hx
theorem aQ9 {k:Int}(hr:eD r m)(hw:w32 (gv U r))(hk:w32 k)(he:gv U r*k=x)(hx:w32 x):bE (tmI r k) m=true/\cZ f d v U (tmI r k)=(x,0):=by
 unfold tmI
 rcases nQ k with h|⟨n,h1,h2,h3⟩
 ·rw[h,if_neg (by omega)]
  exact aT0 hr hw hk he hx
 ·rw[h2,if_pos (by omega)]
  refine aQo hr hw (by omega) ?_ hx
  rw[iTn,<-h3]
  exact he
theorem aJ0 (h:w32 x):x / 2 ^ (31:Int).toNat=if x < 0 then -1 else 0:=by
 have e:(2:Int) ^ (31:Int).toNat=2147483648:=by decide
 obtain⟨h1,h2⟩:=h
 rw[e]
 split <;> omega
theorem aUo (n:Nat)(hx:x < 0):(x+(2 ^ n-1)) / 2 ^ n=x.tdiv (2 ^ n):=by
 have hP:=nP n
 have e1:x.tdiv (2 ^ n)=-((-x) / 2 ^ n):=by
  rw[<-iTe (by omega),Int.neg_tdiv]
  omega
 rw[e1]
 have h1:=Int.mul_ediv_add_emod (-x) (2 ^ n)
 have h2:=Int.emod_nonneg (-x) (show (2:Int) ^ n≠0 by omega)
 have h3:=Int.emod_lt_of_pos (-x) hP
 have h4:-(-x / 2 ^ n)*2 ^ n=-(2 ^ n*(-x / 2 ^ n)):=by rw[Int.neg_mul,Int.mul_comm]
 refine aG1 hP ?_ ?_
 ·rw[h4];omega
 ·rw[Int.add_mul,h4,Int.one_mul];omega
theorem aR5 (h0:0<=x)(h:x<=2147483647){n:Nat}(hn:n<=31):bits .and .i64 x (2 ^ n-1)=x % 2 ^ n:=by
 have hb:=Spn.gV .and x (2 ^ n-1)
 simp only[Spn.nW.bv] at hb
 refine Eq.trans hb ?_
 obtain⟨a,rfl⟩:∃ a:Nat,x=a:=⟨x.toNat,by omega⟩
 have hp:(0:Int) < 2 ^ n:=nP n
 have hpn:2 ^ n<=2 ^ 31:=Nat.pow_le_pow_right (by omega) hn
 have e1:(2:Int) ^ n-1=((2 ^ n-1:Nat):Int):=by
  have:1<=2 ^ n:=Nat.one_le_two_pow
  rw[Int.natCast_sub this]
  simp
 rw[e1,BitVec.ofInt_natCast,BitVec.ofInt_natCast]
 have e2:(BitVec.ofNat 64 a &&& BitVec.ofNat 64 (2 ^ n-1)).toNat=a % 2 ^ n:=by
  rw[BitVec.toNat_and,BitVec.toNat_ofNat,BitVec.toNat_ofNat,Nat.mod_eq_of_lt (by omega),Nat.mod_eq_of_lt (by omega),Nat.and_two_pow_sub_one_eq_mod]
 have e3:a % 2 ^ n<=a:=Nat.mod_le _ _
 rw[BitVec.toInt_eq_toNat_cond,e2,if_pos (by omega)]
 simp
end
section
open Go.RowKit Go.IntWalk Knd
open YticnbcfmbhjbgaaGreatDoor (Wd dQ Fits inpV)
open Cde (In i0 eF dC bE eH kM eU jK cZ tK nA fZ gW nE tJ tH)
open Vfy (pI aW aI w32 eZ iL tC)
open Fld (ar vl rg dH dP Rv gv eD av1 uV av3 xP jI oV bO nI kT bR kH gJ mQ)
theorem bCi {U:List Int}(h:∀ u ∈ U,w32 u){r:Int}(hr:eD r U.length):w32 (gv U r):=by
 unfold gv
 rw[gdE,gEg hr.2]
 exact h _ (List.getElem_mem _)
theorem bCf {U X:List Int}(h:∀ u ∈ U,w32 u)(h2:∀ u ∈ X,w32 u):∀ u ∈ U++X,w32 u:=by
 intro u hu
 rcases List.mem_append.1 hu with hu|hu
 ·exact h u hu
 ·exact h2 u hu
theorem aQ3 {x d:Int}(hx:w32 x)(hd:2<=d):-1073741824<=x.tdiv d/\x.tdiv d<=1073741824/\(0<=x->0<=x.tdiv d)/\(x < 0->x.tdiv d<=0):=by
 obtain⟨h1,h2⟩:=hx
 by_cases h:0<=x
 ·rw[iTe h]
  have a1:=Int.ediv_nonneg h (show 0<=d by omega)
  have a2:x / d<=1073741824:=Int.ediv_le_of_le_mul (by omega) (by omega)
  exact⟨by omega,a2,fun _=>a1,fun _=>by omega⟩
 ·have e1:x.tdiv d=-((-x) / d):=by
   rw[<-iTe (by omega),Int.neg_tdiv]
   omega
  have a1:=Int.ediv_nonneg (show 0<=-x by omega) (show 0<=d by omega)
  have a2:-x / d<=1073741824:=Int.ediv_le_of_le_mul (by omega) (by omega)
  rw[e1]
  exact⟨by omega,by omega,fun _=>by omega,fun _=>by omega⟩
theorem aI6 {m:Nat}{W:List In}(h:1<=W.length):eD (((m+W.length:Nat):Int)-1) (m+W.length):=⟨by omega,by omega⟩
theorem aWa {f d:Int}{v:Wd}{M:List In}{U:List Int}{lo hi r dd:Int}{Q:List In}(hM:Rv f d v M U)(hU:∀ u ∈ U,w32 u)(hr:eD r M.length)(h1:lo<=gv U r)(h2:gv U r<=hi)(hdd:w32 dd)(hQ:dvL lo hi r dd M.length=some Q) :
  Ap f d v M U Q ((gv U r).tdiv dd)/\2<=dd:=by
 have hl:=hM.len
 have hw:w32 (gv U r):=bCi hU (by rw[hl];exact hr)
 have hw':=hw
 obtain⟨x1,x2⟩:=hw'
 obtain⟨y1,y2⟩:=hdd
 have hgr:∀ X:List Int,gv (U++X) r=gv U r:=fun X=>aCu hr (by omega)
 unfold dvL at hQ
 rcases nQ dd with hp|⟨n,hn,hp,hdn⟩
 ·rw[hp,if_neg (by omega)] at hQ
  split at hQ
  ·rename_i hmg
   obtain⟨⟨k,s,b⟩,hk⟩:∃ z,mgZ (max (-lo) hi) dd=z:=⟨_,rfl⟩
   rw[hk] at hmg hQ
   dsimp only at hmg hQ
   subst hmg
   obtain⟨u,rfl,hu,hk1,hk2,hk3,hd2,hpos,hneg⟩:=aX1 hk (x:=gv U r) (by omega) (by omega)
   obtain⟨t1,t2,t3,t4⟩:=aQ3 hw hd2
   have hmx:max (gv U r) (-gv U r)*k<=4611686018427387904:=by
    have:max (gv U r) (-gv U r)*k<=max (-lo) hi*k:=Int.mul_le_mul_of_nonneg_right (by omega) (by omega)
    rw[Int.mul_comm k] at hk3
    omega
   refine⟨?_,hd2⟩
   split at hQ
   ·rename_i hlo
    cases hQ
    refine kW hM (aJe hr hw ⟨hk1,hk2⟩ (by omega) hmx ?_ ⟨by omega,by omega⟩) ⟨by omega,by omega⟩
    rw[iTn]
    exact hpos (by omega)
   ·rename_i hlo
    cases hQ
    have a1:Ap f d v M U [⟨33,r,0,0,k,u⟩] (gv U r*k / 2 ^ u):=by
     refine kW hM (aJe hr hw ⟨hk1,hk2⟩ (by omega) hmx (by rw[iTn]) ?_) ?_
     all_goals
      by_cases hx:0<=gv U r
      ·rw[hpos hx];exact⟨by omega,by omega⟩
      ·have:=hneg (by omega)
       exact⟨by omega,by omega⟩
    have hq:w32 (gv U r*k / 2 ^ u):=by
     by_cases hx:0<=gv U r
     ·rw[hpos hx];exact⟨by omega,by omega⟩
     ·have:=hneg (by omega)
      exact⟨by omega,by omega⟩
    obtain⟨-,X,b2,b3,b4,b5⟩:=a1
    have hs1:=aAc (f:=f) (d:=d) (v:=v) (U:=U++X) (m:=M.length+1) (r:=r) (p:=31) (x:=if gv U r < 0 then -1 else 0) (wG hr (by omega)) (by rw[hgr];exact hw) (by omega) (by rw[hgr];exact aJ0 hw) (by split <;> exact⟨by omega,by omega⟩)
    have b3':=b3.snoc (by simpa using hs1.1) hs1.2
    have hX:X.length=1:=b2
    have hg1:gv (U++X++[if gv U r < 0 then -1 else 0]) (M.length:Int)=gv U r*k / 2 ^ u:=by
     rw[aCu (k:=M.length+1) ⟨by omega,by omega⟩ (by simp[hX];omega)]
     have:(((M.length+[(⟨33,r,0,0,k,u⟩:In)].length:Nat):Int)-1)=(M.length:Int):=by simp
     rw[this] at b5
     exact b5
    have hg2:gv (U++X++[if gv U r < 0 then -1 else 0]) ((M.length:Int)+1)=if gv U r < 0 then -1 else 0:=by
     have:((M.length:Int)+1)=((U++X).length:Int):=by simp[hX,hl]
     rw[this,gv,iTn]
     exact bR _ _
    have hs2:=aH9 (f:=f) (d:=d) (v:=v) (U:=U++X++[if gv U r < 0 then -1 else 0]) (m:=M.length+2) (op:=9) (r:=(M.length:Int)) (q:=(M.length:Int)+1) (x:=(gv U r).tdiv dd) (.inr rfl) ⟨by omega,by omega⟩ ⟨by omega,by omega⟩ (by rw[hg1];exact hq) (by rw[hg2];split <;> exact⟨by omega,by omega⟩)
     (by
      rw[hg1,hg2]
      have:Spn.ex 9 0 0 (gv U r*k / 2 ^ u) (if gv U r < 0 then -1 else 0) 0=(gv U r*k / 2 ^ u-(if gv U r < 0 then -1 else 0),0):=rfl
      rw[this]
      by_cases hx:0<=gv U r
      ·rw[if_neg (by omega),hpos hx,Int.sub_zero]
      ·have:=hneg (by omega)
       rw[if_pos (by omega)]
       congr 1 <;> omega) ⟨by omega,by omega⟩
    have b3'':=b3'.snoc (by simpa using hs2.1) hs2.2
    refine⟨by simp,X++[if gv U r < 0 then -1 else 0]++[(gv U r).tdiv dd],by simp[hX],?_,?_,?_⟩
    ·simpa using b3''
    ·intro z hz
     simp only[List.mem_append,lMm,lNm,or_false] at hz
     rcases hz with(hz|hz)|hz
     ·exact b4 z hz
     ·rw[hz];split <;> exact⟨by omega,by omega⟩
     ·rw[hz];exact⟨by omega,by omega⟩
    ·have:(((M.length+[(⟨33,r,0,0,k,u⟩:In),⟨30,r,0,0,31,0⟩,⟨9,M.length,(M.length:Int)+1,0,0,0⟩].length:Nat):Int)-1)=((U++X++[if gv U r < 0 then -1 else 0]).length:Int):=by simp[hX,hl] <;> omega
     rw[this,gv,iTn,<-lAa,<-lAa]
     exact bR _ _
  ·cases hQ
 ·by_cases hn0:n=0
  ·subst hn0
   rw[hp,if_neg (by omega)] at hQ
   exfalso
   split at hQ
   ·rename_i hmg
    have:dd=1:=by rw[hdn];rfl
    rw[this] at hmg
    simp[mgZ] at hmg
   ·cases hQ
  ·have hd2:2<=dd:=by
    have:=xH (show 1<=n by omega)
    rw[hdn]
    omega
   obtain⟨t1,t2,t3,t4⟩:=aQ3 hw hd2
   refine⟨?_,hd2⟩
   rw[hp,if_pos (by omega)] at hQ
   split at hQ
   ·rename_i hlo
    cases hQ
    refine kW hM (aAc hr hw (by omega) ?_ ⟨by omega,by omega⟩) ⟨by omega,by omega⟩
    rw[iTn,<-hdn,iTe (by omega)]
   ·rename_i hlo
    split at hQ
    ·rename_i hhi
     cases hQ
     have s1:=aAc (f:=f) (d:=d) (v:=v) (U:=U) (m:=M.length) (r:=r) (p:=31) (x:=if gv U r < 0 then -1 else 0) hr hw (by omega) (aJ0 hw) (by split <;> exact⟨by omega,by omega⟩)
     have r1:=hM.snoc s1.1 s1.2
     obtain⟨sg,hsg⟩:∃ sg:Int,(if gv U r < 0 then -1 else 0)=sg:=⟨_,rfl⟩
     rw[hsg] at r1
     have hsg':(gv U r < 0/\sg=-1)\/(0<=gv U r/\sg=0):=by
      rw[<-hsg]
      by_cases hx:gv U r < 0
      ·exact .inl ⟨hx,if_pos hx⟩
      ·exact .inr ⟨by omega,if_neg hx⟩
     have g1:gv (U++[sg]) (M.length:Int)=sg:=by rw[gv,iTn,<-hl];exact bR _ _
     obtain⟨mk,hmk⟩:∃ mk:Int,bits .and .i64 sg (dd-1)=mk:=⟨_,rfl⟩
     have hmk':(gv U r < 0/\mk=dd-1)\/(0<=gv U r/\mk=0):=by
      rw[<-hmk]
      rcases hsg' with⟨q1,q2⟩|⟨q1,q2⟩
      ·rw[q2];exact .inl ⟨q1,Fld.aBo ⟨by omega,by omega⟩⟩
      ·rw[q2];exact .inr ⟨q1,Fld.aB3 _⟩
     have s2:=aB4 (f:=f) (d:=d) (v:=v) (U:=U++[sg]) (m:=M.length+1) (r:=(M.length:Int)) (p:=dd-1) (x:=mk) ⟨by omega,by omega⟩ (by rw[g1];exact⟨by omega,by omega⟩) (by omega) (by rw[g1];exact hmk) ⟨by omega,by omega⟩
     have r2:=r1.snoc (by simpa using s2.1) s2.2
     have g2:gv (U++[sg]++[mk]) r=gv U r:=by rw[lAa];exact hgr _
     have g3:gv (U++[sg]++[mk]) ((M.length:Int)+1)=mk:=by
      have:((M.length:Int)+1)=((U++[sg]).length:Int):=by simp[hl]
      rw[this,gv,iTn];exact bR _ _
     have s3:=aH9 (f:=f) (d:=d) (v:=v) (U:=U++[sg]++[mk]) (m:=M.length+2) (op:=8) (r:=r) (q:=(M.length:Int)+1) (x:=gv U r+mk) (.inl rfl) (wG hr (by omega)) ⟨by omega,by omega⟩ (by rw[g2];exact hw) (by rw[g3];exact⟨by omega,by omega⟩) (by rw[g2,g3];rfl) ⟨by omega,by omega⟩
     have r3:=r2.snoc (by simpa using s3.1) s3.2
     have g4:gv (U++[sg]++[mk]++[gv U r+mk]) ((M.length:Int)+2)=gv U r+mk:=by
      have:((M.length:Int)+2)=((U++[sg]++[mk]).length:Int):=by simp[hl] <;> omega
      rw[this,gv,iTn];exact bR _ _
     have hval:(gv U r+mk) / 2 ^ n=(gv U r).tdiv dd:=by
      rcases hmk' with⟨q1,q2⟩|⟨q1,q2⟩
      ·rw[q2,hdn];exact aUo n q1
      ·rw[q2,Int.add_zero,hdn,iTe q1]
     have s4:=aAc (f:=f) (d:=d) (v:=v) (U:=U++[sg]++[mk]++[gv U r+mk]) (m:=M.length+3) (r:=(M.length:Int)+2) (p:=(n:Int)) (x:=(gv U r).tdiv dd) ⟨by omega,by omega⟩ (by rw[g4];exact⟨by omega,by omega⟩) (by omega) (by rw[g4,iTn];exact hval) ⟨by omega,by omega⟩
     have r4:=r3.snoc (by simpa using s4.1) s4.2
     refine⟨by simp,[sg,mk,gv U r+mk,(gv U r).tdiv dd],rfl,?_,?_,?_⟩
     ·simpa using r4
     ·intro z hz
      simp only[lMm,lNm,or_false] at hz
      rcases hz with hz|hz|hz|hz <;> rw[hz] <;> exact⟨by omega,by omega⟩
     ·have e1:U++[sg,mk,gv U r+mk,(gv U r).tdiv dd]=(U++[sg]++[mk]++[gv U r+mk])++[(gv U r).tdiv dd]:=by simp
      have e2:((((M.length+4:Nat):Int))-1)=((U++[sg]++[mk]++[gv U r+mk]).length:Int):=by simp[hl] <;> omega
      show gv _ (((M.length+4:Nat):Int)-1)=_
      rw[e1,e2,gv,iTn]
      exact bR _ _
    ·cases hQ
end
section
open Go.RowKit Go.IntWalk Knd
open YticnbcfmbhjbgaaGreatDoor (Wd dQ Fits inpV)
open Cde (In i0 eF dC bE eH kM eU jK cZ tK nA fZ gW nE tJ tH)
open Vfy (pI aW aI w32 eZ iL tC sD)
open Fld (ar vl rg dH dP Rv gv eD av1 uV av3 xP jI oV bO nI kT bR kH gJ mQ)
variable {T U V:List Int} {k:Nat} {d f:Int} {v:Wd} {L M:List In}
theorem aZi {n:In}{m:Nat}(h:∀ r,eD r k->eD (dP T r) m)(ho:bE n k=true):bE (dH n T) m=true:=by
 have hc:=Cde.qE ho
 have ha:=Cde.aBn ho
 simp only[bE,tJ,bAt,kH] at ho
 obtain⟨⟨-,⟨⟨a1,a2⟩,b1,b2⟩,c1,c2⟩,-⟩:=ho
 simp only[dEt,decide_eq_false_iff_not] at a1 a2 b1 b2 c1 c2
 have hc':nE (dH n T)=true:=hc
 simp only[bE,tJ,bAt,kH,hc',dEt,decide_eq_false_iff_not]
 refine⟨⟨ha,⟨⟨fun u=>?_,fun u=>?_⟩,fun u=>?_,fun u=>?_⟩,fun u=>?_,fun u=>?_⟩,trivial⟩
 ·show eD (if 0 < ar n.op then dP T n.a else n.a) m
  rw[if_pos (show 0 < ar n.op from u)];exact h _ (a1 u)
 ·show (if 0 < ar n.op then dP T n.a else n.a)=0
  rw[if_neg (show ¬0 < ar n.op from u)];exact a2 u
 ·show eD (if 1 < ar n.op then dP T n.b else n.b) m
  rw[if_pos (show 1 < ar n.op from u)];exact h _ (b1 u)
 ·show (if 1 < ar n.op then dP T n.b else n.b)=0
  rw[if_neg (show ¬1 < ar n.op from u)];exact b2 u
 ·show eD (if 2 < ar n.op then dP T n.c else n.c) m
  rw[if_pos (show 2 < ar n.op from u)];exact h _ (c1 u)
 ·show (if 2 < ar n.op then dP T n.c else n.c)=0
  rw[if_neg (show ¬2 < ar n.op from u)];exact c2 u
theorem aZf {n:In}(h:∀ r,eD r k->gv U (dP T r)=gv V r)(ho:bE n k=true):gW U (dH n T)=gW V n:=by
 have hin:=fun r=>Fld.nK ho (r:=r)
 rcases Cde.jU n.op with e|e|e|e|e
 ·have e1:eF n=[]:=by unfold eF dC;rw[e];rfl
  have e2:eF (dH n T)=[]:=by unfold eF dC;rw[show Spn.ar (dH n T).op=-1 from e];rfl
  unfold gW;rw[e1,e2];rfl
 ·have e1:eF n=[]:=by unfold eF dC;rw[e];rfl
  have e2:eF (dH n T)=[]:=by unfold eF dC;rw[show Spn.ar (dH n T).op=0 from e];rfl
  unfold gW;rw[e1,e2];rfl
 ·have e':ar n.op=1:=e
  rw[av1 e',av1 (n:=dH n T) e']
  have ea:(dH n T).a=dP T n.a:=by show (if 0 < ar n.op then dP T n.a else n.a)=_;rw[if_pos (by omega)]
  rw[ea,h _ (hin n.a (by rw[xP e'];simp))]
 ·have e':ar n.op=2:=e
  rw[uV e',uV (n:=dH n T) e']
  have ea:(dH n T).a=dP T n.a:=by show (if 0 < ar n.op then dP T n.a else n.a)=_;rw[if_pos (by omega)]
  have eb:(dH n T).b=dP T n.b:=by show (if 1 < ar n.op then dP T n.b else n.b)=_;rw[if_pos (by omega)]
  rw[ea,eb,h _ (hin n.a (by rw[jI e'];simp)),h _ (hin n.b (by rw[jI e'];simp))]
 ·have e':ar n.op=3:=e
  rw[av3 e',av3 (n:=dH n T) e']
  have ea:(dH n T).a=dP T n.a:=by show (if 0 < ar n.op then dP T n.a else n.a)=_;rw[if_pos (by omega)]
  have eb:(dH n T).b=dP T n.b:=by show (if 1 < ar n.op then dP T n.b else n.b)=_;rw[if_pos (by omega)]
  have ec:(dH n T).c=dP T n.c:=by show (if 2 < ar n.op then dP T n.c else n.c)=_;rw[if_pos (by omega)]
  rw[ea,eb,ec,h _ (hin n.a (by rw[oV e'];simp)),h _ (hin n.b (by rw[oV e'];simp)),h _ (hin n.c (by rw[oV e'];simp))]
structure Ri (f d:Int)(v:Wd)(V:List Int)(k:Nat)(M:List In)(U T:List Int):Prop where
 rv:Rv f d v M U
 ws:∀ u ∈ U,w32 u
 tl:T.length=k
 at':∀ i,i < k->eD (T.getD i 0) M.length/\gv U (T.getD i 0)=V.getD i 0
theorem Ri.reg (h:Ri f d v V k M U T){r:Int}(hr:eD r k):eD (gv T r) M.length/\gv U (gv T r)=gv V r/\dP T r=gv T r:=by
 obtain⟨h1,h2⟩:=h.at' r.toNat hr.2
 refine⟨h1,h2,?_⟩
 unfold dP
 have:=h.tl
 rw[if_neg (by have:=hr.1;have:=hr.2;omega)]
 rfl
structure Od (f d:Int)(v:Wd)(L:List In)(V:List Int)(S:List (Int × Int)):Prop where
 rv:Rv f d v L V
 inn:tC V S
 sl:S.length=L.length
theorem Od.w {S:List (Int × Int)}(h:Od f d v L V S){r:Int}(hr:eD r L.length):w32 (gv V r):=(h.inn.2 r.toNat (by rw[h.sl];exact hr.2)).2.2
theorem mod_le {a b:Int}(h:0<=a)(hb:0 < b):a % b<=a:=by
 have h1:=Int.mul_ediv_add_emod a b
 have h2:=Int.mul_nonneg (show 0<=b by omega) (Int.ediv_nonneg h (show 0<=b by omega))
 omega
theorem bBp {S:List (Int × Int)}(hO:Od f d v L V S)(hk:k < L.length)(hR:Ri f d v V k M U T){W:List In}(hq:qkL L S T (L.getD k i0) M.length=some W):Ap f d v M U W (V.getD k 0):=by
 have ho:=hO.rv.ok k hk
 have hv:=hO.rv.val k hk
 have hwk:w32 (V.getD k 0):=(hO.inn.2 k (by rw[hO.sl];exact hk)).2.2
 generalize L.getD k i0=n at *
 generalize V.getD k 0=x at *
 have two:ar n.op=2->(eD n.a k/\eD n.b k)/\Spn.ex n.op n.k n.s (gv V n.a) (gv V n.b) 0=(x,0):=fun e=>by
  refine⟨⟨Fld.nK ho (by rw[jI e];simp),Fld.nK ho (by rw[jI e];simp)⟩,?_⟩
  rw[bO (by omega),uV e] at hv
  exact(gJ hv).2.2
 have num:∀ r,eD r k->(rg L r).op=1->gv V r=(rg L r).k/\w32 (rg L r).k:=fun r hr h=>by
  have hr':eD r L.length:=wG hr (by omega)
  have e:=hO.rv.num hr' h
  exact⟨e,by rw[<-e];exact hO.w hr'⟩
 have wU:∀ r,eD r k->eD (gv T r) M.length/\w32 (gv U (gv T r))/\gv U (gv T r)=gv V r:=fun r hr=>by
  obtain⟨h1,h2,-⟩:=hR.reg hr
  exact⟨h1,by rw[h2];exact hO.w (wG hr (by omega)),h2⟩
 unfold qkL at hq
 split at hq
 ·rename_i hop
  obtain⟨⟨ia,ib⟩,he⟩:=two (by rw[hop];decide)
  obtain⟨a1,a2,a3⟩:=wU _ ia
  obtain⟨b1,b2,b3⟩:=wU _ ib
  rw[hop] at he
  have he':gv V n.a*gv V n.b=x:=congrArg Prod.fst he
  split at hq
  ·rename_i hb
   cases hq
   obtain⟨e1,e2⟩:=num _ ib hb
   exact kW hR.rv (aQ9 a1 a2 e2 (by rw[a3,<-e1];exact he') hwk) hwk
  ·split at hq
   ·rename_i ha
    cases hq
    obtain⟨e1,e2⟩:=num _ ia ha
    exact kW hR.rv (aQ9 b1 b2 e2 (by rw[b3,<-e1,Int.mul_comm];exact he') hwk) hwk
   ·cases hq
 split at hq
 ·rename_i hop
  obtain⟨⟨ia,ib⟩,he⟩:=two (by rw[hop];decide)
  obtain⟨a1,a2,a3⟩:=wU _ ia
  obtain⟨b1,b2,b3⟩:=wU _ ib
  rw[hop] at he
  have he':bits .and .i64 (gv V n.a) (gv V n.b)=x:=congrArg Prod.fst he
  split at hq
  ·rename_i hb
   cases hq
   obtain⟨e1,e2,e3⟩:=num _ ib hb.1
   exact kW hR.rv (aB4 a1 a2 ⟨hb.2,e3⟩ (by rw[a3,<-e1];exact he') hwk) hwk
  ·split at hq
   ·rename_i ha
    cases hq
    obtain⟨e1,e2,e3⟩:=num _ ia ha.1
    refine kW hR.rv (aB4 b1 b2 ⟨ha.2,e3⟩ ?_ hwk) hwk
    rw[b3,<-e1,<-he']
    have h1:=Spn.gV .and (gv V n.b) (gv V n.a)
    have h2:=Spn.gV .and (gv V n.a) (gv V n.b)
    simp only[Spn.nW.bv] at h1 h2
    refine h1.trans (Eq.trans ?_ h2.symm)
    rw[BitVec.and_comm]
   ·cases hq
 split at hq
 ·rename_i hop
  obtain⟨⟨ia,ib⟩,he⟩:=two (by rw[hop];decide)
  obtain⟨a1,a2,a3⟩:=wU _ ia
  rw[hop] at he
  have he':(if Spn.fC (gv V n.b) 0 31=true then(gv V n.a*2 ^ (gv V n.b).toNat,(0:Int)) else(0,13))=(x,0):=he
  split at hq
  ·rename_i hb
   cases hq
   obtain⟨e1,e2⟩:=num _ ib hb
   rw[e1] at he'
   split at he'
   ·rename_i hin
    exact kW hR.rv (aQo a1 a2 (Spn.aK.1 hin) (by rw[a3];exact congrArg Prod.fst he') hwk) hwk
   ·cases he'
  ·cases hq
 split at hq
 ·rename_i hop
  obtain⟨⟨ia,ib⟩,he⟩:=two (by rw[hop];decide)
  obtain⟨a1,a2,a3⟩:=wU _ ia
  rw[hop] at he
  have he':(if Spn.fC (gv V n.b) 0 31=true then(gv V n.a / 2 ^ (gv V n.b).toNat,(0:Int)) else(0,13))=(x,0):=he
  split at hq
  ·rename_i hb
   cases hq
   obtain⟨e1,e2⟩:=num _ ib hb
   rw[e1] at he'
   split at he'
   ·rename_i hin
    exact kW hR.rv (aAc a1 a2 (Spn.aK.1 hin) (by rw[a3];exact congrArg Prod.fst he') hwk) hwk
   ·cases he'
  ·cases hq
 split at hq
 ·rename_i hop
  obtain⟨⟨ia,ib⟩,he⟩:=two (by rw[hop];decide)
  obtain⟨a1,a2,a3⟩:=wU _ ia
  rw[hop] at he
  have he':(if gv V n.b=0 then((0:Int),(12:Int)) else((gv V n.a).tdiv (gv V n.b),0))=(x,0):=he
  split at hq
  ·rename_i hb
   obtain⟨e1,e2⟩:=num _ ib hb
   obtain⟨s1,s2,-⟩:=hO.inn.2 n.a.toNat (by rw[hO.sl];have:=ia.2;omega)
   obtain⟨hA,h2⟩:=aWa hR.rv hR.ws a1 (by rw[a3];exact s1) (by rw[a3];exact s2) e2 hq
   rw[e1,if_neg (by omega)] at he'
   rw[a3,show (gv V n.a).tdiv (rg L n.b).k=x from congrArg Prod.fst he'] at hA
   exact hA
  ·cases hq
 split at hq
 ·rename_i hop
  obtain⟨⟨ia,ib⟩,he⟩:=two (by rw[hop];decide)
  obtain⟨a1,a2,a3⟩:=wU _ ia
  rw[hop] at he
  have he':(if gv V n.b=0 then((0:Int),(12:Int)) else((gv V n.a).tmod (gv V n.b),0))=(x,0):=he
  split at hq
  ·rename_i hb
   obtain⟨e1,e2⟩:=num _ ib hb
   obtain⟨s1,s2,-⟩:=hO.inn.2 n.a.toNat (by rw[hO.sl];have:=ia.2;omega)
   rw[e1] at he'
   split at hq
   ·rename_i hp
    cases hq
    rcases nQ (rg L n.b).k with h|⟨m,m1,m2,m3⟩
    ·omega
    ·have hk0:(rg L n.b).k≠0:=by rw[m3];have:=nP m;omega
     rw[if_neg hk0] at he'
     have hx:(gv V n.a).tmod (rg L n.b).k=x:=congrArg Prod.fst he'
     have hpk:1<=(rg L n.b).k:=by rw[m3];have:=nP m;omega
     have hV:w32 (gv V n.a):=hO.w (wG ia (by omega))
     have hv0:0<=gv V n.a:=by
      have:(S.getD n.a.toNat (0,0)).1<=gv V n.a:=s1
      omega
     refine kW hR.rv (aB4 a1 a2 ⟨by omega,by have:=e2.2;omega⟩ ?_ hwk) hwk
     rw[a3,m3,aR5 hv0 hV.2 (by omega),<-m3,<-hx]
     exact(Int.tmod_eq_emod_of_nonneg hv0).symm
   ·obtain⟨Q,hQ,rfl⟩:=Option.map_eq_some_iff.1 hq
    obtain⟨hA,h2⟩:=aWa hR.rv hR.ws a1 (by rw[a3];exact s1) (by rw[a3];exact s2) e2 hQ
    rw[if_neg (by omega)] at he'
    have hx:(gv V n.a).tmod (rg L n.b).k=x:=congrArg Prod.fst he'
    have hV:w32 (gv V n.a):=hO.w (wG ia (by omega))
    rw[a3] at hA
    have hl:=hR.rv.len
    have hQ1:=hA.1
    have hmd:(gv V n.a).tdiv (rg L n.b).k*(rg L n.b).k=gv V n.a-x:=by
     have:=Int.tmod_add_mul_tdiv (gv V n.a) (rg L n.b).k
     rw[Int.mul_comm] at this
     omega
    have hxx:(0<=gv V n.a->0<=x/\x<=gv V n.a)/\(gv V n.a<=0->gv V n.a<=x/\x<=0):=by
     rw[<-hx]
     constructor
     ·intro h0
      rw[Int.tmod_eq_emod_of_nonneg h0]
      exact⟨Int.emod_nonneg _ (by omega),mod_le h0 (by omega)⟩
     ·intro h0
      have e:(gv V n.a).tmod (rg L n.b).k=-((-gv V n.a) % (rg L n.b).k):=by
       rw[<-Int.tmod_eq_emod_of_nonneg (by omega),Int.neg_tmod]
       omega
      have h3:=Int.emod_nonneg (-gv V n.a) (show (rg L n.b).k≠0 by omega)
      have h4:=mod_le (a:=-gv V n.a) (b:=(rg L n.b).k) (by omega) (by omega)
      omega
    have hwm:w32 (gv V n.a-x):=by
     obtain⟨v1,v2⟩:=hV
     by_cases h0:0<=gv V n.a
     ·have:=hxx.1 h0
      exact⟨by omega,by omega⟩
     ·have:=hxx.2 (by omega)
      exact⟨by omega,by omega⟩
    have hB:Ap f d v M U (Q++[tmI ((M.length:Int)+Q.length-1) (rg L n.b).k]) (gv V n.a-x):=by
     refine aIk hA hl fun X hX hXw hXr hXg=>⟨?_,hwm⟩
     have e:((M.length:Int)+Q.length-1)=(((M.length+Q.length:Nat):Int)-1):=by omega
     rw[e]
     refine aQ9 (aI6 hQ1) (by rw[hXg];have:=aQ3 hV h2;exact⟨by omega,by omega⟩) e2 ?_ hwm
     rw[hXg];exact hmd
    have hC:=aIk (n:=⟨9,gv T n.a,(M.length:Int)+Q.length,0,0,0⟩) (y:=x) hB hl (fun X hX hXw hXr hXg=>by
     refine⟨?_,hwk⟩
     have ga:gv (U++X) (gv T n.a)=gv V n.a:=by rw[aCu a1 (by omega)];exact a3
     have gm:gv (U++X) ((M.length:Int)+Q.length)=gv V n.a-x:=by
      have e:(((M.length+(Q++[tmI ((M.length:Int)+Q.length-1) (rg L n.b).k]).length:Nat):Int)-1)=(M.length:Int)+Q.length:=by simp <;> omega
      rw[e] at hXg;exact hXg
     exact aH9 (.inr rfl) (wG a1 (by omega)) ⟨by omega,by simp <;> omega⟩ (by rw[ga];exact hV) (by rw[gm];exact hwm) (by
      rw[ga,gm]
      show (gv V n.a-(gv V n.a-x),(0:Int))=(x,0)
      congr 1 <;> omega) hwk)
    simpa using hC
  ·cases hq
 ·cases hq
theorem bBq {S:List (Int × Int)}(hO:Od f d v L V S)(hk:k < L.length)(hR:Ri f d v V k M U T):Ap f d v M U (rdW L S T (L.getD k i0) M.length) (V.getD k 0):=by
 unfold rdW
 cases hq:qkL L S T (L.getD k i0) M.length with
 | some W=>exact bBp hO hk hR hq
 | none =>
  have ho:=hO.rv.ok k hk
  have hv:=hO.rv.val k hk
  have hwk:w32 (V.getD k 0):=(hO.inn.2 k (by rw[hO.sl];exact hk)).2.2
  refine kW hR.rv ⟨aZi (fun r hr=>by rw[(hR.reg hr).2.2];exact(hR.reg hr).1) ho,?_⟩ hwk
  rw[<-hv]
  unfold cZ
  rw[aZf (V:=V) (fun r hr=>by rw[(hR.reg hr).2.2];exact(hR.reg hr).2.1) ho]
  rfl
theorem aUs {S:List (Int × Int)}(hO:Od f d v L V S)(hk:k < L.length)(hR:Ri f d v V k M U T):∃ U',Ri f d v V (k+1) (rdS L S (M,T) (L.getD k i0)).1 U' (rdS L S (M,T) (L.getD k i0)).2:=by
 obtain⟨h1,X,h2,h3,h4,h5⟩:=bBq hO hk hR
 have hl:=hR.rv.len
 have htl:=hR.tl
 refine⟨U++X,h3,bCf hR.ws h4,by simp[rdS,htl],fun i hi=>?_⟩
 show eD ((T++[_]).getD i 0) (M++_).length/\_
 by_cases e:i < k
 ·obtain⟨q1,q2⟩:=hR.at' i e
  show eD ((T++[_]).getD i 0) (M++_).length/\gv (U++X) ((T++[_]).getD i 0)=_
  rw[Cde.dJ (by omega)]
  exact⟨wG q1 (by simp),by rw[aCu q1 (by omega)];exact q2⟩
 ·obtain rfl:i=k:=by omega
  show eD ((T++[_]).getD i 0) (M++_).length/\gv (U++X) ((T++[_]).getD i 0)=_
  rw[<-htl,bR,htl]
  refine⟨?_,h5⟩
  rw[lLa]
  exact aI6 h1
theorem aJs {f d:Int}{v:Wd}{L:List In}{V:List Int}{S:List (Int × Int)}(hO:Od f d v L V S):∀ k,k<=L.length->∃ U,Ri f d v V k (vM L S (L.take k)).1 U (vM L S (L.take k)).2
 | 0,_=>⟨[],Rv.nil f d v,fun u h=>absurd h (by simp),rfl,fun i hi=>absurd hi (Nat.not_lt_zero _)⟩
 | k+1,hk=>by
  obtain⟨U,hU⟩:=aJs hO k (by omega)
  rw[qK S (by omega)]
  exact aUs hO (by omega) hU
end
section
open Go.RowKit Go.IntWalk Knd
open YticnbcfmbhjbgaaGreatDoor (Wd dQ Fits inpV)
open Cde (In i0 eF dC bE eH kM eU jK cZ tK nA fZ gW nE tJ tH)
open Vfy (pI aW aI w32 eZ iL tC sD)
open Fld (ar vl rg dH dP Rv gv eD)
variable {d f out:Int} {v:Wd} {L:List In}
theorem aGj {f d:Int}{v:Wd}{M:List In}{U:List Int}(h:Rv f d v M U):∀ k,k<=M.length->nA f d v (M.take k)=(0,U.take k)
 | 0,_=>rfl
 | k+1,hk=>by
  have hl:=h.len
  have hv:=h.val k (by omega)
  have ho:=h.ok k (by omega)
  have hu:U.take k++U.drop k=U:=lTd k U
  have hlk:(U.take k).length=k:=by simp;omega
  rw[<-hu,Cde.aEa (by rw[hlk];exact ho),hu] at hv
  rw[Cde.aG i0 (by omega),Cde.dZ,aGj h k (by omega),tK,if_pos rfl,hv,if_pos rfl,Cde.aG 0 (by omega)]
theorem aRi {M:List In}{U:List Int}(h:Rv f d v M U):nA f d v M=(0,U):=by
 have hl:=h.len
 have:=aGj h M.length (nLr _)
 rw[lTg,<-hl,lTg] at this
 exact this
theorem aQe {f d:Int}{v:Wd}{L:List In}{out:Int}(h:aW f d L out=0)(hF:Fits f d v):∀ k,k<=L.length->∃ V,nA f d v (L.take k)=(0,V)/\Rv f d v (L.take k) V
 | 0,_=>⟨[],rfl,Rv.nil f d v⟩
 | k+1,hk=>by
  obtain⟨V,h1,h2⟩:=aQe h hF k (by omega)
  obtain⟨m,ha,⟨S,hS,-,-⟩,-,-,-⟩:=aI h
  obtain⟨hm,-,-,-,-,hok⟩:=Cde.aQ m
  obtain⟨V2,S2,g1,g2,g3⟩:=Vfy.qO hm hF hok ha (by rw[hS]) (k+1) hk
  have ho:=Cde.dE hok (show k < L.length by omega)
  have hlk:(L.take k).length=k:=by simp;omega
  rw[Cde.aG i0 (by omega),Cde.dZ,h1,tK,if_pos rfl] at g1
  by_cases hz:(cZ f d v V (L.getD k i0)).2=0
  ·refine⟨V++[(cZ f d v V (L.getD k i0)).1],?_,?_⟩
   ·rw[Cde.aG i0 (by omega),Cde.dZ,h1,tK,if_pos rfl,if_pos hz]
   ·rw[Cde.aG i0 (by omega)]
    exact h2.snoc (by rw[hlk];exact ho) (Prod.ext rfl hz)
  ·rw[if_neg hz] at g1
   exact absurd (congrArg Prod.fst g1) hz
theorem aFh (h:aW f d L out=0)(hF:Fits f d v):∃ V,fZ f d v L out=(0,V)/\V.length=L.length/\Od f d v L V (sD f d L out):=by
 obtain⟨m,-,⟨S,hS,hSl,hs⟩,-⟩:=aI h
 obtain⟨-,-,hH⟩:=Vfy.qN h
 obtain⟨V,hV,hI⟩:=hH v hF
 obtain⟨V',h1,h2⟩:=aQe h hF L.length (nLr _)
 rw[lTg] at h1 h2
 have hV2:=hV
 rw[fZ,if_pos m,if_pos hF,h1] at hV
 cases hV
 exact⟨_,hV2,h2.len,h2,hI,by rw[hs];exact hSl⟩
theorem lZ (A:List In):∀ B:List In,eU (A++B)=eU A+eU B
 | []=>by simp[eU]
 | n::B=>by
  have e:A++n::B=(A++[n])++B:=by simp
  have e2:n::B=[n]++B:=rfl
  rw[e,lZ (A++[n]) B,Cde.gG,e2,lZ [n] B]
  have:eU [n]=jK n.op:=by simp[eU]
  omega
termination_by B=>B.length
theorem aD2 (r k:Int):eU [tmI r k]=1:=by
 unfold tmI
 split <;> rfl
theorem aIv {lo hi x m:Int}{Q:List In}(h:dvL lo hi x d m=some Q):eU Q<=4:=by
 unfold dvL at h
 repeat' split at h
 all_goals first|(cases h;simp only[eU,List.foldl];decide)|cases h
theorem aP4 (L:List In)(S:List (Int × Int))(T:List Int)(n:In)(m:Int):eU (rdW L S T n m)<=jK n.op:=by
 have c1:∀ a:In,a.op=30\/a.op=31\/a.op=29->eU [a]=1:=by
  intro a h
  simp only[eU,List.foldl]
  rcases h with h|h|h <;> rw[h] <;> decide
 unfold rdW
 cases hq:qkL L S T n m with
 | none =>
  show eU [dH n T]<=_
  simp[eU,dH]
 | some W =>
  show eU W<=_
  unfold qkL at hq
  split at hq
  ·rename_i hop
   rw[hop]
   split at hq
   ·cases hq;rw[aD2];decide
   ·split at hq
    ·cases hq;rw[aD2];decide
    ·cases hq
  split at hq
  ·rename_i hop
   rw[hop]
   split at hq
   ·cases hq;rw[c1 _ (by simp)];decide
   ·split at hq
    ·cases hq;rw[c1 _ (by simp)];decide
    ·cases hq
  split at hq
  ·rename_i hop
   rw[hop]
   split at hq
   ·cases hq;rw[c1 _ (by simp)];decide
   ·cases hq
  split at hq
  ·rename_i hop
   rw[hop]
   split at hq
   ·cases hq;rw[c1 _ (by simp)];decide
   ·cases hq
  split at hq
  ·rename_i hop
   rw[hop]
   split at hq
   ·have:=aIv hq
    have e:jK 11=4:=rfl
    omega
   ·cases hq
  split at hq
  ·rename_i hop
   rw[hop]
   have e:jK 12=6:=rfl
   split at hq
   ·split at hq
    ·cases hq;rw[c1 _ (by simp)];omega
    ·obtain⟨Q,hQ,rfl⟩:=Option.map_eq_some_iff.1 hq
     have:=aIv hQ
     have e2:Q++[tmI (m+Q.length-1) (rg L n.b).k,⟨9,gv T n.a,m+Q.length,0,0,0⟩]=Q++[tmI (m+Q.length-1) (rg L n.b).k]++[⟨9,gv T n.a,m+Q.length,0,0,0⟩]:=by simp
     rw[e2,Cde.gG,lZ,aD2]
     have e3:jK (⟨9,gv T n.a,m+Q.length,0,0,0⟩:In).op=1:=rfl
     omega
   ·cases hq
  ·cases hq
theorem aFw (L:List In)(S:List (Int × Int)):∀ k,k<=L.length->eU (vM L S (L.take k)).1<=eU (L.take k)
 | 0,_=>by simp[vM,eU]
 | k+1,hk=>by
  have ih:=aFw L S k (by omega)
  have:=aP4 L S (vM L S (L.take k)).2 (L.getD k i0) (vM L S (L.take k)).1.length
  rw[qK S (by omega),Cde.aG i0 (by omega),Cde.gG,rdS]
  show eU ((vM L S (L.take k)).1++_)<=_
  rw[lZ]
  omega
theorem aUq (L:List In)(S:List (Int × Int))(T:List Int)(n:In)(m:Int):1<=(rdW L S T n m).length:=by
 unfold rdW
 cases hq:qkL L S T n m with
 | none=>simp
 | some W =>
  show 1<=W.length
  have hd:∀ {lo hi x d m:Int} {Q:List In},dvL lo hi x d m=some Q->1<=Q.length:=by
   intro lo hi x d m Q h
   unfold dvL at h
   repeat' split at h
   all_goals first|(cases h;simp)|cases h
  unfold qkL at hq
  repeat' split at hq
  all_goals first
   | (cases hq;simp;done)
   | exact hd hq
   | (obtain⟨Q,hQ,rfl⟩:=Option.map_eq_some_iff.1 hq;simp)
   | cases hq
theorem aJr (L:List In)(S:List (Int × Int)):∀ k,k<=L.length->k<=(vM L S (L.take k)).1.length/\(vM L S (L.take k)).2.length=k
 | 0,_=>⟨nZl _,rfl⟩
 | k+1,hk=>by
  obtain⟨h1,h2⟩:=aJr L S k (by omega)
  have:=aUq L S (vM L S (L.take k)).2 (L.getD k i0) (vM L S (L.take k)).1.length
  rw[qK S (by omega),rdS]
  refine⟨?_,by simp[h2]⟩
  show _<=((vM L S (L.take k)).1++_).length
  rw[lLa]
  omega
def rdN (f d:Int)(L:List In)(out:Int):List In:=(vM L (sD f d L out) L).1
def rdO (f d:Int)(L:List In)(out:Int):Int:=(vM L (sD f d L out) L).2.getD out.toNat 0
def rxL (f d:Int)(L:List In)(out:Int):List In:=if aW f d (rdN f d L out) (rdO f d L out)=0 then rdN f d L out else L
def rxO (f d:Int)(L:List In)(out:Int):Int:=if aW f d (rdN f d L out) (rdO f d L out)=0 then rdO f d L out else out
theorem aQf (h:aW f d L out=0):aW f d (rxL f d L out) (rxO f d L out)=0/\L.length<=(rxL f d L out).length/\eU (rxL f d L out)<=eU L /\
  ∀ v,Fits f d v->∃ V U,fZ f d v L out=(0,V)/\fZ f d v (rxL f d L out) (rxO f d L out)=(0,U)/\V.length=L.length/\U.length=(rxL f d L out).length/\0<=rxO f d L out/\(rxO f d L out).toNat < (rxL f d L out).length/\U.getD (rxO f d L out).toNat 0=V.getD out.toNat 0:=by
 obtain⟨m,-⟩:=aI h
 obtain⟨-,-,-,ho0,ho1,-⟩:=Cde.aQ m
 have hlen:=aJr L (sD f d L out) L.length (nLr _)
 have hcost:=aFw L (sD f d L out) L.length (nLr _)
 rw[lTg] at hlen hcost
 unfold rxL rxO
 by_cases hn:aW f d (rdN f d L out) (rdO f d L out)=0
 ·rw[if_pos hn,if_pos hn]
  refine⟨hn,hlen.1,hcost,fun v hF=>?_⟩
  obtain⟨V,hV,hVl,hO⟩:=aFh h hF
  obtain⟨U,hU⟩:=aJs hO L.length (nLr _)
  rw[lTg] at hU
  obtain⟨m2,-⟩:=aI hn
  obtain⟨a1,a2⟩:=hU.at' out.toNat (by omega)
  exact⟨V,U,hV,by rw[fZ,if_pos m2,if_pos hF];exact aRi hU.rv,hVl,hU.rv.len,a1.1,a1.2,a2⟩
 ·rw[if_neg hn,if_neg hn]
  refine⟨h,nLr _,iLr _,fun v hF=>?_⟩
  obtain⟨V,hV,hVl,hO⟩:=aFh h hF
  exact⟨V,V,hV,hV,hVl,hVl,ho0,by omega,rfl⟩
end
section
open Go.RowKit Go.IntWalk Knd
open Cde (In i0 bE eH kM eU jK nE)
open Vfy (pI aW aI w32 iL sgS kR wX myE)
open YticnbcfmbhjbgaaGreatDoor (Wd dQ Fits inpV)
open Cde (cZ)
open Fld (Rv gv av1 uV bO gJ mQ)

end
open Go.RowKit Go.IntWalk Knd
open Cde (In i0 bE eH kM eU jK nE cZ fZ)
open Vfy (eO pI aW sD aI w32 iL sgS kR wX myE)
open YticnbcfmbhjbgaaGreatDoor (Wd dQ Fits inpV)
open Fld (Rv gv rg dH dP av1 uV bO gJ mQ)
def Wh (a b:Int):Prop:=a<=b/\-2147483648<=a/\a<=2147483647/\-2147483648<=b/\b<=2147483647
theorem aDt {f dd:Int}{M:List In}{S:eO}{n:In}{s:Int × Int}(h:iL f dd M=(0,S))(hn:kR f dd S n=(s,0)):iL f dd (M++[n])=(0,S++[s]):=by
 rw[Vfy.jF,h,sgS,if_pos rfl,hn,if_pos rfl]
theorem aQm {f dd:Int}:∀(B A:List In) (SA S:eO),iL f dd A=(0,SA)->iL f dd (A++B)=(0,S)->∃ Z,S=SA++Z
 | [],A,SA,S,hA,h=>by
  rw[List.append_nil,hA] at h
  cases h
  exact⟨[],by simp⟩
 | n::B,A,SA,S,hA,h=>by
  have e:A++n::B=(A++[n])++B:=by simp
  rw[e] at h
  by_cases hn:(kR f dd SA n).2=0
  ·have h1:=aDt (n:=n) (s:=(kR f dd SA n).1) hA (Prod.ext rfl hn)
   obtain⟨Z,hZ⟩:=aQm B (A++[n]) _ S h1 h
   exact⟨[(kR f dd SA n).1]++Z,by rw[hZ];simp⟩
  ·rw[Vfy.aJw,Vfy.jF,hA,sgS,if_pos rfl,if_neg hn,Vfy.vR _ _ _ _ hn] at h
   exact absurd (congrArg Prod.fst h) hn
end Go.Proofs.Rdc
