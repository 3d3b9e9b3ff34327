import Derived.Test.YticnbcfmbhjbgaaGreatDoorXH
import Derived.Laws.AppendOwn
import Derived.Laws.OwnMore
import Derived.OwnWalk
import Derived.Lib.QuietBelow
import Derived.BigQuiet
import Derived.Test.YticnbcfmbhjbgaaGreatDoorX03
import Derived.Test.YticnbcfmbhjbgaaGreatDoorX04
set_option maxRecDepth 100000
set_option maxHeartbeats 32000000
set_option linter.unusedVariables false
namespace Go.Proofs.Knd
open Go.RowKit

end Go.Proofs.Knd
namespace Go.Proofs.Knd
open Go.RowKit
open YticnbcfmbhjbgaaGreatDoor (aB)
def nS (f:Int):Int:=if f=0 then 4096 else 1048576
def nX (f:Int):Int:=if f=0 then 4096 else 1
theorem aDz (f d:Int)(w:World) :
  Calls Tryz.prog 261 #[.agg #[.i f,.i d]] w fun e w'=>e=.returned (.i (nS f))/\Below w.heap.size w w':=by
 have hb:=aD w (.cells #[.i f,.i d] 23)
 by_cases h:f=0
 ·subst h
  go_enter Tryz.func261,Tryz.ntmps261
  go_wp2
  go_ret
  exact⟨rfl,hb⟩
 ·go_enter Tryz.func261,Tryz.ntmps261
  go_wp2
  go_ret
  exact⟨aN (by simp[nS,h]),hb⟩
theorem aO3 (f d:Int)(w:World) :
  Calls Tryz.prog 262 #[.agg #[.i f,.i d]] w fun e w'=>e=.returned (.i (nX f))/\Below w.heap.size w w':=by
 have hb:=aD w (.cells #[.i f,.i d] 23)
 by_cases h:f=0
 ·subst h
  go_enter Tryz.func262,Tryz.ntmps262
  go_wp2
  go_ret
  exact⟨rfl,hb⟩
 ·go_enter Tryz.func262,Tryz.ntmps262
  go_wp2
  go_ret
  exact⟨aN (by simp[nX,h]),hb⟩
theorem aN9 (n:Int)(w:World) :
  Calls Tryz.prog 263 #[.i n] w fun e w'=>e=.returned (.agg #[.i n,.i n])/\Below w.heap.size w w':=by
 go_enter Tryz.func263,Tryz.ntmps263
 go_wp2
 exact bPr (v:=.agg #[.i n,.i n]) (by simp[results,Tryz.results263,go_sem]) rfl ⟨rfl,aD _ _⟩
def jK (f d n:Int):Option (Int × Int) :=
 if ¬May f d then none else
 if n=0 then some (0,nS f-1) else
 if n=1 then some (0,nX f-1) else
 if n=2 then some (0,3) else
 if n=3 then some (gZ f d,gZ f d) else
 if n=4 then some (dS f d,dS f d) else
 if n=5 then some (bU f d,bU f d) else none
def inV (f d n:Int):Value:=.tuple #[.agg #[.i ((jK f d n).getD (0,0)).1,.i ((jK f d n).getD (0,0)).2],.bool (jK f d n).isSome]
theorem aM {W:World}{b:Nat}{t:TypeId}{x y:Value}(h:aB W b t #[x,y]):W.cell? ⟨b,0,none⟩=some x/\W.cell? ⟨b,1,none⟩=some y/\W.frozen? ⟨b,0,none⟩=false/\W.frozen? ⟨b,1,none⟩=false :=
 ⟨h.cell 0 rfl,h.cell 1 rfl,h.frozen 0,h.frozen 1⟩
theorem aR {w w2:World}{b:Nat}(h:aB w2 b 165 #[.i 0,.i 0])(hB:Below w.heap.size w w2)(hb:w.heap.size<=b)(x y:Int) :
  ((w2.setCell ⟨b,0,none⟩ (.i x)).setCell ⟨b,1,none⟩ (.i y)).cell? ⟨b,0,none⟩=some (.i x)/\((w2.setCell ⟨b,0,none⟩ (.i x)).setCell ⟨b,1,none⟩ (.i y)).cell? ⟨b,1,none⟩=some (.i y) /\
  Below w.heap.size w ((w2.setCell ⟨b,0,none⟩ (.i x)).setCell ⟨b,1,none⟩ (.i y)):=by
 have h3:=(h.set 0 (.i x)).set 1 (.i y)
 exact⟨h3.cell 0 rfl,h3.cell 1 rfl,(hB.setCell (p:=⟨b,0,none⟩) hb _).setCell (p:=⟨b,1,none⟩) hb _⟩
structure B2 (w W:World)(t u:TypeId)(P Q:Array Value):Prop where
 k:aB W w.heap.size t P
 r:aB W (w.heap.size+1) u Q
 b:Below w.heap.size w W
theorem B2.start (w:World)(t u:TypeId)(P Q:Array Value):B2 w ((w.alloc (.cells P t)).alloc (.cells Q u)) t u P Q:=by
 have h:=aB.new (w.alloc (.cells P t)) u Q
 rw[wSa] at h
 exact⟨(aB.new w t P).alloc _,h,(aD w _).alloc (by simp) _⟩
theorem B2.later {w W W':World}{t u:TypeId}{P Q:Array Value}(h:B2 w W t u P Q)(hb:Below W.heap.size W W'):B2 w W' t u P Q:=⟨h.k.below hb,h.r.below hb,bel h.b hb⟩
theorem lZ (f d n:Int)(w:World) :
  Calls Tryz.prog 188 #[.agg #[.i f,.i d],.i n] w fun e w'=>e=.returned (inV f d n)/\Below w.heap.size w w':=by
 have H:=aA (B2.start w 23 165 #[.i f,.i d] #[.i 0,.i 0])
 by_cases hm:May f d
 case' neg =>
  have HC:=aA fun w=>iD f d w hm
  have e:inV f d n=.tuple #[.agg #[.i 0,.i 0],.bool false]:=by simp[inV,jK,hm]
 case' pos =>
  have HC:=aA fun w=>fE f d w hm
  obtain⟨p1,p2⟩:0<=nS f/\nS f<=1048576:=by unfold nS;split <;> omega
  obtain⟨q1,q2⟩:0<=nX f/\nX f<=1048576:=by unfold nX;split <;> omega
  rcases(by omega:n=0\/n=1\/n=2\/n=3\/n=4\/n=5\/n≠0/\n≠1/\n≠2/\n≠3/\n≠4/\n≠5) with rfl|rfl|rfl|rfl|rfl|rfl|⟨h0,h1,h2,h3,h4,h5⟩
  have e:inV f d 0=.tuple #[.agg #[.i 0,.i (nS f-1)],.bool true]:=by simp[inV,jK,hm]
  rotate_left
  have e:inV f d 1=.tuple #[.agg #[.i 0,.i (nX f-1)],.bool true]:=by simp[inV,jK,hm]
  rotate_left
  have e:inV f d 2=.tuple #[.agg #[.i 0,.i 3],.bool true]:=by simp[inV,jK,hm]
  rotate_left
  have e:inV f d 3=.tuple #[.agg #[.i (gZ f d),.i (gZ f d)],.bool true]:=by simp[inV,jK,hm]
  rotate_left
  have e:inV f d 4=.tuple #[.agg #[.i (dS f d),.i (dS f d)],.bool true]:=by simp[inV,jK,hm]
  rotate_left
  have e:inV f d 5=.tuple #[.agg #[.i (bU f d),.i (bU f d)],.bool true]:=by simp[inV,jK,hm]
  rotate_left
  have e:inV f d n=.tuple #[.agg #[.i 0,.i 0],.bool false]:=by simp[inV,jK,hm,h0,h1,h2,h3,h4,h5]
 all_goals
  have HE:=aA e
  clear e
  go_enter Tryz.func188,Tryz.ntmps188
  go_wp2_with (first
   | (go_at_call 30;refine(HC.o _).mono ?_;rintro e w2 ⟨rfl,hb2⟩;have H:=aA (H.o.later hb2);clear hb2;obtain⟨s2,t2,u2,v2⟩:=aM H.o.r;obtain⟨x2,y2,-,-⟩:=aM H.o.k)
   | ((first | (go_at_call 261;refine(aDz _ _ _).mono ?_) | (go_at_call 262;refine(aO3 _ _ _).mono ?_) | (go_at_call 189;refine(sU _ _ _).mono ?_) | (go_at_call 190;refine(oJ _ _ _).mono ?_) | (go_at_call 193;refine(qZ _ _ _).mono ?_) | (go_at_call 263;refine(aN9 _ _).mono ?_));rintro e w3 ⟨rfl,hb3⟩;have H:=aA (H.o.later hb3);clear hb3;obtain⟨s3,t3,u3,v3⟩:=aM H.o.r;obtain⟨x3,y3,-,-⟩:=aM H.o.k))
  have c:=fun x y=>aR H.o.r H.o.b (by omega) x y
  exact bPr (v:=inV f d _) (by rw[HE.o];simp[results,Tryz.results188,go_sem,fun x y=>(c x y).1,fun x y=>(c x y).2.1]) rfl ⟨rfl,(c _ _).2.2⟩
end Go.Proofs.Knd
namespace Go.Proofs.Knd
open Go.RowKit
variable {w:World} {a:Option Addr} {cap n:Nat} {xs:List Int}
theorem info3:(Tryz.prog.info? 3).map (fun i=>(i.zero,i.size,i.bytes))=some (some (.i 0),1,8):=by kernel_rfl
abbrev gY (xs:List Int):List Value:=xs.map (Value.int .i64)
structure Ints (w:World)(a:Option Addr)(n cap:Nat)(xs:List Int):Prop where
 len:xs.length=n
 le:n<=cap
 max:cap<=maxLen
 nil:a=none->cap=0
 cell:n=0\/∃ b off,a=some ⟨b,off,none⟩/\∀ i,i < n->w.cell? ⟨b,off+i,none⟩=some (.i (xs.getD i 0))
theorem Ints.at (h:Ints w a n cap xs)(hn:n≠0) :
  ∃ b off,a=some ⟨b,off,none⟩/\b < w.heap.size/\∀ i,i < n->w.cell? ⟨b,off+i,none⟩=some (.i (xs.getD i 0)):=by
 rcases h.cell with h0|⟨b,off,ha,hc⟩
 ·exact absurd h0 hn
 ·exact⟨b,off,ha,wBl w _ (hc 0 (by omega)),hc⟩
theorem Ints.of_cells {w':World}(h:Ints w a n cap xs)
  (hc:∀ b off,a=some ⟨b,off,none⟩->n≠0->∀ i,i < n->w'.cell? ⟨b,off+i,none⟩=w.cell? ⟨b,off+i,none⟩):Ints w' a n cap xs:=by
 refine⟨h.len,h.le,h.max,h.nil,?_⟩
 by_cases hn:n=0
 ·exact .inl hn
 ·obtain⟨b,off,ha,_,hcell⟩:=h.at hn
  exact .inr ⟨b,off,ha,fun i hi=>(hc b off ha hn i hi).trans (hcell i hi)⟩
theorem Ints.later {w':World}(h:Ints w a n cap xs)(hb:Below w.heap.size w w'):Ints w' a n cap xs:=by
 refine h.of_cells fun b off ha hn i hi=>?_
 obtain⟨b',off',ha',hlt,_⟩:=h.at hn
 rw[ha] at ha'
 cases ha'
 exact hb.cell (p:=⟨b,off+i,none⟩) hlt
theorem Ints.of_owns {base:Nat}{v:Value}(h:w.ownsRow base 3 1 v n (gY xs)) :
  ∃ a cap,v=.slice a n cap/\Ints w a n cap xs/\(∀ x,a=some x->base<=x.block/\x.block < w.heap.size):=by
 have hl:xs.length=n:=by simpa using h.1
 have hlt:=h.lt
 have hcs:=fun g hg=>h.cells (g:=g) hg
 rcases h.2 with⟨rfl,rfl⟩|⟨g,cap,cur,rfl,hb,hg,hnc,hcm,hsz,htake⟩
 ·exact⟨none,0,rfl,⟨hl,nLr _,nZl _,fun _=>rfl,.inl rfl⟩,fun x hx=>by cases hx⟩
 ·refine⟨some ⟨g,0,none⟩,cap,rfl,⟨hl,hnc,hcm,(fun h=>by cases h),.inr ⟨g,0,rfl,fun i hi=>?_⟩⟩,fun x hx=>by cases hx;exact hlt g rfl⟩
  have:=hcs g rfl i (.i (xs.getD i 0)) (by simp[List.getD,hl,hi])
  rw[Addr.add_lit] at this
  exact this
end Go.Proofs.Knd
namespace Go.Proofs.Knd
open Go.RowKit Go.Sort
open YticnbcfmbhjbgaaGreatDoor (aB)
def dM (f d i n:Int):Prop:=∃ lo hi,jK f d i=some (lo,hi)/\lo<=n/\n<=hi
def Fit (f d x y c:Int)(zs:List Int):Prop :=
 ((dM f d 0 x/\dM f d 1 y)/\dM f d 2 c)/\(zs.length:Int)=dF f d/\∀ z ∈ zs,gZ f d<=z/\z<=dS f d
open Classical in
noncomputable def bAd (f d x y c:Int)(zs:List Int):Int:=if Fit f d x y c zs then 0 else 1
end Go.Proofs.Knd
