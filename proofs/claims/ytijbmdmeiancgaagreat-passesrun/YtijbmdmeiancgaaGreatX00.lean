import Derived.Test.YtijbmdmeiancgaaGreatXH
import Derived.Test.YtijbmdmeiancgaaGreatChecked
import Derived.WalkKit
import Derived.WalkSpells
import Derived.Laws.AppendOwn
import Derived.Laws.OwnMore
import Derived.OwnWalk
import Derived.Lib.QuietBelow
import Derived.BigQuiet
set_option maxRecDepth 100000
set_option maxHeartbeats 32000000
set_option linter.unusedVariables false
namespace Go.Proofs.Knd
open Go.RowKit Go.IntWalk
theorem aC {p:Prop}(h:p):Hid p:=h
theorem fM {W w1:World}(hb:Below W.heap.size W w1):(∀ b o,b < W.heap.size->w1.cell? ⟨b,o,none⟩=W.cell? ⟨b,o,none⟩)/\(∀ b o,b < W.heap.size->w1.frozen? ⟨b,o,none⟩=W.frozen? ⟨b,o,none⟩) :=
 ⟨fun b o h=>hb.cell (p:=⟨b,o,none⟩) h,fun b o h=>hb.frozen (p:=⟨b,o,none⟩) h⟩
theorem bel {w w1 w2:World}(h:Below w.heap.size w w1)(k:Below w1.heap.size w1 w2):Below w.heap.size w w2:=h.trans (k.mono h.size)
theorem aH (w:World)(o:Obj):Below w.heap.size w (w.alloc o):=(Below.refl _ _).alloc (Nat.le_refl _) _
theorem aN {k:IntKind}{a b:Int}(h:a=b):Ending.returned (.int k a)=.returned (.int k b):=by rw[h]
def May (f d:Int):Prop:=(f=0\/f=1)/\1<=d/\d<=16
instance (f d : Int) : Decidable (May f d) := by unfold May; infer_instance
theorem nA (f d:Int):(May f d/\f=0)\/(May f d/\f=1)\/¬May f d:=by
 by_cases h:May f d
 ·rcases h.1 with h0|h0
  ·exact .inl ⟨h,h0⟩
  ·exact .inr (.inl ⟨h,h0⟩)
 ·exact .inr (.inr h)
def pw (n:Int):Int:=2 ^ n.toNat
theorem iW (n:Int)(h:n<=16):1<=pw n/\pw n<=65536:=by
 unfold pw
 have h1:n.toNat<=16:=by omega
 have h2:2 ^ n.toNat<=2 ^ 16:=Nat.pow_le_pow_right (by decide) h1
 have h3:0 < 2 ^ n.toNat:=Nat.pow_pos (by decide)
 have e:((2:Int) ^ n.toNat)=((2 ^ n.toNat:Nat):Int):=by simp
 rw[e]
 omega
theorem aD4 (n:Int)(h:0<=n):pw (n+1)=2*pw n:=by
 unfold pw
 rw[show (n+1).toNat=n.toNat+1 by omega,Int.pow_succ];omega
theorem aNg (d:Int)(h:1<=d):pw d=2*pw (d-1):=by
 have:=aD4 (d-1) (by omega);rw[show d-1+1=d by omega] at this;exact this
def dJ (f d:Int):Int:=if May f d/\f=1 then -pw (d-1) else 0
def bK (f d:Int):Int:=if May f d then(if f=0 then 2*pw (d-1)-1 else pw (d-1)-1) else 0
def aV (f d:Int):Int:=if May f d/\f=0 then pw (d-1) else 0
def eG (f d:Int):Int:=if May f d then(if f=0 then 44 else 31) else 0
theorem zs0 {d:Int}(h:May 0 d):dJ 0 d=0/\bK 0 d=2*pw (d-1)-1/\aV 0 d=pw (d-1)/\eG 0 d=44:=by
 simp[dJ,bK,aV,eG,h]
theorem zs1 {d:Int}(h:May 1 d):dJ 1 d=-pw (d-1)/\bK 1 d=pw (d-1)-1/\aV 1 d=0/\eG 1 d=31:=by
 simp[dJ,bK,aV,eG,h]
theorem zs2 {f d:Int}(h:¬May f d):dJ f d=0/\bK f d=0/\aV f d=0/\eG f d=0:=by
 simp[dJ,bK,aV,eG,h]
theorem dN (f d:Int)(w:World)(h:May f d) :
  Calls Tryz.prog 64 #[.agg #[.int .i64 f,.int .i64 d]] w fun e w'=>e=.returned (.int .i64 0)/\Below w.heap.size w w':=by
 obtain⟨hf,h1,h2⟩:=h
 have hb:Below w.heap.size w (w.alloc (.cells #[.int .i64 f,.int .i64 d] 23)):=(Below.refl _ _).alloc (Nat.le_refl _) _
 rcases hf with rfl|rfl
 ·go_enter Tryz.func64,Tryz.ntmps64
  go_wp2
  go_ret
  exact⟨rfl,hb⟩
 ·go_enter Tryz.func64,Tryz.ntmps64
  go_wp2
  go_ret
  exact⟨rfl,hb⟩
theorem kD (f d:Int)(w:World)(h:¬May f d) :
  Calls Tryz.prog 64 #[.agg #[.int .i64 f,.int .i64 d]] w fun e w'=>e=.returned (.int .i64 1)/\Below w.heap.size w w':=by
 have hb:Below w.heap.size w (w.alloc (.cells #[.int .i64 f,.int .i64 d] 23)):=(Below.refl _ _).alloc (Nat.le_refl _) _
 by_cases h1:f=0
 ·subst h1
  by_cases h2:d < 1
  ·go_enter Tryz.func64,Tryz.ntmps64
   go_wp2
   go_ret
   exact⟨rfl,hb⟩
  ·have h3:16 < d:=by unfold May at h;omega
   go_enter Tryz.func64,Tryz.ntmps64
   go_wp2
   go_ret
   exact⟨rfl,hb⟩
 ·by_cases h4:f=1
  ·subst h4
   by_cases h2:d < 1
   ·go_enter Tryz.func64,Tryz.ntmps64
    go_wp2
    go_ret
    exact⟨rfl,hb⟩
   ·have h3:16 < d:=by unfold May at h;omega
    go_enter Tryz.func64,Tryz.ntmps64
    go_wp2
    go_ret
    exact⟨rfl,hb⟩
  ·have h5:(f != 0)=true:=by simp[h1]
   have h6:(f != 1)=true:=by simp[h4]
   go_enter Tryz.func64,Tryz.ntmps64
   go_wp2
   go_ret
   exact⟨rfl,hb⟩
theorem qN (f d:Int)(w:World)(h:May f d) :
  Calls Tryz.prog 73 #[.agg #[.int .i64 f,.int .i64 d]] w fun e w'=>e=.returned (.int .i64 (pw (d-1)))/\Below w.heap.size w w':=by
 obtain⟨hf,h1,h2⟩:=h
 have HP:=aC (iW (d-1) (by omega))
 go_enter Tryz.func73,Tryz.ntmps73
 go_wp2
 go_ret
 refine⟨aN ?_,aH _ _⟩
 have:=HP.o
 unfold pw at this ⊢
 rw[show (d-1).toNat=d.toNat-1 by omega] at this ⊢
 exact wrap64_in _ ⟨by omega,by omega⟩
theorem yK (f d:Int)(w:World) :
  Calls Tryz.prog 38 #[.agg #[.int .i64 f,.int .i64 d]] w fun e w'=>e=.returned (.int .i64 (dJ f d))/\Below w.heap.size w w':=by
 rcases nA f d with⟨hm,rfl⟩|⟨hm,rfl⟩|hm
 ·rw[(zs0 hm).1]
  have hb:=aH w (.cells #[.int .i64 0,.int .i64 d] 23)
  go_enter Tryz.func38,Tryz.ntmps38
  go_wp2_with (go_at_call 64;refine(dN _ _ _ hm).mono ?_;rintro e w2 ⟨rfl,hb2⟩;obtain⟨hc2,hf2⟩:=fM hb2)
  go_ret
  exact⟨rfl,bel hb hb2⟩
 ·rw[(zs1 hm).1]
  have hb:=aH w (.cells #[.int .i64 1,.int .i64 d] 23)
  obtain⟨p1,p2⟩:=iW (d-1) (by unfold May at hm;omega)
  go_enter Tryz.func38,Tryz.ntmps38
  go_wp2_with (first|(go_at_call 64;refine(dN _ _ _ hm).mono ?_;rintro e w2 ⟨rfl,hb2⟩;obtain⟨hc2,hf2⟩:=fM hb2)|(go_at_call 73;refine(qN _ _ _ hm).mono ?_;rintro e w3 ⟨rfl,hb3⟩))
  go_ret
  exact⟨rfl,bel (bel hb hb2) hb3⟩
 ·rw[(zs2 hm).1]
  have hb:=aH w (.cells #[.int .i64 f,.int .i64 d] 23)
  go_enter Tryz.func38,Tryz.ntmps38
  go_wp2_with (go_at_call 64;refine(kD _ _ _ hm).mono ?_;rintro e w2 ⟨rfl,hb2⟩;obtain⟨hc2,hf2⟩:=fM hb2)
  go_ret
  exact⟨rfl,bel hb hb2⟩
theorem uL (f d:Int)(w:World) :
  Calls Tryz.prog 39 #[.agg #[.int .i64 f,.int .i64 d]] w fun e w'=>e=.returned (.int .i64 (bK f d))/\Below w.heap.size w w':=by
 rcases nA f d with⟨hm,rfl⟩|⟨hm,rfl⟩|hm
 ·rw[(zs0 hm).2.1]
  have hb:=aH w (.cells #[.int .i64 0,.int .i64 d] 23)
  obtain⟨p1,p2⟩:=iW (d-1) (by unfold May at hm;omega)
  go_enter Tryz.func39,Tryz.ntmps39
  go_wp2_with (first|(go_at_call 64;refine(dN _ _ _ hm).mono ?_;rintro e w2 ⟨rfl,hb2⟩;obtain⟨hc2,hf2⟩:=fM hb2)|(go_at_call 73;refine(qN _ _ _ hm).mono ?_;rintro e w3 ⟨rfl,hb3⟩))
  go_ret
  exact⟨rfl,bel (bel hb hb2) hb3⟩
 ·rw[(zs1 hm).2.1]
  have hb:=aH w (.cells #[.int .i64 1,.int .i64 d] 23)
  obtain⟨p1,p2⟩:=iW (d-1) (by unfold May at hm;omega)
  go_enter Tryz.func39,Tryz.ntmps39
  go_wp2_with (first|(go_at_call 64;refine(dN _ _ _ hm).mono ?_;rintro e w2 ⟨rfl,hb2⟩;obtain⟨hc2,hf2⟩:=fM hb2)|(go_at_call 73;refine(qN _ _ _ hm).mono ?_;rintro e w3 ⟨rfl,hb3⟩))
  go_ret
  exact⟨rfl,bel (bel hb hb2) hb3⟩
 ·rw[(zs2 hm).2.1]
  have hb:=aH w (.cells #[.int .i64 f,.int .i64 d] 23)
  go_enter Tryz.func39,Tryz.ntmps39
  go_wp2_with (go_at_call 64;refine(kD _ _ _ hm).mono ?_;rintro e w2 ⟨rfl,hb2⟩;obtain⟨hc2,hf2⟩:=fM hb2)
  go_ret
  exact⟨rfl,bel hb hb2⟩
theorem uQ (f d:Int)(w:World) :
  Calls Tryz.prog 98 #[.agg #[.int .i64 f,.int .i64 d]] w fun e w'=>e=.returned (.int .i64 (aV f d))/\Below w.heap.size w w':=by
 rcases nA f d with⟨hm,rfl⟩|⟨hm,rfl⟩|hm
 ·rw[(zs0 hm).2.2.1]
  have hb:=aH w (.cells #[.int .i64 0,.int .i64 d] 23)
  obtain⟨p1,p2⟩:=iW (d-1) (by unfold May at hm;omega)
  go_enter Tryz.func98,Tryz.ntmps98
  go_wp2_with (first|(go_at_call 64;refine(dN _ _ _ hm).mono ?_;rintro e w2 ⟨rfl,hb2⟩;obtain⟨hc2,hf2⟩:=fM hb2)|(go_at_call 73;refine(qN _ _ _ hm).mono ?_;rintro e w3 ⟨rfl,hb3⟩))
  go_ret
  exact⟨rfl,bel (bel hb hb2) hb3⟩
 ·rw[(zs1 hm).2.2.1]
  have hb:=aH w (.cells #[.int .i64 1,.int .i64 d] 23)
  go_enter Tryz.func98,Tryz.ntmps98
  go_wp2_with (go_at_call 64;refine(dN _ _ _ hm).mono ?_;rintro e w2 ⟨rfl,hb2⟩;obtain⟨hc2,hf2⟩:=fM hb2)
  go_ret
  exact⟨rfl,bel hb hb2⟩
 ·rw[(zs2 hm).2.2.1]
  have hb:=aH w (.cells #[.int .i64 f,.int .i64 d] 23)
  go_enter Tryz.func98,Tryz.ntmps98
  go_wp2_with (go_at_call 64;refine(kD _ _ _ hm).mono ?_;rintro e w2 ⟨rfl,hb2⟩;obtain⟨hc2,hf2⟩:=fM hb2)
  go_ret
  exact⟨rfl,bel hb hb2⟩
theorem aG0 (f d:Int)(w:World) :
  Calls Tryz.prog 37 #[.agg #[.int .i64 f,.int .i64 d]] w fun e w'=>e=.returned (.int .i64 (eG f d))/\Below w.heap.size w w':=by
 rcases nA f d with⟨hm,rfl⟩|⟨hm,rfl⟩|hm
 ·rw[(zs0 hm).2.2.2]
  have hb:=aH w (.cells #[.int .i64 0,.int .i64 d] 23)
  go_enter Tryz.func37,Tryz.ntmps37
  go_wp2_with (go_at_call 64;refine(dN _ _ _ hm).mono ?_;rintro e w2 ⟨rfl,hb2⟩;obtain⟨hc2,hf2⟩:=fM hb2)
  go_ret
  exact⟨rfl,bel hb hb2⟩
 ·rw[(zs1 hm).2.2.2]
  have hb:=aH w (.cells #[.int .i64 1,.int .i64 d] 23)
  go_enter Tryz.func37,Tryz.ntmps37
  go_wp2_with (go_at_call 64;refine(dN _ _ _ hm).mono ?_;rintro e w2 ⟨rfl,hb2⟩;obtain⟨hc2,hf2⟩:=fM hb2)
  go_ret
  exact⟨rfl,bel hb hb2⟩
 ·rw[(zs2 hm).2.2.2]
  have hb:=aH w (.cells #[.int .i64 f,.int .i64 d] 23)
  go_enter Tryz.func37,Tryz.ntmps37
  go_wp2_with (go_at_call 64;refine(kD _ _ _ hm).mono ?_;rintro e w2 ⟨rfl,hb2⟩;obtain⟨hc2,hf2⟩:=fM hb2)
  go_ret
  exact⟨rfl,bel hb hb2⟩
end Go.Proofs.Knd
namespace Go.Proofs.Knd
open Go.RowKit
variable {W:World} {b:Nat} {t:TypeId} {cs:Array Value}
def aI (W:World)(b:Nat)(t:TypeId)(cs:Array Value):Prop:=W.heap[b]?=some (.cells cs t (0,0))
theorem aI.lt (h:aI W b t cs):b < W.heap.size:=(Array.getElem?_eq_some_iff.1 h).1
theorem aI.new (W:World)(t:TypeId)(cs:Array Value):aI (W.alloc (.cells cs t)) W.heap.size t cs:=heap_alloc_new W _
theorem aI.kept {W':World}{row:Option Nat}(h:aI W b t cs)(hg:W.grownBy W' row)(hne:some b≠row):aI W' b t cs:=(hg.block b h.lt hne).trans h
theorem aI.alloc {W:World}{b:Nat}{t:TypeId}{cs:Array Value}(h:aI W b t cs)(o:Obj):aI (W.alloc o) b t cs:=h.kept (World.grownBy_alloc W o none) (by simp)
theorem aI.below {W':World}(h:aI W b t cs)(hb:Below W.heap.size W W'):aI W' b t cs:=(hb.block b h.lt).trans h
theorem aI.cell {W:World}{b:Nat}{t:TypeId}{cs:Array Value}(h:aI W b t cs)(i:Nat){v:Value}(hv:cs[i]?=some v):W.cell? ⟨b,i,none⟩=some v:=(cell_of_row W b i cs t (0,0) h).trans hv
theorem aI.frozen {W:World}{b:Nat}{t:TypeId}{cs:Array Value}(h:aI W b t cs)(i:Nat):W.frozen? ⟨b,i,none⟩=false:=by
 simp[World.frozen?,show W.heap[b]?=_ from h]
theorem aI.other (h:aI W b t cs){p:Addr}(hne:b≠p.block)(u:Value):aI (W.setCell p u) b t cs:=(Below.heap_setCell W p u b hne).trans h
theorem aI.set (h:aI W b t cs)(i:Nat)(u:Value):aI (W.setCell ⟨b,i,none⟩ u) b t (cs.setIfInBounds i u):=by
 obtain⟨hlt,hk⟩:=Array.getElem?_eq_some_iff.1 h
 show (W.heap.modify b _)[b]?=_
 rw[Array.getElem?_eq_getElem (by rw[Array.size_modify];exact hlt),Array.getElem_modify_self,hk]
 rfl
end Go.Proofs.Knd
namespace Go.Proofs.Knd
open Go.RowKit
def lS (f:Int):Int:=if f=0 then 4096 else 1048576
def lN (f:Int):Int:=if f=0 then 4096 else 1
theorem aA2 (f d:Int)(w:World) :
  Calls Tryz.prog 101 #[.agg #[.int .i64 f,.int .i64 d]] w fun e w'=>e=.returned (.int .i64 (lS f))/\Below w.heap.size w w':=by
 have hb:=aH w (.cells #[.int .i64 f,.int .i64 d] 23)
 by_cases h:f=0
 ·subst h
  go_enter Tryz.func101,Tryz.ntmps101
  go_wp2
  go_ret
  exact⟨rfl,hb⟩
 ·go_enter Tryz.func101,Tryz.ntmps101
  go_wp2
  go_ret
  exact⟨aN (by simp[lS,h]),hb⟩
theorem aJj (f d:Int)(w:World) :
  Calls Tryz.prog 102 #[.agg #[.int .i64 f,.int .i64 d]] w fun e w'=>e=.returned (.int .i64 (lN f))/\Below w.heap.size w w':=by
 have hb:=aH w (.cells #[.int .i64 f,.int .i64 d] 23)
 by_cases h:f=0
 ·subst h
  go_enter Tryz.func102,Tryz.ntmps102
  go_wp2
  go_ret
  exact⟨rfl,hb⟩
 ·go_enter Tryz.func102,Tryz.ntmps102
  go_wp2
  go_ret
  exact⟨aN (by simp[lN,h]),hb⟩
theorem uP (n:Int)(w:World) :
  Calls Tryz.prog 103 #[.int .i64 n] w fun e w'=>e=.returned (.agg #[.int .i64 n,.int .i64 n])/\Below w.heap.size w w':=by
 go_enter Tryz.func103,Tryz.ntmps103
 go_wp2
 exact bodyPost_ret (v:=.agg #[.int .i64 n,.int .i64 n]) (by simp[results,Tryz.results103,go_sem]) rfl ⟨rfl,aH _ _⟩
def iH (f d n:Int):Option (Int × Int) :=
 if ¬May f d then none else
 if n=0 then some (0,lS f-1) else
 if n=1 then some (0,lN f-1) else
 if n=2 then some (0,3) else
 if n=3 then some (dJ f d,dJ f d) else
 if n=4 then some (bK f d,bK f d) else
 if n=5 then some (aV f d,aV f d) else none
def nD (f d n:Int):Value:=.tuple #[.agg #[.int .i64 ((iH f d n).getD (0,0)).1,.int .i64 ((iH f d n).getD (0,0)).2],.bool (iH f d n).isSome]
theorem aF {W:World}{b:Nat}{t:TypeId}{x y:Value}(h:aI W b t #[x,y]):W.cell? ⟨b,0,none⟩=some x/\W.cell? ⟨b,1,none⟩=some y/\W.frozen? ⟨b,0,none⟩=false/\W.frozen? ⟨b,1,none⟩=false :=
 ⟨h.cell 0 rfl,h.cell 1 rfl,h.frozen 0,h.frozen 1⟩
theorem aK {w w2:World}{b:Nat}(h:aI w2 b 81 #[.int .i64 0,.int .i64 0])(hB:Below w.heap.size w w2)(hb:w.heap.size<=b)(x y:Int) :
  ((w2.setCell ⟨b,0,none⟩ (.int .i64 x)).setCell ⟨b,1,none⟩ (.int .i64 y)).cell? ⟨b,0,none⟩=some (.int .i64 x)/\((w2.setCell ⟨b,0,none⟩ (.int .i64 x)).setCell ⟨b,1,none⟩ (.int .i64 y)).cell? ⟨b,1,none⟩=some (.int .i64 y) /\
  Below w.heap.size w ((w2.setCell ⟨b,0,none⟩ (.int .i64 x)).setCell ⟨b,1,none⟩ (.int .i64 y)):=by
 have h3:=(h.set 0 (.int .i64 x)).set 1 (.int .i64 y)
 exact⟨h3.cell 0 rfl,h3.cell 1 rfl,(hB.setCell (p:=⟨b,0,none⟩) hb _).setCell (p:=⟨b,1,none⟩) hb _⟩
theorem aHm (f d n:Int)(hm:¬May f d)(w:World) :
  Calls Tryz.prog 72 #[.agg #[.int .i64 f,.int .i64 d],.int .i64 n] w fun e w'=>e=.returned (nD f d n)/\Below w.heap.size w w':=by
 have HB1:=aC ((aH w (.cells #[.int .i64 f,.int .i64 d] 23)).alloc (by simp) (.cells #[.int .i64 0,.int .i64 0] 81))
 have hR:aI ((w.alloc (.cells #[.int .i64 f,.int .i64 d] 23)).alloc (.cells #[.int .i64 0,.int .i64 0] 81)) (w.heap.size+1) 81 #[.int .i64 0,.int .i64 0]:=by
  have:=aI.new (w.alloc (.cells #[.int .i64 f,.int .i64 d] 23)) 81 #[.int .i64 0,.int .i64 0]
  rwa[World.size_alloc] at this
 have HR1:=aC hR
 have HK1:=aC ((aI.new w 23 #[.int .i64 f,.int .i64 d]).alloc (.cells #[.int .i64 0,.int .i64 0] 81))
 clear hR
 have e:nD f d n=.tuple #[.agg #[.int .i64 (0),.int .i64 (0)],.bool false]:=by simp[nD,iH,hm]
 rw[e]
 clear e
 go_enter Tryz.func72,Tryz.ntmps72
 go_wp2_with (first
  | (go_at_call 64;refine(kD _ _ _ hm).mono ?_;rintro e w2 ⟨rfl,hb2⟩;have HR2:=aC (HR1.o.below hb2);have HK2:=aC (HK1.o.below hb2);have HB2:=aC (bel HB1.o hb2);clear hb2;obtain⟨s2,t2,u2,v2⟩:=aF HR2.o;obtain⟨x2,y2,-,-⟩:=aF HK2.o))
 obtain⟨c0,c1,hB⟩:=aK HR2.o HB2.o (by omega) (0) (0)
 exact bodyPost_ret (v:=.tuple #[.agg #[.int .i64 (0),.int .i64 (0)],.bool false]) (by simp[results,Tryz.results72,go_sem,c0,c1]) rfl ⟨rfl,hB⟩
theorem aQh (f d:Int)(hm:May f d)(w:World) :
  Calls Tryz.prog 72 #[.agg #[.int .i64 f,.int .i64 d],.int .i64 0] w fun e w'=>e=.returned (nD f d 0)/\Below w.heap.size w w':=by
 have HB1:=aC ((aH w (.cells #[.int .i64 f,.int .i64 d] 23)).alloc (by simp) (.cells #[.int .i64 0,.int .i64 0] 81))
 have hR:aI ((w.alloc (.cells #[.int .i64 f,.int .i64 d] 23)).alloc (.cells #[.int .i64 0,.int .i64 0] 81)) (w.heap.size+1) 81 #[.int .i64 0,.int .i64 0]:=by
  have:=aI.new (w.alloc (.cells #[.int .i64 f,.int .i64 d] 23)) 81 #[.int .i64 0,.int .i64 0]
  rwa[World.size_alloc] at this
 have HR1:=aC hR
 have HK1:=aC ((aI.new w 23 #[.int .i64 f,.int .i64 d]).alloc (.cells #[.int .i64 0,.int .i64 0] 81))
 clear hR
 have e:nD f d 0=.tuple #[.agg #[.int .i64 (0),.int .i64 (lS f-1)],.bool true]:=by simp[nD,iH,hm]
 rw[e]
 clear e
 obtain⟨p1,p2⟩:0<=lS f/\lS f<=1048576:=by unfold lS;split <;> omega
 go_enter Tryz.func72,Tryz.ntmps72
 go_wp2_with (first
  | (go_at_call 64;refine(dN _ _ _ hm).mono ?_;rintro e w2 ⟨rfl,hb2⟩;have HR2:=aC (HR1.o.below hb2);have HK2:=aC (HK1.o.below hb2);have HB2:=aC (bel HB1.o hb2);clear hb2;obtain⟨s2,t2,u2,v2⟩:=aF HR2.o;obtain⟨x2,y2,-,-⟩:=aF HK2.o)
  | (go_at_call 101;refine(aA2 _ _ _).mono ?_;rintro e w3 ⟨rfl,hb3⟩;have HR3:=aC (HR2.o.below hb3);have HK3:=aC (HK2.o.below hb3);have HB3:=aC (bel HB2.o hb3);clear hb3;obtain⟨s3,t3,u3,v3⟩:=aF HR3.o;obtain⟨x3,y3,-,-⟩:=aF HK3.o))
 obtain⟨c0,c1,hB⟩:=aK HR3.o HB3.o (by omega) (0) (lS f-1)
 exact bodyPost_ret (v:=.tuple #[.agg #[.int .i64 (0),.int .i64 (lS f-1)],.bool true]) (by simp[results,Tryz.results72,go_sem,c0,c1]) rfl ⟨rfl,hB⟩
theorem aPm (f d:Int)(hm:May f d)(w:World) :
  Calls Tryz.prog 72 #[.agg #[.int .i64 f,.int .i64 d],.int .i64 1] w fun e w'=>e=.returned (nD f d 1)/\Below w.heap.size w w':=by
 have HB1:=aC ((aH w (.cells #[.int .i64 f,.int .i64 d] 23)).alloc (by simp) (.cells #[.int .i64 0,.int .i64 0] 81))
 have hR:aI ((w.alloc (.cells #[.int .i64 f,.int .i64 d] 23)).alloc (.cells #[.int .i64 0,.int .i64 0] 81)) (w.heap.size+1) 81 #[.int .i64 0,.int .i64 0]:=by
  have:=aI.new (w.alloc (.cells #[.int .i64 f,.int .i64 d] 23)) 81 #[.int .i64 0,.int .i64 0]
  rwa[World.size_alloc] at this
 have HR1:=aC hR
 have HK1:=aC ((aI.new w 23 #[.int .i64 f,.int .i64 d]).alloc (.cells #[.int .i64 0,.int .i64 0] 81))
 clear hR
 have e:nD f d 1=.tuple #[.agg #[.int .i64 (0),.int .i64 (lN f-1)],.bool true]:=by simp[nD,iH,hm]
 rw[e]
 clear e
 obtain⟨p1,p2⟩:0<=lN f/\lN f<=1048576:=by unfold lN;split <;> omega
 go_enter Tryz.func72,Tryz.ntmps72
 go_wp2_with (first
  | (go_at_call 64;refine(dN _ _ _ hm).mono ?_;rintro e w2 ⟨rfl,hb2⟩;have HR2:=aC (HR1.o.below hb2);have HK2:=aC (HK1.o.below hb2);have HB2:=aC (bel HB1.o hb2);clear hb2;obtain⟨s2,t2,u2,v2⟩:=aF HR2.o;obtain⟨x2,y2,-,-⟩:=aF HK2.o)
  | (go_at_call 102;refine(aJj _ _ _).mono ?_;rintro e w3 ⟨rfl,hb3⟩;have HR3:=aC (HR2.o.below hb3);have HK3:=aC (HK2.o.below hb3);have HB3:=aC (bel HB2.o hb3);clear hb3;obtain⟨s3,t3,u3,v3⟩:=aF HR3.o;obtain⟨x3,y3,-,-⟩:=aF HK3.o))
 obtain⟨c0,c1,hB⟩:=aK HR3.o HB3.o (by omega) (0) (lN f-1)
 exact bodyPost_ret (v:=.tuple #[.agg #[.int .i64 (0),.int .i64 (lN f-1)],.bool true]) (by simp[results,Tryz.results72,go_sem,c0,c1]) rfl ⟨rfl,hB⟩
theorem aPe (f d:Int)(hm:May f d)(w:World) :
  Calls Tryz.prog 72 #[.agg #[.int .i64 f,.int .i64 d],.int .i64 2] w fun e w'=>e=.returned (nD f d 2)/\Below w.heap.size w w':=by
 have HB1:=aC ((aH w (.cells #[.int .i64 f,.int .i64 d] 23)).alloc (by simp) (.cells #[.int .i64 0,.int .i64 0] 81))
 have hR:aI ((w.alloc (.cells #[.int .i64 f,.int .i64 d] 23)).alloc (.cells #[.int .i64 0,.int .i64 0] 81)) (w.heap.size+1) 81 #[.int .i64 0,.int .i64 0]:=by
  have:=aI.new (w.alloc (.cells #[.int .i64 f,.int .i64 d] 23)) 81 #[.int .i64 0,.int .i64 0]
  rwa[World.size_alloc] at this
 have HR1:=aC hR
 have HK1:=aC ((aI.new w 23 #[.int .i64 f,.int .i64 d]).alloc (.cells #[.int .i64 0,.int .i64 0] 81))
 clear hR
 have e:nD f d 2=.tuple #[.agg #[.int .i64 (0),.int .i64 (3)],.bool true]:=by simp[nD,iH,hm]
 rw[e]
 clear e
 go_enter Tryz.func72,Tryz.ntmps72
 go_wp2_with (first
  | (go_at_call 64;refine(dN _ _ _ hm).mono ?_;rintro e w2 ⟨rfl,hb2⟩;have HR2:=aC (HR1.o.below hb2);have HK2:=aC (HK1.o.below hb2);have HB2:=aC (bel HB1.o hb2);clear hb2;obtain⟨s2,t2,u2,v2⟩:=aF HR2.o;obtain⟨x2,y2,-,-⟩:=aF HK2.o))
 obtain⟨c0,c1,hB⟩:=aK HR2.o HB2.o (by omega) (0) (3)
 exact bodyPost_ret (v:=.tuple #[.agg #[.int .i64 (0),.int .i64 (3)],.bool true]) (by simp[results,Tryz.results72,go_sem,c0,c1]) rfl ⟨rfl,hB⟩
theorem aPb (f d:Int)(hm:May f d)(w:World) :
  Calls Tryz.prog 72 #[.agg #[.int .i64 f,.int .i64 d],.int .i64 3] w fun e w'=>e=.returned (nD f d 3)/\Below w.heap.size w w':=by
 have HB1:=aC ((aH w (.cells #[.int .i64 f,.int .i64 d] 23)).alloc (by simp) (.cells #[.int .i64 0,.int .i64 0] 81))
 have hR:aI ((w.alloc (.cells #[.int .i64 f,.int .i64 d] 23)).alloc (.cells #[.int .i64 0,.int .i64 0] 81)) (w.heap.size+1) 81 #[.int .i64 0,.int .i64 0]:=by
  have:=aI.new (w.alloc (.cells #[.int .i64 f,.int .i64 d] 23)) 81 #[.int .i64 0,.int .i64 0]
  rwa[World.size_alloc] at this
 have HR1:=aC hR
 have HK1:=aC ((aI.new w 23 #[.int .i64 f,.int .i64 d]).alloc (.cells #[.int .i64 0,.int .i64 0] 81))
 clear hR
 have e:nD f d 3=.tuple #[.agg #[.int .i64 (dJ f d),.int .i64 (dJ f d)],.bool true]:=by simp[nD,iH,hm]
 rw[e]
 clear e
 go_enter Tryz.func72,Tryz.ntmps72
 go_wp2_with (first
  | (go_at_call 64;refine(dN _ _ _ hm).mono ?_;rintro e w2 ⟨rfl,hb2⟩;have HR2:=aC (HR1.o.below hb2);have HK2:=aC (HK1.o.below hb2);have HB2:=aC (bel HB1.o hb2);clear hb2;obtain⟨s2,t2,u2,v2⟩:=aF HR2.o;obtain⟨x2,y2,-,-⟩:=aF HK2.o)
  | (go_at_call 38;refine(yK _ _ _).mono ?_;rintro e w3 ⟨rfl,hb3⟩;have HR3:=aC (HR2.o.below hb3);have HK3:=aC (HK2.o.below hb3);have HB3:=aC (bel HB2.o hb3);clear hb3;obtain⟨s3,t3,u3,v3⟩:=aF HR3.o;obtain⟨x3,y3,-,-⟩:=aF HK3.o)
  | (go_at_call 103;refine(uP _ _).mono ?_;rintro e w4 ⟨rfl,hb4⟩;have HR4:=aC (HR3.o.below hb4);have HK4:=aC (HK3.o.below hb4);have HB4:=aC (bel HB3.o hb4);clear hb4;obtain⟨s4,t4,u4,v4⟩:=aF HR4.o;obtain⟨x4,y4,-,-⟩:=aF HK4.o))
 obtain⟨c0,c1,hB⟩:=aK HR4.o HB4.o (by omega) (dJ f d) (dJ f d)
 exact bodyPost_ret (v:=.tuple #[.agg #[.int .i64 (dJ f d),.int .i64 (dJ f d)],.bool true]) (by simp[results,Tryz.results72,go_sem,c0,c1]) rfl ⟨rfl,hB⟩
theorem aPh (f d:Int)(hm:May f d)(w:World) :
  Calls Tryz.prog 72 #[.agg #[.int .i64 f,.int .i64 d],.int .i64 4] w fun e w'=>e=.returned (nD f d 4)/\Below w.heap.size w w':=by
 have HB1:=aC ((aH w (.cells #[.int .i64 f,.int .i64 d] 23)).alloc (by simp) (.cells #[.int .i64 0,.int .i64 0] 81))
 have hR:aI ((w.alloc (.cells #[.int .i64 f,.int .i64 d] 23)).alloc (.cells #[.int .i64 0,.int .i64 0] 81)) (w.heap.size+1) 81 #[.int .i64 0,.int .i64 0]:=by
  have:=aI.new (w.alloc (.cells #[.int .i64 f,.int .i64 d] 23)) 81 #[.int .i64 0,.int .i64 0]
  rwa[World.size_alloc] at this
 have HR1:=aC hR
 have HK1:=aC ((aI.new w 23 #[.int .i64 f,.int .i64 d]).alloc (.cells #[.int .i64 0,.int .i64 0] 81))
 clear hR
 have e:nD f d 4=.tuple #[.agg #[.int .i64 (bK f d),.int .i64 (bK f d)],.bool true]:=by simp[nD,iH,hm]
 rw[e]
 clear e
 go_enter Tryz.func72,Tryz.ntmps72
 go_wp2_with (first
  | (go_at_call 64;refine(dN _ _ _ hm).mono ?_;rintro e w2 ⟨rfl,hb2⟩;have HR2:=aC (HR1.o.below hb2);have HK2:=aC (HK1.o.below hb2);have HB2:=aC (bel HB1.o hb2);clear hb2;obtain⟨s2,t2,u2,v2⟩:=aF HR2.o;obtain⟨x2,y2,-,-⟩:=aF HK2.o)
  | (go_at_call 39;refine(uL _ _ _).mono ?_;rintro e w3 ⟨rfl,hb3⟩;have HR3:=aC (HR2.o.below hb3);have HK3:=aC (HK2.o.below hb3);have HB3:=aC (bel HB2.o hb3);clear hb3;obtain⟨s3,t3,u3,v3⟩:=aF HR3.o;obtain⟨x3,y3,-,-⟩:=aF HK3.o)
  | (go_at_call 103;refine(uP _ _).mono ?_;rintro e w4 ⟨rfl,hb4⟩;have HR4:=aC (HR3.o.below hb4);have HK4:=aC (HK3.o.below hb4);have HB4:=aC (bel HB3.o hb4);clear hb4;obtain⟨s4,t4,u4,v4⟩:=aF HR4.o;obtain⟨x4,y4,-,-⟩:=aF HK4.o))
 obtain⟨c0,c1,hB⟩:=aK HR4.o HB4.o (by omega) (bK f d) (bK f d)
 exact bodyPost_ret (v:=.tuple #[.agg #[.int .i64 (bK f d),.int .i64 (bK f d)],.bool true]) (by simp[results,Tryz.results72,go_sem,c0,c1]) rfl ⟨rfl,hB⟩
theorem aPf (f d:Int)(hm:May f d)(w:World) :
  Calls Tryz.prog 72 #[.agg #[.int .i64 f,.int .i64 d],.int .i64 5] w fun e w'=>e=.returned (nD f d 5)/\Below w.heap.size w w':=by
 have HB1:=aC ((aH w (.cells #[.int .i64 f,.int .i64 d] 23)).alloc (by simp) (.cells #[.int .i64 0,.int .i64 0] 81))
 have hR:aI ((w.alloc (.cells #[.int .i64 f,.int .i64 d] 23)).alloc (.cells #[.int .i64 0,.int .i64 0] 81)) (w.heap.size+1) 81 #[.int .i64 0,.int .i64 0]:=by
  have:=aI.new (w.alloc (.cells #[.int .i64 f,.int .i64 d] 23)) 81 #[.int .i64 0,.int .i64 0]
  rwa[World.size_alloc] at this
 have HR1:=aC hR
 have HK1:=aC ((aI.new w 23 #[.int .i64 f,.int .i64 d]).alloc (.cells #[.int .i64 0,.int .i64 0] 81))
 clear hR
 have e:nD f d 5=.tuple #[.agg #[.int .i64 (aV f d),.int .i64 (aV f d)],.bool true]:=by simp[nD,iH,hm]
 rw[e]
 clear e
 go_enter Tryz.func72,Tryz.ntmps72
 go_wp2_with (first
  | (go_at_call 64;refine(dN _ _ _ hm).mono ?_;rintro e w2 ⟨rfl,hb2⟩;have HR2:=aC (HR1.o.below hb2);have HK2:=aC (HK1.o.below hb2);have HB2:=aC (bel HB1.o hb2);clear hb2;obtain⟨s2,t2,u2,v2⟩:=aF HR2.o;obtain⟨x2,y2,-,-⟩:=aF HK2.o)
  | (go_at_call 98;refine(uQ _ _ _).mono ?_;rintro e w3 ⟨rfl,hb3⟩;have HR3:=aC (HR2.o.below hb3);have HK3:=aC (HK2.o.below hb3);have HB3:=aC (bel HB2.o hb3);clear hb3;obtain⟨s3,t3,u3,v3⟩:=aF HR3.o;obtain⟨x3,y3,-,-⟩:=aF HK3.o)
  | (go_at_call 103;refine(uP _ _).mono ?_;rintro e w4 ⟨rfl,hb4⟩;have HR4:=aC (HR3.o.below hb4);have HK4:=aC (HK3.o.below hb4);have HB4:=aC (bel HB3.o hb4);clear hb4;obtain⟨s4,t4,u4,v4⟩:=aF HR4.o;obtain⟨x4,y4,-,-⟩:=aF HK4.o))
 obtain⟨c0,c1,hB⟩:=aK HR4.o HB4.o (by omega) (aV f d) (aV f d)
 exact bodyPost_ret (v:=.tuple #[.agg #[.int .i64 (aV f d),.int .i64 (aV f d)],.bool true]) (by simp[results,Tryz.results72,go_sem,c0,c1]) rfl ⟨rfl,hB⟩
theorem aO5 (f d n:Int)(hm:May f d)(h0:n≠0)(h1:n≠1)(h2:n≠2)(h3:n≠3)(h4:n≠4)(h5:n≠5)(w:World) :
  Calls Tryz.prog 72 #[.agg #[.int .i64 f,.int .i64 d],.int .i64 n] w fun e w'=>e=.returned (nD f d n)/\Below w.heap.size w w':=by
 have HB1:=aC ((aH w (.cells #[.int .i64 f,.int .i64 d] 23)).alloc (by simp) (.cells #[.int .i64 0,.int .i64 0] 81))
 have hR:aI ((w.alloc (.cells #[.int .i64 f,.int .i64 d] 23)).alloc (.cells #[.int .i64 0,.int .i64 0] 81)) (w.heap.size+1) 81 #[.int .i64 0,.int .i64 0]:=by
  have:=aI.new (w.alloc (.cells #[.int .i64 f,.int .i64 d] 23)) 81 #[.int .i64 0,.int .i64 0]
  rwa[World.size_alloc] at this
 have HR1:=aC hR
 have HK1:=aC ((aI.new w 23 #[.int .i64 f,.int .i64 d]).alloc (.cells #[.int .i64 0,.int .i64 0] 81))
 clear hR
 have e:nD f d n=.tuple #[.agg #[.int .i64 (0),.int .i64 (0)],.bool false]:=by simp[nD,iH,hm,h0,h1,h2,h3,h4,h5]
 rw[e]
 clear e
 go_enter Tryz.func72,Tryz.ntmps72
 go_wp2_with (first
  | (go_at_call 64;refine(dN _ _ _ hm).mono ?_;rintro e w2 ⟨rfl,hb2⟩;have HR2:=aC (HR1.o.below hb2);have HK2:=aC (HK1.o.below hb2);have HB2:=aC (bel HB1.o hb2);clear hb2;obtain⟨s2,t2,u2,v2⟩:=aF HR2.o;obtain⟨x2,y2,-,-⟩:=aF HK2.o))
 obtain⟨c0,c1,hB⟩:=aK HR2.o HB2.o (by omega) (0) (0)
 exact bodyPost_ret (v:=.tuple #[.agg #[.int .i64 (0),.int .i64 (0)],.bool false]) (by simp[results,Tryz.results72,go_sem,c0,c1]) rfl ⟨rfl,hB⟩
theorem aFv (f d n:Int)(w:World) :
  Calls Tryz.prog 72 #[.agg #[.int .i64 f,.int .i64 d],.int .i64 n] w fun e w'=>e=.returned (nD f d n)/\Below w.heap.size w w':=by
 by_cases hm:May f d
 ·by_cases h0:n=0
  ·subst h0;exact aQh f d hm w
  by_cases h1:n=1
  ·subst h1;exact aPm f d hm w
  by_cases h2:n=2
  ·subst h2;exact aPe f d hm w
  by_cases h3:n=3
  ·subst h3;exact aPb f d hm w
  by_cases h4:n=4
  ·subst h4;exact aPh f d hm w
  by_cases h5:n=5
  ·subst h5;exact aPf f d hm w
  exact aO5 f d n hm h0 h1 h2 h3 h4 h5 w
 ·exact aHm f d n hm w
end Go.Proofs.Knd
namespace Go.Proofs.Knd
open Go.RowKit
variable {w:World} {a:Option Addr} {cap n:Nat} {xs:List Int}
theorem info3:(Tryz.prog.info? 3).map (fun i=>(i.zero,i.size,i.bytes))=some (some (.int .i64 0),1,8):=by kernel_rfl
abbrev bY (xs:List Int):List Value:=xs.map (Value.int .i64)
structure Ints (w:World)(a:Option Addr)(n cap:Nat)(xs:List Int):Prop where
 len:xs.length=n
 le:n<=cap
 max:cap<=maxLen
 nil:a=none->cap=0
 cell:n=0\/∃ b off,a=some ⟨b,off,none⟩/\∀ i,i < n->w.cell? ⟨b,off+i,none⟩=some (.int .i64 (xs.getD i 0))
theorem Ints.at (h:Ints w a n cap xs)(hn:n≠0) :
  ∃ b off,a=some ⟨b,off,none⟩/\b < w.heap.size/\∀ i,i < n->w.cell? ⟨b,off+i,none⟩=some (.int .i64 (xs.getD i 0)):=by
 rcases h.cell with h0|⟨b,off,ha,hc⟩
 ·exact absurd h0 hn
 ·exact⟨b,off,ha,World.block_lt_of_cell? w _ (hc 0 (by omega)),hc⟩
theorem Ints.of_cells {w':World}(h:Ints w a n cap xs)
  (hc:∀ b off,a=some ⟨b,off,none⟩->n≠0->∀ i,i < n->w'.cell? ⟨b,off+i,none⟩=w.cell? ⟨b,off+i,none⟩):Ints w' a n cap xs:=by
 refine⟨h.len,h.le,h.max,h.nil,?_⟩
 by_cases hn:n=0
 ·exact .inl hn
 ·obtain⟨b,off,ha,_,hcell⟩:=h.at hn
  exact .inr ⟨b,off,ha,fun i hi=>(hc b off ha hn i hi).trans (hcell i hi)⟩
theorem Ints.later {w':World}(h:Ints w a n cap xs)(hb:Below w.heap.size w w'):Ints w' a n cap xs:=by
 refine h.of_cells fun b off ha hn i hi=>?_
 obtain⟨b',off',ha',hlt,_⟩:=h.at hn
 rw[ha] at ha'
 cases ha'
 exact hb.cell (p:=⟨b,off+i,none⟩) hlt
theorem Ints.of_owns {base:Nat}{v:Value}(h:w.ownsRow base 3 1 v n (bY xs)) :
  ∃ a cap,v=.slice a n cap/\Ints w a n cap xs/\(∀ x,a=some x->base<=x.block/\x.block < w.heap.size):=by
 have hl:xs.length=n:=by simpa using h.1
 have hlt:=h.lt
 have hcs:=fun g hg=>h.cells (g:=g) hg
 rcases h.2 with⟨rfl,rfl⟩|⟨g,cap,cur,rfl,hb,hg,hnc,hcm,hsz,htake⟩
 ·exact⟨none,0,rfl,⟨hl,Nat.le_refl _,Nat.zero_le _,fun _=>rfl,.inl rfl⟩,fun x hx=>by cases hx⟩
 ·refine⟨some ⟨g,0,none⟩,cap,rfl,⟨hl,hnc,hcm,(fun h=>by cases h),.inr ⟨g,0,rfl,fun i hi=>?_⟩⟩,fun x hx=>by cases hx;exact hlt g rfl⟩
  have:=hcs g rfl i (.int .i64 (xs.getD i 0)) (by simp[List.getD,hl,hi])
  rw[Addr.add_lit] at this
  exact this
theorem Ints.news (h:Ints w a n cap xs):∀ ad,a=some ad->∀ j u,(bY xs)[j]?=some u->w.cell? (ad.add j)=some u:=by
 intro ad ha j u hu
 have hj:j < n:=by
  have:=(List.getElem?_eq_some_iff.1 hu).1
  simpa [h.len] using this
 obtain⟨b,off,ha',_,hc⟩:=h.at (by omega)
 rw[ha] at ha'
 cases ha'
 rw[Addr.add_lit,hc j hj]
 have hl:=h.len
 simp only[bY,List.getElem?_map] at hu
 rw[List.getElem?_eq_getElem (by omega)] at hu
 simp only[Option.map_some,Option.some.injEq] at hu
 rw[<-hu]
 simp[List.getD,hl,hj]
end Go.Proofs.Knd
namespace Go.Proofs.Knd
open Go.RowKit Go.Sort
def aOq (f d i n:Int):Prop:=∃ lo hi,iH f d i=some (lo,hi)/\lo<=n/\n<=hi
def Fit (f d x y c:Int)(zs:List Int):Prop :=
 ((aOq f d 0 x/\aOq f d 1 y)/\aOq f d 2 c)/\(zs.length:Int)=eG f d/\∀ z ∈ zs,dJ f d<=z/\z<=bK f d
end Go.Proofs.Knd
namespace Go.Proofs.Knd
open Go.RowKit
theorem gW (f d:Int)(w:World)(h:May f d) :
  Calls Tryz.prog 78 #[.agg #[.int .i64 f,.int .i64 d]] w fun e w'=>e=.returned (.bool true)/\Below w.heap.size w w':=by
 have hb:=aH w (.cells #[.int .i64 f,.int .i64 d] 23)
 obtain⟨hf,h1,h2⟩:=h
 rcases hf with rfl|rfl
 ·go_enter Tryz.func78,Tryz.ntmps78
  go_wp2
  go_ret
  exact⟨rfl,hb⟩
 ·go_enter Tryz.func78,Tryz.ntmps78
  go_wp2
  go_ret
  exact⟨rfl,hb⟩
theorem lY (f d:Int)(w:World)(h:¬May f d) :
  Calls Tryz.prog 78 #[.agg #[.int .i64 f,.int .i64 d]] w fun e w'=>e=.returned (.bool false)/\Below w.heap.size w w':=by
 have hb:=aH w (.cells #[.int .i64 f,.int .i64 d] 23)
 by_cases h1:f=0
 ·subst h1
  by_cases h2:d < 1
  ·have h3:decide (1<=d)=false:=by simp;omega
   go_enter Tryz.func78,Tryz.ntmps78
   go_wp2
   go_ret
   exact⟨rfl,hb⟩
  ·have h3:1<=d:=by omega
   have h4:decide (d<=16)=false:=by unfold May at h;simp;omega
   go_enter Tryz.func78,Tryz.ntmps78
   go_wp2
   go_ret
   exact⟨rfl,hb⟩
 ·have h5:(f==0)=false:=by simp[h1]
  by_cases h4:f=1
  ·subst h4
   by_cases h2:d < 1
   ·have h3:decide (1<=d)=false:=by simp;omega
    go_enter Tryz.func78,Tryz.ntmps78
    go_wp2
    go_ret
    exact⟨rfl,hb⟩
   ·have h3:1<=d:=by omega
    have h4:decide (d<=16)=false:=by unfold May at h;simp;omega
    go_enter Tryz.func78,Tryz.ntmps78
    go_wp2
    go_ret
    exact⟨rfl,hb⟩
  ·have h6:(f==1)=false:=by simp[h4]
   go_enter Tryz.func78,Tryz.ntmps78
   go_wp2
   go_ret
   exact⟨rfl,hb⟩
theorem oN (n:Int)(w:World)(h0:0<=n)(h1:n<=16) :
  Calls Tryz.prog 85 #[.int .i64 n] w fun e w'=>e=.returned (.int .i64 (pw n))/\w'=w:=by
 go_enter Tryz.func85,Tryz.ntmps85
 go_wp2
 go_loop [3,4] (fun x i=>∃ k X:Int,0<=k/\k<=n/\i=.int .i64 k/\1<=X/\X<=65536/\x=.int .i64 X/\Hid (X=pw k)) (fun _ i=>(n-intOf i).toNat)
 case atStart=>exact⟨0,1,by omega,h0,rfl,by omega,by omega,rfl,rfl⟩
 case round =>
  obtain⟨k,X,hk0,hk1,rfl,hX0,hX1,rfl,HX⟩:=hrel
  by_cases hlt:k < n
  ·have hs:=aD4 k hk0
   have hl:=iW (k+1) (by omega)
   rw[<-HX.o] at hs
   rw[hs] at hl
   have HS:=aC hs
   clear hs
   go_wp2
   go_round
   case rel=>exact⟨k+1,2*X,by omega,by omega,rfl,hl.1,hl.2,by go_num,HS.o.symm⟩
   case measure=>simp[intOf];omega
  ·obtain rfl:k=n:=by omega
   go_wp2
   go_ret
   exact⟨aN HX.o,rfl⟩
theorem qM (f d:Int)(w:World) :
  Calls Tryz.prog 51 #[.agg #[.int .i64 f,.int .i64 d]] w fun e w'=>e=.returned (.int .i64 (dJ f d))/\Below w.heap.size w w':=by
 rcases nA f d with⟨hm,rfl⟩|⟨hm,rfl⟩|hm
 ·rw[(zs0 hm).1]
  have hb:=aH w (.cells #[.int .i64 0,.int .i64 d] 23)
  obtain⟨hd1,hd2⟩:1<=d/\d<=16:=hm.2
  go_enter Tryz.func51,Tryz.ntmps51
  go_wp2_with (go_at_call 78;refine(gW _ _ _ hm).mono ?_;rintro e w2 ⟨rfl,hb2⟩;obtain⟨hc2,hf2⟩:=fM hb2)
  go_ret
  exact⟨rfl,bel hb hb2⟩
 ·rw[(zs1 hm).1]
  have hb:=aH w (.cells #[.int .i64 1,.int .i64 d] 23)
  obtain⟨hd1,hd2⟩:1<=d/\d<=16:=hm.2
  obtain⟨p1,p2⟩:=iW (d-1) (by omega)
  go_enter Tryz.func51,Tryz.ntmps51
  go_wp2_with (first|(go_at_call 78;refine(gW _ _ _ hm).mono ?_;rintro e w2 ⟨rfl,hb2⟩;obtain⟨hc2,hf2⟩:=fM hb2)|(go_at_call 85;refine(oN (d-1) _ (by omega) (by omega)).mono ?_;rintro e w3 ⟨rfl,rfl⟩))
  go_ret
  exact⟨rfl,bel hb hb2⟩
 ·rw[(zs2 hm).1]
  have hb:=aH w (.cells #[.int .i64 f,.int .i64 d] 23)
  go_enter Tryz.func51,Tryz.ntmps51
  go_wp2_with (go_at_call 78;refine(lY _ _ _ hm).mono ?_;rintro e w2 ⟨rfl,hb2⟩;obtain⟨hc2,hf2⟩:=fM hb2)
  go_ret
  exact⟨rfl,bel hb hb2⟩
theorem oK (f d:Int)(w:World) :
  Calls Tryz.prog 52 #[.agg #[.int .i64 f,.int .i64 d]] w fun e w'=>e=.returned (.int .i64 (bK f d))/\Below w.heap.size w w':=by
 rcases nA f d with⟨hm,rfl⟩|⟨hm,rfl⟩|hm
 ·rw[(zs0 hm).2.1]
  have hb:=aH w (.cells #[.int .i64 0,.int .i64 d] 23)
  obtain⟨hd1,hd2⟩:1<=d/\d<=16:=hm.2
  obtain⟨p1,p2⟩:=iW (d) (by omega)
  go_enter Tryz.func52,Tryz.ntmps52
  go_wp2_with (first|(go_at_call 78;refine(gW _ _ _ hm).mono ?_;rintro e w2 ⟨rfl,hb2⟩;obtain⟨hc2,hf2⟩:=fM hb2)|(go_at_call 85;refine(oN (d) _ (by omega) (by omega)).mono ?_;rintro e w3 ⟨rfl,rfl⟩))
  go_ret
  exact⟨aN (by rw[aNg d hd1]),bel hb hb2⟩
 ·rw[(zs1 hm).2.1]
  have hb:=aH w (.cells #[.int .i64 1,.int .i64 d] 23)
  obtain⟨hd1,hd2⟩:1<=d/\d<=16:=hm.2
  obtain⟨p1,p2⟩:=iW (d-1) (by omega)
  go_enter Tryz.func52,Tryz.ntmps52
  go_wp2_with (first|(go_at_call 78;refine(gW _ _ _ hm).mono ?_;rintro e w2 ⟨rfl,hb2⟩;obtain⟨hc2,hf2⟩:=fM hb2)|(go_at_call 85;refine(oN (d-1) _ (by omega) (by omega)).mono ?_;rintro e w3 ⟨rfl,rfl⟩))
  go_ret
  exact⟨rfl,bel hb hb2⟩
 ·rw[(zs2 hm).2.1]
  have hb:=aH w (.cells #[.int .i64 f,.int .i64 d] 23)
  go_enter Tryz.func52,Tryz.ntmps52
  go_wp2_with (go_at_call 78;refine(lY _ _ _ hm).mono ?_;rintro e w2 ⟨rfl,hb2⟩;obtain⟨hc2,hf2⟩:=fM hb2)
  go_ret
  exact⟨rfl,bel hb hb2⟩
theorem oG (f d:Int)(w:World) :
  Calls Tryz.prog 53 #[.agg #[.int .i64 f,.int .i64 d]] w fun e w'=>e=.returned (.int .i64 (aV f d))/\Below w.heap.size w w':=by
 rcases nA f d with⟨hm,rfl⟩|⟨hm,rfl⟩|hm
 ·rw[(zs0 hm).2.2.1]
  have hb:=aH w (.cells #[.int .i64 0,.int .i64 d] 23)
  obtain⟨hd1,hd2⟩:1<=d/\d<=16:=hm.2
  obtain⟨p1,p2⟩:=iW (d-1) (by omega)
  go_enter Tryz.func53,Tryz.ntmps53
  go_wp2_with (first|(go_at_call 78;refine(gW _ _ _ hm).mono ?_;rintro e w2 ⟨rfl,hb2⟩;obtain⟨hc2,hf2⟩:=fM hb2)|(go_at_call 85;refine(oN (d-1) _ (by omega) (by omega)).mono ?_;rintro e w3 ⟨rfl,rfl⟩))
  go_ret
  exact⟨rfl,bel hb hb2⟩
 ·rw[(zs1 hm).2.2.1]
  have hb:=aH w (.cells #[.int .i64 1,.int .i64 d] 23)
  obtain⟨hd1,hd2⟩:1<=d/\d<=16:=hm.2
  go_enter Tryz.func53,Tryz.ntmps53
  go_wp2_with (go_at_call 78;refine(gW _ _ _ hm).mono ?_;rintro e w2 ⟨rfl,hb2⟩;obtain⟨hc2,hf2⟩:=fM hb2)
  go_ret
  exact⟨rfl,bel hb hb2⟩
 ·rw[(zs2 hm).2.2.1]
  have hb:=aH w (.cells #[.int .i64 f,.int .i64 d] 23)
  go_enter Tryz.func53,Tryz.ntmps53
  go_wp2_with (go_at_call 78;refine(lY _ _ _ hm).mono ?_;rintro e w2 ⟨rfl,hb2⟩;obtain⟨hc2,hf2⟩:=fM hb2)
  go_ret
  exact⟨rfl,bel hb hb2⟩
theorem aCw (f d:Int)(w:World) :
  Calls Tryz.prog 45 #[.agg #[.int .i64 f,.int .i64 d]] w fun e w'=>e=.returned (.int .i64 (eG f d))/\Below w.heap.size w w':=by
 rcases nA f d with⟨hm,rfl⟩|⟨hm,rfl⟩|hm
 ·rw[(zs0 hm).2.2.2]
  have hb:=aH w (.cells #[.int .i64 0,.int .i64 d] 23)
  obtain⟨hd1,hd2⟩:1<=d/\d<=16:=hm.2
  go_enter Tryz.func45,Tryz.ntmps45
  go_wp2_with (go_at_call 78;refine(gW _ _ _ hm).mono ?_;rintro e w2 ⟨rfl,hb2⟩;obtain⟨hc2,hf2⟩:=fM hb2)
  go_ret
  exact⟨rfl,bel hb hb2⟩
 ·rw[(zs1 hm).2.2.2]
  have hb:=aH w (.cells #[.int .i64 1,.int .i64 d] 23)
  obtain⟨hd1,hd2⟩:1<=d/\d<=16:=hm.2
  go_enter Tryz.func45,Tryz.ntmps45
  go_wp2_with (go_at_call 78;refine(gW _ _ _ hm).mono ?_;rintro e w2 ⟨rfl,hb2⟩;obtain⟨hc2,hf2⟩:=fM hb2)
  go_ret
  exact⟨rfl,bel hb hb2⟩
 ·rw[(zs2 hm).2.2.2]
  have hb:=aH w (.cells #[.int .i64 f,.int .i64 d] 23)
  go_enter Tryz.func45,Tryz.ntmps45
  go_wp2_with (go_at_call 78;refine(lY _ _ _ hm).mono ?_;rintro e w2 ⟨rfl,hb2⟩;obtain⟨hc2,hf2⟩:=fM hb2)
  go_ret
  exact⟨rfl,bel hb hb2⟩
end Go.Proofs.Knd
