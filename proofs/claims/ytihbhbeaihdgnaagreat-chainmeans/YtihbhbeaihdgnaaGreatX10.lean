import Derived.Test.YtihbhbeaihdgnaaGreatXH
import Derived.Test.YtihbhbeaihdgnaaGreatChecked
import Derived.WalkKit
import Derived.WalkSpells
import Derived.Laws.AppendOwn
import Derived.Laws.OwnMore
import Derived.OwnWalk
set_option maxRecDepth 100000
set_option maxHeartbeats 32000000
set_option linter.unusedVariables false
namespace Go.Proofs.Knd
open Go.RowKit Go.IntWalk
theorem aA {p:Prop}(h:p):Hid p:=h
theorem jF {W w1:World}(hb:Below W.heap.size W w1):(∀ b o,b < W.heap.size->w1.cell? ⟨b,o,none⟩=W.cell? ⟨b,o,none⟩)/\(∀ b o,b < W.heap.size->w1.frozen? ⟨b,o,none⟩=W.frozen? ⟨b,o,none⟩) :=
 ⟨fun b o h=>hb.cell (p:=⟨b,o,none⟩) h,fun b o h=>hb.frozen (p:=⟨b,o,none⟩) h⟩
theorem bel {w w1 w2:World}(h:Below w.heap.size w w1)(k:Below w1.heap.size w1 w2):Below w.heap.size w w2:=h.trans (k.mono h.size)
theorem aC (w:World)(o:Obj):Below w.heap.size w (w.alloc o):=(Below.refl _ _).alloc (Nat.le_refl _) _
theorem aN {k:IntKind}{a b:Int}(h:a=b):Ending.returned (.int k a)=.returned (.int k b):=by rw[h]
def May (f d:Int):Prop:=(f=0\/f=1)/\1<=d/\d<=16
instance (f d : Int) : Decidable (May f d) := by unfold May; infer_instance
theorem kQ (f d:Int):(May f d/\f=0)\/(May f d/\f=1)\/¬May f d:=by
 by_cases h:May f d
 ·rcases h.1 with h0|h0
  ·exact .inl ⟨h,h0⟩
  ·exact .inr (.inl ⟨h,h0⟩)
 ·exact .inr (.inr h)
def pw (n:Int):Int:=2 ^ n.toNat
theorem kU (n:Int)(h:n<=16):1<=pw n/\pw n<=65536:=by
 unfold pw
 have h1:n.toNat<=16:=by omega
 have h2:2 ^ n.toNat<=2 ^ 16:=Nat.pow_le_pow_right (by decide) h1
 have h3:0 < 2 ^ n.toNat:=Nat.pow_pos (by decide)
 have e:((2:Int) ^ n.toNat)=((2 ^ n.toNat:Nat):Int):=by simp
 rw[e]
 omega
def dR (f d:Int):Int:=if May f d/\f=1 then -pw (d-1) else 0
def bH (f d:Int):Int:=if May f d then(if f=0 then 2*pw (d-1)-1 else pw (d-1)-1) else 0
def aW (f d:Int):Int:=if May f d/\f=0 then pw (d-1) else 0
def bL (f d:Int):Int:=if May f d then(if f=0 then 44 else 31) else 0
theorem zs0 {d:Int}(h:May 0 d):dR 0 d=0/\bH 0 d=2*pw (d-1)-1/\aW 0 d=pw (d-1)/\bL 0 d=44:=by
 simp[dR,bH,aW,bL,h]
theorem zs1 {d:Int}(h:May 1 d):dR 1 d=-pw (d-1)/\bH 1 d=pw (d-1)-1/\aW 1 d=0/\bL 1 d=31:=by
 simp[dR,bH,aW,bL,h]
theorem zs2 {f d:Int}(h:¬May f d):dR f d=0/\bH f d=0/\aW f d=0/\bL f d=0:=by
 simp[dR,bH,aW,bL,h]
theorem bP (f d:Int)(w:World)(h:May f d) :
  Calls Tryz.prog 101 #[.agg #[.int .i64 f,.int .i64 d]] w fun e w'=>e=.returned (.int .i64 0)/\Below w.heap.size w w':=by
 obtain⟨hf,h1,h2⟩:=h
 have hb:Below w.heap.size w (w.alloc (.cells #[.int .i64 f,.int .i64 d] 23)):=(Below.refl _ _).alloc (Nat.le_refl _) _
 rcases hf with rfl|rfl
 ·go_enter Tryz.func101,Tryz.ntmps101
  go_wp2
  go_ret
  exact⟨rfl,hb⟩
 ·go_enter Tryz.func101,Tryz.ntmps101
  go_wp2
  go_ret
  exact⟨rfl,hb⟩
theorem gT (f d:Int)(w:World)(h:¬May f d) :
  Calls Tryz.prog 101 #[.agg #[.int .i64 f,.int .i64 d]] w fun e w'=>e=.returned (.int .i64 1)/\Below w.heap.size w w':=by
 have hb:Below w.heap.size w (w.alloc (.cells #[.int .i64 f,.int .i64 d] 23)):=(Below.refl _ _).alloc (Nat.le_refl _) _
 by_cases h1:f=0
 ·subst h1
  by_cases h2:d < 1
  ·go_enter Tryz.func101,Tryz.ntmps101
   go_wp2
   go_ret
   exact⟨rfl,hb⟩
  ·have h3:16 < d:=by unfold May at h;omega
   go_enter Tryz.func101,Tryz.ntmps101
   go_wp2
   go_ret
   exact⟨rfl,hb⟩
 ·by_cases h4:f=1
  ·subst h4
   by_cases h2:d < 1
   ·go_enter Tryz.func101,Tryz.ntmps101
    go_wp2
    go_ret
    exact⟨rfl,hb⟩
   ·have h3:16 < d:=by unfold May at h;omega
    go_enter Tryz.func101,Tryz.ntmps101
    go_wp2
    go_ret
    exact⟨rfl,hb⟩
  ·have h5:(f != 0)=true:=by simp[h1]
   have h6:(f != 1)=true:=by simp[h4]
   go_enter Tryz.func101,Tryz.ntmps101
   go_wp2
   go_ret
   exact⟨rfl,hb⟩
theorem sF (f d:Int)(w:World)(h:May f d) :
  Calls Tryz.prog 102 #[.agg #[.int .i64 f,.int .i64 d]] w fun e w'=>e=.returned (.int .i64 (pw (d-1)))/\Below w.heap.size w w':=by
 obtain⟨hf,h1,h2⟩:=h
 have HP:=aA (kU (d-1) (by omega))
 go_enter Tryz.func102,Tryz.ntmps102
 go_wp2
 go_ret
 refine⟨aN ?_,aC _ _⟩
 have:=HP.o
 unfold pw at this ⊢
 rw[show (d-1).toNat=d.toNat-1 by omega] at this ⊢
 exact wrap64_in _ ⟨by omega,by omega⟩
theorem nL (f d:Int)(w:World) :
  Calls Tryz.prog 57 #[.agg #[.int .i64 f,.int .i64 d]] w fun e w'=>e=.returned (.int .i64 (dR f d))/\Below w.heap.size w w':=by
 rcases kQ f d with⟨hm,rfl⟩|⟨hm,rfl⟩|hm
 ·rw[(zs0 hm).1]
  have hb:=aC w (.cells #[.int .i64 0,.int .i64 d] 23)
  go_enter Tryz.func57,Tryz.ntmps57
  go_wp2_with (go_at_call 101;refine(bP _ _ _ hm).mono ?_;rintro e w2 ⟨rfl,hb2⟩;obtain⟨hc2,hf2⟩:=jF hb2)
  go_ret
  exact⟨rfl,bel hb hb2⟩
 ·rw[(zs1 hm).1]
  have hb:=aC w (.cells #[.int .i64 1,.int .i64 d] 23)
  obtain⟨p1,p2⟩:=kU (d-1) (by unfold May at hm;omega)
  go_enter Tryz.func57,Tryz.ntmps57
  go_wp2_with (first|(go_at_call 101;refine(bP _ _ _ hm).mono ?_;rintro e w2 ⟨rfl,hb2⟩;obtain⟨hc2,hf2⟩:=jF hb2)|(go_at_call 102;refine(sF _ _ _ hm).mono ?_;rintro e w3 ⟨rfl,hb3⟩))
  go_ret
  exact⟨rfl,bel (bel hb hb2) hb3⟩
 ·rw[(zs2 hm).1]
  have hb:=aC w (.cells #[.int .i64 f,.int .i64 d] 23)
  go_enter Tryz.func57,Tryz.ntmps57
  go_wp2_with (go_at_call 101;refine(gT _ _ _ hm).mono ?_;rintro e w2 ⟨rfl,hb2⟩;obtain⟨hc2,hf2⟩:=jF hb2)
  go_ret
  exact⟨rfl,bel hb hb2⟩
theorem kN (f d:Int)(w:World) :
  Calls Tryz.prog 58 #[.agg #[.int .i64 f,.int .i64 d]] w fun e w'=>e=.returned (.int .i64 (bH f d))/\Below w.heap.size w w':=by
 rcases kQ f d with⟨hm,rfl⟩|⟨hm,rfl⟩|hm
 ·rw[(zs0 hm).2.1]
  have hb:=aC w (.cells #[.int .i64 0,.int .i64 d] 23)
  obtain⟨p1,p2⟩:=kU (d-1) (by unfold May at hm;omega)
  go_enter Tryz.func58,Tryz.ntmps58
  go_wp2_with (first|(go_at_call 101;refine(bP _ _ _ hm).mono ?_;rintro e w2 ⟨rfl,hb2⟩;obtain⟨hc2,hf2⟩:=jF hb2)|(go_at_call 102;refine(sF _ _ _ hm).mono ?_;rintro e w3 ⟨rfl,hb3⟩))
  go_ret
  exact⟨rfl,bel (bel hb hb2) hb3⟩
 ·rw[(zs1 hm).2.1]
  have hb:=aC w (.cells #[.int .i64 1,.int .i64 d] 23)
  obtain⟨p1,p2⟩:=kU (d-1) (by unfold May at hm;omega)
  go_enter Tryz.func58,Tryz.ntmps58
  go_wp2_with (first|(go_at_call 101;refine(bP _ _ _ hm).mono ?_;rintro e w2 ⟨rfl,hb2⟩;obtain⟨hc2,hf2⟩:=jF hb2)|(go_at_call 102;refine(sF _ _ _ hm).mono ?_;rintro e w3 ⟨rfl,hb3⟩))
  go_ret
  exact⟨rfl,bel (bel hb hb2) hb3⟩
 ·rw[(zs2 hm).2.1]
  have hb:=aC w (.cells #[.int .i64 f,.int .i64 d] 23)
  go_enter Tryz.func58,Tryz.ntmps58
  go_wp2_with (go_at_call 101;refine(gT _ _ _ hm).mono ?_;rintro e w2 ⟨rfl,hb2⟩;obtain⟨hc2,hf2⟩:=jF hb2)
  go_ret
  exact⟨rfl,bel hb hb2⟩
theorem nA (f d:Int)(w:World) :
  Calls Tryz.prog 84 #[.agg #[.int .i64 f,.int .i64 d]] w fun e w'=>e=.returned (.int .i64 (aW f d))/\Below w.heap.size w w':=by
 rcases kQ f d with⟨hm,rfl⟩|⟨hm,rfl⟩|hm
 ·rw[(zs0 hm).2.2.1]
  have hb:=aC w (.cells #[.int .i64 0,.int .i64 d] 23)
  obtain⟨p1,p2⟩:=kU (d-1) (by unfold May at hm;omega)
  go_enter Tryz.func84,Tryz.ntmps84
  go_wp2_with (first|(go_at_call 101;refine(bP _ _ _ hm).mono ?_;rintro e w2 ⟨rfl,hb2⟩;obtain⟨hc2,hf2⟩:=jF hb2)|(go_at_call 102;refine(sF _ _ _ hm).mono ?_;rintro e w3 ⟨rfl,hb3⟩))
  go_ret
  exact⟨rfl,bel (bel hb hb2) hb3⟩
 ·rw[(zs1 hm).2.2.1]
  have hb:=aC w (.cells #[.int .i64 1,.int .i64 d] 23)
  go_enter Tryz.func84,Tryz.ntmps84
  go_wp2_with (go_at_call 101;refine(bP _ _ _ hm).mono ?_;rintro e w2 ⟨rfl,hb2⟩;obtain⟨hc2,hf2⟩:=jF hb2)
  go_ret
  exact⟨rfl,bel hb hb2⟩
 ·rw[(zs2 hm).2.2.1]
  have hb:=aC w (.cells #[.int .i64 f,.int .i64 d] 23)
  go_enter Tryz.func84,Tryz.ntmps84
  go_wp2_with (go_at_call 101;refine(gT _ _ _ hm).mono ?_;rintro e w2 ⟨rfl,hb2⟩;obtain⟨hc2,hf2⟩:=jF hb2)
  go_ret
  exact⟨rfl,bel hb hb2⟩
theorem pF (f d:Int)(w:World) :
  Calls Tryz.prog 56 #[.agg #[.int .i64 f,.int .i64 d]] w fun e w'=>e=.returned (.int .i64 (bL f d))/\Below w.heap.size w w':=by
 rcases kQ f d with⟨hm,rfl⟩|⟨hm,rfl⟩|hm
 ·rw[(zs0 hm).2.2.2]
  have hb:=aC w (.cells #[.int .i64 0,.int .i64 d] 23)
  go_enter Tryz.func56,Tryz.ntmps56
  go_wp2_with (go_at_call 101;refine(bP _ _ _ hm).mono ?_;rintro e w2 ⟨rfl,hb2⟩;obtain⟨hc2,hf2⟩:=jF hb2)
  go_ret
  exact⟨rfl,bel hb hb2⟩
 ·rw[(zs1 hm).2.2.2]
  have hb:=aC w (.cells #[.int .i64 1,.int .i64 d] 23)
  go_enter Tryz.func56,Tryz.ntmps56
  go_wp2_with (go_at_call 101;refine(bP _ _ _ hm).mono ?_;rintro e w2 ⟨rfl,hb2⟩;obtain⟨hc2,hf2⟩:=jF hb2)
  go_ret
  exact⟨rfl,bel hb hb2⟩
 ·rw[(zs2 hm).2.2.2]
  have hb:=aC w (.cells #[.int .i64 f,.int .i64 d] 23)
  go_enter Tryz.func56,Tryz.ntmps56
  go_wp2_with (go_at_call 101;refine(gT _ _ _ hm).mono ?_;rintro e w2 ⟨rfl,hb2⟩;obtain⟨hc2,hf2⟩:=jF hb2)
  go_ret
  exact⟨rfl,bel hb hb2⟩
end Go.Proofs.Knd
namespace Go.Proofs.Knd
open Go.RowKit
variable {W:World} {b:Nat} {t:TypeId} {cs:Array Value}
def aB (W:World)(b:Nat)(t:TypeId)(cs:Array Value):Prop:=W.heap[b]?=some (.cells cs t (0,0))
theorem aB.lt (h:aB W b t cs):b < W.heap.size:=(Array.getElem?_eq_some_iff.1 h).1
theorem aB.new (W:World)(t:TypeId)(cs:Array Value):aB (W.alloc (.cells cs t)) W.heap.size t cs:=heap_alloc_new W _
theorem aB.kept {W':World}{row:Option Nat}(h:aB W b t cs)(hg:W.grownBy W' row)(hne:some b≠row):aB W' b t cs:=(hg.block b h.lt hne).trans h
theorem aB.alloc {W:World}{b:Nat}{t:TypeId}{cs:Array Value}(h:aB W b t cs)(o:Obj):aB (W.alloc o) b t cs:=h.kept (World.grownBy_alloc W o none) (by simp)
theorem aB.below {W':World}(h:aB W b t cs)(hb:Below W.heap.size W W'):aB W' b t cs:=(hb.block b h.lt).trans h
theorem aB.cell {W:World}{b:Nat}{t:TypeId}{cs:Array Value}(h:aB W b t cs)(i:Nat){v:Value}(hv:cs[i]?=some v):W.cell? ⟨b,i,none⟩=some v:=(cell_of_row W b i cs t (0,0) h).trans hv
theorem aB.frozen {W:World}{b:Nat}{t:TypeId}{cs:Array Value}(h:aB W b t cs)(i:Nat):W.frozen? ⟨b,i,none⟩=false:=by
 simp[World.frozen?,show W.heap[b]?=_ from h]
theorem aB.other (h:aB W b t cs){p:Addr}(hne:b≠p.block)(u:Value):aB (W.setCell p u) b t cs:=(Below.heap_setCell W p u b hne).trans h
theorem aB.set (h:aB W b t cs)(i:Nat)(u:Value):aB (W.setCell ⟨b,i,none⟩ u) b t (cs.setIfInBounds i u):=by
 obtain⟨hlt,hk⟩:=Array.getElem?_eq_some_iff.1 h
 show (W.heap.modify b _)[b]?=_
 rw[Array.getElem?_eq_getElem (by rw[Array.size_modify];exact hlt),Array.getElem_modify_self,hk]
 rfl
end Go.Proofs.Knd
namespace Go.Proofs.Knd
open Go.RowKit
def kJ (f:Int):Int:=if f=0 then 4096 else 1048576
def kW (f:Int):Int:=if f=0 then 4096 else 1
theorem aC7 (f d:Int)(w:World) :
  Calls Tryz.prog 135 #[.agg #[.int .i64 f,.int .i64 d]] w fun e w'=>e=.returned (.int .i64 (kJ f))/\Below w.heap.size w w':=by
 have hb:=aC w (.cells #[.int .i64 f,.int .i64 d] 23)
 by_cases h:f=0
 ·subst h
  go_enter Tryz.func135,Tryz.ntmps135
  go_wp2
  go_ret
  exact⟨rfl,hb⟩
 ·go_enter Tryz.func135,Tryz.ntmps135
  go_wp2
  go_ret
  exact⟨aN (by simp[kJ,h]),hb⟩
theorem aNk (f d:Int)(w:World) :
  Calls Tryz.prog 136 #[.agg #[.int .i64 f,.int .i64 d]] w fun e w'=>e=.returned (.int .i64 (kW f))/\Below w.heap.size w w':=by
 have hb:=aC w (.cells #[.int .i64 f,.int .i64 d] 23)
 by_cases h:f=0
 ·subst h
  go_enter Tryz.func136,Tryz.ntmps136
  go_wp2
  go_ret
  exact⟨rfl,hb⟩
 ·go_enter Tryz.func136,Tryz.ntmps136
  go_wp2
  go_ret
  exact⟨aN (by simp[kW,h]),hb⟩
theorem xQ (n:Int)(w:World) :
  Calls Tryz.prog 137 #[.int .i64 n] w fun e w'=>e=.returned (.agg #[.int .i64 n,.int .i64 n])/\Below w.heap.size w w':=by
 go_enter Tryz.func137,Tryz.ntmps137
 go_wp2
 exact bodyPost_ret (v:=.agg #[.int .i64 n,.int .i64 n]) (by simp[results,Tryz.results137,go_sem]) rfl ⟨rfl,aC _ _⟩
def fM (f d n:Int):Option (Int × Int) :=
 if ¬May f d then none else
 if n=0 then some (0,kJ f-1) else
 if n=1 then some (0,kW f-1) else
 if n=2 then some (0,3) else
 if n=3 then some (dR f d,dR f d) else
 if n=4 then some (bH f d,bH f d) else
 if n=5 then some (aW f d,aW f d) else none
def qE (f d n:Int):Value:=.tuple #[.agg #[.int .i64 ((fM f d n).getD (0,0)).1,.int .i64 ((fM f d n).getD (0,0)).2],.bool (fM f d n).isSome]
theorem aG {W:World}{b:Nat}{t:TypeId}{x y:Value}(h:aB W b t #[x,y]):W.cell? ⟨b,0,none⟩=some x/\W.cell? ⟨b,1,none⟩=some y/\W.frozen? ⟨b,0,none⟩=false/\W.frozen? ⟨b,1,none⟩=false :=
 ⟨h.cell 0 rfl,h.cell 1 rfl,h.frozen 0,h.frozen 1⟩
theorem aI {w w2:World}{b:Nat}(h:aB w2 b 74 #[.int .i64 0,.int .i64 0])(hB:Below w.heap.size w w2)(hb:w.heap.size<=b)(x y:Int) :
  ((w2.setCell ⟨b,0,none⟩ (.int .i64 x)).setCell ⟨b,1,none⟩ (.int .i64 y)).cell? ⟨b,0,none⟩=some (.int .i64 x)/\((w2.setCell ⟨b,0,none⟩ (.int .i64 x)).setCell ⟨b,1,none⟩ (.int .i64 y)).cell? ⟨b,1,none⟩=some (.int .i64 y) /\
  Below w.heap.size w ((w2.setCell ⟨b,0,none⟩ (.int .i64 x)).setCell ⟨b,1,none⟩ (.int .i64 y)):=by
 have h3:=(h.set 0 (.int .i64 x)).set 1 (.int .i64 y)
 exact⟨h3.cell 0 rfl,h3.cell 1 rfl,(hB.setCell (p:=⟨b,0,none⟩) hb _).setCell (p:=⟨b,1,none⟩) hb _⟩
theorem aIz (f d n:Int)(hm:¬May f d)(w:World) :
  Calls Tryz.prog 100 #[.agg #[.int .i64 f,.int .i64 d],.int .i64 n] w fun e w'=>e=.returned (qE f d n)/\Below w.heap.size w w':=by
 have HB1:=aA ((aC w (.cells #[.int .i64 f,.int .i64 d] 23)).alloc (by simp) (.cells #[.int .i64 0,.int .i64 0] 74))
 have hR:aB ((w.alloc (.cells #[.int .i64 f,.int .i64 d] 23)).alloc (.cells #[.int .i64 0,.int .i64 0] 74)) (w.heap.size+1) 74 #[.int .i64 0,.int .i64 0]:=by
  have:=aB.new (w.alloc (.cells #[.int .i64 f,.int .i64 d] 23)) 74 #[.int .i64 0,.int .i64 0]
  rwa[World.size_alloc] at this
 have HR1:=aA hR
 have HK1:=aA ((aB.new w 23 #[.int .i64 f,.int .i64 d]).alloc (.cells #[.int .i64 0,.int .i64 0] 74))
 clear hR
 have e:qE f d n=.tuple #[.agg #[.int .i64 (0),.int .i64 (0)],.bool false]:=by simp[qE,fM,hm]
 rw[e]
 clear e
 go_enter Tryz.func100,Tryz.ntmps100
 go_wp2_with (first
  | (go_at_call 101;refine(gT _ _ _ hm).mono ?_;rintro e w2 ⟨rfl,hb2⟩;have HR2:=aA (HR1.o.below hb2);have HK2:=aA (HK1.o.below hb2);have HB2:=aA (bel HB1.o hb2);clear hb2;obtain⟨s2,t2,u2,v2⟩:=aG HR2.o;obtain⟨x2,y2,-,-⟩:=aG HK2.o))
 obtain⟨c0,c1,hB⟩:=aI HR2.o HB2.o (by omega) (0) (0)
 exact bodyPost_ret (v:=.tuple #[.agg #[.int .i64 (0),.int .i64 (0)],.bool false]) (by simp[results,Tryz.results100,go_sem,c0,c1]) rfl ⟨rfl,hB⟩
theorem aTu (f d:Int)(hm:May f d)(w:World) :
  Calls Tryz.prog 100 #[.agg #[.int .i64 f,.int .i64 d],.int .i64 0] w fun e w'=>e=.returned (qE f d 0)/\Below w.heap.size w w':=by
 have HB1:=aA ((aC w (.cells #[.int .i64 f,.int .i64 d] 23)).alloc (by simp) (.cells #[.int .i64 0,.int .i64 0] 74))
 have hR:aB ((w.alloc (.cells #[.int .i64 f,.int .i64 d] 23)).alloc (.cells #[.int .i64 0,.int .i64 0] 74)) (w.heap.size+1) 74 #[.int .i64 0,.int .i64 0]:=by
  have:=aB.new (w.alloc (.cells #[.int .i64 f,.int .i64 d] 23)) 74 #[.int .i64 0,.int .i64 0]
  rwa[World.size_alloc] at this
 have HR1:=aA hR
 have HK1:=aA ((aB.new w 23 #[.int .i64 f,.int .i64 d]).alloc (.cells #[.int .i64 0,.int .i64 0] 74))
 clear hR
 have e:qE f d 0=.tuple #[.agg #[.int .i64 (0),.int .i64 (kJ f-1)],.bool true]:=by simp[qE,fM,hm]
 rw[e]
 clear e
 obtain⟨p1,p2⟩:0<=kJ f/\kJ f<=1048576:=by unfold kJ;split <;> omega
 go_enter Tryz.func100,Tryz.ntmps100
 go_wp2_with (first
  | (go_at_call 101;refine(bP _ _ _ hm).mono ?_;rintro e w2 ⟨rfl,hb2⟩;have HR2:=aA (HR1.o.below hb2);have HK2:=aA (HK1.o.below hb2);have HB2:=aA (bel HB1.o hb2);clear hb2;obtain⟨s2,t2,u2,v2⟩:=aG HR2.o;obtain⟨x2,y2,-,-⟩:=aG HK2.o)
  | (go_at_call 135;refine(aC7 _ _ _).mono ?_;rintro e w3 ⟨rfl,hb3⟩;have HR3:=aA (HR2.o.below hb3);have HK3:=aA (HK2.o.below hb3);have HB3:=aA (bel HB2.o hb3);clear hb3;obtain⟨s3,t3,u3,v3⟩:=aG HR3.o;obtain⟨x3,y3,-,-⟩:=aG HK3.o))
 obtain⟨c0,c1,hB⟩:=aI HR3.o HB3.o (by omega) (0) (kJ f-1)
 exact bodyPost_ret (v:=.tuple #[.agg #[.int .i64 (0),.int .i64 (kJ f-1)],.bool true]) (by simp[results,Tryz.results100,go_sem,c0,c1]) rfl ⟨rfl,hB⟩
theorem aTv (f d:Int)(hm:May f d)(w:World) :
  Calls Tryz.prog 100 #[.agg #[.int .i64 f,.int .i64 d],.int .i64 1] w fun e w'=>e=.returned (qE f d 1)/\Below w.heap.size w w':=by
 have HB1:=aA ((aC w (.cells #[.int .i64 f,.int .i64 d] 23)).alloc (by simp) (.cells #[.int .i64 0,.int .i64 0] 74))
 have hR:aB ((w.alloc (.cells #[.int .i64 f,.int .i64 d] 23)).alloc (.cells #[.int .i64 0,.int .i64 0] 74)) (w.heap.size+1) 74 #[.int .i64 0,.int .i64 0]:=by
  have:=aB.new (w.alloc (.cells #[.int .i64 f,.int .i64 d] 23)) 74 #[.int .i64 0,.int .i64 0]
  rwa[World.size_alloc] at this
 have HR1:=aA hR
 have HK1:=aA ((aB.new w 23 #[.int .i64 f,.int .i64 d]).alloc (.cells #[.int .i64 0,.int .i64 0] 74))
 clear hR
 have e:qE f d 1=.tuple #[.agg #[.int .i64 (0),.int .i64 (kW f-1)],.bool true]:=by simp[qE,fM,hm]
 rw[e]
 clear e
 obtain⟨p1,p2⟩:0<=kW f/\kW f<=1048576:=by unfold kW;split <;> omega
 go_enter Tryz.func100,Tryz.ntmps100
 go_wp2_with (first
  | (go_at_call 101;refine(bP _ _ _ hm).mono ?_;rintro e w2 ⟨rfl,hb2⟩;have HR2:=aA (HR1.o.below hb2);have HK2:=aA (HK1.o.below hb2);have HB2:=aA (bel HB1.o hb2);clear hb2;obtain⟨s2,t2,u2,v2⟩:=aG HR2.o;obtain⟨x2,y2,-,-⟩:=aG HK2.o)
  | (go_at_call 136;refine(aNk _ _ _).mono ?_;rintro e w3 ⟨rfl,hb3⟩;have HR3:=aA (HR2.o.below hb3);have HK3:=aA (HK2.o.below hb3);have HB3:=aA (bel HB2.o hb3);clear hb3;obtain⟨s3,t3,u3,v3⟩:=aG HR3.o;obtain⟨x3,y3,-,-⟩:=aG HK3.o))
 obtain⟨c0,c1,hB⟩:=aI HR3.o HB3.o (by omega) (0) (kW f-1)
 exact bodyPost_ret (v:=.tuple #[.agg #[.int .i64 (0),.int .i64 (kW f-1)],.bool true]) (by simp[results,Tryz.results100,go_sem,c0,c1]) rfl ⟨rfl,hB⟩
theorem aTw (f d:Int)(hm:May f d)(w:World) :
  Calls Tryz.prog 100 #[.agg #[.int .i64 f,.int .i64 d],.int .i64 2] w fun e w'=>e=.returned (qE f d 2)/\Below w.heap.size w w':=by
 have HB1:=aA ((aC w (.cells #[.int .i64 f,.int .i64 d] 23)).alloc (by simp) (.cells #[.int .i64 0,.int .i64 0] 74))
 have hR:aB ((w.alloc (.cells #[.int .i64 f,.int .i64 d] 23)).alloc (.cells #[.int .i64 0,.int .i64 0] 74)) (w.heap.size+1) 74 #[.int .i64 0,.int .i64 0]:=by
  have:=aB.new (w.alloc (.cells #[.int .i64 f,.int .i64 d] 23)) 74 #[.int .i64 0,.int .i64 0]
  rwa[World.size_alloc] at this
 have HR1:=aA hR
 have HK1:=aA ((aB.new w 23 #[.int .i64 f,.int .i64 d]).alloc (.cells #[.int .i64 0,.int .i64 0] 74))
 clear hR
 have e:qE f d 2=.tuple #[.agg #[.int .i64 (0),.int .i64 (3)],.bool true]:=by simp[qE,fM,hm]
 rw[e]
 clear e
 go_enter Tryz.func100,Tryz.ntmps100
 go_wp2_with (first
  | (go_at_call 101;refine(bP _ _ _ hm).mono ?_;rintro e w2 ⟨rfl,hb2⟩;have HR2:=aA (HR1.o.below hb2);have HK2:=aA (HK1.o.below hb2);have HB2:=aA (bel HB1.o hb2);clear hb2;obtain⟨s2,t2,u2,v2⟩:=aG HR2.o;obtain⟨x2,y2,-,-⟩:=aG HK2.o))
 obtain⟨c0,c1,hB⟩:=aI HR2.o HB2.o (by omega) (0) (3)
 exact bodyPost_ret (v:=.tuple #[.agg #[.int .i64 (0),.int .i64 (3)],.bool true]) (by simp[results,Tryz.results100,go_sem,c0,c1]) rfl ⟨rfl,hB⟩
theorem aTx (f d:Int)(hm:May f d)(w:World) :
  Calls Tryz.prog 100 #[.agg #[.int .i64 f,.int .i64 d],.int .i64 3] w fun e w'=>e=.returned (qE f d 3)/\Below w.heap.size w w':=by
 have HB1:=aA ((aC w (.cells #[.int .i64 f,.int .i64 d] 23)).alloc (by simp) (.cells #[.int .i64 0,.int .i64 0] 74))
 have hR:aB ((w.alloc (.cells #[.int .i64 f,.int .i64 d] 23)).alloc (.cells #[.int .i64 0,.int .i64 0] 74)) (w.heap.size+1) 74 #[.int .i64 0,.int .i64 0]:=by
  have:=aB.new (w.alloc (.cells #[.int .i64 f,.int .i64 d] 23)) 74 #[.int .i64 0,.int .i64 0]
  rwa[World.size_alloc] at this
 have HR1:=aA hR
 have HK1:=aA ((aB.new w 23 #[.int .i64 f,.int .i64 d]).alloc (.cells #[.int .i64 0,.int .i64 0] 74))
 clear hR
 have e:qE f d 3=.tuple #[.agg #[.int .i64 (dR f d),.int .i64 (dR f d)],.bool true]:=by simp[qE,fM,hm]
 rw[e]
 clear e
 go_enter Tryz.func100,Tryz.ntmps100
 go_wp2_with (first
  | (go_at_call 101;refine(bP _ _ _ hm).mono ?_;rintro e w2 ⟨rfl,hb2⟩;have HR2:=aA (HR1.o.below hb2);have HK2:=aA (HK1.o.below hb2);have HB2:=aA (bel HB1.o hb2);clear hb2;obtain⟨s2,t2,u2,v2⟩:=aG HR2.o;obtain⟨x2,y2,-,-⟩:=aG HK2.o)
  | (go_at_call 57;refine(nL _ _ _).mono ?_;rintro e w3 ⟨rfl,hb3⟩;have HR3:=aA (HR2.o.below hb3);have HK3:=aA (HK2.o.below hb3);have HB3:=aA (bel HB2.o hb3);clear hb3;obtain⟨s3,t3,u3,v3⟩:=aG HR3.o;obtain⟨x3,y3,-,-⟩:=aG HK3.o)
  | (go_at_call 137;refine(xQ _ _).mono ?_;rintro e w4 ⟨rfl,hb4⟩;have HR4:=aA (HR3.o.below hb4);have HK4:=aA (HK3.o.below hb4);have HB4:=aA (bel HB3.o hb4);clear hb4;obtain⟨s4,t4,u4,v4⟩:=aG HR4.o;obtain⟨x4,y4,-,-⟩:=aG HK4.o))
 obtain⟨c0,c1,hB⟩:=aI HR4.o HB4.o (by omega) (dR f d) (dR f d)
 exact bodyPost_ret (v:=.tuple #[.agg #[.int .i64 (dR f d),.int .i64 (dR f d)],.bool true]) (by simp[results,Tryz.results100,go_sem,c0,c1]) rfl ⟨rfl,hB⟩
theorem aTy (f d:Int)(hm:May f d)(w:World) :
  Calls Tryz.prog 100 #[.agg #[.int .i64 f,.int .i64 d],.int .i64 4] w fun e w'=>e=.returned (qE f d 4)/\Below w.heap.size w w':=by
 have HB1:=aA ((aC w (.cells #[.int .i64 f,.int .i64 d] 23)).alloc (by simp) (.cells #[.int .i64 0,.int .i64 0] 74))
 have hR:aB ((w.alloc (.cells #[.int .i64 f,.int .i64 d] 23)).alloc (.cells #[.int .i64 0,.int .i64 0] 74)) (w.heap.size+1) 74 #[.int .i64 0,.int .i64 0]:=by
  have:=aB.new (w.alloc (.cells #[.int .i64 f,.int .i64 d] 23)) 74 #[.int .i64 0,.int .i64 0]
  rwa[World.size_alloc] at this
 have HR1:=aA hR
 have HK1:=aA ((aB.new w 23 #[.int .i64 f,.int .i64 d]).alloc (.cells #[.int .i64 0,.int .i64 0] 74))
 clear hR
 have e:qE f d 4=.tuple #[.agg #[.int .i64 (bH f d),.int .i64 (bH f d)],.bool true]:=by simp[qE,fM,hm]
 rw[e]
 clear e
 go_enter Tryz.func100,Tryz.ntmps100
 go_wp2_with (first
  | (go_at_call 101;refine(bP _ _ _ hm).mono ?_;rintro e w2 ⟨rfl,hb2⟩;have HR2:=aA (HR1.o.below hb2);have HK2:=aA (HK1.o.below hb2);have HB2:=aA (bel HB1.o hb2);clear hb2;obtain⟨s2,t2,u2,v2⟩:=aG HR2.o;obtain⟨x2,y2,-,-⟩:=aG HK2.o)
  | (go_at_call 58;refine(kN _ _ _).mono ?_;rintro e w3 ⟨rfl,hb3⟩;have HR3:=aA (HR2.o.below hb3);have HK3:=aA (HK2.o.below hb3);have HB3:=aA (bel HB2.o hb3);clear hb3;obtain⟨s3,t3,u3,v3⟩:=aG HR3.o;obtain⟨x3,y3,-,-⟩:=aG HK3.o)
  | (go_at_call 137;refine(xQ _ _).mono ?_;rintro e w4 ⟨rfl,hb4⟩;have HR4:=aA (HR3.o.below hb4);have HK4:=aA (HK3.o.below hb4);have HB4:=aA (bel HB3.o hb4);clear hb4;obtain⟨s4,t4,u4,v4⟩:=aG HR4.o;obtain⟨x4,y4,-,-⟩:=aG HK4.o))
 obtain⟨c0,c1,hB⟩:=aI HR4.o HB4.o (by omega) (bH f d) (bH f d)
 exact bodyPost_ret (v:=.tuple #[.agg #[.int .i64 (bH f d),.int .i64 (bH f d)],.bool true]) (by simp[results,Tryz.results100,go_sem,c0,c1]) rfl ⟨rfl,hB⟩
theorem aTz (f d:Int)(hm:May f d)(w:World) :
  Calls Tryz.prog 100 #[.agg #[.int .i64 f,.int .i64 d],.int .i64 5] w fun e w'=>e=.returned (qE f d 5)/\Below w.heap.size w w':=by
 have HB1:=aA ((aC w (.cells #[.int .i64 f,.int .i64 d] 23)).alloc (by simp) (.cells #[.int .i64 0,.int .i64 0] 74))
 have hR:aB ((w.alloc (.cells #[.int .i64 f,.int .i64 d] 23)).alloc (.cells #[.int .i64 0,.int .i64 0] 74)) (w.heap.size+1) 74 #[.int .i64 0,.int .i64 0]:=by
  have:=aB.new (w.alloc (.cells #[.int .i64 f,.int .i64 d] 23)) 74 #[.int .i64 0,.int .i64 0]
  rwa[World.size_alloc] at this
 have HR1:=aA hR
 have HK1:=aA ((aB.new w 23 #[.int .i64 f,.int .i64 d]).alloc (.cells #[.int .i64 0,.int .i64 0] 74))
 clear hR
 have e:qE f d 5=.tuple #[.agg #[.int .i64 (aW f d),.int .i64 (aW f d)],.bool true]:=by simp[qE,fM,hm]
 rw[e]
 clear e
 go_enter Tryz.func100,Tryz.ntmps100
 go_wp2_with (first
  | (go_at_call 101;refine(bP _ _ _ hm).mono ?_;rintro e w2 ⟨rfl,hb2⟩;have HR2:=aA (HR1.o.below hb2);have HK2:=aA (HK1.o.below hb2);have HB2:=aA (bel HB1.o hb2);clear hb2;obtain⟨s2,t2,u2,v2⟩:=aG HR2.o;obtain⟨x2,y2,-,-⟩:=aG HK2.o)
  | (go_at_call 84;refine(nA _ _ _).mono ?_;rintro e w3 ⟨rfl,hb3⟩;have HR3:=aA (HR2.o.below hb3);have HK3:=aA (HK2.o.below hb3);have HB3:=aA (bel HB2.o hb3);clear hb3;obtain⟨s3,t3,u3,v3⟩:=aG HR3.o;obtain⟨x3,y3,-,-⟩:=aG HK3.o)
  | (go_at_call 137;refine(xQ _ _).mono ?_;rintro e w4 ⟨rfl,hb4⟩;have HR4:=aA (HR3.o.below hb4);have HK4:=aA (HK3.o.below hb4);have HB4:=aA (bel HB3.o hb4);clear hb4;obtain⟨s4,t4,u4,v4⟩:=aG HR4.o;obtain⟨x4,y4,-,-⟩:=aG HK4.o))
 obtain⟨c0,c1,hB⟩:=aI HR4.o HB4.o (by omega) (aW f d) (aW f d)
 exact bodyPost_ret (v:=.tuple #[.agg #[.int .i64 (aW f d),.int .i64 (aW f d)],.bool true]) (by simp[results,Tryz.results100,go_sem,c0,c1]) rfl ⟨rfl,hB⟩
theorem aT0 (f d n:Int)(hm:May f d)(h0:n≠0)(h1:n≠1)(h2:n≠2)(h3:n≠3)(h4:n≠4)(h5:n≠5)(w:World) :
  Calls Tryz.prog 100 #[.agg #[.int .i64 f,.int .i64 d],.int .i64 n] w fun e w'=>e=.returned (qE f d n)/\Below w.heap.size w w':=by
 have HB1:=aA ((aC w (.cells #[.int .i64 f,.int .i64 d] 23)).alloc (by simp) (.cells #[.int .i64 0,.int .i64 0] 74))
 have hR:aB ((w.alloc (.cells #[.int .i64 f,.int .i64 d] 23)).alloc (.cells #[.int .i64 0,.int .i64 0] 74)) (w.heap.size+1) 74 #[.int .i64 0,.int .i64 0]:=by
  have:=aB.new (w.alloc (.cells #[.int .i64 f,.int .i64 d] 23)) 74 #[.int .i64 0,.int .i64 0]
  rwa[World.size_alloc] at this
 have HR1:=aA hR
 have HK1:=aA ((aB.new w 23 #[.int .i64 f,.int .i64 d]).alloc (.cells #[.int .i64 0,.int .i64 0] 74))
 clear hR
 have e:qE f d n=.tuple #[.agg #[.int .i64 (0),.int .i64 (0)],.bool false]:=by simp[qE,fM,hm,h0,h1,h2,h3,h4,h5]
 rw[e]
 clear e
 go_enter Tryz.func100,Tryz.ntmps100
 go_wp2_with (first
  | (go_at_call 101;refine(bP _ _ _ hm).mono ?_;rintro e w2 ⟨rfl,hb2⟩;have HR2:=aA (HR1.o.below hb2);have HK2:=aA (HK1.o.below hb2);have HB2:=aA (bel HB1.o hb2);clear hb2;obtain⟨s2,t2,u2,v2⟩:=aG HR2.o;obtain⟨x2,y2,-,-⟩:=aG HK2.o))
 obtain⟨c0,c1,hB⟩:=aI HR2.o HB2.o (by omega) (0) (0)
 exact bodyPost_ret (v:=.tuple #[.agg #[.int .i64 (0),.int .i64 (0)],.bool false]) (by simp[results,Tryz.results100,go_sem,c0,c1]) rfl ⟨rfl,hB⟩
theorem fQ (f d n:Int)(w:World) :
  Calls Tryz.prog 100 #[.agg #[.int .i64 f,.int .i64 d],.int .i64 n] w fun e w'=>e=.returned (qE f d n)/\Below w.heap.size w w':=by
 by_cases hm:May f d
 ·by_cases h0:n=0
  ·subst h0;exact aTu f d hm w
  by_cases h1:n=1
  ·subst h1;exact aTv f d hm w
  by_cases h2:n=2
  ·subst h2;exact aTw f d hm w
  by_cases h3:n=3
  ·subst h3;exact aTx f d hm w
  by_cases h4:n=4
  ·subst h4;exact aTy f d hm w
  by_cases h5:n=5
  ·subst h5;exact aTz f d hm w
  exact aT0 f d n hm h0 h1 h2 h3 h4 h5 w
 ·exact aIz f d n hm w
end Go.Proofs.Knd
namespace Go.Proofs.Knd
open Go.RowKit
variable {w:World} {a:Option Addr} {cap n:Nat} {xs:List Int}
theorem info3:(Tryz.prog.info? 3).map (fun i=>(i.zero,i.size,i.bytes))=some (some (.int .i64 0),1,8):=by kernel_rfl
abbrev eG (xs:List Int):List Value:=xs.map (Value.int .i64)
structure Ints (w:World)(a:Option Addr)(n cap:Nat)(xs:List Int):Prop where
 len:xs.length=n
 le:n<=cap
 max:cap<=maxLen
 nil:a=none->cap=0
 cell:n=0\/∃ b off,a=some ⟨b,off,none⟩/\∀ i,i < n->w.cell? ⟨b,off+i,none⟩=some (.int .i64 (xs.getD i 0))
theorem Ints.at (h:Ints w a n cap xs)(hn:n≠0) :
  ∃ b off,a=some ⟨b,off,none⟩/\b < w.heap.size/\∀ i,i < n->w.cell? ⟨b,off+i,none⟩=some (.int .i64 (xs.getD i 0)):=by
 rcases h.cell with h0|⟨b,off,ha,hc⟩
 ·exact absurd h0 hn
 ·exact⟨b,off,ha,World.block_lt_of_cell? w _ (hc 0 (by omega)),hc⟩
theorem Ints.of_cells {w':World}(h:Ints w a n cap xs)
  (hc:∀ b off,a=some ⟨b,off,none⟩->n≠0->∀ i,i < n->w'.cell? ⟨b,off+i,none⟩=w.cell? ⟨b,off+i,none⟩):Ints w' a n cap xs:=by
 refine⟨h.len,h.le,h.max,h.nil,?_⟩
 by_cases hn:n=0
 ·exact .inl hn
 ·obtain⟨b,off,ha,_,hcell⟩:=h.at hn
  exact .inr ⟨b,off,ha,fun i hi=>(hc b off ha hn i hi).trans (hcell i hi)⟩
theorem Ints.later {w':World}(h:Ints w a n cap xs)(hb:Below w.heap.size w w'):Ints w' a n cap xs:=by
 refine h.of_cells fun b off ha hn i hi=>?_
 obtain⟨b',off',ha',hlt,_⟩:=h.at hn
 rw[ha] at ha'
 cases ha'
 exact hb.cell (p:=⟨b,off+i,none⟩) hlt
theorem Ints.of_owns {base:Nat}{v:Value}(h:w.ownsRow base 3 1 v n (eG xs)) :
  ∃ a cap,v=.slice a n cap/\Ints w a n cap xs/\(∀ x,a=some x->base<=x.block/\x.block < w.heap.size):=by
 have hl:xs.length=n:=by simpa using h.1
 have hlt:=h.lt
 have hcs:=fun g hg=>h.cells (g:=g) hg
 rcases h.2 with⟨rfl,rfl⟩|⟨g,cap,cur,rfl,hb,hg,hnc,hcm,hsz,htake⟩
 ·exact⟨none,0,rfl,⟨hl,Nat.le_refl _,Nat.zero_le _,fun _=>rfl,.inl rfl⟩,fun x hx=>by cases hx⟩
 ·refine⟨some ⟨g,0,none⟩,cap,rfl,⟨hl,hnc,hcm,(fun h=>by cases h),.inr ⟨g,0,rfl,fun i hi=>?_⟩⟩,fun x hx=>by cases hx;exact hlt g rfl⟩
  have:=hcs g rfl i (.int .i64 (xs.getD i 0)) (by simp[List.getD,hl,hi])
  rw[Addr.add_lit] at this
  exact this
end Go.Proofs.Knd
