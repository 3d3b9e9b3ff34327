import Derived.Test.YticnbcfmbhjbgaaGreatDoorXH
import Derived.Test.YticnbcfmbhjbgaaGreatDoorChecked
import Derived.WalkSpells
set_option maxRecDepth 100000
set_option maxHeartbeats 32000000
set_option linter.unusedVariables false
namespace Go.Proofs.Knd
section
open Go.RowKit Go.IntWalk
theorem aA {p:Prop}(h:p):Hid p:=h
theorem kG {W w1:World}(hb:Below W.heap.size W w1):(∀ b o,b < W.heap.size->w1.cell? ⟨b,o,none⟩=W.cell? ⟨b,o,none⟩)/\(∀ b o,b < W.heap.size->w1.frozen? ⟨b,o,none⟩=W.frozen? ⟨b,o,none⟩) :=
 ⟨fun b o h=>hb.cell (p:=⟨b,o,none⟩) h,fun b o h=>hb.frozen (p:=⟨b,o,none⟩) h⟩
theorem bel {w w1 w2:World}(h:Below w.heap.size w w1)(k:Below w1.heap.size w1 w2):Below w.heap.size w w2:=h.trans (k.mono h.size)
theorem aD (w:World)(o:Obj):Below w.heap.size w (w.alloc o):=(Below.refl _ _).alloc (nLr _) _
theorem aO {k:IntKind}{a b:Int}(h:a=b):Ending.returned (.int k a)=.returned (.int k b):=by rw[h]
def May (f d:Int):Prop:=(f=0\/f=1)/\1<=d/\d<=16
instance (f d : Int) : Decidable (May f d) := by unfold May; infer_instance
theorem lI (f d:Int):(May f d/\f=0)\/(May f d/\f=1)\/¬May f d:=by
 by_cases h:May f d
 ·rcases h.1 with h0|h0
  ·exact .inl ⟨h,h0⟩
  ·exact .inr (.inl ⟨h,h0⟩)
 ·exact .inr (.inr h)
def pw (n:Int):Int:=2 ^ n.toNat
theorem mJ (n:Int)(h:n<=16):1<=pw n/\pw n<=65536:=by
 unfold pw
 have h1:n.toNat<=16:=by omega
 have h2:2 ^ n.toNat<=2 ^ 16:=Nat.pow_le_pow_right (by decide) h1
 have h3:0 < 2 ^ n.toNat:=Nat.pow_pos (by decide)
 have e:((2:Int) ^ n.toNat)=((2 ^ n.toNat:Nat):Int):=by simp
 rw[e]
 omega
def fG (f d:Int):Int:=if May f d/\f=1 then -pw (d-1) else 0
def cK (f d:Int):Int:=if May f d then(if f=0 then 2*pw (d-1)-1 else pw (d-1)-1) else 0
def bL (f d:Int):Int:=if May f d/\f=0 then pw (d-1) else 0
def bX (f d:Int):Int:=if May f d then(if f=0 then 44 else 31) else 0
theorem zs0 {d:Int}(h:May 0 d):fG 0 d=0/\cK 0 d=2*pw (d-1)-1/\bL 0 d=pw (d-1)/\bX 0 d=44:=by
 simp[fG,cK,bL,bX,h]
theorem zs1 {d:Int}(h:May 1 d):fG 1 d=-pw (d-1)/\cK 1 d=pw (d-1)-1/\bL 1 d=0/\bX 1 d=31:=by
 simp[fG,cK,bL,bX,h]
theorem zs2 {f d:Int}(h:¬May f d):fG f d=0/\cK f d=0/\bL f d=0/\bX f d=0:=by
 simp[fG,cK,bL,bX,h]
theorem fK (f d:Int)(w:World)(h:May f d) :
  Calls Tryz.prog 30 #[.agg #[.i f,.i d]] w fun e w'=>e=.returned (.i 0)/\Below w.heap.size w w':=by
 obtain⟨hf,h1,h2⟩:=h
 have hb:Below w.heap.size w (w.alloc (.cells #[.i f,.i d] 23)):=(Below.refl _ _).alloc (nLr _) _
 rcases hf with rfl|rfl
 ·go_enter Tryz.func30,Tryz.ntmps30
  go_wp2
  go_ret
  exact⟨rfl,hb⟩
 ·go_enter Tryz.func30,Tryz.ntmps30
  go_wp2
  go_ret
  exact⟨rfl,hb⟩
theorem iM (f d:Int)(w:World)(h:¬May f d) :
  Calls Tryz.prog 30 #[.agg #[.i f,.i d]] w fun e w'=>e=.returned (.i 1)/\Below w.heap.size w w':=by
 have hb:Below w.heap.size w (w.alloc (.cells #[.i f,.i d] 23)):=(Below.refl _ _).alloc (nLr _) _
 by_cases h1:f=0
 ·subst h1
  by_cases h2:d < 1
  ·go_enter Tryz.func30,Tryz.ntmps30
   go_wp2
   go_ret
   exact⟨rfl,hb⟩
  ·have h3:16 < d:=by unfold May at h;omega
   go_enter Tryz.func30,Tryz.ntmps30
   go_wp2
   go_ret
   exact⟨rfl,hb⟩
 ·by_cases h4:f=1
  ·subst h4
   by_cases h2:d < 1
   ·go_enter Tryz.func30,Tryz.ntmps30
    go_wp2
    go_ret
    exact⟨rfl,hb⟩
   ·have h3:16 < d:=by unfold May at h;omega
    go_enter Tryz.func30,Tryz.ntmps30
    go_wp2
    go_ret
    exact⟨rfl,hb⟩
  ·have h5:(f != 0)=true:=by simp[h1]
   have h6:(f != 1)=true:=by simp[h4]
   go_enter Tryz.func30,Tryz.ntmps30
   go_wp2
   go_ret
   exact⟨rfl,hb⟩
theorem yV (f d:Int)(w:World)(h:May f d) :
  Calls Tryz.prog 264 #[.agg #[.i f,.i d]] w fun e w'=>e=.returned (.i (pw (d-1)))/\Below w.heap.size w w':=by
 obtain⟨hf,h1,h2⟩:=h
 have HP:=aA (mJ (d-1) (by omega))
 go_enter Tryz.func264,Tryz.ntmps264
 go_wp2
 go_ret
 refine⟨aO ?_,aD _ _⟩
 have:=HP.o
 unfold pw at this ⊢
 rw[show (d-1).toNat=d.toNat-1 by omega] at this ⊢
 exact wrap64_in _ ⟨by omega,by omega⟩
theorem mH (f d:Int)(w:World) :
  Calls Tryz.prog 189 #[.agg #[.i f,.i d]] w fun e w'=>e=.returned (.i (fG f d))/\Below w.heap.size w w':=by
 rcases lI f d with⟨hm,rfl⟩|⟨hm,rfl⟩|hm
 ·rw[(zs0 hm).1]
  have hb:=aD w (.cells #[.i 0,.i d] 23)
  go_enter Tryz.func189,Tryz.ntmps189
  go_wp2_with (go_at_call 30;refine(fK _ _ _ hm).mono ?_;rintro e w2 ⟨rfl,hb2⟩;obtain⟨hc2,hf2⟩:=kG hb2)
  go_ret
  exact⟨rfl,bel hb hb2⟩
 ·rw[(zs1 hm).1]
  have hb:=aD w (.cells #[.i 1,.i d] 23)
  obtain⟨p1,p2⟩:=mJ (d-1) (by unfold May at hm;omega)
  go_enter Tryz.func189,Tryz.ntmps189
  go_wp2_with (first|(go_at_call 30;refine(fK _ _ _ hm).mono ?_;rintro e w2 ⟨rfl,hb2⟩;obtain⟨hc2,hf2⟩:=kG hb2)|(go_at_call 264;refine(yV _ _ _ hm).mono ?_;rintro e w3 ⟨rfl,hb3⟩))
  go_ret
  exact⟨rfl,bel (bel hb hb2) hb3⟩
 ·rw[(zs2 hm).1]
  have hb:=aD w (.cells #[.i f,.i d] 23)
  go_enter Tryz.func189,Tryz.ntmps189
  go_wp2_with (go_at_call 30;refine(iM _ _ _ hm).mono ?_;rintro e w2 ⟨rfl,hb2⟩;obtain⟨hc2,hf2⟩:=kG hb2)
  go_ret
  exact⟨rfl,bel hb hb2⟩
theorem jW (f d:Int)(w:World) :
  Calls Tryz.prog 190 #[.agg #[.i f,.i d]] w fun e w'=>e=.returned (.i (cK f d))/\Below w.heap.size w w':=by
 rcases lI f d with⟨hm,rfl⟩|⟨hm,rfl⟩|hm
 rw[(zs0 hm).2.1]
 have hb:=aD w (.cells #[.i 0,.i d] 23)
 rotate_left
 rw[(zs1 hm).2.1]
 have hb:=aD w (.cells #[.i 1,.i d] 23)
 rotate_left
 ·rw[(zs2 hm).2.1]
  have hb:=aD w (.cells #[.i f,.i d] 23)
  go_enter Tryz.func190,Tryz.ntmps190
  go_wp2_with (go_at_call 30;refine(iM _ _ _ hm).mono ?_;rintro e w2 ⟨rfl,hb2⟩;obtain⟨hc2,hf2⟩:=kG hb2)
  go_ret
  exact⟨rfl,bel hb hb2⟩
 all_goals
  obtain⟨p1,p2⟩:=mJ (d-1) (by unfold May at hm;omega)
  go_enter Tryz.func190,Tryz.ntmps190
  go_wp2_with (first|(go_at_call 30;refine(fK _ _ _ hm).mono ?_;rintro e w2 ⟨rfl,hb2⟩;obtain⟨hc2,hf2⟩:=kG hb2)|(go_at_call 264;refine(yV _ _ _ hm).mono ?_;rintro e w3 ⟨rfl,hb3⟩))
  go_ret
  exact⟨rfl,bel (bel hb hb2) hb3⟩
theorem kZ (f d:Int)(w:World) :
  Calls Tryz.prog 193 #[.agg #[.i f,.i d]] w fun e w'=>e=.returned (.i (bL f d))/\Below w.heap.size w w':=by
 rcases lI f d with⟨hm,rfl⟩|⟨hm,rfl⟩|hm
 ·rw[(zs0 hm).2.2.1]
  have hb:=aD w (.cells #[.i 0,.i d] 23)
  obtain⟨p1,p2⟩:=mJ (d-1) (by unfold May at hm;omega)
  go_enter Tryz.func193,Tryz.ntmps193
  go_wp2_with (first|(go_at_call 30;refine(fK _ _ _ hm).mono ?_;rintro e w2 ⟨rfl,hb2⟩;obtain⟨hc2,hf2⟩:=kG hb2)|(go_at_call 264;refine(yV _ _ _ hm).mono ?_;rintro e w3 ⟨rfl,hb3⟩))
  go_ret
  exact⟨rfl,bel (bel hb hb2) hb3⟩
 ·rw[(zs1 hm).2.2.1]
  have hb:=aD w (.cells #[.i 1,.i d] 23)
  go_enter Tryz.func193,Tryz.ntmps193
  go_wp2_with (go_at_call 30;refine(fK _ _ _ hm).mono ?_;rintro e w2 ⟨rfl,hb2⟩;obtain⟨hc2,hf2⟩:=kG hb2)
  go_ret
  exact⟨rfl,bel hb hb2⟩
 ·rw[(zs2 hm).2.2.1]
  have hb:=aD w (.cells #[.i f,.i d] 23)
  go_enter Tryz.func193,Tryz.ntmps193
  go_wp2_with (go_at_call 30;refine(iM _ _ _ hm).mono ?_;rintro e w2 ⟨rfl,hb2⟩;obtain⟨hc2,hf2⟩:=kG hb2)
  go_ret
  exact⟨rfl,bel hb hb2⟩
theorem qR (f d:Int)(w:World) :
  Calls Tryz.prog 132 #[.agg #[.i f,.i d]] w fun e w'=>e=.returned (.i (bX f d))/\Below w.heap.size w w':=by
 rcases lI f d with⟨hm,rfl⟩|⟨hm,rfl⟩|hm
 ·rw[(zs0 hm).2.2.2]
  have hb:=aD w (.cells #[.i 0,.i d] 23)
  go_enter Tryz.func132,Tryz.ntmps132
  go_wp2_with (go_at_call 30;refine(fK _ _ _ hm).mono ?_;rintro e w2 ⟨rfl,hb2⟩;obtain⟨hc2,hf2⟩:=kG hb2)
  go_ret
  exact⟨rfl,bel hb hb2⟩
 ·rw[(zs1 hm).2.2.2]
  have hb:=aD w (.cells #[.i 1,.i d] 23)
  go_enter Tryz.func132,Tryz.ntmps132
  go_wp2_with (go_at_call 30;refine(fK _ _ _ hm).mono ?_;rintro e w2 ⟨rfl,hb2⟩;obtain⟨hc2,hf2⟩:=kG hb2)
  go_ret
  exact⟨rfl,bel hb hb2⟩
 ·rw[(zs2 hm).2.2.2]
  have hb:=aD w (.cells #[.i f,.i d] 23)
  go_enter Tryz.func132,Tryz.ntmps132
  go_wp2_with (go_at_call 30;refine(iM _ _ _ hm).mono ?_;rintro e w2 ⟨rfl,hb2⟩;obtain⟨hc2,hf2⟩:=kG hb2)
  go_ret
  exact⟨rfl,bel hb hb2⟩
end
open Go.RowKit

end Go.Proofs.Knd
