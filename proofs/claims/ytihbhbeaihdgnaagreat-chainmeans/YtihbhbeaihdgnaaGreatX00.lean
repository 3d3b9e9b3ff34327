import Derived.Test.YtihbhbeaihdgnaaGreatXH
import Derived.Test.YtihbhbeaihdgnaaGreatChecked
import Derived.WalkKit
import Derived.WalkSpells
import Derived.Lib.Bytealg
import Derived.Lib.IndexBytes
import Derived.ProofKit
import Derived.OpenShut
import Derived.ChangeOld
import Derived.SizedLaws
import Derived.Below
import Derived.Deep.Slices
import Derived.Shelf.Pu.Clone
import Derived.Lib.QuietBelow
import Derived.Deep.RegionHeld3
set_option maxRecDepth 100000
set_option maxHeartbeats 32000000
set_option linter.unusedVariables false
namespace Lx
variable {k:Nat}
def dg (c:Int):Bool:=decide (48<=c)&&decide (c<=57)
def lt (c:Int):Bool:=decide (97<=c)&&decide (c<=122)
def wi (c:Int):Bool:=lt c || dg c || c==95
def D (c:UInt8):Bool:=dg c.toNat
def A (c:UInt8):Bool:=lt c.toNat
def W (c:UInt8):Bool:=wi c.toNat
def bl (c:UInt8):Bool:=c==32 || c==9 || c==10
def sh:List UInt8:=[43,45,42,47,37,40,41,44,59,61,63,58,60,62,38,124,94]
def two:List (List UInt8):=[[60,61],[62,61],[61,61],[33,61],[60,60],[62,62]]
def rn (p:UInt8->Bool)(l:List UInt8):Nat:=(l.takeWhile p).length
def mk (l:List UInt8):Nat:=if two.contains (l.take 2) then 2 else if sh.contains (l.headD 0) then 1 else 0
def vl (l:List UInt8):Int:=l.foldl (fun n c=>10*n+((c.toNat:Int)-48)) 0
def num (l:List UInt8):Bool:=!l.isEmpty&&l.all D&&!(l.headD 0==48&&decide (1 < l.length))&&decide (vl l<=2147483647)
def uX (l:List UInt8):Bool:=!l.isEmpty&&decide (l.length<=16)&&A (l.headD 0)&&l.all W
def kd (l:List UInt8):Int:=if D (l.headD 0) then 1 else if A (l.headD 0) then 2 else 3
def sz (l:List UInt8):Nat:=if D (l.headD 0) then rn D l else if A (l.headD 0) then rn W l else mk l
def may (k:Int)(l:List UInt8):Bool:=if k=1 then num l else if k=2 then uX l else !l.isEmpty
def gd (l:List UInt8):Bool:=may (kd l) (l.take (sz l))
def nl (c:UInt8):Bool:=c != 10
structure Tok where
 kind:Int
 text:List UInt8
 pos:Nat
theorem aBz {k:Int}{l:List UInt8}(h:may k l=true):0 < l.length:=by
 cases l with
 | nil=>revert h;unfold may;split <;> (try split) <;> simp[num,uX]
 | cons a l=>simp
theorem aBm {l:List UInt8}(h:gd l=true):0 < sz l:=by
 have:=aBz h
 rw[List.length_take] at this
 omega
theorem nH (p:UInt8->Bool):∀ l:List UInt8,(l.dropWhile p).length<=l.length
 | []=>by simp
 | a::l=>by
  rw[List.dropWhile_cons]
  have:=nH p l
  split <;> simp <;> omega
def sc:List UInt8->Nat->Option (List Tok)
 | [],_=>some []
 | c::r,p =>
  if bl c then sc r (p+1)
  else if c=35 then sc (r.dropWhile nl) (p+1+rn nl r)
  else if h:gd (c::r)=true then(sc ((c::r).drop (sz (c::r))) (p+sz (c::r))).map (fun T=>⟨kd (c::r),(c::r).take (sz (c::r)),p⟩::T)
  else none
 termination_by l=>l.length
 decreasing_by
 ·simp
 ·have:=nH nl r;simp;omega
 ·have:=aBm h;simp;omega
theorem yD (p:Nat):sc [] p=some []:=by rw[sc]
theorem yC {c:UInt8}(h:bl c=true)(r:List UInt8)(p:Nat):sc (c::r) p=sc r (p+1):=by rw[sc,if_pos h]
theorem aNo (r:List UInt8)(p:Nat):sc (35::r) p=sc (r.dropWhile nl) (p+1+rn nl r):=by
 rw[sc,if_neg (by decide),if_pos rfl]
theorem aNp {c:UInt8}{r:List UInt8}(h1:bl c=false)(h2:c≠35)(h:gd (c::r)=true)(p:Nat) :
  sc (c::r) p=(sc ((c::r).drop (sz (c::r))) (p+sz (c::r))).map (fun T=>⟨kd (c::r),(c::r).take (sz (c::r)),p⟩::T):=by
 rw[sc,if_neg (by simp[h1]),if_neg h2,dif_pos h]
theorem aNn {c:UInt8}{r:List UInt8}(h1:bl c=false)(h2:c≠35)(h:gd (c::r)=false)(p:Nat):sc (c::r) p=none:=by
 rw[sc,if_neg (by simp[h1]),if_neg h2,dif_neg (by simp[h])]
def tks (l:List UInt8):Option (List Tok):=if 1024 < l.length then none else sc l 0
def Fm (k:Int)(x:List UInt8):Prop :=
 x≠[]/\((k=1/\x.all D=true)\/(k=2/\A (x.headD 0)=true/\x.all W=true)\/(k=3/\(two.contains x=true\/∃ c,sh.contains c=true/\x=[c])))
theorem dS (p:UInt8->Bool):∀ l:List UInt8,l.take (rn p l)=l.takeWhile p
 | []=>rfl
 | a::l=>by
  unfold rn
  cases h:p a with
  | true =>
   rw[List.takeWhile_cons,if_pos h]
   have:=dS p l
   unfold rn at this
   rw[List.length_cons,List.take_succ_cons,this]
  | false=>rw[List.takeWhile_cons,if_neg (by simp[h])];rfl
theorem gK (p:UInt8->Bool):∀ l:List UInt8,(l.takeWhile p).all p=true
 | []=>rfl
 | a::l=>by
  rw[List.takeWhile_cons]
  split
  ·rename_i h;rw[List.all_cons,h,gK p l];rfl
  ·simp
theorem lY (p:UInt8->Bool):∀(x r:List UInt8),x.all p=true->(∀ a,r.head?=some a->p a=false)->(x++r).takeWhile p=x
 | [],[],_,_=>rfl
 | [],a::r,_,h=>by simp[h a rfl]
 | b::x,r,hx,h=>by
  simp only[List.all_cons,Bool.and_eq_true] at hx
  rw[List.cons_append,List.takeWhile_cons,if_pos hx.1,lY p x r hx.2 h]
theorem jO (p:UInt8->Bool)(l:List UInt8):l.takeWhile p++l.dropWhile p=l:=List.takeWhile_append_dropWhile
theorem aRj (p:UInt8->Bool)(l:List UInt8):l.drop (rn p l)=l.dropWhile p:=by
 have h:=jO p l
 have h2:=List.drop_left (l₁:=l.takeWhile p) (l₂:=l.dropWhile p)
 rw[h] at h2
 exact h2
theorem nE {x:List UInt8}(h:two.contains x=true):x=[60,61]\/x=[62,61]\/x=[61,61]\/x=[33,61]\/x=[60,60]\/x=[62,62]:=by
 simpa [two] using h
theorem aBj {l:List UInt8}(hl:l≠[])(h:gd l=true):Fm (kd l) (l.take (sz l))/\may (kd l) (l.take (sz l))=true:=by
 refine⟨⟨?_,?_⟩,h⟩
 ·have:=aBz h
  intro e
  rw[e] at this
  simp at this
 ·obtain⟨c,r,rfl⟩:∃ c r,l=c::r:=by cases l with|nil=>exact absurd rfl hl|cons c r=>exact⟨c,r,rfl⟩
  by_cases h1:D c=true
  ·left
   simp only[kd,sz,List.headD_cons,h1,if_true]
   exact⟨trivial,by rw[dS];exact gK _ _⟩
  ·simp only[Bool.not_eq_true] at h1
   by_cases h2:A c=true
   ·right;left
    simp only[kd,sz,List.headD_cons,h1,h2,if_true,Bool.false_eq_true,if_false]
    refine⟨trivial,?_,by rw[dS];exact gK _ _⟩
    rw[dS,List.takeWhile_cons,if_pos (by simp[W,wi,show lt c.toNat=true from h2])]
    exact h2
   ·simp only[Bool.not_eq_true] at h2
    right;right
    have hp:=aBm h
    simp only[kd,sz,List.headD_cons,h1,h2,Bool.false_eq_true,if_false] at hp ⊢
    refine⟨trivial,?_⟩
    unfold mk at hp ⊢
    split
    ·rename_i h3;exact .inl h3
    ·split
     ·rename_i h3;exact .inr ⟨c,h3,rfl⟩
     ·rename_i h3 h4;rw[if_neg h3,if_neg h4] at hp;omega
theorem aKb {c:UInt8}(h:A c=true):bl c=false/\c≠35/\D c=false/\W c=true:=by
 have h':97<=(c.toNat:Int)/\(c.toNat:Int)<=122:=by simpa [A,lt] using h
 refine⟨?_,fun e=>by subst e;simp at h',?_,?_⟩
 ·cases hb:bl c with
  | false=>rfl
  | true =>
   simp only[bl,Bool.or_eq_true,beq_iff_eq] at hb
   rcases hb with(rfl|rfl)|rfl <;> simp at h'
 ·simp[D,dg];omega
 ·have:lt c.toNat=true:=h
  simp[W,wi,this]
theorem aEk {p:UInt8->Bool}{l:List UInt8}(h1:(l.take k).all p=true)(hk:k<=l.length)(h2:∀ c,l[k]?=some c->p c=false):rn p l=k:=by
 have h:=lY p (l.take k) (l.drop k) h1 (by intro a ha;rw[List.head?_drop] at ha;exact h2 a ha)
 rw[List.take_append_drop] at h
 unfold rn
 rw[h,List.length_take]
 omega
theorem rM {p:UInt8->Bool}{l:List UInt8}{c:UInt8}(h1:(l.take k).all p=true)(hc:l[k]?=some c)(h:p c=true):(l.take (k+1)).all p=true:=by
 rw[List.take_add_one,hc,List.all_append,h1]
 simp[h]
theorem aOx {p:UInt8->Bool}{l:List UInt8}{c:UInt8}(hc:l[k]?=some c)(h:p c=false):l.all p=false:=by
 rw[List.all_eq_false]
 exact⟨c,List.mem_of_getElem? hc,by simp[h]⟩
def nv (l:List UInt8):Int:=if num l then vl l else 0
theorem aSb (l:List UInt8)(c:UInt8):vl (l++[c])=10*vl l+((c.toNat:Int)-48):=by simp[vl]
theorem aSc {l:List UInt8}{c:UInt8}(hc:l[k]?=some c):vl (l.take (k+1))=10*vl (l.take k)+((c.toNat:Int)-48):=by
 rw[List.take_add_one,hc];exact aSb _ _
theorem aGy {c:UInt8}:D c=true↔48<=(c.toNat:Int)/\(c.toNat:Int)<=57:=by simp[D,dg]
theorem wW:∀(l:List UInt8) (n:Int),l.all D=true->0<=n->n<=l.foldl (fun n c=>10*n+((c.toNat:Int)-48)) n
 | [],n,_,_=>by simp
 | c::l,n,h,h0=>by
  simp only[List.all_cons,Bool.and_eq_true] at h
  have hc:=aGy.1 h.1
  have:=wW l (10*n+((c.toNat:Int)-48)) h.2 (by omega)
  simp only[List.foldl_cons]
  omega
theorem uM {l:List UInt8}(h:l.all D=true):0<=vl l:=wW l 0 h (by omega)
theorem aSa {l:List UInt8}(h:l.all D=true)(k:Nat):vl (l.take k)<=vl l:=by
 have e:vl l=(l.drop k).foldl (fun n c=>10*n+((c.toNat:Int)-48)) (vl (l.take k)):=by
  unfold vl
  rw[<-List.foldl_append,List.take_append_drop]
 rw[e]
 have h':l.all D=true:=h
 rw[<-List.take_append_drop k l,List.all_append,Bool.and_eq_true] at h'
 exact wW _ _ h'.2 (uM h'.1)
theorem aUy {l:List UInt8}{c:UInt8}(hc:l[k]?=some c)(h:D c=false):num l=false:=by
 simp[num,aOx hc h]
theorem aQm {l:List UInt8}(h:2147483647 < vl (l.take k)):num l=false:=by
 cases ha:l.all D with
 | false=>simp[num,ha]
 | true =>
  have:=aSa ha k
  simp only[num,Bool.and_eq_false_iff,decide_eq_false_iff_not]
  right;omega
theorem aQo {l:List UInt8}(h0:l≠[])(h1:l.all D=true)(h2:(l.headD 0==48&&decide (1 < l.length))=false)(h3:vl l<=2147483647):num l=true:=by
 simp only[num,h1,h2,h3,decide_true,Bool.and_true,Bool.not_false]
 cases l with
 | nil=>exact absurd rfl h0
 | cons a l=>rfl
theorem aUz {l:List UInt8}(h:num l=true):nv l=vl l:=by rw[nv,if_pos h]
theorem aMn {l:List UInt8}(h:num l=false):nv l=0:=by rw[nv,if_neg (by simp[h])]
theorem aVo (p:UInt8->Bool)(l:List UInt8):(((rn p l:Nat):Int)==(l.length:Int))=l.all p:=by
 cases h:l.all p with
 | true =>
  have:=lY p l [] h (by simp)
  rw[List.append_nil] at this
  simp[rn,this]
 | false =>
  have hne:rn p l≠l.length:=by
   intro e
   have h1:=dS p l
   rw[e,List.take_length] at h1
   have h2:=gK p l
   rw[<-h1,h] at h2
   cases h2
  simp;omega
theorem kD {l:List UInt8}{c:UInt8}(hc:l[k]?=some c):l.drop k=c::l.drop (k+1):=by
 obtain⟨h,e⟩:=List.getElem?_eq_some_iff.1 hc
 rw[List.drop_eq_getElem_cons h,e]
def Inv (l:List UInt8)(k:Nat)(T:List Tok):Prop:=sc l 0=(sc (l.drop k) k).map (T++·)
theorem Inv.start (l:List UInt8):Inv l 0 []:=by
 unfold Inv
 rw[List.drop_zero]
 cases sc l 0 <;> simp
theorem Inv.blank {l:List UInt8}{T:List Tok}{c:UInt8}(h:Inv l k T)(hc:l[k]?=some c)(hb:bl c=true):Inv l (k+1) T:=by
 unfold Inv at *
 rw[h,kD hc,yC hb]
theorem Inv.rem {l:List UInt8}{k j:Nat}{T:List Tok}(h:Inv l k T)(hc:l[k]?=some 35)(hj:k < j)(hjl:j<=l.length)(ha:((l.drop k).take (j-k)).all nl=true)(he:∀ c,l[j]?=some c->c=10):Inv l j T:=by
 unfold Inv at *
 have hr:rn nl (l.drop k)=j-k:=aEk ha (by rw[List.length_drop];omega) (by
  intro c hc'
  rw[List.getElem?_drop,show k+(j-k)=j by omega] at hc'
  rw[he c hc'];rfl)
 have e1:rn nl (l.drop k)=1+rn nl (l.drop (k+1)):=by
  rw[kD hc]
  unfold rn
  rw[List.takeWhile_cons,if_pos (by decide),List.length_cons]
  omega
 have e2:(l.drop (k+1)).dropWhile nl=l.drop j:=by
  rw[<-aRj,List.drop_drop]
  congr 1
  omega
 rw[h,kD hc,aNo,e2]
 congr 2
 omega
theorem Inv.tok {l:List UInt8}{T:List Tok}{c:UInt8}(h:Inv l k T)(hc:l[k]?=some c)(h1:bl c=false)(h2:c≠35)(hg:gd (l.drop k)=true) :
  Inv l (k+sz (l.drop k)) (T++[⟨kd (l.drop k),(l.drop k).take (sz (l.drop k)),k⟩]):=by
 unfold Inv at *
 have e:=kD hc
 have hs:=aNp (p:=k) h1 h2 (by rw[<-e];exact hg)
 rw[<-e] at hs
 rw[h,hs,List.drop_drop]
 cases sc (l.drop (k+sz (l.drop k))) (k+sz (l.drop k)) <;> simp
theorem Inv.bad {l:List UInt8}{T:List Tok}{c:UInt8}(h:Inv l k T)(hc:l[k]?=some c)(h1:bl c=false)(h2:c≠35)(hg:gd (l.drop k)=false):sc l 0=none:=by
 unfold Inv at *
 have e:=kD hc
 rw[h,e,aNn h1 h2 (by rw[<-e];exact hg)]
 rfl
theorem Inv.ends {l:List UInt8}{T:List Tok}(h:Inv l k T)(hk:l.length<=k):sc l 0=some T:=by
 unfold Inv at h
 rw[h,List.drop_of_length_le hk,yD]
 simp
end Lx
namespace Go.Proofs.YtihbhbeaihdgnaaGreat
open Go.RowKit Go.IntWalk Lx
theorem aA {p:Prop}(h:p):Hid p:=h
theorem bel {w w1 w2:World}(h:Below w.heap.size w w1)(k:Below w1.heap.size w1 w2):Below w.heap.size w w2:=h.trans (k.mono h.size)
theorem aC (w:World)(o:Obj):Below w.heap.size w (w.alloc o):=(Below.refl _ _).alloc (Nat.le_refl _) _
theorem aN {k:IntKind}{a b:Int}(h:a=b):Ending.returned (.int k a)=.returned (.int k b):=by rw[h]
theorem aS {a b:Bool}(h:a=b):Ending.returned (.bool a)=.returned (.bool b):=by rw[h]
abbrev bs (s:ByteArray):List UInt8:=s.data.toList
theorem eD (s:ByteArray):(bs s).length=s.size:=by cases s;rfl
theorem zQ {s:ByteArray}{k:Nat}(h:k < s.size):(bs s)[k]?=some s[k]:=Lib.data_getElem? s k h
theorem aG2 (s:ByteArray)(k:Nat):bs (s.extract k s.size)=(bs s).drop k:=Lib.extract_to_end s k
theorem gU (c:Int)(w:World) :
  Calls Tryz.prog 138 #[.int .u8 c] w fun e w'=>e=.returned (.bool (dg c))/\w'=w:=by
 by_cases h1:48<=c
 ·go_enter Tryz.func138,Tryz.ntmps138
  go_wp2
  go_ret
  exact⟨aS (by simp[dg,h1]),rfl⟩
 ·rw[show dg c=false by simp[dg];omega]
  go_enter Tryz.func138,Tryz.ntmps138
  go_wp2
  go_ret
  exact⟨rfl,rfl⟩
theorem iW (c:Int)(w:World) :
  Calls Tryz.prog 140 #[.int .u8 c] w fun e w'=>e=.returned (.bool (lt c))/\w'=w:=by
 by_cases h1:97<=c
 ·go_enter Tryz.func140,Tryz.ntmps140
  go_wp2
  go_ret
  exact⟨aS (by simp[lt,h1]),rfl⟩
 ·rw[show lt c=false by simp[lt];omega]
  go_enter Tryz.func140,Tryz.ntmps140
  go_wp2
  go_ret
  exact⟨rfl,rfl⟩
theorem bG (c:Int)(w:World) :
  Calls Tryz.prog 141 #[.int .u8 c] w fun e w'=>e=.returned (.bool (wi c))/\w'=w:=by
 cases h1:lt c with
 | true =>
  rw[show wi c=true by simp[wi,h1]]
  go_enter Tryz.func141,Tryz.ntmps141
  go_wp2_with (go_at_call 140;refine(iW _ _).mono ?_;rintro e w' ⟨rfl,rfl⟩)
  go_ret
  exact⟨rfl,rfl⟩
 | false =>
  cases h2:dg c with
  | true =>
   rw[show wi c=true by simp[wi,h1,h2]]
   go_enter Tryz.func141,Tryz.ntmps141
   go_wp2_with (first|(go_at_call 140;refine(iW _ _).mono ?_;rintro e w' ⟨rfl,rfl⟩)|(go_at_call 138;refine(gU _ _).mono ?_;rintro e w' ⟨rfl,rfl⟩))
   go_ret
   exact⟨rfl,rfl⟩
  | false =>
   go_enter Tryz.func141,Tryz.ntmps141
   go_wp2_with (first|(go_at_call 140;refine(iW _ _).mono ?_;rintro e w' ⟨rfl,rfl⟩)|(go_at_call 138;refine(gU _ _).mono ?_;rintro e w' ⟨rfl,rfl⟩))
   go_ret
   exact⟨aS (by simp[wi,h1,h2]),rfl⟩
abbrev fv (n:Nat):Value:=.func (.func n) #[] #[]
theorem aJp (s:ByteArray)(w:World)(hs:s.size<=maxLen) :
  Calls Tryz.prog 139 #[.string s,fv 138] w fun e w'=>e=.returned (.int .i64 (rn D (bs s)))/\w'=w:=by
 unfold maxLen at hs
 go_enter Tryz.func139,Tryz.ntmps139
 go_wp2
 go_loop [5] (fun i=>∃ k:Nat,k<=s.size/\i=.int .i64 k/\Hid (((bs s).take k).all D=true)) (fun i=>s.size-(intOf i).toNat)
 case atStart=>exact⟨0,Nat.zero_le _,rfl,aA (by simp)⟩
 case round =>
  obtain⟨k,hk,rfl,ha⟩:=hrel
  by_cases hlt:k < s.size
  ·have hc:=aA (zQ hlt)
   cases hd:dg (s[k].toNat) with
   | true =>
    go_wp2_with (go_at_call 138;refine(gU _ _).mono ?_;rintro e w' ⟨rfl,rfl⟩)
    go_round
    case rel=>exact⟨k+1,by omega,by go_num,aA (rM ha.o hc.o hd)⟩
    case measure=>simp[intOf];omega
   | false =>
    go_wp2_with (go_at_call 138;refine(gU _ _).mono ?_;rintro e w' ⟨rfl,rfl⟩)
    go_ret
    exact⟨aN (by rw[aEk ha.o (by rw[eD];omega) (by intro c h;rw[hc.o] at h;cases h;exact hd)]),rfl⟩
  ·go_wp2
   go_ret
   exact⟨aN (by rw[aEk ha.o (by rw[eD];omega) (by intro c h;rw[List.getElem?_eq_none (by rw[eD];omega)] at h;cases h)]),rfl⟩
theorem xY (s:ByteArray)(w:World)(hs:s.size<=maxLen) :
  Calls Tryz.prog 139 #[.string s,fv 141] w fun e w'=>e=.returned (.int .i64 (rn W (bs s)))/\w'=w:=by
 unfold maxLen at hs
 go_enter Tryz.func139,Tryz.ntmps139
 go_wp2
 go_loop [5] (fun i=>∃ k:Nat,k<=s.size/\i=.int .i64 k/\Hid (((bs s).take k).all W=true)) (fun i=>s.size-(intOf i).toNat)
 case atStart=>exact⟨0,Nat.zero_le _,rfl,aA (by simp)⟩
 case round =>
  obtain⟨k,hk,rfl,ha⟩:=hrel
  by_cases hlt:k < s.size
  ·have hc:=aA (zQ hlt)
   cases hd:wi (s[k].toNat) with
   | true =>
    go_wp2_with (go_at_call 141;refine(bG _ _).mono ?_;rintro e w' ⟨rfl,rfl⟩)
    go_round
    case rel=>exact⟨k+1,by omega,by go_num,aA (rM ha.o hc.o hd)⟩
    case measure=>simp[intOf];omega
   | false =>
    go_wp2_with (go_at_call 141;refine(bG _ _).mono ?_;rintro e w' ⟨rfl,rfl⟩)
    go_ret
    exact⟨aN (by rw[aEk ha.o (by rw[eD];omega) (by intro c h;rw[hc.o] at h;cases h;exact hd)]),rfl⟩
  ·go_wp2
   go_ret
   exact⟨aN (by rw[aEk ha.o (by rw[eD];omega) (by intro c h;rw[List.getElem?_eq_none (by rw[eD];omega)] at h;cases h)]),rfl⟩
end Go.Proofs.YtihbhbeaihdgnaaGreat
namespace Go.Proofs.YtihbhbeaihdgnaaGreat
open Go.ChangeShapes Go.WideShapes Go.ChangeAt Go.RowKit
theorem aYo:ownKnob Tryz.prog.godebug=none:=by kernel_rfl
theorem sH:laidOutB Tryz.prog=true:=by kernel_rfl
theorem aQr:Tryz.prog.cellsOf 23=2:=by kernel_rfl
theorem aB4:Tryz.prog.cellsOf 3=1:=by kernel_rfl
theorem kL {H:Type}{enc:TypeId × Value->H}{W:World}{b:Nat}{sp:Nat->Bool}{hd:Bool}{n:Nat}{v:Value}{y:Option (DataW H × List MemPlace)}
  (h:DataW.trod enc Tryz.prog W b sp hd n 3 [v]=y) (hy:y.isSome=true):∃ a,v=.int .i64 a/\y=some (.lit (.int .i64 a),[])/\(Lit.int .i64 a).wf=true:=by
 cases y with
 | none=>cases hy
 | some x =>
  obtain⟨a,h1,h2,h3⟩:=DataW.trod_int Tryz.underlying3 h
  simp at h1
  exact⟨a,h1,by rw[h2],h3⟩
theorem aJd {H:Type}{enc:TypeId × Value->H}{W:World}{r:Reach}{b0 b:Nat}{sp:Nat->Bool}{hd:Bool}{v:Value}{d:DataW H}{ps:List MemPlace}
  (hval:Value.okWide Tryz.prog W r b0 23 v) (h:DataW.Trod enc Tryz.prog W b sp hd 23 v d ps):∃ x y,v=.agg #[.int .i64 x,.int .i64 y]:=by
 unfold Value.okWide at hval
 rw[Tryz.underlying23] at hval
 obtain⟨cs,rfl,hsz,_⟩:=hval
 rw[aQr] at hsz
 obtain⟨fuel,hf⟩:=h
 obtain⟨xs,n,_,hx,hl,hxs,hall⟩:=DataW.trod_struct Tryz.underlying23 hf
 obtain⟨c0,c1,rfl⟩:∃ c0 c1,cs=#[c0,c1]:=by
  obtain⟨l⟩:=cs
  match l,hsz with
  | [a,b],_=>exact⟨a,b,rfl⟩
 have hlen:xs.length=2:=hxs
 have f0:=hall 0 _ rfl
 have f1:=hall 1 _ rfl
 simp only[Value.cells] at f0 f1
 obtain⟨x,rfl,_,_⟩:=kL f0 (by simp[hlen])
 obtain⟨y,rfl,_,_⟩:=kL f1 (by simp[hlen])
 exact⟨x,y,rfl⟩
end Go.Proofs.YtihbhbeaihdgnaaGreat
namespace Go.Proofs.YtihbhbeaihdgnaaGreat
open Go.RowKit Go.IntWalk Lx
abbrev shS:ByteArray:=⟨#[43,45,42,47,37,40,41,44,59,61,63,58,60,62,38,124,94]⟩
theorem aP2 (s:ByteArray)(c:Int)(w:World) :
  Calls Tryz.prog 202 #[.string s,.int .u8 c] w fun e w'=>e=.returned (.int .i64 (Lib.indexByte (bs s) c.toNat.toUInt8))/\w'=w:=by
 go_enter Tryz.func202,Tryz.ntmps202
 go_wp2
 rw[run_callFunc_extern Tryz.func231 (by kernel_rfl) (by kernel_rfl) (by kernel_rfl) (e:=Extern.BytealgIndexByte.indexByte) (by kernel_rfl),Lib.run_indexByteString]
 simp only[Result.andThen]
 rw[Oper.upon_value]
 go_wp2
 go_ret
 exact⟨rfl,rfl⟩
theorem aRr (s:ByteArray)(c:Int)(w:World) :
  Calls Tryz.prog 175 #[.string s,.int .u8 c] w fun e w'=>e=.returned (.int .i64 (Lib.indexByte (bs s) c.toNat.toUInt8))/\w'=w:=by
 go_enter Tryz.func175,Tryz.ntmps175
 go_wp2_with (go_at_call 202;refine(aP2 _ _ _).mono ?_;rintro e w' ⟨rfl,rfl⟩)
 go_ret
 exact⟨rfl,rfl⟩
end Go.Proofs.YtihbhbeaihdgnaaGreat
namespace Go.Proofs.YtihbhbeaihdgnaaGreat
open Go.RowKit Go.IntWalk Lx
theorem xX {a b:Int}{c d:Bool}(h:a=b)(h':c=d):Ending.returned (.tuple #[.int .i64 a,.bool c])=.returned (.tuple #[.int .i64 b,.bool d]):=by rw[h,h']
def ixv (c:UInt8):Int:=Lib.indexByte sh c
theorem tY:∀(l:List UInt8) (c:UInt8),(0<=Lib.indexByte l c↔l.contains c=true)
 | [],c=>by simp[Lib.indexByte]
 | b::l,c=>by
  have ih:=tY l c
  have hg:=Lib.indexByte_ge l c
  rw[List.contains_cons]
  unfold Lib.indexByte
  by_cases h:b=c
  ·subst h;simp
  ·have h1:(b==c)=false:=by simp[h]
   have h2:(c==b)=false:=by simp;exact fun e=>h e.symm
   rw[h1,h2]
   simp only[Bool.false_eq_true,if_false,Bool.false_or]
   by_cases h3:Lib.indexByte l c=-1
   ·rw[h3] at ih
    simp[h3] at ih ⊢
    exact ih
   ·simp only[beq_iff_eq,h3,if_false]
    rw[<-ih]
    omega
theorem aP5 {c:UInt8}(h:sh.contains c=true):0<=ixv c:=(tY sh c).2 h
theorem aT2 {c:UInt8}(h:sh.contains c=false):ixv c < 0:=by
 have:=tY sh c
 rw[h] at this
 have:¬0<=Lib.indexByte sh c:=by simpa using this
 unfold ixv
 omega
theorem aNy (c:UInt8)(w:World) :
  Calls Tryz.prog 175 #[.string shS,.int .u8 (c.toNat:Nat)] w fun e w'=>e=.returned (.int .i64 (ixv c))/\w'=w:=by
 have h:=aRr shS (c.toNat:Nat) w
 rw[Lib.byte_back] at h
 exact h
theorem lD {s:ByteArray}(h:0 < s.size):∃ t,bs s=s[0]::t:=by
 have h1:=zQ h
 cases hb:bs s with
 | nil=>rw[hb] at h1;simp at h1
 | cons a t=>rw[hb] at h1;simp at h1;exact⟨t,by rw[h1]⟩
theorem rQ {s:ByteArray}(h:0 < s.size):(bs s).headD 0=s[0]:=by
 obtain⟨t,ht⟩:=lD h
 rw[ht];rfl
theorem aTa (s:ByteArray):(s.extract 0 2).toList=(bs s).take 2:=by
 rw[ByteArray.toList_eq]
 simp[ByteArray.data_extract]
theorem aKp {s:ByteArray}(h:s.size=0):s=⟨#[]⟩:=ByteArray.ext (Array.eq_empty_of_size_eq_zero h)
theorem aL5 (s:ByteArray)(w:World)(h0:0 < s.size)(hs:s.size<=maxLen) :
  Calls Tryz.prog 142 #[.string s] w fun e w'=>e=.returned (.int .i64 (mk (bs s)))/\w'=w:=by
 unfold maxLen at hs
 obtain⟨t,ht⟩:=lD h0
 have hh:=aA (rQ h0)
 have H2:1 < s.size\/two.contains ((bs s).take 2)=false:=by
  by_cases h:1 < s.size
  ·exact .inl h
  ·right
   have hl:(bs s).length=1:=by rw[eD];omega
   cases t with
   | nil=>rw[ht];simp[two]
   | cons a t=>rw[ht] at hl;simp at hl
 clear ht t
 have hT:=aTa s
 cases hm:two.contains ((bs s).take 2) with
 | true =>
  have h1:1 < s.size:=by
   rcases H2 with h|h
   ·exact h
   ·rw[h] at hm;cases hm
  have hr:mk (bs s)=2:=by unfold mk;rw[if_pos hm]
  rw[hr]
  clear H2 hr
  rcases nE hm with h|h|h|h|h|h <;>
  ·rw[h] at hT
   clear h hm
   go_enter Tryz.func142,Tryz.ntmps142
   go_wp2
   go_ret
   exact⟨rfl,rfl⟩
 | false =>
  have hr:mk (bs s)=if sh.contains s[0] then 1 else 0:=by unfold mk;rw[if_neg (by rw[hm];simp),hh.o]
  have hr':=aA hr
  clear hr
  obtain⟨T,hTT⟩:∃ T,(bs s).take 2=T:=⟨_,rfl⟩
  rw[hTT] at hT hm
  clear hTT
  have hn:(T==[60,61])=false/\(T==[62,61])=false/\(T==[61,61])=false/\(T==[33,61])=false/\(T==[60,60])=false/\(T==[62,62])=false:=by
   simp[two] at hm
   simpa using hm
  obtain⟨n1,n2,n3,n4,n5,n6⟩:=hn
  clear hm H2
  cases hc:sh.contains s[0] with
  | true =>
   have hx:=aP5 hc
   by_cases h1:1 < s.size <;>
   ·go_enter Tryz.func142,Tryz.ntmps142
    go_wp2_with (go_at_call 175;refine(aNy _ _).mono ?_;rintro e w' ⟨rfl,rfl⟩)
    go_ret
    exact⟨aN (by rw[hr'.o,hc];rfl),rfl⟩
  | false =>
   have hx:=aT2 hc
   by_cases h1:1 < s.size <;>
   ·go_enter Tryz.func142,Tryz.ntmps142
    go_wp2_with (go_at_call 175;refine(aNy _ _).mono ?_;rintro e w' ⟨rfl,rfl⟩)
    go_ret
    exact⟨aN (by rw[hr'.o,hc];rfl),rfl⟩
theorem dU (s:ByteArray)(w:World)(hs:s.size<=maxLen) :
  Calls Tryz.prog 145 #[.string s] w fun e w'=>e=.returned (.bool (uX (bs s)))/\w'=w:=by
 by_cases h0:s.size=0
 ·obtain rfl:=aKp h0
  go_enter Tryz.func145,Tryz.ntmps145
  go_wp2
  go_ret
  exact⟨rfl,rfl⟩
 ·have h0':0 < s.size:=by omega
  have hE:(s.toList==[])=false:=by
   rw[ByteArray.toList_eq]
   obtain⟨t,ht⟩:=lD h0'
   rw[show s.data.toList=_ from ht];rfl
  have hW:=aA (show uX (bs s)=(decide (s.size<=16)&&lt s[0].toNat&&(bs s).all W) by
   unfold uX
   rw[eD,rQ h0']
   obtain⟨t,ht⟩:=lD h0'
   rw[ht];rfl)
  have hl:=aA (aVo W (bs s))
  rw[eD] at hl
  have hs':=aA hs
  unfold maxLen at hs
  by_cases h1:s.size<=16
  ·cases hc:lt s[0].toNat with
   | true =>
    go_enter Tryz.func145,Tryz.ntmps145
    go_wp2_with (first|(go_at_call 140;refine(iW _ _).mono ?_;rintro e w' ⟨rfl,rfl⟩)|(go_at_call 139;refine(xY _ _ hs'.o).mono ?_;rintro e w' ⟨rfl,rfl⟩))
    go_ret
    exact⟨aS (by rw[hW.o,hc,hl.o];simp[h1]),rfl⟩
   | false =>
    go_enter Tryz.func145,Tryz.ntmps145
    go_wp2_with (go_at_call 140;refine(iW _ _).mono ?_;rintro e w' ⟨rfl,rfl⟩)
    go_ret
    exact⟨aS (by rw[hW.o,hc];simp),rfl⟩
  ·go_enter Tryz.func145,Tryz.ntmps145
   go_wp2
   go_ret
   exact⟨aS (by rw[hW.o];simp[h1]),rfl⟩
end Go.Proofs.YtihbhbeaihdgnaaGreat
namespace Go.Proofs.YtihbhbeaihdgnaaGreat
open Go.RowKit Go.IntWalk Lx
theorem aJv {s:ByteArray}(h:0 < s.size):(s.toList==[])=false:=by
 rw[ByteArray.toList_eq]
 obtain⟨t,ht⟩:=lD h
 rw[show s.data.toList=_ from ht];rfl
theorem aJ7 {s:ByteArray}(h:0 < s.size):((bs s).headD 0==48&&decide (1 < (bs s).length))=(((s[0].toNat:Int)==48)&&!(s.toList==[48])):=by
 rw[ByteArray.toList_eq,rQ h]
 obtain⟨t,ht⟩:=lD h
 rw[show s.data.toList=_ from ht,ht]
 by_cases h48:s[0]=48
 ·rw[h48]
  cases t with
  | nil=>rfl
  | cons a t=>simp
 ·have h2:¬(s[0].toNat:Int)=48:=fun e=>h48 (UInt8.toNat_inj.1 (by simp;omega))
  rw[beq_eq_false_iff_ne.2 h48,beq_eq_false_iff_ne.2 h2]
  rfl
theorem iY (s:ByteArray)(w:World)(hs:s.size<=maxLen) :
  Calls Tryz.prog 144 #[.string s] w fun e w'=>e=.returned (.tuple #[.int .i64 (nv (bs s)),.bool (num (bs s))])/\w'=w:=by
 unfold maxLen at hs
 by_cases h0:s.size=0
 ·obtain rfl:=aKp h0
  go_enter Tryz.func144,Tryz.ntmps144
  go_wp2
  go_ret2
  exact⟨rfl,rfl⟩
 ·have h0':0 < s.size:=by omega
  have hE:=aJv h0'
  have hz:=aA (aJ7 h0')
  by_cases hb:((s[0].toNat:Int)==48)=true/\(s.toList==[48])=false
  ·obtain⟨h1,h2⟩:=hb
   have hn:num (bs s)=false:=by unfold num;rw[hz.o,h1,h2];simp
   rw[aMn hn,hn]
   clear hn
   go_enter Tryz.func144,Tryz.ntmps144
   go_wp2
   go_ret2
   exact⟨rfl,rfl⟩
  ·have hz2:=aA (show ((bs s).headD 0==48&&decide (1 < (bs s).length))=false by
    rw[hz.o]
    cases h1:((s[0].toNat:Int)==48)
    ·rfl
    ·cases h2:(s.toList==[48])
     ·exact absurd ⟨h1,h2⟩ hb
     ·rfl)
   have hne:=aA (show bs s≠[] by
    obtain⟨t,ht⟩:=lD h0'
    rw[ht];simp)
   have ways:((s[0].toNat:Int)==48)=false\/(((s[0].toNat:Int)==48)=true/\(s.toList==[48])=true):=by
    cases h1:((s[0].toNat:Int)==48)
    ·exact .inl rfl
    ·cases h2:(s.toList==[48])
     ·exact absurd ⟨h1,h2⟩ hb
     ·exact .inr ⟨rfl,rfl⟩
   clear hb hz
   rcases ways with h1|⟨h1,h2⟩
   all_goals
    go_enter Tryz.func144,Tryz.ntmps144
    go_wp2
    go_loop [4,19] (fun n i=>∃ k:Nat,∃ V:Int,k<=s.size/\i=.int .i64 k/\n=.int .i64 V/\0<=V/\V<=2147483647/\Hid (V=vl ((bs s).take k))/\Hid (((bs s).take k).all D=true)) (fun _ i=>s.size-(intOf i).toNat)
    case atStart=>exact⟨0,0,Nat.zero_le _,rfl,rfl,by omega,by omega,aA rfl,aA (by simp)⟩
    case round =>
     obtain⟨k,V,hk,rfl,rfl,hV0,hV1,hV,ha⟩:=hrel
     by_cases hlt:k < s.size
     ·have hc:=aA (zQ hlt)
      cases hd:dg (s[k].toNat) with
      | false =>
       go_wp2_with (go_at_call 138;refine(gU _ _).mono ?_;rintro e w' ⟨rfl,rfl⟩)
       go_ret2
       have hn:=aUy hc.o hd
       exact⟨xX (aMn hn).symm hn.symm,rfl⟩
      | true =>
       obtain⟨b1,b2⟩:=aGy.1 hd
       have hv:=aA (aSc hc.o)
       rw[<-hV.o] at hv
       by_cases hbig:10*V+((s[k].toNat:Int)-48)<=2147483647
       ·go_wp2_with (go_at_call 138;refine(gU _ _).mono ?_;rintro e w' ⟨rfl,rfl⟩)
        go_round
        case rel=>exact⟨k+1,_,by omega,by go_num,rfl,by omega,by omega,aA hv.o.symm,aA (rM ha.o hc.o hd)⟩
        case measure=>simp[intOf];omega
       ·have hbig':2147483647 < 10*V+((s[k].toNat:Int)-48):=by omega
        clear hbig
        go_wp2_with (go_at_call 138;refine(gU _ _).mono ?_;rintro e w' ⟨rfl,rfl⟩)
        go_ret2
        have hn:=aQm (l:=bs s) (k:=k+1) (by rw[hv.o];exact hbig')
        exact⟨xX (aMn hn).symm hn.symm,rfl⟩
     ·go_wp2
      go_ret2
      have he:(bs s).take k=bs s:=List.take_of_length_le (by rw[eD];omega)
      rw[he] at hV ha
      have hn:=aQo hne.o ha.o hz2.o (by rw[<-hV.o];omega)
      exact⟨xX (by rw[aUz hn];exact hV.o) hn.symm,rfl⟩
end Go.Proofs.YtihbhbeaihdgnaaGreat
namespace Go.Proofs.YtihbhbeaihdgnaaGreat
open Go.RowKit Go.IntWalk Lx
theorem gZ (s:ByteArray):s.toList=bs s:=ByteArray.toList_eq s
end Go.Proofs.YtihbhbeaihdgnaaGreat
namespace Go.Proofs.YtihbhbeaihdgnaaGreat
open Go.RowKit Go.IntWalk Lx
def aYn:Go.Shelf.Ren:=⟨fun n=>if n=25 then 143 else n,fun n=>if n=37 then 189 else if n=47 then 190 else n,fun n=>n⟩
theorem lays:LaysPu.n25 Tryz.prog aYn where
 mixed:=by kernel_rfl
 f25:=by kernel_rfl
 t0:=Tryz.underlying0
 a0:=Tryz.isAgg0
 z0:=Tryz.sizeOf0
 v0:=Tryz.zeroValue0
 i0:=by kernel_rfl
 t3:=Tryz.underlying3
 a3:=Tryz.isAgg3
 z3:=Tryz.sizeOf3
 v3:=Tryz.zeroValue3
 i3:=by kernel_rfl
 t4:=Tryz.underlying4
 a4:=Tryz.isAgg4
 z4:=Tryz.sizeOf4
 v4:=Tryz.zeroValue4
 i4:=by kernel_rfl
 t5:=Tryz.underlying5
 a5:=Tryz.isAgg5
 z5:=Tryz.sizeOf5
 v5:=Tryz.zeroValue5
 i5:=by kernel_rfl
 t9:=Tryz.underlying9
 a9:=Tryz.isAgg9
 z9:=Tryz.sizeOf9
 v9:=Tryz.zeroValue9
 i9:=by kernel_rfl
 t37:=Tryz.underlying189
 a37:=Tryz.isAgg189
 z37:=Tryz.sizeOf189
 v37:=Tryz.zeroValue189
 i37:=by kernel_rfl
 t47:=Tryz.underlying190
 a47:=Tryz.isAgg190
 z47:=Tryz.sizeOf190
 v47:=Tryz.zeroValue190
 i47:=by kernel_rfl
theorem aFr (s:ByteArray)(w:World)(hlim:s.size<=281474976710656) :
 Calls Tryz.prog 143 #[.string s] w fun e w'=>e=.returned (.string s)/\Below w.heap.size w w':=AnyPu.stringslite_Clone lays s w hlim
theorem aIo (s:ByteArray)(w:World)(hlim:s.size<=281474976710656) :
  Calls Tryz.prog 106 #[.string s] w fun e w'=>e=.returned (.string s)/\Below w.heap.size w w':=by
 have hl:=aA hlim
 clear hlim
 go_enter Tryz.func106,Tryz.ntmps106
 go_wp2_with fail
 refine(aFr _ _ hl.o).mono ?_
 rintro e w' ⟨rfl,hb⟩
 have HB:=aA hb
 clear hb
 go_wp2_with fail
 go_ret
 exact⟨rfl,HB.o⟩
theorem aDs (s:ByteArray)(w:World)(h0:0 < s.size)(hs:s.size<=maxLen) :
  Calls Tryz.prog 105 #[.string s] w fun e w'=>e=.returned (.tuple #[.int .i64 (kd (bs s)),.int .i64 (sz (bs s))])/\w'=w:=by
 have hs':=aA hs
 have h0':=aA h0
 unfold maxLen at hs
 have hD:D ((bs s).headD 0)=dg s[0].toNat:=by rw[rQ h0];rfl
 have hA:A ((bs s).headD 0)=lt s[0].toNat:=by rw[rQ h0];rfl
 have HD:=fun w=>aA (gU s[0].toNat w)
 have HA:=fun w=>aA (iW s[0].toNat w)
 cases h1:dg s[0].toNat with
 | true =>
  rw[show kd (bs s)=1 by unfold kd;rw[hD,h1];rfl,show sz (bs s)=rn D (bs s) by unfold sz;rw[hD,h1];rfl]
  rw[h1] at HD
  clear hD hA HA h1
  go_enter Tryz.func105,Tryz.ntmps105
  go_wp2_with fail
  refine(HD _).o.mono ?_
  rintro e w' ⟨rfl,rfl⟩
  go_wp2_with fail
  refine(aJp _ _ hs'.o).mono ?_
  rintro e w' ⟨rfl,rfl⟩
  go_wp2_with fail
  go_ret2
  exact⟨rfl,rfl⟩
 | false =>
  rw[h1] at HD
  cases h2:lt s[0].toNat with
  | true =>
   rw[show kd (bs s)=2 by unfold kd;rw[hD,h1,hA,h2];rfl,show sz (bs s)=rn W (bs s) by unfold sz;rw[hD,h1,hA,h2];rfl]
   rw[h2] at HA
   clear hD hA h1 h2
   go_enter Tryz.func105,Tryz.ntmps105
   go_wp2_with fail
   refine(HD _).o.mono ?_
   rintro e w' ⟨rfl,rfl⟩
   go_wp2_with fail
   refine(HA _).o.mono ?_
   rintro e w' ⟨rfl,rfl⟩
   go_wp2_with fail
   refine(xY _ _ hs'.o).mono ?_
   rintro e w' ⟨rfl,rfl⟩
   go_wp2_with fail
   go_ret2
   exact⟨rfl,rfl⟩
  | false =>
   rw[show kd (bs s)=3 by unfold kd;rw[hD,h1,hA,h2];rfl,show sz (bs s)=mk (bs s) by unfold sz;rw[hD,h1,hA,h2];rfl]
   rw[h2] at HA
   clear hD hA h1 h2
   go_enter Tryz.func105,Tryz.ntmps105
   go_wp2_with fail
   refine(HD _).o.mono ?_
   rintro e w' ⟨rfl,rfl⟩
   go_wp2_with fail
   refine(HA _).o.mono ?_
   rintro e w' ⟨rfl,rfl⟩
   go_wp2_with fail
   refine(aL5 _ _ h0'.o hs'.o).mono ?_
   rintro e w' ⟨rfl,rfl⟩
   go_wp2_with fail
   go_ret2
   exact⟨rfl,rfl⟩
end Go.Proofs.YtihbhbeaihdgnaaGreat
namespace Go.Proofs.YtihbhbeaihdgnaaGreat
open Go.RowKit Go.IntWalk Lx
variable {W:World} {b:Nat} {t:TypeId} {cs:Array Value} {y:Value}
def aB (W:World)(b:Nat)(t:TypeId)(cs:Array Value):Prop:=W.heap[b]?=some (.cells cs t (0,0))
theorem aB.lt (h:aB W b t cs):b < W.heap.size:=(Array.getElem?_eq_some_iff.1 h).1
theorem aB.new (W:World)(t:TypeId)(cs:Array Value):aB (W.alloc (.cells cs t)) W.heap.size t cs:=heap_alloc_new W _
theorem aB.kept {W':World}{row:Option Nat}(h:aB W b t cs)(hg:W.grownBy W' row)(hne:some b≠row):aB W' b t cs:=(hg.block b h.lt hne).trans h
theorem aB.alloc {W:World}{b:Nat}{t:TypeId}{cs:Array Value}(h:aB W b t cs)(o:Obj):aB (W.alloc o) b t cs:=h.kept (World.grownBy_alloc W o none) (by simp)
theorem aB.below {W':World}(h:aB W b t cs)(hb:Below W.heap.size W W'):aB W' b t cs:=(hb.block b h.lt).trans h
theorem aB.cell {W:World}{b:Nat}{t:TypeId}{cs:Array Value}(h:aB W b t cs)(i:Nat){v:Value}(hv:cs[i]?=some v):W.cell? ⟨b,i,none⟩=some v:=(cell_of_row W b i cs t (0,0) h).trans hv
theorem aB.frozen {W:World}{b:Nat}{t:TypeId}{cs:Array Value}(h:aB W b t cs)(i:Nat):W.frozen? ⟨b,i,none⟩=false:=by
 simp[World.frozen?,show W.heap[b]?=_ from h]
theorem aB.other (h:aB W b t cs){p:Addr}(hne:b≠p.block)(u:Value):aB (W.setCell p u) b t cs:=(Below.heap_setCell W p u b hne).trans h
theorem aB.set (h:aB W b t cs)(i:Nat)(u:Value):aB (W.setCell ⟨b,i,none⟩ u) b t (cs.setIfInBounds i u):=by
 obtain⟨hlt,hk⟩:=Array.getElem?_eq_some_iff.1 h
 show (W.heap.modify b _)[b]?=_
 rw[Array.getElem?_eq_getElem (by rw[Array.size_modify];exact hlt),Array.getElem_modify_self,hk]
 rfl
theorem iE {x z:Value}(h:aB W b t #[x,y,z]):W.cell? ⟨b,0,none⟩=some x/\W.cell? ⟨b,1,none⟩=some y/\W.cell? ⟨b,2,none⟩=some z :=
 ⟨h.cell 0 rfl,h.cell 1 rfl,h.cell 2 rfl⟩
theorem zY {x z:Value}(h:aB W b t #[x,y,z]):W.frozen? ⟨b,0,none⟩=false/\W.frozen? ⟨b,1,none⟩=false/\W.frozen? ⟨b,2,none⟩=false :=
 ⟨h.frozen 0,h.frozen 1,h.frozen 2⟩
theorem aF (W:World):Below W.heap.size W W.drew:=⟨rfl,rfl,rfl,Nat.le_refl _,fun _ _=>rfl⟩
theorem aV {o:Obj}{i:Nat}(h:b < W.heap.size):(W.alloc o).cell? ⟨b,i,none⟩=W.cell? ⟨b,i,none⟩:=(aC W o).cell (p:=⟨b,i,none⟩) h
theorem aX9 {g:Nat}{u v x0 x1 x2:Value}(hb:b < g)(h0:W.cell? ⟨g,0,none⟩=some x0)(h1:W.cell? ⟨g,1,none⟩=some x1)(h2:W.cell? ⟨g,2,none⟩=some x2) :
  (((W.setCell ⟨b,0,none⟩ u).setCell ⟨b,1,none⟩ v).setCell ⟨b,2,none⟩ y).cell? ⟨g,0,none⟩=some x0/\(((W.setCell ⟨b,0,none⟩ u).setCell ⟨b,1,none⟩ v).setCell ⟨b,2,none⟩ y).cell? ⟨g,1,none⟩=some x1/\(((W.setCell ⟨b,0,none⟩ u).setCell ⟨b,1,none⟩ v).setCell ⟨b,2,none⟩ y).cell? ⟨g,2,none⟩=some x2:=by
 have h:(((W.setCell ⟨b,0,none⟩ u).setCell ⟨b,1,none⟩ v).setCell ⟨b,2,none⟩ y).heap[g]?=W.heap[g]? :=
  (Below.heap_setCell _ _ _ g (by simp;omega)).trans ((Below.heap_setCell _ _ _ g (by simp;omega)).trans (Below.heap_setCell _ _ _ g (by simp;omega)))
 exact⟨(World.cell?_of_block (a:=⟨g,0,none⟩) h).trans h0,(World.cell?_of_block (a:=⟨g,1,none⟩) h).trans h1,(World.cell?_of_block (a:=⟨g,2,none⟩) h).trans h2⟩
theorem aRy {w w2:World}{p q r:Value}(h:aB w2 b t #[p,q,r])(hB:Below w.heap.size w w2)(hb:w.heap.size<=b)(x:Int)(y:ByteArray)(z:Int) :
  (((w2.setCell ⟨b,0,none⟩ (.int .i64 x)).setCell ⟨b,1,none⟩ (.string y)).setCell ⟨b,2,none⟩ (.int .i64 z)).cell? ⟨b,0,none⟩=some (.int .i64 x) /\
  (((w2.setCell ⟨b,0,none⟩ (.int .i64 x)).setCell ⟨b,1,none⟩ (.string y)).setCell ⟨b,2,none⟩ (.int .i64 z)).cell? ⟨b,1,none⟩=some (.string y) /\
  (((w2.setCell ⟨b,0,none⟩ (.int .i64 x)).setCell ⟨b,1,none⟩ (.string y)).setCell ⟨b,2,none⟩ (.int .i64 z)).cell? ⟨b,2,none⟩=some (.int .i64 z) /\
  Below w.heap.size w (((w2.setCell ⟨b,0,none⟩ (.int .i64 x)).setCell ⟨b,1,none⟩ (.string y)).setCell ⟨b,2,none⟩ (.int .i64 z)):=by
 have h3:=((h.set 0 (.int .i64 x)).set 1 (.string y)).set 2 (.int .i64 z)
 exact⟨h3.cell 0 rfl,h3.cell 1 rfl,h3.cell 2 rfl,((hB.setCell (by exact hb) _).setCell (by exact hb) _).setCell (by exact hb) _⟩
abbrev tc (k:Int)(s:ByteArray)(p:Int):Array Value:=#[.int .i64 k,.string s,.int .i64 p]
theorem pK (k:Int)(s:ByteArray)(p:Int)(w:World)(hs:s.size<=maxLen) :
  Calls Tryz.prog 107 #[.agg (tc k s p)] w fun e w'=>e=.returned (.bool (may k (bs s)))/\Below w.heap.size w w':=by
 have HB:=aA (aC w (.cells (tc k s p) 118))
 have hs':=aA hs
 clear hs
 by_cases h1:k=1
 ·subst h1
  rw[show may 1 (bs s)=num (bs s) from rfl]
  go_enter Tryz.func107,Tryz.ntmps107
  go_wp2_with fail
  refine(iY _ _ hs'.o).mono ?_
  rintro e w' ⟨rfl,rfl⟩
  go_wp2_with fail
  go_ret
  exact⟨rfl,HB.o⟩
 ·by_cases h2:k=2
  ·subst h2
   rw[show may 2 (bs s)=uX (bs s) from rfl]
   clear h1
   go_enter Tryz.func107,Tryz.ntmps107
   go_wp2_with fail
   refine(dU _ _ hs'.o).mono ?_
   rintro e w' ⟨rfl,rfl⟩
   go_wp2_with fail
   go_ret
   exact⟨rfl,HB.o⟩
  ·have e1:(k==1)=false:=by simp[h1]
   have e2:(k==2)=false:=by simp[h2]
   have hm:=aA (show may k (bs s)=!s.toList.isEmpty by
    unfold may
    rw[if_neg h1,if_neg h2,gZ])
   clear h1 h2
   go_enter Tryz.func107,Tryz.ntmps107
   go_wp2_with fail
   go_ret
   exact⟨aS hm.o.symm,HB.o⟩
theorem aSl (s:ByteArray)(k:Nat):bs (s.extract 0 k)=(bs s).take k:=by
 show (s.extract 0 k).data.toList=_
 rw[ByteArray.data_extract]
 simp
theorem sZ (p:UInt8->Bool)(l:List UInt8):rn p l<=l.length:=by
 have h:=congrArg List.length (jO p l)
 rw[List.length_append] at h
 unfold rn
 omega
theorem aW9 {l:List UInt8}(h:l≠[]):mk l<=l.length:=by
 unfold mk
 split
 ·rename_i h2
  have h3:(l.take 2).length=2:=by rcases nE h2 with h|h|h|h|h|h <;> rw[h] <;> rfl
  rw[List.length_take] at h3
  omega
 ·cases l with
  | nil=>exact absurd rfl h
  | cons a l=>split <;> simp
theorem aSz {l:List UInt8}(h:l≠[]):sz l<=l.length:=by
 unfold sz
 split
 ·exact sZ _ _
 ·split
  ·exact sZ _ _
  ·exact aW9 h
theorem aIg (s:ByteArray)(w:World)(h0:0 < s.size)(hs:s.size<=1024) :
  Calls Tryz.prog 60 #[.string s] w fun e w'=>e=.returned (.tuple #[.agg (tc (kd (bs s)) (s.extract 0 (sz (bs s))) 0),.bool (gd (bs s))])/\Below w.heap.size w w':=by
 have HL:=aA fun w=>aDs s w h0 (by unfold maxLen;omega)
 have hz1:sz (bs s)<=s.size:=by
  rw[<-eD]
  refine aSz ?_
  obtain⟨t,ht⟩:=lD h0
  rw[ht];simp
 have hg:=aA (show gd (bs s)=may (kd (bs s)) (bs (s.extract 0 (sz (bs s)))) by rw[aSl];rfl)
 obtain⟨k,hk⟩:∃ k,kd (bs s)=k:=⟨_,rfl⟩
 obtain⟨n,hn⟩:∃ n,sz (bs s)=n:=⟨_,rfl⟩
 rw[hk,hn] at HL hg ⊢
 rw[hn] at hz1
 clear hk hn
 obtain⟨T,hT⟩:∃ T,s.extract 0 n=T:=⟨_,rfl⟩
 have hTs:T.size<=1024:=by
  rw[<-hT];simp;omega
 have HC:=aA fun w=>aIo T w (by omega)
 have HM:=aA fun w=>pK k T 0 w (by unfold maxLen;omega)
 rw[hT] at hg ⊢
 rw[hg.o]
 clear hg hTs
 have H0:=aA (aC w (.cells (tc 0 ⟨#[]⟩ 0) 118))
 go_enter Tryz.func60,Tryz.ntmps60
 go_wp2_with fail
 refine(HL.o _).mono ?_
 rintro e w1 ⟨rfl,rfl⟩
 go_wp2_with fail
 refine(HC.o _).mono ?_
 rintro e w2 ⟨rfl,hb2⟩
 have HR:=aA ((aB.new w 118 (tc 0 ⟨#[]⟩ 0)).below hb2)
 have HB:=aA (bel H0.o hb2)
 clear hb2 HC H0 HL
 go_wp2_with fail
 have HW:=aA (aB.new w2 118 (tc k T 0))
 have HR2:=aA (HR.o.alloc (.cells (tc k T 0) 118))
 have HB2:=aA (bel HB.o (aC w2 (.cells (tc k T 0) 118)))
 have hl:=HR.o.lt
 obtain⟨W,hW⟩:∃ W,w2.alloc (.cells #[.int .i64 k,.string T,.int .i64 0] 118)=W:=⟨_,rfl⟩
 obtain⟨g,hg⟩:∃ g,w2.heap.size=g:=⟨_,rfl⟩
 rw[hW,hg] at HW
 rw[hW] at HR2 HB2 ⊢
 rw[hg] at hl ⊢
 clear hW hg HR HB hT h0 hs hz1
 obtain⟨d0,d1,d2⟩:=iE HW.o
 go_region_held3 (fun w'=>w'.cell? ⟨g,0,none⟩=some (.int .i64 k)/\w'.cell? ⟨g,1,none⟩=some (.string T)/\w'.cell? ⟨g,2,none⟩=some (.int .i64 0))
  (first|exact⟨d0,d1,d2⟩|exact⟨t0,t1,t2⟩|exact aX9 hl t0 t1 t2|go_keep)
  ((first
   | (go_at_call 107;refine(HM.o _).mono ?_;rintro e' w3 ⟨rfl,hb3⟩;have hb4:=bel (aF W) hb3;obtain⟨t0,t1,t2⟩:=iE (HW.o.below hb4);have HR3:=aA (HR2.o.below hb4);have HB3:=aA (bel HB2.o hb4);obtain⟨s0,s1,s2⟩:=iE HR3.o;obtain⟨z0,z1,z2⟩:=zY HR3.o)))
 go_wp2_with fail
 obtain⟨e0,e1,e2,hB4⟩:=aRy HR3.o HB3.o (Nat.le_refl _) k T 0
 exact bodyPost_ret (v:=.tuple #[.agg (tc k T 0),.bool (may k (bs T))]) (by simp[results,Tryz.results60,go_sem,e0,e1,e2]) rfl ⟨rfl,hB4⟩
end Go.Proofs.YtihbhbeaihdgnaaGreat
