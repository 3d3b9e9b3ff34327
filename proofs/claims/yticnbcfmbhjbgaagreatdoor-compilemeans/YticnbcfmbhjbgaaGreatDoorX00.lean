import Derived.Test.YticnbcfmbhjbgaaGreatDoorXH
import Derived.Test.YticnbcfmbhjbgaaGreatDoorChecked
import Derived.WalkSpells
import Derived.Lib.IndexBytes
import Derived.ProofKit
import Derived.OpenShut
import Derived.Deep.Slices
import Derived.Shelf.Pu.Clone
set_option maxRecDepth 100000
set_option maxHeartbeats 32000000
set_option linter.unusedVariables false
namespace Lx
variable {k:Nat}
def dg (c:Int):Bool:=decide (48<=c)&&decide (c<=57)
def lt (c:Int):Bool:=decide (97<=c)&&decide (c<=122)
def wi (c:Int):Bool:=lt c || dg c || c==95
def D (c:UInt8):Bool:=dg c.toNat
def A (c:UInt8):Bool:=lt c.toNat
def W (c:UInt8):Bool:=wi c.toNat
def bl (c:UInt8):Bool:=c==32 || c==9 || c==10
def sh:List UInt8:=[43,45,42,47,37,40,41,44,59,61,63,58,60,62,38,124,94]
def two:List (List UInt8):=[[60,61],[62,61],[61,61],[33,61],[60,60],[62,62]]
def rn (p:UInt8->Bool)(l:List UInt8):Nat:=(l.takeWhile p).length
def mk (l:List UInt8):Nat:=if two.contains (l.take 2) then 2 else if sh.contains (l.headD 0) then 1 else 0
def vl (l:List UInt8):Int:=l.foldl (fun n c=>10*n+((c.toNat:Int)-48)) 0
def num (l:List UInt8):Bool:=!l.isEmpty&&l.all D&&!(l.headD 0==48&&decide (1 < l.length))&&decide (vl l<=2147483647)
def rW (l:List UInt8):Bool:=!l.isEmpty&&decide (l.length<=16)&&A (l.headD 0)&&l.all W
def kd (l:List UInt8):Int:=if D (l.headD 0) then 1 else if A (l.headD 0) then 2 else 3
def sz (l:List UInt8):Nat:=if D (l.headD 0) then rn D l else if A (l.headD 0) then rn W l else mk l
def may (k:Int)(l:List UInt8):Bool:=if k=1 then num l else if k=2 then rW l else !l.isEmpty
def gd (l:List UInt8):Bool:=may (kd l) (l.take (sz l))
def nl (c:UInt8):Bool:=c != 10
structure Tok where
 kind:Int
 text:List UInt8
 pos:Nat
theorem aC7 {k:Int}{l:List UInt8}(h:may k l=true):0 < l.length:=by
 cases l with
 | nil=>revert h;unfold may;split <;> (try split) <;> simp[num,rW]
 | cons a l=>simp
theorem yQ {l:List UInt8}(h:gd l=true):0 < sz l:=by
 have:=aC7 h
 rw[lLt] at this
 omega
theorem kJ (p:UInt8->Bool):∀ l:List UInt8,(l.dropWhile p).length<=l.length
 | []=>by simp
 | a::l=>by
  rw[List.dropWhile_cons]
  have:=kJ p l
  split <;> simp <;> omega
def sc:List UInt8->Nat->Option (List Tok)
 | [],_=>some []
 | c::r,p =>
  if bl c then sc r (p+1)
  else if c=35 then sc (r.dropWhile nl) (p+1+rn nl r)
  else if h:gd (c::r)=true then(sc ((c::r).drop (sz (c::r))) (p+sz (c::r))).map (fun T=>⟨kd (c::r),(c::r).take (sz (c::r)),p⟩::T)
  else none
 termination_by l=>l.length
 decreasing_by
 ·simp
 ·have:=kJ nl r;simp;omega
 ·have:=yQ h;simp;omega
theorem mW (p:Nat):sc [] p=some []:=by rw[sc]
theorem qL {c:UInt8}(h:bl c=true)(r:List UInt8)(p:Nat):sc (c::r) p=sc r (p+1):=by rw[sc,if_pos h]
theorem aDp (r:List UInt8)(p:Nat):sc (35::r) p=sc (r.dropWhile nl) (p+1+rn nl r):=by
 rw[sc,if_neg (by decide),if_pos rfl]
theorem aAa {c:UInt8}{r:List UInt8}(h1:bl c=false)(h2:c≠35)(h:gd (c::r)=true)(p:Nat) :
  sc (c::r) p=(sc ((c::r).drop (sz (c::r))) (p+sz (c::r))).map (fun T=>⟨kd (c::r),(c::r).take (sz (c::r)),p⟩::T):=by
 rw[sc,if_neg (by simp[h1]),if_neg h2,dif_pos h]
theorem aDo {c:UInt8}{r:List UInt8}(h1:bl c=false)(h2:c≠35)(h:gd (c::r)=false)(p:Nat):sc (c::r) p=none:=by
 rw[sc,if_neg (by simp[h1]),if_neg h2,dif_neg (by simp[h])]
def tks (l:List UInt8):Option (List Tok):=if 1024 < l.length then none else sc l 0
def Fm (k:Int)(x:List UInt8):Prop :=
 x≠[]/\((k=1/\x.all D=true)\/(k=2/\A (x.headD 0)=true/\x.all W=true)\/(k=3/\(two.contains x=true\/∃ c,sh.contains c=true/\x=[c])))
theorem eP (p:UInt8->Bool):∀ l:List UInt8,l.take (rn p l)=l.takeWhile p
 | []=>rfl
 | a::l=>by
  unfold rn
  cases h:p a with
  | true =>
   rw[List.takeWhile_cons,if_pos h]
   have:=eP p l
   unfold rn at this
   rw[lLc,List.take_succ_cons,this]
  | false=>rw[List.takeWhile_cons,if_neg (by simp[h])];rfl
theorem iH (p:UInt8->Bool):∀ l:List UInt8,(l.takeWhile p).all p=true
 | []=>rfl
 | a::l=>by
  rw[List.takeWhile_cons]
  split
  ·rename_i h;rw[lAc,h,iH p l];rfl
  ·simp
theorem iI (p:UInt8->Bool):∀(x r:List UInt8),x.all p=true->(∀ a,r.head?=some a->p a=false)->(x++r).takeWhile p=x
 | [],[],_,_=>rfl
 | [],a::r,_,h=>by simp[h a rfl]
 | b::x,r,hx,h=>by
  simp only[lAc,bAt] at hx
  rw[List.cons_append,List.takeWhile_cons,if_pos hx.1,iI p x r hx.2 h]
theorem kF (p:UInt8->Bool)(l:List UInt8):l.takeWhile p++l.dropWhile p=l:=List.takeWhile_append_dropWhile
theorem aUy (p:UInt8->Bool)(l:List UInt8):l.drop (rn p l)=l.dropWhile p:=by
 have h:=kF p l
 have h2:=List.drop_left (l₁:=l.takeWhile p) (l₂:=l.dropWhile p)
 rw[h] at h2
 exact h2
theorem oC {x:List UInt8}(h:two.contains x=true):x=[60,61]\/x=[62,61]\/x=[61,61]\/x=[33,61]\/x=[60,60]\/x=[62,62]:=by
 simpa [two] using h
theorem aCp {l:List UInt8}(hl:l≠[])(h:gd l=true):Fm (kd l) (l.take (sz l))/\may (kd l) (l.take (sz l))=true:=by
 refine⟨⟨?_,?_⟩,h⟩
 ·have:=aC7 h
  intro e
  rw[e] at this
  simp at this
 ·obtain⟨c,r,rfl⟩:∃ c r,l=c::r:=by cases l with|nil=>exact absurd rfl hl|cons c r=>exact⟨c,r,rfl⟩
  by_cases h1:D c=true
  ·left
   simp only[kd,sz,List.headD_cons,h1,if_true]
   exact⟨trivial,by rw[eP];exact iH _ _⟩
  ·simp only[Bool.not_eq_true] at h1
   by_cases h2:A c=true
   ·right;left
    simp only[kd,sz,List.headD_cons,h1,h2,if_true,Bool.false_eq_true,if_false]
    refine⟨trivial,?_,by rw[eP];exact iH _ _⟩
    rw[eP,List.takeWhile_cons,if_pos (by simp[W,wi,show lt c.toNat=true from h2])]
    exact h2
   ·simp only[Bool.not_eq_true] at h2
    right;right
    have hp:=yQ h
    simp only[kd,sz,List.headD_cons,h1,h2,Bool.false_eq_true,if_false] at hp ⊢
    refine⟨trivial,?_⟩
    unfold mk at hp ⊢
    split
    ·rename_i h3;exact .inl h3
    ·split
     ·rename_i h3;exact .inr ⟨c,h3,rfl⟩
     ·rename_i h3 h4;rw[if_neg h3,if_neg h4] at hp;omega
theorem aQn {c:UInt8}(h:sh.contains c=true):D c=false/\A c=false/\bl c=false/\c≠35:=by
 have:c ∈ sh:=by simpa using h
 revert c
 intro c _ hc
 simp only[sh,lMm,lNm,or_false] at hc
 rcases hc with rfl|rfl|rfl|rfl|rfl|rfl|rfl|rfl|rfl|rfl|rfl|rfl|rfl|rfl|rfl|rfl|rfl <;> decide
theorem aZ4 {c:UInt8}(h:D c=true):bl c=false/\c≠35:=by
 have h':48<=(c.toNat:Int)/\(c.toNat:Int)<=57:=by simpa [D,dg] using h
 refine⟨?_,fun e=>by subst e;simp at h'⟩
 cases hb:bl c with
 | false=>rfl
 | true =>
  simp only[bl,Bool.or_eq_true,beq_iff_eq] at hb
  rcases hb with(rfl|rfl)|rfl <;> simp at h'
theorem aIj {c:UInt8}(h:A c=true):bl c=false/\c≠35/\D c=false/\W c=true:=by
 have h':97<=(c.toNat:Int)/\(c.toNat:Int)<=122:=by simpa [A,lt] using h
 refine⟨?_,fun e=>by subst e;simp at h',?_,?_⟩
 ·cases hb:bl c with
  | false=>rfl
  | true =>
   simp only[bl,Bool.or_eq_true,beq_iff_eq] at hb
   rcases hb with(rfl|rfl)|rfl <;> simp at h'
 ·simp[D,dg];omega
 ·have:lt c.toNat=true:=h
  simp[W,wi,this]
theorem aF1 {p:UInt8->Bool}{l:List UInt8}(h1:(l.take k).all p=true)(hk:k<=l.length)(h2:∀ c,l[k]?=some c->p c=false):rn p l=k:=by
 have h:=iI p (l.take k) (l.drop k) h1 (by intro a ha;rw[List.head?_drop] at ha;exact h2 a ha)
 rw[lTd] at h
 unfold rn
 rw[h,lLt]
 omega
theorem tN {p:UInt8->Bool}{l:List UInt8}{c:UInt8}(h1:(l.take k).all p=true)(hc:l[k]?=some c)(h:p c=true):(l.take (k+1)).all p=true:=by
 rw[List.take_add_one,hc,List.all_append,h1]
 simp[h]
theorem aR4 {p:UInt8->Bool}{l:List UInt8}{c:UInt8}(hc:l[k]?=some c)(h:p c=false):l.all p=false:=by
 rw[List.all_eq_false]
 exact⟨c,List.mem_of_getElem? hc,by simp[h]⟩
def nv (l:List UInt8):Int:=if num l then vl l else 0
theorem aJ5 (l:List UInt8)(c:UInt8):vl (l++[c])=10*vl l+((c.toNat:Int)-48):=by simp[vl]
theorem aVp {l:List UInt8}{c:UInt8}(hc:l[k]?=some c):vl (l.take (k+1))=10*vl (l.take k)+((c.toNat:Int)-48):=by
 rw[List.take_add_one,hc];exact aJ5 _ _
theorem aEd {c:UInt8}:D c=true↔48<=(c.toNat:Int)/\(c.toNat:Int)<=57:=by simp[D,dg]
theorem yP:∀(l:List UInt8) (n:Int),l.all D=true->0<=n->n<=l.foldl (fun n c=>10*n+((c.toNat:Int)-48)) n
 | [],n,_,_=>by simp
 | c::l,n,h,h0=>by
  simp only[lAc,bAt] at h
  have hc:=aEd.1 h.1
  have:=yP l (10*n+((c.toNat:Int)-48)) h.2 (by omega)
  simp only[List.foldl_cons]
  omega
theorem vW {l:List UInt8}(h:l.all D=true):0<=vl l:=yP l 0 h (by omega)
theorem aVo {l:List UInt8}(h:l.all D=true)(k:Nat):vl (l.take k)<=vl l:=by
 have e:vl l=(l.drop k).foldl (fun n c=>10*n+((c.toNat:Int)-48)) (vl (l.take k)):=by
  unfold vl
  rw[<-List.foldl_append,lTd]
 rw[e]
 have h':l.all D=true:=h
 rw[<-lTd k l,List.all_append,bAt] at h'
 exact yP _ _ h'.2 (vW h'.1)
theorem aYa {l:List UInt8}{c:UInt8}(hc:l[k]?=some c)(h:D c=false):num l=false:=by
 simp[num,aR4 hc h]
theorem aT3 {l:List UInt8}(h:2147483647 < vl (l.take k)):num l=false:=by
 cases ha:l.all D with
 | false=>simp[num,ha]
 | true =>
  have:=aVo ha k
  simp only[num,Bool.and_eq_false_iff,decide_eq_false_iff_not]
  right;omega
theorem aJg {l:List UInt8}(h0:l≠[])(h1:l.all D=true)(h2:(l.headD 0==48&&decide (1 < l.length))=false)(h3:vl l<=2147483647):num l=true:=by
 simp only[num,h1,h2,h3,decide_true,Bool.and_true,Bool.not_false]
 cases l with
 | nil=>exact absurd rfl h0
 | cons a l=>rfl
theorem aYb {l:List UInt8}(h:num l=true):nv l=vl l:=by rw[nv,if_pos h]
theorem aPg {l:List UInt8}(h:num l=false):nv l=0:=by rw[nv,if_neg (by simp[h])]
theorem aY3 (p:UInt8->Bool)(l:List UInt8):(((rn p l:Nat):Int)==(l.length:Int))=l.all p:=by
 cases h:l.all p with
 | true =>
  have:=iI p l [] h (by simp)
  rw[List.append_nil] at this
  simp[rn,this]
 | false =>
  have hne:rn p l≠l.length:=by
   intro e
   have h1:=eP p l
   rw[e,lTg] at h1
   have h2:=iH p l
   rw[<-h1,h] at h2
   cases h2
  simp;omega
theorem kS {l:List UInt8}{c:UInt8}(hc:l[k]?=some c):l.drop k=c::l.drop (k+1):=by
 obtain⟨h,e⟩:=List.getElem?_eq_some_iff.1 hc
 rw[List.drop_eq_getElem_cons h,e]
def Inv (l:List UInt8)(k:Nat)(T:List Tok):Prop:=sc l 0=(sc (l.drop k) k).map (T++·)
theorem Inv.start (l:List UInt8):Inv l 0 []:=by
 unfold Inv
 rw[List.drop_zero]
 cases sc l 0 <;> simp
theorem Inv.blank {l:List UInt8}{T:List Tok}{c:UInt8}(h:Inv l k T)(hc:l[k]?=some c)(hb:bl c=true):Inv l (k+1) T:=by
 unfold Inv at *
 rw[h,kS hc,qL hb]
theorem Inv.rem {l:List UInt8}{k j:Nat}{T:List Tok}(h:Inv l k T)(hc:l[k]?=some 35)(hj:k < j)(hjl:j<=l.length)(ha:((l.drop k).take (j-k)).all nl=true)(he:∀ c,l[j]?=some c->c=10):Inv l j T:=by
 unfold Inv at *
 have hr:rn nl (l.drop k)=j-k:=aF1 ha (by rw[List.length_drop];omega) (by
  intro c hc'
  rw[List.getElem?_drop,show k+(j-k)=j by omega] at hc'
  rw[he c hc'];rfl)
 have e1:rn nl (l.drop k)=1+rn nl (l.drop (k+1)):=by
  rw[kS hc]
  unfold rn
  rw[List.takeWhile_cons,if_pos (by decide),lLc]
  omega
 have e2:(l.drop (k+1)).dropWhile nl=l.drop j:=by
  rw[<-aUy,List.drop_drop]
  congr 1
  omega
 rw[h,kS hc,aDp,e2]
 congr 2
 omega
theorem Inv.tok {l:List UInt8}{T:List Tok}{c:UInt8}(h:Inv l k T)(hc:l[k]?=some c)(h1:bl c=false)(h2:c≠35)(hg:gd (l.drop k)=true) :
  Inv l (k+sz (l.drop k)) (T++[⟨kd (l.drop k),(l.drop k).take (sz (l.drop k)),k⟩]):=by
 unfold Inv at *
 have e:=kS hc
 have hs:=aAa (p:=k) h1 h2 (by rw[<-e];exact hg)
 rw[<-e] at hs
 rw[h,hs,List.drop_drop]
 cases sc (l.drop (k+sz (l.drop k))) (k+sz (l.drop k)) <;> simp
theorem Inv.bad {l:List UInt8}{T:List Tok}{c:UInt8}(h:Inv l k T)(hc:l[k]?=some c)(h1:bl c=false)(h2:c≠35)(hg:gd (l.drop k)=false):sc l 0=none:=by
 unfold Inv at *
 have e:=kS hc
 rw[h,e,aDo h1 h2 (by rw[<-e];exact hg)]
 rfl
theorem Inv.ends {l:List UInt8}{T:List Tok}(h:Inv l k T)(hk:l.length<=k):sc l 0=some T:=by
 unfold Inv at h
 rw[h,List.drop_of_length_le hk,mW]
 simp
end Lx
namespace Go.Proofs.YticnbcfmbhjbgaaGreatDoor
section
open Go.RowKit Go.IntWalk Lx
theorem aA {p:Prop}(h:p):Hid p:=h
theorem bel {w w1 w2:World}(h:Below w.heap.size w w1)(k:Below w1.heap.size w1 w2):Below w.heap.size w w2:=h.trans (k.mono h.size)
theorem aD (w:World)(o:Obj):Below w.heap.size w (w.alloc o):=(Below.refl _ _).alloc (nLr _) _
theorem aO {k:IntKind}{a b:Int}(h:a=b):Ending.returned (.int k a)=.returned (.int k b):=by rw[h]
theorem aV {a b:Bool}(h:a=b):Ending.returned (.bool a)=.returned (.bool b):=by rw[h]
abbrev bs (s:ByteArray):List UInt8:=s.data.toList
theorem dN (s:ByteArray):(bs s).length=s.size:=by cases s;rfl
theorem aA0 {s:ByteArray}{k:Nat}(h:k < s.size):(bs s)[k]?=some s[k]:=Lib.data_getElem? s k h
theorem aIn (s:ByteArray)(k:Nat):bs (s.extract k s.size)=(bs s).drop k:=Lib.extract_to_end s k
theorem iN (c:Int)(w:World) :
  Calls Tryz.prog 248 #[.int .u8 c] w fun e w'=>e=.returned (.bool (dg c))/\w'=w:=by
 by_cases h1:48<=c
 ·go_enter Tryz.func248,Tryz.ntmps248
  go_wp2
  go_ret
  exact⟨aV (by simp[dg,h1]),rfl⟩
 ·rw[show dg c=false by simp[dg];omega]
  go_enter Tryz.func248,Tryz.ntmps248
  go_wp2
  go_ret
  exact⟨rfl,rfl⟩
theorem jO (c:Int)(w:World) :
  Calls Tryz.prog 250 #[.int .u8 c] w fun e w'=>e=.returned (.bool (lt c))/\w'=w:=by
 by_cases h1:97<=c
 ·go_enter Tryz.func250,Tryz.ntmps250
  go_wp2
  go_ret
  exact⟨aV (by simp[lt,h1]),rfl⟩
 ·rw[show lt c=false by simp[lt];omega]
  go_enter Tryz.func250,Tryz.ntmps250
  go_wp2
  go_ret
  exact⟨rfl,rfl⟩
theorem bP (c:Int)(w:World) :
  Calls Tryz.prog 251 #[.int .u8 c] w fun e w'=>e=.returned (.bool (wi c))/\w'=w:=by
 cases h1:lt c with
 | true =>
  rw[show wi c=true by simp[wi,h1]]
  go_enter Tryz.func251,Tryz.ntmps251
  go_wp2_with (go_at_call 250;refine(jO _ _).mono ?_;rintro e w' ⟨rfl,rfl⟩)
  go_ret
  exact⟨rfl,rfl⟩
 | false =>
  cases h2:dg c with
  | true =>
   rw[show wi c=true by simp[wi,h1,h2]]
   go_enter Tryz.func251,Tryz.ntmps251
   go_wp2_with (first|(go_at_call 250;refine(jO _ _).mono ?_;rintro e w' ⟨rfl,rfl⟩)|(go_at_call 248;refine(iN _ _).mono ?_;rintro e w' ⟨rfl,rfl⟩))
   go_ret
   exact⟨rfl,rfl⟩
  | false =>
   go_enter Tryz.func251,Tryz.ntmps251
   go_wp2_with (first|(go_at_call 250;refine(jO _ _).mono ?_;rintro e w' ⟨rfl,rfl⟩)|(go_at_call 248;refine(iN _ _).mono ?_;rintro e w' ⟨rfl,rfl⟩))
   go_ret
   exact⟨aV (by simp[wi,h1,h2]),rfl⟩
abbrev fv (n:Nat):Value:=.func (.func n) #[] #[]
theorem aLs (s:ByteArray)(w:World)(hs:s.size<=maxLen) :
  Calls Tryz.prog 249 #[.string s,fv 248] w fun e w'=>e=.returned (.i (rn D (bs s)))/\w'=w:=by
 unfold maxLen at hs
 go_enter Tryz.func249,Tryz.ntmps249
 go_wp2
 go_loop [5] (fun i=>∃ k:Nat,k<=s.size/\i=.i k/\Hid (((bs s).take k).all D=true)) (fun i=>s.size-(intOf i).toNat)
 case atStart=>exact⟨0,nZl _,rfl,aA (by simp)⟩
 case round =>
  obtain⟨k,hk,rfl,ha⟩:=hrel
  by_cases hlt:k < s.size
  ·have hc:=aA (aA0 hlt)
   cases hd:dg (s[k].toNat) with
   | true =>
    go_wp2_with (go_at_call 248;refine(iN _ _).mono ?_;rintro e w' ⟨rfl,rfl⟩)
    go_round
    case rel=>exact⟨k+1,by omega,by go_num,aA (tN ha.o hc.o hd)⟩
    case measure=>simp[intOf];omega
   | false =>
    go_wp2_with (go_at_call 248;refine(iN _ _).mono ?_;rintro e w' ⟨rfl,rfl⟩)
    go_ret
    exact⟨aO (by rw[aF1 ha.o (by rw[dN];omega) (by intro c h;rw[hc.o] at h;cases h;exact hd)]),rfl⟩
  ·go_wp2
   go_ret
   exact⟨aO (by rw[aF1 ha.o (by rw[dN];omega) (by intro c h;rw[List.getElem?_eq_none (by rw[dN];omega)] at h;cases h)]),rfl⟩
theorem zZ (s:ByteArray)(w:World)(hs:s.size<=maxLen) :
  Calls Tryz.prog 249 #[.string s,fv 251] w fun e w'=>e=.returned (.i (rn W (bs s)))/\w'=w:=by
 unfold maxLen at hs
 go_enter Tryz.func249,Tryz.ntmps249
 go_wp2
 go_loop [5] (fun i=>∃ k:Nat,k<=s.size/\i=.i k/\Hid (((bs s).take k).all W=true)) (fun i=>s.size-(intOf i).toNat)
 case atStart=>exact⟨0,nZl _,rfl,aA (by simp)⟩
 case round =>
  obtain⟨k,hk,rfl,ha⟩:=hrel
  by_cases hlt:k < s.size
  ·have hc:=aA (aA0 hlt)
   cases hd:wi (s[k].toNat) with
   | true =>
    go_wp2_with (go_at_call 251;refine(bP _ _).mono ?_;rintro e w' ⟨rfl,rfl⟩)
    go_round
    case rel=>exact⟨k+1,by omega,by go_num,aA (tN ha.o hc.o hd)⟩
    case measure=>simp[intOf];omega
   | false =>
    go_wp2_with (go_at_call 251;refine(bP _ _).mono ?_;rintro e w' ⟨rfl,rfl⟩)
    go_ret
    exact⟨aO (by rw[aF1 ha.o (by rw[dN];omega) (by intro c h;rw[hc.o] at h;cases h;exact hd)]),rfl⟩
  ·go_wp2
   go_ret
   exact⟨aO (by rw[aF1 ha.o (by rw[dN];omega) (by intro c h;rw[List.getElem?_eq_none (by rw[dN];omega)] at h;cases h)]),rfl⟩
end
section
open Go.ChangeShapes Go.WideShapes Go.ChangeAt Go.RowKit
theorem bC0:ownKnob Tryz.prog.godebug=none:=by kernel_rfl
theorem zH:laidOutB Tryz.prog=true:=by kernel_rfl
theorem aT7:Tryz.prog.cellsOf 23=2:=by kernel_rfl
theorem aT6:Tryz.prog.cellsOf 3=1:=by kernel_rfl
theorem lD {H:Type}{enc:TypeId × Value->H}{W:World}{b:Nat}{sp:Nat->Bool}{hd:Bool}{n:Nat}{v:Value}{y:Option (DataW H × List MemPlace)}
  (h:DataW.trod enc Tryz.prog W b sp hd n 3 [v]=y) (hy:y.isSome=true):∃ a,v=.i a/\y=some (.lit (.i a),[])/\(Lit.int .i64 a).wf=true:=by
 cases y with
 | none=>cases hy
 | some x =>
  obtain⟨a,h1,h2,h3⟩:=DataW.trod_int Tryz.underlying3 h
  simp at h1
  exact⟨a,h1,by rw[h2],h3⟩
theorem aLc {H:Type}{enc:TypeId × Value->H}{W:World}{r:Reach}{b0 b:Nat}{sp:Nat->Bool}{hd:Bool}{v:Value}{d:DataW H}{ps:List MemPlace}
  (hval:Value.okWide Tryz.prog W r b0 23 v) (h:DataW.Trod enc Tryz.prog W b sp hd 23 v d ps):∃ x y,v=.agg #[.i x,.i y]:=by
 unfold Value.okWide at hval
 rw[Tryz.underlying23] at hval
 obtain⟨cs,rfl,hsz,_⟩:=hval
 rw[aT7] at hsz
 obtain⟨fuel,hf⟩:=h
 obtain⟨xs,n,_,hx,hl,hxs,hall⟩:=DataW.trod_struct Tryz.underlying23 hf
 obtain⟨c0,c1,rfl⟩:∃ c0 c1,cs=#[c0,c1]:=by
  obtain⟨l⟩:=cs
  match l,hsz with
  | [a,b],_=>exact⟨a,b,rfl⟩
 have hlen:xs.length=2:=hxs
 have f0:=hall 0 _ rfl
 have f1:=hall 1 _ rfl
 simp only[Value.cells] at f0 f1
 obtain⟨x,rfl,_,_⟩:=lD f0 (by simp[hlen])
 obtain⟨y,rfl,_,_⟩:=lD f1 (by simp[hlen])
 exact⟨x,y,rfl⟩
end
section
open Go.RowKit Go.IntWalk Lx
abbrev shS:ByteArray:=⟨#[43,45,42,47,37,40,41,44,59,61,63,58,60,62,38,124,94]⟩
theorem aTc (s:ByteArray)(c:Int)(w:World) :
  Calls Tryz.prog 336 #[.string s,.int .u8 c] w fun e w'=>e=.returned (.i (Lib.indexByte (bs s) c.toNat.toUInt8))/\w'=w:=by
 go_enter Tryz.func336,Tryz.ntmps336
 go_wp2
 rw[run_callFunc_extern Tryz.func362 (by kernel_rfl) (by kernel_rfl) (by kernel_rfl) (e:=Extern.BytealgIndexByte.indexByte) (by kernel_rfl),Lib.run_indexByteString]
 simp only[Result.andThen]
 rw[Oper.upon_value]
 go_wp2
 go_ret
 exact⟨rfl,rfl⟩
theorem aU4 (s:ByteArray)(c:Int)(w:World) :
  Calls Tryz.prog 307 #[.string s,.int .u8 c] w fun e w'=>e=.returned (.i (Lib.indexByte (bs s) c.toNat.toUInt8))/\w'=w:=by
 go_enter Tryz.func307,Tryz.ntmps307
 go_wp2_with (go_at_call 336;refine(aTc _ _ _).mono ?_;rintro e w' ⟨rfl,rfl⟩)
 go_ret
 exact⟨rfl,rfl⟩
end
section
open Go.RowKit Go.IntWalk Lx
theorem zY {a b:Int}{c d:Bool}(h:a=b)(h':c=d):Ending.returned (.tuple #[.i a,.bool c])=.returned (.tuple #[.i b,.bool d]):=by rw[h,h']
def ixv (c:UInt8):Int:=Lib.indexByte sh c
theorem vE:∀(l:List UInt8) (c:UInt8),(0<=Lib.indexByte l c↔l.contains c=true)
 | [],c=>by simp[Lib.indexByte]
 | b::l,c=>by
  have ih:=vE l c
  have hg:=Lib.indexByte_ge l c
  rw[List.contains_cons]
  unfold Lib.indexByte
  by_cases h:b=c
  ·subst h;simp
  ·have h1:(b==c)=false:=by simp[h]
   have h2:(c==b)=false:=by simp;exact fun e=>h e.symm
   rw[h1,h2]
   simp only[Bool.false_eq_true,if_false,Bool.false_or]
   by_cases h3:Lib.indexByte l c=-1
   ·rw[h3] at ih
    simp[h3] at ih ⊢
    exact ih
   ·simp only[beq_iff_eq,h3,if_false]
    rw[<-ih]
    omega
theorem aTh {c:UInt8}(h:sh.contains c=true):0<=ixv c:=(vE sh c).2 h
theorem aXc {c:UInt8}(h:sh.contains c=false):ixv c < 0:=by
 have:=vE sh c
 rw[h] at this
 have:¬0<=Lib.indexByte sh c:=by simpa using this
 unfold ixv
 omega
theorem aQs (c:UInt8)(w:World) :
  Calls Tryz.prog 307 #[.string shS,.int .u8 (c.toNat:Nat)] w fun e w'=>e=.returned (.i (ixv c))/\w'=w:=by
 have h:=aU4 shS (c.toNat:Nat) w
 rw[Lib.byte_back] at h
 exact h
theorem lY {s:ByteArray}(h:0 < s.size):∃ t,bs s=s[0]::t:=by
 have h1:=aA0 h
 cases hb:bs s with
 | nil=>rw[hb] at h1;simp at h1
 | cons a t=>rw[hb] at h1;simp at h1;exact⟨t,by rw[h1]⟩
theorem tT {s:ByteArray}(h:0 < s.size):(bs s).headD 0=s[0]:=by
 obtain⟨t,ht⟩:=lY h
 rw[ht];rfl
theorem aWv (s:ByteArray):(s.extract 0 2).toList=(bs s).take 2:=by
 rw[ByteArray.toList_eq]
 simp[ByteArray.data_extract]
theorem aM3 {s:ByteArray}(h:s.size=0):s=⟨#[]⟩:=ByteArray.ext (Array.eq_empty_of_size_eq_zero h)
theorem aOw (s:ByteArray)(w:World)(h0:0 < s.size)(hs:s.size<=maxLen) :
  Calls Tryz.prog 252 #[.string s] w fun e w'=>e=.returned (.i (mk (bs s)))/\w'=w:=by
 unfold maxLen at hs
 obtain⟨t,ht⟩:=lY h0
 have hh:=aA (tT h0)
 have H2:1 < s.size\/two.contains ((bs s).take 2)=false:=by
  by_cases h:1 < s.size
  ·exact .inl h
  ·right
   have hl:(bs s).length=1:=by rw[dN];omega
   cases t with
   | nil=>rw[ht];simp[two]
   | cons a t=>rw[ht] at hl;simp at hl
 clear ht t
 have hT:=aWv s
 cases hm:two.contains ((bs s).take 2) with
 | true =>
  have h1:1 < s.size:=by
   rcases H2 with h|h
   ·exact h
   ·rw[h] at hm;cases hm
  have hr:mk (bs s)=2:=by unfold mk;rw[if_pos hm]
  rw[hr]
  clear H2 hr
  rcases oC hm with h|h|h|h|h|h <;>
  ·rw[h] at hT
   clear h hm
   go_enter Tryz.func252,Tryz.ntmps252
   go_wp2
   go_ret
   exact⟨rfl,rfl⟩
 | false =>
  have hr:mk (bs s)=if sh.contains s[0] then 1 else 0:=by unfold mk;rw[if_neg (by rw[hm];simp),hh.o]
  have hr':=aA hr
  clear hr
  obtain⟨T,hTT⟩:∃ T,(bs s).take 2=T:=⟨_,rfl⟩
  rw[hTT] at hT hm
  clear hTT
  have hn:(T==[60,61])=false/\(T==[62,61])=false/\(T==[61,61])=false/\(T==[33,61])=false/\(T==[60,60])=false/\(T==[62,62])=false:=by
   simp[two] at hm
   simpa using hm
  obtain⟨n1,n2,n3,n4,n5,n6⟩:=hn
  clear hm H2
  cases hc:sh.contains s[0] with
  | true =>
   have hx:=aTh hc
   by_cases h1:1 < s.size <;>
   ·go_enter Tryz.func252,Tryz.ntmps252
    go_wp2_with (go_at_call 307;refine(aQs _ _).mono ?_;rintro e w' ⟨rfl,rfl⟩)
    go_ret
    exact⟨aO (by rw[hr'.o,hc];rfl),rfl⟩
  | false =>
   have hx:=aXc hc
   by_cases h1:1 < s.size <;>
   ·go_enter Tryz.func252,Tryz.ntmps252
    go_wp2_with (go_at_call 307;refine(aQs _ _).mono ?_;rintro e w' ⟨rfl,rfl⟩)
    go_ret
    exact⟨aO (by rw[hr'.o,hc];rfl),rfl⟩
theorem eQ (s:ByteArray)(w:World)(hs:s.size<=maxLen) :
  Calls Tryz.prog 211 #[.string s] w fun e w'=>e=.returned (.bool (rW (bs s)))/\w'=w:=by
 by_cases h0:s.size=0
 ·obtain rfl:=aM3 h0
  go_enter Tryz.func211,Tryz.ntmps211
  go_wp2
  go_ret
  exact⟨rfl,rfl⟩
 ·have h0':0 < s.size:=by omega
  have hE:(s.toList==[])=false:=by
   rw[ByteArray.toList_eq]
   obtain⟨t,ht⟩:=lY h0'
   rw[show s.data.toList=_ from ht];rfl
  have hW:=aA (show rW (bs s)=(decide (s.size<=16)&&lt s[0].toNat&&(bs s).all W) by
   unfold rW
   rw[dN,tT h0']
   obtain⟨t,ht⟩:=lY h0'
   rw[ht];rfl)
  have hl:=aA (aY3 W (bs s))
  rw[dN] at hl
  have hs':=aA hs
  unfold maxLen at hs
  by_cases h1:s.size<=16
  ·cases hc:lt s[0].toNat with
   | true =>
    go_enter Tryz.func211,Tryz.ntmps211
    go_wp2_with (first|(go_at_call 250;refine(jO _ _).mono ?_;rintro e w' ⟨rfl,rfl⟩)|(go_at_call 249;refine(zZ _ _ hs'.o).mono ?_;rintro e w' ⟨rfl,rfl⟩))
    go_ret
    exact⟨aV (by rw[hW.o,hc,hl.o];simp[h1]),rfl⟩
   | false =>
    go_enter Tryz.func211,Tryz.ntmps211
    go_wp2_with (go_at_call 250;refine(jO _ _).mono ?_;rintro e w' ⟨rfl,rfl⟩)
    go_ret
    exact⟨aV (by rw[hW.o,hc];simp),rfl⟩
  ·go_enter Tryz.func211,Tryz.ntmps211
   go_wp2
   go_ret
   exact⟨aV (by rw[hW.o];simp[h1]),rfl⟩
end
section
open Go.RowKit Go.IntWalk Lx
theorem aLz {s:ByteArray}(h:0 < s.size):(s.toList==[])=false:=by
 rw[ByteArray.toList_eq]
 obtain⟨t,ht⟩:=lY h
 rw[show s.data.toList=_ from ht];rfl
theorem aMh {s:ByteArray}(h:0 < s.size):((bs s).headD 0==48&&decide (1 < (bs s).length))=(((s[0].toNat:Int)==48)&&!(s.toList==[48])):=by
 rw[ByteArray.toList_eq,tT h]
 obtain⟨t,ht⟩:=lY h
 rw[show s.data.toList=_ from ht,ht]
 by_cases h48:s[0]=48
 ·rw[h48]
  cases t with
  | nil=>rfl
  | cons a t=>simp
 ·have h2:¬(s[0].toNat:Int)=48:=fun e=>h48 (UInt8.toNat_inj.1 (by simp;omega))
  rw[beq_eq_false_iff_ne.2 h48,beq_eq_false_iff_ne.2 h2]
  rfl
theorem jP (s:ByteArray)(w:World)(hs:s.size<=maxLen) :
  Calls Tryz.prog 254 #[.string s] w fun e w'=>e=.returned (.tuple #[.i (nv (bs s)),.bool (num (bs s))])/\w'=w:=by
 unfold maxLen at hs
 by_cases h0:s.size=0
 ·obtain rfl:=aM3 h0
  go_enter Tryz.func254,Tryz.ntmps254
  go_wp2
  go_ret2
  exact⟨rfl,rfl⟩
 ·have h0':0 < s.size:=by omega
  have hE:=aLz h0'
  have hz:=aA (aMh h0')
  by_cases hb:((s[0].toNat:Int)==48)=true/\(s.toList==[48])=false
  ·obtain⟨h1,h2⟩:=hb
   have hn:num (bs s)=false:=by unfold num;rw[hz.o,h1,h2];simp
   rw[aPg hn,hn]
   clear hn
   go_enter Tryz.func254,Tryz.ntmps254
   go_wp2
   go_ret2
   exact⟨rfl,rfl⟩
  ·have hz2:=aA (show ((bs s).headD 0==48&&decide (1 < (bs s).length))=false by
    rw[hz.o]
    cases h1:((s[0].toNat:Int)==48)
    ·rfl
    ·cases h2:(s.toList==[48])
     ·exact absurd ⟨h1,h2⟩ hb
     ·rfl)
   have hne:=aA (show bs s≠[] by
    obtain⟨t,ht⟩:=lY h0'
    rw[ht];simp)
   have ways:((s[0].toNat:Int)==48)=false\/(((s[0].toNat:Int)==48)=true/\(s.toList==[48])=true):=by
    cases h1:((s[0].toNat:Int)==48)
    ·exact .inl rfl
    ·cases h2:(s.toList==[48])
     ·exact absurd ⟨h1,h2⟩ hb
     ·exact .inr ⟨rfl,rfl⟩
   clear hb hz
   rcases ways with h1|⟨h1,h2⟩
   all_goals
    go_enter Tryz.func254,Tryz.ntmps254
    go_wp2
    go_loop [4,19] (fun n i=>∃ k:Nat,∃ V:Int,k<=s.size/\i=.i k/\n=.i V/\0<=V/\V<=2147483647/\Hid (V=vl ((bs s).take k))/\Hid (((bs s).take k).all D=true)) (fun _ i=>s.size-(intOf i).toNat)
    case atStart=>exact⟨0,0,nZl _,rfl,rfl,by omega,by omega,aA rfl,aA (by simp)⟩
    case round =>
     obtain⟨k,V,hk,rfl,rfl,hV0,hV1,hV,ha⟩:=hrel
     by_cases hlt:k < s.size
     ·have hc:=aA (aA0 hlt)
      cases hd:dg (s[k].toNat) with
      | false =>
       go_wp2_with (go_at_call 248;refine(iN _ _).mono ?_;rintro e w' ⟨rfl,rfl⟩)
       go_ret2
       have hn:=aYa hc.o hd
       exact⟨zY (aPg hn).symm hn.symm,rfl⟩
      | true =>
       obtain⟨b1,b2⟩:=aEd.1 hd
       have hv:=aA (aVp hc.o)
       rw[<-hV.o] at hv
       by_cases hbig:10*V+((s[k].toNat:Int)-48)<=2147483647
       ·go_wp2_with (go_at_call 248;refine(iN _ _).mono ?_;rintro e w' ⟨rfl,rfl⟩)
        go_round
        case rel=>exact⟨k+1,_,by omega,by go_num,rfl,by omega,by omega,aA hv.o.symm,aA (tN ha.o hc.o hd)⟩
        case measure=>simp[intOf];omega
       ·have hbig':2147483647 < 10*V+((s[k].toNat:Int)-48):=by omega
        clear hbig
        go_wp2_with (go_at_call 248;refine(iN _ _).mono ?_;rintro e w' ⟨rfl,rfl⟩)
        go_ret2
        have hn:=aT3 (l:=bs s) (k:=k+1) (by rw[hv.o];exact hbig')
        exact⟨zY (aPg hn).symm hn.symm,rfl⟩
     ·go_wp2
      go_ret2
      have he:(bs s).take k=bs s:=lTl (by rw[dN];omega)
      rw[he] at hV ha
      have hn:=aJg hne.o ha.o hz2.o (by rw[<-hV.o];omega)
      exact⟨zY (by rw[aYb hn];exact hV.o) hn.symm,rfl⟩
end
section
open Go.RowKit Go.IntWalk Lx
theorem iV (s:ByteArray):s.toList=bs s:=ByteArray.toList_eq s
end
open Go.RowKit Go.IntWalk Lx
def bCz:Go.Shelf.Ren:=⟨fun n=>if n=25 then 253 else n,fun n=>if n=37 then 41 else if n=47 then 230 else n,fun n=>n⟩
theorem lays:LaysPu.n25 Tryz.prog bCz where
 mixed:=by kernel_rfl
 f25:=by kernel_rfl
 t0:=Tryz.underlying0
 a0:=Tryz.isAgg0
 z0:=Tryz.sizeOf0
 v0:=Tryz.zeroValue0
 i0:=by kernel_rfl
 t3:=Tryz.underlying3
 a3:=Tryz.isAgg3
 z3:=Tryz.sizeOf3
 v3:=Tryz.zeroValue3
 i3:=by kernel_rfl
 t4:=Tryz.underlying4
 a4:=Tryz.isAgg4
 z4:=Tryz.sizeOf4
 v4:=Tryz.zeroValue4
 i4:=by kernel_rfl
 t5:=Tryz.underlying5
 a5:=Tryz.isAgg5
 z5:=Tryz.sizeOf5
 v5:=Tryz.zeroValue5
 i5:=by kernel_rfl
 t9:=Tryz.underlying9
 a9:=Tryz.isAgg9
 z9:=Tryz.sizeOf9
 v9:=Tryz.zeroValue9
 i9:=by kernel_rfl
 t37:=Tryz.underlying41
 a37:=Tryz.isAgg41
 z37:=Tryz.sizeOf41
 v37:=Tryz.zeroValue41
 i37:=by kernel_rfl
 t47:=Tryz.underlying230
 a47:=Tryz.isAgg230
 z47:=Tryz.sizeOf230
 v47:=Tryz.zeroValue230
 i47:=by kernel_rfl
theorem aHe (s:ByteArray)(w:World)(hlim:s.size<=281474976710656) :
 Calls Tryz.prog 253 #[.string s] w fun e w'=>e=.returned (.string s)/\Below w.heap.size w w':=AnyPu.stringslite_Clone lays s w hlim
theorem aKn (s:ByteArray)(w:World)(hlim:s.size<=281474976710656) :
  Calls Tryz.prog 178 #[.string s] w fun e w'=>e=.returned (.string s)/\Below w.heap.size w w':=by
 have hl:=aA hlim
 clear hlim
 go_enter Tryz.func178,Tryz.ntmps178
 go_wp2_with fail
 refine(aHe _ _ hl.o).mono ?_
 rintro e w' ⟨rfl,hb⟩
 have HB:=aA hb
 clear hb
 go_wp2_with fail
 go_ret
 exact⟨rfl,HB.o⟩
theorem aE6 (s:ByteArray)(w:World)(h0:0 < s.size)(hs:s.size<=maxLen) :
  Calls Tryz.prog 177 #[.string s] w fun e w'=>e=.returned (.tuple #[.i (kd (bs s)),.i (sz (bs s))])/\w'=w:=by
 have hs':=aA hs
 have h0':=aA h0
 unfold maxLen at hs
 have hD:D ((bs s).headD 0)=dg s[0].toNat:=by rw[tT h0];rfl
 have hA:A ((bs s).headD 0)=lt s[0].toNat:=by rw[tT h0];rfl
 have HD:=fun w=>aA (iN s[0].toNat w)
 have HA:=fun w=>aA (jO s[0].toNat w)
 cases h1:dg s[0].toNat with
 | true =>
  rw[show kd (bs s)=1 by unfold kd;rw[hD,h1];rfl,show sz (bs s)=rn D (bs s) by unfold sz;rw[hD,h1];rfl]
  rw[h1] at HD
  clear hD hA HA h1
  go_enter Tryz.func177,Tryz.ntmps177
  go_wp2_with fail
  refine(HD _).o.mono ?_
  rintro e w' ⟨rfl,rfl⟩
  go_wp2_with fail
  refine(aLs _ _ hs'.o).mono ?_
  rintro e w' ⟨rfl,rfl⟩
  go_wp2_with fail
  go_ret2
  exact⟨rfl,rfl⟩
 | false =>
  rw[h1] at HD
  cases h2:lt s[0].toNat with
  | true =>
   rw[show kd (bs s)=2 by unfold kd;rw[hD,h1,hA,h2];rfl,show sz (bs s)=rn W (bs s) by unfold sz;rw[hD,h1,hA,h2];rfl]
   rw[h2] at HA
   clear hD hA h1 h2
   go_enter Tryz.func177,Tryz.ntmps177
   go_wp2_with fail
   refine(HD _).o.mono ?_
   rintro e w' ⟨rfl,rfl⟩
   go_wp2_with fail
   refine(HA _).o.mono ?_
   rintro e w' ⟨rfl,rfl⟩
   go_wp2_with fail
   refine(zZ _ _ hs'.o).mono ?_
   rintro e w' ⟨rfl,rfl⟩
   go_wp2_with fail
   go_ret2
   exact⟨rfl,rfl⟩
  | false =>
   rw[show kd (bs s)=3 by unfold kd;rw[hD,h1,hA,h2];rfl,show sz (bs s)=mk (bs s) by unfold sz;rw[hD,h1,hA,h2];rfl]
   rw[h2] at HA
   clear hD hA h1 h2
   go_enter Tryz.func177,Tryz.ntmps177
   go_wp2_with fail
   refine(HD _).o.mono ?_
   rintro e w' ⟨rfl,rfl⟩
   go_wp2_with fail
   refine(HA _).o.mono ?_
   rintro e w' ⟨rfl,rfl⟩
   go_wp2_with fail
   refine(aOw _ _ h0'.o hs'.o).mono ?_
   rintro e w' ⟨rfl,rfl⟩
   go_wp2_with fail
   go_ret2
   exact⟨rfl,rfl⟩
end Go.Proofs.YticnbcfmbhjbgaaGreatDoor
namespace Pz
open Lx
abbrev aM:=List UInt8
inductive Tk where
 | num (v:Int)
 | word (s:aM)
 | op (k:Nat) (o:Int)
 | ques | colon | lp | rp | comma | semi | eq
 deriving DecidableEq
structure Nd where
 op:Int
 a:Int
 b:Int
 c:Int
 k:Int
 back:Int
 co:Int
 x:Int
 y:Int
 deriving DecidableEq
abbrev lf (op k back co x y:Int):Nd:=⟨op,0,0,0,k,back,co,x,y⟩
inductive E where
 | leaf (n:Nd)
 | un (o:Int) (a:E)
 | bin (o:Int) (a b:E)
 | tri (o:Int) (a b c:E)
def E.size:E->Nat
 | .leaf _=>1
 | .un _ a=>a.size+1
 | .bin _ a b=>a.size+b.size+1
 | .tri _ a b c=>a.size+b.size+c.size+1
def E.flat:E->Nat->List Nd
 | .leaf n,_=>[n]
 | .un o a,s=>a.flat s++[⟨o,(s+a.size:Nat)-1,0,0,0,0,0,0,0⟩]
 | .bin o a b,s=>a.flat s++b.flat (s+a.size)++[⟨o,(s+a.size:Nat)-1,(s+a.size+b.size:Nat)-1,0,0,0,0,0,0⟩]
 | .tri o a b c,s=>a.flat s++b.flat (s+a.size)++c.flat (s+a.size+b.size)++[⟨o,(s+a.size:Nat)-1,(s+a.size+b.size:Nat)-1,(s+a.size+b.size+c.size:Nat)-1,0,0,0,0,0⟩]
theorem E.size_pos (e:E):0 < e.size:=by cases e <;> simp[E.size]
theorem E.flat_len:∀(e:E) (s:Nat),(e.flat s).length=e.size
 | .leaf n,s=>rfl
 | .un o a,s=>by simp[E.flat,E.size,E.flat_len a]
 | .bin o a b,s=>by simp[E.flat,E.size,E.flat_len a,E.flat_len b];omega
 | .tri o a b c,s=>by simp[E.flat,E.size,E.flat_len a,E.flat_len b,E.flat_len c];omega
def nS:aM:=[108,101,116]
def wP:aM:=[112]
def wQ:aM:=[113]
def bG (s:aM):Int :=
 if s=[97,98,115] then 6 else if s=[115,103,110] then 7 else if s=[109,105,110] then 24 else if s=[109,97,120] then 25
 else if s=[99,108,97,109,112] then 26 else if s=[109,101,100] then 27 else 0
def inK (s:aM):Int :=
 if s=[120] then 0 else if s=[121] then 1 else if s=[99] then 2 else if s=[108,111] then 3 else if s=[104,105] then 4 else if s=[109,105,100] then 5 else -1
def mU (s:aM):Bool:=s==nS || s==wP || s==wQ || bG s != 0 || decide (0<=inK s)
def tF (o:Int):Nat:=if o=6\/o=7 then 1 else if o=24\/o=25 then 2 else if o=26\/o=27 then 3 else 0
def pos (nm:List aM)(s:aM):Nat:=nm.findIdx (·==s)
def wd (nm:List aM)(s:aM):Option E :=
 if 0<=inK s then some (.leaf (lf 2 (inK s) 0 0 0 0)) else if nm.contains s then some (.leaf (lf 4 (pos nm s) 0 0 0 0)) else none
theorem tV {s:aM}(h:bG s≠0):tF (bG s)=1\/tF (bG s)=2\/tF (bG s)=3:=by
 unfold bG at h ⊢
 split
 ·exact .inl rfl
 split
 ·exact .inl rfl
 split
 ·exact .inr (.inl rfl)
 split
 ·exact .inr (.inl rfl)
 split
 ·exact .inr (.inr rfl)
 split
 ·exact .inr (.inr rfl)
 ·rename_i h1 h2 h3 h4 h5 h6
  rw[if_neg h1,if_neg h2,if_neg h3,if_neg h4,if_neg h5,if_neg h6] at h
  exact absurd rfl h
theorem gB {s:aM}(h:0 < tF (bG s)):bG s≠0:=by
 intro e
 rw[e] at h
 exact absurd h (by decide)
def uB (t:Tk):Option (E × List Tk)->Option (E × List Tk)
 | some (e,t'::r)=>if t'=t then some (e,r) else none
 | _=>none
theorem iZ {t:Tk}{res:Option (E × List Tk)}{e:E}{r:List Tk}(h:uB t res=some (e,r)):res=some (e,t::r):=by
 unfold uB at h
 split at h
 ·split at h
  ·rename_i h1;cases h;rw[h1]
  ·cases h
 ·cases h
theorem dV (t:Tk)(e:E)(r:List Tk):uB t (some (e,t::r))=some (e,r):=by simp[uB]
def off:List Tk->Option (Int × List Tk)
 | .num v::r=>some (v,r)
 | .op k o::.num v::r=>if k=5/\o=9 then some (-v,r) else none
 | _=>none
def kP (back:Int)(l:List Tk):Option (E × List Tk) :=
 match off l with
 | some (x,.rp::r)=>some (.leaf (lf 3 0 back 1 x 0),r)
 | some (x,.comma::r) =>
  match off r with
  | some (y,.rp::r2)=>some (.leaf (lf 3 0 back 2 x y),r2)
  | _=>none
 | _=>none
def wR (q:Bool)(l:List Tk):Option (E × List Tk) :=
 match l with
 | .lp::r =>
  if q then
   match r with
   | .num v::.comma::r1=>if v=0 then none else kP v r1
   | _=>none
  else kP 0 r
 | _=>none
def inP:Tk->Bool
 | .num _=>true
 | .op _ _=>true
 | .comma=>true
 | _=>false
theorem vI {l:List Tk}{x:Int}{r:List Tk}(h:off l=some (x,r)):∃ m,l=m++r/\m.all inP=true/\∀ r',off (m++r')=some (x,r'):=by
 unfold off at h
 split at h
 ·rename_i v r0
  cases h
  exact⟨[.num x],rfl,rfl,fun r'=>rfl⟩
 ·rename_i k o v r0
  split at h
  ·rename_i hk
   cases h
   exact⟨[.op k o,.num v],rfl,rfl,fun r'=>by simp[off,hk]⟩
  ·cases h
 ·cases h
theorem zR {back:Int}{l:List Tk}{e:E}{r:List Tk}(h:kP back l=some (e,r)):∃ m,l=m++.rp::r/\m.all inP=true/\(∃ n,e=.leaf n/\n.a=0/\n.b=0/\n.c=0)/\∀ r',kP back (m++.rp::r')=some (e,r'):=by
 unfold kP at h
 split at h
 ·rename_i x r0 h1
  cases h
  obtain⟨m,rfl,hm,hr⟩:=vI h1
  exact⟨m,rfl,hm,⟨_,rfl,rfl,rfl,rfl⟩,fun r'=>by unfold kP;rw[hr]⟩
 ·rename_i x r0 h1
  split at h
  ·rename_i y r2 h2
   cases h
   obtain⟨m,rfl,hm,hr⟩:=vI h1
   obtain⟨m2,rfl,hm2,hr2⟩:=vI h2
   refine⟨m++.comma::m2,by simp,by simp[inP] at *;exact⟨hm,hm2⟩,⟨_,rfl,rfl,rfl,rfl⟩,fun r'=>?_⟩
   unfold kP
   rw[lAa,hr]
   simp only[List.cons_append]
   rw[hr2]
  ·cases h
 ·cases h
theorem rD {q:Bool}{l:List Tk}{e:E}{r:List Tk}(h:wR q l=some (e,r)):∃ m,l=.lp::m++.rp::r/\m.all inP=true/\(∃ n,e=.leaf n/\n.a=0/\n.b=0/\n.c=0)/\∀ r',wR q (.lp::m++.rp::r')=some (e,r'):=by
 unfold wR at h
 split at h
 ·split at h
  ·rename_i hq
   split at h
   ·rename_i v r1
    split at h
    ·cases h
    ·rename_i hv
     obtain⟨m,rfl,hm,hn,hr⟩:=zR h
     refine⟨.num v::.comma::m,by simp,by simp[inP] at *;exact hm,hn,fun r'=>?_⟩
     simp only[wR,List.cons_append,hq,if_true,if_neg hv]
     exact hr r'
   ·cases h
  ·rename_i hq
   obtain⟨m,rfl,hm,hn,hr⟩:=zR h
   refine⟨m,by simp,hm,hn,fun r'=>?_⟩
   simp only[wR,List.cons_append,if_neg hq]
   exact hr r'
 ·cases h
abbrev lefts (k:Nat):Nat:=if k=3 then 5 else k+1
inductive G (nm:List aM):Nat->List Tk->E->Prop
 | up {c:Nat} {l:List Tk} {e:E}:c < 8->G nm (c+1) l e->G nm c l e
 | sel {l1 l2 l3:List Tk} {a b c:E}:G nm 1 l1 a->G nm 0 l2 b->G nm 0 l3 c->G nm 0 (l1++.ques::(l2++.colon::l3)) (.tri 28 a b c)
 | bin {k:Nat} {o:Int} {l1 l2:List Tk} {a b:E}:k < 7->G nm (lefts k) l1 a->G nm (k+2) l2 b->G nm (k+1) (l1++.op k o::l2) (.bin o a b)
 | neg {l:List Tk} {a:E}:G nm 8 l a->G nm 8 (.op 5 9::l) (.un 5 a)
 | par {l:List Tk} {e:E}:G nm 0 l e->G nm 8 (.lp::(l++[.rp])) e
 | num (v:Int):G nm 8 [.num v] (.leaf (lf 1 v 0 0 0 0))
 | word {s:aM} {e:E}:s≠wP->s≠wQ->bG s=0->wd nm s=some e->G nm 8 [.word s] e
 | place {s:aM} {l:List Tk} {e:E}:s=wP\/s=wQ->wR (s==wQ) l=some (e,[])->G nm 8 (.word s::l) e
 | call1 {s:aM} {l:List Tk} {a:E}:tF (bG s)=1->G nm 0 l a->G nm 8 (.word s::.lp::(l++[.rp])) (.un (bG s) a)
 | call2 {s:aM} {l l2:List Tk} {a b:E}:tF (bG s)=2->G nm 0 l a->G nm 0 l2 b->G nm 8 (.word s::.lp::(l++.comma::(l2++[.rp]))) (.bin (bG s) a b)
 | call3 {s:aM} {l l2 l3:List Tk} {a b c:E}:tF (bG s)=3->G nm 0 l a->G nm 0 l2 b->G nm 0 l3 c->G nm 8 (.word s::.lp::(l++.comma::(l2++.comma::(l3++[.rp])))) (.tri (bG s) a b c)
inductive NR where
 | at (c:Nat)
 | lp (k:Nat) (a:E)
def begins:List Tk->Bool
 | .num _::_=>true
 | .word _::_=>true
 | .lp::_=>true
 | .op k o::_=>decide (k=5/\o=9)
 | _=>false
abbrev aX0 (o:Int)(res:Option (E × List Tk)):Option (E × List Tk):=res.map fun p=>(.un o p.1,p.2)
abbrev bA5 (o:Int)(a:E)(res:Option (E × List Tk)):Option (E × List Tk):=res.map fun p=>(.bin o a p.1,p.2)
abbrev aXz (o:Int)(a b:E)(res:Option (E × List Tk)):Option (E × List Tk):=res.map fun p=>(.tri o a b p.1,p.2)
inductive R (nm:List aM):NR->List Tk->Option (E × List Tk)->Prop
 | ch_none {l:List Tk}:R nm (.at 1) l none->R nm (.at 0) l none
 | ch_up {l r:List Tk} {a:E}:R nm (.at 1) l (some (a,r))->r.head?≠some .ques->R nm (.at 0) l (some (a,r))
 | ch_no {l r:List Tk} {a:E} {res:Option (E × List Tk)}:R nm (.at 1) l (some (a,.ques::r))->R nm (.at 0) r res->uB .colon res=none->R nm (.at 0) l none
 | ch_sel {l r r2:List Tk} {a b:E} {res res2:Option (E × List Tk)}:R nm (.at 1) l (some (a,.ques::r))->R nm (.at 0) r res->uB .colon res=some (b,r2)->R nm (.at 0) r2 res2->R nm (.at 0) l (aXz 28 a b res2)
 | lv_none {k:Nat} {l:List Tk}:k < 7->R nm (.at (k+2)) l none->R nm (.at (k+1)) l none
 | lv_go {k:Nat} {l r:List Tk} {a:E} {res:Option (E × List Tk)}:k < 7->R nm (.at (k+2)) l (some (a,r))->R nm (.lp k a) r res->R nm (.at (k+1)) l res
 | lp_stop {k:Nat} {a:E} {r:List Tk}:(∀ o,r.head?≠some (.op k o))->R nm (.lp k a) r (some (a,r))
 | lp_none {k:Nat} {a:E} {o:Int} {r:List Tk}:R nm (.at (k+2)) r none->R nm (.lp k a) (.op k o::r) none
 | lp_cmp {a b:E} {o:Int} {r r2:List Tk}:R nm (.at 5) r (some (b,r2))->R nm (.lp 3 a) (.op 3 o::r) (some (.bin o a b,r2))
 | lp_go {k:Nat} {a b:E} {o:Int} {r r2:List Tk} {res:Option (E × List Tk)}:k≠3->R nm (.at (k+2)) r (some (b,r2))->R nm (.lp k (.bin o a b)) r2 res->R nm (.lp k a) (.op k o::r) res
 | neg {l:List Tk} {res:Option (E × List Tk)}:R nm (.at 8) l res->R nm (.at 8) (.op 5 9::l) (aX0 5 res)
 | par {l:List Tk} {res:Option (E × List Tk)}:R nm (.at 0) l res->R nm (.at 8) (.lp::l) (uB .rp res)
 | num (v:Int) (l:List Tk):R nm (.at 8) (.num v::l) (some (.leaf (lf 1 v 0 0 0 0),l))
 | word {s:aM} {l:List Tk}:s≠wP->s≠wQ->bG s=0->R nm (.at 8) (.word s::l) ((wd nm s).map fun e=>(e,l))
 | place {s:aM} {l:List Tk}:s=wP\/s=wQ->R nm (.at 8) (.word s::l) (wR (s==wQ) l)
 | callx {s:aM} {l:List Tk}:bG s≠0->l.head?≠some .lp->R nm (.at 8) (.word s::l) none
 | call1 {s:aM} {l:List Tk} {res:Option (E × List Tk)}:tF (bG s)=1->R nm (.at 0) l res->R nm (.at 8) (.word s::.lp::l) (aX0 (bG s) (uB .rp res))
 | calln {s:aM} {l:List Tk} {res:Option (E × List Tk)}:2<=tF (bG s)->R nm (.at 0) l res->uB .comma res=none->R nm (.at 8) (.word s::.lp::l) none
 | call2 {s:aM} {l r:List Tk} {a:E} {res res2:Option (E × List Tk)}:tF (bG s)=2->R nm (.at 0) l res->uB .comma res=some (a,r)->R nm (.at 0) r res2->R nm (.at 8) (.word s::.lp::l) (bA5 (bG s) a (uB .rp res2))
 | call3n {s:aM} {l r:List Tk} {a:E} {res res2:Option (E × List Tk)}:tF (bG s)=3->R nm (.at 0) l res->uB .comma res=some (a,r)->R nm (.at 0) r res2->uB .comma res2=none->R nm (.at 8) (.word s::.lp::l) none
 | call3 {s:aM} {l r r2:List Tk} {a b:E} {res res2 res3:Option (E × List Tk)}:tF (bG s)=3->R nm (.at 0) l res->uB .comma res=some (a,r)->R nm (.at 0) r res2->uB .comma res2=some (b,r2)->R nm (.at 0) r2 res3->R nm (.at 8) (.word s::.lp::l) (aXz (bG s) a b (uB .rp res3))
 | bad {l:List Tk}:begins l=false->R nm (.at 8) l none
def wL (c:Nat)(r:List Tk):Prop:=∀ t,r.head?=some t->(∀ k o,t=.op k o->k+1 < c)/\(t=.ques->c≠0)
theorem wL.mono {c c':Nat}{r:List Tk}(h:wL c r)(hc:c<=c'):wL c' r:=fun t ht=>⟨fun k o e=>Nat.lt_of_lt_of_le ((h t ht).1 k o e) hc,fun e=>by have:=(h t ht).2 e;omega⟩
theorem wL.nil (c:Nat):wL c []:=fun t ht=>by simp at ht
theorem wL.cons {c:Nat}{t:Tk}(r:List Tk)(h1:∀ k o,t=.op k o->k+1 < c)(h2:t=.ques->c≠0):wL c (t::r):=fun t' ht=>by
 simp at ht;subst ht;exact⟨h1,h2⟩
theorem yC {nm:List aM}{c:Nat}{l:List Tk}{e:E}(h:G nm c l e):(∀ r,wL c r->R nm (.at c) (l++r) (some (e,r))) /\
  (∀ k,c=k+1->k < 7->k≠3->∀ r res,wL (k+2) r->R nm (.lp k e) r res->R nm (.at (k+1)) (l++r) res):=by
 induction h with
 | @up c l e hc hg ih =>
  have hB:∀ k,c=k+1->k < 7->∀ r res,wL (k+2) r->R nm (.lp k e) r res->R nm (.at (k+1)) (l++r) res:=by
   rintro k rfl hk r res hf hr
   exact R.lv_go hk (ih.1 r hf) hr
  refine⟨fun r hf=>?_,fun k hk h7 _ r res hf hr=>hB k hk h7 r res hf hr⟩
  cases c with
  | zero=>exact R.ch_up (ih.1 r (hf.mono (by omega))) (fun hq=>(hf _ hq).2 rfl rfl)
  | succ k=>exact hB k rfl (by omega) r _ (hf.mono (by omega)) (R.lp_stop fun o ho=>by have:=(hf _ ho).1 k o rfl;omega)
 | @sel l1 l2 l3 a b c h1 h2 h3 ih1 ih2 ih3 =>
  refine⟨fun r hf=>?_,fun k hk=>by omega⟩
  have e1:=ih1.1 (.ques::(l2++.colon::(l3++r))) (wL.cons _ (by intro k o e;cases e) (by omega))
  have e2:=ih2.1 (.colon::(l3++r)) (wL.cons _ (by intro k o e;cases e) (by intro e;cases e))
  have e3:=ih3.1 r hf
  have:=R.ch_sel (nm:=nm) e1 e2 (dV _ _ _) e3
  simpa using this
 | @bin k o l1 l2 a b hk h1 h2 ih1 ih2 =>
  have hB:∀ r,wL (k+2) r->∀ res,k≠3->R nm (.lp k (.bin o a b)) r res->R nm (.at (k+1)) (l1++.op k o::l2++r) res:=by
   intro r hf res h3 hr
   have hl:lefts k=k+1:=by unfold lefts;rw[if_neg h3]
   have:=ih1.2 k hl hk h3 (.op k o::(l2++r)) res (wL.cons _ (by intro k' o' e;cases e;omega) (by intro e;cases e)) (R.lp_go h3 (ih2.1 r hf) hr)
   simpa using this
  refine⟨fun r hf=>?_,fun k' hk' h7 h3 r res hf hr=>?_⟩
  ·by_cases h3:k=3
   ·subst h3
    have e1:=ih1.1 (.op 3 o::(l2++r)) (wL.cons _ (by intro k' o' e;cases e;decide) (by intro e;cases e))
    have e2:=ih2.1 r (hf.mono (by omega))
    have:=R.lv_go (k:=3) (by omega) e1 (R.lp_cmp (a:=a) (o:=o) e2)
    simpa using this
   ·exact hB r (hf.mono (by omega)) _ h3 (R.lp_stop fun o ho=>by have:=(hf _ ho).1 k o rfl;omega)
  ·obtain rfl:k=k':=by omega
   exact hB r hf res h3 hr
 | @neg l a h ih =>
  refine⟨fun r hf=>?_,fun k hk=>by omega⟩
  exact R.neg (ih.1 r hf)
 | @par l e h ih =>
  refine⟨fun r hf=>?_,fun k hk=>by omega⟩
  have e1:=ih.1 (.rp::r) (wL.cons _ (by intro k' o' e;cases e) (by intro e;cases e))
  have:=R.par e1
  rw[dV] at this
  simpa using this
 | num v=>exact⟨fun r hf=>R.num v r,fun k hk=>by omega⟩
 | @word s e h1 h2 h3 h4 =>
  refine⟨fun r hf=>?_,fun k hk=>by omega⟩
  have:=R.word (nm:=nm) (l:=r) h1 h2 h3
  rw[h4] at this
  exact this
 | @place s l e h1 h2 =>
  refine⟨fun r hf=>?_,fun k hk=>by omega⟩
  obtain⟨m,rfl,-,-,hr⟩:=rD h2
  have:=R.place (nm:=nm) (l:=.lp::m++.rp::r) h1
  rw[hr] at this
  simpa using this
 | @call1 s l a h1 h2 ih =>
  refine⟨fun r hf=>?_,fun k hk=>by omega⟩
  have e1:=ih.1 (.rp::r) (wL.cons _ (by intro k' o' e;cases e) (by intro e;cases e))
  have:=R.call1 h1 e1
  rw[dV] at this
  simpa using this
 | @call2 s l l2 a b h1 h2 h3 ih ih2 =>
  refine⟨fun r hf=>?_,fun k hk=>by omega⟩
  have e1:=ih.1 (.comma::(l2++.rp::r)) (wL.cons _ (by intro k' o' e;cases e) (by intro e;cases e))
  have e2:=ih2.1 (.rp::r) (wL.cons _ (by intro k' o' e;cases e) (by intro e;cases e))
  have:=R.call2 h1 e1 (dV _ _ _) e2
  rw[dV] at this
  simpa using this
 | @call3 s l l2 l3 a b c h1 h2 h3 h4 ih ih2 ih3 =>
  refine⟨fun r hf=>?_,fun k hk=>by omega⟩
  have e1:=ih.1 (.comma::(l2++.comma::(l3++.rp::r))) (wL.cons _ (by intro k' o' e;cases e) (by intro e;cases e))
  have e2:=ih2.1 (.comma::(l3++.rp::r)) (wL.cons _ (by intro k' o' e;cases e) (by intro e;cases e))
  have e3:=ih3.1 (.rp::r) (wL.cons _ (by intro k' o' e;cases e) (by intro e;cases e))
  have:=R.call3 h1 e1 (dV _ _ _) e2 (dV _ _ _) e3
  rw[dV] at this
  simpa using this
def aRy (nm:List aM):NR->List Tk->Option (E × List Tk)->Prop
 | .at c,l,res=>∀ e r,res=some (e,r)->∃ p,l=p++r/\G nm c p e
 | .lp k a,l,res=>k < 7->∀ l0,G nm (lefts k) l0 a->∀ e r,res=some (e,r)->∃ p,l=p++r/\G nm (k+1) (l0++p) e
theorem sound {nm:List aM}{x:NR}{l:List Tk}{res:Option (E × List Tk)}(h:R nm x l res):aRy nm x l res:=by
 induction h with
 | ch_none h ih=>intro e r he;cases he
 | ch_up h hq ih =>
  intro e r he
  obtain⟨p,hp,hg⟩:=ih e r he
  exact⟨p,hp,G.up (by omega) hg⟩
 | ch_no h1 h2 h3 ih1 ih2=>intro e r he;cases he
 | @ch_sel l r r2 a b res res2 h1 h2 h3 h4 ih1 ih2 ih4 =>
  intro e r3 he
  obtain⟨p1,rfl,g1⟩:=ih1 a _ rfl
  rw[iZ h3] at ih2
  obtain⟨p2,rfl,g2⟩:=ih2 b _ rfl
  cases res2 with
  | none=>cases he
  | some q =>
   obtain⟨c,r4⟩:=q
   cases he
   obtain⟨p3,rfl,g3⟩:=ih4 c _ rfl
   exact⟨_,by simp,G.sel g1 g2 g3⟩
 | lv_none hk h ih=>intro e r he;cases he
 | @lv_go k l r a res hk h1 h2 ih1 ih2 =>
  intro e r3 he
  obtain⟨p1,rfl,g1⟩:=ih1 a _ rfl
  have hl:G nm (lefts k) p1 a:=by
   unfold lefts
   split
   ·rename_i h3;subst h3;exact g1
   ·exact G.up (by omega) g1
  obtain⟨p2,rfl,g2⟩:=ih2 hk p1 hl e r3 he
  exact⟨p1++p2,by simp,g2⟩
 | @lp_stop k a r h =>
  intro hk l0 hg e r3 he
  cases he
  refine⟨[],rfl,?_⟩
  rw[List.append_nil]
  unfold lefts at hg
  split at hg
  ·rename_i h3;subst h3;exact G.up (by omega) hg
  ·exact hg
 | lp_none h ih=>intro hk l0 hg e r3 he;cases he
 | @lp_cmp a b o r r2 h ih =>
  intro hk l0 hg e r3 he
  cases he
  obtain⟨p,rfl,g⟩:=ih b _ rfl
  exact⟨.op 3 o::p,rfl,G.bin (by omega) hg g⟩
 | @lp_go k a b o r r2 res h3 h1 h2 ih1 ih2 =>
  intro hk l0 hg e r3 he
  obtain⟨p,rfl,g⟩:=ih1 b _ rfl
  have hl:lefts k=k+1:=by unfold lefts;rw[if_neg h3]
  obtain⟨p2,rfl,g2⟩:=ih2 hk (l0++.op k o::p) (by rw[hl];exact G.bin hk hg g) e r3 he
  exact⟨.op k o::p++p2,by simp,by simpa using g2⟩
 | @neg l res h ih =>
  intro e r3 he
  cases res with
  | none=>cases he
  | some q =>
   obtain⟨a,r⟩:=q
   cases he
   obtain⟨p,rfl,g⟩:=ih a _ rfl
   exact⟨.op 5 9::p,rfl,G.neg g⟩
 | @par l res h ih =>
  intro e r3 he
  obtain⟨p,rfl,g⟩:=ih e _ (iZ he)
  exact⟨.lp::(p++[.rp]),by simp,G.par g⟩
 | num v l=>intro e r3 he;cases he;exact⟨[.num v],rfl,G.num v⟩
 | @word s l h1 h2 h3 =>
  intro e r3 he
  cases hw:wd nm s with
  | none=>rw[hw] at he;cases he
  | some e'=>rw[hw] at he;cases he;exact⟨[.word s],rfl,G.word h1 h2 h3 hw⟩
 | @place s l h1 =>
  intro e r3 he
  obtain⟨m,rfl,-,-,hr⟩:=rD he
  exact⟨.word s::(.lp::m++[.rp]),by simp,G.place h1 (hr [])⟩
 | callx h1 h2=>intro e r3 he;cases he
 | @call1 s l res h1 h ih =>
  intro e r3 he
  cases hq:uB .rp res with
  | none=>rw[hq] at he;cases he
  | some q =>
   obtain⟨a,r⟩:=q
   rw[hq] at he
   cases he
   obtain⟨p,rfl,g⟩:=ih a _ (iZ hq)
   exact⟨.word s::.lp::(p++[.rp]),by simp,G.call1 h1 g⟩
 | calln h1 h2 h3 ih=>intro e r3 he;cases he
 | @call2 s l r a res res2 h1 h2 h3 h4 ih ih2 =>
  intro e r3 he
  cases hq:uB .rp res2 with
  | none=>rw[hq] at he;cases he
  | some q =>
   obtain⟨b,r4⟩:=q
   rw[hq] at he
   cases he
   obtain⟨p,rfl,g⟩:=ih a _ (iZ h3)
   obtain⟨p2,rfl,g2⟩:=ih2 b _ (iZ hq)
   exact⟨.word s::.lp::(p++.comma::(p2++[.rp])),by simp,G.call2 h1 g g2⟩
 | call3n h1 h2 h3 h4 h5 ih ih2=>intro e r3 he;cases he
 | @call3 s l r r2 a b res res2 res3 h1 h2 h3 h4 h5 h6 ih ih2 ih3 =>
  intro e r3 he
  cases hq:uB .rp res3 with
  | none=>rw[hq] at he;cases he
  | some q =>
   obtain⟨c,r4⟩:=q
   rw[hq] at he
   cases he
   obtain⟨p,rfl,g⟩:=ih a _ (iZ h3)
   obtain⟨p2,rfl,g2⟩:=ih2 b _ (iZ h5)
   obtain⟨p3,rfl,g3⟩:=ih3 c _ (iZ hq)
   exact⟨.word s::.lp::(p++.comma::(p2++.comma::(p3++[.rp]))),by simp,G.call3 h1 g g2 g3⟩
 | bad h=>intro e r3 he;cases he
end Pz
