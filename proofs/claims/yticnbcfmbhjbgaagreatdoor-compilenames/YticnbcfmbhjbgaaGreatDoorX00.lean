import Derived.Test.YticnbcfmbhjbgaaGreatDoorXH
import Derived.Test.YticnbcfmbhjbgaaGreatDoorChecked
import Derived.WalkKit
import Derived.WalkSpells
import Derived.Lib.Bytealg
import Derived.Lib.IndexBytes
import Derived.ProofKit
import Derived.OpenShut
import Derived.ChangeOld
import Derived.SizedLaws
import Derived.Below
import Derived.Deep.Slices
import Derived.Shelf.Pu.Clone
set_option maxRecDepth 100000
set_option maxHeartbeats 32000000
set_option linter.unusedVariables false
namespace Lx
variable {k:Nat}
def dg (c:Int):Bool:=decide (48<=c)&&decide (c<=57)
def lt (c:Int):Bool:=decide (97<=c)&&decide (c<=122)
def wi (c:Int):Bool:=lt c || dg c || c==95
def D (c:UInt8):Bool:=dg c.toNat
def A (c:UInt8):Bool:=lt c.toNat
def W (c:UInt8):Bool:=wi c.toNat
def bl (c:UInt8):Bool:=c==32 || c==9 || c==10
def sh:List UInt8:=[43,45,42,47,37,40,41,44,59,61,63,58,60,62,38,124,94]
def two:List (List UInt8):=[[60,61],[62,61],[61,61],[33,61],[60,60],[62,62]]
def rn (p:UInt8->Bool)(l:List UInt8):Nat:=(l.takeWhile p).length
def mk (l:List UInt8):Nat:=if two.contains (l.take 2) then 2 else if sh.contains (l.headD 0) then 1 else 0
def vl (l:List UInt8):Int:=l.foldl (fun n c=>10*n+((c.toNat:Int)-48)) 0
def num (l:List UInt8):Bool:=!l.isEmpty&&l.all D&&!(l.headD 0==48&&decide (1 < l.length))&&decide (vl l<=2147483647)
def qO (l:List UInt8):Bool:=!l.isEmpty&&decide (l.length<=16)&&A (l.headD 0)&&l.all W
def kd (l:List UInt8):Int:=if D (l.headD 0) then 1 else if A (l.headD 0) then 2 else 3
def sz (l:List UInt8):Nat:=if D (l.headD 0) then rn D l else if A (l.headD 0) then rn W l else mk l
def may (k:Int)(l:List UInt8):Bool:=if k=1 then num l else if k=2 then qO l else !l.isEmpty
def gd (l:List UInt8):Bool:=may (kd l) (l.take (sz l))
def nl (c:UInt8):Bool:=c != 10
structure Tok where
 kind:Int
 text:List UInt8
 pos:Nat
theorem aCo {k:Int}{l:List UInt8}(h:may k l=true):0 < l.length:=by
 cases l with
 | nil=>revert h;unfold may;split <;> (try split) <;> simp[num,qO]
 | cons a l=>simp
theorem xQ {l:List UInt8}(h:gd l=true):0 < sz l:=by
 have:=aCo h
 rw[lLt] at this
 omega
theorem jT (p:UInt8->Bool):∀ l:List UInt8,(l.dropWhile p).length<=l.length
 | []=>by simp
 | a::l=>by
  rw[List.dropWhile_cons]
  have:=jT p l
  split <;> simp <;> omega
def sc:List UInt8->Nat->Option (List Tok)
 | [],_=>some []
 | c::r,p =>
  if bl c then sc r (p+1)
  else if c=35 then sc (r.dropWhile nl) (p+1+rn nl r)
  else if h:gd (c::r)=true then(sc ((c::r).drop (sz (c::r))) (p+sz (c::r))).map (fun T=>⟨kd (c::r),(c::r).take (sz (c::r)),p⟩::T)
  else none
 termination_by l=>l.length
 decreasing_by
 ·simp
 ·have:=jT nl r;simp;omega
 ·have:=xQ h;simp;omega
theorem lM (p:Nat):sc [] p=some []:=by rw[sc]
theorem oV {c:UInt8}(h:bl c=true)(r:List UInt8)(p:Nat):sc (c::r) p=sc r (p+1):=by rw[sc,if_pos h]
theorem aC2 (r:List UInt8)(p:Nat):sc (35::r) p=sc (r.dropWhile nl) (p+1+rn nl r):=by
 rw[sc,if_neg (by decide),if_pos rfl]
theorem yU {c:UInt8}{r:List UInt8}(h1:bl c=false)(h2:c≠35)(h:gd (c::r)=true)(p:Nat) :
  sc (c::r) p=(sc ((c::r).drop (sz (c::r))) (p+sz (c::r))).map (fun T=>⟨kd (c::r),(c::r).take (sz (c::r)),p⟩::T):=by
 rw[sc,if_neg (by simp[h1]),if_neg h2,dif_pos h]
theorem aC1 {c:UInt8}{r:List UInt8}(h1:bl c=false)(h2:c≠35)(h:gd (c::r)=false)(p:Nat):sc (c::r) p=none:=by
 rw[sc,if_neg (by simp[h1]),if_neg h2,dif_neg (by simp[h])]
def zR (l:List UInt8):Option (List Tok):=if 1024 < l.length then none else sc l 0
def Fm (k:Int)(x:List UInt8):Prop :=
 x≠[]/\((k=1/\x.all D=true)\/(k=2/\A (x.headD 0)=true/\x.all W=true)\/(k=3/\(two.contains x=true\/∃ c,sh.contains c=true/\x=[c])))
theorem eD (p:UInt8->Bool):∀ l:List UInt8,l.take (rn p l)=l.takeWhile p
 | []=>rfl
 | a::l=>by
  unfold rn
  cases h:p a with
  | true =>
   rw[List.takeWhile_cons,if_pos h]
   have:=eD p l
   unfold rn at this
   rw[lLc,List.take_succ_cons,this]
  | false=>rw[List.takeWhile_cons,if_neg (by simp[h])];rfl
theorem gU (p:UInt8->Bool):∀ l:List UInt8,(l.takeWhile p).all p=true
 | []=>rfl
 | a::l=>by
  rw[List.takeWhile_cons]
  split
  ·rename_i h;rw[lAc,h,gU p l];rfl
  ·simp
theorem gV (p:UInt8->Bool):∀(x r:List UInt8),x.all p=true->(∀ a,r.head?=some a->p a=false)->(x++r).takeWhile p=x
 | [],[],_,_=>rfl
 | [],a::r,_,h=>by simp[h a rfl]
 | b::x,r,hx,h=>by
  simp only[lAc,bAt] at hx
  rw[List.cons_append,List.takeWhile_cons,if_pos hx.1,gV p x r hx.2 h]
theorem jO (p:UInt8->Bool)(l:List UInt8):l.takeWhile p++l.dropWhile p=l:=List.takeWhile_append_dropWhile
theorem aTa (p:UInt8->Bool)(l:List UInt8):l.drop (rn p l)=l.dropWhile p:=by
 have h:=jO p l
 have h2:=List.drop_left (l₁:=l.takeWhile p) (l₂:=l.dropWhile p)
 rw[h] at h2
 exact h2
theorem mY {x:List UInt8}(h:two.contains x=true):x=[60,61]\/x=[62,61]\/x=[61,61]\/x=[33,61]\/x=[60,60]\/x=[62,62]:=by
 simpa [two] using h
theorem aB8 {l:List UInt8}(hl:l≠[])(h:gd l=true):Fm (kd l) (l.take (sz l))/\may (kd l) (l.take (sz l))=true:=by
 refine⟨⟨?_,?_⟩,h⟩
 ·have:=aCo h
  intro e
  rw[e] at this
  simp at this
 ·obtain⟨c,r,rfl⟩:∃ c r,l=c::r:=by cases l with|nil=>exact absurd rfl hl|cons c r=>exact⟨c,r,rfl⟩
  by_cases h1:D c=true
  ·left
   simp only[kd,sz,List.headD_cons,h1,if_true]
   exact⟨trivial,by rw[eD];exact gU _ _⟩
  ·simp only[Bool.not_eq_true] at h1
   by_cases h2:A c=true
   ·right;left
    simp only[kd,sz,List.headD_cons,h1,h2,if_true,Bool.false_eq_true,if_false]
    refine⟨trivial,?_,by rw[eD];exact gU _ _⟩
    rw[eD,List.takeWhile_cons,if_pos (by simp[W,wi,show lt c.toNat=true from h2])]
    exact h2
   ·simp only[Bool.not_eq_true] at h2
    right;right
    have hp:=xQ h
    simp only[kd,sz,List.headD_cons,h1,h2,Bool.false_eq_true,if_false] at hp ⊢
    refine⟨trivial,?_⟩
    unfold mk at hp ⊢
    split
    ·rename_i h3;exact .inl h3
    ·split
     ·rename_i h3;exact .inr ⟨c,h3,rfl⟩
     ·rename_i h3 h4;rw[if_neg h3,if_neg h4] at hp;omega
theorem aPb {c:UInt8}(h:sh.contains c=true):D c=false/\A c=false/\bl c=false/\c≠35:=by
 have:c ∈ sh:=by simpa using h
 revert c
 intro c _ hc
 simp only[sh,lMm,lNm,or_false] at hc
 rcases hc with rfl|rfl|rfl|rfl|rfl|rfl|rfl|rfl|rfl|rfl|rfl|rfl|rfl|rfl|rfl|rfl|rfl <;> decide
theorem aX0 {c:UInt8}(h:D c=true):bl c=false/\c≠35:=by
 have h':48<=(c.toNat:Int)/\(c.toNat:Int)<=57:=by simpa [D,dg] using h
 refine⟨?_,fun e=>by subst e;simp at h'⟩
 cases hb:bl c with
 | false=>rfl
 | true =>
  simp only[bl,Bool.or_eq_true,beq_iff_eq] at hb
  rcases hb with(rfl|rfl)|rfl <;> simp at h'
theorem aHn {c:UInt8}(h:A c=true):bl c=false/\c≠35/\D c=false/\W c=true:=by
 have h':97<=(c.toNat:Int)/\(c.toNat:Int)<=122:=by simpa [A,lt] using h
 refine⟨?_,fun e=>by subst e;simp at h',?_,?_⟩
 ·cases hb:bl c with
  | false=>rfl
  | true =>
   simp only[bl,Bool.or_eq_true,beq_iff_eq] at hb
   rcases hb with(rfl|rfl)|rfl <;> simp at h'
 ·simp[D,dg];omega
 ·have:lt c.toNat=true:=h
  simp[W,wi,this]
theorem aFb {p:UInt8->Bool}{l:List UInt8}(h1:(l.take k).all p=true)(hk:k<=l.length)(h2:∀ c,l[k]?=some c->p c=false):rn p l=k:=by
 have h:=gV p (l.take k) (l.drop k) h1 (by intro a ha;rw[List.head?_drop] at ha;exact h2 a ha)
 rw[lTd] at h
 unfold rn
 rw[h,lLt]
 omega
theorem rY {p:UInt8->Bool}{l:List UInt8}{c:UInt8}(h1:(l.take k).all p=true)(hc:l[k]?=some c)(h:p c=true):(l.take (k+1)).all p=true:=by
 rw[List.take_add_one,hc,List.all_append,h1]
 simp[h]
theorem aQi {p:UInt8->Bool}{l:List UInt8}{c:UInt8}(hc:l[k]?=some c)(h:p c=false):l.all p=false:=by
 rw[List.all_eq_false]
 exact⟨c,List.mem_of_getElem? hc,by simp[h]⟩
def nv (l:List UInt8):Int:=if num l then vl l else 0
theorem aI9 (l:List UInt8)(c:UInt8):vl (l++[c])=10*vl l+((c.toNat:Int)-48):=by simp[vl]
theorem aT0 {l:List UInt8}{c:UInt8}(hc:l[k]?=some c):vl (l.take (k+1))=10*vl (l.take k)+((c.toNat:Int)-48):=by
 rw[List.take_add_one,hc];exact aI9 _ _
theorem aDq {c:UInt8}:D c=true↔48<=(c.toNat:Int)/\(c.toNat:Int)<=57:=by simp[D,dg]
theorem xP:∀(l:List UInt8) (n:Int),l.all D=true->0<=n->n<=l.foldl (fun n c=>10*n+((c.toNat:Int)-48)) n
 | [],n,_,_=>by simp
 | c::l,n,h,h0=>by
  simp only[lAc,bAt] at h
  have hc:=aDq.1 h.1
  have:=xP l (10*n+((c.toNat:Int)-48)) h.2 (by omega)
  simp only[List.foldl_cons]
  omega
theorem uW {l:List UInt8}(h:l.all D=true):0<=vl l:=xP l 0 h (by omega)
theorem aTz {l:List UInt8}(h:l.all D=true)(k:Nat):vl (l.take k)<=vl l:=by
 have e:vl l=(l.drop k).foldl (fun n c=>10*n+((c.toNat:Int)-48)) (vl (l.take k)):=by
  unfold vl
  rw[<-List.foldl_append,lTd]
 rw[e]
 have h':l.all D=true:=h
 rw[<-lTd k l,List.all_append,bAt] at h'
 exact xP _ _ h'.2 (uW h'.1)
theorem aWm {l:List UInt8}{c:UInt8}(hc:l[k]?=some c)(h:D c=false):num l=false:=by
 simp[num,aQi hc h]
theorem aSi {l:List UInt8}(h:2147483647 < vl (l.take k)):num l=false:=by
 cases ha:l.all D with
 | false=>simp[num,ha]
 | true =>
  have:=aTz ha k
  simp only[num,Bool.and_eq_false_iff,decide_eq_false_iff_not]
  right;omega
theorem aIl {l:List UInt8}(h0:l≠[])(h1:l.all D=true)(h2:(l.headD 0==48&&decide (1 < l.length))=false)(h3:vl l<=2147483647):num l=true:=by
 simp only[num,h1,h2,h3,decide_true,Bool.and_true,Bool.not_false]
 cases l with
 | nil=>exact absurd rfl h0
 | cons a l=>rfl
theorem aWn {l:List UInt8}(h:num l=true):nv l=vl l:=by rw[nv,if_pos h]
theorem aN5 {l:List UInt8}(h:num l=false):nv l=0:=by rw[nv,if_neg (by simp[h])]
theorem aXe (p:UInt8->Bool)(l:List UInt8):(((rn p l:Nat):Int)==(l.length:Int))=l.all p:=by
 cases h:l.all p with
 | true =>
  have:=gV p l [] h (by simp)
  rw[List.append_nil] at this
  simp[rn,this]
 | false =>
  have hne:rn p l≠l.length:=by
   intro e
   have h1:=eD p l
   rw[e,lTg] at h1
   have h2:=gU p l
   rw[<-h1,h] at h2
   cases h2
  simp;omega
theorem kC {l:List UInt8}{c:UInt8}(hc:l[k]?=some c):l.drop k=c::l.drop (k+1):=by
 obtain⟨h,e⟩:=List.getElem?_eq_some_iff.1 hc
 rw[List.drop_eq_getElem_cons h,e]
def Inv (l:List UInt8)(k:Nat)(T:List Tok):Prop:=sc l 0=(sc (l.drop k) k).map (T++·)
theorem Inv.start (l:List UInt8):Inv l 0 []:=by
 unfold Inv
 rw[List.drop_zero]
 cases sc l 0 <;> simp
theorem Inv.blank {l:List UInt8}{T:List Tok}{c:UInt8}(h:Inv l k T)(hc:l[k]?=some c)(hb:bl c=true):Inv l (k+1) T:=by
 unfold Inv at *
 rw[h,kC hc,oV hb]
theorem Inv.rem {l:List UInt8}{k j:Nat}{T:List Tok}(h:Inv l k T)(hc:l[k]?=some 35)(hj:k < j)(hjl:j<=l.length)(ha:((l.drop k).take (j-k)).all nl=true)(he:∀ c,l[j]?=some c->c=10):Inv l j T:=by
 unfold Inv at *
 have hr:rn nl (l.drop k)=j-k:=aFb ha (by rw[List.length_drop];omega) (by
  intro c hc'
  rw[List.getElem?_drop,show k+(j-k)=j by omega] at hc'
  rw[he c hc'];rfl)
 have e1:rn nl (l.drop k)=1+rn nl (l.drop (k+1)):=by
  rw[kC hc]
  unfold rn
  rw[List.takeWhile_cons,if_pos (by decide),lLc]
  omega
 have e2:(l.drop (k+1)).dropWhile nl=l.drop j:=by
  rw[<-aTa,List.drop_drop]
  congr 1
  omega
 rw[h,kC hc,aC2,e2]
 congr 2
 omega
theorem Inv.tok {l:List UInt8}{T:List Tok}{c:UInt8}(h:Inv l k T)(hc:l[k]?=some c)(h1:bl c=false)(h2:c≠35)(hg:gd (l.drop k)=true) :
  Inv l (k+sz (l.drop k)) (T++[⟨kd (l.drop k),(l.drop k).take (sz (l.drop k)),k⟩]):=by
 unfold Inv at *
 have e:=kC hc
 have hs:=yU (p:=k) h1 h2 (by rw[<-e];exact hg)
 rw[<-e] at hs
 rw[h,hs,List.drop_drop]
 cases sc (l.drop (k+sz (l.drop k))) (k+sz (l.drop k)) <;> simp
theorem Inv.bad {l:List UInt8}{T:List Tok}{c:UInt8}(h:Inv l k T)(hc:l[k]?=some c)(h1:bl c=false)(h2:c≠35)(hg:gd (l.drop k)=false):sc l 0=none:=by
 unfold Inv at *
 have e:=kC hc
 rw[h,e,aC1 h1 h2 (by rw[<-e];exact hg)]
 rfl
theorem Inv.ends {l:List UInt8}{T:List Tok}(h:Inv l k T)(hk:l.length<=k):sc l 0=some T:=by
 unfold Inv at h
 rw[h,List.drop_of_length_le hk,lM]
 simp
end Lx
namespace Go.Proofs.YticnbcfmbhjbgaaGreatDoor
open Go.RowKit Go.IntWalk Lx
theorem aA {p:Prop}(h:p):Hid p:=h
theorem bel {w w1 w2:World}(h:Below w.heap.size w w1)(k:Below w1.heap.size w1 w2):Below w.heap.size w w2:=h.trans (k.mono h.size)
theorem aD (w:World)(o:Obj):Below w.heap.size w (w.alloc o):=(Below.refl _ _).alloc (nLr _) _
theorem aN {k:IntKind}{a b:Int}(h:a=b):Ending.returned (.int k a)=.returned (.int k b):=by rw[h]
theorem aV {a b:Bool}(h:a=b):Ending.returned (.bool a)=.returned (.bool b):=by rw[h]
abbrev bs (s:ByteArray):List UInt8:=s.data.toList
theorem dD (s:ByteArray):(bs s).length=s.size:=by cases s;rfl
theorem aAi {s:ByteArray}{k:Nat}(h:k < s.size):(bs s)[k]?=some s[k]:=Lib.data_getElem? s k h
theorem aHr (s:ByteArray)(k:Nat):bs (s.extract k s.size)=(bs s).drop k:=Lib.extract_to_end s k
theorem iE (c:Int)(w:World) :
  Calls Tryz.prog 248 #[.int .u8 c] w fun e w'=>e=.returned (.bool (dg c))/\w'=w:=by
 by_cases h1:48<=c
 ·go_enter Tryz.func248,Tryz.ntmps248
  go_wp2
  go_ret
  exact⟨aV (by simp[dg,h1]),rfl⟩
 ·rw[show dg c=false by simp[dg];omega]
  go_enter Tryz.func248,Tryz.ntmps248
  go_wp2
  go_ret
  exact⟨rfl,rfl⟩
theorem jC (c:Int)(w:World) :
  Calls Tryz.prog 250 #[.int .u8 c] w fun e w'=>e=.returned (.bool (lt c))/\w'=w:=by
 by_cases h1:97<=c
 ·go_enter Tryz.func250,Tryz.ntmps250
  go_wp2
  go_ret
  exact⟨aV (by simp[lt,h1]),rfl⟩
 ·rw[show lt c=false by simp[lt];omega]
  go_enter Tryz.func250,Tryz.ntmps250
  go_wp2
  go_ret
  exact⟨rfl,rfl⟩
theorem bK (c:Int)(w:World) :
  Calls Tryz.prog 251 #[.int .u8 c] w fun e w'=>e=.returned (.bool (wi c))/\w'=w:=by
 cases h1:lt c with
 | true =>
  rw[show wi c=true by simp[wi,h1]]
  go_enter Tryz.func251,Tryz.ntmps251
  go_wp2_with (go_at_call 250;refine(jC _ _).mono ?_;rintro e w' ⟨rfl,rfl⟩)
  go_ret
  exact⟨rfl,rfl⟩
 | false =>
  cases h2:dg c with
  | true =>
   rw[show wi c=true by simp[wi,h1,h2]]
   go_enter Tryz.func251,Tryz.ntmps251
   go_wp2_with (first|(go_at_call 250;refine(jC _ _).mono ?_;rintro e w' ⟨rfl,rfl⟩)|(go_at_call 248;refine(iE _ _).mono ?_;rintro e w' ⟨rfl,rfl⟩))
   go_ret
   exact⟨rfl,rfl⟩
  | false =>
   go_enter Tryz.func251,Tryz.ntmps251
   go_wp2_with (first|(go_at_call 250;refine(jC _ _).mono ?_;rintro e w' ⟨rfl,rfl⟩)|(go_at_call 248;refine(iE _ _).mono ?_;rintro e w' ⟨rfl,rfl⟩))
   go_ret
   exact⟨aV (by simp[wi,h1,h2]),rfl⟩
abbrev fv (n:Nat):Value:=.func (.func n) #[] #[]
theorem aKt (s:ByteArray)(w:World)(hs:s.size<=maxLen) :
  Calls Tryz.prog 249 #[.string s,fv 248] w fun e w'=>e=.returned (.i (rn D (bs s)))/\w'=w:=by
 unfold maxLen at hs
 go_enter Tryz.func249,Tryz.ntmps249
 go_wp2
 go_loop [5] (fun i=>∃ k:Nat,k<=s.size/\i=.i k/\Hid (((bs s).take k).all D=true)) (fun i=>s.size-(intOf i).toNat)
 case atStart=>exact⟨0,nZl _,rfl,aA (by simp)⟩
 case round =>
  obtain⟨k,hk,rfl,ha⟩:=hrel
  by_cases hlt:k < s.size
  ·have hc:=aA (aAi hlt)
   cases hd:dg (s[k].toNat) with
   | true =>
    go_wp2_with (go_at_call 248;refine(iE _ _).mono ?_;rintro e w' ⟨rfl,rfl⟩)
    go_round
    case rel=>exact⟨k+1,by omega,by go_num,aA (rY ha.o hc.o hd)⟩
    case measure=>simp[intOf];omega
   | false =>
    go_wp2_with (go_at_call 248;refine(iE _ _).mono ?_;rintro e w' ⟨rfl,rfl⟩)
    go_ret
    exact⟨aN (by rw[aFb ha.o (by rw[dD];omega) (by intro c h;rw[hc.o] at h;cases h;exact hd)]),rfl⟩
  ·go_wp2
   go_ret
   exact⟨aN (by rw[aFb ha.o (by rw[dD];omega) (by intro c h;rw[List.getElem?_eq_none (by rw[dD];omega)] at h;cases h)]),rfl⟩
theorem yT (s:ByteArray)(w:World)(hs:s.size<=maxLen) :
  Calls Tryz.prog 249 #[.string s,fv 251] w fun e w'=>e=.returned (.i (rn W (bs s)))/\w'=w:=by
 unfold maxLen at hs
 go_enter Tryz.func249,Tryz.ntmps249
 go_wp2
 go_loop [5] (fun i=>∃ k:Nat,k<=s.size/\i=.i k/\Hid (((bs s).take k).all W=true)) (fun i=>s.size-(intOf i).toNat)
 case atStart=>exact⟨0,nZl _,rfl,aA (by simp)⟩
 case round =>
  obtain⟨k,hk,rfl,ha⟩:=hrel
  by_cases hlt:k < s.size
  ·have hc:=aA (aAi hlt)
   cases hd:wi (s[k].toNat) with
   | true =>
    go_wp2_with (go_at_call 251;refine(bK _ _).mono ?_;rintro e w' ⟨rfl,rfl⟩)
    go_round
    case rel=>exact⟨k+1,by omega,by go_num,aA (rY ha.o hc.o hd)⟩
    case measure=>simp[intOf];omega
   | false =>
    go_wp2_with (go_at_call 251;refine(bK _ _).mono ?_;rintro e w' ⟨rfl,rfl⟩)
    go_ret
    exact⟨aN (by rw[aFb ha.o (by rw[dD];omega) (by intro c h;rw[hc.o] at h;cases h;exact hd)]),rfl⟩
  ·go_wp2
   go_ret
   exact⟨aN (by rw[aFb ha.o (by rw[dD];omega) (by intro c h;rw[List.getElem?_eq_none (by rw[dD];omega)] at h;cases h)]),rfl⟩
end Go.Proofs.YticnbcfmbhjbgaaGreatDoor
namespace Go.Proofs.YticnbcfmbhjbgaaGreatDoor
open Go.ChangeShapes Go.WideShapes Go.ChangeAt Go.RowKit
theorem bAx:ownKnob Tryz.prog.godebug=none:=by kernel_rfl
theorem aEi:laidOutB Tryz.prog=true:=by kernel_rfl
theorem aSl:Tryz.prog.cellsOf 23=2:=by kernel_rfl
theorem xL {H:Type}{enc:TypeId × Value->H}{W:World}{b:Nat}{sp:Nat->Bool}{hd:Bool}{n:Nat}{v:Value}{y:Option (DataW H × List MemPlace)}
  (h:DataW.trod enc Tryz.prog W b sp hd n 3 [v]=y) (hy:y.isSome=true):∃ a,v=.i a/\y=some (.lit (.i a),[])/\(Lit.int .i64 a).wf=true:=by
 cases y with
 | none=>cases hy
 | some x =>
  obtain⟨a,h1,h2,h3⟩:=DataW.trod_int Tryz.underlying3 h
  simp at h1
  exact⟨a,h1,by rw[h2],h3⟩
theorem aKf {H:Type}{enc:TypeId × Value->H}{W:World}{r:Reach}{b0 b:Nat}{sp:Nat->Bool}{hd:Bool}{v:Value}{d:DataW H}{ps:List MemPlace}
  (hval:Value.okWide Tryz.prog W r b0 23 v) (h:DataW.Trod enc Tryz.prog W b sp hd 23 v d ps):∃ x y,v=.agg #[.i x,.i y]:=by
 unfold Value.okWide at hval
 rw[Tryz.underlying23] at hval
 obtain⟨cs,rfl,hsz,_⟩:=hval
 rw[aSl] at hsz
 obtain⟨fuel,hf⟩:=h
 obtain⟨xs,n,_,hx,hl,hxs,hall⟩:=DataW.trod_struct Tryz.underlying23 hf
 obtain⟨c0,c1,rfl⟩:∃ c0 c1,cs=#[c0,c1]:=by
  obtain⟨l⟩:=cs
  match l,hsz with
  | [a,b],_=>exact⟨a,b,rfl⟩
 have hlen:xs.length=2:=hxs
 have f0:=hall 0 _ rfl
 have f1:=hall 1 _ rfl
 simp only[Value.cells] at f0 f1
 obtain⟨x,rfl,_,_⟩:=xL f0 (by simp[hlen])
 obtain⟨y,rfl,_,_⟩:=xL f1 (by simp[hlen])
 exact⟨x,y,rfl⟩
end Go.Proofs.YticnbcfmbhjbgaaGreatDoor
namespace Go.Proofs.YticnbcfmbhjbgaaGreatDoor
open Go.RowKit Go.IntWalk Lx
abbrev shS:ByteArray:=⟨#[43,45,42,47,37,40,41,44,59,61,63,58,60,62,38,124,94]⟩
theorem aRs (s:ByteArray)(c:Int)(w:World) :
  Calls Tryz.prog 336 #[.string s,.int .u8 c] w fun e w'=>e=.returned (.i (Lib.indexByte (bs s) c.toNat.toUInt8))/\w'=w:=by
 go_enter Tryz.func336,Tryz.ntmps336
 go_wp2
 rw[run_callFunc_extern Tryz.func362 (by kernel_rfl) (by kernel_rfl) (by kernel_rfl) (e:=Extern.BytealgIndexByte.indexByte) (by kernel_rfl),Lib.run_indexByteString]
 simp only[Result.andThen]
 rw[Oper.upon_value]
 go_wp2
 go_ret
 exact⟨rfl,rfl⟩
theorem aTh (s:ByteArray)(c:Int)(w:World) :
  Calls Tryz.prog 307 #[.string s,.int .u8 c] w fun e w'=>e=.returned (.i (Lib.indexByte (bs s) c.toNat.toUInt8))/\w'=w:=by
 go_enter Tryz.func307,Tryz.ntmps307
 go_wp2_with (go_at_call 336;refine(aRs _ _ _).mono ?_;rintro e w' ⟨rfl,rfl⟩)
 go_ret
 exact⟨rfl,rfl⟩
end Go.Proofs.YticnbcfmbhjbgaaGreatDoor
namespace Go.Proofs.YticnbcfmbhjbgaaGreatDoor
open Go.RowKit Go.IntWalk Lx
theorem yS {a b:Int}{c d:Bool}(h:a=b)(h':c=d):Ending.returned (.tuple #[.i a,.bool c])=.returned (.tuple #[.i b,.bool d]):=by rw[h,h']
def ixv (c:UInt8):Int:=Lib.indexByte sh c
theorem uC:∀(l:List UInt8) (c:UInt8),(0<=Lib.indexByte l c↔l.contains c=true)
 | [],c=>by simp[Lib.indexByte]
 | b::l,c=>by
  have ih:=uC l c
  have hg:=Lib.indexByte_ge l c
  rw[List.contains_cons]
  unfold Lib.indexByte
  by_cases h:b=c
  ·subst h;simp
  ·have h1:(b==c)=false:=by simp[h]
   have h2:(c==b)=false:=by simp;exact fun e=>h e.symm
   rw[h1,h2]
   simp only[Bool.false_eq_true,if_false,Bool.false_or]
   by_cases h3:Lib.indexByte l c=-1
   ·rw[h3] at ih
    simp[h3] at ih ⊢
    exact ih
   ·simp only[beq_iff_eq,h3,if_false]
    rw[<-ih]
    omega
theorem aRx {c:UInt8}(h:sh.contains c=true):0<=ixv c:=(uC sh c).2 h
theorem aVq {c:UInt8}(h:sh.contains c=false):ixv c < 0:=by
 have:=uC sh c
 rw[h] at this
 have:¬0<=Lib.indexByte sh c:=by simpa using this
 unfold ixv
 omega
theorem aPd (c:UInt8)(w:World) :
  Calls Tryz.prog 307 #[.string shS,.int .u8 (c.toNat:Nat)] w fun e w'=>e=.returned (.i (ixv c))/\w'=w:=by
 have h:=aTh shS (c.toNat:Nat) w
 rw[Lib.byte_back] at h
 exact h
theorem kU {s:ByteArray}(h:0 < s.size):∃ t,bs s=s[0]::t:=by
 have h1:=aAi h
 cases hb:bs s with
 | nil=>rw[hb] at h1;simp at h1
 | cons a t=>rw[hb] at h1;simp at h1;exact⟨t,by rw[h1]⟩
theorem sD {s:ByteArray}(h:0 < s.size):(bs s).headD 0=s[0]:=by
 obtain⟨t,ht⟩:=kU h
 rw[ht];rfl
theorem aU6 (s:ByteArray):(s.extract 0 2).toList=(bs s).take 2:=by
 rw[ByteArray.toList_eq]
 simp[ByteArray.data_extract]
theorem aL1 {s:ByteArray}(h:s.size=0):s=⟨#[]⟩:=ByteArray.ext (Array.eq_empty_of_size_eq_zero h)
theorem aNn (s:ByteArray)(w:World)(h0:0 < s.size)(hs:s.size<=maxLen) :
  Calls Tryz.prog 252 #[.string s] w fun e w'=>e=.returned (.i (mk (bs s)))/\w'=w:=by
 unfold maxLen at hs
 obtain⟨t,ht⟩:=kU h0
 have hh:=aA (sD h0)
 have H2:1 < s.size\/two.contains ((bs s).take 2)=false:=by
  by_cases h:1 < s.size
  ·exact .inl h
  ·right
   have hl:(bs s).length=1:=by rw[dD];omega
   cases t with
   | nil=>rw[ht];simp[two]
   | cons a t=>rw[ht] at hl;simp at hl
 clear ht t
 have hT:=aU6 s
 cases hm:two.contains ((bs s).take 2) with
 | true =>
  have h1:1 < s.size:=by
   rcases H2 with h|h
   ·exact h
   ·rw[h] at hm;cases hm
  have hr:mk (bs s)=2:=by unfold mk;rw[if_pos hm]
  rw[hr]
  clear H2 hr
  rcases mY hm with h|h|h|h|h|h <;>
  ·rw[h] at hT
   clear h hm
   go_enter Tryz.func252,Tryz.ntmps252
   go_wp2
   go_ret
   exact⟨rfl,rfl⟩
 | false =>
  have hr:mk (bs s)=if sh.contains s[0] then 1 else 0:=by unfold mk;rw[if_neg (by rw[hm];simp),hh.o]
  have hr':=aA hr
  clear hr
  obtain⟨T,hTT⟩:∃ T,(bs s).take 2=T:=⟨_,rfl⟩
  rw[hTT] at hT hm
  clear hTT
  have hn:(T==[60,61])=false/\(T==[62,61])=false/\(T==[61,61])=false/\(T==[33,61])=false/\(T==[60,60])=false/\(T==[62,62])=false:=by
   simp[two] at hm
   simpa using hm
  obtain⟨n1,n2,n3,n4,n5,n6⟩:=hn
  clear hm H2
  cases hc:sh.contains s[0] with
  | true =>
   have hx:=aRx hc
   by_cases h1:1 < s.size <;>
   ·go_enter Tryz.func252,Tryz.ntmps252
    go_wp2_with (go_at_call 307;refine(aPd _ _).mono ?_;rintro e w' ⟨rfl,rfl⟩)
    go_ret
    exact⟨aN (by rw[hr'.o,hc];rfl),rfl⟩
  | false =>
   have hx:=aVq hc
   by_cases h1:1 < s.size <;>
   ·go_enter Tryz.func252,Tryz.ntmps252
    go_wp2_with (go_at_call 307;refine(aPd _ _).mono ?_;rintro e w' ⟨rfl,rfl⟩)
    go_ret
    exact⟨aN (by rw[hr'.o,hc];rfl),rfl⟩
theorem eF (s:ByteArray)(w:World)(hs:s.size<=maxLen) :
  Calls Tryz.prog 211 #[.string s] w fun e w'=>e=.returned (.bool (qO (bs s)))/\w'=w:=by
 by_cases h0:s.size=0
 ·obtain rfl:=aL1 h0
  go_enter Tryz.func211,Tryz.ntmps211
  go_wp2
  go_ret
  exact⟨rfl,rfl⟩
 ·have h0':0 < s.size:=by omega
  have hE:(s.toList==[])=false:=by
   rw[ByteArray.toList_eq]
   obtain⟨t,ht⟩:=kU h0'
   rw[show s.data.toList=_ from ht];rfl
  have hW:=aA (show qO (bs s)=(decide (s.size<=16)&&lt s[0].toNat&&(bs s).all W) by
   unfold qO
   rw[dD,sD h0']
   obtain⟨t,ht⟩:=kU h0'
   rw[ht];rfl)
  have hl:=aA (aXe W (bs s))
  rw[dD] at hl
  have hs':=aA hs
  unfold maxLen at hs
  by_cases h1:s.size<=16
  ·cases hc:lt s[0].toNat with
   | true =>
    go_enter Tryz.func211,Tryz.ntmps211
    go_wp2_with (first|(go_at_call 250;refine(jC _ _).mono ?_;rintro e w' ⟨rfl,rfl⟩)|(go_at_call 249;refine(yT _ _ hs'.o).mono ?_;rintro e w' ⟨rfl,rfl⟩))
    go_ret
    exact⟨aV (by rw[hW.o,hc,hl.o];simp[h1]),rfl⟩
   | false =>
    go_enter Tryz.func211,Tryz.ntmps211
    go_wp2_with (go_at_call 250;refine(jC _ _).mono ?_;rintro e w' ⟨rfl,rfl⟩)
    go_ret
    exact⟨aV (by rw[hW.o,hc];simp),rfl⟩
  ·go_enter Tryz.func211,Tryz.ntmps211
   go_wp2
   go_ret
   exact⟨aV (by rw[hW.o];simp[h1]),rfl⟩
end Go.Proofs.YticnbcfmbhjbgaaGreatDoor
namespace Go.Proofs.YticnbcfmbhjbgaaGreatDoor
open Go.RowKit Go.IntWalk Lx
theorem aK0 {s:ByteArray}(h:0 < s.size):(s.toList==[])=false:=by
 rw[ByteArray.toList_eq]
 obtain⟨t,ht⟩:=kU h
 rw[show s.data.toList=_ from ht];rfl
theorem aLh {s:ByteArray}(h:0 < s.size):((bs s).headD 0==48&&decide (1 < (bs s).length))=(((s[0].toNat:Int)==48)&&!(s.toList==[48])):=by
 rw[ByteArray.toList_eq,sD h]
 obtain⟨t,ht⟩:=kU h
 rw[show s.data.toList=_ from ht,ht]
 by_cases h48:s[0]=48
 ·rw[h48]
  cases t with
  | nil=>rfl
  | cons a t=>simp
 ·have h2:¬(s[0].toNat:Int)=48:=fun e=>h48 (UInt8.toNat_inj.1 (by simp;omega))
  rw[beq_eq_false_iff_ne.2 h48,beq_eq_false_iff_ne.2 h2]
  rfl
theorem kL (s:ByteArray)(w:World)(hs:s.size<=maxLen) :
  Calls Tryz.prog 254 #[.string s] w fun e w'=>e=.returned (.tuple #[.i (nv (bs s)),.bool (num (bs s))])/\w'=w:=by
 unfold maxLen at hs
 by_cases h0:s.size=0
 ·obtain rfl:=aL1 h0
  go_enter Tryz.func254,Tryz.ntmps254
  go_wp2
  go_ret2
  exact⟨rfl,rfl⟩
 ·have h0':0 < s.size:=by omega
  have hE:=aK0 h0'
  have hz:=aA (aLh h0')
  by_cases hb:((s[0].toNat:Int)==48)=true/\(s.toList==[48])=false
  ·obtain⟨h1,h2⟩:=hb
   have hn:num (bs s)=false:=by unfold num;rw[hz.o,h1,h2];simp
   rw[aN5 hn,hn]
   clear hn
   go_enter Tryz.func254,Tryz.ntmps254
   go_wp2
   go_ret2
   exact⟨rfl,rfl⟩
  ·have hz2:=aA (show ((bs s).headD 0==48&&decide (1 < (bs s).length))=false by
    rw[hz.o]
    cases h1:((s[0].toNat:Int)==48)
    ·rfl
    ·cases h2:(s.toList==[48])
     ·exact absurd ⟨h1,h2⟩ hb
     ·rfl)
   have hne:=aA (show bs s≠[] by
    obtain⟨t,ht⟩:=kU h0'
    rw[ht];simp)
   have ways:((s[0].toNat:Int)==48)=false\/(((s[0].toNat:Int)==48)=true/\(s.toList==[48])=true):=by
    cases h1:((s[0].toNat:Int)==48)
    ·exact .inl rfl
    ·cases h2:(s.toList==[48])
     ·exact absurd ⟨h1,h2⟩ hb
     ·exact .inr ⟨rfl,rfl⟩
   clear hb hz
   rcases ways with h1|⟨h1,h2⟩
   all_goals
    go_enter Tryz.func254,Tryz.ntmps254
    go_wp2
    go_loop [4,19] (fun n i=>∃ k:Nat,∃ V:Int,k<=s.size/\i=.i k/\n=.i V/\0<=V/\V<=2147483647/\Hid (V=vl ((bs s).take k))/\Hid (((bs s).take k).all D=true)) (fun _ i=>s.size-(intOf i).toNat)
    case atStart=>exact⟨0,0,nZl _,rfl,rfl,by omega,by omega,aA rfl,aA (by simp)⟩
    case round =>
     obtain⟨k,V,hk,rfl,rfl,hV0,hV1,hV,ha⟩:=hrel
     by_cases hlt:k < s.size
     ·have hc:=aA (aAi hlt)
      cases hd:dg (s[k].toNat) with
      | false =>
       go_wp2_with (go_at_call 248;refine(iE _ _).mono ?_;rintro e w' ⟨rfl,rfl⟩)
       go_ret2
       have hn:=aWm hc.o hd
       exact⟨yS (aN5 hn).symm hn.symm,rfl⟩
      | true =>
       obtain⟨b1,b2⟩:=aDq.1 hd
       have hv:=aA (aT0 hc.o)
       rw[<-hV.o] at hv
       by_cases hbig:10*V+((s[k].toNat:Int)-48)<=2147483647
       ·go_wp2_with (go_at_call 248;refine(iE _ _).mono ?_;rintro e w' ⟨rfl,rfl⟩)
        go_round
        case rel=>exact⟨k+1,_,by omega,by go_num,rfl,by omega,by omega,aA hv.o.symm,aA (rY ha.o hc.o hd)⟩
        case measure=>simp[intOf];omega
       ·have hbig':2147483647 < 10*V+((s[k].toNat:Int)-48):=by omega
        clear hbig
        go_wp2_with (go_at_call 248;refine(iE _ _).mono ?_;rintro e w' ⟨rfl,rfl⟩)
        go_ret2
        have hn:=aSi (l:=bs s) (k:=k+1) (by rw[hv.o];exact hbig')
        exact⟨yS (aN5 hn).symm hn.symm,rfl⟩
     ·go_wp2
      go_ret2
      have he:(bs s).take k=bs s:=lTl (by rw[dD];omega)
      rw[he] at hV ha
      have hn:=aIl hne.o ha.o hz2.o (by rw[<-hV.o];omega)
      exact⟨yS (by rw[aWn hn];exact hV.o) hn.symm,rfl⟩
end Go.Proofs.YticnbcfmbhjbgaaGreatDoor
namespace Go.Proofs.YticnbcfmbhjbgaaGreatDoor
open Go.RowKit Go.IntWalk Lx
theorem iL (s:ByteArray):s.toList=bs s:=ByteArray.toList_eq s
end Go.Proofs.YticnbcfmbhjbgaaGreatDoor
namespace Go.Proofs.YticnbcfmbhjbgaaGreatDoor
open Go.RowKit Go.IntWalk Lx
def bAw:Go.Shelf.Ren:=⟨fun n=>if n=25 then 253 else n,fun n=>if n=37 then 41 else if n=47 then 230 else n,fun n=>n⟩
theorem lays:LaysPu.n25 Tryz.prog bAw where
 mixed:=by kernel_rfl
 f25:=by kernel_rfl
 t0:=Tryz.underlying0
 a0:=Tryz.isAgg0
 z0:=Tryz.sizeOf0
 v0:=Tryz.zeroValue0
 i0:=by kernel_rfl
 t3:=Tryz.underlying3
 a3:=Tryz.isAgg3
 z3:=Tryz.sizeOf3
 v3:=Tryz.zeroValue3
 i3:=by kernel_rfl
 t4:=Tryz.underlying4
 a4:=Tryz.isAgg4
 z4:=Tryz.sizeOf4
 v4:=Tryz.zeroValue4
 i4:=by kernel_rfl
 t5:=Tryz.underlying5
 a5:=Tryz.isAgg5
 z5:=Tryz.sizeOf5
 v5:=Tryz.zeroValue5
 i5:=by kernel_rfl
 t9:=Tryz.underlying9
 a9:=Tryz.isAgg9
 z9:=Tryz.sizeOf9
 v9:=Tryz.zeroValue9
 i9:=by kernel_rfl
 t37:=Tryz.underlying41
 a37:=Tryz.isAgg41
 z37:=Tryz.sizeOf41
 v37:=Tryz.zeroValue41
 i37:=by kernel_rfl
 t47:=Tryz.underlying230
 a47:=Tryz.isAgg230
 z47:=Tryz.sizeOf230
 v47:=Tryz.zeroValue230
 i47:=by kernel_rfl
theorem aGl (s:ByteArray)(w:World)(hlim:s.size<=281474976710656) :
 Calls Tryz.prog 253 #[.string s] w fun e w'=>e=.returned (.string s)/\Below w.heap.size w w':=AnyPu.stringslite_Clone lays s w hlim
theorem aJq (s:ByteArray)(w:World)(hlim:s.size<=281474976710656) :
  Calls Tryz.prog 178 #[.string s] w fun e w'=>e=.returned (.string s)/\Below w.heap.size w w':=by
 have hl:=aA hlim
 clear hlim
 go_enter Tryz.func178,Tryz.ntmps178
 go_wp2_with fail
 refine(aGl _ _ hl.o).mono ?_
 rintro e w' ⟨rfl,hb⟩
 have HB:=aA hb
 clear hb
 go_wp2_with fail
 go_ret
 exact⟨rfl,HB.o⟩
theorem aEj (s:ByteArray)(w:World)(h0:0 < s.size)(hs:s.size<=maxLen) :
  Calls Tryz.prog 177 #[.string s] w fun e w'=>e=.returned (.tuple #[.i (kd (bs s)),.i (sz (bs s))])/\w'=w:=by
 have hs':=aA hs
 have h0':=aA h0
 unfold maxLen at hs
 have hD:D ((bs s).headD 0)=dg s[0].toNat:=by rw[sD h0];rfl
 have hA:A ((bs s).headD 0)=lt s[0].toNat:=by rw[sD h0];rfl
 have HD:=fun w=>aA (iE s[0].toNat w)
 have HA:=fun w=>aA (jC s[0].toNat w)
 cases h1:dg s[0].toNat with
 | true =>
  rw[show kd (bs s)=1 by unfold kd;rw[hD,h1];rfl,show sz (bs s)=rn D (bs s) by unfold sz;rw[hD,h1];rfl]
  rw[h1] at HD
  clear hD hA HA h1
  go_enter Tryz.func177,Tryz.ntmps177
  go_wp2_with fail
  refine(HD _).o.mono ?_
  rintro e w' ⟨rfl,rfl⟩
  go_wp2_with fail
  refine(aKt _ _ hs'.o).mono ?_
  rintro e w' ⟨rfl,rfl⟩
  go_wp2_with fail
  go_ret2
  exact⟨rfl,rfl⟩
 | false =>
  rw[h1] at HD
  cases h2:lt s[0].toNat with
  | true =>
   rw[show kd (bs s)=2 by unfold kd;rw[hD,h1,hA,h2];rfl,show sz (bs s)=rn W (bs s) by unfold sz;rw[hD,h1,hA,h2];rfl]
   rw[h2] at HA
   clear hD hA h1 h2
   go_enter Tryz.func177,Tryz.ntmps177
   go_wp2_with fail
   refine(HD _).o.mono ?_
   rintro e w' ⟨rfl,rfl⟩
   go_wp2_with fail
   refine(HA _).o.mono ?_
   rintro e w' ⟨rfl,rfl⟩
   go_wp2_with fail
   refine(yT _ _ hs'.o).mono ?_
   rintro e w' ⟨rfl,rfl⟩
   go_wp2_with fail
   go_ret2
   exact⟨rfl,rfl⟩
  | false =>
   rw[show kd (bs s)=3 by unfold kd;rw[hD,h1,hA,h2];rfl,show sz (bs s)=mk (bs s) by unfold sz;rw[hD,h1,hA,h2];rfl]
   rw[h2] at HA
   clear hD hA h1 h2
   go_enter Tryz.func177,Tryz.ntmps177
   go_wp2_with fail
   refine(HD _).o.mono ?_
   rintro e w' ⟨rfl,rfl⟩
   go_wp2_with fail
   refine(HA _).o.mono ?_
   rintro e w' ⟨rfl,rfl⟩
   go_wp2_with fail
   refine(aNn _ _ h0'.o hs'.o).mono ?_
   rintro e w' ⟨rfl,rfl⟩
   go_wp2_with fail
   go_ret2
   exact⟨rfl,rfl⟩
end Go.Proofs.YticnbcfmbhjbgaaGreatDoor
