import Derived.Test.YtngnnijpdjhelaaGreatChecked
import Derived.WalkKit
import Derived.WalkSpells
import Derived.Lib.Bytealg
import Derived.Lib.IndexBytes
import Derived.ProofKit
import Derived.OpenShut
import Derived.ChangeOld
import Derived.SizedLaws
import Derived.Below
import Derived.Deep.Slices
namespace Lx
set_option linter.unusedVariables false
set_option maxRecDepth 100000
set_option maxHeartbeats 16000000
def dg (c:Int):Bool:=decide (48<=c)&&decide (c<=57)
def lt (c:Int):Bool:=decide (97<=c)&&decide (c<=122)
def wi (c:Int):Bool:=lt c || dg c || c==95
def D (c:UInt8):Bool:=dg c.toNat
def A (c:UInt8):Bool:=lt c.toNat
def W (c:UInt8):Bool:=wi c.toNat
def bl (c:UInt8):Bool:=c==32 || c==9 || c==10
def sh:List UInt8:=[43,45,42,47,37,40,41,44,59,61,63,58,60,62,38,124,94]
def two:List (List UInt8):=[[60,61],[62,61],[61,61],[33,61],[60,60],[62,62]]
def rn (p:UInt8->Bool)(l:List UInt8):Nat:=(l.takeWhile p).length
def mk (l:List UInt8):Nat:=if two.contains (l.take 2) then 2 else if sh.contains (l.headD 0) then 1 else 0
def vl (l:List UInt8):Int:=l.foldl (fun n c=>10*n+((c.toNat:Int)-48)) 0
def num (l:List UInt8):Bool:=!l.isEmpty&&l.all D&&!(l.headD 0==48&&decide (1 < l.length))&&decide (vl l<=2147483647)
def wrd (l:List UInt8):Bool:=!l.isEmpty&&decide (l.length<=16)&&A (l.headD 0)&&l.all W
def kd (l:List UInt8):Int:=if D (l.headD 0) then 1 else if A (l.headD 0) then 2 else 3
def sz (l:List UInt8):Nat:=if D (l.headD 0) then rn D l else if A (l.headD 0) then rn W l else mk l
def may (k:Int)(l:List UInt8):Bool:=if k=1 then num l else if k=2 then wrd l else !l.isEmpty
def gd (l:List UInt8):Bool:=may (kd l) (l.take (sz l))
def nl (c:UInt8):Bool:=c != 10
structure Tok where
 kind:Int
 text:List UInt8
 pos:Nat
theorem may_pos {k:Int}{l:List UInt8}(h:may k l=true):0 < l.length:=by
 cases l with
 | nil=>revert h;unfold may;split <;> (try split) <;> simp[num,wrd]
 | cons a l=>simp
theorem gd_pos {l:List UInt8}(h:gd l=true):0 < sz l:=by
 have:=may_pos h
 rw[List.length_take] at this
 omega
theorem dropWhile_le (p:UInt8->Bool):∀ l:List UInt8,(l.dropWhile p).length<=l.length
 | []=>by simp
 | a::l=>by
  rw[List.dropWhile_cons]
  have:=dropWhile_le p l
  split <;> simp <;> omega
def sc:List UInt8->Nat->Option (List Tok)
 | [],_=>some []
 | c::r,p =>
  if bl c then sc r (p+1)
  else if c=35 then sc (r.dropWhile nl) (p+1+rn nl r)
  else if h:gd (c::r)=true then(sc ((c::r).drop (sz (c::r))) (p+sz (c::r))).map (fun T=>⟨kd (c::r),(c::r).take (sz (c::r)),p⟩::T)
  else none
 termination_by l=>l.length
 decreasing_by
 ·simp
 ·have:=dropWhile_le nl r;simp;omega
 ·have:=gd_pos h;simp;omega
theorem sc_nil (p:Nat):sc [] p=some []:=by rw[sc]
theorem sc_blank {c:UInt8}(h:bl c=true)(r:List UInt8)(p:Nat):sc (c::r) p=sc r (p+1):=by rw[sc,if_pos h]
theorem sc_rem (r:List UInt8)(p:Nat):sc (35::r) p=sc (r.dropWhile nl) (p+1+rn nl r):=by
 rw[sc,if_neg (by decide),if_pos rfl]
theorem sc_tok {c:UInt8}{r:List UInt8}(h1:bl c=false)(h2:c≠35)(h:gd (c::r)=true)(p:Nat) :
  sc (c::r) p=(sc ((c::r).drop (sz (c::r))) (p+sz (c::r))).map (fun T=>⟨kd (c::r),(c::r).take (sz (c::r)),p⟩::T):=by
 rw[sc,if_neg (by simp[h1]),if_neg h2,dif_pos h]
theorem sc_bad {c:UInt8}{r:List UInt8}(h1:bl c=false)(h2:c≠35)(h:gd (c::r)=false)(p:Nat):sc (c::r) p=none:=by
 rw[sc,if_neg (by simp[h1]),if_neg h2,dif_neg (by simp[h])]
def tks (l:List UInt8):Option (List Tok):=if 1024 < l.length then none else sc l 0
def Fm (k:Int)(x:List UInt8):Prop :=
 x≠[]/\((k=1/\x.all D=true)\/(k=2/\A (x.headD 0)=true/\x.all W=true)\/(k=3/\(two.contains x=true\/∃ c,sh.contains c=true/\x=[c])))
theorem takeWhile_eq_take (p:UInt8->Bool):∀ l:List UInt8,l.take (rn p l)=l.takeWhile p
 | []=>rfl
 | a::l=>by
  unfold rn
  cases h:p a with
  | true =>
   rw[List.takeWhile_cons,if_pos h]
   have:=takeWhile_eq_take p l
   unfold rn at this
   rw[List.length_cons,List.take_succ_cons,this]
  | false=>rw[List.takeWhile_cons,if_neg (by simp[h])];rfl
theorem takeWhile_all (p:UInt8->Bool):∀ l:List UInt8,(l.takeWhile p).all p=true
 | []=>rfl
 | a::l=>by
  rw[List.takeWhile_cons]
  split
  ·rename_i h;rw[List.all_cons,h,takeWhile_all p l];rfl
  ·simp
theorem takeWhile_app (p:UInt8->Bool):∀(x r:List UInt8),x.all p=true->(∀ a,r.head?=some a->p a=false)->(x++r).takeWhile p=x
 | [],[],_,_=>rfl
 | [],a::r,_,h=>by simp[h a rfl]
 | b::x,r,hx,h=>by
  simp only[List.all_cons,Bool.and_eq_true] at hx
  rw[List.cons_append,List.takeWhile_cons,if_pos hx.1,takeWhile_app p x r hx.2 h]
theorem takeWhile_split (p:UInt8->Bool)(l:List UInt8):l.takeWhile p++l.dropWhile p=l:=List.takeWhile_append_dropWhile
theorem rn_drop (p:UInt8->Bool)(l:List UInt8):l.drop (rn p l)=l.dropWhile p:=by
 have h:=takeWhile_split p l
 have h2:=List.drop_left (l₁:=l.takeWhile p) (l₂:=l.dropWhile p)
 rw[h] at h2
 exact h2
theorem contains_two {x:List UInt8}(h:two.contains x=true):x=[60,61]\/x=[62,61]\/x=[61,61]\/x=[33,61]\/x=[60,60]\/x=[62,62]:=by
 simpa [two] using h
theorem form_of_good {l:List UInt8}(hl:l≠[])(h:gd l=true):Fm (kd l) (l.take (sz l))/\may (kd l) (l.take (sz l))=true:=by
 refine⟨⟨?_,?_⟩,h⟩
 ·have:=may_pos h
  intro e
  rw[e] at this
  simp at this
 ·obtain⟨c,r,rfl⟩:∃ c r,l=c::r:=by cases l with|nil=>exact absurd rfl hl|cons c r=>exact⟨c,r,rfl⟩
  by_cases h1:D c=true
  ·left
   simp only[kd,sz,List.headD_cons,h1,if_true]
   exact⟨trivial,by rw[takeWhile_eq_take];exact takeWhile_all _ _⟩
  ·simp only[Bool.not_eq_true] at h1
   by_cases h2:A c=true
   ·right;left
    simp only[kd,sz,List.headD_cons,h1,h2,if_true,Bool.false_eq_true,if_false]
    refine⟨trivial,?_,by rw[takeWhile_eq_take];exact takeWhile_all _ _⟩
    rw[takeWhile_eq_take,List.takeWhile_cons,if_pos (by simp[W,wi,show lt c.toNat=true from h2])]
    exact h2
   ·simp only[Bool.not_eq_true] at h2
    right;right
    have hp:=gd_pos h
    simp only[kd,sz,List.headD_cons,h1,h2,Bool.false_eq_true,if_false] at hp ⊢
    refine⟨trivial,?_⟩
    unfold mk at hp ⊢
    split
    ·rename_i h3;exact .inl h3
    ·split
     ·rename_i h3;exact .inr ⟨c,h3,rfl⟩
     ·rename_i h3 h4;rw[if_neg h3,if_neg h4] at hp;omega
theorem sh_cases {c:UInt8}(h:sh.contains c=true):D c=false/\A c=false/\bl c=false/\c≠35:=by
 have:c ∈ sh:=by simpa using h
 revert c
 intro c _ hc
 simp only[sh,List.mem_cons,List.not_mem_nil,or_false] at hc
 rcases hc with rfl|rfl|rfl|rfl|rfl|rfl|rfl|rfl|rfl|rfl|rfl|rfl|rfl|rfl|rfl|rfl|rfl <;> decide
theorem A_not {c:UInt8}(h:A c=true):bl c=false/\c≠35/\D c=false/\W c=true:=by
 have h':97<=(c.toNat:Int)/\(c.toNat:Int)<=122:=by simpa [A,lt] using h
 refine⟨?_,fun e=>by subst e;simp at h',?_,?_⟩
 ·cases hb:bl c with
  | false=>rfl
  | true =>
   simp only[bl,Bool.or_eq_true,beq_iff_eq] at hb
   rcases hb with(rfl|rfl)|rfl <;> simp at h'
 ·simp[D,dg];omega
 ·have:lt c.toNat=true:=h
  simp[W,wi,this]
theorem rn_of {p:UInt8->Bool}{l:List UInt8}{k:Nat}(h1:(l.take k).all p=true)(hk:k<=l.length)(h2:∀ c,l[k]?=some c->p c=false):rn p l=k:=by
 have h:=takeWhile_app p (l.take k) (l.drop k) h1 (by intro a ha;rw[List.head?_drop] at ha;exact h2 a ha)
 rw[List.take_append_drop] at h
 unfold rn
 rw[h,List.length_take]
 omega
theorem all_snoc {p:UInt8->Bool}{l:List UInt8}{k:Nat}{c:UInt8}(h1:(l.take k).all p=true)(hc:l[k]?=some c)(h:p c=true):(l.take (k+1)).all p=true:=by
 rw[List.take_add_one,hc,List.all_append,h1]
 simp[h]
theorem all_not {p:UInt8->Bool}{l:List UInt8}{k:Nat}{c:UInt8}(hc:l[k]?=some c)(h:p c=false):l.all p=false:=by
 rw[List.all_eq_false]
 exact⟨c,List.mem_of_getElem? hc,by simp[h]⟩
def amg (c:Int)(l:List UInt8):Bool:=l.any fun b=>(b.toNat:Int)==c
def aW (l:List UInt8):Bool:=l.all W
def dgs:List UInt8:=[48,49,50,51,52,53,54,55,56,57]
def lts:List UInt8:=[97,98,99,100,101,102,103,104,105,106,107,108,109,110,111,112,113,114,115,116,117,118,119,120,121,122]
def wis:List UInt8:=lts++dgs++[95]
theorem amg_dgs (c:Int):amg c dgs=dg c:=by
 rw[Bool.eq_iff_iff]
 simp[amg,dgs,dg]
 omega
theorem amg_lts (c:Int):amg c lts=lt c:=by
 rw[Bool.eq_iff_iff]
 simp[amg,lts,lt]
 omega
theorem amg_wis (c:Int):amg c wis=wi c:=by
 have h:amg c wis=(amg c lts || amg c dgs || amg c [95]):=by simp[amg,wis,Bool.or_assoc]
 rw[h,amg_dgs,amg_lts]
 unfold wi
 congr 1
 rw[Bool.eq_iff_iff]
 simp[amg]
 omega
def nv (l:List UInt8):Int:=if num l then vl l else 0
theorem vl_snoc (l:List UInt8)(c:UInt8):vl (l++[c])=10*vl l+((c.toNat:Int)-48):=by simp[vl]
theorem vl_take {l:List UInt8}{k:Nat}{c:UInt8}(hc:l[k]?=some c):vl (l.take (k+1))=10*vl (l.take k)+((c.toNat:Int)-48):=by
 rw[List.take_add_one,hc];exact vl_snoc _ _
theorem D_iff {c:UInt8}:D c=true↔48<=(c.toNat:Int)/\(c.toNat:Int)<=57:=by simp[D,dg]
theorem foldl_ge:∀(l:List UInt8) (n:Int),l.all D=true->0<=n->n<=l.foldl (fun n c=>10*n+((c.toNat:Int)-48)) n
 | [],n,_,_=>by simp
 | c::l,n,h,h0=>by
  simp only[List.all_cons,Bool.and_eq_true] at h
  have hc:=D_iff.1 h.1
  have:=foldl_ge l (10*n+((c.toNat:Int)-48)) h.2 (by omega)
  simp only[List.foldl_cons]
  omega
theorem vl_nonneg {l:List UInt8}(h:l.all D=true):0<=vl l:=foldl_ge l 0 h (by omega)
theorem vl_mono {l:List UInt8}(h:l.all D=true)(k:Nat):vl (l.take k)<=vl l:=by
 have e:vl l=(l.drop k).foldl (fun n c=>10*n+((c.toNat:Int)-48)) (vl (l.take k)):=by
  unfold vl
  rw[<-List.foldl_append,List.take_append_drop]
 rw[e]
 have h':l.all D=true:=h
 rw[<-List.take_append_drop k l,List.all_append,Bool.and_eq_true] at h'
 exact foldl_ge _ _ h'.2 (vl_nonneg h'.1)
theorem num_no {l:List UInt8}{k:Nat}{c:UInt8}(hc:l[k]?=some c)(h:D c=false):num l=false:=by
 simp[num,all_not hc h]
theorem num_big {l:List UInt8}{k:Nat}(h:2147483647 < vl (l.take k)):num l=false:=by
 cases ha:l.all D with
 | false=>simp[num,ha]
 | true =>
  have:=vl_mono ha k
  simp only[num,Bool.and_eq_false_iff,decide_eq_false_iff_not]
  right;omega
theorem num_yes {l:List UInt8}(h0:l≠[])(h1:l.all D=true)(h2:(l.headD 0==48&&decide (1 < l.length))=false)(h3:vl l<=2147483647):num l=true:=by
 simp only[num,h1,h2,h3,decide_true,Bool.and_true,Bool.not_false]
 cases l with
 | nil=>exact absurd rfl h0
 | cons a l=>rfl
theorem nv_yes {l:List UInt8}(h:num l=true):nv l=vl l:=by rw[nv,if_pos h]
theorem nv_no {l:List UInt8}(h:num l=false):nv l=0:=by rw[nv,if_neg (by simp[h])]
theorem rn_len (p:UInt8->Bool)(l:List UInt8):(((rn p l:Nat):Int)==(l.length:Int))=l.all p:=by
 cases h:l.all p with
 | true =>
  have:=takeWhile_app p l [] h (by simp)
  rw[List.append_nil] at this
  simp[rn,this]
 | false =>
  have hne:rn p l≠l.length:=by
   intro e
   have h1:=takeWhile_eq_take p l
   rw[e,List.take_length] at h1
   have h2:=takeWhile_all p l
   rw[<-h1,h] at h2
   cases h2
  simp;omega
theorem drop_cons {l:List UInt8}{k:Nat}{c:UInt8}(hc:l[k]?=some c):l.drop k=c::l.drop (k+1):=by
 obtain⟨h,e⟩:=List.getElem?_eq_some_iff.1 hc
 rw[List.drop_eq_getElem_cons h,e]
def Inv (l:List UInt8)(k:Nat)(T:List Tok):Prop:=sc l 0=(sc (l.drop k) k).map (T++·)
theorem Inv.start (l:List UInt8):Inv l 0 []:=by
 unfold Inv
 rw[List.drop_zero]
 cases sc l 0 <;> simp
theorem Inv.blank {l:List UInt8}{k:Nat}{T:List Tok}{c:UInt8}(h:Inv l k T)(hc:l[k]?=some c)(hb:bl c=true):Inv l (k+1) T:=by
 unfold Inv at *
 rw[h,drop_cons hc,sc_blank hb]
theorem Inv.rem {l:List UInt8}{k j:Nat}{T:List Tok}(h:Inv l k T)(hc:l[k]?=some 35)(hj:k < j)(hjl:j<=l.length)(ha:((l.drop k).take (j-k)).all nl=true)(he:∀ c,l[j]?=some c->c=10):Inv l j T:=by
 unfold Inv at *
 have hr:rn nl (l.drop k)=j-k:=rn_of ha (by rw[List.length_drop];omega) (by
  intro c hc'
  rw[List.getElem?_drop,show k+(j-k)=j by omega] at hc'
  rw[he c hc'];rfl)
 have e1:rn nl (l.drop k)=1+rn nl (l.drop (k+1)):=by
  rw[drop_cons hc]
  unfold rn
  rw[List.takeWhile_cons,if_pos (by decide),List.length_cons]
  omega
 have e2:(l.drop (k+1)).dropWhile nl=l.drop j:=by
  rw[<-rn_drop,List.drop_drop]
  congr 1
  omega
 rw[h,drop_cons hc,sc_rem,e2]
 congr 2
 omega
theorem Inv.tok {l:List UInt8}{k:Nat}{T:List Tok}{c:UInt8}(h:Inv l k T)(hc:l[k]?=some c)(h1:bl c=false)(h2:c≠35)(hg:gd (l.drop k)=true) :
  Inv l (k+sz (l.drop k)) (T++[⟨kd (l.drop k),(l.drop k).take (sz (l.drop k)),k⟩]):=by
 unfold Inv at *
 have e:=drop_cons hc
 have hs:=sc_tok (p:=k) h1 h2 (by rw[<-e];exact hg)
 rw[<-e] at hs
 rw[h,hs,List.drop_drop]
 cases sc (l.drop (k+sz (l.drop k))) (k+sz (l.drop k)) <;> simp
theorem Inv.bad {l:List UInt8}{k:Nat}{T:List Tok}{c:UInt8}(h:Inv l k T)(hc:l[k]?=some c)(h1:bl c=false)(h2:c≠35)(hg:gd (l.drop k)=false):sc l 0=none:=by
 unfold Inv at *
 have e:=drop_cons hc
 rw[h,e,sc_bad h1 h2 (by rw[<-e];exact hg)]
 rfl
theorem Inv.ends {l:List UInt8}{k:Nat}{T:List Tok}(h:Inv l k T)(hk:l.length<=k):sc l 0=some T:=by
 unfold Inv at h
 rw[h,List.drop_of_length_le hk,sc_nil]
 simp
end Lx
namespace Go.Proofs.YtngnnijpdjhelaaGreat
open Go.RowKit Go.IntWalk Lx
set_option linter.unusedVariables false
set_option maxRecDepth 100000
set_option maxHeartbeats 16000000
theorem hide {p:Prop}(h:p):Hid p:=h
theorem bel {w w1 w2:World}(h:Below w.heap.size w w1)(k:Below w1.heap.size w1 w2):Below w.heap.size w w2:=h.trans (k.mono h.size)
theorem bel1 (w:World)(o:Obj):Below w.heap.size w (w.alloc o):=(Below.refl _ _).alloc (Nat.le_refl _) _
theorem ret_int {k:IntKind}{a b:Int}(h:a=b):Ending.returned (.int k a)=.returned (.int k b):=by rw[h]
theorem ret_bool {a b:Bool}(h:a=b):Ending.returned (.bool a)=.returned (.bool b):=by rw[h]
abbrev bs (s:ByteArray):List UInt8:=s.data.toList
theorem bs_len (s:ByteArray):(bs s).length=s.size:=by cases s;rfl
theorem bs_at {s:ByteArray}{k:Nat}(h:k < s.size):(bs s)[k]?=some s[k]:=Lib.data_getElem? s k h
theorem bs_from (s:ByteArray)(k:Nat):bs (s.extract k s.size)=(bs s).drop k:=Lib.extract_to_end s k
theorem digit_any (c:Int)(w:World) :
  Calls Tryz.prog 123 #[.int .u8 c] w fun e w'=>e=.returned (.bool (dg c))/\w'=w:=by
 by_cases h1:48<=c
 ·go_enter Tryz.func123,Tryz.ntmps123
  go_wp2
  go_ret
  exact⟨ret_bool (by simp[dg,h1]),rfl⟩
 ·rw[show dg c=false by simp[dg];omega]
  go_enter Tryz.func123,Tryz.ntmps123
  go_wp2
  go_ret
  exact⟨rfl,rfl⟩
theorem letter_any (c:Int)(w:World) :
  Calls Tryz.prog 125 #[.int .u8 c] w fun e w'=>e=.returned (.bool (lt c))/\w'=w:=by
 by_cases h1:97<=c
 ·go_enter Tryz.func125,Tryz.ntmps125
  go_wp2
  go_ret
  exact⟨ret_bool (by simp[lt,h1]),rfl⟩
 ·rw[show lt c=false by simp[lt];omega]
  go_enter Tryz.func125,Tryz.ntmps125
  go_wp2
  go_ret
  exact⟨rfl,rfl⟩
theorem within_any (c:Int)(w:World) :
  Calls Tryz.prog 126 #[.int .u8 c] w fun e w'=>e=.returned (.bool (wi c))/\w'=w:=by
 cases h1:lt c with
 | true =>
  rw[show wi c=true by simp[wi,h1]]
  go_enter Tryz.func126,Tryz.ntmps126
  go_wp2_with (go_at_call 125;refine(letter_any _ _).mono ?_;rintro e w' ⟨rfl,rfl⟩)
  go_ret
  exact⟨rfl,rfl⟩
 | false =>
  cases h2:dg c with
  | true =>
   rw[show wi c=true by simp[wi,h1,h2]]
   go_enter Tryz.func126,Tryz.ntmps126
   go_wp2_with (first|(go_at_call 125;refine(letter_any _ _).mono ?_;rintro e w' ⟨rfl,rfl⟩)|(go_at_call 123;refine(digit_any _ _).mono ?_;rintro e w' ⟨rfl,rfl⟩))
   go_ret
   exact⟨rfl,rfl⟩
  | false =>
   go_enter Tryz.func126,Tryz.ntmps126
   go_wp2_with (first|(go_at_call 125;refine(letter_any _ _).mono ?_;rintro e w' ⟨rfl,rfl⟩)|(go_at_call 123;refine(digit_any _ _).mono ?_;rintro e w' ⟨rfl,rfl⟩))
   go_ret
   exact⟨ret_bool (by simp[wi,h1,h2]),rfl⟩
abbrev fv (n:Nat):Value:=.func (.func n) #[] #[]
theorem run_digit (s:ByteArray)(w:World)(hs:s.size<=maxLen) :
  Calls Tryz.prog 124 #[.string s,fv 123] w fun e w'=>e=.returned (.int .i64 (rn D (bs s)))/\w'=w:=by
 unfold maxLen at hs
 go_enter Tryz.func124,Tryz.ntmps124
 go_wp2
 go_loop [5] (fun i=>∃ k:Nat,k<=s.size/\i=.int .i64 k/\Hid (((bs s).take k).all D=true)) (fun i=>s.size-(intOf i).toNat)
 case atStart=>exact⟨0,Nat.zero_le _,rfl,hide (by simp)⟩
 case round =>
  obtain⟨k,hk,rfl,ha⟩:=hrel
  by_cases hlt:k < s.size
  ·have hc:=hide (bs_at hlt)
   cases hd:dg (s[k].toNat) with
   | true =>
    go_wp2_with (go_at_call 123;refine(digit_any _ _).mono ?_;rintro e w' ⟨rfl,rfl⟩)
    go_round
    case rel=>exact⟨k+1,by omega,by go_num,hide (all_snoc ha.out hc.out hd)⟩
    case measure=>simp[intOf];omega
   | false =>
    go_wp2_with (go_at_call 123;refine(digit_any _ _).mono ?_;rintro e w' ⟨rfl,rfl⟩)
    go_ret
    exact⟨ret_int (by rw[rn_of ha.out (by rw[bs_len];omega) (by intro c h;rw[hc.out] at h;cases h;exact hd)]),rfl⟩
  ·go_wp2
   go_ret
   exact⟨ret_int (by rw[rn_of ha.out (by rw[bs_len];omega) (by intro c h;rw[List.getElem?_eq_none (by rw[bs_len];omega)] at h;cases h)]),rfl⟩
theorem run_within (s:ByteArray)(w:World)(hs:s.size<=maxLen) :
  Calls Tryz.prog 124 #[.string s,fv 126] w fun e w'=>e=.returned (.int .i64 (rn W (bs s)))/\w'=w:=by
 unfold maxLen at hs
 go_enter Tryz.func124,Tryz.ntmps124
 go_wp2
 go_loop [5] (fun i=>∃ k:Nat,k<=s.size/\i=.int .i64 k/\Hid (((bs s).take k).all W=true)) (fun i=>s.size-(intOf i).toNat)
 case atStart=>exact⟨0,Nat.zero_le _,rfl,hide (by simp)⟩
 case round =>
  obtain⟨k,hk,rfl,ha⟩:=hrel
  by_cases hlt:k < s.size
  ·have hc:=hide (bs_at hlt)
   cases hd:wi (s[k].toNat) with
   | true =>
    go_wp2_with (go_at_call 126;refine(within_any _ _).mono ?_;rintro e w' ⟨rfl,rfl⟩)
    go_round
    case rel=>exact⟨k+1,by omega,by go_num,hide (all_snoc ha.out hc.out hd)⟩
    case measure=>simp[intOf];omega
   | false =>
    go_wp2_with (go_at_call 126;refine(within_any _ _).mono ?_;rintro e w' ⟨rfl,rfl⟩)
    go_ret
    exact⟨ret_int (by rw[rn_of ha.out (by rw[bs_len];omega) (by intro c h;rw[hc.out] at h;cases h;exact hd)]),rfl⟩
  ·go_wp2
   go_ret
   exact⟨ret_int (by rw[rn_of ha.out (by rw[bs_len];omega) (by intro c h;rw[List.getElem?_eq_none (by rw[bs_len];omega)] at h;cases h)]),rfl⟩
end Go.Proofs.YtngnnijpdjhelaaGreat
namespace Go.Proofs.YtngnnijpdjhelaaGreat
open Go.ChangeShapes Go.WideShapes Go.ChangeAt Go.RowKit
set_option linter.unusedVariables false
set_option maxRecDepth 100000
set_option maxHeartbeats 16000000
theorem ownK:ownKnob Tryz.prog.godebug=none:=by kernel_rfl
theorem laidOut':laidOutB Tryz.prog=true:=by kernel_rfl
theorem ocellsK:Tryz.prog.cellsOf 23=2:=by kernel_rfl
theorem field_intK {H:Type}{enc:TypeId × Value->H}{W:World}{b:Nat}{sp:Nat->Bool}{hd:Bool}{n:Nat}{v:Value}{y:Option (DataW H × List MemPlace)}
  (h:DataW.trod enc Tryz.prog W b sp hd n 3 [v]=y) (hy:y.isSome=true):∃ a,v=.int .i64 a/\y=some (.lit (.int .i64 a),[])/\(Lit.int .i64 a).wf=true:=by
 cases y with
 | none=>cases hy
 | some x =>
  obtain⟨a,h1,h2,h3⟩:=DataW.trod_int Tryz.underlying3 h
  simp at h1
  exact⟨a,h1,by rw[h2],h3⟩
theorem open_kind {H:Type}{enc:TypeId × Value->H}{W:World}{r:Reach}{b0 b:Nat}{sp:Nat->Bool}{hd:Bool}{v:Value}{d:DataW H}{ps:List MemPlace}
  (hval:Value.okWide Tryz.prog W r b0 23 v) (h:DataW.Trod enc Tryz.prog W b sp hd 23 v d ps):∃ x y,v=.agg #[.int .i64 x,.int .i64 y]:=by
 unfold Value.okWide at hval
 rw[Tryz.underlying23] at hval
 obtain⟨cs,rfl,hsz,_⟩:=hval
 rw[ocellsK] at hsz
 obtain⟨fuel,hf⟩:=h
 obtain⟨xs,n,_,hx,hl,hxs,hall⟩:=DataW.trod_struct Tryz.underlying23 hf
 obtain⟨c0,c1,rfl⟩:∃ c0 c1,cs=#[c0,c1]:=by
  obtain⟨l⟩:=cs
  match l,hsz with
  | [a,b],_=>exact⟨a,b,rfl⟩
 have hlen:xs.length=2:=hxs
 have f0:=hall 0 _ rfl
 have f1:=hall 1 _ rfl
 simp only[Value.cells] at f0 f1
 obtain⟨x,rfl,_,_⟩:=field_intK f0 (by simp[hlen])
 obtain⟨y,rfl,_,_⟩:=field_intK f1 (by simp[hlen])
 exact⟨x,y,rfl⟩
end Go.Proofs.YtngnnijpdjhelaaGreat
