import Derived.Shelf.Pu.Clone
import Derived.Lib.QuietBelow
import Derived.Deep.RegionHeld3
import Derived.Test.YtngnnijpdjhelaaGreatX21
namespace Go.Proofs.YtngnnijpdjhelaaGreat
open Go.RowKit Go.IntWalk Lx
set_option linter.unusedVariables false
set_option maxRecDepth 100000
set_option maxHeartbeats 16000000
theorem amg_snoc {c:Int}{l:List UInt8}{k:Nat}{b:UInt8}(h:amg c (l.take k)=false)(hb:l[k]?=some b)(hn:((b.toNat:Int)==c)=false):amg c (l.take (k+1))=false:=by
 rw[List.take_add_one,hb]
 unfold amg at h ⊢
 rw[List.any_append,h]
 simp[hn]
theorem amg_yes {c:Int}{l:List UInt8}{k:Nat}{b:UInt8}(hb:l[k]?=some b)(hn:((b.toNat:Int)==c)=true):amg c l=true:=by
 unfold amg
 rw[List.any_eq_true]
 exact⟨b,List.mem_of_getElem? hb,hn⟩
theorem among_any (c:Int)(s:ByteArray)(w:World)(hs:s.size<=maxLen) :
  Calls Tryz.prog 107 #[.int .u8 c,.string s] w fun e w'=>e=.returned (.bool (amg c (bs s)))/\w'=w:=by
 unfold maxLen at hs
 go_enter Tryz.func107,Tryz.ntmps107
 go_wp2
 go_loop [5] (fun i=>∃ k:Nat,k<=s.size/\i=.int .i64 k/\Hid (amg c ((bs s).take k)=false)) (fun i=>s.size-(intOf i).toNat)
 case atStart=>exact⟨0,Nat.zero_le _,rfl,hide rfl⟩
 case round =>
  obtain⟨k,hk,rfl,ha⟩:=hrel
  by_cases hlt:k < s.size
  ·have hc:=hide (bs_at hlt)
   cases hd:((s[k].toNat:Int)==c) with
   | true =>
    go_wp2
    go_ret
    exact⟨ret_bool (amg_yes hc.out hd).symm,rfl⟩
   | false =>
    go_wp2
    go_round
    case rel=>exact⟨k+1,by omega,by go_num,hide (amg_snoc ha.out hc.out hd)⟩
    case measure=>simp[intOf];omega
  ·go_wp2
   go_ret
   exact⟨ret_bool (by have:=ha.out;rw[List.take_of_length_le (by rw[bs_len];omega)] at this;exact this.symm),rfl⟩
def allOf (l m:List UInt8):Bool:=l.all fun b=>amg b.toNat m
theorem all_any (s m:ByteArray)(w:World)(hs:s.size<=maxLen)(hm:m.size<=maxLen) :
  Calls Tryz.prog 108 #[.string s,.string m] w fun e w'=>e=.returned (.bool (allOf (bs s) (bs m)))/\w'=w:=by
 have hm':=hide hm
 clear hm
 unfold maxLen at hs
 go_enter Tryz.func108,Tryz.ntmps108
 go_wp2
 go_loop [5] (fun i=>∃ k:Nat,k<=s.size/\i=.int .i64 k/\Hid (allOf ((bs s).take k) (bs m)=true)) (fun i=>s.size-(intOf i).toNat)
 case atStart=>exact⟨0,Nat.zero_le _,rfl,hide rfl⟩
 case round =>
  obtain⟨k,hk,rfl,ha⟩:=hrel
  by_cases hlt:k < s.size
  ·have hc:=hide (bs_at hlt)
   cases hd:amg (s[k].toNat) (bs m) with
   | true =>
    go_wp2_with (go_at_call 107;refine(among_any _ _ _ hm'.out).mono ?_;rintro e w' ⟨rfl,rfl⟩)
    go_round
    case rel=>exact⟨k+1,by omega,by go_num,hide (all_snoc (p:=fun b=>amg b.toNat (bs m)) ha.out hc.out hd)⟩
    case measure=>simp[intOf];omega
   | false =>
    go_wp2_with (go_at_call 107;refine(among_any _ _ _ hm'.out).mono ?_;rintro e w' ⟨rfl,rfl⟩)
    go_ret
    exact⟨ret_bool (all_not (p:=fun b=>amg b.toNat (bs m)) hc.out hd).symm,rfl⟩
  ·go_wp2
   go_ret
   exact⟨ret_bool (by have:=ha.out;rw[List.take_of_length_le (by rw[bs_len];omega)] at this;exact this.symm),rfl⟩
abbrev ltS:ByteArray:=⟨#[97,98,99,100,101,102,103,104,105,106,107,108,109,110,111,112,113,114,115,116,117,118,119,120,121,122]⟩
abbrev wiS:ByteArray:=⟨#[97,98,99,100,101,102,103,104,105,106,107,108,109,110,111,112,113,114,115,116,117,118,119,120,121,122,48,49,50,51,52,53,54,55,56,57,95]⟩
abbrev shS:ByteArray:=⟨#[43,45,42,47,37,40,41,44,59,61,63,58,60,62,38,124,94]⟩
theorem all_within (s:ByteArray)(w:World)(hs:s.size<=maxLen):Calls Tryz.prog 108 #[.string s,.string wiS] w fun e w'=>e=.returned (.bool (aW (bs s)))/\w'=w:=by
 have h:=all_any s wiS w hs (by decide)
 rw[show allOf (bs s) (bs wiS)=aW (bs s) by unfold allOf aW;congr 1;funext b;exact amg_wis _] at h
 exact h
theorem among_letters (c:Int)(w:World):Calls Tryz.prog 107 #[.int .u8 c,.string ltS] w fun e w'=>e=.returned (.bool (lt c))/\w'=w:=by
 have h:=among_any c ltS w (by decide)
 rw[show amg c (bs ltS)=lt c from amg_lts c] at h
 exact h
theorem iix_any (s:ByteArray)(c:Int)(w:World) :
  Calls Tryz.prog 175 #[.string s,.int .u8 c] w fun e w'=>e=.returned (.int .i64 (Lib.indexByte (bs s) c.toNat.toUInt8))/\w'=w:=by
 go_enter Tryz.func175,Tryz.ntmps175
 go_wp2
 rw[run_callFunc_extern Tryz.func188 (by kernel_rfl) (by kernel_rfl) (by kernel_rfl) (e:=Extern.BytealgIndexByte.indexByte) (by kernel_rfl),Lib.run_indexByteString]
 simp only[Result.andThen]
 rw[Oper.upon_value]
 go_wp2
 go_ret
 exact⟨rfl,rfl⟩
theorem six_any (s:ByteArray)(c:Int)(w:World) :
  Calls Tryz.prog 151 #[.string s,.int .u8 c] w fun e w'=>e=.returned (.int .i64 (Lib.indexByte (bs s) c.toNat.toUInt8))/\w'=w:=by
 go_enter Tryz.func151,Tryz.ntmps151
 go_wp2_with (go_at_call 175;refine(iix_any _ _ _).mono ?_;rintro e w' ⟨rfl,rfl⟩)
 go_ret
 exact⟨rfl,rfl⟩
end Go.Proofs.YtngnnijpdjhelaaGreat
namespace Go.Proofs.YtngnnijpdjhelaaGreat
open Go.RowKit Go.IntWalk Lx
set_option linter.unusedVariables false
theorem ret_pair {a b:Int}{c d:Bool}(h:a=b)(h':c=d):Ending.returned (.tuple #[.int .i64 a,.bool c])=.returned (.tuple #[.int .i64 b,.bool d]):=by rw[h,h']
def ixv (c:UInt8):Int:=Lib.indexByte sh c
theorem index_iff:∀(l:List UInt8) (c:UInt8),(0<=Lib.indexByte l c↔l.contains c=true)
 | [],c=>by simp[Lib.indexByte]
 | b::l,c=>by
  have ih:=index_iff l c
  have hg:=Lib.indexByte_ge l c
  rw[List.contains_cons]
  unfold Lib.indexByte
  by_cases h:b=c
  ·subst h;simp
  ·have h1:(b==c)=false:=by simp[h]
   have h2:(c==b)=false:=by simp;exact fun e=>h e.symm
   rw[h1,h2]
   simp only[Bool.false_eq_true,if_false,Bool.false_or]
   by_cases h3:Lib.indexByte l c=-1
   ·rw[h3] at ih
    simp[h3] at ih ⊢
    exact ih
   ·simp only[beq_iff_eq,h3,if_false]
    rw[<-ih]
    omega
theorem ixv_yes {c:UInt8}(h:sh.contains c=true):0<=ixv c:=(index_iff sh c).2 h
theorem ixv_no {c:UInt8}(h:sh.contains c=false):ixv c < 0:=by
 have:=index_iff sh c
 rw[h] at this
 have:¬0<=Lib.indexByte sh c:=by simpa using this
 unfold ixv
 omega
theorem six_sh (c:UInt8)(w:World) :
  Calls Tryz.prog 151 #[.string shS,.int .u8 (c.toNat:Nat)] w fun e w'=>e=.returned (.int .i64 (ixv c))/\w'=w:=by
 have h:=six_any shS (c.toNat:Nat) w
 rw[Lib.byte_back] at h
 exact h
theorem bs_cons {s:ByteArray}(h:0 < s.size):∃ t,bs s=s[0]::t:=by
 have h1:=bs_at h
 cases hb:bs s with
 | nil=>rw[hb] at h1;simp at h1
 | cons a t=>rw[hb] at h1;simp at h1;exact⟨t,by rw[h1]⟩
theorem bs_head {s:ByteArray}(h:0 < s.size):(bs s).headD 0=s[0]:=by
 obtain⟨t,ht⟩:=bs_cons h
 rw[ht];rfl
theorem bs_two (s:ByteArray):(s.extract 0 2).toList=(bs s).take 2:=by
 rw[ByteArray.toList_eq]
 simp[ByteArray.data_extract]
theorem bs_nil {s:ByteArray}(h:s.size=0):s=⟨#[]⟩:=ByteArray.ext (Array.eq_empty_of_size_eq_zero h)
theorem mark_any (s:ByteArray)(w:World)(h0:0 < s.size)(hs:s.size<=maxLen) :
  Calls Tryz.prog 127 #[.string s] w fun e w'=>e=.returned (.int .i64 (mk (bs s)))/\w'=w:=by
 unfold maxLen at hs
 obtain⟨t,ht⟩:=bs_cons h0
 have hh:=hide (bs_head h0)
 have H2:1 < s.size\/two.contains ((bs s).take 2)=false:=by
  by_cases h:1 < s.size
  ·exact .inl h
  ·right
   have hl:(bs s).length=1:=by rw[bs_len];omega
   cases t with
   | nil=>rw[ht];simp[two]
   | cons a t=>rw[ht] at hl;simp at hl
 clear ht t
 have hT:=bs_two s
 cases hm:two.contains ((bs s).take 2) with
 | true =>
  have h1:1 < s.size:=by
   rcases H2 with h|h
   ·exact h
   ·rw[h] at hm;cases hm
  have hr:mk (bs s)=2:=by unfold mk;rw[if_pos hm]
  rw[hr]
  clear H2 hr
  rcases contains_two hm with h|h|h|h|h|h <;>
  ·rw[h] at hT
   clear h hm
   go_enter Tryz.func127,Tryz.ntmps127
   go_wp2
   go_ret
   exact⟨rfl,rfl⟩
 | false =>
  have hr:mk (bs s)=if sh.contains s[0] then 1 else 0:=by unfold mk;rw[if_neg (by rw[hm];simp),hh.out]
  have hr':=hide hr
  clear hr
  obtain⟨T,hTT⟩:∃ T,(bs s).take 2=T:=⟨_,rfl⟩
  rw[hTT] at hT hm
  clear hTT
  have hn:(T==[60,61])=false/\(T==[62,61])=false/\(T==[61,61])=false/\(T==[33,61])=false/\(T==[60,60])=false/\(T==[62,62])=false:=by
   simp[two] at hm
   simpa using hm
  obtain⟨n1,n2,n3,n4,n5,n6⟩:=hn
  clear hm H2
  cases hc:sh.contains s[0] with
  | true =>
   have hx:=ixv_yes hc
   by_cases h1:1 < s.size <;>
   ·go_enter Tryz.func127,Tryz.ntmps127
    go_wp2_with (go_at_call 151;refine(six_sh _ _).mono ?_;rintro e w' ⟨rfl,rfl⟩)
    go_ret
    exact⟨ret_int (by rw[hr'.out,hc];rfl),rfl⟩
  | false =>
   have hx:=ixv_no hc
   by_cases h1:1 < s.size <;>
   ·go_enter Tryz.func127,Tryz.ntmps127
    go_wp2_with (go_at_call 151;refine(six_sh _ _).mono ?_;rintro e w' ⟨rfl,rfl⟩)
    go_ret
    exact⟨ret_int (by rw[hr'.out,hc];rfl),rfl⟩
theorem word_any (s:ByteArray)(w:World)(hs:s.size<=maxLen) :
  Calls Tryz.prog 130 #[.string s] w fun e w'=>e=.returned (.bool (wrd (bs s)))/\w'=w:=by
 by_cases h0:s.size=0
 ·obtain rfl:=bs_nil h0
  go_enter Tryz.func130,Tryz.ntmps130
  go_wp2
  go_ret
  exact⟨rfl,rfl⟩
 ·have h0':0 < s.size:=by omega
  have hE:(s.toList==[])=false:=by
   rw[ByteArray.toList_eq]
   obtain⟨t,ht⟩:=bs_cons h0'
   rw[show s.data.toList=_ from ht];rfl
  have hW:=hide (show wrd (bs s)=(decide (s.size<=16)&&lt s[0].toNat&&(bs s).all W) by
   unfold wrd
   rw[bs_len,bs_head h0']
   obtain⟨t,ht⟩:=bs_cons h0'
   rw[ht];rfl)
  have hl:=hide (rn_len W (bs s))
  rw[bs_len] at hl
  have hs':=hide hs
  unfold maxLen at hs
  by_cases h1:s.size<=16
  ·cases hc:lt s[0].toNat with
   | true =>
    go_enter Tryz.func130,Tryz.ntmps130
    go_wp2_with (first|(go_at_call 125;refine(letter_any _ _).mono ?_;rintro e w' ⟨rfl,rfl⟩)|(go_at_call 124;refine(run_within _ _ hs'.out).mono ?_;rintro e w' ⟨rfl,rfl⟩))
    go_ret
    exact⟨ret_bool (by rw[hW.out,hc,hl.out];simp[h1]),rfl⟩
   | false =>
    go_enter Tryz.func130,Tryz.ntmps130
    go_wp2_with (go_at_call 125;refine(letter_any _ _).mono ?_;rintro e w' ⟨rfl,rfl⟩)
    go_ret
    exact⟨ret_bool (by rw[hW.out,hc];simp),rfl⟩
  ·go_enter Tryz.func130,Tryz.ntmps130
   go_wp2
   go_ret
   exact⟨ret_bool (by rw[hW.out];simp[h1]),rfl⟩
theorem rword_any (s:ByteArray)(w:World)(hs:s.size<=maxLen) :
  Calls Tryz.prog 76 #[.string s] w fun e w'=>e=.returned (.bool (wrd (bs s)))/\w'=w:=by
 by_cases h0:s.size=0
 ·obtain rfl:=bs_nil h0
  go_enter Tryz.func76,Tryz.ntmps76
  go_wp2
  go_ret
  exact⟨rfl,rfl⟩
 ·have h0':0 < s.size:=by omega
  have hW:=hide (show wrd (bs s)=(decide (s.size<=16)&&lt s[0].toNat&&aW (bs s)) by
   unfold wrd
   rw[bs_len,bs_head h0']
   obtain⟨t,ht⟩:=bs_cons h0'
   rw[ht];rfl)
  have hs':=hide hs
  unfold maxLen at hs
  by_cases h1:s.size<=16
  ·cases hc:lt s[0].toNat with
   | true =>
    go_enter Tryz.func76,Tryz.ntmps76
    go_wp2_with (first|(go_at_call 107;refine(among_letters _ _).mono ?_;rintro e w' ⟨rfl,rfl⟩)|(go_at_call 108;refine(all_within _ _ hs'.out).mono ?_;rintro e w' ⟨rfl,rfl⟩))
    go_ret
    exact⟨ret_bool (by rw[hW.out,hc];simp[h1]),rfl⟩
   | false =>
    go_enter Tryz.func76,Tryz.ntmps76
    go_wp2_with (go_at_call 107;refine(among_letters _ _).mono ?_;rintro e w' ⟨rfl,rfl⟩)
    go_ret
    exact⟨ret_bool (by rw[hW.out,hc];simp),rfl⟩
  ·go_enter Tryz.func76,Tryz.ntmps76
   go_wp2
   go_ret
   exact⟨ret_bool (by rw[hW.out];simp[h1]),rfl⟩
end Go.Proofs.YtngnnijpdjhelaaGreat
namespace Go.Proofs.YtngnnijpdjhelaaGreat
open Go.RowKit Go.IntWalk Lx
set_option linter.unusedVariables false
theorem toList_ne {s:ByteArray}(h:0 < s.size):(s.toList==[])=false:=by
 rw[ByteArray.toList_eq]
 obtain⟨t,ht⟩:=bs_cons h
 rw[show s.data.toList=_ from ht];rfl
theorem zero_form {s:ByteArray}(h:0 < s.size):((bs s).headD 0==48&&decide (1 < (bs s).length))=(((s[0].toNat:Int)==48)&&!(s.toList==[48])):=by
 rw[ByteArray.toList_eq,bs_head h]
 obtain⟨t,ht⟩:=bs_cons h
 rw[show s.data.toList=_ from ht,ht]
 by_cases h48:s[0]=48
 ·rw[h48]
  cases t with
  | nil=>rfl
  | cons a t=>simp
 ·have h2:¬(s[0].toNat:Int)=48:=fun e=>h48 (UInt8.toNat_inj.1 (by simp;omega))
  rw[beq_eq_false_iff_ne.2 h48,beq_eq_false_iff_ne.2 h2]
  rfl
theorem number_any (s:ByteArray)(w:World)(hs:s.size<=maxLen) :
  Calls Tryz.prog 129 #[.string s] w fun e w'=>e=.returned (.tuple #[.int .i64 (nv (bs s)),.bool (num (bs s))])/\w'=w:=by
 unfold maxLen at hs
 by_cases h0:s.size=0
 ·obtain rfl:=bs_nil h0
  go_enter Tryz.func129,Tryz.ntmps129
  go_wp2
  go_ret2
  exact⟨rfl,rfl⟩
 ·have h0':0 < s.size:=by omega
  have hE:=toList_ne h0'
  have hz:=hide (zero_form h0')
  by_cases hb:((s[0].toNat:Int)==48)=true/\(s.toList==[48])=false
  ·obtain⟨h1,h2⟩:=hb
   have hn:num (bs s)=false:=by unfold num;rw[hz.out,h1,h2];simp
   rw[nv_no hn,hn]
   clear hn
   go_enter Tryz.func129,Tryz.ntmps129
   go_wp2
   go_ret2
   exact⟨rfl,rfl⟩
  ·have hz2:=hide (show ((bs s).headD 0==48&&decide (1 < (bs s).length))=false by
    rw[hz.out]
    cases h1:((s[0].toNat:Int)==48)
    ·rfl
    ·cases h2:(s.toList==[48])
     ·exact absurd ⟨h1,h2⟩ hb
     ·rfl)
   have hne:=hide (show bs s≠[] by
    obtain⟨t,ht⟩:=bs_cons h0'
    rw[ht];simp)
   have ways:((s[0].toNat:Int)==48)=false\/(((s[0].toNat:Int)==48)=true/\(s.toList==[48])=true):=by
    cases h1:((s[0].toNat:Int)==48)
    ·exact .inl rfl
    ·cases h2:(s.toList==[48])
     ·exact absurd ⟨h1,h2⟩ hb
     ·exact .inr ⟨rfl,rfl⟩
   clear hb hz
   rcases ways with h1|⟨h1,h2⟩
   all_goals
    go_enter Tryz.func129,Tryz.ntmps129
    go_wp2
    go_loop [4,19] (fun n i=>∃ k:Nat,∃ V:Int,k<=s.size/\i=.int .i64 k/\n=.int .i64 V/\0<=V/\V<=2147483647/\Hid (V=vl ((bs s).take k))/\Hid (((bs s).take k).all D=true)) (fun _ i=>s.size-(intOf i).toNat)
    case atStart=>exact⟨0,0,Nat.zero_le _,rfl,rfl,by omega,by omega,hide rfl,hide (by simp)⟩
    case round =>
     obtain⟨k,V,hk,rfl,rfl,hV0,hV1,hV,ha⟩:=hrel
     by_cases hlt:k < s.size
     ·have hc:=hide (bs_at hlt)
      cases hd:dg (s[k].toNat) with
      | false =>
       go_wp2_with (go_at_call 123;refine(digit_any _ _).mono ?_;rintro e w' ⟨rfl,rfl⟩)
       go_ret2
       have hn:=num_no hc.out hd
       exact⟨ret_pair (nv_no hn).symm hn.symm,rfl⟩
      | true =>
       obtain⟨b1,b2⟩:=D_iff.1 hd
       have hv:=hide (vl_take hc.out)
       rw[<-hV.out] at hv
       by_cases hbig:10*V+((s[k].toNat:Int)-48)<=2147483647
       ·go_wp2_with (go_at_call 123;refine(digit_any _ _).mono ?_;rintro e w' ⟨rfl,rfl⟩)
        go_round
        case rel=>exact⟨k+1,_,by omega,by go_num,rfl,by omega,by omega,hide hv.out.symm,hide (all_snoc ha.out hc.out hd)⟩
        case measure=>simp[intOf];omega
       ·have hbig':2147483647 < 10*V+((s[k].toNat:Int)-48):=by omega
        clear hbig
        go_wp2_with (go_at_call 123;refine(digit_any _ _).mono ?_;rintro e w' ⟨rfl,rfl⟩)
        go_ret2
        have hn:=num_big (l:=bs s) (k:=k+1) (by rw[hv.out];exact hbig')
        exact⟨ret_pair (nv_no hn).symm hn.symm,rfl⟩
     ·go_wp2
      go_ret2
      have he:(bs s).take k=bs s:=List.take_of_length_le (by rw[bs_len];omega)
      rw[he] at hV ha
      have hn:=num_yes hne.out ha.out hz2.out (by rw[<-hV.out];omega)
      exact⟨ret_pair (by rw[nv_yes hn];exact hV.out) hn.symm,rfl⟩
end Go.Proofs.YtngnnijpdjhelaaGreat
namespace Go.Proofs.YtngnnijpdjhelaaGreat
open Go.RowKit Go.IntWalk Lx
set_option linter.unusedVariables false
theorem toList_bs (s:ByteArray):s.toList=bs s:=ByteArray.toList_eq s
end Go.Proofs.YtngnnijpdjhelaaGreat
namespace Go.Proofs.YtngnnijpdjhelaaGreat
open Go.RowKit Go.IntWalk Lx
set_option linter.unusedVariables false
set_option maxRecDepth 100000
set_option maxHeartbeats 16000000
def numb:Go.Shelf.Ren:=⟨fun n=>if n=25 then 128 else n,fun n=>if n=37 then 173 else if n=47 then 174 else n,fun n=>n⟩
theorem lays:LaysPu.n25 Tryz.prog numb where
 mixed:=by kernel_rfl
 f25:=by kernel_rfl
 t0:=Tryz.underlying0
 a0:=Tryz.isAgg0
 z0:=Tryz.sizeOf0
 v0:=Tryz.zeroValue0
 i0:=by kernel_rfl
 t3:=Tryz.underlying3
 a3:=Tryz.isAgg3
 z3:=Tryz.sizeOf3
 v3:=Tryz.zeroValue3
 i3:=by kernel_rfl
 t4:=Tryz.underlying4
 a4:=Tryz.isAgg4
 z4:=Tryz.sizeOf4
 v4:=Tryz.zeroValue4
 i4:=by kernel_rfl
 t5:=Tryz.underlying5
 a5:=Tryz.isAgg5
 z5:=Tryz.sizeOf5
 v5:=Tryz.zeroValue5
 i5:=by kernel_rfl
 t9:=Tryz.underlying9
 a9:=Tryz.isAgg9
 z9:=Tryz.sizeOf9
 v9:=Tryz.zeroValue9
 i9:=by kernel_rfl
 t37:=Tryz.underlying173
 a37:=Tryz.isAgg173
 z37:=Tryz.sizeOf173
 v37:=Tryz.zeroValue173
 i37:=by kernel_rfl
 t47:=Tryz.underlying174
 a47:=Tryz.isAgg174
 z47:=Tryz.sizeOf174
 v47:=Tryz.zeroValue174
 i47:=by kernel_rfl
theorem iclone_any (s:ByteArray)(w:World)(hlim:s.size<=281474976710656) :
 Calls Tryz.prog 128 #[.string s] w fun e w'=>e=.returned (.string s)/\Below w.heap.size w w':=AnyPu.stringslite_Clone lays s w hlim
theorem clone_any (s:ByteArray)(w:World)(hlim:s.size<=281474976710656) :
  Calls Tryz.prog 88 #[.string s] w fun e w'=>e=.returned (.string s)/\Below w.heap.size w w':=by
 have hl:=hide hlim
 clear hlim
 go_enter Tryz.func88,Tryz.ntmps88
 go_wp2_with fail
 refine(iclone_any _ _ hl.out).mono ?_
 rintro e w' ⟨rfl,hb⟩
 have HB:=hide hb
 clear hb
 go_wp2_with fail
 go_ret
 exact⟨rfl,HB.out⟩
theorem longest_any (s:ByteArray)(w:World)(h0:0 < s.size)(hs:s.size<=maxLen) :
  Calls Tryz.prog 87 #[.string s] w fun e w'=>e=.returned (.tuple #[.int .i64 (kd (bs s)),.int .i64 (sz (bs s))])/\w'=w:=by
 have hs':=hide hs
 have h0':=hide h0
 unfold maxLen at hs
 have hD:D ((bs s).headD 0)=dg s[0].toNat:=by rw[bs_head h0];rfl
 have hA:A ((bs s).headD 0)=lt s[0].toNat:=by rw[bs_head h0];rfl
 have HD:=fun w=>hide (digit_any s[0].toNat w)
 have HA:=fun w=>hide (letter_any s[0].toNat w)
 cases h1:dg s[0].toNat with
 | true =>
  rw[show kd (bs s)=1 by unfold kd;rw[hD,h1];rfl,show sz (bs s)=rn D (bs s) by unfold sz;rw[hD,h1];rfl]
  rw[h1] at HD
  clear hD hA HA h1
  go_enter Tryz.func87,Tryz.ntmps87
  go_wp2_with fail
  refine(HD _).out.mono ?_
  rintro e w' ⟨rfl,rfl⟩
  go_wp2_with fail
  refine(run_digit _ _ hs'.out).mono ?_
  rintro e w' ⟨rfl,rfl⟩
  go_wp2_with fail
  go_ret2
  exact⟨rfl,rfl⟩
 | false =>
  rw[h1] at HD
  cases h2:lt s[0].toNat with
  | true =>
   rw[show kd (bs s)=2 by unfold kd;rw[hD,h1,hA,h2];rfl,show sz (bs s)=rn W (bs s) by unfold sz;rw[hD,h1,hA,h2];rfl]
   rw[h2] at HA
   clear hD hA h1 h2
   go_enter Tryz.func87,Tryz.ntmps87
   go_wp2_with fail
   refine(HD _).out.mono ?_
   rintro e w' ⟨rfl,rfl⟩
   go_wp2_with fail
   refine(HA _).out.mono ?_
   rintro e w' ⟨rfl,rfl⟩
   go_wp2_with fail
   refine(run_within _ _ hs'.out).mono ?_
   rintro e w' ⟨rfl,rfl⟩
   go_wp2_with fail
   go_ret2
   exact⟨rfl,rfl⟩
  | false =>
   rw[show kd (bs s)=3 by unfold kd;rw[hD,h1,hA,h2];rfl,show sz (bs s)=mk (bs s) by unfold sz;rw[hD,h1,hA,h2];rfl]
   rw[h2] at HA
   clear hD hA h1 h2
   go_enter Tryz.func87,Tryz.ntmps87
   go_wp2_with fail
   refine(HD _).out.mono ?_
   rintro e w' ⟨rfl,rfl⟩
   go_wp2_with fail
   refine(HA _).out.mono ?_
   rintro e w' ⟨rfl,rfl⟩
   go_wp2_with fail
   refine(mark_any _ _ h0'.out hs'.out).mono ?_
   rintro e w' ⟨rfl,rfl⟩
   go_wp2_with fail
   go_ret2
   exact⟨rfl,rfl⟩
def HasC (W:World)(b:Nat)(t:TypeId)(cs:Array Value):Prop:=W.heap[b]?=some (.cells cs t (0,0))
theorem HasC.lt {W:World}{b:Nat}{t:TypeId}{cs:Array Value}(h:HasC W b t cs):b < W.heap.size:=(Array.getElem?_eq_some_iff.1 h).1
theorem HasC.new (W:World)(t:TypeId)(cs:Array Value):HasC (W.alloc (.cells cs t)) W.heap.size t cs:=heap_alloc_new W _
theorem HasC.kept {W W':World}{row:Option Nat}{b:Nat}{t:TypeId}{cs:Array Value}(h:HasC W b t cs)(hg:W.grownBy W' row)(hne:some b≠row):HasC W' b t cs:=(hg.block b h.lt hne).trans h
theorem HasC.alloc {W:World}{b:Nat}{t:TypeId}{cs:Array Value}(h:HasC W b t cs)(o:Obj):HasC (W.alloc o) b t cs:=h.kept (World.grownBy_alloc W o none) (by simp)
theorem HasC.below {W W':World}{b:Nat}{t:TypeId}{cs:Array Value}(h:HasC W b t cs)(hb:Below W.heap.size W W'):HasC W' b t cs:=(hb.block b h.lt).trans h
theorem HasC.cell {W:World}{b:Nat}{t:TypeId}{cs:Array Value}(h:HasC W b t cs)(i:Nat){v:Value}(hv:cs[i]?=some v):W.cell? ⟨b,i,none⟩=some v:=(cell_of_row W b i cs t (0,0) h).trans hv
theorem HasC.frozen {W:World}{b:Nat}{t:TypeId}{cs:Array Value}(h:HasC W b t cs)(i:Nat):W.frozen? ⟨b,i,none⟩=false:=by
 simp[World.frozen?,show W.heap[b]?=_ from h]
theorem HasC.other {W:World}{b:Nat}{t:TypeId}{cs:Array Value}(h:HasC W b t cs){p:Addr}(hne:b≠p.block)(u:Value):HasC (W.setCell p u) b t cs:=(Below.heap_setCell W p u b hne).trans h
theorem HasC.set {W:World}{b:Nat}{t:TypeId}{cs:Array Value}(h:HasC W b t cs)(i:Nat)(u:Value):HasC (W.setCell ⟨b,i,none⟩ u) b t (cs.setIfInBounds i u):=by
 obtain⟨hlt,hk⟩:=Array.getElem?_eq_some_iff.1 h
 show (W.heap.modify b _)[b]?=_
 rw[Array.getElem?_eq_getElem (by rw[Array.size_modify];exact hlt),Array.getElem_modify_self,hk]
 rfl
theorem facts3 {W:World}{b:Nat}{t:TypeId}{x y z:Value}(h:HasC W b t #[x,y,z]):W.cell? ⟨b,0,none⟩=some x/\W.cell? ⟨b,1,none⟩=some y/\W.cell? ⟨b,2,none⟩=some z :=
 ⟨h.cell 0 rfl,h.cell 1 rfl,h.cell 2 rfl⟩
theorem free3 {W:World}{b:Nat}{t:TypeId}{x y z:Value}(h:HasC W b t #[x,y,z]):W.frozen? ⟨b,0,none⟩=false/\W.frozen? ⟨b,1,none⟩=false/\W.frozen? ⟨b,2,none⟩=false :=
 ⟨h.frozen 0,h.frozen 1,h.frozen 2⟩
theorem below_drew (W:World):Below W.heap.size W W.drew:=⟨rfl,rfl,rfl,Nat.le_refl _,fun _ _=>rfl⟩
theorem cell_old {W:World}{o:Obj}{b i:Nat}(h:b < W.heap.size):(W.alloc o).cell? ⟨b,i,none⟩=W.cell? ⟨b,i,none⟩:=(bel1 W o).cell (p:=⟨b,i,none⟩) h
theorem far3 {W:World}{g b:Nat}{u v y x0 x1 x2:Value}(hb:b < g)(h0:W.cell? ⟨g,0,none⟩=some x0)(h1:W.cell? ⟨g,1,none⟩=some x1)(h2:W.cell? ⟨g,2,none⟩=some x2) :
  (((W.setCell ⟨b,0,none⟩ u).setCell ⟨b,1,none⟩ v).setCell ⟨b,2,none⟩ y).cell? ⟨g,0,none⟩=some x0/\(((W.setCell ⟨b,0,none⟩ u).setCell ⟨b,1,none⟩ v).setCell ⟨b,2,none⟩ y).cell? ⟨g,1,none⟩=some x1/\(((W.setCell ⟨b,0,none⟩ u).setCell ⟨b,1,none⟩ v).setCell ⟨b,2,none⟩ y).cell? ⟨g,2,none⟩=some x2:=by
 have h:(((W.setCell ⟨b,0,none⟩ u).setCell ⟨b,1,none⟩ v).setCell ⟨b,2,none⟩ y).heap[g]?=W.heap[g]? :=
  (Below.heap_setCell _ _ _ g (by simp;omega)).trans ((Below.heap_setCell _ _ _ g (by simp;omega)).trans (Below.heap_setCell _ _ _ g (by simp;omega)))
 exact⟨(World.cell?_of_block (a:=⟨g,0,none⟩) h).trans h0,(World.cell?_of_block (a:=⟨g,1,none⟩) h).trans h1,(World.cell?_of_block (a:=⟨g,2,none⟩) h).trans h2⟩
theorem stored3 {w w2:World}{b:Nat}{t:TypeId}{p q r:Value}(h:HasC w2 b t #[p,q,r])(hB:Below w.heap.size w w2)(hb:w.heap.size<=b)(x:Int)(y:ByteArray)(z:Int) :
  (((w2.setCell ⟨b,0,none⟩ (.int .i64 x)).setCell ⟨b,1,none⟩ (.string y)).setCell ⟨b,2,none⟩ (.int .i64 z)).cell? ⟨b,0,none⟩=some (.int .i64 x) /\
  (((w2.setCell ⟨b,0,none⟩ (.int .i64 x)).setCell ⟨b,1,none⟩ (.string y)).setCell ⟨b,2,none⟩ (.int .i64 z)).cell? ⟨b,1,none⟩=some (.string y) /\
  (((w2.setCell ⟨b,0,none⟩ (.int .i64 x)).setCell ⟨b,1,none⟩ (.string y)).setCell ⟨b,2,none⟩ (.int .i64 z)).cell? ⟨b,2,none⟩=some (.int .i64 z) /\
  Below w.heap.size w (((w2.setCell ⟨b,0,none⟩ (.int .i64 x)).setCell ⟨b,1,none⟩ (.string y)).setCell ⟨b,2,none⟩ (.int .i64 z)):=by
 have h3:=((h.set 0 (.int .i64 x)).set 1 (.string y)).set 2 (.int .i64 z)
 exact⟨h3.cell 0 rfl,h3.cell 1 rfl,h3.cell 2 rfl,((hB.setCell (by exact hb) _).setCell (by exact hb) _).setCell (by exact hb) _⟩
abbrev tc (k:Int)(s:ByteArray)(p:Int):Array Value:=#[.int .i64 k,.string s,.int .i64 p]
theorem may_any (k:Int)(s:ByteArray)(p:Int)(w:World)(hs:s.size<=maxLen) :
  Calls Tryz.prog 89 #[.agg (tc k s p)] w fun e w'=>e=.returned (.bool (may k (bs s)))/\Below w.heap.size w w':=by
 have HB:=hide (bel1 w (.cells (tc k s p) 109))
 have hs':=hide hs
 clear hs
 by_cases h1:k=1
 ·subst h1
  rw[show may 1 (bs s)=num (bs s) from rfl]
  go_enter Tryz.func89,Tryz.ntmps89
  go_wp2_with fail
  refine(number_any _ _ hs'.out).mono ?_
  rintro e w' ⟨rfl,rfl⟩
  go_wp2_with fail
  go_ret
  exact⟨rfl,HB.out⟩
 ·by_cases h2:k=2
  ·subst h2
   rw[show may 2 (bs s)=wrd (bs s) from rfl]
   clear h1
   go_enter Tryz.func89,Tryz.ntmps89
   go_wp2_with fail
   refine(word_any _ _ hs'.out).mono ?_
   rintro e w' ⟨rfl,rfl⟩
   go_wp2_with fail
   go_ret
   exact⟨rfl,HB.out⟩
  ·have e1:(k==1)=false:=by simp[h1]
   have e2:(k==2)=false:=by simp[h2]
   have hm:=hide (show may k (bs s)=!s.toList.isEmpty by
    unfold may
    rw[if_neg h1,if_neg h2,toList_bs])
   clear h1 h2
   go_enter Tryz.func89,Tryz.ntmps89
   go_wp2_with fail
   go_ret
   exact⟨ret_bool hm.out.symm,HB.out⟩
theorem bs_to (s:ByteArray)(k:Nat):bs (s.extract 0 k)=(bs s).take k:=by
 show (s.extract 0 k).data.toList=_
 rw[ByteArray.data_extract]
 simp
theorem takeWhile_le (p:UInt8->Bool)(l:List UInt8):rn p l<=l.length:=by
 have h:=congrArg List.length (takeWhile_split p l)
 rw[List.length_append] at h
 unfold rn
 omega
theorem mk_le {l:List UInt8}(h:l≠[]):mk l<=l.length:=by
 unfold mk
 split
 ·rename_i h2
  have h3:(l.take 2).length=2:=by rcases contains_two h2 with h|h|h|h|h|h <;> rw[h] <;> rfl
  rw[List.length_take] at h3
  omega
 ·cases l with
  | nil=>exact absurd rfl h
  | cons a l=>split <;> simp
theorem sz_le {l:List UInt8}(h:l≠[]):sz l<=l.length:=by
 unfold sz
 split
 ·exact takeWhile_le _ _
 ·split
  ·exact takeWhile_le _ _
  ·exact mk_le h
theorem begun_any (s:ByteArray)(w:World)(h0:0 < s.size)(hs:s.size<=1024) :
  Calls Tryz.prog 59 #[.string s] w fun e w'=>e=.returned (.tuple #[.agg (tc (kd (bs s)) (s.extract 0 (sz (bs s))) 0),.bool (gd (bs s))])/\Below w.heap.size w w':=by
 have HL:=hide fun w=>longest_any s w h0 (by unfold maxLen;omega)
 have hz1:sz (bs s)<=s.size:=by
  rw[<-bs_len]
  refine sz_le ?_
  obtain⟨t,ht⟩:=bs_cons h0
  rw[ht];simp
 have hg:=hide (show gd (bs s)=may (kd (bs s)) (bs (s.extract 0 (sz (bs s)))) by rw[bs_to];rfl)
 obtain⟨k,hk⟩:∃ k,kd (bs s)=k:=⟨_,rfl⟩
 obtain⟨n,hn⟩:∃ n,sz (bs s)=n:=⟨_,rfl⟩
 rw[hk,hn] at HL hg ⊢
 rw[hn] at hz1
 clear hk hn
 obtain⟨T,hT⟩:∃ T,s.extract 0 n=T:=⟨_,rfl⟩
 have hTs:T.size<=1024:=by
  rw[<-hT];simp;omega
 have HC:=hide fun w=>clone_any T w (by omega)
 have HM:=hide fun w=>may_any k T 0 w (by unfold maxLen;omega)
 rw[hT] at hg ⊢
 rw[hg.out]
 clear hg hTs
 have H0:=hide (bel1 w (.cells (tc 0 ⟨#[]⟩ 0) 109))
 go_enter Tryz.func59,Tryz.ntmps59
 go_wp2_with fail
 refine(HL.out _).mono ?_
 rintro e w1 ⟨rfl,rfl⟩
 go_wp2_with fail
 refine(HC.out _).mono ?_
 rintro e w2 ⟨rfl,hb2⟩
 have HR:=hide ((HasC.new w 109 (tc 0 ⟨#[]⟩ 0)).below hb2)
 have HB:=hide (bel H0.out hb2)
 clear hb2 HC H0 HL
 go_wp2_with fail
 have HW:=hide (HasC.new w2 109 (tc k T 0))
 have HR2:=hide (HR.out.alloc (.cells (tc k T 0) 109))
 have HB2:=hide (bel HB.out (bel1 w2 (.cells (tc k T 0) 109)))
 have hl:=HR.out.lt
 obtain⟨W,hW⟩:∃ W,w2.alloc (.cells #[.int .i64 k,.string T,.int .i64 0] 109)=W:=⟨_,rfl⟩
 obtain⟨g,hg⟩:∃ g,w2.heap.size=g:=⟨_,rfl⟩
 rw[hW,hg] at HW
 rw[hW] at HR2 HB2 ⊢
 rw[hg] at hl ⊢
 clear hW hg HR HB hT h0 hs hz1
 obtain⟨d0,d1,d2⟩:=facts3 HW.out
 go_region_held3 (fun w'=>w'.cell? ⟨g,0,none⟩=some (.int .i64 k)/\w'.cell? ⟨g,1,none⟩=some (.string T)/\w'.cell? ⟨g,2,none⟩=some (.int .i64 0))
  (first|exact⟨d0,d1,d2⟩|exact⟨t0,t1,t2⟩|exact far3 hl t0 t1 t2|go_keep)
  ((first
   | (go_at_call 89;refine(HM.out _).mono ?_;rintro e' w3 ⟨rfl,hb3⟩;have hb4:=bel (below_drew W) hb3;obtain⟨t0,t1,t2⟩:=facts3 (HW.out.below hb4);have HR3:=hide (HR2.out.below hb4);have HB3:=hide (bel HB2.out hb4);obtain⟨s0,s1,s2⟩:=facts3 HR3.out;obtain⟨z0,z1,z2⟩:=free3 HR3.out)))
 go_wp2_with fail
 obtain⟨e0,e1,e2,hB4⟩:=stored3 HR3.out HB3.out (Nat.le_refl _) k T 0
 exact bodyPost_ret (v:=.tuple #[.agg (tc k T 0),.bool (may k (bs T))]) (by simp[results,Tryz.results59,go_sem,e0,e1,e2]) rfl ⟨rfl,hB4⟩
end Go.Proofs.YtngnnijpdjhelaaGreat
