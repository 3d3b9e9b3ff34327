import Derived.Deep.Cut
import Derived.Test.YtimdcmponhcngaaGreatX27
namespace Go.Proofs.YtimdcmponhcngaaGreat
open Go.RowKit Go.IntWalk Lx Pz
set_option linter.unusedVariables false
set_option maxRecDepth 100000
set_option maxHeartbeats 16000000
theorem foldl_pow:∀(r:List UInt8) (n:Int),r.all D=true->1<=n->10 ^ r.length*n<=r.foldl (fun n c=>10*n+((c.toNat:Int)-48)) n
 | [],n,_,_=>by simp
 | c::r,n,h,hn=>by
  simp only[List.all_cons,Bool.and_eq_true] at h
  have hc:=D_iff.1 h.1
  have:=foldl_pow r (10*n+((c.toNat:Int)-48)) h.2 (by omega)
  simp only[List.foldl_cons,List.length_cons]
  have h2:(10:Int) ^ r.length*(10*n)<=10 ^ r.length*(10*n+((c.toNat:Int)-48)):=Int.mul_le_mul_of_nonneg_left (by omega) (Int.pow_nonneg (by decide))
  rw[Int.pow_succ,Int.mul_assoc]
  omega
theorem num_len {s:Txt}(h:num s=true):s.length<=10:=by
 cases s with
 | nil=>simp
 | cons c r =>
  have hd:(c::r).all D=true:=by simp only[num,Bool.and_eq_true] at h;exact h.1.1.2
  have hv:vl (c::r)<=2147483647:=by simp only[num,Bool.and_eq_true,decide_eq_true_eq] at h;exact h.2
  have hz:((c::r).headD 0==48&&decide (1 < (c::r).length))=false:=by simp only[num,Bool.and_eq_true,Bool.not_eq_true'] at h;exact h.1.2
  cases r with
  | nil=>simp
  | cons d r =>
   have h1:c≠48:=by
    intro e;subst e;simp at hz
   have hc:=D_iff.1 (by simp at hd;exact hd.1:D c=true)
   have h48:(c.toNat:Int)≠48:=fun e=>h1 (UInt8.toNat_inj.1 (by simpa using (by omega:c.toNat=48)))
   have h2:10 ^ (d::r).length*((c.toNat:Int)-48)<=vl (c::d::r):=by
    have:=foldl_pow (d::r) ((c.toNat:Int)-48) (by simp at hd ⊢;exact hd.2) (by omega)
    have e:vl (c::d::r)=(d::r).foldl (fun n c=>10*n+((c.toNat:Int)-48)) ((c.toNat:Int)-48):=by simp[vl]
    rw[e];exact this
   rcases Nat.lt_or_ge (d::r).length 10 with hl|hl
   ·simp at hl ⊢;omega
   ·exfalso
    have h3:(10:Int) ^ 10<=10 ^ (d::r).length:=by
     have:=Nat.pow_le_pow_right (n:=10) (by decide) hl
     exact_mod_cast this
    have h4:(10:Int) ^ (d::r).length*1<=10 ^ (d::r).length*((c.toNat:Int)-48):=Int.mul_le_mul_of_nonneg_left (by omega) (Int.pow_nonneg (by decide))
    have:(10:Int) ^ 10=10000000000:=by decide
    omega
theorem wf_len {t:Tok}(h:Wf t):t.text.length<=16:=by
 rcases h with⟨hk,hn⟩|⟨hk,hn⟩|⟨hk,hn⟩
 ·have:=num_len hn;omega
 ·simp only[wrd,Bool.and_eq_true,decide_eq_true_eq] at hn;exact hn.1.1.2
 ·have key:∀ a ∈ marks.map (·.1),a.length<=16:=by decide
  exact key _ hn
theorem sB_size (l:List UInt8):(sB l).size=l.length:=by simp[ByteArray.size]
def NumP (w W:World)(b:Nat)(T:List Tok)(NM:List Txt)(BS:List Int)(NS:List Nd)(e:Ending)(W':World):Prop :=
 ((∀ v r,T.map ab≠.num v::r)/\e=pan/\Below w.heap.size w W')\/(∃ v t T',T=t::T'/\ab t=.num v/\e=.returned (.int .i64 v)/\(∃ m',Rd w W' b m' T' NM BS NS)/\Kp SX W W')
theorem nv_of {s:Txt}(h:num s=true):nv s=vl s:=by unfold nv;rw[if_pos h]
theorem number_rd {w W:World}{b:Nat}{m:Mm}{T:List Tok}{NM:List Txt}{BS:List Int}{NS:List Nd}(h:Rd w W b m T NM BS NS) :
  Calls Tryz.prog 175 #[ptr b] W fun e W'=>NumP w W b T NM BS NS e W':=by
 have HW:=hide h
 have F1:=fldT1
 clear h
 go_enter Tryz.func175,Tryz.ntmps175
 go_wp2_with fail
 refine(next_any HW.out).mono ?_
 rintro e W1 (⟨rfl,rfl,hb⟩|⟨t,T',rfl,hwf,rfl,hR,hk⟩)
 ·have HB:=hide hb
  clear hb
  go_wp2_with fail
  exact⟨rfl,.inl ⟨fun v r e=>by simp at e,rfl,HB.out⟩⟩
 ·have HR:=hide hR
  have HK:=hide hk
  have HWf:=hide hwf
  have hn:=fun w=>number_any (sB t.text) w (by rw[sB_size];have:=wf_len hwf;unfold maxLen;omega)
  rw[bs_sB] at hn
  have HN:=hide hn
  clear hR hk hwf hn
  by_cases hv:∃ v,ab t=.num v
  ·obtain⟨v,hv⟩:=hv
   obtain⟨h1,h2,h3⟩:=kind1 HWf.out hv
   rw[nv_of h2,h2,h3] at HN
   have HV:=hide hv
   clear h1 h2 h3 hv
   go_wp2_with fail
   refine(HN.out _).mono ?_
   rintro e W2 ⟨rfl,rfl⟩
   go_wp2_with fail
   go_ret
   exact .inr ⟨v,t,T',rfl,HV.out,rfl,HR.out,HK.out⟩
  ·have hv':∀ v,ab t≠.num v:=fun v e=>hv ⟨v,e⟩
   rw[num_no_mark HWf.out hv'] at HN
   have HV:=hide hv'
   clear hv hv'
   go_wp2_with fail
   refine(HN.out _).mono ?_
   rintro e W2 ⟨rfl,rfl⟩
   go_wp2_with fail
   obtain⟨m',hm'⟩:=HR.out
   exact⟨rfl,.inl ⟨fun v r e=>by simp at e;exact HV.out v e.1,rfl,hm'.old⟩⟩
def OffP (w W:World)(b:Nat)(T:List Tok)(NM:List Txt)(BS:List Int)(NS:List Nd)(e:Ending)(W':World):Prop :=
 (off (T.map ab)=none/\e=pan/\Below w.heap.size w W')\/(∃ x P T',off (T.map ab)=some (x,T'.map ab)/\T=P++T'/\e=.returned (.int .i64 x)/\(∃ m',Rd w W' b m' T' NM BS NS)/\Kp SX W W')
theorem off_none {l:List Tk}(h1:∀ v r,l≠.num v::r)(h2:l.head?≠some (.op 5 9)):off l=none:=by
 unfold off
 split
 ·exact absurd rfl (h1 _ _)
 ·rename_i k o v r
  split
  ·rename_i hk
   obtain⟨rfl,rfl⟩:=hk
   exact absurd rfl h2
  ·rfl
 ·rfl
theorem off_minus {l:List Tk}(h:∀ v r,l≠.num v::r):off (.op 5 9::l)=none:=by
 unfold off
 split
 ·rename_i heq;cases heq
 ·rename_i heq;cases heq;exact absurd rfl (h _ _)
 ·rfl
theorem offset_rd {w W:World}{b:Nat}{m:Mm}{T:List Tok}{NM:List Txt}{BS:List Int}{NS:List Nd}(h:Rd w W b m T NM BS NS) :
  Calls Tryz.prog 190 #[ptr b] W fun e W'=>OffP w W b T NM BS NS e W':=by
 have HW:=hide h
 have hw:=h.wf
 clear h
 by_cases hm:(T.map ab).head?=some (.op 5 9)
 ·obtain⟨r,hr⟩:∃ r,T.map ab=.op 5 9::r:=by
   cases hT:T.map ab with
   | nil=>rw[hT] at hm;cases hm
   | cons a r=>rw[hT] at hm;simp at hm;exact⟨r,by rw[hm]⟩
  obtain⟨t,T1,rfl,ht,hr1⟩:=hd_eq (s:=[45]) hw (by decide) (r:=r) hr
  have HH:=hide (show ab t=.op 5 9 from(text_iff (hw t (by simp)) (s:=[45]) (by decide)).1 ht)
  have ht:=hide ht
  clear hm hr hr1 hw
  go_enter Tryz.func190,Tryz.ntmps190
  go_wp2_with fail
  refine(pass_yes HW.out _ ht.out).mono ?_
  rintro e W1 ⟨rfl,⟨m1,hR⟩,hk⟩
  have HR:=hide hR
  have HK:=hide hk
  clear hR hk
  go_wp2_with fail
  refine(number_rd HR.out).mono ?_
  rintro e W2 (⟨hn,rfl,hb⟩|⟨v,t2,T2,rfl,hv,rfl,hR,hk⟩)
  ·have HB:=hide hb
   have hn:=hide hn
   clear hb
   go_wp2_with fail
   exact⟨rfl,.inl ⟨by rw[List.map_cons,HH.out];exact off_minus hn.out,rfl,HB.out⟩⟩
  ·have HR2:=hide hR
   have HK2:=hide (HK.out.trans hk)
   have hv:=hide hv
   have hb:=hide (show 0<=v/\v<=2147483647 by
    obtain⟨-,h2,h3⟩:=kind1 (HR.out.wf t2 (by simp)) hv.out
    simp only[num,Bool.and_eq_true,decide_eq_true_eq] at h2
    rw[<-h3]
    exact⟨vl_nonneg h2.1.1.2,h2.2⟩)
   obtain⟨v0,v1⟩:=hb.out
   clear hR hk
   go_wp2_with fail
   go_ret
   exact .inr ⟨-v,[t,t2],T2,by simp[HH.out,hv.out,off],rfl,rfl,HR2.out,HK2.out⟩
 ·have hs:=hide (hd_ne (s:=[45]) hw (by decide) hm)
  have hm:=hide hm
  clear hw
  go_enter Tryz.func190,Tryz.ntmps190
  go_wp2_with fail
  refine(pass_no HW.out _ hs.out).mono ?_
  rintro e W1 ⟨rfl,hb⟩
  have HR:=hide (HW.out.later hb)
  have HK:=hide (Kp.of_below SX hb)
  clear hb
  go_wp2_with fail
  refine(number_rd HR.out).mono ?_
  rintro e W2 (⟨hn,rfl,hb⟩|⟨v,t2,T2,rfl,hv,rfl,hR,hk⟩)
  ·have HB:=hide hb
   have hn:=hide hn
   clear hb
   go_wp2_with fail
   exact⟨rfl,.inl ⟨off_none hn.out hm.out,rfl,HB.out⟩⟩
  ·have HR2:=hide hR
   have HK2:=hide (HK.out.trans hk)
   have hv:=hide hv
   clear hR hk
   go_wp2_with fail
   go_ret
   exact .inr ⟨v,[t2],T2,by simp[hv.out,off],rfl,rfl,HR2.out,HK2.out⟩
end Go.Proofs.YtimdcmponhcngaaGreat
namespace Go.Proofs.YtimdcmponhcngaaGreat
open Go.RowKit Go.IntWalk Lx Pz
set_option linter.unusedVariables false
theorem Kp.store_new {S:List TypeId}{W V:World}(h:Kp S W V){p:Addr}(hp:W.heap.size<=p.block)(u:Value):Kp S W (V.setCell p u) :=
 ⟨by have:=h.size;simp[World.setCell];omega,fun k cs t fr hk ht=>(Below.heap_setCell V p u k (by have:=(Array.getElem?_eq_some_iff.1 hk).1;omega)).trans (h.block k cs t fr hk ht)⟩
theorem Rd.kp {w W W':World}{b:Nat}{m:Mm}{T:List Tok}{NM:List Txt}{BS:List Int}{NS:List Nd}(h:Rd w W b m T NM BS NS){t:TypeId}(hk:Kp [t] W W')(ht:t≠86/\t≠113/\t≠9/\t≠3/\t≠69)(hb:Below w.heap.size w W'):Rd w W' b m T NM BS NS:=by
 obtain⟨h1,h2,h3,h4,h5⟩:=ht
 exact⟨h.blk.kp hk (by simpa using Ne.symm h1),h.base,h.toks.kp hk (by simpa using Ne.symm h2),owns_kp h.names hk (by simpa using Ne.symm h3),owns_kp h.binds hk (by simpa using Ne.symm h4),owns_kp h.nodes hk (by simpa using Ne.symm h5),h.wf,hb⟩
structure Pl (w W V:World)(b:Nat)(T:List Tok)(NM:List Txt)(BS:List Int)(NS:List Nd)(q:Nat)(ty:TypeId)(cs:Array Value):Prop where
 rd:∃ m,Rd w V b m T NM BS NS
 kp:Kp SX W V
 va:HasC V q ty cs
 q0:W.heap.size<=q
 w0:w.heap.size<=W.heap.size
theorem Pl.store {w W V:World}{b:Nat}{T:List Tok}{NM:List Txt}{BS:List Int}{NS:List Nd}{q:Nat}{ty:TypeId}{cs:Array Value}(h:Pl w W V b T NM BS NS q ty cs)(ht:ty≠86/\ty≠113/\ty≠9/\ty≠3/\ty≠69)(i:Nat)(u:Value) :
  Pl w W (V.setCell ⟨q,i,none⟩ u) b T NM BS NS q ty (cs.setIfInBounds i u):=by
 obtain⟨m,hm⟩:=h.rd
 exact⟨⟨m,hm.kp (Kp.set h.va (by simp) i u) ht (hm.old.setCell (by have:=h.q0;have:=h.w0;show w.heap.size<=q;omega) u)⟩,h.kp.store_new h.q0 u,h.va.set i u,h.q0,h.w0⟩
theorem Pl.step {w W V V':World}{b:Nat}{T T':List Tok}{NM:List Txt}{BS:List Int}{NS NS':List Nd}{q:Nat}{ty:TypeId}{cs:Array Value}(h:Pl w W V b T NM BS NS q ty cs)(ht:ty≠86/\ty≠113/\ty≠9/\ty≠3/\ty≠69)
  (hr:∃ m,Rd w V' b m T' NM BS NS') (hk:Kp SX V V'):Pl w W V' b T' NM BS NS' q ty cs :=
 ⟨hr,h.kp.trans hk,h.va.kp hk (by obtain⟨h1,h2,h3,h4,h5⟩:=ht;simp[h1,h5]),h.q0,h.w0⟩
theorem Pl.later {w W V V':World}{b:Nat}{T:List Tok}{NM:List Txt}{BS:List Int}{NS:List Nd}{q:Nat}{ty:TypeId}{cs:Array Value}(h:Pl w W V b T NM BS NS q ty cs)(hb:Below V.heap.size V V'):Pl w W V' b T NM BS NS q ty cs:=by
 obtain⟨m,hm⟩:=h.rd
 exact⟨⟨m,hm.later hb⟩,h.kp.trans (Kp.of_below SX hb),h.va.below hb,h.q0,h.w0⟩
theorem Pl.begin {w W:World}{b:Nat}{m:Mm}{T:List Tok}{NM:List Txt}{BS:List Int}{NS:List Nd}(h:Rd w W b m T NM BS NS)(ty:TypeId)(cs:Array Value):Pl w W (W.alloc (.cells cs ty)) b T NM BS NS W.heap.size ty cs :=
 ⟨⟨m,h.later (bel1 _ _)⟩,Kp.of_below SX (bel1 _ _),HasC.new _ _ _,Nat.le_refl _,h.old.size⟩
def Ok (w W:World)(b:Nat)(T:List Tok)(NM:List Txt)(BS:List Int)(NS:List Nd)(res:Option (E × List Tk))(e:Ending)(W':World):Prop :=
 (res=none/\e=pan/\Below w.heap.size w W') \/
 (∃ ex P T',res=some (ex,T'.map ab)/\T=P++T'/\e=.returned (.int .i64 ((NS.length+ex.size:Nat)-1:Int))/\(∃ m',Rd w W' b m' T' NM BS (NS++ex.flat NS.length))/\Kp SX W W')
theorem ret_size {n:Nat}(e:E)(h:e.size=1):Ending.returned (.int .i64 n)=.returned (.int .i64 ((n+e.size:Nat)-1:Int)):=ret_int (by omega)
theorem hd_cons {T:List Tok}{x:Tk}(h:(T.map ab).head?=some x):∃ t T',T=t::T'/\ab t=x:=by
 cases T with
 | nil=>simp at h
 | cons t T=>simp at h;exact⟨t,T,rfl,h⟩
end Go.Proofs.YtimdcmponhcngaaGreat
namespace Go.Proofs.YtimdcmponhcngaaGreat
open Go.RowKit Go.IntWalk Lx Pz
set_option linter.unusedVariables false
set_option maxRecDepth 100000
set_option maxHeartbeats 16000000
theorem plc_nolp {q:Bool}{l:List Tk}(h:l.head?≠some .lp):plc q l=none:=by
 unfold plc
 split
 ·exact absurd rfl h
 ·rfl
theorem plc_q (v:Int)(l:List Tk)(h:¬v=0):plc true (.lp::.num v::.comma::l)=offs v l:=by simp[plc,h]
theorem plc_q0 (l:List Tk):plc true (.lp::.num 0::l)=none:=by
 simp only[plc,if_true]
 split
 ·rename_i heq;cases heq;simp
 ·rfl
theorem plc_qn {l:List Tk}(h:∀ v r,l≠.num v::r):plc true (.lp::l)=none:=by
 simp only[plc,if_true]
 split
 ·exact absurd rfl (h _ _)
 ·rfl
theorem plc_qc {v:Int}{l:List Tk}(h:l.head?≠some .comma):plc true (.lp::.num v::l)=none:=by
 simp only[plc,if_true]
 split
 ·rename_i heq;cases heq;exact absurd rfl h
 ·rfl
theorem offs_none {back:Int}{l:List Tk}(h:off l=none):offs back l=none:=by unfold offs;rw[h]
theorem offs_bad {back x:Int}{l r:List Tk}(h:off l=some (x,r))(h1:r.head?≠some .comma)(h2:r.head?≠some .rp):offs back l=none:=by
 unfold offs
 rw[h]
 split
 ·rename_i heq;cases heq;exact absurd rfl h2
 ·rename_i heq;cases heq;exact absurd rfl h1
 ·rfl
theorem offs_one {back x:Int}{l r:List Tk}(h:off l=some (x,.rp::r)):offs back l=some (.leaf (lf 3 0 back 1 x 0),r):=by unfold offs;rw[h]
theorem offs_two0 {back x:Int}{l r:List Tk}(h:off l=some (x,.comma::r))(h1:off r=none):offs back l=none:=by unfold offs;rw[h];simp only[h1]
theorem offs_two1 {back x y:Int}{l r r2:List Tk}(h:off l=some (x,.comma::r))(h1:off r=some (y,r2))(h2:r2.head?≠some .rp):offs back l=none:=by
 unfold offs
 rw[h]
 simp only[h1]
 split
 ·rename_i heq;cases heq;exact absurd rfl h2
 ·rfl
theorem offs_two {back x y:Int}{l r r2:List Tk}(h:off l=some (x,.comma::r))(h1:off r=some (y,.rp::r2)):offs back l=some (.leaf (lf 3 0 back 2 x y),r2):=by unfold offs;rw[h];simp only[h1]
abbrev pl4 (a b c d:Int):Array Value:=#[.int .i64 a,.int .i64 b,.int .i64 c,.int .i64 d]
theorem facts4 {W:World}{b:Nat}{t:TypeId}{x y z u:Value}(h:HasC W b t #[x,y,z,u]):W.cell? ⟨b,0,none⟩=some x/\W.cell? ⟨b,1,none⟩=some y/\W.cell? ⟨b,2,none⟩=some z/\W.cell? ⟨b,3,none⟩=some u :=
 ⟨h.cell 0 rfl,h.cell 1 rfl,h.cell 2 rfl,h.cell 3 rfl⟩
theorem free4 {W:World}{b:Nat}{t:TypeId}{x y z u:Value}(h:HasC W b t #[x,y,z,u]):W.frozen? ⟨b,0,none⟩=false/\W.frozen? ⟨b,1,none⟩=false/\W.frozen? ⟨b,2,none⟩=false/\W.frozen? ⟨b,3,none⟩=false :=
 ⟨h.frozen 0,h.frozen 1,h.frozen 2,h.frozen 3⟩
theorem place_p {w W:World}{b:Nat}{m:Mm}{T:List Tok}{NM:List Txt}{BS:List Int}{NS:List Nd}(h:Rd w W b m T NM BS NS)(h3:NS.length<=2000000) :
  Calls Tryz.prog 185 #[ptr b,.string ⟨#[112]⟩] W fun e W'=>Ok w W b T NM BS NS (plc false (T.map ab)) e W':=by
 have H3:=hide h3
 have hw:=hide h.wf
 have HP0:=hide (Pl.begin h 65 (pl4 0 0 0 0))
 clear h h3
 go_enter Tryz.func185,Tryz.ntmps185
 go_upto_region 2 with fail
 obtain⟨q,hq⟩:∃ q,W.heap.size=q:=⟨_,rfl⟩
 rw[hq] at HP0 ⊢
 generalize W.alloc (.cells (pl4 0 0 0 0) 65)=V0 at HP0 ⊢
 clear hq
 obtain⟨m0,hm0⟩:=HP0.out.rd
 have HM0:=hide hm0
 clear hm0
 by_cases hl:(T.map ab).head?=some .lp
 ·obtain⟨t1,T1,rfl,h1⟩:=hd_cons hl
  have hs1:=hide ((text_iff (hw.out t1 (by simp)) (s:=[40]) (by decide)).2 h1)
  have H1:=hide h1
  clear hl h1 hw
  go_wp2_with fail
  refine(need_yes HM0.out _ hs1.out).mono ?_
  rintro e V1 ⟨rfl,hR,hk⟩
  have HP:=hide (HP0.out.step (by decide) hR hk)
  clear hR hk HP0 HM0
  have HQ:=hide (show plc false ((t1::T1).map ab)=offs 0 (T1.map ab) by rw[List.map_cons,H1.out];rfl)
  obtain⟨m1,hm1⟩:=HP.out.rd
  have HM1:=hide hm1
  clear hm1
  go_wp2_with fail
  refine(offset_rd HM1.out).mono ?_
  rintro e V3 (⟨hn,rfl,hb⟩|⟨x,P3,T3,ho,rfl,rfl,hR,hk⟩)
  ·have HB:=hide hb
   have hn:=hide hn
   clear hb
   go_wp2_with fail
   exact⟨rfl,.inl ⟨HQ.out.trans (offs_none hn.out),rfl,HB.out⟩⟩
  ·have HO:=hide ho
   have HP3:=hide (HP.out.step (by decide) hR hk)
   clear hR hk ho
   obtain⟨c0,c1,c2,c3⟩:=facts4 HP3.out.va
   obtain⟨y0,y1,y2,y3⟩:=free4 HP3.out.va
   have HP4:=hide ((HP3.out.store (by decide) 1 (.int .i64 1)).store (by decide) 2 (.int .i64 x))
   have e4:((pl4 0 0 0 0).setIfInBounds 1 (.int .i64 1)).setIfInBounds 2 (.int .i64 x)=pl4 0 1 x 0:=rfl
   rw[e4] at HP4
   clear e4
   clear HP HP3 HM1
   go_upto_region 9 with fail
   generalize (V3.setCell ⟨q,1,none⟩ (.int .i64 1)).setCell ⟨q,2,none⟩ (.int .i64 x)=V4 at HP4 ⊢
   clear c0 c1 c2 c3 y0 y1 y2 y3
   obtain⟨m4,hm4⟩:=HP4.out.rd
   have hw4:=hide hm4.wf
   have HM4:=hide hm4
   clear hm4
   by_cases hc:(T3.map ab).head?=some .comma
   ·obtain⟨t5,T5,rfl,h5⟩:=hd_cons hc
    have hs5:=hide ((text_iff (hw4.out t5 (by simp)) (s:=[44]) (by decide)).2 h5)
    have H5:=hide h5
    clear hc h5 hw4
    go_wp2_with fail
    refine(pass_yes HM4.out _ hs5.out).mono ?_
    rintro e V5 ⟨rfl,hR,hk⟩
    have HP5:=hide (HP4.out.step (by decide) hR hk)
    clear hR hk HP4 HM4
    obtain⟨m5,hm5⟩:=HP5.out.rd
    have HM5:=hide hm5
    clear hm5
    go_wp2_with fail
    refine(offset_rd HM5.out).mono ?_
    rintro e V6 (⟨hn,rfl,hb⟩|⟨y,P6,T6,ho2,rfl,rfl,hR,hk⟩)
    ·have HB:=hide hb
     have hn:=hide hn
     clear hb
     go_wp2_with fail
     exact⟨rfl,.inl ⟨HQ.out.trans (offs_two0 (by rw[HO.out,List.map_cons,H5.out]) hn.out),rfl,HB.out⟩⟩
    ·have HO2:=hide ho2
     have HP6:=hide (HP5.out.step (by decide) hR hk)
     clear hR hk ho2
     obtain⟨c0,c1,c2,c3⟩:=facts4 HP6.out.va
     obtain⟨y0,y1,y2,y3⟩:=free4 HP6.out.va
     have HP7:=hide ((HP6.out.store (by decide) 1 (.int .i64 2)).store (by decide) 3 (.int .i64 y))
     have e7:((pl4 0 1 x 0).setIfInBounds 1 (.int .i64 2)).setIfInBounds 3 (.int .i64 y)=pl4 0 2 x y:=rfl
     rw[e7] at HP7
     clear e7 HP5 HP6 HM5
     go_upto_region 11 with fail
     generalize (V6.setCell ⟨q,1,none⟩ (.int .i64 2)).setCell ⟨q,3,none⟩ (.int .i64 y)=V7 at HP7 ⊢
     clear c0 c1 c2 c3 y0 y1 y2 y3
     obtain⟨m7,hm7⟩:=HP7.out.rd
     have hw7:=hide hm7.wf
     have HM7:=hide hm7
     clear hm7
     by_cases hr:(T6.map ab).head?=some .rp
     ·obtain⟨t8,T8,rfl,h8⟩:=hd_cons hr
      have hs8:=hide ((text_iff (hw7.out t8 (by simp)) (s:=[41]) (by decide)).2 h8)
      have H8:=hide h8
      clear hr h8 hw7
      go_wp2_with fail
      refine(need_yes HM7.out _ hs8.out).mono ?_
      rintro e V8 ⟨rfl,hR,hk⟩
      have HP8:=hide (HP7.out.step (by decide) hR hk)
      clear hR hk HP7 HM7
      obtain⟨m8,hm8⟩:=HP8.out.rd
      have HM8:=hide hm8
      clear hm8
      obtain⟨c0,c1,c2,c3⟩:=facts4 HP8.out.va
      go_wp2_with fail
      refine(node_any HM8.out (lf 3 0 0 2 x y) H3.out).mono ?_
      rintro e V9 ⟨rfl,hR,hk⟩
      have HR9:=hide hR
      have HK9:=hide (HP8.out.kp.trans hk)
      clear hR hk c0 c1 c2 c3
      go_wp2_with fail
      go_ret
      exact .inr ⟨_,t1::(P3++t5::(P6++[t8])),T8,HQ.out.trans (offs_two (by rw[HO.out,List.map_cons,H5.out]) (by rw[HO2.out,List.map_cons,H8.out])),by simp,ret_size _ rfl,HR9.out,HK9.out⟩
     ·have hs8:=hide (hd_ne (s:=[41]) hw7.out (by decide) hr)
      have HR:=hide hr
      clear hr hw7
      go_wp2_with fail
      refine(need_no HM7.out _ hs8.out).mono ?_
      rintro e V8 ⟨rfl,hb⟩
      have HB:=hide (bel HM7.out.old hb)
      clear hb
      go_wp2_with fail
      exact⟨rfl,.inl ⟨HQ.out.trans (offs_two1 (by rw[HO.out,List.map_cons,H5.out]) HO2.out HR.out),rfl,HB.out⟩⟩
   ·have hs5:=hide (hd_ne (s:=[44]) hw4.out (by decide) hc)
    have HC:=hide hc
    clear hc hw4
    go_wp2_with fail
    refine(pass_no HM4.out _ hs5.out).mono ?_
    rintro e V5 ⟨rfl,hb⟩
    have HP7:=hide (HP4.out.later hb)
    clear hb HP4 HM4 hs5
    obtain⟨m7,hm7⟩:=HP7.out.rd
    have hw7:=hide hm7.wf
    have HM7:=hide hm7
    clear hm7
    by_cases hr:(T3.map ab).head?=some .rp
    ·obtain⟨t8,T8,rfl,h8⟩:=hd_cons hr
     have hs8:=hide ((text_iff (hw7.out t8 (by simp)) (s:=[41]) (by decide)).2 h8)
     have H8:=hide h8
     clear hr h8 hw7
     go_wp2_with fail
     refine(need_yes HM7.out _ hs8.out).mono ?_
     rintro e V8 ⟨rfl,hR,hk⟩
     have HP8:=hide (HP7.out.step (by decide) hR hk)
     clear hR hk HP7 HM7
     obtain⟨m8,hm8⟩:=HP8.out.rd
     have HM8:=hide hm8
     clear hm8
     obtain⟨c0,c1,c2,c3⟩:=facts4 HP8.out.va
     go_wp2_with fail
     refine(node_any HM8.out (lf 3 0 0 1 x 0) H3.out).mono ?_
     rintro e V9 ⟨rfl,hR,hk⟩
     have HR9:=hide hR
     have HK9:=hide (HP8.out.kp.trans hk)
     clear hR hk c0 c1 c2 c3
     go_wp2_with fail
     go_ret
     exact .inr ⟨_,t1::(P3++[t8]),T8,HQ.out.trans (offs_one (by rw[HO.out,List.map_cons,H8.out])),by simp,ret_size _ rfl,HR9.out,HK9.out⟩
    ·have hs8:=hide (hd_ne (s:=[41]) hw7.out (by decide) hr)
     have HR:=hide hr
     clear hr hw7
     go_wp2_with fail
     refine(need_no HM7.out _ hs8.out).mono ?_
     rintro e V8 ⟨rfl,hb⟩
     have HB:=hide (bel HM7.out.old hb)
     clear hb
     go_wp2_with fail
     exact⟨rfl,.inl ⟨HQ.out.trans (offs_bad HO.out HC.out HR.out),rfl,HB.out⟩⟩
 ·have hs1:=hide (hd_ne (s:=[40]) hw.out (by decide) hl)
  have HL:=hide hl
  clear hl hw
  go_wp2_with fail
  refine(need_no HM0.out _ hs1.out).mono ?_
  rintro e V1 ⟨rfl,hb⟩
  have HB:=hide (bel HM0.out.old hb)
  clear hb
  go_wp2_with fail
  exact⟨rfl,.inl ⟨plc_nolp HL.out,rfl,HB.out⟩⟩
theorem place_q {w W:World}{b:Nat}{m:Mm}{T:List Tok}{NM:List Txt}{BS:List Int}{NS:List Nd}(h:Rd w W b m T NM BS NS)(h3:NS.length<=2000000) :
  Calls Tryz.prog 185 #[ptr b,.string ⟨#[113]⟩] W fun e W'=>Ok w W b T NM BS NS (plc true (T.map ab)) e W':=by
 have H3:=hide h3
 have hw:=hide h.wf
 have HP0:=hide (Pl.begin h 65 (pl4 0 0 0 0))
 clear h h3
 go_enter Tryz.func185,Tryz.ntmps185
 go_upto_region 2 with fail
 obtain⟨q,hq⟩:∃ q,W.heap.size=q:=⟨_,rfl⟩
 rw[hq] at HP0 ⊢
 generalize W.alloc (.cells (pl4 0 0 0 0) 65)=V0 at HP0 ⊢
 clear hq
 obtain⟨m0,hm0⟩:=HP0.out.rd
 have HM0:=hide hm0
 clear hm0
 by_cases hl:(T.map ab).head?=some .lp
 ·obtain⟨t1,T1,rfl,h1⟩:=hd_cons hl
  have hs1:=hide ((text_iff (hw.out t1 (by simp)) (s:=[40]) (by decide)).2 h1)
  have H1:=hide h1
  clear hl h1 hw
  go_wp2_with fail
  refine(need_yes HM0.out _ hs1.out).mono ?_
  rintro e V1 ⟨rfl,hR,hk⟩
  have HP:=hide (HP0.out.step (by decide) hR hk)
  clear hR hk HP0 HM0
  have HQ1:=hide (show ((t1::T1).map ab)=.lp::T1.map ab by rw[List.map_cons,H1.out])
  obtain⟨m1,hm1⟩:=HP.out.rd
  have HM1:=hide hm1
  clear hm1
  go_wp2_with fail
  refine(number_rd HM1.out).mono ?_
  rintro e V2 (⟨hn,rfl,hb⟩|⟨v,t2,T2,rfl,hv,rfl,hR,hk⟩)
  ·have HB:=hide hb
   have hn:=hide hn
   clear hb
   go_wp2_with fail
   exact⟨rfl,.inl ⟨by rw[HQ1.out];exact plc_qn hn.out,rfl,HB.out⟩⟩
  ·have HV:=hide hv
   have HP2:=hide (HP.out.step (by decide) hR hk)
   clear hR hk hv HM1 HP
   obtain⟨c0,c1,c2,c3⟩:=facts4 HP2.out.va
   obtain⟨y0,y1,y2,y3⟩:=free4 HP2.out.va
   have HP3:=hide (HP2.out.store (by decide) 0 (.int .i64 v))
   have e3:(pl4 0 0 0 0).setIfInBounds 0 (.int .i64 v)=pl4 v 0 0 0:=rfl
   rw[e3] at HP3
   clear e3 HP2
   go_upto_region 5 with fail
   generalize V2.setCell ⟨q,0,none⟩ (.int .i64 v)=V3 at HP3 ⊢
   clear c0 c1 c2 c3 y0 y1 y2 y3
   obtain⟨c0,c1,c2,c3⟩:=facts4 HP3.out.va
   have HQ2:=hide (show ((t1::t2::T2).map ab)=.lp::.num v::T2.map ab by rw[HQ1.out,List.map_cons,HV.out])
   by_cases hz:v=0
   ·subst hz
    have hold:=HP3.out.rd
    have HB:=hide (show Below w.heap.size w V3 from by obtain⟨m,hm⟩:=HP3.out.rd;exact hm.old)
    go_wp2_with fail
    exact⟨rfl,.inl ⟨by rw[HQ2.out];exact plc_q0 _,rfl,HB.out⟩⟩
   ·have hz':(v==0)=false:=by simpa using hz
    have HZ:=hide hz
    clear hz
    obtain⟨m3,hm3⟩:=HP3.out.rd
    have HM3:=hide hm3
    have hw3:=hide hm3.wf
    clear hm3
    by_cases hc2:(T2.map ab).head?=some .comma
    ·obtain⟨t3,T3',rfl,h3⟩:=hd_cons hc2
     have hs3:=hide ((text_iff (hw3.out t3 (by simp)) (s:=[44]) (by decide)).2 h3)
     have H3':=hide h3
     clear hc2 h3 hw3
     go_wp2_with fail
     refine(need_yes HM3.out _ hs3.out).mono ?_
     rintro e V4' ⟨rfl,hR,hk⟩
     have HP:=hide (HP3.out.step (by decide) hR hk)
     clear hR hk HP3 HM3 c0 c1 c2 c3 hz'
     have HQ:=hide (show plc true ((t1::t2::t3::T3').map ab)=offs v (T3'.map ab) by rw[HQ2.out,List.map_cons,H3'.out];exact plc_q v _ HZ.out)
     obtain⟨m1,hm1⟩:=HP.out.rd
     have HM1:=hide hm1
     clear hm1
     go_wp2_with fail
     refine(offset_rd HM1.out).mono ?_
     rintro e V3 (⟨hn,rfl,hb⟩|⟨x,P3,T3,ho,rfl,rfl,hR,hk⟩)
     ·have HB:=hide hb
      have hn:=hide hn
      clear hb
      go_wp2_with fail
      exact⟨rfl,.inl ⟨HQ.out.trans (offs_none hn.out),rfl,HB.out⟩⟩
     ·have HO:=hide ho
      have HP3:=hide (HP.out.step (by decide) hR hk)
      clear hR hk ho
      obtain⟨c0,c1,c2,c3⟩:=facts4 HP3.out.va
      obtain⟨y0,y1,y2,y3⟩:=free4 HP3.out.va
      have HP4:=hide ((HP3.out.store (by decide) 1 (.int .i64 1)).store (by decide) 2 (.int .i64 x))
      have e4:((pl4 v 0 0 0).setIfInBounds 1 (.int .i64 1)).setIfInBounds 2 (.int .i64 x)=pl4 v 1 x 0:=rfl
      rw[e4] at HP4
      clear e4
      clear HP HP3 HM1
      go_upto_region 9 with fail
      generalize (V3.setCell ⟨q,1,none⟩ (.int .i64 1)).setCell ⟨q,2,none⟩ (.int .i64 x)=V4 at HP4 ⊢
      clear c0 c1 c2 c3 y0 y1 y2 y3
      obtain⟨m4,hm4⟩:=HP4.out.rd
      have hw4:=hide hm4.wf
      have HM4:=hide hm4
      clear hm4
      by_cases hc:(T3.map ab).head?=some .comma
      ·obtain⟨t5,T5,rfl,h5⟩:=hd_cons hc
       have hs5:=hide ((text_iff (hw4.out t5 (by simp)) (s:=[44]) (by decide)).2 h5)
       have H5:=hide h5
       clear hc h5 hw4
       go_wp2_with fail
       refine(pass_yes HM4.out _ hs5.out).mono ?_
       rintro e V5 ⟨rfl,hR,hk⟩
       have HP5:=hide (HP4.out.step (by decide) hR hk)
       clear hR hk HP4 HM4
       obtain⟨m5,hm5⟩:=HP5.out.rd
       have HM5:=hide hm5
       clear hm5
       go_wp2_with fail
       refine(offset_rd HM5.out).mono ?_
       rintro e V6 (⟨hn,rfl,hb⟩|⟨y,P6,T6,ho2,rfl,rfl,hR,hk⟩)
       ·have HB:=hide hb
        have hn:=hide hn
        clear hb
        go_wp2_with fail
        exact⟨rfl,.inl ⟨HQ.out.trans (offs_two0 (by rw[HO.out,List.map_cons,H5.out]) hn.out),rfl,HB.out⟩⟩
       ·have HO2:=hide ho2
        have HP6:=hide (HP5.out.step (by decide) hR hk)
        clear hR hk ho2
        obtain⟨c0,c1,c2,c3⟩:=facts4 HP6.out.va
        obtain⟨y0,y1,y2,y3⟩:=free4 HP6.out.va
        have HP7:=hide ((HP6.out.store (by decide) 1 (.int .i64 2)).store (by decide) 3 (.int .i64 y))
        have e7:((pl4 v 1 x 0).setIfInBounds 1 (.int .i64 2)).setIfInBounds 3 (.int .i64 y)=pl4 v 2 x y:=rfl
        rw[e7] at HP7
        clear e7 HP5 HP6 HM5
        go_upto_region 11 with fail
        generalize (V6.setCell ⟨q,1,none⟩ (.int .i64 2)).setCell ⟨q,3,none⟩ (.int .i64 y)=V7 at HP7 ⊢
        clear c0 c1 c2 c3 y0 y1 y2 y3
        obtain⟨m7,hm7⟩:=HP7.out.rd
        have hw7:=hide hm7.wf
        have HM7:=hide hm7
        clear hm7
        by_cases hr:(T6.map ab).head?=some .rp
        ·obtain⟨t8,T8,rfl,h8⟩:=hd_cons hr
         have hs8:=hide ((text_iff (hw7.out t8 (by simp)) (s:=[41]) (by decide)).2 h8)
         have H8:=hide h8
         clear hr h8 hw7
         go_wp2_with fail
         refine(need_yes HM7.out _ hs8.out).mono ?_
         rintro e V8 ⟨rfl,hR,hk⟩
         have HP8:=hide (HP7.out.step (by decide) hR hk)
         clear hR hk HP7 HM7
         obtain⟨m8,hm8⟩:=HP8.out.rd
         have HM8:=hide hm8
         clear hm8
         obtain⟨c0,c1,c2,c3⟩:=facts4 HP8.out.va
         go_wp2_with fail
         refine(node_any HM8.out (lf 3 0 v 2 x y) H3.out).mono ?_
         rintro e V9 ⟨rfl,hR,hk⟩
         have HR9:=hide hR
         have HK9:=hide (HP8.out.kp.trans hk)
         clear hR hk c0 c1 c2 c3
         go_wp2_with fail
         go_ret
         exact .inr ⟨_,t1::t2::t3::(P3++t5::(P6++[t8])),T8,HQ.out.trans (offs_two (by rw[HO.out,List.map_cons,H5.out]) (by rw[HO2.out,List.map_cons,H8.out])),by simp,ret_size _ rfl,HR9.out,HK9.out⟩
        ·have hs8:=hide (hd_ne (s:=[41]) hw7.out (by decide) hr)
         have HR:=hide hr
         clear hr hw7
         go_wp2_with fail
         refine(need_no HM7.out _ hs8.out).mono ?_
         rintro e V8 ⟨rfl,hb⟩
         have HB:=hide (bel HM7.out.old hb)
         clear hb
         go_wp2_with fail
         exact⟨rfl,.inl ⟨HQ.out.trans (offs_two1 (by rw[HO.out,List.map_cons,H5.out]) HO2.out HR.out),rfl,HB.out⟩⟩
      ·have hs5:=hide (hd_ne (s:=[44]) hw4.out (by decide) hc)
       have HC:=hide hc
       clear hc hw4
       go_wp2_with fail
       refine(pass_no HM4.out _ hs5.out).mono ?_
       rintro e V5 ⟨rfl,hb⟩
       have HP7:=hide (HP4.out.later hb)
       clear hb HP4 HM4 hs5
       obtain⟨m7,hm7⟩:=HP7.out.rd
       have hw7:=hide hm7.wf
       have HM7:=hide hm7
       clear hm7
       by_cases hr:(T3.map ab).head?=some .rp
       ·obtain⟨t8,T8,rfl,h8⟩:=hd_cons hr
        have hs8:=hide ((text_iff (hw7.out t8 (by simp)) (s:=[41]) (by decide)).2 h8)
        have H8:=hide h8
        clear hr h8 hw7
        go_wp2_with fail
        refine(need_yes HM7.out _ hs8.out).mono ?_
        rintro e V8 ⟨rfl,hR,hk⟩
        have HP8:=hide (HP7.out.step (by decide) hR hk)
        clear hR hk HP7 HM7
        obtain⟨m8,hm8⟩:=HP8.out.rd
        have HM8:=hide hm8
        clear hm8
        obtain⟨c0,c1,c2,c3⟩:=facts4 HP8.out.va
        go_wp2_with fail
        refine(node_any HM8.out (lf 3 0 v 1 x 0) H3.out).mono ?_
        rintro e V9 ⟨rfl,hR,hk⟩
        have HR9:=hide hR
        have HK9:=hide (HP8.out.kp.trans hk)
        clear hR hk c0 c1 c2 c3
        go_wp2_with fail
        go_ret
        exact .inr ⟨_,t1::t2::t3::(P3++[t8]),T8,HQ.out.trans (offs_one (by rw[HO.out,List.map_cons,H8.out])),by simp,ret_size _ rfl,HR9.out,HK9.out⟩
       ·have hs8:=hide (hd_ne (s:=[41]) hw7.out (by decide) hr)
        have HR:=hide hr
        clear hr hw7
        go_wp2_with fail
        refine(need_no HM7.out _ hs8.out).mono ?_
        rintro e V8 ⟨rfl,hb⟩
        have HB:=hide (bel HM7.out.old hb)
        clear hb
        go_wp2_with fail
        exact⟨rfl,.inl ⟨HQ.out.trans (offs_bad HO.out HC.out HR.out),rfl,HB.out⟩⟩
    ·have hs3:=hide (hd_ne (s:=[44]) hw3.out (by decide) hc2)
     have HC2:=hide hc2
     clear hc2 hw3
     go_wp2_with fail
     refine(need_no HM3.out _ hs3.out).mono ?_
     rintro e V4 ⟨rfl,hb⟩
     have HB:=hide (bel HM3.out.old hb)
     clear hb
     go_wp2_with fail
     exact⟨rfl,.inl ⟨by rw[HQ2.out];exact plc_qc HC2.out,rfl,HB.out⟩⟩
 ·have hs1:=hide (hd_ne (s:=[40]) hw.out (by decide) hl)
  have HL:=hide hl
  clear hl hw
  go_wp2_with fail
  refine(need_no HM0.out _ hs1.out).mono ?_
  rintro e V1 ⟨rfl,hb⟩
  have HB:=hide (bel HM0.out.old hb)
  clear hb
  go_wp2_with fail
  exact⟨rfl,.inl ⟨plc_nolp HL.out,rfl,HB.out⟩⟩
end Go.Proofs.YtimdcmponhcngaaGreat
