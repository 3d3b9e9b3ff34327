import Derived.Test.YtjmfboegnmogdaaGreatXH
import Derived.Deep.Cut
import Derived.Test.YtjmfboegnmogdaaGreatX03
import Derived.Test.YtjmfboegnmogdaaGreatX02
set_option maxRecDepth 100000
set_option maxHeartbeats 32000000
set_option linter.unusedVariables false
namespace Go.Proofs.YtjmfboegnmogdaaGreat
open Go.RowKit Go.IntWalk Lx Pz
theorem aAa:∀(r:List UInt8) (n:Int),r.all D=true->1<=n->10 ^ r.length*n<=r.foldl (fun n c=>10*n+((c.toNat:Int)-48)) n
 | [],n,_,_=>by simp
 | c::r,n,h,hn=>by
  simp only[List.all_cons,Bool.and_eq_true] at h
  have hc:=aGz.1 h.1
  have:=aAa r (10*n+((c.toNat:Int)-48)) h.2 (by omega)
  simp only[List.foldl_cons,List.length_cons]
  have h2:(10:Int) ^ r.length*(10*n)<=10 ^ r.length*(10*n+((c.toNat:Int)-48)):=Int.mul_le_mul_of_nonneg_left (by omega) (Int.pow_nonneg (by decide))
  rw[Int.pow_succ,Int.mul_assoc]
  omega
theorem aQx {s:aQ}(h:num s=true):s.length<=10:=by
 cases s with
 | nil=>simp
 | cons c r =>
  have hd:(c::r).all D=true:=by simp only[num,Bool.and_eq_true] at h;exact h.1.1.2
  have hv:vl (c::r)<=2147483647:=by simp only[num,Bool.and_eq_true,decide_eq_true_eq] at h;exact h.2
  have hz:((c::r).headD 0==48&&decide (1 < (c::r).length))=false:=by simp only[num,Bool.and_eq_true,Bool.not_eq_true'] at h;exact h.1.2
  cases r with
  | nil=>simp
  | cons d r =>
   have h1:c≠48:=by
    intro e;subst e;simp at hz
   have hc:=aGz.1 (by simp at hd;exact hd.1:D c=true)
   have h48:(c.toNat:Int)≠48:=fun e=>h1 (UInt8.toNat_inj.1 (by simpa using (by omega:c.toNat=48)))
   have h2:10 ^ (d::r).length*((c.toNat:Int)-48)<=vl (c::d::r):=by
    have:=aAa (d::r) ((c.toNat:Int)-48) (by simp at hd ⊢;exact hd.2) (by omega)
    have e:vl (c::d::r)=(d::r).foldl (fun n c=>10*n+((c.toNat:Int)-48)) ((c.toNat:Int)-48):=by simp[vl]
    rw[e];exact this
   rcases Nat.lt_or_ge (d::r).length 10 with hl|hl
   ·simp at hl ⊢;omega
   ·exfalso
    have h3:(10:Int) ^ 10<=10 ^ (d::r).length:=by
     have:=Nat.pow_le_pow_right (n:=10) (by decide) hl
     exact_mod_cast this
    have h4:(10:Int) ^ (d::r).length*1<=10 ^ (d::r).length*((c.toNat:Int)-48):=Int.mul_le_mul_of_nonneg_left (by omega) (Int.pow_nonneg (by decide))
    have:(10:Int) ^ 10=10000000000:=by decide
    omega
theorem aWn {t:Tok}(h:Wf t):t.text.length<=16:=by
 rcases h with⟨hk,hn⟩|⟨hk,hn⟩|⟨hk,hn⟩
 ·have:=aQx hn;omega
 ·simp only[uZ,Bool.and_eq_true,decide_eq_true_eq] at hn;exact hn.1.1.2
 ·have key:∀ a ∈ marks.map (·.1),a.length<=16:=by decide
  exact key _ hn
theorem aCh (l:List UInt8):(sB l).size=l.length:=by simp[ByteArray.size]
def aYn (w W:World)(b:Nat)(T:List Tok)(NM:List aQ)(BS:List Int)(NS:List Nd)(e:Ending)(W':World):Prop :=
 ((∀ v r,T.map ab≠.num v::r)/\e=pan/\Below w.heap.size w W')\/(∃ v t T',T=t::T'/\ab t=.num v/\e=.returned (.int .i64 v)/\(∃ m',Rd w W' b m' T' NM BS NS)/\Kp SX W W')
theorem aXt {s:aQ}(h:num s=true):nv s=vl s:=by unfold nv;rw[if_pos h]
theorem pW {w W:World}{b:Nat}{m:Mm}{T:List Tok}{NM:List aQ}{BS:List Int}{NS:List Nd}(h:Rd w W b m T NM BS NS) :
  Calls Tryz.prog 194 #[ptr b] W fun e W'=>aYn w W b T NM BS NS e W':=by
 have HW:=aA h
 have F1:=aDh
 clear h
 go_enter Tryz.func194,Tryz.ntmps194
 go_wp2_with fail
 refine(aMr HW.o).mono ?_
 rintro e W1 (⟨rfl,rfl,hb⟩|⟨t,T',rfl,hwf,rfl,hR,hk⟩)
 ·have HB:=aA hb
  clear hb
  go_wp2_with fail
  exact⟨rfl,.inl ⟨fun v r e=>by simp at e,rfl,HB.o⟩⟩
 ·have HR:=aA hR
  have HK:=aA hk
  have HWf:=aA hwf
  have hn:=fun w=>iZ (sB t.text) w (by rw[aCh];have:=aWn hwf;unfold maxLen;omega)
  rw[qJ] at hn
  have HN:=aA hn
  clear hR hk hwf hn
  by_cases hv:∃ v,ab t=.num v
  ·obtain⟨v,hv⟩:=hv
   obtain⟨h1,h2,h3⟩:=aL0 HWf.o hv
   rw[aXt h2,h2,h3] at HN
   have HV:=aA hv
   clear h1 h2 h3 hv
   go_wp2_with fail
   refine(HN.o _).mono ?_
   rintro e W2 ⟨rfl,rfl⟩
   go_wp2_with fail
   go_ret
   exact .inr ⟨v,t,T',rfl,HV.o,rfl,HR.o,HK.o⟩
  ·have hv':∀ v,ab t≠.num v:=fun v e=>hv ⟨v,e⟩
   rw[aDy HWf.o hv'] at HN
   have HV:=aA hv'
   clear hv hv'
   go_wp2_with fail
   refine(HN.o _).mono ?_
   rintro e W2 ⟨rfl,rfl⟩
   go_wp2_with fail
   obtain⟨m',hm'⟩:=HR.o
   exact⟨rfl,.inl ⟨fun v r e=>by simp at e;exact HV.o v e.1,rfl,hm'.old⟩⟩
def aYo (w W:World)(b:Nat)(T:List Tok)(NM:List aQ)(BS:List Int)(NS:List Nd)(e:Ending)(W':World):Prop :=
 (off (T.map ab)=none/\e=pan/\Below w.heap.size w W')\/(∃ x P T',off (T.map ab)=some (x,T'.map ab)/\T=P++T'/\e=.returned (.int .i64 x)/\(∃ m',Rd w W' b m' T' NM BS NS)/\Kp SX W W')
theorem aMy {l:List Tk}(h1:∀ v r,l≠.num v::r)(h2:l.head?≠some (.op 5 9)):off l=none:=by
 unfold off
 split
 ·exact absurd rfl (h1 _ _)
 ·rename_i k o v r
  split
  ·rename_i hk
   obtain⟨rfl,rfl⟩:=hk
   exact absurd rfl h2
  ·rfl
 ·rfl
theorem aJe {l:List Tk}(h:∀ v r,l≠.num v::r):off (.op 5 9::l)=none:=by
 unfold off
 split
 ·rename_i heq;cases heq
 ·rename_i heq;cases heq;exact absurd rfl (h _ _)
 ·rfl
theorem pX {w W:World}{b:Nat}{m:Mm}{T:List Tok}{NM:List aQ}{BS:List Int}{NS:List Nd}(h:Rd w W b m T NM BS NS) :
  Calls Tryz.prog 242 #[ptr b] W fun e W'=>aYo w W b T NM BS NS e W':=by
 have HW:=aA h
 have hw:=h.wf
 clear h
 by_cases hm:(T.map ab).head?=some (.op 5 9)
 ·obtain⟨r,hr⟩:∃ r,T.map ab=.op 5 9::r:=by
   cases hT:T.map ab with
   | nil=>rw[hT] at hm;cases hm
   | cons a r=>rw[hT] at hm;simp at hm;exact⟨r,by rw[hm]⟩
  obtain⟨t,T1,rfl,ht,hr1⟩:=aW6 (s:=[45]) hw (by decide) (r:=r) hr
  have HH:=aA (show ab t=.op 5 9 from(bF (hw t (by simp)) (s:=[45]) (by decide)).1 ht)
  have ht:=aA ht
  clear hm hr hr1 hw
  go_enter Tryz.func242,Tryz.ntmps242
  go_wp2_with fail
  refine(kW HW.o _ ht.o).mono ?_
  rintro e W1 ⟨rfl,⟨m1,hR⟩,hk⟩
  have HR:=aA hR
  have HK:=aA hk
  clear hR hk
  go_wp2_with fail
  refine(pW HR.o).mono ?_
  rintro e W2 (⟨hn,rfl,hb⟩|⟨v,t2,T2,rfl,hv,rfl,hR,hk⟩)
  ·have HB:=aA hb
   have hn:=aA hn
   clear hb
   go_wp2_with fail
   exact⟨rfl,.inl ⟨by rw[List.map_cons,HH.o];exact aJe hn.o,rfl,HB.o⟩⟩
  ·have HR2:=aA hR
   have HK2:=aA (HK.o.trans hk)
   have hv:=aA hv
   have hb:=aA (show 0<=v/\v<=2147483647 by
    obtain⟨-,h2,h3⟩:=aL0 (HR.o.wf t2 (by simp)) hv.o
    simp only[num,Bool.and_eq_true,decide_eq_true_eq] at h2
    rw[<-h3]
    exact⟨uP h2.1.1.2,h2.2⟩)
   obtain⟨v0,v1⟩:=hb.o
   clear hR hk
   go_wp2_with fail
   go_ret
   exact .inr ⟨-v,[t,t2],T2,by simp[HH.o,hv.o,off],rfl,rfl,HR2.o,HK2.o⟩
 ·have hs:=aA (gY (s:=[45]) hw (by decide) hm)
  have hm:=aA hm
  clear hw
  go_enter Tryz.func242,Tryz.ntmps242
  go_wp2_with fail
  refine(lN HW.o _ hs.o).mono ?_
  rintro e W1 ⟨rfl,hb⟩
  have HR:=aA (HW.o.later hb)
  have HK:=aA (Kp.of_below SX hb)
  clear hb
  go_wp2_with fail
  refine(pW HR.o).mono ?_
  rintro e W2 (⟨hn,rfl,hb⟩|⟨v,t2,T2,rfl,hv,rfl,hR,hk⟩)
  ·have HB:=aA hb
   have hn:=aA hn
   clear hb
   go_wp2_with fail
   exact⟨rfl,.inl ⟨aMy hn.o hm.o,rfl,HB.o⟩⟩
  ·have HR2:=aA hR
   have HK2:=aA (HK.o.trans hk)
   have hv:=aA hv
   clear hR hk
   go_wp2_with fail
   go_ret
   exact .inr ⟨v,[t2],T2,by simp[hv.o,off],rfl,rfl,HR2.o,HK2.o⟩
end Go.Proofs.YtjmfboegnmogdaaGreat
namespace Go.Proofs.YtjmfboegnmogdaaGreat
open Go.RowKit Go.IntWalk Lx Pz
theorem Kp.store_new {S:List TypeId}{W V:World}(h:Kp S W V){p:Addr}(hp:W.heap.size<=p.block)(u:Value):Kp S W (V.setCell p u) :=
 ⟨by have:=h.size;simp[World.setCell];omega,fun k cs t fr hk ht=>(Below.heap_setCell V p u k (by have:=(Array.getElem?_eq_some_iff.1 hk).1;omega)).trans (h.block k cs t fr hk ht)⟩
theorem Rd.kp {w W W':World}{b:Nat}{m:Mm}{T:List Tok}{NM:List aQ}{BS:List Int}{NS:List Nd}(h:Rd w W b m T NM BS NS){t:TypeId}(hk:Kp [t] W W')(ht:t≠88/\t≠110/\t≠9/\t≠3/\t≠93)(hb:Below w.heap.size w W'):Rd w W' b m T NM BS NS:=by
 obtain⟨h1,h2,h3,h4,h5⟩:=ht
 exact⟨h.blk.kp hk (by simpa using Ne.symm h1),h.base,h.toks.kp hk (by simpa using Ne.symm h2),aU h.names hk (by simpa using Ne.symm h3),aU h.binds hk (by simpa using Ne.symm h4),aU h.nodes hk (by simpa using Ne.symm h5),h.wf,hb⟩
structure Pl (w W V:World)(b:Nat)(T:List Tok)(NM:List aQ)(BS:List Int)(NS:List Nd)(q:Nat)(ty:TypeId)(cs:Array Value):Prop where
 rd:∃ m,Rd w V b m T NM BS NS
 kp:Kp SX W V
 va:aB V q ty cs
 q0:W.heap.size<=q
 w0:w.heap.size<=W.heap.size
theorem Pl.store {w W V:World}{b:Nat}{T:List Tok}{NM:List aQ}{BS:List Int}{NS:List Nd}{q:Nat}{ty:TypeId}{cs:Array Value}(h:Pl w W V b T NM BS NS q ty cs)(ht:ty≠88/\ty≠110/\ty≠9/\ty≠3/\ty≠93)(i:Nat)(u:Value) :
  Pl w W (V.setCell ⟨q,i,none⟩ u) b T NM BS NS q ty (cs.setIfInBounds i u):=by
 obtain⟨m,hm⟩:=h.rd
 exact⟨⟨m,hm.kp (Kp.set h.va (by simp) i u) ht (hm.old.setCell (by have:=h.q0;have:=h.w0;show w.heap.size<=q;omega) u)⟩,h.kp.store_new h.q0 u,h.va.set i u,h.q0,h.w0⟩
theorem Pl.step {w W V V':World}{b:Nat}{T T':List Tok}{NM:List aQ}{BS:List Int}{NS NS':List Nd}{q:Nat}{ty:TypeId}{cs:Array Value}(h:Pl w W V b T NM BS NS q ty cs)(ht:ty≠88/\ty≠110/\ty≠9/\ty≠3/\ty≠93)
  (hr:∃ m,Rd w V' b m T' NM BS NS') (hk:Kp SX V V'):Pl w W V' b T' NM BS NS' q ty cs :=
 ⟨hr,h.kp.trans hk,h.va.kp hk (by obtain⟨h1,h2,h3,h4,h5⟩:=ht;simp[h1,h5]),h.q0,h.w0⟩
theorem Pl.later {w W V V':World}{b:Nat}{T:List Tok}{NM:List aQ}{BS:List Int}{NS:List Nd}{q:Nat}{ty:TypeId}{cs:Array Value}(h:Pl w W V b T NM BS NS q ty cs)(hb:Below V.heap.size V V'):Pl w W V' b T NM BS NS q ty cs:=by
 obtain⟨m,hm⟩:=h.rd
 exact⟨⟨m,hm.later hb⟩,h.kp.trans (Kp.of_below SX hb),h.va.below hb,h.q0,h.w0⟩
theorem Pl.begin {w W:World}{b:Nat}{m:Mm}{T:List Tok}{NM:List aQ}{BS:List Int}{NS:List Nd}(h:Rd w W b m T NM BS NS)(ty:TypeId)(cs:Array Value):Pl w W (W.alloc (.cells cs ty)) b T NM BS NS W.heap.size ty cs :=
 ⟨⟨m,h.later (aC _ _)⟩,Kp.of_below SX (aC _ _),aB.new _ _ _,Nat.le_refl _,h.old.size⟩
def Ok (w W:World)(b:Nat)(T:List Tok)(NM:List aQ)(BS:List Int)(NS:List Nd)(res:Option (E × List Tk))(e:Ending)(W':World):Prop :=
 (res=none/\e=pan/\Below w.heap.size w W') \/
 (∃ ex P T',res=some (ex,T'.map ab)/\T=P++T'/\e=.returned (.int .i64 ((NS.length+ex.size:Nat)-1:Int))/\(∃ m',Rd w W' b m' T' NM BS (NS++ex.flat NS.length))/\Kp SX W W')
theorem kY {n:Nat}(e:E)(h:e.size=1):Ending.returned (.int .i64 n)=.returned (.int .i64 ((n+e.size:Nat)-1:Int)):=aO (by omega)
theorem bX {T:List Tok}{x:Tk}(h:(T.map ab).head?=some x):∃ t T',T=t::T'/\ab t=x:=by
 cases T with
 | nil=>simp at h
 | cons t T=>simp at h;exact⟨t,T,rfl,h⟩
end Go.Proofs.YtjmfboegnmogdaaGreat
namespace Go.Proofs.YtjmfboegnmogdaaGreat
open Go.RowKit Go.IntWalk Lx Pz
variable {back x:Int} {W:World} {b:Nat}
theorem aD9 {q:Bool}{l:List Tk}(h:l.head?≠some .lp):vF q l=none:=by
 unfold vF
 split
 ·exact absurd rfl h
 ·rfl
theorem aX0 (v:Int)(l:List Tk)(h:¬v=0):vF true (.lp::.num v::.comma::l)=kD v l:=by simp[vF,h]
theorem aVl (l:List Tk):vF true (.lp::.num 0::l)=none:=by
 simp only[vF,if_true]
 split
 ·rename_i heq;cases heq;simp
 ·rfl
theorem aVn {l:List Tk}(h:∀ v r,l≠.num v::r):vF true (.lp::l)=none:=by
 simp only[vF,if_true]
 split
 ·exact absurd rfl (h _ _)
 ·rfl
theorem aVm {v:Int}{l:List Tk}(h:l.head?≠some .comma):vF true (.lp::.num v::l)=none:=by
 simp only[vF,if_true]
 split
 ·rename_i heq;cases heq;exact absurd rfl h
 ·rfl
theorem aAn {l:List Tk}(h:off l=none):kD back l=none:=by unfold kD;rw[h]
theorem aD2 {l r:List Tk}(h:off l=some (x,r))(h1:r.head?≠some .comma)(h2:r.head?≠some .rp):kD back l=none:=by
 unfold kD
 rw[h]
 split
 ·rename_i heq;cases heq;exact absurd rfl h2
 ·rename_i heq;cases heq;exact absurd rfl h1
 ·rfl
theorem aD3 {l r:List Tk}(h:off l=some (x,.rp::r)):kD back l=some (.leaf (lf 3 0 back 1 x 0),r):=by unfold kD;rw[h]
theorem aAo {l r:List Tk}(h:off l=some (x,.comma::r))(h1:off r=none):kD back l=none:=by unfold kD;rw[h];simp only[h1]
theorem aAp {y:Int}{l r r2:List Tk}(h:off l=some (x,.comma::r))(h1:off r=some (y,r2))(h2:r2.head?≠some .rp):kD back l=none:=by
 unfold kD
 rw[h]
 simp only[h1]
 split
 ·rename_i heq;cases heq;exact absurd rfl h2
 ·rfl
theorem aD4 {y:Int}{l r r2:List Tk}(h:off l=some (x,.comma::r))(h1:off r=some (y,.rp::r2)):kD back l=some (.leaf (lf 3 0 back 2 x y),r2):=by unfold kD;rw[h];simp only[h1]
abbrev pl4 (a b c d:Int):Array Value:=#[.int .i64 a,.int .i64 b,.int .i64 c,.int .i64 d]
theorem fJ {t:TypeId}{x y z u:Value}(h:aB W b t #[x,y,z,u]):W.cell? ⟨b,0,none⟩=some x/\W.cell? ⟨b,1,none⟩=some y/\W.cell? ⟨b,2,none⟩=some z/\W.cell? ⟨b,3,none⟩=some u :=
 ⟨h.cell 0 rfl,h.cell 1 rfl,h.cell 2 rfl,h.cell 3 rfl⟩
theorem uU {t:TypeId}{x y z u:Value}(h:aB W b t #[x,y,z,u]):W.frozen? ⟨b,0,none⟩=false/\W.frozen? ⟨b,1,none⟩=false/\W.frozen? ⟨b,2,none⟩=false/\W.frozen? ⟨b,3,none⟩=false :=
 ⟨h.frozen 0,h.frozen 1,h.frozen 2,h.frozen 3⟩
theorem aRd {w:World}{m:Mm}{T:List Tok}{NM:List aQ}{BS:List Int}{NS:List Nd}(h:Rd w W b m T NM BS NS)(h3:NS.length<=2000000) :
  Calls Tryz.prog 221 #[ptr b,.string ⟨#[112]⟩] W fun e W'=>Ok w W b T NM BS NS (vF false (T.map ab)) e W':=by
 have H3:=aA h3
 have hw:=aA h.wf
 have HP0:=aA (Pl.begin h 91 (pl4 0 0 0 0))
 clear h h3
 go_enter Tryz.func221,Tryz.ntmps221
 go_upto_region 2 with fail
 obtain⟨q,hq⟩:∃ q,W.heap.size=q:=⟨_,rfl⟩
 rw[hq] at HP0 ⊢
 generalize W.alloc (.cells (pl4 0 0 0 0) 91)=V0 at HP0 ⊢
 clear hq
 obtain⟨m0,hm0⟩:=HP0.o.rd
 have HM0:=aA hm0
 clear hm0
 by_cases hl:(T.map ab).head?=some .lp
 ·obtain⟨t1,T1,rfl,h1⟩:=bX hl
  have hs1:=aA ((bF (hw.o t1 (by simp)) (s:=[40]) (by decide)).2 h1)
  have H1:=aA h1
  clear hl h1 hw
  go_wp2_with fail
  refine(dI HM0.o _ hs1.o).mono ?_
  rintro e V1 ⟨rfl,hR,hk⟩
  have HP:=aA (HP0.o.step (by decide) hR hk)
  clear hR hk HP0 HM0
  have HQ:=aA (show vF false ((t1::T1).map ab)=kD 0 (T1.map ab) by rw[List.map_cons,H1.o];rfl)
  obtain⟨m1,hm1⟩:=HP.o.rd
  have HM1:=aA hm1
  clear hm1
  go_wp2_with fail
  refine(pX HM1.o).mono ?_
  rintro e V3 (⟨hn,rfl,hb⟩|⟨x,P3,T3,ho,rfl,rfl,hR,hk⟩)
  ·have HB:=aA hb
   have hn:=aA hn
   clear hb
   go_wp2_with fail
   exact⟨rfl,.inl ⟨HQ.o.trans (aAn hn.o),rfl,HB.o⟩⟩
  ·have HO:=aA ho
   have HP3:=aA (HP.o.step (by decide) hR hk)
   clear hR hk ho
   obtain⟨c0,c1,c2,c3⟩:=fJ HP3.o.va
   obtain⟨y0,y1,y2,y3⟩:=uU HP3.o.va
   have HP4:=aA ((HP3.o.store (by decide) 1 (.int .i64 1)).store (by decide) 2 (.int .i64 x))
   have e4:((pl4 0 0 0 0).setIfInBounds 1 (.int .i64 1)).setIfInBounds 2 (.int .i64 x)=pl4 0 1 x 0:=rfl
   rw[e4] at HP4
   clear e4
   clear HP HP3 HM1
   go_upto_region 9 with fail
   generalize (V3.setCell ⟨q,1,none⟩ (.int .i64 1)).setCell ⟨q,2,none⟩ (.int .i64 x)=V4 at HP4 ⊢
   clear c0 c1 c2 c3 y0 y1 y2 y3
   obtain⟨m4,hm4⟩:=HP4.o.rd
   have hw4:=aA hm4.wf
   have HM4:=aA hm4
   clear hm4
   by_cases hc:(T3.map ab).head?=some .comma
   ·obtain⟨t5,T5,rfl,h5⟩:=bX hc
    have hs5:=aA ((bF (hw4.o t5 (by simp)) (s:=[44]) (by decide)).2 h5)
    have H5:=aA h5
    clear hc h5 hw4
    go_wp2_with fail
    refine(kW HM4.o _ hs5.o).mono ?_
    rintro e V5 ⟨rfl,hR,hk⟩
    have HP5:=aA (HP4.o.step (by decide) hR hk)
    clear hR hk HP4 HM4
    obtain⟨m5,hm5⟩:=HP5.o.rd
    have HM5:=aA hm5
    clear hm5
    go_wp2_with fail
    refine(pX HM5.o).mono ?_
    rintro e V6 (⟨hn,rfl,hb⟩|⟨y,P6,T6,ho2,rfl,rfl,hR,hk⟩)
    ·have HB:=aA hb
     have hn:=aA hn
     clear hb
     go_wp2_with fail
     exact⟨rfl,.inl ⟨HQ.o.trans (aAo (by rw[HO.o,List.map_cons,H5.o]) hn.o),rfl,HB.o⟩⟩
    ·have HO2:=aA ho2
     have HP6:=aA (HP5.o.step (by decide) hR hk)
     clear hR hk ho2
     obtain⟨c0,c1,c2,c3⟩:=fJ HP6.o.va
     obtain⟨y0,y1,y2,y3⟩:=uU HP6.o.va
     have HP7:=aA ((HP6.o.store (by decide) 1 (.int .i64 2)).store (by decide) 3 (.int .i64 y))
     have e7:((pl4 0 1 x 0).setIfInBounds 1 (.int .i64 2)).setIfInBounds 3 (.int .i64 y)=pl4 0 2 x y:=rfl
     rw[e7] at HP7
     clear e7 HP5 HP6 HM5
     go_upto_region 11 with fail
     generalize (V6.setCell ⟨q,1,none⟩ (.int .i64 2)).setCell ⟨q,3,none⟩ (.int .i64 y)=V7 at HP7 ⊢
     clear c0 c1 c2 c3 y0 y1 y2 y3
     obtain⟨m7,hm7⟩:=HP7.o.rd
     have hw7:=aA hm7.wf
     have HM7:=aA hm7
     clear hm7
     by_cases hr:(T6.map ab).head?=some .rp
     ·obtain⟨t8,T8,rfl,h8⟩:=bX hr
      have hs8:=aA ((bF (hw7.o t8 (by simp)) (s:=[41]) (by decide)).2 h8)
      have H8:=aA h8
      clear hr h8 hw7
      go_wp2_with fail
      refine(dI HM7.o _ hs8.o).mono ?_
      rintro e V8 ⟨rfl,hR,hk⟩
      have HP8:=aA (HP7.o.step (by decide) hR hk)
      clear hR hk HP7 HM7
      obtain⟨m8,hm8⟩:=HP8.o.rd
      have HM8:=aA hm8
      clear hm8
      obtain⟨c0,c1,c2,c3⟩:=fJ HP8.o.va
      go_wp2_with fail
      refine(eZ HM8.o (lf 3 0 0 2 x y) H3.o).mono ?_
      rintro e V9 ⟨rfl,hR,hk⟩
      have HR9:=aA hR
      have HK9:=aA (HP8.o.kp.trans hk)
      clear hR hk c0 c1 c2 c3
      go_wp2_with fail
      go_ret
      exact .inr ⟨_,t1::(P3++t5::(P6++[t8])),T8,HQ.o.trans (aD4 (by rw[HO.o,List.map_cons,H5.o]) (by rw[HO2.o,List.map_cons,H8.o])),by simp,kY _ rfl,HR9.o,HK9.o⟩
     ·have hs8:=aA (gY (s:=[41]) hw7.o (by decide) hr)
      have HR:=aA hr
      clear hr hw7
      go_wp2_with fail
      refine(eU HM7.o _ hs8.o).mono ?_
      rintro e V8 ⟨rfl,hb⟩
      have HB:=aA (bel HM7.o.old hb)
      clear hb
      go_wp2_with fail
      exact⟨rfl,.inl ⟨HQ.o.trans (aAp (by rw[HO.o,List.map_cons,H5.o]) HO2.o HR.o),rfl,HB.o⟩⟩
   ·have hs5:=aA (gY (s:=[44]) hw4.o (by decide) hc)
    have HC:=aA hc
    clear hc hw4
    go_wp2_with fail
    refine(lN HM4.o _ hs5.o).mono ?_
    rintro e V5 ⟨rfl,hb⟩
    have HP7:=aA (HP4.o.later hb)
    clear hb HP4 HM4 hs5
    obtain⟨m7,hm7⟩:=HP7.o.rd
    have hw7:=aA hm7.wf
    have HM7:=aA hm7
    clear hm7
    by_cases hr:(T3.map ab).head?=some .rp
    ·obtain⟨t8,T8,rfl,h8⟩:=bX hr
     have hs8:=aA ((bF (hw7.o t8 (by simp)) (s:=[41]) (by decide)).2 h8)
     have H8:=aA h8
     clear hr h8 hw7
     go_wp2_with fail
     refine(dI HM7.o _ hs8.o).mono ?_
     rintro e V8 ⟨rfl,hR,hk⟩
     have HP8:=aA (HP7.o.step (by decide) hR hk)
     clear hR hk HP7 HM7
     obtain⟨m8,hm8⟩:=HP8.o.rd
     have HM8:=aA hm8
     clear hm8
     obtain⟨c0,c1,c2,c3⟩:=fJ HP8.o.va
     go_wp2_with fail
     refine(eZ HM8.o (lf 3 0 0 1 x 0) H3.o).mono ?_
     rintro e V9 ⟨rfl,hR,hk⟩
     have HR9:=aA hR
     have HK9:=aA (HP8.o.kp.trans hk)
     clear hR hk c0 c1 c2 c3
     go_wp2_with fail
     go_ret
     exact .inr ⟨_,t1::(P3++[t8]),T8,HQ.o.trans (aD3 (by rw[HO.o,List.map_cons,H8.o])),by simp,kY _ rfl,HR9.o,HK9.o⟩
    ·have hs8:=aA (gY (s:=[41]) hw7.o (by decide) hr)
     have HR:=aA hr
     clear hr hw7
     go_wp2_with fail
     refine(eU HM7.o _ hs8.o).mono ?_
     rintro e V8 ⟨rfl,hb⟩
     have HB:=aA (bel HM7.o.old hb)
     clear hb
     go_wp2_with fail
     exact⟨rfl,.inl ⟨HQ.o.trans (aD2 HO.o HC.o HR.o),rfl,HB.o⟩⟩
 ·have hs1:=aA (gY (s:=[40]) hw.o (by decide) hl)
  have HL:=aA hl
  clear hl hw
  go_wp2_with fail
  refine(eU HM0.o _ hs1.o).mono ?_
  rintro e V1 ⟨rfl,hb⟩
  have HB:=aA (bel HM0.o.old hb)
  clear hb
  go_wp2_with fail
  exact⟨rfl,.inl ⟨aD9 HL.o,rfl,HB.o⟩⟩
theorem aRe {w:World}{m:Mm}{T:List Tok}{NM:List aQ}{BS:List Int}{NS:List Nd}(h:Rd w W b m T NM BS NS)(h3:NS.length<=2000000) :
  Calls Tryz.prog 221 #[ptr b,.string ⟨#[113]⟩] W fun e W'=>Ok w W b T NM BS NS (vF true (T.map ab)) e W':=by
 have H3:=aA h3
 have hw:=aA h.wf
 have HP0:=aA (Pl.begin h 91 (pl4 0 0 0 0))
 clear h h3
 go_enter Tryz.func221,Tryz.ntmps221
 go_upto_region 2 with fail
 obtain⟨q,hq⟩:∃ q,W.heap.size=q:=⟨_,rfl⟩
 rw[hq] at HP0 ⊢
 generalize W.alloc (.cells (pl4 0 0 0 0) 91)=V0 at HP0 ⊢
 clear hq
 obtain⟨m0,hm0⟩:=HP0.o.rd
 have HM0:=aA hm0
 clear hm0
 by_cases hl:(T.map ab).head?=some .lp
 ·obtain⟨t1,T1,rfl,h1⟩:=bX hl
  have hs1:=aA ((bF (hw.o t1 (by simp)) (s:=[40]) (by decide)).2 h1)
  have H1:=aA h1
  clear hl h1 hw
  go_wp2_with fail
  refine(dI HM0.o _ hs1.o).mono ?_
  rintro e V1 ⟨rfl,hR,hk⟩
  have HP:=aA (HP0.o.step (by decide) hR hk)
  clear hR hk HP0 HM0
  have HQ1:=aA (show ((t1::T1).map ab)=.lp::T1.map ab by rw[List.map_cons,H1.o])
  obtain⟨m1,hm1⟩:=HP.o.rd
  have HM1:=aA hm1
  clear hm1
  go_wp2_with fail
  refine(pW HM1.o).mono ?_
  rintro e V2 (⟨hn,rfl,hb⟩|⟨v,t2,T2,rfl,hv,rfl,hR,hk⟩)
  ·have HB:=aA hb
   have hn:=aA hn
   clear hb
   go_wp2_with fail
   exact⟨rfl,.inl ⟨by rw[HQ1.o];exact aVn hn.o,rfl,HB.o⟩⟩
  ·have HV:=aA hv
   have HP2:=aA (HP.o.step (by decide) hR hk)
   clear hR hk hv HM1 HP
   obtain⟨c0,c1,c2,c3⟩:=fJ HP2.o.va
   obtain⟨y0,y1,y2,y3⟩:=uU HP2.o.va
   have HP3:=aA (HP2.o.store (by decide) 0 (.int .i64 v))
   have e3:(pl4 0 0 0 0).setIfInBounds 0 (.int .i64 v)=pl4 v 0 0 0:=rfl
   rw[e3] at HP3
   clear e3 HP2
   go_upto_region 5 with fail
   generalize V2.setCell ⟨q,0,none⟩ (.int .i64 v)=V3 at HP3 ⊢
   clear c0 c1 c2 c3 y0 y1 y2 y3
   obtain⟨c0,c1,c2,c3⟩:=fJ HP3.o.va
   have HQ2:=aA (show ((t1::t2::T2).map ab)=.lp::.num v::T2.map ab by rw[HQ1.o,List.map_cons,HV.o])
   by_cases hz:v=0
   ·subst hz
    have hold:=HP3.o.rd
    have HB:=aA (show Below w.heap.size w V3 from by obtain⟨m,hm⟩:=HP3.o.rd;exact hm.old)
    go_wp2_with fail
    exact⟨rfl,.inl ⟨by rw[HQ2.o];exact aVl _,rfl,HB.o⟩⟩
   ·have hz':(v==0)=false:=by simpa using hz
    have HZ:=aA hz
    clear hz
    obtain⟨m3,hm3⟩:=HP3.o.rd
    have HM3:=aA hm3
    have hw3:=aA hm3.wf
    clear hm3
    by_cases hc2:(T2.map ab).head?=some .comma
    ·obtain⟨t3,T3',rfl,h3⟩:=bX hc2
     have hs3:=aA ((bF (hw3.o t3 (by simp)) (s:=[44]) (by decide)).2 h3)
     have H3':=aA h3
     clear hc2 h3 hw3
     go_wp2_with fail
     refine(dI HM3.o _ hs3.o).mono ?_
     rintro e V4' ⟨rfl,hR,hk⟩
     have HP:=aA (HP3.o.step (by decide) hR hk)
     clear hR hk HP3 HM3 c0 c1 c2 c3 hz'
     have HQ:=aA (show vF true ((t1::t2::t3::T3').map ab)=kD v (T3'.map ab) by rw[HQ2.o,List.map_cons,H3'.o];exact aX0 v _ HZ.o)
     obtain⟨m1,hm1⟩:=HP.o.rd
     have HM1:=aA hm1
     clear hm1
     go_wp2_with fail
     refine(pX HM1.o).mono ?_
     rintro e V3 (⟨hn,rfl,hb⟩|⟨x,P3,T3,ho,rfl,rfl,hR,hk⟩)
     ·have HB:=aA hb
      have hn:=aA hn
      clear hb
      go_wp2_with fail
      exact⟨rfl,.inl ⟨HQ.o.trans (aAn hn.o),rfl,HB.o⟩⟩
     ·have HO:=aA ho
      have HP3:=aA (HP.o.step (by decide) hR hk)
      clear hR hk ho
      obtain⟨c0,c1,c2,c3⟩:=fJ HP3.o.va
      obtain⟨y0,y1,y2,y3⟩:=uU HP3.o.va
      have HP4:=aA ((HP3.o.store (by decide) 1 (.int .i64 1)).store (by decide) 2 (.int .i64 x))
      have e4:((pl4 v 0 0 0).setIfInBounds 1 (.int .i64 1)).setIfInBounds 2 (.int .i64 x)=pl4 v 1 x 0:=rfl
      rw[e4] at HP4
      clear e4
      clear HP HP3 HM1
      go_upto_region 9 with fail
      generalize (V3.setCell ⟨q,1,none⟩ (.int .i64 1)).setCell ⟨q,2,none⟩ (.int .i64 x)=V4 at HP4 ⊢
      clear c0 c1 c2 c3 y0 y1 y2 y3
      obtain⟨m4,hm4⟩:=HP4.o.rd
      have hw4:=aA hm4.wf
      have HM4:=aA hm4
      clear hm4
      by_cases hc:(T3.map ab).head?=some .comma
      ·obtain⟨t5,T5,rfl,h5⟩:=bX hc
       have hs5:=aA ((bF (hw4.o t5 (by simp)) (s:=[44]) (by decide)).2 h5)
       have H5:=aA h5
       clear hc h5 hw4
       go_wp2_with fail
       refine(kW HM4.o _ hs5.o).mono ?_
       rintro e V5 ⟨rfl,hR,hk⟩
       have HP5:=aA (HP4.o.step (by decide) hR hk)
       clear hR hk HP4 HM4
       obtain⟨m5,hm5⟩:=HP5.o.rd
       have HM5:=aA hm5
       clear hm5
       go_wp2_with fail
       refine(pX HM5.o).mono ?_
       rintro e V6 (⟨hn,rfl,hb⟩|⟨y,P6,T6,ho2,rfl,rfl,hR,hk⟩)
       ·have HB:=aA hb
        have hn:=aA hn
        clear hb
        go_wp2_with fail
        exact⟨rfl,.inl ⟨HQ.o.trans (aAo (by rw[HO.o,List.map_cons,H5.o]) hn.o),rfl,HB.o⟩⟩
       ·have HO2:=aA ho2
        have HP6:=aA (HP5.o.step (by decide) hR hk)
        clear hR hk ho2
        obtain⟨c0,c1,c2,c3⟩:=fJ HP6.o.va
        obtain⟨y0,y1,y2,y3⟩:=uU HP6.o.va
        have HP7:=aA ((HP6.o.store (by decide) 1 (.int .i64 2)).store (by decide) 3 (.int .i64 y))
        have e7:((pl4 v 1 x 0).setIfInBounds 1 (.int .i64 2)).setIfInBounds 3 (.int .i64 y)=pl4 v 2 x y:=rfl
        rw[e7] at HP7
        clear e7 HP5 HP6 HM5
        go_upto_region 11 with fail
        generalize (V6.setCell ⟨q,1,none⟩ (.int .i64 2)).setCell ⟨q,3,none⟩ (.int .i64 y)=V7 at HP7 ⊢
        clear c0 c1 c2 c3 y0 y1 y2 y3
        obtain⟨m7,hm7⟩:=HP7.o.rd
        have hw7:=aA hm7.wf
        have HM7:=aA hm7
        clear hm7
        by_cases hr:(T6.map ab).head?=some .rp
        ·obtain⟨t8,T8,rfl,h8⟩:=bX hr
         have hs8:=aA ((bF (hw7.o t8 (by simp)) (s:=[41]) (by decide)).2 h8)
         have H8:=aA h8
         clear hr h8 hw7
         go_wp2_with fail
         refine(dI HM7.o _ hs8.o).mono ?_
         rintro e V8 ⟨rfl,hR,hk⟩
         have HP8:=aA (HP7.o.step (by decide) hR hk)
         clear hR hk HP7 HM7
         obtain⟨m8,hm8⟩:=HP8.o.rd
         have HM8:=aA hm8
         clear hm8
         obtain⟨c0,c1,c2,c3⟩:=fJ HP8.o.va
         go_wp2_with fail
         refine(eZ HM8.o (lf 3 0 v 2 x y) H3.o).mono ?_
         rintro e V9 ⟨rfl,hR,hk⟩
         have HR9:=aA hR
         have HK9:=aA (HP8.o.kp.trans hk)
         clear hR hk c0 c1 c2 c3
         go_wp2_with fail
         go_ret
         exact .inr ⟨_,t1::t2::t3::(P3++t5::(P6++[t8])),T8,HQ.o.trans (aD4 (by rw[HO.o,List.map_cons,H5.o]) (by rw[HO2.o,List.map_cons,H8.o])),by simp,kY _ rfl,HR9.o,HK9.o⟩
        ·have hs8:=aA (gY (s:=[41]) hw7.o (by decide) hr)
         have HR:=aA hr
         clear hr hw7
         go_wp2_with fail
         refine(eU HM7.o _ hs8.o).mono ?_
         rintro e V8 ⟨rfl,hb⟩
         have HB:=aA (bel HM7.o.old hb)
         clear hb
         go_wp2_with fail
         exact⟨rfl,.inl ⟨HQ.o.trans (aAp (by rw[HO.o,List.map_cons,H5.o]) HO2.o HR.o),rfl,HB.o⟩⟩
      ·have hs5:=aA (gY (s:=[44]) hw4.o (by decide) hc)
       have HC:=aA hc
       clear hc hw4
       go_wp2_with fail
       refine(lN HM4.o _ hs5.o).mono ?_
       rintro e V5 ⟨rfl,hb⟩
       have HP7:=aA (HP4.o.later hb)
       clear hb HP4 HM4 hs5
       obtain⟨m7,hm7⟩:=HP7.o.rd
       have hw7:=aA hm7.wf
       have HM7:=aA hm7
       clear hm7
       by_cases hr:(T3.map ab).head?=some .rp
       ·obtain⟨t8,T8,rfl,h8⟩:=bX hr
        have hs8:=aA ((bF (hw7.o t8 (by simp)) (s:=[41]) (by decide)).2 h8)
        have H8:=aA h8
        clear hr h8 hw7
        go_wp2_with fail
        refine(dI HM7.o _ hs8.o).mono ?_
        rintro e V8 ⟨rfl,hR,hk⟩
        have HP8:=aA (HP7.o.step (by decide) hR hk)
        clear hR hk HP7 HM7
        obtain⟨m8,hm8⟩:=HP8.o.rd
        have HM8:=aA hm8
        clear hm8
        obtain⟨c0,c1,c2,c3⟩:=fJ HP8.o.va
        go_wp2_with fail
        refine(eZ HM8.o (lf 3 0 v 1 x 0) H3.o).mono ?_
        rintro e V9 ⟨rfl,hR,hk⟩
        have HR9:=aA hR
        have HK9:=aA (HP8.o.kp.trans hk)
        clear hR hk c0 c1 c2 c3
        go_wp2_with fail
        go_ret
        exact .inr ⟨_,t1::t2::t3::(P3++[t8]),T8,HQ.o.trans (aD3 (by rw[HO.o,List.map_cons,H8.o])),by simp,kY _ rfl,HR9.o,HK9.o⟩
       ·have hs8:=aA (gY (s:=[41]) hw7.o (by decide) hr)
        have HR:=aA hr
        clear hr hw7
        go_wp2_with fail
        refine(eU HM7.o _ hs8.o).mono ?_
        rintro e V8 ⟨rfl,hb⟩
        have HB:=aA (bel HM7.o.old hb)
        clear hb
        go_wp2_with fail
        exact⟨rfl,.inl ⟨HQ.o.trans (aD2 HO.o HC.o HR.o),rfl,HB.o⟩⟩
    ·have hs3:=aA (gY (s:=[44]) hw3.o (by decide) hc2)
     have HC2:=aA hc2
     clear hc2 hw3
     go_wp2_with fail
     refine(eU HM3.o _ hs3.o).mono ?_
     rintro e V4 ⟨rfl,hb⟩
     have HB:=aA (bel HM3.o.old hb)
     clear hb
     go_wp2_with fail
     exact⟨rfl,.inl ⟨by rw[HQ2.o];exact aVm HC2.o,rfl,HB.o⟩⟩
 ·have hs1:=aA (gY (s:=[40]) hw.o (by decide) hl)
  have HL:=aA hl
  clear hl hw
  go_wp2_with fail
  refine(eU HM0.o _ hs1.o).mono ?_
  rintro e V1 ⟨rfl,hb⟩
  have HB:=aA (bel HM0.o.old hb)
  clear hb
  go_wp2_with fail
  exact⟨rfl,.inl ⟨aD9 HL.o,rfl,HB.o⟩⟩
end Go.Proofs.YtjmfboegnmogdaaGreat
namespace Pz
open Lx
theorem aSq {nm:List aQ}{s:aQ}{e:E}(h:wd nm s=some e):∃ n,e=.leaf n:=by
 unfold wd at h
 split at h
 ·cases h;exact⟨_,rfl⟩
 ·split at h
  ·cases h;exact⟨_,rfl⟩
  ·cases h
theorem aW4 {nm:List aQ}{c:Nat}{l:List Tk}{e:E}(h:G nm c l e):e.size<=l.length:=by
 induction h with
 | up _ _ ih=>exact ih
 | sel _ _ _ ih1 ih2 ih3=>simp[E.size];omega
 | bin _ _ _ ih1 ih2=>simp[E.size];omega
 | neg _ ih=>simp[E.size];omega
 | par _ ih=>simp;omega
 | num v=>simp[E.size]
 | word _ _ _ h=>obtain⟨n,rfl⟩:=aSq h;simp[E.size]
 | place _ h=>obtain⟨m,-,-,⟨n,rfl,-⟩,-⟩:=pY h;simp[E.size]
 | call1 _ _ ih=>simp[E.size];omega
 | call2 _ _ _ ih ih2=>simp[E.size];omega
 | call3 _ _ _ _ ih ih2 ih3=>simp[E.size];omega
theorem oW {nm:List aQ}{c:Nat}{l r:List Tk}{e:E}(h:R nm (.at c) l (some (e,r))):e.size+r.length<=l.length:=by
 obtain⟨p,rfl,hg⟩:=sound h e r rfl
 have:=aW4 hg
 rw[List.length_append];omega
def cO:List E->Nat
 | []=>0
 | a::es=>a.size+cO es
def jM:List E->Nat->List Nd
 | [],_=>[]
 | a::es,s=>a.flat s++jM es (s+a.size)
theorem aEv (es:List E)(a:E):cO (es++[a])=cO es+a.size:=by
 induction es with
 | nil=>simp[cO]
 | cons b es ih=>simp[cO,ih];omega
theorem sG:∀(es:List E) (a:E) (s:Nat),jM (es++[a]) s=jM es s++a.flat (s+cO es)
 | [],a,s=>by simp[jM,cO]
 | b::es,a,s=>by simp[jM,cO,sG es a,Nat.add_assoc]
theorem dB:∀(es:List E) (s:Nat),(jM es s).length=cO es
 | [],s=>rfl
 | a::es,s=>by simp[jM,cO,E.flat_len,dB es]
def p1:List E->Nat->Int
 | [],_=>0
 | a::_,s=>(s+a.size:Nat)-1
def p2:List E->Nat->Int
 | a::b::_,s=>(s+a.size+b.size:Nat)-1
 | _,_=>0
def p3:List E->Nat->Int
 | a::b::c::_,s=>(s+a.size+b.size+c.size:Nat)-1
 | _,_=>0
def mkE (o:Int):List E->E
 | [a]=>.un o a
 | [a,b]=>.bin o a b
 | a::b::c::_=>.tri o a b c
 | _=>.leaf (lf o 0 0 0 0 0)
theorem aMi {o:Int}{es:List E}(h:es.length=1\/es.length=2\/es.length=3)(s:Nat):(mkE o es).flat s=jM es s++[⟨o,p1 es s,p2 es s,p3 es s,0,0,0,0,0⟩]/\(mkE o es).size=cO es+1:=by
 match es,h with
 | [a],_=>simp[mkE,E.flat,E.size,jM,cO,p1,p2,p3]
 | [a,b],_=>simp[mkE,E.flat,E.size,jM,cO,p1,p2,p3]
 | [a,b,c],_=>simp[mkE,E.flat,E.size,jM,cO,p1,p2,p3,Nat.add_assoc]
 | [],h=>simp at h
 | _::_::_::_::_,h=>simp at h
inductive AR (nm:List aQ) (l0:List Tk):List E->List Tk->Prop
 | nil:AR nm l0 [] l0
 | one {a:E} {r:List Tk}:R nm (.at 0) l0 (some (a,r))->AR nm l0 [a] r
 | more {es:List E} {a:E} {l r:List Tk}:es≠[]->AR nm l0 es (.comma::l)->R nm (.at 0) l (some (a,r))->AR nm l0 (es++[a]) r
theorem AR.len {nm:List aQ}{l0:List Tk}{es:List E}{l:List Tk}(h:AR nm l0 es l):cO es+l.length<=l0.length:=by
 induction h with
 | nil=>simp[cO]
 | one h=>have:=oW h;simp[cO];omega
 | more _ _ h ih=>have:=oW h;rw[aEv];simp at ih;omega
theorem AR.nil_inv {nm:List aQ}{l0 l:List Tk}(h:AR nm l0 [] l):l=l0:=by
 generalize hx:([]:List E)=x at h
 cases h with
 | nil=>rfl
 | one _=>cases hx
 | more _ _ _=>simp at hx
theorem AR.one_inv {nm:List aQ}{l0 l:List Tk}{a:E}(h:AR nm l0 [a] l):R nm (.at 0) l0 (some (a,l)):=by
 generalize hx:[a]=x at h
 cases h with
 | nil=>cases hx
 | one h=>cases hx;exact h
 | @more es a' _ _ h1 _ _ =>
  cases es with
  | nil=>exact absurd rfl h1
  | cons b es=>simp at hx
theorem AR.two_inv {nm:List aQ}{l0 l:List Tk}{a b:E}(h:AR nm l0 [a,b] l):∃ r,R nm (.at 0) l0 (some (a,.comma::r))/\R nm (.at 0) r (some (b,l)):=by
 generalize hx:[a,b]=x at h
 cases h with
 | nil=>cases hx
 | one h=>cases hx
 | @more es a' _ _ h1 h2 h3 =>
  match es,hx,h2 with
  | [],hx,_=>simp at hx
  | [c],hx,h2=>simp at hx;obtain⟨rfl,rfl⟩:=hx;exact⟨_,h2.one_inv,h3⟩
  | _::_::_,hx,_=>simp at hx
theorem AR.three_inv {nm:List aQ}{l0 l:List Tk}{a b c:E}(h:AR nm l0 [a,b,c] l):∃ r r2,R nm (.at 0) l0 (some (a,.comma::r))/\R nm (.at 0) r (some (b,.comma::r2))/\R nm (.at 0) r2 (some (c,l)):=by
 generalize hx:[a,b,c]=x at h
 cases h with
 | nil=>cases hx
 | one h=>cases hx
 | @more es a' _ _ h1 h2 h3 =>
  match es,hx,h2 with
  | [],hx,_=>simp at hx
  | [_],hx,_=>simp at hx
  | [c,d],hx,h2=>simp at hx;obtain⟨rfl,rfl,rfl⟩:=hx;obtain⟨r,h4,h5⟩:=h2.two_inv;exact⟨_,_,h4,h5,h3⟩
  | _::_::_::_,hx,_=>simp at hx
theorem tN {t:Tk}{a:E}{l:List Tk}(h:l.head?≠some t):sF t (some (a,l))=none:=by
 unfold sF
 split
 ·rename_i heq
  cases heq
  split
  ·rename_i hk;subst hk;exact absurd rfl h
  ·rfl
 ·rfl
theorem AR.no_comma {nm:List aQ}{l0 l:List Tk}{es:List E}(h:AR nm l0 es l){s:aQ}(h0:0 < es.length)(h1:es.length < rH (aZ s))(hc:l.head?≠some .comma):R nm (.at 8) (.word s::.lp::l0) none:=by
 have h3:rH (aZ s)<=3:=by
  have:=rV (fG (by omega:0 < rH (aZ s)));omega
 match es,h with
 | [],_=>simp at h0
 | [a],h=>exact R.calln (by simp at h1;omega) h.one_inv (tN hc)
 | [a,b],h =>
  obtain⟨r,h4,h5⟩:=h.two_inv
  exact R.call3n (by simp at h1;omega) h4 (dF _ _ _) h5 (tN hc)
 | _::_::_::_,_=>simp at h1;omega
theorem AR.no_part {nm:List aQ}{l0 l:List Tk}{es:List E}(h:AR nm l0 es l){s:aQ}(h1:es.length < rH (aZ s)){l':List Tk}(hl:(es=[]/\l'=l)\/(es≠[]/\l=.comma::l'))(hr:R nm (.at 0) l' none):R nm (.at 8) (.word s::.lp::l0) none:=by
 have h3:=rV (fG (by omega:0 < rH (aZ s)))
 match es,h with
 | [],h =>
  have hl':l'=l0:=by
   rcases hl with⟨-,e⟩|⟨e,-⟩
   ·rw[e];exact h.nil_inv
   ·exact absurd rfl e
  subst hl'
  rcases h3 with h3|h3
  ·have:=R.call1 h3 hr;exact this
  ·exact R.calln (by omega) hr rfl
 | [a],h =>
  obtain rfl:l=.comma::l':=by
   rcases hl with⟨e,-⟩|⟨-,e⟩
   ·cases e
   ·exact e
  simp at h1
  rcases h3 with h3|h3|h3
  ·omega
  ·have:=R.call2 h3 h.one_inv (dF _ _ _) hr;exact this
  ·exact R.call3n h3 h.one_inv (dF _ _ _) hr rfl
 | [a,b],h =>
  obtain rfl:l=.comma::l':=by
   rcases hl with⟨e,-⟩|⟨-,e⟩
   ·cases e
   ·exact e
  simp at h1
  obtain⟨r,h4,h5⟩:=h.two_inv
  have:=R.call3 (s:=s) (by omega) h4 (dF _ _ _) h5 (dF _ _ _) hr
  exact this
 | _::_::_::_,_=>simp at h1;omega
theorem AR.ends {nm:List aQ}{l0 l:List Tk}{es:List E}(h:AR nm l0 es l){s:aQ}(h0:0 < es.length)(h1:es.length=rH (aZ s)):R nm (.at 8) (.word s::.lp::l0) ((sF .rp (some (mkE (aZ s) es,l)))):=by
 have h3:rH (aZ s)<=3:=by
  have:=rV (fG (by omega:0 < rH (aZ s)));omega
 have key:∀(f:E->E) (a:E),Option.map (fun p:E × List Tk=>(f p.1,p.2)) (sF .rp (some (a,l)))=sF .rp (some (f a,l)):=by
  intro f a
  cases l with
  | nil=>rfl
  | cons t l =>
   simp only[sF]
   split <;> rfl
 match es,h with
 | [],_=>simp at h0
 | [a],h =>
  have:=R.call1 (nm:=nm) h1.symm h.one_inv
  unfold aUy at this
  rw[key (fun e=>.un (aZ s) e)] at this
  exact this
 | [a,b],h =>
  obtain⟨r,h4,h5⟩:=h.two_inv
  have:=R.call2 (nm:=nm) h1.symm h4 (dF _ _ _) h5
  unfold aXj at this
  rw[key (fun e=>.bin (aZ s) a e)] at this
  exact this
 | [a,b,c],h =>
  obtain⟨r,r2,h4,h5,h6⟩:=h.three_inv
  have:=R.call3 (nm:=nm) h1.symm h4 (dF _ _ _) h5 (dF _ _ _) h6
  unfold aUx at this
  rw[key (fun e=>.tri (aZ s) a b e)] at this
  exact this
 | _::_::_::_::_,_=>simp at h1;omega
end Pz
