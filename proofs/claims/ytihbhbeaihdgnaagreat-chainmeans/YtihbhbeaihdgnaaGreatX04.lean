import Derived.Test.YtihbhbeaihdgnaaGreatXH
import Derived.Deep.Cut
import Derived.Test.YtihbhbeaihdgnaaGreatX03
import Derived.Test.YtihbhbeaihdgnaaGreatX02
set_option maxRecDepth 100000
set_option maxHeartbeats 32000000
set_option linter.unusedVariables false
namespace Go.Proofs.YtihbhbeaihdgnaaGreat
open Go.RowKit Go.IntWalk Lx Pz
theorem zX:∀(r:List UInt8) (n:Int),r.all D=true->1<=n->10 ^ r.length*n<=r.foldl (fun n c=>10*n+((c.toNat:Int)-48)) n
 | [],n,_,_=>by simp
 | c::r,n,h,hn=>by
  simp only[List.all_cons,Bool.and_eq_true] at h
  have hc:=aGy.1 h.1
  have:=zX r (10*n+((c.toNat:Int)-48)) h.2 (by omega)
  simp only[List.foldl_cons,List.length_cons]
  have h2:(10:Int) ^ r.length*(10*n)<=10 ^ r.length*(10*n+((c.toNat:Int)-48)):=Int.mul_le_mul_of_nonneg_left (by omega) (Int.pow_nonneg (by decide))
  rw[Int.pow_succ,Int.mul_assoc]
  omega
theorem aQn {s:aR}(h:num s=true):s.length<=10:=by
 cases s with
 | nil=>simp
 | cons c r =>
  have hd:(c::r).all D=true:=by simp only[num,Bool.and_eq_true] at h;exact h.1.1.2
  have hv:vl (c::r)<=2147483647:=by simp only[num,Bool.and_eq_true,decide_eq_true_eq] at h;exact h.2
  have hz:((c::r).headD 0==48&&decide (1 < (c::r).length))=false:=by simp only[num,Bool.and_eq_true,Bool.not_eq_true'] at h;exact h.1.2
  cases r with
  | nil=>simp
  | cons d r =>
   have h1:c≠48:=by
    intro e;subst e;simp at hz
   have hc:=aGy.1 (by simp at hd;exact hd.1:D c=true)
   have h48:(c.toNat:Int)≠48:=fun e=>h1 (UInt8.toNat_inj.1 (by simpa using (by omega:c.toNat=48)))
   have h2:10 ^ (d::r).length*((c.toNat:Int)-48)<=vl (c::d::r):=by
    have:=zX (d::r) ((c.toNat:Int)-48) (by simp at hd ⊢;exact hd.2) (by omega)
    have e:vl (c::d::r)=(d::r).foldl (fun n c=>10*n+((c.toNat:Int)-48)) ((c.toNat:Int)-48):=by simp[vl]
    rw[e];exact this
   rcases Nat.lt_or_ge (d::r).length 10 with hl|hl
   ·simp at hl ⊢;omega
   ·exfalso
    have h3:(10:Int) ^ 10<=10 ^ (d::r).length:=by
     have:=Nat.pow_le_pow_right (n:=10) (by decide) hl
     exact_mod_cast this
    have h4:(10:Int) ^ (d::r).length*1<=10 ^ (d::r).length*((c.toNat:Int)-48):=Int.mul_le_mul_of_nonneg_left (by omega) (Int.pow_nonneg (by decide))
    have:(10:Int) ^ 10=10000000000:=by decide
    omega
theorem aV6 {t:Tok}(h:Wf t):t.text.length<=16:=by
 rcases h with⟨hk,hn⟩|⟨hk,hn⟩|⟨hk,hn⟩
 ·have:=aQn hn;omega
 ·simp only[uX,Bool.and_eq_true,decide_eq_true_eq] at hn;exact hn.1.1.2
 ·have key:∀ a ∈ marks.map (·.1),a.length<=16:=by decide
  exact key _ hn
theorem aCg (l:List UInt8):(sB l).size=l.length:=by simp[ByteArray.size]
def aX4 (w W:World)(b:Nat)(T:List Tok)(NM:List aR)(BS:List Int)(NS:List Nd)(e:Ending)(W':World):Prop :=
 ((∀ v r,T.map ab≠.num v::r)/\e=pan/\Below w.heap.size w W')\/(∃ v t T',T=t::T'/\ab t=.num v/\e=.returned (.int .i64 v)/\(∃ m',Rd w W' b m' T' NM BS NS)/\Kp SX W W')
theorem aXd {s:aR}(h:num s=true):nv s=vl s:=by unfold nv;rw[if_pos h]
theorem pO {w W:World}{b:Nat}{m:Mm}{T:List Tok}{NM:List aR}{BS:List Int}{NS:List Nd}(h:Rd w W b m T NM BS NS) :
  Calls Tryz.prog 203 #[ptr b] W fun e W'=>aX4 w W b T NM BS NS e W':=by
 have HW:=aA h
 have F1:=aDg
 clear h
 go_enter Tryz.func203,Tryz.ntmps203
 go_wp2_with fail
 refine(aMi HW.o).mono ?_
 rintro e W1 (⟨rfl,rfl,hb⟩|⟨t,T',rfl,hwf,rfl,hR,hk⟩)
 ·have HB:=aA hb
  clear hb
  go_wp2_with fail
  exact⟨rfl,.inl ⟨fun v r e=>by simp at e,rfl,HB.o⟩⟩
 ·have HR:=aA hR
  have HK:=aA hk
  have HWf:=aA hwf
  have hn:=fun w=>iY (sB t.text) w (by rw[aCg];have:=aV6 hwf;unfold maxLen;omega)
  rw[qH] at hn
  have HN:=aA hn
  clear hR hk hwf hn
  by_cases hv:∃ v,ab t=.num v
  ·obtain⟨v,hv⟩:=hv
   obtain⟨h1,h2,h3⟩:=aLt HWf.o hv
   rw[aXd h2,h2,h3] at HN
   have HV:=aA hv
   clear h1 h2 h3 hv
   go_wp2_with fail
   refine(HN.o _).mono ?_
   rintro e W2 ⟨rfl,rfl⟩
   go_wp2_with fail
   go_ret
   exact .inr ⟨v,t,T',rfl,HV.o,rfl,HR.o,HK.o⟩
  ·have hv':∀ v,ab t≠.num v:=fun v e=>hv ⟨v,e⟩
   rw[aDz HWf.o hv'] at HN
   have HV:=aA hv'
   clear hv hv'
   go_wp2_with fail
   refine(HN.o _).mono ?_
   rintro e W2 ⟨rfl,rfl⟩
   go_wp2_with fail
   obtain⟨m',hm'⟩:=HR.o
   exact⟨rfl,.inl ⟨fun v r e=>by simp at e;exact HV.o v e.1,rfl,hm'.old⟩⟩
def aX5 (w W:World)(b:Nat)(T:List Tok)(NM:List aR)(BS:List Int)(NS:List Nd)(e:Ending)(W':World):Prop :=
 (off (T.map ab)=none/\e=pan/\Below w.heap.size w W')\/(∃ x P T',off (T.map ab)=some (x,T'.map ab)/\T=P++T'/\e=.returned (.int .i64 x)/\(∃ m',Rd w W' b m' T' NM BS NS)/\Kp SX W W')
theorem aMp {l:List Tk}(h1:∀ v r,l≠.num v::r)(h2:l.head?≠some (.op 5 9)):off l=none:=by
 unfold off
 split
 ·exact absurd rfl (h1 _ _)
 ·rename_i k o v r
  split
  ·rename_i hk
   obtain⟨rfl,rfl⟩:=hk
   exact absurd rfl h2
  ·rfl
 ·rfl
theorem aJc {l:List Tk}(h:∀ v r,l≠.num v::r):off (.op 5 9::l)=none:=by
 unfold off
 split
 ·rename_i heq;cases heq
 ·rename_i heq;cases heq;exact absurd rfl (h _ _)
 ·rfl
theorem pQ {w W:World}{b:Nat}{m:Mm}{T:List Tok}{NM:List aR}{BS:List Int}{NS:List Nd}(h:Rd w W b m T NM BS NS) :
  Calls Tryz.prog 242 #[ptr b] W fun e W'=>aX5 w W b T NM BS NS e W':=by
 have HW:=aA h
 have hw:=h.wf
 clear h
 by_cases hm:(T.map ab).head?=some (.op 5 9)
 ·obtain⟨r,hr⟩:∃ r,T.map ab=.op 5 9::r:=by
   cases hT:T.map ab with
   | nil=>rw[hT] at hm;cases hm
   | cons a r=>rw[hT] at hm;simp at hm;exact⟨r,by rw[hm]⟩
  obtain⟨t,T1,rfl,ht,hr1⟩:=aWp (s:=[45]) hw (by decide) (r:=r) hr
  have HH:=aA (show ab t=.op 5 9 from(bE (hw t (by simp)) (s:=[45]) (by decide)).1 ht)
  have ht:=aA ht
  clear hm hr hr1 hw
  go_enter Tryz.func242,Tryz.ntmps242
  go_wp2_with fail
  refine(kT HW.o _ ht.o).mono ?_
  rintro e W1 ⟨rfl,⟨m1,hR⟩,hk⟩
  have HR:=aA hR
  have HK:=aA hk
  clear hR hk
  go_wp2_with fail
  refine(pO HR.o).mono ?_
  rintro e W2 (⟨hn,rfl,hb⟩|⟨v,t2,T2,rfl,hv,rfl,hR,hk⟩)
  ·have HB:=aA hb
   have hn:=aA hn
   clear hb
   go_wp2_with fail
   exact⟨rfl,.inl ⟨by rw[List.map_cons,HH.o];exact aJc hn.o,rfl,HB.o⟩⟩
  ·have HR2:=aA hR
   have HK2:=aA (HK.o.trans hk)
   have hv:=aA hv
   have hb:=aA (show 0<=v/\v<=2147483647 by
    obtain⟨-,h2,h3⟩:=aLt (HR.o.wf t2 (by simp)) hv.o
    simp only[num,Bool.and_eq_true,decide_eq_true_eq] at h2
    rw[<-h3]
    exact⟨uM h2.1.1.2,h2.2⟩)
   obtain⟨v0,v1⟩:=hb.o
   clear hR hk
   go_wp2_with fail
   go_ret
   exact .inr ⟨-v,[t,t2],T2,by simp[HH.o,hv.o,off],rfl,rfl,HR2.o,HK2.o⟩
 ·have hs:=aA (gW (s:=[45]) hw (by decide) hm)
  have hm:=aA hm
  clear hw
  go_enter Tryz.func242,Tryz.ntmps242
  go_wp2_with fail
  refine(lK HW.o _ hs.o).mono ?_
  rintro e W1 ⟨rfl,hb⟩
  have HR:=aA (HW.o.later hb)
  have HK:=aA (Kp.of_below SX hb)
  clear hb
  go_wp2_with fail
  refine(pO HR.o).mono ?_
  rintro e W2 (⟨hn,rfl,hb⟩|⟨v,t2,T2,rfl,hv,rfl,hR,hk⟩)
  ·have HB:=aA hb
   have hn:=aA hn
   clear hb
   go_wp2_with fail
   exact⟨rfl,.inl ⟨aMp hn.o hm.o,rfl,HB.o⟩⟩
  ·have HR2:=aA hR
   have HK2:=aA (HK.o.trans hk)
   have hv:=aA hv
   clear hR hk
   go_wp2_with fail
   go_ret
   exact .inr ⟨v,[t2],T2,by simp[hv.o,off],rfl,rfl,HR2.o,HK2.o⟩
end Go.Proofs.YtihbhbeaihdgnaaGreat
namespace Go.Proofs.YtihbhbeaihdgnaaGreat
open Go.RowKit Go.IntWalk Lx Pz
theorem Kp.store_new {S:List TypeId}{W V:World}(h:Kp S W V){p:Addr}(hp:W.heap.size<=p.block)(u:Value):Kp S W (V.setCell p u) :=
 ⟨by have:=h.size;simp[World.setCell];omega,fun k cs t fr hk ht=>(Below.heap_setCell V p u k (by have:=(Array.getElem?_eq_some_iff.1 hk).1;omega)).trans (h.block k cs t fr hk ht)⟩
theorem Rd.kp {w W W':World}{b:Nat}{m:Mm}{T:List Tok}{NM:List aR}{BS:List Int}{NS:List Nd}(h:Rd w W b m T NM BS NS){t:TypeId}(hk:Kp [t] W W')(ht:t≠88/\t≠118/\t≠9/\t≠3/\t≠93)(hb:Below w.heap.size w W'):Rd w W' b m T NM BS NS:=by
 obtain⟨h1,h2,h3,h4,h5⟩:=ht
 exact⟨h.blk.kp hk (by simpa using Ne.symm h1),h.base,h.toks.kp hk (by simpa using Ne.symm h2),aU h.names hk (by simpa using Ne.symm h3),aU h.binds hk (by simpa using Ne.symm h4),aU h.nodes hk (by simpa using Ne.symm h5),h.wf,hb⟩
structure Pl (w W V:World)(b:Nat)(T:List Tok)(NM:List aR)(BS:List Int)(NS:List Nd)(q:Nat)(ty:TypeId)(cs:Array Value):Prop where
 rd:∃ m,Rd w V b m T NM BS NS
 kp:Kp SX W V
 va:aB V q ty cs
 q0:W.heap.size<=q
 w0:w.heap.size<=W.heap.size
theorem Pl.store {w W V:World}{b:Nat}{T:List Tok}{NM:List aR}{BS:List Int}{NS:List Nd}{q:Nat}{ty:TypeId}{cs:Array Value}(h:Pl w W V b T NM BS NS q ty cs)(ht:ty≠88/\ty≠118/\ty≠9/\ty≠3/\ty≠93)(i:Nat)(u:Value) :
  Pl w W (V.setCell ⟨q,i,none⟩ u) b T NM BS NS q ty (cs.setIfInBounds i u):=by
 obtain⟨m,hm⟩:=h.rd
 exact⟨⟨m,hm.kp (Kp.set h.va (by simp) i u) ht (hm.old.setCell (by have:=h.q0;have:=h.w0;show w.heap.size<=q;omega) u)⟩,h.kp.store_new h.q0 u,h.va.set i u,h.q0,h.w0⟩
theorem Pl.step {w W V V':World}{b:Nat}{T T':List Tok}{NM:List aR}{BS:List Int}{NS NS':List Nd}{q:Nat}{ty:TypeId}{cs:Array Value}(h:Pl w W V b T NM BS NS q ty cs)(ht:ty≠88/\ty≠118/\ty≠9/\ty≠3/\ty≠93)
  (hr:∃ m,Rd w V' b m T' NM BS NS') (hk:Kp SX V V'):Pl w W V' b T' NM BS NS' q ty cs :=
 ⟨hr,h.kp.trans hk,h.va.kp hk (by obtain⟨h1,h2,h3,h4,h5⟩:=ht;simp[h1,h5]),h.q0,h.w0⟩
theorem Pl.later {w W V V':World}{b:Nat}{T:List Tok}{NM:List aR}{BS:List Int}{NS:List Nd}{q:Nat}{ty:TypeId}{cs:Array Value}(h:Pl w W V b T NM BS NS q ty cs)(hb:Below V.heap.size V V'):Pl w W V' b T NM BS NS q ty cs:=by
 obtain⟨m,hm⟩:=h.rd
 exact⟨⟨m,hm.later hb⟩,h.kp.trans (Kp.of_below SX hb),h.va.below hb,h.q0,h.w0⟩
theorem Pl.begin {w W:World}{b:Nat}{m:Mm}{T:List Tok}{NM:List aR}{BS:List Int}{NS:List Nd}(h:Rd w W b m T NM BS NS)(ty:TypeId)(cs:Array Value):Pl w W (W.alloc (.cells cs ty)) b T NM BS NS W.heap.size ty cs :=
 ⟨⟨m,h.later (aC _ _)⟩,Kp.of_below SX (aC _ _),aB.new _ _ _,Nat.le_refl _,h.old.size⟩
def Ok (w W:World)(b:Nat)(T:List Tok)(NM:List aR)(BS:List Int)(NS:List Nd)(res:Option (E × List Tk))(e:Ending)(W':World):Prop :=
 (res=none/\e=pan/\Below w.heap.size w W') \/
 (∃ ex P T',res=some (ex,T'.map ab)/\T=P++T'/\e=.returned (.int .i64 ((NS.length+ex.size:Nat)-1:Int))/\(∃ m',Rd w W' b m' T' NM BS (NS++ex.flat NS.length))/\Kp SX W W')
theorem kV {n:Nat}(e:E)(h:e.size=1):Ending.returned (.int .i64 n)=.returned (.int .i64 ((n+e.size:Nat)-1:Int)):=aN (by omega)
theorem bT {T:List Tok}{x:Tk}(h:(T.map ab).head?=some x):∃ t T',T=t::T'/\ab t=x:=by
 cases T with
 | nil=>simp at h
 | cons t T=>simp at h;exact⟨t,T,rfl,h⟩
end Go.Proofs.YtihbhbeaihdgnaaGreat
namespace Go.Proofs.YtihbhbeaihdgnaaGreat
open Go.RowKit Go.IntWalk Lx Pz
variable {back x:Int} {W:World} {b:Nat}
theorem aEa {q:Bool}{l:List Tk}(h:l.head?≠some .lp):vD q l=none:=by
 unfold vD
 split
 ·exact absurd rfl h
 ·rfl
theorem aXj (v:Int)(l:List Tk)(h:¬v=0):vD true (.lp::.num v::.comma::l)=jY v l:=by simp[vD,h]
theorem aVc (l:List Tk):vD true (.lp::.num 0::l)=none:=by
 simp only[vD,if_true]
 split
 ·rename_i heq;cases heq;simp
 ·rfl
theorem aVe {l:List Tk}(h:∀ v r,l≠.num v::r):vD true (.lp::l)=none:=by
 simp only[vD,if_true]
 split
 ·exact absurd rfl (h _ _)
 ·rfl
theorem aVd {v:Int}{l:List Tk}(h:l.head?≠some .comma):vD true (.lp::.num v::l)=none:=by
 simp only[vD,if_true]
 split
 ·rename_i heq;cases heq;exact absurd rfl h
 ·rfl
theorem aAk {l:List Tk}(h:off l=none):jY back l=none:=by unfold jY;rw[h]
theorem aD3 {l r:List Tk}(h:off l=some (x,r))(h1:r.head?≠some .comma)(h2:r.head?≠some .rp):jY back l=none:=by
 unfold jY
 rw[h]
 split
 ·rename_i heq;cases heq;exact absurd rfl h2
 ·rename_i heq;cases heq;exact absurd rfl h1
 ·rfl
theorem aD4 {l r:List Tk}(h:off l=some (x,.rp::r)):jY back l=some (.leaf (lf 3 0 back 1 x 0),r):=by unfold jY;rw[h]
theorem aAl {l r:List Tk}(h:off l=some (x,.comma::r))(h1:off r=none):jY back l=none:=by unfold jY;rw[h];simp only[h1]
theorem aAm {y:Int}{l r r2:List Tk}(h:off l=some (x,.comma::r))(h1:off r=some (y,r2))(h2:r2.head?≠some .rp):jY back l=none:=by
 unfold jY
 rw[h]
 simp only[h1]
 split
 ·rename_i heq;cases heq;exact absurd rfl h2
 ·rfl
theorem aD5 {y:Int}{l r r2:List Tk}(h:off l=some (x,.comma::r))(h1:off r=some (y,.rp::r2)):jY back l=some (.leaf (lf 3 0 back 2 x y),r2):=by unfold jY;rw[h];simp only[h1]
abbrev pl4 (a b c d:Int):Array Value:=#[.int .i64 a,.int .i64 b,.int .i64 c,.int .i64 d]
theorem fH {t:TypeId}{x y z u:Value}(h:aB W b t #[x,y,z,u]):W.cell? ⟨b,0,none⟩=some x/\W.cell? ⟨b,1,none⟩=some y/\W.cell? ⟨b,2,none⟩=some z/\W.cell? ⟨b,3,none⟩=some u :=
 ⟨h.cell 0 rfl,h.cell 1 rfl,h.cell 2 rfl,h.cell 3 rfl⟩
theorem uR {t:TypeId}{x y z u:Value}(h:aB W b t #[x,y,z,u]):W.frozen? ⟨b,0,none⟩=false/\W.frozen? ⟨b,1,none⟩=false/\W.frozen? ⟨b,2,none⟩=false/\W.frozen? ⟨b,3,none⟩=false :=
 ⟨h.frozen 0,h.frozen 1,h.frozen 2,h.frozen 3⟩
theorem aQ2 {w:World}{m:Mm}{T:List Tok}{NM:List aR}{BS:List Int}{NS:List Nd}(h:Rd w W b m T NM BS NS)(h3:NS.length<=2000000) :
  Calls Tryz.prog 232 #[ptr b,.string ⟨#[112]⟩] W fun e W'=>Ok w W b T NM BS NS (vD false (T.map ab)) e W':=by
 have H3:=aA h3
 have hw:=aA h.wf
 have HP0:=aA (Pl.begin h 91 (pl4 0 0 0 0))
 clear h h3
 go_enter Tryz.func232,Tryz.ntmps232
 go_upto_region 2 with fail
 obtain⟨q,hq⟩:∃ q,W.heap.size=q:=⟨_,rfl⟩
 rw[hq] at HP0 ⊢
 generalize W.alloc (.cells (pl4 0 0 0 0) 91)=V0 at HP0 ⊢
 clear hq
 obtain⟨m0,hm0⟩:=HP0.o.rd
 have HM0:=aA hm0
 clear hm0
 by_cases hl:(T.map ab).head?=some .lp
 ·obtain⟨t1,T1,rfl,h1⟩:=bT hl
  have hs1:=aA ((bE (hw.o t1 (by simp)) (s:=[40]) (by decide)).2 h1)
  have H1:=aA h1
  clear hl h1 hw
  go_wp2_with fail
  refine(dK HM0.o _ hs1.o).mono ?_
  rintro e V1 ⟨rfl,hR,hk⟩
  have HP:=aA (HP0.o.step (by decide) hR hk)
  clear hR hk HP0 HM0
  have HQ:=aA (show vD false ((t1::T1).map ab)=jY 0 (T1.map ab) by rw[List.map_cons,H1.o];rfl)
  obtain⟨m1,hm1⟩:=HP.o.rd
  have HM1:=aA hm1
  clear hm1
  go_wp2_with fail
  refine(pQ HM1.o).mono ?_
  rintro e V3 (⟨hn,rfl,hb⟩|⟨x,P3,T3,ho,rfl,rfl,hR,hk⟩)
  ·have HB:=aA hb
   have hn:=aA hn
   clear hb
   go_wp2_with fail
   exact⟨rfl,.inl ⟨HQ.o.trans (aAk hn.o),rfl,HB.o⟩⟩
  ·have HO:=aA ho
   have HP3:=aA (HP.o.step (by decide) hR hk)
   clear hR hk ho
   obtain⟨c0,c1,c2,c3⟩:=fH HP3.o.va
   obtain⟨y0,y1,y2,y3⟩:=uR HP3.o.va
   have HP4:=aA ((HP3.o.store (by decide) 1 (.int .i64 1)).store (by decide) 2 (.int .i64 x))
   have e4:((pl4 0 0 0 0).setIfInBounds 1 (.int .i64 1)).setIfInBounds 2 (.int .i64 x)=pl4 0 1 x 0:=rfl
   rw[e4] at HP4
   clear e4
   clear HP HP3 HM1
   go_upto_region 9 with fail
   generalize (V3.setCell ⟨q,1,none⟩ (.int .i64 1)).setCell ⟨q,2,none⟩ (.int .i64 x)=V4 at HP4 ⊢
   clear c0 c1 c2 c3 y0 y1 y2 y3
   obtain⟨m4,hm4⟩:=HP4.o.rd
   have hw4:=aA hm4.wf
   have HM4:=aA hm4
   clear hm4
   by_cases hc:(T3.map ab).head?=some .comma
   ·obtain⟨t5,T5,rfl,h5⟩:=bT hc
    have hs5:=aA ((bE (hw4.o t5 (by simp)) (s:=[44]) (by decide)).2 h5)
    have H5:=aA h5
    clear hc h5 hw4
    go_wp2_with fail
    refine(kT HM4.o _ hs5.o).mono ?_
    rintro e V5 ⟨rfl,hR,hk⟩
    have HP5:=aA (HP4.o.step (by decide) hR hk)
    clear hR hk HP4 HM4
    obtain⟨m5,hm5⟩:=HP5.o.rd
    have HM5:=aA hm5
    clear hm5
    go_wp2_with fail
    refine(pQ HM5.o).mono ?_
    rintro e V6 (⟨hn,rfl,hb⟩|⟨y,P6,T6,ho2,rfl,rfl,hR,hk⟩)
    ·have HB:=aA hb
     have hn:=aA hn
     clear hb
     go_wp2_with fail
     exact⟨rfl,.inl ⟨HQ.o.trans (aAl (by rw[HO.o,List.map_cons,H5.o]) hn.o),rfl,HB.o⟩⟩
    ·have HO2:=aA ho2
     have HP6:=aA (HP5.o.step (by decide) hR hk)
     clear hR hk ho2
     obtain⟨c0,c1,c2,c3⟩:=fH HP6.o.va
     obtain⟨y0,y1,y2,y3⟩:=uR HP6.o.va
     have HP7:=aA ((HP6.o.store (by decide) 1 (.int .i64 2)).store (by decide) 3 (.int .i64 y))
     have e7:((pl4 0 1 x 0).setIfInBounds 1 (.int .i64 2)).setIfInBounds 3 (.int .i64 y)=pl4 0 2 x y:=rfl
     rw[e7] at HP7
     clear e7 HP5 HP6 HM5
     go_upto_region 11 with fail
     generalize (V6.setCell ⟨q,1,none⟩ (.int .i64 2)).setCell ⟨q,3,none⟩ (.int .i64 y)=V7 at HP7 ⊢
     clear c0 c1 c2 c3 y0 y1 y2 y3
     obtain⟨m7,hm7⟩:=HP7.o.rd
     have hw7:=aA hm7.wf
     have HM7:=aA hm7
     clear hm7
     by_cases hr:(T6.map ab).head?=some .rp
     ·obtain⟨t8,T8,rfl,h8⟩:=bT hr
      have hs8:=aA ((bE (hw7.o t8 (by simp)) (s:=[41]) (by decide)).2 h8)
      have H8:=aA h8
      clear hr h8 hw7
      go_wp2_with fail
      refine(dK HM7.o _ hs8.o).mono ?_
      rintro e V8 ⟨rfl,hR,hk⟩
      have HP8:=aA (HP7.o.step (by decide) hR hk)
      clear hR hk HP7 HM7
      obtain⟨m8,hm8⟩:=HP8.o.rd
      have HM8:=aA hm8
      clear hm8
      obtain⟨c0,c1,c2,c3⟩:=fH HP8.o.va
      go_wp2_with fail
      refine(eY HM8.o (lf 3 0 0 2 x y) H3.o).mono ?_
      rintro e V9 ⟨rfl,hR,hk⟩
      have HR9:=aA hR
      have HK9:=aA (HP8.o.kp.trans hk)
      clear hR hk c0 c1 c2 c3
      go_wp2_with fail
      go_ret
      exact .inr ⟨_,t1::(P3++t5::(P6++[t8])),T8,HQ.o.trans (aD5 (by rw[HO.o,List.map_cons,H5.o]) (by rw[HO2.o,List.map_cons,H8.o])),by simp,kV _ rfl,HR9.o,HK9.o⟩
     ·have hs8:=aA (gW (s:=[41]) hw7.o (by decide) hr)
      have HR:=aA hr
      clear hr hw7
      go_wp2_with fail
      refine(eT HM7.o _ hs8.o).mono ?_
      rintro e V8 ⟨rfl,hb⟩
      have HB:=aA (bel HM7.o.old hb)
      clear hb
      go_wp2_with fail
      exact⟨rfl,.inl ⟨HQ.o.trans (aAm (by rw[HO.o,List.map_cons,H5.o]) HO2.o HR.o),rfl,HB.o⟩⟩
   ·have hs5:=aA (gW (s:=[44]) hw4.o (by decide) hc)
    have HC:=aA hc
    clear hc hw4
    go_wp2_with fail
    refine(lK HM4.o _ hs5.o).mono ?_
    rintro e V5 ⟨rfl,hb⟩
    have HP7:=aA (HP4.o.later hb)
    clear hb HP4 HM4 hs5
    obtain⟨m7,hm7⟩:=HP7.o.rd
    have hw7:=aA hm7.wf
    have HM7:=aA hm7
    clear hm7
    by_cases hr:(T3.map ab).head?=some .rp
    ·obtain⟨t8,T8,rfl,h8⟩:=bT hr
     have hs8:=aA ((bE (hw7.o t8 (by simp)) (s:=[41]) (by decide)).2 h8)
     have H8:=aA h8
     clear hr h8 hw7
     go_wp2_with fail
     refine(dK HM7.o _ hs8.o).mono ?_
     rintro e V8 ⟨rfl,hR,hk⟩
     have HP8:=aA (HP7.o.step (by decide) hR hk)
     clear hR hk HP7 HM7
     obtain⟨m8,hm8⟩:=HP8.o.rd
     have HM8:=aA hm8
     clear hm8
     obtain⟨c0,c1,c2,c3⟩:=fH HP8.o.va
     go_wp2_with fail
     refine(eY HM8.o (lf 3 0 0 1 x 0) H3.o).mono ?_
     rintro e V9 ⟨rfl,hR,hk⟩
     have HR9:=aA hR
     have HK9:=aA (HP8.o.kp.trans hk)
     clear hR hk c0 c1 c2 c3
     go_wp2_with fail
     go_ret
     exact .inr ⟨_,t1::(P3++[t8]),T8,HQ.o.trans (aD4 (by rw[HO.o,List.map_cons,H8.o])),by simp,kV _ rfl,HR9.o,HK9.o⟩
    ·have hs8:=aA (gW (s:=[41]) hw7.o (by decide) hr)
     have HR:=aA hr
     clear hr hw7
     go_wp2_with fail
     refine(eT HM7.o _ hs8.o).mono ?_
     rintro e V8 ⟨rfl,hb⟩
     have HB:=aA (bel HM7.o.old hb)
     clear hb
     go_wp2_with fail
     exact⟨rfl,.inl ⟨HQ.o.trans (aD3 HO.o HC.o HR.o),rfl,HB.o⟩⟩
 ·have hs1:=aA (gW (s:=[40]) hw.o (by decide) hl)
  have HL:=aA hl
  clear hl hw
  go_wp2_with fail
  refine(eT HM0.o _ hs1.o).mono ?_
  rintro e V1 ⟨rfl,hb⟩
  have HB:=aA (bel HM0.o.old hb)
  clear hb
  go_wp2_with fail
  exact⟨rfl,.inl ⟨aEa HL.o,rfl,HB.o⟩⟩
theorem aQ3 {w:World}{m:Mm}{T:List Tok}{NM:List aR}{BS:List Int}{NS:List Nd}(h:Rd w W b m T NM BS NS)(h3:NS.length<=2000000) :
  Calls Tryz.prog 232 #[ptr b,.string ⟨#[113]⟩] W fun e W'=>Ok w W b T NM BS NS (vD true (T.map ab)) e W':=by
 have H3:=aA h3
 have hw:=aA h.wf
 have HP0:=aA (Pl.begin h 91 (pl4 0 0 0 0))
 clear h h3
 go_enter Tryz.func232,Tryz.ntmps232
 go_upto_region 2 with fail
 obtain⟨q,hq⟩:∃ q,W.heap.size=q:=⟨_,rfl⟩
 rw[hq] at HP0 ⊢
 generalize W.alloc (.cells (pl4 0 0 0 0) 91)=V0 at HP0 ⊢
 clear hq
 obtain⟨m0,hm0⟩:=HP0.o.rd
 have HM0:=aA hm0
 clear hm0
 by_cases hl:(T.map ab).head?=some .lp
 ·obtain⟨t1,T1,rfl,h1⟩:=bT hl
  have hs1:=aA ((bE (hw.o t1 (by simp)) (s:=[40]) (by decide)).2 h1)
  have H1:=aA h1
  clear hl h1 hw
  go_wp2_with fail
  refine(dK HM0.o _ hs1.o).mono ?_
  rintro e V1 ⟨rfl,hR,hk⟩
  have HP:=aA (HP0.o.step (by decide) hR hk)
  clear hR hk HP0 HM0
  have HQ1:=aA (show ((t1::T1).map ab)=.lp::T1.map ab by rw[List.map_cons,H1.o])
  obtain⟨m1,hm1⟩:=HP.o.rd
  have HM1:=aA hm1
  clear hm1
  go_wp2_with fail
  refine(pO HM1.o).mono ?_
  rintro e V2 (⟨hn,rfl,hb⟩|⟨v,t2,T2,rfl,hv,rfl,hR,hk⟩)
  ·have HB:=aA hb
   have hn:=aA hn
   clear hb
   go_wp2_with fail
   exact⟨rfl,.inl ⟨by rw[HQ1.o];exact aVe hn.o,rfl,HB.o⟩⟩
  ·have HV:=aA hv
   have HP2:=aA (HP.o.step (by decide) hR hk)
   clear hR hk hv HM1 HP
   obtain⟨c0,c1,c2,c3⟩:=fH HP2.o.va
   obtain⟨y0,y1,y2,y3⟩:=uR HP2.o.va
   have HP3:=aA (HP2.o.store (by decide) 0 (.int .i64 v))
   have e3:(pl4 0 0 0 0).setIfInBounds 0 (.int .i64 v)=pl4 v 0 0 0:=rfl
   rw[e3] at HP3
   clear e3 HP2
   go_upto_region 5 with fail
   generalize V2.setCell ⟨q,0,none⟩ (.int .i64 v)=V3 at HP3 ⊢
   clear c0 c1 c2 c3 y0 y1 y2 y3
   obtain⟨c0,c1,c2,c3⟩:=fH HP3.o.va
   have HQ2:=aA (show ((t1::t2::T2).map ab)=.lp::.num v::T2.map ab by rw[HQ1.o,List.map_cons,HV.o])
   by_cases hz:v=0
   ·subst hz
    have hold:=HP3.o.rd
    have HB:=aA (show Below w.heap.size w V3 from by obtain⟨m,hm⟩:=HP3.o.rd;exact hm.old)
    go_wp2_with fail
    exact⟨rfl,.inl ⟨by rw[HQ2.o];exact aVc _,rfl,HB.o⟩⟩
   ·have hz':(v==0)=false:=by simpa using hz
    have HZ:=aA hz
    clear hz
    obtain⟨m3,hm3⟩:=HP3.o.rd
    have HM3:=aA hm3
    have hw3:=aA hm3.wf
    clear hm3
    by_cases hc2:(T2.map ab).head?=some .comma
    ·obtain⟨t3,T3',rfl,h3⟩:=bT hc2
     have hs3:=aA ((bE (hw3.o t3 (by simp)) (s:=[44]) (by decide)).2 h3)
     have H3':=aA h3
     clear hc2 h3 hw3
     go_wp2_with fail
     refine(dK HM3.o _ hs3.o).mono ?_
     rintro e V4' ⟨rfl,hR,hk⟩
     have HP:=aA (HP3.o.step (by decide) hR hk)
     clear hR hk HP3 HM3 c0 c1 c2 c3 hz'
     have HQ:=aA (show vD true ((t1::t2::t3::T3').map ab)=jY v (T3'.map ab) by rw[HQ2.o,List.map_cons,H3'.o];exact aXj v _ HZ.o)
     obtain⟨m1,hm1⟩:=HP.o.rd
     have HM1:=aA hm1
     clear hm1
     go_wp2_with fail
     refine(pQ HM1.o).mono ?_
     rintro e V3 (⟨hn,rfl,hb⟩|⟨x,P3,T3,ho,rfl,rfl,hR,hk⟩)
     ·have HB:=aA hb
      have hn:=aA hn
      clear hb
      go_wp2_with fail
      exact⟨rfl,.inl ⟨HQ.o.trans (aAk hn.o),rfl,HB.o⟩⟩
     ·have HO:=aA ho
      have HP3:=aA (HP.o.step (by decide) hR hk)
      clear hR hk ho
      obtain⟨c0,c1,c2,c3⟩:=fH HP3.o.va
      obtain⟨y0,y1,y2,y3⟩:=uR HP3.o.va
      have HP4:=aA ((HP3.o.store (by decide) 1 (.int .i64 1)).store (by decide) 2 (.int .i64 x))
      have e4:((pl4 v 0 0 0).setIfInBounds 1 (.int .i64 1)).setIfInBounds 2 (.int .i64 x)=pl4 v 1 x 0:=rfl
      rw[e4] at HP4
      clear e4
      clear HP HP3 HM1
      go_upto_region 9 with fail
      generalize (V3.setCell ⟨q,1,none⟩ (.int .i64 1)).setCell ⟨q,2,none⟩ (.int .i64 x)=V4 at HP4 ⊢
      clear c0 c1 c2 c3 y0 y1 y2 y3
      obtain⟨m4,hm4⟩:=HP4.o.rd
      have hw4:=aA hm4.wf
      have HM4:=aA hm4
      clear hm4
      by_cases hc:(T3.map ab).head?=some .comma
      ·obtain⟨t5,T5,rfl,h5⟩:=bT hc
       have hs5:=aA ((bE (hw4.o t5 (by simp)) (s:=[44]) (by decide)).2 h5)
       have H5:=aA h5
       clear hc h5 hw4
       go_wp2_with fail
       refine(kT HM4.o _ hs5.o).mono ?_
       rintro e V5 ⟨rfl,hR,hk⟩
       have HP5:=aA (HP4.o.step (by decide) hR hk)
       clear hR hk HP4 HM4
       obtain⟨m5,hm5⟩:=HP5.o.rd
       have HM5:=aA hm5
       clear hm5
       go_wp2_with fail
       refine(pQ HM5.o).mono ?_
       rintro e V6 (⟨hn,rfl,hb⟩|⟨y,P6,T6,ho2,rfl,rfl,hR,hk⟩)
       ·have HB:=aA hb
        have hn:=aA hn
        clear hb
        go_wp2_with fail
        exact⟨rfl,.inl ⟨HQ.o.trans (aAl (by rw[HO.o,List.map_cons,H5.o]) hn.o),rfl,HB.o⟩⟩
       ·have HO2:=aA ho2
        have HP6:=aA (HP5.o.step (by decide) hR hk)
        clear hR hk ho2
        obtain⟨c0,c1,c2,c3⟩:=fH HP6.o.va
        obtain⟨y0,y1,y2,y3⟩:=uR HP6.o.va
        have HP7:=aA ((HP6.o.store (by decide) 1 (.int .i64 2)).store (by decide) 3 (.int .i64 y))
        have e7:((pl4 v 1 x 0).setIfInBounds 1 (.int .i64 2)).setIfInBounds 3 (.int .i64 y)=pl4 v 2 x y:=rfl
        rw[e7] at HP7
        clear e7 HP5 HP6 HM5
        go_upto_region 11 with fail
        generalize (V6.setCell ⟨q,1,none⟩ (.int .i64 2)).setCell ⟨q,3,none⟩ (.int .i64 y)=V7 at HP7 ⊢
        clear c0 c1 c2 c3 y0 y1 y2 y3
        obtain⟨m7,hm7⟩:=HP7.o.rd
        have hw7:=aA hm7.wf
        have HM7:=aA hm7
        clear hm7
        by_cases hr:(T6.map ab).head?=some .rp
        ·obtain⟨t8,T8,rfl,h8⟩:=bT hr
         have hs8:=aA ((bE (hw7.o t8 (by simp)) (s:=[41]) (by decide)).2 h8)
         have H8:=aA h8
         clear hr h8 hw7
         go_wp2_with fail
         refine(dK HM7.o _ hs8.o).mono ?_
         rintro e V8 ⟨rfl,hR,hk⟩
         have HP8:=aA (HP7.o.step (by decide) hR hk)
         clear hR hk HP7 HM7
         obtain⟨m8,hm8⟩:=HP8.o.rd
         have HM8:=aA hm8
         clear hm8
         obtain⟨c0,c1,c2,c3⟩:=fH HP8.o.va
         go_wp2_with fail
         refine(eY HM8.o (lf 3 0 v 2 x y) H3.o).mono ?_
         rintro e V9 ⟨rfl,hR,hk⟩
         have HR9:=aA hR
         have HK9:=aA (HP8.o.kp.trans hk)
         clear hR hk c0 c1 c2 c3
         go_wp2_with fail
         go_ret
         exact .inr ⟨_,t1::t2::t3::(P3++t5::(P6++[t8])),T8,HQ.o.trans (aD5 (by rw[HO.o,List.map_cons,H5.o]) (by rw[HO2.o,List.map_cons,H8.o])),by simp,kV _ rfl,HR9.o,HK9.o⟩
        ·have hs8:=aA (gW (s:=[41]) hw7.o (by decide) hr)
         have HR:=aA hr
         clear hr hw7
         go_wp2_with fail
         refine(eT HM7.o _ hs8.o).mono ?_
         rintro e V8 ⟨rfl,hb⟩
         have HB:=aA (bel HM7.o.old hb)
         clear hb
         go_wp2_with fail
         exact⟨rfl,.inl ⟨HQ.o.trans (aAm (by rw[HO.o,List.map_cons,H5.o]) HO2.o HR.o),rfl,HB.o⟩⟩
      ·have hs5:=aA (gW (s:=[44]) hw4.o (by decide) hc)
       have HC:=aA hc
       clear hc hw4
       go_wp2_with fail
       refine(lK HM4.o _ hs5.o).mono ?_
       rintro e V5 ⟨rfl,hb⟩
       have HP7:=aA (HP4.o.later hb)
       clear hb HP4 HM4 hs5
       obtain⟨m7,hm7⟩:=HP7.o.rd
       have hw7:=aA hm7.wf
       have HM7:=aA hm7
       clear hm7
       by_cases hr:(T3.map ab).head?=some .rp
       ·obtain⟨t8,T8,rfl,h8⟩:=bT hr
        have hs8:=aA ((bE (hw7.o t8 (by simp)) (s:=[41]) (by decide)).2 h8)
        have H8:=aA h8
        clear hr h8 hw7
        go_wp2_with fail
        refine(dK HM7.o _ hs8.o).mono ?_
        rintro e V8 ⟨rfl,hR,hk⟩
        have HP8:=aA (HP7.o.step (by decide) hR hk)
        clear hR hk HP7 HM7
        obtain⟨m8,hm8⟩:=HP8.o.rd
        have HM8:=aA hm8
        clear hm8
        obtain⟨c0,c1,c2,c3⟩:=fH HP8.o.va
        go_wp2_with fail
        refine(eY HM8.o (lf 3 0 v 1 x 0) H3.o).mono ?_
        rintro e V9 ⟨rfl,hR,hk⟩
        have HR9:=aA hR
        have HK9:=aA (HP8.o.kp.trans hk)
        clear hR hk c0 c1 c2 c3
        go_wp2_with fail
        go_ret
        exact .inr ⟨_,t1::t2::t3::(P3++[t8]),T8,HQ.o.trans (aD4 (by rw[HO.o,List.map_cons,H8.o])),by simp,kV _ rfl,HR9.o,HK9.o⟩
       ·have hs8:=aA (gW (s:=[41]) hw7.o (by decide) hr)
        have HR:=aA hr
        clear hr hw7
        go_wp2_with fail
        refine(eT HM7.o _ hs8.o).mono ?_
        rintro e V8 ⟨rfl,hb⟩
        have HB:=aA (bel HM7.o.old hb)
        clear hb
        go_wp2_with fail
        exact⟨rfl,.inl ⟨HQ.o.trans (aD3 HO.o HC.o HR.o),rfl,HB.o⟩⟩
    ·have hs3:=aA (gW (s:=[44]) hw3.o (by decide) hc2)
     have HC2:=aA hc2
     clear hc2 hw3
     go_wp2_with fail
     refine(eT HM3.o _ hs3.o).mono ?_
     rintro e V4 ⟨rfl,hb⟩
     have HB:=aA (bel HM3.o.old hb)
     clear hb
     go_wp2_with fail
     exact⟨rfl,.inl ⟨by rw[HQ2.o];exact aVd HC2.o,rfl,HB.o⟩⟩
 ·have hs1:=aA (gW (s:=[40]) hw.o (by decide) hl)
  have HL:=aA hl
  clear hl hw
  go_wp2_with fail
  refine(eT HM0.o _ hs1.o).mono ?_
  rintro e V1 ⟨rfl,hb⟩
  have HB:=aA (bel HM0.o.old hb)
  clear hb
  go_wp2_with fail
  exact⟨rfl,.inl ⟨aEa HL.o,rfl,HB.o⟩⟩
end Go.Proofs.YtihbhbeaihdgnaaGreat
namespace Pz
open Lx
theorem aSd {nm:List aR}{s:aR}{e:E}(h:wd nm s=some e):∃ n,e=.leaf n:=by
 unfold wd at h
 split at h
 ·cases h;exact⟨_,rfl⟩
 ·split at h
  ·cases h;exact⟨_,rfl⟩
  ·cases h
theorem aWn {nm:List aR}{c:Nat}{l:List Tk}{e:E}(h:G nm c l e):e.size<=l.length:=by
 induction h with
 | up _ _ ih=>exact ih
 | sel _ _ _ ih1 ih2 ih3=>simp[E.size];omega
 | bin _ _ _ ih1 ih2=>simp[E.size];omega
 | neg _ ih=>simp[E.size];omega
 | par _ ih=>simp;omega
 | num v=>simp[E.size]
 | word _ _ _ h=>obtain⟨n,rfl⟩:=aSd h;simp[E.size]
 | place _ h=>obtain⟨m,-,-,⟨n,rfl,-⟩,-⟩:=pU h;simp[E.size]
 | call1 _ _ ih=>simp[E.size];omega
 | call2 _ _ _ ih ih2=>simp[E.size];omega
 | call3 _ _ _ _ ih ih2 ih3=>simp[E.size];omega
theorem oP {nm:List aR}{c:Nat}{l r:List Tk}{e:E}(h:R nm (.at c) l (some (e,r))):e.size+r.length<=l.length:=by
 obtain⟨p,rfl,hg⟩:=sound h e r rfl
 have:=aWn hg
 rw[List.length_append];omega
def cZ:List E->Nat
 | []=>0
 | a::es=>a.size+cZ es
def jK:List E->Nat->List Nd
 | [],_=>[]
 | a::es,s=>a.flat s++jK es (s+a.size)
theorem aEv (es:List E)(a:E):cZ (es++[a])=cZ es+a.size:=by
 induction es with
 | nil=>simp[cZ]
 | cons b es ih=>simp[cZ,ih];omega
theorem sD:∀(es:List E) (a:E) (s:Nat),jK (es++[a]) s=jK es s++a.flat (s+cZ es)
 | [],a,s=>by simp[jK,cZ]
 | b::es,a,s=>by simp[jK,cZ,sD es a,Nat.add_assoc]
theorem dC:∀(es:List E) (s:Nat),(jK es s).length=cZ es
 | [],s=>rfl
 | a::es,s=>by simp[jK,cZ,E.flat_len,dC es]
def p1:List E->Nat->Int
 | [],_=>0
 | a::_,s=>(s+a.size:Nat)-1
def p2:List E->Nat->Int
 | a::b::_,s=>(s+a.size+b.size:Nat)-1
 | _,_=>0
def p3:List E->Nat->Int
 | a::b::c::_,s=>(s+a.size+b.size+c.size:Nat)-1
 | _,_=>0
def mkE (o:Int):List E->E
 | [a]=>.un o a
 | [a,b]=>.bin o a b
 | a::b::c::_=>.tri o a b c
 | _=>.leaf (lf o 0 0 0 0 0)
theorem aMa {o:Int}{es:List E}(h:es.length=1\/es.length=2\/es.length=3)(s:Nat):(mkE o es).flat s=jK es s++[⟨o,p1 es s,p2 es s,p3 es s,0,0,0,0,0⟩]/\(mkE o es).size=cZ es+1:=by
 match es,h with
 | [a],_=>simp[mkE,E.flat,E.size,jK,cZ,p1,p2,p3]
 | [a,b],_=>simp[mkE,E.flat,E.size,jK,cZ,p1,p2,p3]
 | [a,b,c],_=>simp[mkE,E.flat,E.size,jK,cZ,p1,p2,p3,Nat.add_assoc]
 | [],h=>simp at h
 | _::_::_::_::_,h=>simp at h
inductive AR (nm:List aR) (l0:List Tk):List E->List Tk->Prop
 | nil:AR nm l0 [] l0
 | one {a:E} {r:List Tk}:R nm (.at 0) l0 (some (a,r))->AR nm l0 [a] r
 | more {es:List E} {a:E} {l r:List Tk}:es≠[]->AR nm l0 es (.comma::l)->R nm (.at 0) l (some (a,r))->AR nm l0 (es++[a]) r
theorem AR.len {nm:List aR}{l0:List Tk}{es:List E}{l:List Tk}(h:AR nm l0 es l):cZ es+l.length<=l0.length:=by
 induction h with
 | nil=>simp[cZ]
 | one h=>have:=oP h;simp[cZ];omega
 | more _ _ h ih=>have:=oP h;rw[aEv];simp at ih;omega
theorem AR.nil_inv {nm:List aR}{l0 l:List Tk}(h:AR nm l0 [] l):l=l0:=by
 generalize hx:([]:List E)=x at h
 cases h with
 | nil=>rfl
 | one _=>cases hx
 | more _ _ _=>simp at hx
theorem AR.one_inv {nm:List aR}{l0 l:List Tk}{a:E}(h:AR nm l0 [a] l):R nm (.at 0) l0 (some (a,l)):=by
 generalize hx:[a]=x at h
 cases h with
 | nil=>cases hx
 | one h=>cases hx;exact h
 | @more es a' _ _ h1 _ _ =>
  cases es with
  | nil=>exact absurd rfl h1
  | cons b es=>simp at hx
theorem AR.two_inv {nm:List aR}{l0 l:List Tk}{a b:E}(h:AR nm l0 [a,b] l):∃ r,R nm (.at 0) l0 (some (a,.comma::r))/\R nm (.at 0) r (some (b,l)):=by
 generalize hx:[a,b]=x at h
 cases h with
 | nil=>cases hx
 | one h=>cases hx
 | @more es a' _ _ h1 h2 h3 =>
  match es,hx,h2 with
  | [],hx,_=>simp at hx
  | [c],hx,h2=>simp at hx;obtain⟨rfl,rfl⟩:=hx;exact⟨_,h2.one_inv,h3⟩
  | _::_::_,hx,_=>simp at hx
theorem AR.three_inv {nm:List aR}{l0 l:List Tk}{a b c:E}(h:AR nm l0 [a,b,c] l):∃ r r2,R nm (.at 0) l0 (some (a,.comma::r))/\R nm (.at 0) r (some (b,.comma::r2))/\R nm (.at 0) r2 (some (c,l)):=by
 generalize hx:[a,b,c]=x at h
 cases h with
 | nil=>cases hx
 | one h=>cases hx
 | @more es a' _ _ h1 h2 h3 =>
  match es,hx,h2 with
  | [],hx,_=>simp at hx
  | [_],hx,_=>simp at hx
  | [c,d],hx,h2=>simp at hx;obtain⟨rfl,rfl,rfl⟩:=hx;obtain⟨r,h4,h5⟩:=h2.two_inv;exact⟨_,_,h4,h5,h3⟩
  | _::_::_::_,hx,_=>simp at hx
theorem tQ {t:Tk}{a:E}{l:List Tk}(h:l.head?≠some t):rZ t (some (a,l))=none:=by
 unfold rZ
 split
 ·rename_i heq
  cases heq
  split
  ·rename_i hk;subst hk;exact absurd rfl h
  ·rfl
 ·rfl
theorem AR.no_comma {nm:List aR}{l0 l:List Tk}{es:List E}(h:AR nm l0 es l){s:aR}(h0:0 < es.length)(h1:es.length < rE (aY s))(hc:l.head?≠some .comma):R nm (.at 8) (.word s::.lp::l0) none:=by
 have h3:rE (aY s)<=3:=by
  have:=rR (fF (by omega:0 < rE (aY s)));omega
 match es,h with
 | [],_=>simp at h0
 | [a],h=>exact R.calln (by simp at h1;omega) h.one_inv (tQ hc)
 | [a,b],h =>
  obtain⟨r,h4,h5⟩:=h.two_inv
  exact R.call3n (by simp at h1;omega) h4 (dH _ _ _) h5 (tQ hc)
 | _::_::_::_,_=>simp at h1;omega
theorem AR.no_part {nm:List aR}{l0 l:List Tk}{es:List E}(h:AR nm l0 es l){s:aR}(h1:es.length < rE (aY s)){l':List Tk}(hl:(es=[]/\l'=l)\/(es≠[]/\l=.comma::l'))(hr:R nm (.at 0) l' none):R nm (.at 8) (.word s::.lp::l0) none:=by
 have h3:=rR (fF (by omega:0 < rE (aY s)))
 match es,h with
 | [],h =>
  have hl':l'=l0:=by
   rcases hl with⟨-,e⟩|⟨e,-⟩
   ·rw[e];exact h.nil_inv
   ·exact absurd rfl e
  subst hl'
  rcases h3 with h3|h3
  ·have:=R.call1 h3 hr;exact this
  ·exact R.calln (by omega) hr rfl
 | [a],h =>
  obtain rfl:l=.comma::l':=by
   rcases hl with⟨e,-⟩|⟨-,e⟩
   ·cases e
   ·exact e
  simp at h1
  rcases h3 with h3|h3|h3
  ·omega
  ·have:=R.call2 h3 h.one_inv (dH _ _ _) hr;exact this
  ·exact R.call3n h3 h.one_inv (dH _ _ _) hr rfl
 | [a,b],h =>
  obtain rfl:l=.comma::l':=by
   rcases hl with⟨e,-⟩|⟨-,e⟩
   ·cases e
   ·exact e
  simp at h1
  obtain⟨r,h4,h5⟩:=h.two_inv
  have:=R.call3 (s:=s) (by omega) h4 (dH _ _ _) h5 (dH _ _ _) hr
  exact this
 | _::_::_::_,_=>simp at h1;omega
theorem AR.ends {nm:List aR}{l0 l:List Tk}{es:List E}(h:AR nm l0 es l){s:aR}(h0:0 < es.length)(h1:es.length=rE (aY s)):R nm (.at 8) (.word s::.lp::l0) ((rZ .rp (some (mkE (aY s) es,l)))):=by
 have h3:rE (aY s)<=3:=by
  have:=rR (fF (by omega:0 < rE (aY s)));omega
 have key:∀(f:E->E) (a:E),Option.map (fun p:E × List Tk=>(f p.1,p.2)) (rZ .rp (some (a,l)))=rZ .rp (some (f a,l)):=by
  intro f a
  cases l with
  | nil=>rfl
  | cons t l =>
   simp only[rZ]
   split <;> rfl
 match es,h with
 | [],_=>simp at h0
 | [a],h =>
  have:=R.call1 (nm:=nm) h1.symm h.one_inv
  unfold aUo at this
  rw[key (fun e=>.un (aY s) e)] at this
  exact this
 | [a,b],h =>
  obtain⟨r,h4,h5⟩:=h.two_inv
  have:=R.call2 (nm:=nm) h1.symm h4 (dH _ _ _) h5
  unfold aW3 at this
  rw[key (fun e=>.bin (aY s) a e)] at this
  exact this
 | [a,b,c],h =>
  obtain⟨r,r2,h4,h5,h6⟩:=h.three_inv
  have:=R.call3 (nm:=nm) h1.symm h4 (dH _ _ _) h5 (dH _ _ _) h6
  unfold aUn at this
  rw[key (fun e=>.tri (aY s) a b e)] at this
  exact this
 | _::_::_::_::_,_=>simp at h1;omega
end Pz
