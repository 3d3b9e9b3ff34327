import Derived.Laws.MakeOwn
import Derived.Deep.AppendLies
import Derived.Deep.RegionHeld3
import Derived.Laws.StructEq
import Derived.Test.YtngnnijpdjhelaaGreatX02
import Derived.Test.YtngnnijpdjhelaaGreatX05
namespace Go.Proofs.Cde
open Go.RowKit Go.IntWalk YtngnnijpdjhelaaGreat.Knd
set_option linter.unusedVariables false
set_option maxRecDepth 100000
set_option maxHeartbeats 16000000
theorem below_dN (w:World)(q:Nat):Below w.heap.size w (w.drewN q):=⟨rfl,rfl,rfl,Nat.le_refl _,fun _ _=>rfl⟩
structure In where
 op:Int
 a:Int
 b:Int
 c:Int
 k:Int
 s:Int
 deriving DecidableEq
def i0:In:=⟨0,0,0,0,0,0⟩
abbrev ia (n:In):Array Value:=#[.int .i64 n.op,.int .i64 n.a,.int .i64 n.b,.int .i64 n.c,.int .i64 n.k,.int .i64 n.s]
def i6 (n:In):List Value:=[.int .i64 n.op,.int .i64 n.a,.int .i64 n.b,.int .i64 n.c,.int .i64 n.k,.int .i64 n.s]
def is6 (L:List In):List Value:=L.flatMap i6
abbrev kd (f d:Int):Array Value:=#[.int .i64 f,.int .i64 d]
abbrev cd (f d:Int)(a:Option Addr)(n cap:Nat)(o:Int):Array Value:=#[.int .i64 f,.int .i64 d,.slice a n cap,.int .i64 o]
theorem is6_len (L:List In):(is6 L).length=L.length*6:=by
 induction L with
 | nil=>rfl
 | cons p L ih=>simp[is6,i6] at *;omega
theorem is6_snoc (L:List In)(n:In):is6 (L++[n])=is6 L++i6 n:=by simp[is6]
theorem is6_get:∀(L:List In) (i:Nat),i < L.length->∀ j v,(i6 (L.getD i i0))[j]?=some v->(is6 L)[i*6+j]?=some v
 | [],i,h=>by simp at h
 | p::L,0,h=>fun j v hv=>by
  have hj:j < 6:=by
   rcases Nat.lt_or_ge j 6 with h|h
   ·exact h
   ·rw[List.getElem?_eq_none (by simpa [i6] using h)] at hv;cases hv
  simp only[is6,List.flatMap_cons,Nat.zero_mul,Nat.zero_add]
  rw[List.getElem?_append_left (by simpa [i6] using hj)]
  simpa using hv
 | p::L,i+1,h=>fun j v hv=>by
  have:=is6_get L i (by simpa using h) j v (by simpa using hv)
  simp only[is6,List.flatMap_cons] at this ⊢
  rw[List.getElem?_append_right (by simp[i6];omega)]
  rw[show (i+1)*6+j-(i6 p).length=i*6+j by simp[i6];omega]
  exact this
structure Ins (W:World)(a:Option Addr)(n cap:Nat)(L:List In):Prop where
 len:L.length=n
 le:n<=cap
 max:cap<=maxLen
 nil:a=none->cap=0
 cell:n=0\/∃ b off,a=some ⟨b,off,none⟩/\b < W.heap.size/\∀ i,i < n->∀ j v,(i6 (L.getD i i0))[j]?=some v->W.cell? ⟨b,off+i*6+j,none⟩=some v
theorem Ins.of_owns {W:World}{base:Nat}{v:Value}{n:Nat}{L:List In}(h:W.ownsRow base 67 6 v n (is6 L)):∃ a cap,v=.slice a n cap/\Ins W a n cap L/\(∀ x,a=some x->base<=x.block/\x.block < W.heap.size):=by
 have hl:L.length=n:=by have:=h.1;rw[is6_len] at this;omega
 have hcs:=fun g hg=>h.cells (g:=g) hg
 have hlt:=h.lt
 rcases h.2 with⟨rfl,rfl⟩|⟨g,cap,cur,rfl,hb,hg,hnc,hcm,hsz,htake⟩
 ·exact⟨none,0,rfl,⟨hl,Nat.le_refl _,Nat.zero_le _,fun _=>rfl,.inl rfl⟩,fun x hx=>by cases hx⟩
 ·refine⟨some ⟨g,0,none⟩,cap,rfl,⟨hl,hnc,hcm,(fun h=>by cases h),.inr ⟨g,0,rfl,(hlt g rfl).2,fun i hi j u hu=>?_⟩⟩,fun x hx=>by cases hx;exact hlt g rfl⟩
  have:=hcs g rfl _ _ (is6_get L i (by omega) j u hu)
  rw[Addr.add_lit] at this
  rw[Nat.add_assoc]
  exact this
theorem Ins.later {W W':World}{a:Option Addr}{n cap:Nat}{L:List In}(h:Ins W a n cap L)(hb:Below W.heap.size W W'):Ins W' a n cap L:=by
 refine⟨h.len,h.le,h.max,h.nil,?_⟩
 rcases h.cell with h0|⟨b,off,ha,hlt,hc⟩
 ·exact .inl h0
 ·exact .inr ⟨b,off,ha,Nat.lt_of_lt_of_le hlt hb.size,fun i hi j v hv=>(hb.cell (p:=⟨b,off+i*6+j,none⟩) hlt).trans (hc i hi j v hv)⟩
abbrev at6 (W:World)(b o:Nat)(n:In):Prop :=
 W.cell? ⟨b,o,none⟩=some (.int .i64 n.op)/\W.cell? ⟨b,o+1,none⟩=some (.int .i64 n.a)/\W.cell? ⟨b,o+2,none⟩=some (.int .i64 n.b)/\W.cell? ⟨b,o+3,none⟩=some (.int .i64 n.c)/\W.cell? ⟨b,o+4,none⟩=some (.int .i64 n.k)/\W.cell? ⟨b,o+5,none⟩=some (.int .i64 n.s)
theorem Ins.at {W:World}{a:Option Addr}{n cap:Nat}{L:List In}(h:Ins W a n cap L)(h0:0 < n):∃ g off,a=some ⟨g,off,none⟩/\g < W.heap.size/\∀ i,i < n->at6 W g (off+i*6) (L.getD i i0):=by
 rcases h.cell with h|⟨g,off,ha,hlt,hc⟩
 ·omega
 ·exact⟨g,off,ha,hlt,fun i hi=>⟨hc i hi 0 _ rfl,hc i hi 1 _ rfl,hc i hi 2 _ rfl,hc i hi 3 _ rfl,hc i hi 4 _ rfl,hc i hi 5 _ rfl⟩⟩
theorem Ins.short {w:World}{a:Option Addr}{n c:Nat}{L:List In}(h:Ins w a n c L):n<=9223372036854775807:=by
 have:=h.le;have:=h.max;unfold maxLen at this;omega
theorem four_of {W:World}{b:Nat}{t:TypeId}{x y z u:Value}(h:HasC W b t #[x,y,z,u]):W.cell? ⟨b,0,none⟩=some x/\W.cell? ⟨b,1,none⟩=some y/\W.cell? ⟨b,2,none⟩=some z/\W.cell? ⟨b,3,none⟩=some u :=
 ⟨h.cell 0 rfl,h.cell 1 rfl,h.cell 2 rfl,h.cell 3 rfl⟩
theorem has_new1 (W:World)(o:Obj)(t:TypeId)(cs:Array Value):HasC ((W.alloc o).alloc (.cells cs t)) (W.heap.size+1) t cs:=by
 have:=HasC.new (W.alloc o) t cs
 rwa[World.size_alloc] at this
theorem owns_block {W:World}{base:Nat}{e:TypeId}{size:Nat}{v:Value}{n:Nat}{xs:List Value}(h:W.ownsRow base e size v n xs):∀ k,v.ownBlock=some k->base<=k/\∃ cs fr,W.heap[k]?=some (.cells cs e fr):=by
 intro k hk
 rcases h.2 with⟨rfl,_⟩|⟨g,cap,cur,rfl,hb,hgg,rest⟩
 ·simp[Value.ownBlock] at hk
 ·simp[Value.ownBlock] at hk
  subst hk
  exact⟨hb,_,_,hgg⟩
theorem own_mono {w:World}{base base':Nat}{e:TypeId}{size:Nat}{v:Value}{n:Nat}{xs:List Value}(h:w.ownsRow base e size v n xs)(hb:base'<=base):w.ownsRow base' e size v n xs:=by
 obtain⟨h1,h2⟩:=h
 refine⟨h1,?_⟩
 rcases h2 with h2|⟨g,cap,cur,hv,hg,rest⟩
 ·exact .inl h2
 ·exact .inr ⟨g,cap,cur,hv,Nat.le_trans hb hg,rest⟩
theorem own_later {V V':World}{lo n:Nat}{e:TypeId}{size:Nat}{v:Value}{xs:List Value}(h:V.ownsRow lo e size v n xs)(hb:Below V.heap.size V V'):V'.ownsRow lo e size v n xs:=by
 have hg:V.grownBy V' none:=⟨hb.os,hb.tape,hb.output,hb.size,fun k hk _=>hb.block k hk⟩
 refine h.kept hg ?_
 cases hv:v.ownBlock with
 | none=>exact .inl rfl
 | some q=>exact .inr (by simp)
def coZ (o:Int):Int:=if o=4 then 0 else if o=11 then 4 else if o=12 then 6 else 1
theorem ret_b {a b:Bool}(h:a=b):Ending.returned (.bool a)=.returned (.bool b):=by rw[h]
def rgB (r:Int)(used:Bool)(i:Int):Bool:=if used then YtngnnijpdjhelaaGreat.Spn.inB r 0 (i-1) else r==0
def rgs (n:In)(i:Int):Bool:=rgB n.a (decide (0 < YtngnnijpdjhelaaGreat.Spn.ar n.op)) i&&rgB n.b (decide (1 < YtngnnijpdjhelaaGreat.Spn.ar n.op)) i&&rgB n.c (decide (2 < YtngnnijpdjhelaaGreat.Spn.ar n.op)) i
def csB (n:In):Bool :=
 if n.op=1 then YtngnnijpdjhelaaGreat.Spn.wd n.k&&n.s==0 else if n.op=2 then YtngnnijpdjhelaaGreat.Spn.inB n.k 0 5&&n.s==0 else if n.op=3 then YtngnnijpdjhelaaGreat.Spn.inB n.k 0 255&&n.s==0 else
 if n.op=29\/n.op=30\/n.op=31\/n.op=32 then YtngnnijpdjhelaaGreat.Spn.cons n.op n.k n.s&&n.s==0 else if n.op=33 then YtngnnijpdjhelaaGreat.Spn.cons n.op n.k n.s else n.k==0&&n.s==0
def okI (n:In)(i:Nat):Bool:=decide (0<=YtngnnijpdjhelaaGreat.Spn.ar n.op)&&rgs n i&&csB n
def okT (L:List In)(k:Nat):Bool:=(List.range k).all fun i=>okI (L.getD i i0) i
theorem okT_succ (L:List In)(k:Nat):okT L (k+1)=(okT L k&&okI (L.getD k i0) k):=by
 simp[okT,List.range_succ]
def mcB (f d:Int)(L:List In)(out:Int):Bool:=decide (May f d)&&YtngnnijpdjhelaaGreat.Spn.inB L.length 1 200&&YtngnnijpdjhelaaGreat.Spn.inB out 0 ((L.length:Int)-1)&&okT L L.length
def arN (n:In):Nat:=(YtngnnijpdjhelaaGreat.Spn.ar n.op).toNat
theorem all_ext {α:Type}{L M:List α}(d:α)(hl:L.length=M.length)(h:∀ j,j < L.length->L.getD j d=M.getD j d):L=M:=by
 apply List.ext_getElem hl
 intro j h1 h2
 have:=h j h1
 rw[List.getD_eq_getElem?_getD,List.getD_eq_getElem?_getD,List.getElem?_eq_getElem h1,List.getElem?_eq_getElem h2] at this
 exact this
theorem all_next {α:Type}{L M:List α}{d:α}{k:Nat}(h:∀ j,j < k->L.getD j d=M.getD j d)(h2:L.getD k d=M.getD k d):∀ j,j < k+1->L.getD j d=M.getD j d:=by
 intro j hj
 rcases Nat.lt_succ_iff_lt_or_eq.1 hj with h1|rfl
 ·exact h j h1
 ·exact h2
theorem kd_run (f d g e:Int)(w:World):(Op.equalIn 10000 23 (.agg (kd f d)) (.agg (kd g e))).run Tryz.prog w=.ok (decide (f=g)&&decide (d=e)) w:=by
 have u3:=Tryz.underlying3
 have a3:=Tryz.isAgg3
 have z3:=Tryz.sizeOf3
 have hS:Tryz.prog.underlying 23=some (.struct (Tryz.prog.fieldsOf 23)):=by kernel_rfl
 have hp:Tryz.prog.stoodInHeld 23=false:=by kernel_rfl
 rw[show (10000:Nat)=9999+1 from rfl,run_equalIn_agg w 9999 23 _ _ hS hp]
 simp only[Program.fieldsOf,Tryz.underlying23]
 go_simp
 by_cases h1:f=g <;> by_cases h2:d=e <;> simp[h1,h2]
theorem in_run (n m:In)(w:World):(Op.equalIn 10000 67 (.agg (ia n)) (.agg (ia m))).run Tryz.prog w=.ok (decide (n=m)) w:=by
 have u3:=Tryz.underlying3
 have a3:=Tryz.isAgg3
 have z3:=Tryz.sizeOf3
 have hS:Tryz.prog.underlying 67=some (.struct (Tryz.prog.fieldsOf 67)):=by kernel_rfl
 have hp:Tryz.prog.stoodInHeld 67=false:=by kernel_rfl
 rw[show (10000:Nat)=9999+1 from rfl,run_equalIn_agg w 9999 67 _ _ hS hp]
 simp only[Program.fieldsOf,Tryz.underlying67]
 obtain⟨z0,z1,z2,z3,z4,z5⟩:=n
 obtain⟨y0,y1,y2,y3,y4,y5⟩:=m
 go_simp
 by_cases h0:z0=y0
 ·by_cases h1:z1=y1
  ·by_cases h2:z2=y2
   ·by_cases h3:z3=y3
    ·by_cases h4:z4=y4
     ·by_cases h5:z5=y5
      ·simp[h0,h1,h2,h3,h4,h5]
      ·simp[h0,h1,h2,h3,h4,h5]
     ·simp[h0,h1,h2,h3,h4]
    ·simp[h0,h1,h2,h3]
   ·simp[h0,h1,h2]
  ·simp[h0,h1]
 ·simp[h0]
def sameB (f d o:Int)(L:List In)(g e p:Int)(M:List In):Bool:=(decide (f=g)&&decide (d=e))&&decide (o=p)&&decide (L=M)
theorem xsame_any (f d o g e p:Int){a b:Option Addr}{n m c k:Nat}{L M:List In}{W:World}(h1:Ins W a n c L)(h2:Ins W b m k M) :
  Calls Tryz.prog 11 #[.agg (cd f d a n c o),.agg (cd g e b m k p)] W fun r W'=>r=.returned (.bool (sameB f d o L g e p M))/\Below W.heap.size W W':=by
 have hb1:=bel (bel1 W (.cells (cd f d a n c o) 32)) (bel1 (W.alloc (.cells (cd f d a n c o) 32)) (.cells (cd g e b m k p) 32))
 have HB:=hide hb1
 have HC0:=hide ((HasC.new W 32 (cd f d a n c o)).alloc (.cells (cd g e b m k p) 32))
 have HD0:=hide (has_new1 W (.cells (cd f d a n c o) 32) 32 (cd g e b m k p))
 have HL1:=hide h1.len
 have HL2:=hide h2.len
 have hn1:=h1.short
 have hn2:=h2.short
 have H1:=hide (h1.later hb1)
 have H2:=hide (h2.later hb1)
 clear hb1 h1 h2
 have hrun:=kd_run f d g e
 unfold sameB
 cases hk:decide (f=g)&&decide (d=e)
 ·rw[hk] at hrun
  go_enter Tryz.func11,Tryz.ntmps11
  go_wp2_with fail
  go_ret
  exact⟨ret_b rfl,HB.out⟩
 rw[hk] at hrun
 by_cases ho:o=p
 ·subst ho
  rw[decide_eq_true rfl]
  by_cases hne:n=m
  ·subst hne
   go_enter Tryz.func11,Tryz.ntmps11
   go_wp2_with fail
   obtain⟨V0,hV0⟩:∃ V0,(W.alloc (.cells (cd f d a n c o) 32)).alloc (.cells (cd g e b n k o) 32)=V0:=⟨_,rfl⟩
   rw[hV0] at HB HC0 HD0 H1 H2 ⊢
   clear hV0 hk hrun hn2
   go_loopw [5] (fun i wr=>∃ j q:Nat,j<=n/\i=.int .i64 j/\Hid (∀ q,q < j->L.getD q i0=M.getD q i0)/\wr=V0.drewN q) (fun i _=>n-(intOf i).toNat)
   case atStart=>exact⟨0,0,Nat.zero_le _,rfl,hide (fun j hj=>by omega),rfl⟩
   case round =>
    obtain⟨j,q,hj,rfl,HT,rfl⟩:=hrel
    obtain⟨x0,x1,x2,x3⟩:=four_of HC0.out
    obtain⟨y0,y1,y2,y3⟩:=four_of HD0.out
    by_cases hlt:j < n
    ·obtain⟨b1,o1,rfl,-,hc1⟩:=H1.out.at (by omega)
     obtain⟨b2,o2,rfl,-,hc2⟩:=H2.out.at (by omega)
     obtain⟨e0,e1,e2,e3,e4,e5⟩:=hc1 j hlt
     obtain⟨f0,f1,f2,f3,f4,f5⟩:=hc2 j hlt
     clear hc1 hc2
     have hi0:(0:Int)<=j:=by omega
     have hi1:(j:Int) < n:=by omega
     have HN:=hide fun h=>all_next HT.out (k:=j) h
     have hrun:=in_run (L.getD j i0) (M.getD j i0)
     have HG:Hid (L=M->L.getD j i0=M.getD j i0):=hide fun h=>by rw[h]
     generalize L.getD j i0=x at *
     generalize M.getD j i0=y at *
     by_cases he:x=y
     ·have HE:=hide he
      rw[decide_eq_true he] at hrun
      clear he
      go_wp2_with fail
      go_quiet (fail)
      go_wp2_with fail
      go_roundw
      case rel=>exact⟨j+1,_,by omega,by go_num,hide (HN.out HE.out),rfl⟩
      case measure=>simp[intOf];omega
     ·have HE:=hide he
      rw[decide_eq_false he] at hrun
      clear he
      go_wp2_with fail
      go_quiet (fail)
      go_wp2_with fail
      go_ret
      refine⟨ret_b ?_,bel HB.out (by rw[World.drewN_drewN];exact below_dN _ _)⟩
      rw[decide_eq_false fun h=>HE.out (HG.out h)]
      rfl
    ·obtain rfl:j=n:=by omega
     have HE:=hide (all_ext i0 (HL1.out.trans HL2.out.symm) fun j hj=>HT.out j (by have:=HL1.out;omega))
     go_wp2_with fail
     go_ret
     refine⟨ret_b ?_,bel HB.out (below_dN _ _)⟩
     rw[decide_eq_true HE.out]
     rfl
  ·have hne':((n:Int) != (m:Int))=true:=by simp;omega
   have HE:Hid (¬L=M):=hide fun h=>hne (by rw[<-HL1.out,<-HL2.out,h])
   go_enter Tryz.func11,Tryz.ntmps11
   go_wp2_with fail
   go_ret
   exact⟨ret_b (by rw[decide_eq_false HE.out];rfl),HB.out⟩
 ·have ho2:(o != p)=true:=by simpa using ho
  rw[decide_eq_false ho]
  clear ho
  go_enter Tryz.func11,Tryz.ntmps11
  go_wp2_with fail
  go_ret
  exact⟨ret_b rfl,HB.out⟩
end Go.Proofs.Cde
