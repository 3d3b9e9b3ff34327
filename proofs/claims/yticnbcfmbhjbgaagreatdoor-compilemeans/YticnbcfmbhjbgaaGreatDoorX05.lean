import Derived.Deep.RegionHeld3
import Derived.Deep.AppendLies
import Derived.Deep.LoopGhost
import Derived.WalkLawsBesides
import Derived.Test.YticnbcfmbhjbgaaGreatDoorX04
import Derived.Test.YticnbcfmbhjbgaaGreatDoorX01
set_option maxRecDepth 100000
set_option maxHeartbeats 32000000
set_option linter.unusedVariables false
namespace Go.Proofs.YticnbcfmbhjbgaaGreatDoor
section
open Go.ChangeShapes Go.WideShapes Go.ChangeAt Go.RowKit
theorem aT8:Tryz.prog.cellsOf 26=4:=by kernel_rfl
theorem aOf (w:World):Knd.Ints w none 0 0 []:=⟨rfl,nLr _,nZl _,fun _=>rfl,.inl rfl⟩
theorem aLd {H:Type}{enc:TypeId × Value->H}{W:World}{fuel:Nat}{v:Value}{x:DataW H × List MemPlace}
  (h:DataW.trod enc Tryz.prog W 0 (fun _=>true) true fuel 24 [v]=some x) :
  ∃ a n c zs,v=.slice a n c/\Knd.Ints W a n c zs/\((x.1=.nil/\n=0)\/∃ spare,x.1=.slice (lits .i64 zs) spare/\spare.length=c-n):=by
 rcases open_ints Tryz.underlying24 Tryz.underlying3 aT6 h with⟨hcs,hx⟩|⟨ad,l,c',zs,hcs,_,hl,hm,hz,hx,hcell,hwz⟩
 ·simp at hcs
  exact⟨none,0,0,[],hcs,aOf W,.inl ⟨by rw[hx],rfl⟩⟩
 ·simp at hcs
  simp only[if_true] at hz
  refine⟨some ad,l,c',zs.take l,hcs,⟨by rw[lLt];omega,hl,hm,(fun h=>by cases h),?_⟩,.inr ⟨_,by rw[hx],by simp[lits,List.length_drop,hz]⟩⟩
  by_cases h0:l=0
  ·exact .inl h0
  ·obtain⟨b,off,spot⟩:=ad
   have hspot:spot=none:=by simpa [Addr.add] using World.cell?_spot (hcell 0 (by omega))
   subst hspot
   refine .inr ⟨b,off,rfl,fun i hi=>?_⟩
   have:=hcell i (by omega)
   rw[Addr.add_lit] at this
   rw[this]
   simp[List.getD,hi]
theorem aFn {H:Type}{enc:TypeId × Value->H}{W:World}{r:Reach}{b0:Nat}{v:Value}{d:DataW H}{ps:List MemPlace}
  (hval:Value.okWide Tryz.prog W r b0 26 v) (h:DataW.Trod enc Tryz.prog W 0 (fun _=>true) true 26 v d ps) :
  ∃ x0 x1 x2 a n c zs,v=.agg #[.i x0,.i x1,.i x2,.slice a n c]/\Knd.Ints W a n c zs:=by
 unfold Value.okWide at hval
 rw[Tryz.underlying26] at hval
 obtain⟨cs,rfl,hsz,_⟩:=hval
 rw[aT8] at hsz
 obtain⟨fuel,hf⟩:=h
 obtain⟨xs,n,_,hx,hl,hxs,hall⟩:=DataW.trod_struct Tryz.underlying26 hf
 obtain⟨c0,c1,c2,c3,rfl⟩:∃ c0 c1 c2 c3,cs=#[c0,c1,c2,c3]:=by
  obtain⟨l⟩:=cs
  match l,hsz with
  | [a,b,c,d],_=>exact⟨a,b,c,d,rfl⟩
 have hlen:xs.length=4:=hxs
 have f0:=hall 0 _ rfl
 have f1:=hall 1 _ rfl
 have f2:=hall 2 _ rfl
 have f3:=hall 3 _ rfl
 simp only[Value.cells] at f0 f1 f2 f3
 obtain⟨x0,rfl,_,w0⟩:=lD f0 (by simp[hlen])
 obtain⟨x1,rfl,_,w1⟩:=lD f1 (by simp[hlen])
 obtain⟨x2,rfl,_,w2⟩:=lD f2 (by simp[hlen])
 obtain⟨y,hy⟩:∃ y,xs[3]?=some y:=⟨xs[3],by simp[hlen]⟩
 rw[hy] at f3
 obtain⟨a,n',c,zs,rfl,hI,_⟩:=aLd f3
 exact⟨x0,x1,x2,a,n',c,zs,rfl,hI⟩
end
section
open Go.RowKit Go.IntWalk Lx
variable {W:World} {b:Nat} {t:TypeId} {y:Value}
theorem jA {x z:Value}(h:aB W b t #[x,y,z]):W.cell? ⟨b,0,none⟩=some x/\W.cell? ⟨b,1,none⟩=some y/\W.cell? ⟨b,2,none⟩=some z :=
 ⟨h.cell 0 rfl,h.cell 1 rfl,h.cell 2 rfl⟩
theorem aA8 {x z:Value}(h:aB W b t #[x,y,z]):W.frozen? ⟨b,0,none⟩=false/\W.frozen? ⟨b,1,none⟩=false/\W.frozen? ⟨b,2,none⟩=false :=
 ⟨h.frozen 0,h.frozen 1,h.frozen 2⟩
theorem aF (W:World):Below W.heap.size W W.drew:=⟨rfl,rfl,rfl,nLr _,fun _ _=>rfl⟩
theorem aZ {o:Obj}{i:Nat}(h:b < W.heap.size):(W.alloc o).cell? ⟨b,i,none⟩=W.cell? ⟨b,i,none⟩:=(aD W o).cell (p:=⟨b,i,none⟩) h
theorem bCg {g:Nat}{u v x0 x1 x2:Value}(hb:b < g)(h0:W.cell? ⟨g,0,none⟩=some x0)(h1:W.cell? ⟨g,1,none⟩=some x1)(h2:W.cell? ⟨g,2,none⟩=some x2) :
  (((W.setCell ⟨b,0,none⟩ u).setCell ⟨b,1,none⟩ v).setCell ⟨b,2,none⟩ y).cell? ⟨g,0,none⟩=some x0/\(((W.setCell ⟨b,0,none⟩ u).setCell ⟨b,1,none⟩ v).setCell ⟨b,2,none⟩ y).cell? ⟨g,1,none⟩=some x1/\(((W.setCell ⟨b,0,none⟩ u).setCell ⟨b,1,none⟩ v).setCell ⟨b,2,none⟩ y).cell? ⟨g,2,none⟩=some x2:=by
 have h:(((W.setCell ⟨b,0,none⟩ u).setCell ⟨b,1,none⟩ v).setCell ⟨b,2,none⟩ y).heap[g]?=W.heap[g]? :=
  (Below.heap_setCell _ _ _ g (by simp;omega)).trans ((Below.heap_setCell _ _ _ g (by simp;omega)).trans (Below.heap_setCell _ _ _ g (by simp;omega)))
 exact⟨(World.cell?_of_block (a:=⟨g,0,none⟩) h).trans h0,(World.cell?_of_block (a:=⟨g,1,none⟩) h).trans h1,(World.cell?_of_block (a:=⟨g,2,none⟩) h).trans h2⟩
theorem aVb {w w2:World}{p q r:Value}(h:aB w2 b t #[p,q,r])(hB:Below w.heap.size w w2)(hb:w.heap.size<=b)(x:Int)(y:ByteArray)(z:Int) :
  (((w2.setCell ⟨b,0,none⟩ (.i x)).setCell ⟨b,1,none⟩ (.string y)).setCell ⟨b,2,none⟩ (.i z)).cell? ⟨b,0,none⟩=some (.i x) /\
  (((w2.setCell ⟨b,0,none⟩ (.i x)).setCell ⟨b,1,none⟩ (.string y)).setCell ⟨b,2,none⟩ (.i z)).cell? ⟨b,1,none⟩=some (.string y) /\
  (((w2.setCell ⟨b,0,none⟩ (.i x)).setCell ⟨b,1,none⟩ (.string y)).setCell ⟨b,2,none⟩ (.i z)).cell? ⟨b,2,none⟩=some (.i z) /\
  Below w.heap.size w (((w2.setCell ⟨b,0,none⟩ (.i x)).setCell ⟨b,1,none⟩ (.string y)).setCell ⟨b,2,none⟩ (.i z)):=by
 have h3:=((h.set 0 (.i x)).set 1 (.string y)).set 2 (.i z)
 exact⟨h3.cell 0 rfl,h3.cell 1 rfl,h3.cell 2 rfl,((hB.setCell (by exact hb) _).setCell (by exact hb) _).setCell (by exact hb) _⟩
abbrev tc (k:Int)(s:ByteArray)(p:Int):Array Value:=#[.i k,.string s,.i p]
theorem qY (k:Int)(s:ByteArray)(p:Int)(w:World)(hs:s.size<=maxLen) :
  Calls Tryz.prog 179 #[.agg (tc k s p)] w fun e w'=>e=.returned (.bool (may k (bs s)))/\Below w.heap.size w w':=by
 have HB:=aA (aD w (.cells (tc k s p) 157))
 have hs':=aA hs
 clear hs
 by_cases h1:k=1
 ·subst h1
  rw[show may 1 (bs s)=num (bs s) from rfl]
  go_enter Tryz.func179,Tryz.ntmps179
  go_wp2_with fail
  refine(jP _ _ hs'.o).mono ?_
  rintro e w' ⟨rfl,rfl⟩
  go_wp2_with fail
  go_ret
  exact⟨rfl,HB.o⟩
 ·by_cases h2:k=2
  ·subst h2
   rw[show may 2 (bs s)=rW (bs s) from rfl]
   clear h1
   go_enter Tryz.func179,Tryz.ntmps179
   go_wp2_with fail
   refine(eQ _ _ hs'.o).mono ?_
   rintro e w' ⟨rfl,rfl⟩
   go_wp2_with fail
   go_ret
   exact⟨rfl,HB.o⟩
  ·have e1:(k==1)=false:=by simp[h1]
   have e2:(k==2)=false:=by simp[h2]
   have hm:=aA (show may k (bs s)=!s.toList.isEmpty by
    unfold may
    rw[if_neg h1,if_neg h2,iV])
   clear h1 h2
   go_enter Tryz.func179,Tryz.ntmps179
   go_wp2_with fail
   go_ret
   exact⟨aV hm.o.symm,HB.o⟩
theorem aV7 (s:ByteArray)(k:Nat):bs (s.extract 0 k)=(bs s).take k:=by
 show (s.extract 0 k).data.toList=_
 rw[ByteArray.data_extract]
 simp
theorem uT (p:UInt8->Bool)(l:List UInt8):rn p l<=l.length:=by
 have h:=congrArg List.length (kF p l)
 rw[lLa] at h
 unfold rn
 omega
theorem bBb {l:List UInt8}(h:l≠[]):mk l<=l.length:=by
 unfold mk
 split
 ·rename_i h2
  have h3:(l.take 2).length=2:=by rcases oC h2 with h|h|h|h|h|h <;> rw[h] <;> rfl
  rw[lLt] at h3
  omega
 ·cases l with
  | nil=>exact absurd rfl h
  | cons a l=>split <;> simp
theorem aWl {l:List UInt8}(h:l≠[]):sz l<=l.length:=by
 unfold sz
 split
 ·exact uT _ _
 ·split
  ·exact uT _ _
  ·exact bBb h
theorem aKf (s:ByteArray)(w:World)(h0:0 < s.size)(hs:s.size<=1024) :
  Calls Tryz.prog 107 #[.string s] w fun e w'=>e=.returned (.tuple #[.agg (tc (kd (bs s)) (s.extract 0 (sz (bs s))) 0),.bool (gd (bs s))])/\Below w.heap.size w w':=by
 have HL:=aA fun w=>aE6 s w h0 (by unfold maxLen;omega)
 have hz1:sz (bs s)<=s.size:=by
  rw[<-dN]
  refine aWl ?_
  obtain⟨t,ht⟩:=lY h0
  rw[ht];simp
 have hg:=aA (show gd (bs s)=may (kd (bs s)) (bs (s.extract 0 (sz (bs s)))) by rw[aV7];rfl)
 obtain⟨k,hk⟩:∃ k,kd (bs s)=k:=⟨_,rfl⟩
 obtain⟨n,hn⟩:∃ n,sz (bs s)=n:=⟨_,rfl⟩
 rw[hk,hn] at HL hg ⊢
 rw[hn] at hz1
 clear hk hn
 obtain⟨T,hT⟩:∃ T,s.extract 0 n=T:=⟨_,rfl⟩
 have hTs:T.size<=1024:=by
  rw[<-hT];simp;omega
 have HC:=aA fun w=>aKn T w (by omega)
 have HM:=aA fun w=>qY k T 0 w (by unfold maxLen;omega)
 rw[hT] at hg ⊢
 rw[hg.o]
 clear hg hTs
 have H0:=aA (aD w (.cells (tc 0 ⟨#[]⟩ 0) 157))
 go_enter Tryz.func107,Tryz.ntmps107
 go_wp2_with fail
 refine(HL.o _).mono ?_
 rintro e w1 ⟨rfl,rfl⟩
 go_wp2_with fail
 refine(HC.o _).mono ?_
 rintro e w2 ⟨rfl,hb2⟩
 have HR:=aA ((aB.new w 157 (tc 0 ⟨#[]⟩ 0)).below hb2)
 have HB:=aA (bel H0.o hb2)
 clear hb2 HC H0 HL
 go_wp2_with fail
 have HW:=aA (aB.new w2 157 (tc k T 0))
 have HR2:=aA (HR.o.alloc (.cells (tc k T 0) 157))
 have HB2:=aA (bel HB.o (aD w2 (.cells (tc k T 0) 157)))
 have hl:=HR.o.lt
 obtain⟨W,hW⟩:∃ W,w2.alloc (.cells #[.i k,.string T,.i 0] 157)=W:=⟨_,rfl⟩
 obtain⟨g,hg⟩:∃ g,w2.heap.size=g:=⟨_,rfl⟩
 rw[hW,hg] at HW
 rw[hW] at HR2 HB2 ⊢
 rw[hg] at hl ⊢
 clear hW hg HR HB hT h0 hs hz1
 obtain⟨d0,d1,d2⟩:=jA HW.o
 go_region_held3 (fun w'=>w'.cell? ⟨g,0,none⟩=some (.i k)/\w'.cell? ⟨g,1,none⟩=some (.string T)/\w'.cell? ⟨g,2,none⟩=some (.i 0))
  (first|exact⟨d0,d1,d2⟩|exact⟨t0,t1,t2⟩|exact bCg hl t0 t1 t2|go_keep)
  ((first
   | (go_at_call 179;refine(HM.o _).mono ?_;rintro e' w3 ⟨rfl,hb3⟩;have hb4:=bel (aF W) hb3;obtain⟨t0,t1,t2⟩:=jA (HW.o.below hb4);have HR3:=aA (HR2.o.below hb4);have HB3:=aA (bel HB2.o hb4);obtain⟨s0,s1,s2⟩:=jA HR3.o;obtain⟨z0,z1,z2⟩:=aA8 HR3.o)))
 go_wp2_with fail
 obtain⟨e0,e1,e2,hB4⟩:=aVb HR3.o HB3.o (nLr _) k T 0
 exact bPr (v:=.tuple #[.agg (tc k T 0),.bool (may k (bs T))]) (by simp[results,Tryz.results107,go_sem,e0,e1,e2]) rfl ⟨rfl,hB4⟩
end
section
open Go.RowKit Go.IntWalk Lx
variable {W w:World} {v:Value} {n:Nat}
theorem bAv:(Tryz.prog.info? 157).map (fun i=>(i.zero,i.size,i.bytes))=some (some (.agg #[.i 0,.string ⟨#[]⟩,.i 0]),3,32):=by kernel_rfl
abbrev sB (l:List UInt8):ByteArray:=⟨l.toArray⟩
theorem aBt (s:ByteArray):sB (bs s)=s:=by cases s;rfl
theorem iB (l:List UInt8):bs (sB l)=l:=rfl
def rU (T:List Tok):List Value:=T.flatMap fun t=>[.i t.kind,.string (sB t.text),.i (t.pos:Int)]
theorem aGd (T:List Tok):(rU T).length=T.length*3:=by
 induction T with
 | nil=>rfl
 | cons p L ih=>simp[rU] at *;omega
theorem aLy (T:List Tok)(t:Tok):rU (T++[t])=rU T++[.i t.kind,.string (sB t.text),.i (t.pos:Int)]:=by simp[rU]
def t0:Tok:=⟨0,[],0⟩
theorem aGc:∀(T:List Tok) (i:Nat),i < T.length->(rU T)[i*3]?=some (.i (T.getD i t0).kind)/\(rU T)[i*3+1]?=some (.string (sB (T.getD i t0).text))/\(rU T)[i*3+2]?=some (.i ((T.getD i t0).pos:Int))
 | [],i,h=>by simp at h
 | p::L,0,h=>by simp[rU]
 | p::L,i+1,h=>by
  have h':=aGc L i (by simpa using h)
  have e:rU (p::L)=.i p.kind::.string (sB p.text)::.i (p.pos:Int)::rU L:=by simp[rU]
  rw[e,show (i+1)*3=i*3+1+1+1 by omega,show i*3+1+1+1+1=(i*3+1)+1+1+1 by omega,show i*3+1+1+1+2=(i*3+2)+1+1+1 by omega]
  simp only[List.getElem?_cons_succ]
  simpa using h'
structure Toks (w:World)(a:Option Addr)(n cap:Nat)(T:List Tok):Prop where
 len:T.length=n
 le:n<=cap
 max:cap<=maxLen
 nil:a=none->cap=0
 cell:n=0\/∃ b off,a=some ⟨b,off,none⟩/\∀ i,i < n->w.cell? ⟨b,off+i*3,none⟩=some (.i (T.getD i t0).kind)/\w.cell? ⟨b,off+i*3+1,none⟩=some (.string (sB (T.getD i t0).text))/\w.cell? ⟨b,off+i*3+2,none⟩=some (.i ((T.getD i t0).pos:Int))
structure Es (w W:World)(v:Value)(n:Nat)(T:List Tok):Prop where
 a:W.ownsRow w.heap.size 157 3 v n (rU T)
 bel:Below w.heap.size w W
theorem Es.alloc {w W:World}{v:Value}{n:Nat}{T:List Tok}(h:Es w W v n T)(o:Obj):Es w (W.alloc o) v n T:=⟨h.a.alloc o,h.bel.alloc h.bel.size o⟩
theorem Es.start (W:World):Es W W (.slice none 0 0) 0 []:=⟨⟨rfl,.inl ⟨rfl,rfl⟩⟩,Below.refl _ _⟩
theorem Es.len {T:List Tok}(h:Es w W v n T):T.length=n:=by
 have:=h.a.1
 rw[aGd] at this
 omega
theorem Es.later {W':World}{T:List Tok}(h:Es w W v n T)(hb:Below W.heap.size W W'):Es w W' v n T:=by
 have hg:W.grownBy W' none:=⟨hb.os,hb.tape,hb.output,hb.size,fun k hk _=>hb.block k hk⟩
 refine⟨h.a.kept hg ?_,h.bel.trans (hb.mono h.bel.size)⟩
 cases hv:v.ownBlock with
 | none=>exact .inl rfl
 | some q=>exact .inr (by simp)
theorem Toks.of_owns {base:Nat}{T:List Tok}(h:w.ownsRow base 157 3 v n (rU T)):∃ a cap,v=.slice a n cap/\Toks w a n cap T/\(∀ x,a=some x->base<=x.block/\x.block < w.heap.size):=by
 have hl:T.length=n:=by
  have:=h.1
  rw[aGd] at this
  omega
 have hlt:=h.lt
 have hcs:=fun g hg=>h.cells (g:=g) hg
 rcases h.2 with⟨rfl,rfl⟩|⟨g,cap,cur,rfl,hb,hg,hnc,hcm,hsz,htake⟩
 ·exact⟨none,0,rfl,⟨hl,nLr _,nZl _,fun _=>rfl,.inl rfl⟩,fun x hx=>by cases hx⟩
 ·refine⟨some ⟨g,0,none⟩,cap,rfl,⟨hl,hnc,hcm,(fun h=>by cases h),.inr ⟨g,0,rfl,fun i hi=>?_⟩⟩,fun x hx=>by cases hx;exact hlt g rfl⟩
  obtain⟨e1,e2,e3⟩:=aGc T i (by omega)
  have h1:=hcs g rfl _ _ e1
  have h2:=hcs g rfl _ _ e2
  have h3:=hcs g rfl _ _ e3
  rw[Addr.add_lit] at h1 h2 h3
  exact⟨h1,by rw[Nat.add_assoc];exact h2,by rw[Nat.add_assoc];exact h3⟩
theorem aO9 {b:Nat}{k p:Int}{s:ByteArray}(h:aB W b 157 (tc k s p)):∀ j u,[Value.int .i64 k,.string s,.i p][j]?=some u->W.cell? ((⟨b,0,none⟩:Addr).add j)=some u:=by
 intro j u hu
 rw[Addr.add_lit]
 match j,hu with
 | 0,hu=>simp at hu;subst hu;exact h.cell 0 rfl
 | 1,hu=>simp at hu;subst hu;exact h.cell 1 rfl
 | 2,hu=>simp at hu;subst hu;exact h.cell 2 rfl
 | _+3,hu=>simp at hu
theorem aOp {T:List Tok}{ops:Array Oper}{rest:List Oper}{o:Oper}{a:Act}{Q:Exit->Act->World->Prop}
  (hgd:o.guard=none) (s x:Operand) (ho:o.op=.call { callee:=.builtin .append,args:=#[s,x],argTypes:=#[102,102] })
  (hs:a.eval s=v) (hen:Es w W v n T) (b:Nat) (t:Tok) (hx:a.eval x=.slice (some ⟨b,0,none⟩) 1 1) (hc:aB W b 157 (tc t.kind (sB t.text) t.pos)) (h3:n<=2000000)
  (h:∀ g cap w',Es w w' (.slice (some ⟨g,0,none⟩) (n+1) cap) (n+1) (T++[t])->W.heap.size<=w'.heap.size->wpList Tryz.prog ops Q rest (a.put o.dst (.slice (some ⟨g,0,none⟩) (n+1) cap)) w') :
  wpList Tryz.prog ops Q (o::rest) a W:=by
 obtain⟨i0,hi0,hz0,hz1,hz2⟩:=info_parts bAv
 refine wpList_append_lies W hgd s x 102 ho w.heap.size 157 i0 _ 3 32 Tryz.underlying102 hi0 hz0 hz1 hz2 rfl (by omega) v n (rU T) hs hen.a ⟨b,0,none⟩ 1 1 [.i t.kind,.string (sB t.text),.i (t.pos:Int)] hx rfl (aO9 hc) (by simp[Value.oneCell']) (by omega) (by unfold maxLen;omega) (by omega) hen.bel.size W.heap.size rfl ?_
 intro g cap w' hown hgrow hat hlt
 exact h g cap w' ⟨by rw[aLy];exact hown,hen.bel.grown hgrow hen.bel.size (fun k hk=>(hen.a.lt k hk).1)⟩ hgrow.size
def TP (w:World)(l:List UInt8)(e:Ending)(w':World):Prop :=
 (tks l=none/\e=.returned (.tuple #[.slice none 0 0,.i 10])/\Below w.heap.size w w') \/
 (∃ T v,tks l=some T/\e=.returned (.tuple #[v,.i 0])/\w'.ownsRow w.heap.size 157 3 v T.length (rU T)/\Below w.heap.size w w')
end
section
open Go.RowKit Go.IntWalk Lx
theorem aBh {c:UInt8}{n:Nat}(h:((c.toNat:Int)==(n:Int))=false)(m:UInt8)(hm:m.toNat=n):c≠m:=by
 intro e
 subst e
 rw[hm] at h
 simp at h
theorem nG {c:UInt8}{n:Nat}(h:((c.toNat:Int)==(n:Int))=true)(m:UInt8)(hm:m.toNat=n):c=m:=by
 simp only[beq_iff_eq] at h
 exact UInt8.toNat_inj.1 (by omega)
theorem aVe (s:ByteArray)(k n:Nat):(s.extract k s.size).extract 0 n=sB (((bs s).drop k).take n):=by
 rw[<-aBt ((s.extract k s.size).extract 0 n),aV7,aIn]
theorem bBc {c:UInt8}(h:((c.toNat:Int)==10)=false):nl c=true:=by
 have:=aBh (n:=10) h 10 rfl
 simp[nl,this]
theorem aH7 (s:ByteArray)(w:World):Calls Tryz.prog 51 #[.string s] w fun e w'=>TP w (bs s) e w':=by
 by_cases hbig:1024 < s.size
 ·have hn:tks (bs s)=none:=by unfold tks;rw[dN,if_pos hbig]
  have hn':=aA hn
  clear hn
  go_enter Tryz.func51,Tryz.ntmps51
  go_wp2
  go_step3
  go_wp2
  try rw[Exit.noGoto_ret]
  go_ret2
  exact .inl ⟨hn'.o,rfl,Below.refl _ _⟩
 ·have hs:s.size<=1024:=by omega
  have htk:=aA (show tks (bs s)=sc (bs s) 0 by unfold tks;rw[dN,if_neg hbig])
  clear hbig
  go_enter Tryz.func51,Tryz.ntmps51
  go_wp2
  go_step3
  go_wp2
  go_step3
  go_wp2
  go_loopg [4,5] s.size (fun g v i W=>∃ k n:Nat,∃ T:List Tok,k+g=s.size/\n<=k/\i=.i k/\Hid (Es w W v n T)/\Hid (Inv (bs s) k T))
  case atStart=>exact⟨0,0,[],by omega,nLr _,rfl,aA (Es.start w),aA (Inv.start _)⟩
  case round =>
   obtain⟨k,n,T,hk,hnk,rfl,HE,HI⟩:=hrel
   by_cases hlt:k < s.size
   ·have hc:=aA (aA0 hlt)
    by_cases hb:bl s[k]=true
    ·have HI2:=aA (HI.o.blank hc.o hb)
     have hw:((s[k].toNat:Int)==32)=true\/(((s[k].toNat:Int)==32)=false/\((s[k].toNat:Int)==9)=true)\/(((s[k].toNat:Int)==32)=false/\((s[k].toNat:Int)==9)=false/\((s[k].toNat:Int)==10)=true):=by
      simp only[bl,Bool.or_eq_true,beq_iff_eq] at hb
      rcases hb with(h|h)|h <;> rw[h] <;> simp
     clear hb
     rcases hw with h1|⟨h1,h2⟩|⟨h1,h2,h3⟩
     all_goals
      go_wp2
      go_roundg (gk-1)
      case measure=>omega
      case rel=>exact⟨k+1,n,T,by omega,by omega,by go_num,HE,HI2⟩
    ·have hb':bl s[k]=false:=by simpa using hb
     have h1:((s[k].toNat:Int)==32)=false:=by
      cases h:((s[k].toNat:Int)==32)
      ·rfl
      ·rw[nG (n:=32) h 32 rfl] at hb';exact absurd hb' (by decide)
     have h2:((s[k].toNat:Int)==9)=false:=by
      cases h:((s[k].toNat:Int)==9)
      ·rfl
      ·rw[nG (n:=9) h 9 rfl] at hb';exact absurd hb' (by decide)
     have h3:((s[k].toNat:Int)==10)=false:=by
      cases h:((s[k].toNat:Int)==10)
      ·rfl
      ·rw[nG (n:=10) h 10 rfl] at hb';exact absurd hb' (by decide)
     have HB':=aA hb'
     clear hb hb'
     cases h4:((s[k].toNat:Int)==35) with
     | true =>
      have H35:=aA (show (bs s)[k]?=some 35 by rw[hc.o,nG (n:=35) h4 35 rfl])
      go_wp2
      go_loopg [5] (s.size-k) (fun g2 i wy=>∃ j:Nat,j+g2=s.size/\k<=j/\i=.i j/\Hid ((((bs s).drop k).take (j-k)).all nl=true)/\wy=wr)
      case atStart=>exact⟨k,by omega,nLr _,rfl,aA (by simp),rfl⟩
      case round =>
       obtain⟨j,hj,hkj,rfl,HA,rfl⟩:=hrel
       by_cases hjl:j < s.size
       ·have hcj:=aA (aA0 hjl)
        cases h10:((s[j].toNat:Int)==10) with
        | true =>
         have hne:k < j:=by
          rcases Nat.lt_or_ge k j with h|h
          ·exact h
          ·obtain rfl:j=k:=by omega
           rw[h10] at h3;cases h3
         have HI2:=aA (HI.o.rem H35.o hne (by rw[dN];omega) HA.o (by intro c h;rw[hcj.o] at h;cases h;exact nG (n:=10) h10 10 rfl))
         go_wp2
         go_roundg (s.size-j)
         case measure=>omega
         case rel=>exact⟨j,n,T,by omega,by omega,rfl,HE,HI2⟩
        | false =>
         have HA2:=aA (tN (l:=(bs s).drop k) (k:=j-k) (c:=s[j]) HA.o (by rw[List.getElem?_drop,show k+(j-k)=j by omega];exact hcj.o) (bBc h10))
         rw[show j-k+1=j+1-k by omega] at HA2
         go_wp2
         go_roundg (s.size-(j+1))
         case measure=>omega
         case rel=>exact⟨j+1,by omega,by omega,by go_num,HA2,rfl⟩
       ·have HI2:=aA (HI.o.rem H35.o (j:=j) (by omega) (by rw[dN];omega) HA.o (by intro c h;rw[List.getElem?_eq_none (by rw[dN];omega)] at h;cases h))
        go_wp2
        try rw[Exit.noGoto_ret]
        go_ret2
        have hT:=HI2.o.ends (by rw[dN];omega)
        have hE:=HE.o
        exact .inr ⟨T,_,htk.o.trans hT,rfl,by rw[hE.len];exact hE.a,hE.bel⟩
     | false =>
      have h35:=aA (aBh (n:=35) h4 35 rfl)
      have HG:=fun w=>aKf (s.extract k s.size) w (by simp;omega) (by simp;omega)
      simp only[aVe,aIn] at HG
      have hzl:sz ((bs s).drop k)<=s.size-k:=by
       have:=aWl (l:=(bs s).drop k) (by rw[kS hc.o];simp)
       rw[List.length_drop,dN] at this
       exact this
      cases hg:gd ((bs s).drop k) with
      | false =>
       have hN:=aA (HI.o.bad hc.o HB'.o h35.o hg)
       rw[hg] at HG
       have HG':=aA HG
       clear HG hg
       go_wp2_with fail
       refine(HG'.o _).mono ?_
       rintro e w1 ⟨rfl,hb1⟩
       have HBl:=aA (bel HE.o.bel (bel hb1 (aD w1 (.cells (tc (kd ((bs s).drop k)) (sB (((bs s).drop k).take (sz ((bs s).drop k)))) 0) 157))))
       clear hb1
       go_wp2_with fail
       try rw[Exit.noGoto_ret]
       go_ret2
       exact .inl ⟨htk.o.trans hN.o,rfl,HBl.o⟩
      | true =>
       have hpos:=yQ hg
       have HI2:=aA (HI.o.tok hc.o HB'.o h35.o hg)
       have hXl:(((bs s).drop k).take (sz ((bs s).drop k))).length=sz ((bs s).drop k):=by rw[lLt,List.length_drop,dN];omega
       rw[hg] at HG
       obtain⟨K,hK⟩:∃ K,kd ((bs s).drop k)=K:=⟨_,rfl⟩
       obtain⟨X,hX⟩:∃ X,((bs s).drop k).take (sz ((bs s).drop k))=X:=⟨_,rfl⟩
       rw[hX] at hXl
       rw[hK,hX,<-hXl] at HI2
       rw[hK,hX] at HG
       rw[<-hXl] at hpos hzl
       have HG':=aA HG
       clear HG hg hK hX hXl
       have hsz:(sB X).size=X.length:=by simp[ByteArray.size]
       go_wp2_with fail
       refine(HG'.o _).mono ?_
       rintro e w1 ⟨rfl,hb1⟩
       have HE1:=aA (HE.o.later hb1)
       have HN:=aA (aB.new (w1.alloc (.cells (tc K (sB X) k) 157)) 157 (tc K (sB X) k))
       simp only[wSa] at HN
       clear hb1 HE
       go_wp2_with (at_builtin;refine aOp rfl _ _ rfl rfl ((HE1.o.alloc _).alloc _) (w1.heap.size+1) ⟨K,X,k⟩ rfl HN.o (by omega) ?_;intro g cap w2 hE2 hsz2)
       go_roundg (s.size-(k+X.length))
       case measure=>omega
       case rel=>exact⟨k+X.length,n+1,_,by omega,by omega,by go_num,aA hE2,HI2⟩
   ·go_wp2
    try rw[Exit.noGoto_ret]
    go_ret2
    have hT:=HI.o.ends (by rw[dN];omega)
    have hE:=HE.o
    exact .inr ⟨T,_,htk.o.trans hT,rfl,by rw[hE.len];exact hE.a,hE.bel⟩
theorem below_drewN (w:World)(q:Nat):Below w.heap.size w (w.drewN q):=⟨rfl,rfl,rfl,nLr _,fun _ _=>rfl⟩
theorem Toks.at {w:World}{a:Option Addr}{n cap:Nat}{T:List Tok}(h:Toks w a n cap T)(hn:n≠0) :
  ∃ b off,a=some ⟨b,off,none⟩/\b < w.heap.size/\∀ i,i < n->w.cell? ⟨b,off+i*3,none⟩=some (.i (T.getD i t0).kind)/\w.cell? ⟨b,off+i*3+1,none⟩=some (.string (sB (T.getD i t0).text))/\w.cell? ⟨b,off+i*3+2,none⟩=some (.i ((T.getD i t0).pos:Int)):=by
 rcases h.cell with h0|⟨b,off,ha,hc⟩
 ·exact absurd h0 hn
 ·exact⟨b,off,ha,wBl w _ (hc 0 (by omega)).1,hc⟩
theorem Toks.of_cells {w w':World}{a:Option Addr}{n cap:Nat}{T:List Tok}(h:Toks w a n cap T)
  (hc:∀ b off,a=some ⟨b,off,none⟩->n≠0->∀ i,w'.cell? ⟨b,i,none⟩=w.cell? ⟨b,i,none⟩):Toks w' a n cap T:=by
 refine⟨h.len,h.le,h.max,h.nil,?_⟩
 by_cases hn:n=0
 ·exact .inl hn
 ·obtain⟨b,off,ha,_,hcell⟩:=h.at hn
  refine .inr ⟨b,off,ha,fun i hi=>?_⟩
  obtain⟨c1,c2,c3⟩:=hcell i hi
  exact⟨(hc b off ha hn _).trans c1,(hc b off ha hn _).trans c2,(hc b off ha hn _).trans c3⟩
end
section
open Go.RowKit Go.IntWalk Lx Pz
def nd9 (n:Nd):List Value:=[.i n.op,.i n.a,.i n.b,.i n.c,.i n.k,.i n.back,.i n.co,.i n.x,.i n.y]
def uN (NS:List Nd):List Value:=NS.flatMap nd9
theorem aO8 (NS:List Nd):(uN NS).length=NS.length*9:=by
 induction NS with
 | nil=>rfl
 | cons p L ih=>simp[uN,nd9] at *;omega
theorem aK9 (NS:List Nd)(n:Nd):uN (NS++[n])=uN NS++nd9 n:=by simp[uN]
abbrev aL0 (L:List aM):List Value:=L.map fun s=>.string (sB s)
abbrev kK (L:List Int):List Value:=L.map fun k=>.i k
structure Kp (S:List TypeId)(W W':World):Prop where
 size:W.heap.size<=W'.heap.size
 block:∀(k:Nat) (cs:Array Value) (t:TypeId) (fr:Nat × Nat),W.heap[k]?=some (.cells cs t fr)->t ∉ S->W'.heap[k]?=some (.cells cs t fr)
theorem Kp.refl (S:List TypeId)(W:World):Kp S W W:=⟨nLr _,fun _ _ _ _ h _=>h⟩
theorem Kp.trans {S:List TypeId}{a b c:World}(h:Kp S a b)(k:Kp S b c):Kp S a c :=
 ⟨Nat.le_trans h.size k.size,fun i cs t fr hi ht=>k.block i cs t fr (h.block i cs t fr hi ht) ht⟩
theorem Kp.mono {S S':List TypeId}{a b:World}(h:Kp S a b)(hs:∀ t ∈ S,t ∈ S'):Kp S' a b:=⟨h.size,fun i cs t fr hi ht=>h.block i cs t fr hi fun hm=>ht (hs t hm)⟩
theorem Kp.of_below (S:List TypeId){a b:World}(h:Below a.heap.size a b):Kp S a b :=
 ⟨h.size,fun i cs t fr hi _=>(h.block i (aGs.1 hi).1).trans hi⟩
theorem Kp.grown {S:List TypeId}{W W':World}{row:Option Nat}(hg:W.grownBy W' row)(hr:∀ k,row=some k->∃ cs t fr,W.heap[k]?=some (.cells cs t fr)/\t ∈ S):Kp S W W':=by
 refine⟨hg.size,fun i cs t fr hi ht=>(hg.block i (aGs.1 hi).1 ?_).trans hi⟩
 intro e
 obtain⟨cs',t',fr',h',hm⟩:=hr i e.symm
 rw[hi] at h'
 cases h'
 exact ht hm
theorem Kp.set {S:List TypeId}{W:World}{b:Nat}{t:TypeId}{cs:Array Value}(h:aB W b t cs)(ht:t ∈ S)(i:Nat)(u:Value):Kp S W (W.setCell ⟨b,i,none⟩ u):=by
 refine⟨by simp[World.setCell],fun k cs' t' fr hk hn=>?_⟩
 by_cases e:k=b
 ·subst e
  rw[show W.heap[k]?=_ from h] at hk
  cases hk
  exact absurd ht hn
 ·exact(Below.heap_setCell W ⟨b,i,none⟩ u k e).trans hk
theorem aB.kp {S:List TypeId}{W W':World}{b:Nat}{t:TypeId}{cs:Array Value}(h:aB W b t cs)(hk:Kp S W W')(ht:t ∉ S):aB W' b t cs:=hk.block b cs t (0,0) h ht
theorem bB {S:List TypeId}{W W':World}{base:Nat}{e:TypeId}{size:Nat}{v:Value}{n:Nat}{xs:List Value}(h:W.ownsRow base e size v n xs)(hk:Kp S W W')(ht:e ∉ S):W'.ownsRow base e size v n xs:=by
 refine⟨h.1,?_⟩
 rcases h.2 with hn|⟨g,cap,cur,rfl,hb,hgg,rest⟩
 ·exact .inl hn
 ·exact .inr ⟨g,cap,cur,rfl,hb,hk.block g _ _ _ hgg ht,rest⟩
theorem aR {W:World}{base:Nat}{e:TypeId}{size:Nat}{v:Value}{n:Nat}{xs:List Value}(h:W.ownsRow base e size v n xs):∀ k,v.ownBlock=some k->base<=k/\∃ cs fr,W.heap[k]?=some (.cells cs e fr):=by
 intro k hk
 rcases h.2 with⟨rfl,_⟩|⟨g,cap,cur,rfl,hb,hgg,rest⟩
 ·simp[Value.ownBlock] at hk
 ·simp[Value.ownBlock] at hk
  subst hk
  exact⟨hb,_,_,hgg⟩
structure Tz (W:World)(a:Option Addr)(n cap:Nat)(T:List Tok):Prop where
 t:Toks W a n cap T
 ty:∀ x,a=some x->∃ cs fr,W.heap[x.block]?=some (.cells cs 157 fr)
theorem Tz.kp {S:List TypeId}{W W':World}{a:Option Addr}{n cap:Nat}{T:List Tok}(h:Tz W a n cap T)(hk:Kp S W W')(ht:157 ∉ S):Tz W' a n cap T:=by
 refine⟨h.t.of_cells fun b off ha hn i=>?_,fun x hx=>?_⟩
 ·obtain⟨cs,fr,hc⟩:=h.ty _ ha
  have h2:=hk.block _ _ _ _ hc ht
  exact World.cell?_of_block (a:=⟨b,i,none⟩) (h2.trans hc.symm)
 ·obtain⟨cs,fr,hc⟩:=h.ty x hx
  exact⟨cs,fr,hk.block _ _ _ _ hc ht⟩
structure Mm where
 la:Option Addr
 ln:Nat
 lc:Nat
 nv:Value
 bv:Value
 dv:Value
 root:Int
abbrev Mm.cs (m:Mm):Array Value:=#[.slice m.la m.ln m.lc,m.nv,m.bv,m.dv,.i m.root]
structure Rd (w W:World)(b:Nat)(m:Mm)(T:List Tok)(NM:List aM)(BS:List Int)(NS:List Nd):Prop where
 blk:aB W b 106 m.cs
 base:w.heap.size<=b
 toks:Tz W m.la m.ln m.lc T
 names:W.ownsRow w.heap.size 9 1 m.nv NM.length (aL0 NM)
 binds:W.ownsRow w.heap.size 3 1 m.bv BS.length (kK BS)
 nodes:W.ownsRow w.heap.size 137 9 m.dv NS.length (uN NS)
 wf:∀ t ∈ T,Wf t
 old:Below w.heap.size w W
theorem Rd.later {w W W':World}{b:Nat}{m:Mm}{T:List Tok}{NM:List aM}{BS:List Int}{NS:List Nd}(h:Rd w W b m T NM BS NS)(hb:Below W.heap.size W W'):Rd w W' b m T NM BS NS:=by
 have hk:=Kp.of_below [] hb
 exact⟨h.blk.kp hk (by simp),h.base,h.toks.kp hk (by simp),bB h.names hk (by simp),bB h.binds hk (by simp),bB h.nodes hk (by simp),h.wf,Go.Proofs.YticnbcfmbhjbgaaGreatDoor.bel h.old hb⟩
theorem aN1 {W F:World}(b:Nat)(h:Below W.heap.size W F):W.grownBy F (some b):=⟨h.os,h.tape,h.output,h.size,fun k hk _=>h.block k hk⟩
theorem aCr {W F:World}{b:Nat}(h:W.grownBy F (some b)){p:Addr}(hp:p.block=b\/W.heap.size<=p.block)(u:Value):W.grownBy (F.setCell p u) (some b):=by
 refine⟨h.os,h.tape,h.output,by have:=h.size;simp[World.setCell];omega,fun k hk hne=>(Below.heap_setCell F p u k ?_).trans (h.block k hk hne)⟩
 rcases hp with hp|hp
 ·rw[hp];simpa using hne
 ·omega
theorem aN0 {W F:World}{b:Nat}(h:W.grownBy F (some b))(o:Obj):W.grownBy (F.alloc o) (some b) :=
 ⟨h.os,h.tape,h.output,by have:=h.size;simp;omega,fun k hk hne=>(Below.heap_alloc F o k (by have:=h.size;omega)).trans (h.block k hk hne)⟩
theorem Kp.gb {S:List TypeId}{W F:World}{b:Nat}{t:TypeId}{cs:Array Value}(h:W.grownBy F (some b))(hb:aB W b t cs)(ht:t ∈ S):Kp S W F :=
 Kp.grown h fun k hk=>by cases hk;exact⟨cs,t,_,hb,ht⟩
theorem Rd.moved {w W F:World}{b:Nat}{m m':Mm}{T T':List Tok}{NM:List aM}{BS:List Int}{NS:List Nd}(h:Rd w W b m T NM BS NS)(hF:W.grownBy F (some b))
  (hb:aB F b 106 m'.cs) (h1:m'.nv=m.nv) (h2:m'.bv=m.bv) (h3:m'.dv=m.dv) (ht:Tz W m'.la m'.ln m'.lc T') (hw:∀ t ∈ T',t ∈ T):Rd w F b m' T' NM BS NS:=by
 have hk:Kp [106] W F:=Kp.gb hF h.blk (by simp)
 exact⟨hb,h.base,ht.kp hk (by decide),by rw[h1];exact bB h.names hk (by decide),by rw[h2];exact bB h.binds hk (by decide),by rw[h3];exact bB h.nodes hk (by decide),fun t ht=>h.wf t (hw t ht),
  h.old.grown hF h.old.size (fun k hk=>by cases hk;exact h.base)⟩
theorem Tz.tail {W:World}{g off n cap:Nat}{t:Tok}{T:List Tok}(h:Tz W (some ⟨g,off,none⟩) n cap (t::T)) :
  (cap=1->Tz W (some ⟨g,off,none⟩) (n-1) 0 T)/\(cap≠1->Tz W (some ⟨g,off+3,none⟩) (n-1) (cap-1) T):=by
 have hl:=h.t.len
 have hle:=h.t.le
 have hmx:=h.t.max
 rw[lLc] at hl
 constructor
 ·intro hc
  exact⟨⟨by omega,by omega,by unfold maxLen;omega,(fun e=>by cases e),.inl (by omega)⟩,h.ty⟩
 ·intro hc
  refine⟨⟨by omega,by omega,by omega,(fun e=>by cases e),?_⟩,fun x hx=>by cases hx;exact h.ty ⟨g,off,none⟩ rfl⟩
  by_cases hn:n-1=0
  ·exact .inl hn
  ·obtain⟨b,o,hb,_,hcell⟩:=h.t.at (by omega)
   cases hb
   refine .inr ⟨g,off+3,rfl,fun i hi=>?_⟩
   have:=hcell (i+1) (by omega)
   rw[List.getD_cons_succ,show off+(i+1)*3=off+3+i*3 by omega] at this
   exact this
def hd (T:List Tok):Tok:=T.headD t0
abbrev pan:Ending:=.panicked [{ v:=.iface 28 (.i 10),recovered:=false }]
abbrev ptr (b:Nat):Value:=.pointer (some ⟨b,0,none⟩)
theorem fO {w W:World}{b:Nat}{m:Mm}{T:List Tok}{NM:List aM}{BS:List Int}{NS:List Nd}(h:Rd w W b m T NM BS NS) :
  Calls Tryz.prog 180 #[ptr b] W fun e W'=>e=.returned (.agg (tc (hd T).kind (sB (hd T).text) (hd T).pos))/\Below W.heap.size W W':=by
 obtain⟨la,ln,lc,nv,bv,dv,root⟩:=m
 have c0:=aZ (o:=.cells (tc 0 ⟨#[]⟩ 0) 157) h.blk.lt (i:=0) |>.trans (h.blk.cell 0 rfl)
 have hl:=h.toks.t.len
 have hmx:=h.toks.t.max
 have hle:=h.toks.t.le
 simp only at c0 hl hmx hle
 unfold maxLen at hmx
 cases T with
 | nil =>
  obtain rfl:ln=0:=by simpa using hl.symm
  clear hl h
  go_enter Tryz.func180,Tryz.ntmps180
  go_wp2
  exact bPr (v:=.agg (tc 0 ⟨#[]⟩ 0)) (by simp[results,Tryz.results180,go_sem]) rfl ⟨rfl,aD _ _⟩
 | cons t T =>
  rw[lLc] at hl
  obtain⟨g,off,rfl,hg,hc⟩:=h.toks.t.at (by simp only;omega)
  obtain⟨d0,d1,d2⟩:=hc 0 (by simp only;omega)
  simp only[Nat.zero_mul,Nat.add_zero,List.getD_cons_zero] at d0 d1 d2
  have e0:=(aZ (o:=.cells (tc 0 ⟨#[]⟩ 0) 157) hg (i:=off)).trans d0
  have e1:=(aZ (o:=.cells (tc 0 ⟨#[]⟩ 0) 157) hg (i:=off+1)).trans d1
  have e2:=(aZ (o:=.cells (tc 0 ⟨#[]⟩ 0) 157) hg (i:=off+2)).trans d2
  have h0:0 < ln:=by omega
  clear hc d0 d1 d2 h hg
  have hn:((ln:Int)==0)=false:=by simp;omega
  go_enter Tryz.func180,Tryz.ntmps180
  go_wp2
  exact bPr (v:=.agg (tc t.kind (sB t.text) t.pos)) (by simp[results,Tryz.results180,go_sem]) rfl ⟨rfl,aD _ _⟩
end
open Go.RowKit Go.IntWalk Lx Pz
abbrev SX:List TypeId:=[137,106]
theorem aVr {t:Tok}(h:Wf t):(t.kind==0)=false:=by
 rcases h with⟨h,-⟩|⟨h,-⟩|⟨h,-⟩ <;> rw[h] <;> decide
theorem aFd {w W:World}{b:Nat}{m:Mm}{NM:List aM}{BS:List Int}{NS:List Nd}(h:Rd w W b m [] NM BS NS) :
  Calls Tryz.prog 181 #[ptr b] W fun e W'=>e=pan/\Below W.heap.size W W':=by
 have HR:=aA (h.later (aD W (.cells (tc 0 ⟨#[]⟩ 0) 157)))
 clear h
 go_enter Tryz.func181,Tryz.ntmps181
 go_wp2_with fail
 refine(fO HR.o).mono ?_
 rintro e W1 ⟨rfl,hb⟩
 have HB:=aA (bel (aD W (.cells (tc 0 ⟨#[]⟩ 0) 157)) hb)
 clear hb
 rw[show (hd []).kind=0 from rfl,show sB (hd []).text=⟨#[]⟩ from rfl,show ((hd []).pos:Int)=0 from rfl]
 go_wp2_with fail
 exact⟨rfl,rfl,bel HB.o (aD _ _)⟩
theorem aFc {w W W1:World}{b:Nat}{m:Mm}{t:Tok}{T:List Tok}{NM:List aM}{BS:List Int}{NS:List Nd}(hW:Rd w W b m (t::T) NM BS NS)(hB:Below W.heap.size W W1)
  (hH:aB W1 W.heap.size 157 (tc 0 ⟨#[]⟩ 0)) {la:Option Addr} {ln lc:Nat} (hz:Tz W la ln lc T) :
  ∃ F,(((((W1.setCell ⟨b,0,none⟩ (.slice la ln lc)).alloc (.cells (tc t.kind (sB t.text) t.pos) 157)).setCell ⟨W.heap.size,0,none⟩ (.i t.kind)).setCell ⟨W.heap.size,1,none⟩ (.string (sB t.text))).setCell ⟨W.heap.size,2,none⟩ (.i t.pos))=F /\
   (F.cell? ⟨W.heap.size,0,none⟩=some (.i t.kind)/\F.cell? ⟨W.heap.size,1,none⟩=some (.string (sB t.text))/\F.cell? ⟨W.heap.size,2,none⟩=some (.i t.pos))/\(∃ m',Rd w F b m' T NM BS NS)/\Kp SX W F:=by
 refine⟨_,rfl,?_⟩
 have hbW:=hW.blk.lt
 have h1:=(hH.other (p:=⟨b,0,none⟩) (show W.heap.size≠b by omega) (.slice la ln lc)).alloc (.cells (tc t.kind (sB t.text) t.pos) 157)
 have h2:=((h1.set 0 (.i t.kind)).set 1 (.string (sB t.text))).set 2 (.i t.pos)
 have hg:W.grownBy _ (some b):=aCr (aCr (aCr (aN0 (aCr (aN1 b hB) (p:=⟨b,0,none⟩) (.inl rfl) (.slice la ln lc)) (.cells (tc t.kind (sB t.text) t.pos) 157)) (p:=⟨W.heap.size,0,none⟩) (.inr (nLr _)) (.i t.kind)) (p:=⟨W.heap.size,1,none⟩) (.inr (nLr _)) (.string (sB t.text))) (p:=⟨W.heap.size,2,none⟩) (.inr (nLr _)) (.i t.pos)
 have hb:=((((hW.blk.below hB).set 0 (.slice la ln lc)).alloc (.cells (tc t.kind (sB t.text) t.pos) 157)).other (p:=⟨W.heap.size,0,none⟩) (show b≠W.heap.size by omega) (.i t.kind)).other (p:=⟨W.heap.size,1,none⟩) (show b≠W.heap.size by omega) (.string (sB t.text)) |>.other (p:=⟨W.heap.size,2,none⟩) (show b≠W.heap.size by omega) (.i t.pos)
 exact⟨⟨h2.cell 0 rfl,h2.cell 1 rfl,h2.cell 2 rfl⟩,⟨⟨la,ln,lc,m.nv,m.bv,m.dv,m.root⟩,hW.moved hg hb rfl rfl rfl hz (fun t h=>List.mem_cons_of_mem _ h)⟩,Kp.gb hg hW.blk (by decide)⟩
theorem eG {w W:World}{b:Nat}{m:Mm}{t:Tok}{T:List Tok}{NM:List aM}{BS:List Int}{NS:List Nd}(h:Rd w W b m (t::T) NM BS NS) :
  Calls Tryz.prog 181 #[ptr b] W fun e W'=>e=.returned (.agg (tc t.kind (sB t.text) t.pos))/\(∃ m',Rd w W' b m' T NM BS NS)/\Kp SX W W':=by
 have HR:=aA (h.later (aD W (.cells (tc 0 ⟨#[]⟩ 0) 157)))
 have hk:=aVr (h.wf t (by simp))
 have HW:=aA h
 clear h
 go_enter Tryz.func181,Tryz.ntmps181
 go_wp2_with fail
 refine(fO HR.o).mono ?_
 rintro e W1 ⟨rfl,hb⟩
 have HB:=aA (bel (aD W (.cells (tc 0 ⟨#[]⟩ 0) 157)) hb)
 have HR1:=aA (HR.o.later hb)
 have HH:=aA ((aB.new W 157 (tc 0 ⟨#[]⟩ 0)).below hb)
 clear hb HR
 obtain⟨la,ln,lc,nv,bv,dv,root⟩:=m
 have hlt:=HR1.o.blk.lt
 have c0:=(aZ (o:=.cells (tc t.kind (sB t.text) t.pos) 157) hlt (i:=0)).trans (HR1.o.blk.cell 0 rfl)
 have z0:=(HR1.o.blk.alloc (.cells (tc t.kind (sB t.text) t.pos) 157)).frozen 0
 have hl:=HR1.o.toks.t.len
 have hmx:=HR1.o.toks.t.max
 have hle:=HR1.o.toks.t.le
 simp only[lLc] at c0 hl hmx hle
 unfold maxLen at hmx
 obtain⟨g,off,hla,hg,-⟩:=HR1.o.toks.t.at (by simp only;omega)
 simp only at hla
 subst hla
 have h0:1<=ln:=by omega
 clear hg hl
 rw[show (hd (t::T)).kind=t.kind from rfl,show sB (hd (t::T)).text=sB t.text from rfl,show ((hd (t::T)).pos:Int)=(t.pos:Int) from rfl]
 have hbW:=HW.o.blk.lt
 by_cases h1:lc=1
 ·subst h1
  obtain rfl:ln=1:=by omega
  have HC1:=aA ((HH.o.other (p:=⟨b,0,none⟩) (show W.heap.size≠b by omega) (.slice (some ⟨g,off,none⟩) 0 0)).alloc (.cells (tc t.kind (sB t.text) t.pos) 157))
  obtain⟨s0,s1,s2⟩:=jA HC1.o
  obtain⟨y0,y1,y2⟩:=aA8 HC1.o
  go_wp2_with fail
  obtain⟨F,hF,⟨f0,f1,f2⟩,hR,hK⟩:=aFc (la:=some ⟨g,off,none⟩) (ln:=0) (lc:=0) HW.o HB.o HH.o (HW.o.toks.tail.1 rfl)
  exact bPr (v:=.agg (tc t.kind (sB t.text) t.pos)) (by rw[hF];simp[results,Tryz.results181,go_sem,f0,f1,f2]) rfl ⟨rfl,by rw[hF];exact hR,by rw[hF];exact hK⟩
 ·have HC1:=aA ((HH.o.other (p:=⟨b,0,none⟩) (show W.heap.size≠b by omega) (.slice (some ⟨g,off+3,none⟩) (ln-1) (lc-1))).alloc (.cells (tc t.kind (sB t.text) t.pos) 157))
  obtain⟨s0,s1,s2⟩:=jA HC1.o
  obtain⟨y0,y1,y2⟩:=aA8 HC1.o
  go_wp2_with fail
  obtain⟨F,hF,⟨f0,f1,f2⟩,hR,hK⟩:=aFc (la:=some ⟨g,off+3,none⟩) (ln:=ln-1) (lc:=lc-1) HW.o HB.o HH.o (HW.o.toks.tail.2 h1)
  exact bPr (v:=.agg (tc t.kind (sB t.text) t.pos)) (by rw[hF];simp[results,Tryz.results181,go_sem,f0,f1,f2]) rfl ⟨rfl,by rw[hF];exact hR,by rw[hF];exact hK⟩
def aZ5 (w W:World)(b:Nat)(T:List Tok)(NM:List aM)(BS:List Int)(NS:List Nd)(e:Ending)(W':World):Prop :=
 (T=[]/\e=pan/\Below w.heap.size w W')\/(∃ t T',T=t::T'/\Wf t/\e=.returned (.agg (tc t.kind (sB t.text) t.pos))/\(∃ m',Rd w W' b m' T' NM BS NS)/\Kp SX W W')
theorem aPb {w W:World}{b:Nat}{m:Mm}{T:List Tok}{NM:List aM}{BS:List Int}{NS:List Nd}(h:Rd w W b m T NM BS NS) :
  Calls Tryz.prog 181 #[ptr b] W fun e W'=>aZ5 w W b T NM BS NS e W':=by
 cases T with
 | nil=>exact(aFd h).mono fun e W' ⟨h1,h2⟩=>.inl ⟨rfl,h1,bel h.old h2⟩
 | cons t T=>exact(eG h).mono fun e W' ⟨h1,h2,h3⟩=>.inr ⟨t,T,rfl,h.wf t (by simp),h1,h2,h3⟩
theorem bAj:∀(k:Int) (s:ByteArray) (p:Int) (w:World),(Instr.field 157 (.agg (tc k s p)) 0).run Tryz.prog w=.ok (.i k) w:=by
 intro k s p w;simp[Instr.field,asAgg,go_sem]
theorem aEv:∀(k:Int) (s:ByteArray) (p:Int) (w:World),(Instr.field 157 (.agg (tc k s p)) 1).run Tryz.prog w=.ok (.string s) w:=by
 intro k s p w;simp[Instr.field,asAgg,go_sem]
theorem aJ3 {s t:ByteArray}(h:bs s≠bs t):(s.toList==t.toList)=false:=by
 rw[iV,iV]
 simpa using h
theorem lQ {w W:World}{b:Nat}{m:Mm}{t:Tok}{T:List Tok}{NM:List aM}{BS:List Int}{NS:List Nd}(h:Rd w W b m (t::T) NM BS NS)(s:ByteArray)(hs:t.text=bs s) :
  Calls Tryz.prog 108 #[ptr b,.string s] W fun e W'=>e=.returned (.bool true)/\(∃ m',Rd w W' b m' T NM BS NS)/\Kp SX W W':=by
 have HW:=aA h
 clear h
 have F1:=aEv
 go_enter Tryz.func108,Tryz.ntmps108
 go_wp2_with fail
 refine(fO HW.o).mono ?_
 rintro e W1 ⟨rfl,hb⟩
 have HR:=aA (HW.o.later hb)
 have HK:=aA (Kp.of_below SX hb)
 rw[show sB (hd (t::T)).text=s by show sB t.text=s;rw[hs,aBt]]
 clear hb HW hs
 go_wp2_with fail
 refine(eG HR.o).mono ?_
 rintro e W2 ⟨rfl,hR,hk⟩
 have HR2:=aA hR
 have HK2:=aA (HK.o.trans hk)
 clear hR hk HK
 go_wp2_with fail
 go_ret
 exact⟨rfl,HR2.o,HK2.o⟩
theorem mI {w W:World}{b:Nat}{m:Mm}{T:List Tok}{NM:List aM}{BS:List Int}{NS:List Nd}(h:Rd w W b m T NM BS NS)(s:ByteArray)(hs:(hd T).text≠bs s) :
  Calls Tryz.prog 108 #[ptr b,.string s] W fun e W'=>e=.returned (.bool false)/\Below W.heap.size W W':=by
 have HW:=aA h
 have hne:=aJ3 (s:=sB (hd T).text) (t:=s) hs
 clear h hs
 have F1:=aEv
 go_enter Tryz.func108,Tryz.ntmps108
 go_wp2_with fail
 refine(fO HW.o).mono ?_
 rintro e W1 ⟨rfl,hb⟩
 have HB:=aA hb
 generalize sB (hd T).text=u at hne ⊢
 clear hb HW
 go_wp2_with fail
 go_ret
 exact⟨rfl,HB.o⟩
theorem dY {w W:World}{b:Nat}{m:Mm}{t:Tok}{T:List Tok}{NM:List aM}{BS:List Int}{NS:List Nd}(h:Rd w W b m (t::T) NM BS NS)(s:ByteArray)(hs:t.text=bs s) :
  Calls Tryz.prog 184 #[ptr b,.string s] W fun e W'=>e=.returned (.tuple #[])/\(∃ m',Rd w W' b m' T NM BS NS)/\Kp SX W W':=by
 have HW:=aA h
 have hs:=aA hs
 clear h
 go_enter Tryz.func184,Tryz.ntmps184
 go_wp2_with fail
 refine(lQ HW.o _ hs.o).mono ?_
 rintro e W1 ⟨rfl,hR,hk⟩
 have HR:=aA hR
 have HK:=aA hk
 clear hR hk
 go_wp2_with fail
 refine bodyPost_end (results_none rfl _ _ _) rfl ?_
 exact⟨rfl,HR.o,HK.o⟩
theorem fH {w W:World}{b:Nat}{m:Mm}{T:List Tok}{NM:List aM}{BS:List Int}{NS:List Nd}(h:Rd w W b m T NM BS NS)(s:ByteArray)(hs:(hd T).text≠bs s) :
  Calls Tryz.prog 184 #[ptr b,.string s] W fun e W'=>e=pan/\Below W.heap.size W W':=by
 have HW:=aA h
 have hs:=aA hs
 clear h
 go_enter Tryz.func184,Tryz.ntmps184
 go_wp2_with fail
 refine(mI HW.o _ hs.o).mono ?_
 rintro e W1 ⟨rfl,hb⟩
 have HB:=aA hb
 clear hb
 go_wp2_with fail
 exact⟨rfl,rfl,HB.o⟩
end Go.Proofs.YticnbcfmbhjbgaaGreatDoor
