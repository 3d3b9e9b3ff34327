import Derived.Test.YtngnnijpdjhelaaGreatX19
import Derived.Test.YtngnnijpdjhelaaGreatX45
namespace Go.Proofs.YtngnnijpdjhelaaGreat
open Go.RowKit Go.IntWalk Lx Pz
set_option linter.unusedVariables false
set_option maxRecDepth 100000
set_option maxHeartbeats 16000000
theorem gset (W:World)(p:Addr)(u:Value):W.grownBy (W.setCell p u) (some p.block) :=
 ⟨rfl,rfl,rfl,by simp,fun k hk hne=>Below.heap_setCell W p u k (fun e=>hne (by rw[e]))⟩
theorem own_ne' {W:World}{base b:Nat}{e t:TypeId}{size n:Nat}{v:Value}{xs:List Value}{cs:Array Value}(h:W.ownsRow base e size v n xs)(hb:HasC W b t cs)(ht:t≠e):v.ownBlock≠some b:=by
 intro hv
 obtain⟨-,cs',fr,hc⟩:=owns_block h b hv
 have h2:=hb.symm.trans hc
 simp only[Option.some.injEq,Obj.cells.injEq] at h2
 exact ht h2.2.1
structure Rs (W:World)(f d:Int)(tv:Array Value)(q:Nat)(v:Value)(S:Sps)(co mx:Int)(D:List Int)(V:World):Prop where
 bel:Below W.heap.size W V
 K:HasC V W.heap.size 23 (kdA f d)
 T:HasC V (W.heap.size+1) 28 tv
 R:HasC V (W.heap.size+1+1) 50 rep0
 O:HasC V q 50 #[v,.int .i64 co,.int .i64 mx]
 G:HasC V (q+1) 3 (inA D)
 S:V.ownsRow W.heap.size 103 2 v S.length (Spn.sp64 S)
 hq:W.heap.size+1+1 < q
section
variable {W V V' : World} {f d co mx : Int} {tv : Array Value} {q : Nat} {v : Value} {S : Sps} {D : List Int}
theorem Rs.later (h:Rs W f d tv q v S co mx D V)(hb:Below V.heap.size V V'):Rs W f d tv q v S co mx D V' :=
 ⟨h.bel.trans (hb.mono h.bel.size),h.K.below hb,h.T.below hb,h.R.below hb,h.O.below hb,h.G.below hb,h.S.kept (⟨hb.os,hb.tape,hb.output,hb.size,fun k hk _=>hb.block k hk⟩:V.grownBy V' none) (by cases hv:v.ownBlock with|none=>exact .inl rfl|some q=>exact .inr (by simp)),h.hq⟩
theorem Rs.kept {row:Option Nat}{B:Nat}(h:Rs W f d tv q v S co mx D V)(hB:q+1 < B)(hv:∀ b,v.ownBlock=some b->b < B)(hg:V.grownBy V' row)(hr:∀ r,row=some r->B<=r):Rs W f d tv q v S co mx D V':=by
 have hne:∀ b,b < B->some b≠row:=fun b hb e=>by have:=hr b e.symm;omega
 have:=h.hq
 refine⟨h.bel.grown hg h.bel.size (fun k hk=>by have:=hr k hk;omega),h.K.kept hg (hne _ (by omega)),h.T.kept hg (hne _ (by omega)),h.R.kept hg (hne _ (by omega)),h.O.kept hg (hne _ (by omega)),h.G.kept hg (hne _ (by omega)),h.S.kept hg ?_,h.hq⟩
 cases hvb:v.ownBlock with
 | none=>exact .inl rfl
 | some b=>exact .inr (hne b (hv b hvb))
theorem Rs.vlt (h:Rs W f d tv q v S co mx D V):∀ b,v.ownBlock=some b->b < V.heap.size:=fun b hb=>(h.S.lt b hb).2
theorem Rs.deep {A Z:List Int}{z:Int}(h:Rs W f d tv q v S co mx (A++z::Z) V){k:Nat}(hk:A.length=k)(x:Int):Rs W f d tv q v S co mx (A++x::Z) (V.setCell ⟨q+1,k,none⟩ (.int .i64 x)):=by
 have hq:=h.hq
 have hg:=gset V ⟨q+1,k,none⟩ (.int .i64 x)
 refine⟨h.bel.setCell (p:=⟨q+1,k,none⟩) (by show W.heap.size<=q+1;omega) _,h.K.other (p:=⟨q+1,k,none⟩) (by show W.heap.size≠q+1;omega) _,h.T.other (p:=⟨q+1,k,none⟩) (by show W.heap.size+1≠q+1;omega) _,h.R.other (p:=⟨q+1,k,none⟩) (by show W.heap.size+1+1≠q+1;omega) _,h.O.other (p:=⟨q+1,k,none⟩) (by show q≠q+1;omega) _,put_in h.G hk x,h.S.kept hg (.inr (own_ne' h.S h.G (by decide))),h.hq⟩
theorem Rs.cost (h:Rs W f d tv q v S co mx D V)(x:Int):Rs W f d tv q v S x mx D (V.setCell ⟨q,1,none⟩ (.int .i64 x)):=by
 have hq:=h.hq
 have hg:=gset V ⟨q,1,none⟩ (.int .i64 x)
 exact⟨h.bel.setCell (p:=⟨q,1,none⟩) (by show W.heap.size<=q;omega) _,h.K.other (p:=⟨q,1,none⟩) (by show W.heap.size≠q;omega) _,h.T.other (p:=⟨q,1,none⟩) (by show W.heap.size+1≠q;omega) _,h.R.other (p:=⟨q,1,none⟩) (by show W.heap.size+1+1≠q;omega) _,h.O.set 1 _,h.G.other (p:=⟨q,1,none⟩) (by show q+1≠q;omega) _,h.S.kept hg (.inr (own_ne' h.S h.O (by decide))),h.hq⟩
theorem Rs.depth (h:Rs W f d tv q v S co mx D V)(x:Int):Rs W f d tv q v S co x D (V.setCell ⟨q,2,none⟩ (.int .i64 x)):=by
 have hq:=h.hq
 have hg:=gset V ⟨q,2,none⟩ (.int .i64 x)
 exact⟨h.bel.setCell (p:=⟨q,2,none⟩) (by show W.heap.size<=q;omega) _,h.K.other (p:=⟨q,2,none⟩) (by show W.heap.size≠q;omega) _,h.T.other (p:=⟨q,2,none⟩) (by show W.heap.size+1≠q;omega) _,h.R.other (p:=⟨q,2,none⟩) (by show W.heap.size+1+1≠q;omega) _,h.O.set 2 _,h.G.other (p:=⟨q,2,none⟩) (by show q+1≠q;omega) _,h.S.kept hg (.inr (own_ne' h.S h.O (by decide))),h.hq⟩
theorem Rs.grow (h:Rs W f d tv q v S co mx D V){g cap:Nat}{x y:Int}(hown:V'.ownsRow W.heap.size 103 2 (.slice (some ⟨g,0,none⟩) (S.length+1) cap) (S.length+1) (Spn.sp64 S++[.int .i64 x,.int .i64 y]))(hg:V.grownBy V' v.ownBlock) :
  Rs W f d tv q (.slice (some ⟨g,0,none⟩) (S.length+1) cap) (S++[(x,y)]) co mx D (V'.setCell ⟨q,0,none⟩ (.slice (some ⟨g,0,none⟩) (S.length+1) cap)):=by
 have hq:=h.hq
 have K:=h.K.kept hg (fun e=>own_ne' h.S h.K (by decide) e.symm)
 have T:=h.T.kept hg (fun e=>own_ne' h.S h.T (by decide) e.symm)
 have R:=h.R.kept hg (fun e=>own_ne' h.S h.R (by decide) e.symm)
 have O:=h.O.kept hg (fun e=>own_ne' h.S h.O (by decide) e.symm)
 have G:=h.G.kept hg (fun e=>own_ne' h.S h.G (by decide) e.symm)
 have hB:=h.bel.grown hg h.bel.size (fun k hk=>(h.S.lt k hk).1)
 refine⟨hB.setCell (p:=⟨q,0,none⟩) (by show W.heap.size<=q;omega) _,K.other (p:=⟨q,0,none⟩) (by show W.heap.size≠q;omega) _,T.other (p:=⟨q,0,none⟩) (by show W.heap.size+1≠q;omega) _,R.other (p:=⟨q,0,none⟩) (by show W.heap.size+1+1≠q;omega) _,O.set 0 _,G.other (p:=⟨q,0,none⟩) (by show q+1≠q;omega) _,?_,h.hq⟩
 rw[Spn.sp64_snoc,List.length_append]
 exact hown.kept (gset V' ⟨q,0,none⟩ _) (.inr (own_ne' hown O (by decide)))
end
theorem lf_leaf {f d:Int}{BS:List Int}{S:Sps}{i:Nat}{n:Nd}(hm:Knd.May f d)(hn:Wn BS i n)(h:n.op=1\/n.op=2\/n.op=3):(lfZ f d n.op n.k).2=true/\spN f d BS S n=((lfZ f d n.op n.k).1,0)/\∀ D,dpN BS D n=1:=by
 have h4:n.op≠4:=by omega
 have hp:prts n=[]:=by
  unfold prts
  rcases h with h|h|h <;> (rw[h];rfl)
 refine⟨?_,?_,fun D=>by unfold dpN;rw[if_neg h4,hp];rfl⟩
 ·unfold lfZ
  by_cases h1:n.op=1
  ·rw[if_pos h1]
  rw[if_neg h1]
  by_cases h2:n.op=2
  ·rw[if_pos h2]
   have hk:=hn.inp h2
   show (Knd.inZ f d n.k).isSome=true
   unfold Knd.inZ
   rw[if_neg (by simpa using hm)]
   repeat' split
   all_goals first|rfl|(exfalso;omega)
  ·rw[if_neg h2,if_pos (by omega)]
 ·unfold spN lfZ
  rw[if_neg h4]
  by_cases h1:n.op=1
  ·rw[if_pos h1,if_pos h1]
  rw[if_neg h1,if_neg h1]
  by_cases h2:n.op=2
  ·rw[if_pos h2,if_pos h2]
  ·rw[if_neg h2,if_neg h2,if_pos (by omega),if_pos (by omega)]
theorem lf_in (f d:Int){n:Nd}(h:n.op=4\/5<=n.op):lfZ f d n.op n.k=((0,0),false):=by
 unfold lfZ;rw[if_neg (by omega),if_neg (by omega),if_neg (by omega)]
end Go.Proofs.YtngnnijpdjhelaaGreat
namespace Go.Proofs.YtngnnijpdjhelaaGreat
open Go.RowKit Go.IntWalk Lx Pz
set_option linter.unusedVariables false
set_option maxRecDepth 100000
set_option maxHeartbeats 16000000
theorem app_list {V:World}{base:Nat}{v:Value}{n:Nat}{L:Sps}{ops:Array Oper}{rest:List Oper}{o:Oper}{a:Act}{Q:Exit->Act->World->Prop}
  (hgd:o.guard=none) (s x:Operand) (ho:o.op=.call { callee:=.builtin .append,args:=#[s,x],argTypes:=#[48,48] })
  (hs:a.eval s=v) (hen:V.ownsRow base 103 2 v n (Spn.sp64 L)) (hbase:base<=V.heap.size) (b:Nat) (p q:Int) (hx:a.eval x=.slice (some ⟨b,0,none⟩) 1 1) (hc:HasC V b 103 #[.int .i64 p,.int .i64 q]) (h3:n<=8796093022001)
  (h:∀ g cap w',w'.ownsRow base 103 2 (.slice (some ⟨g,0,none⟩) (n+1) cap) (n+1) (Spn.sp64 L++[.int .i64 p,.int .i64 q])->V.grownBy w' v.ownBlock->wpList Tryz.prog ops Q rest (a.put o.dst (.slice (some ⟨g,0,none⟩) (n+1) cap)) w') :
  wpList Tryz.prog ops Q (o::rest) a V:=by
 obtain⟨i0,hi0,hz0,hz1,hz2⟩:=Spn.info_parts Spn.info26
 refine wpList_append_lies V hgd s x 48 ho base 103 i0 _ 2 16 Tryz.underlying48 hi0 hz0 hz1 hz2 rfl (by omega) v n (Spn.sp64 L) hs hen ⟨b,0,none⟩ 1 1 [.int .i64 p,.int .i64 q] hx rfl (Spn.news_two hc) (by simp[Value.oneCell']) (by omega) (by unfold maxLen;omega) (by omega) hbase V.heap.size rfl ?_
 intro g cap w' hown hgrow hat hlt
 exact h g cap w' hown hgrow
theorem app_step {V:World}{base:Nat}{v:Value}{n:Nat}{L:Sps}{ops:Array Oper}{o:Oper}{a:Act}{K:Act->World->Prop}{Q:Exit->Act->World->Prop}{E:Prop}
  (hgd:o.guard=none) (s x:Operand) (ho:o.op=.call { callee:=.builtin .append,args:=#[s,x],argTypes:=#[48,48] })
  (hs:a.eval s=v) (hen:V.ownsRow base 103 2 v n (Spn.sp64 L)) (hbase:base<=V.heap.size) (b:Nat) (p q:Int) (hx:a.eval x=.slice (some ⟨b,0,none⟩) 1 1) (hc:HasC V b 103 #[.int .i64 p,.int .i64 q]) (h3:n<=8796093022001)
  (h:∀ g cap w',w'.ownsRow base 103 2 (.slice (some ⟨g,0,none⟩) (n+1) cap) (n+1) (Spn.sp64 L++[.int .i64 p,.int .i64 q])->V.grownBy w' v.ownBlock->K (a.put o.dst (.slice (some ⟨g,0,none⟩) (n+1) cap)) w') :
  if Region.wanted o (yielded ops a.tmps)=true then Oper.wp Tryz.prog o a V K Q else E:=by
 obtain⟨i0,hi0,hz0,hz1,hz2⟩:=Spn.info_parts Spn.info26
 refine step_append_lies V hgd s x 48 ho base 103 i0 _ 2 16 Tryz.underlying48 hi0 hz0 hz1 hz2 rfl (by omega) v n (Spn.sp64 L) hs hen ⟨b,0,none⟩ 1 1 [.int .i64 p,.int .i64 q] hx rfl (Spn.news_two hc) (by simp[Value.oneCell']) (by omega) (by unfold maxLen;omega) (by omega) hbase V.heap.size rfl ?_
 intro g cap w' hown hgrow hat hlt
 exact h g cap w' hown hgrow
theorem own_put3 {V:World}{base b:Nat}{e t:TypeId}{size n:Nat}{v:Value}{xs:List Value}{cs:Array Value}(h:V.ownsRow base e size v n xs)(hb:HasC V b t cs)(ht:t≠e)(x y z:Value):(((V.setCell ⟨b,0,none⟩ x).setCell ⟨b,1,none⟩ y).setCell ⟨b,2,none⟩ z).ownsRow base e size v n xs:=by
 have hn:=own_ne' h hb ht
 exact((h.kept (gset V ⟨b,0,none⟩ x) (.inr hn)).kept (gset _ ⟨b,1,none⟩ y) (.inr hn)).kept (gset _ ⟨b,2,none⟩ z) (.inr hn)
theorem jcost_bel (o:Int)(W:World):Calls Tryz.prog 58 #[.int .i64 o] W fun e W'=>e=.returned (.int .i64 (coZ o))/\Below W.heap.size W W' :=
 (jcost_any o W).mono fun e W' ⟨a,b⟩=>⟨a,b ▸ Below.refl _ _⟩
theorem mx_snoc {D:List Int}{mx x:Int}(h:mxR D=mx):mxR (D++[x])=max mx x:=by rw[<-h];unfold mxR;rw[List.foldl_append];rfl
def JkP (w:World)(f d:Int)(NM:List Txt)(BS:List Int)(NS:List Nd)(root:Int)(e:Ending)(W':World):Prop :=
 (ckE f d NM BS NS root≠0/\e=.returned (.tuple #[.agg rep0,.int .i64 (ckE f d NM BS NS root)])/\Below w.heap.size w W') \/
 (ckE f d NM BS NS root=0/\∃ a cap,e=.returned (.tuple #[.agg #[.slice a NS.length cap,.int .i64 (coR NS),.int .i64 (mxR (dpR BS NS []))],.int .i64 0])/\Spn.Spans W' a NS.length cap (spR f d BS NS []).1/\Below w.heap.size w W'/\∀ b off,a=some ⟨b,off,none⟩->w.heap.size<=b)
end Go.Proofs.YtngnnijpdjhelaaGreat
