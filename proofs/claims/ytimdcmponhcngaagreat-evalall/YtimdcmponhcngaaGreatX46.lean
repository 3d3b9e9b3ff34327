import Derived.Test.YtimdcmponhcngaaGreatX45
namespace Go.Proofs.YtimdcmponhcngaaGreat
open Go.RowKit Go.IntWalk Lx Pz
set_option linter.unusedVariables false
set_option maxRecDepth 100000
set_option maxHeartbeats 16000000
theorem app_list {V:World}{base:Nat}{v:Value}{n:Nat}{L:Sps}{ops:Array Oper}{rest:List Oper}{o:Oper}{a:Act}{Q:Exit->Act->World->Prop}
  (hgd:o.guard=none) (s x:Operand) (ho:o.op=.call { callee:=.builtin .append,args:=#[s,x],argTypes:=#[50,50] })
  (hs:a.eval s=v) (hen:V.ownsRow base 58 2 v n (Spn.sp64 L)) (hbase:base<=V.heap.size) (b:Nat) (p q:Int) (hx:a.eval x=.slice (some ⟨b,0,none⟩) 1 1) (hc:HasC V b 58 #[.int .i64 p,.int .i64 q]) (h3:n<=8796093022001)
  (h:∀ g cap w',w'.ownsRow base 58 2 (.slice (some ⟨g,0,none⟩) (n+1) cap) (n+1) (Spn.sp64 L++[.int .i64 p,.int .i64 q])->V.grownBy w' v.ownBlock->wpList Tryz.prog ops Q rest (a.put o.dst (.slice (some ⟨g,0,none⟩) (n+1) cap)) w') :
  wpList Tryz.prog ops Q (o::rest) a V:=by
 obtain⟨i0,hi0,hz0,hz1,hz2⟩:=Spn.info_parts Spn.info26
 refine wpList_append_lies V hgd s x 50 ho base 58 i0 _ 2 16 Tryz.underlying50 hi0 hz0 hz1 hz2 rfl (by omega) v n (Spn.sp64 L) hs hen ⟨b,0,none⟩ 1 1 [.int .i64 p,.int .i64 q] hx rfl (Spn.news_two hc) (by simp[Value.oneCell']) (by omega) (by unfold maxLen;omega) (by omega) hbase V.heap.size rfl ?_
 intro g cap w' hown hgrow hat hlt
 exact h g cap w' hown hgrow
theorem app_step {V:World}{base:Nat}{v:Value}{n:Nat}{L:Sps}{ops:Array Oper}{o:Oper}{a:Act}{K:Act->World->Prop}{Q:Exit->Act->World->Prop}{E:Prop}
  (hgd:o.guard=none) (s x:Operand) (ho:o.op=.call { callee:=.builtin .append,args:=#[s,x],argTypes:=#[50,50] })
  (hs:a.eval s=v) (hen:V.ownsRow base 58 2 v n (Spn.sp64 L)) (hbase:base<=V.heap.size) (b:Nat) (p q:Int) (hx:a.eval x=.slice (some ⟨b,0,none⟩) 1 1) (hc:HasC V b 58 #[.int .i64 p,.int .i64 q]) (h3:n<=8796093022001)
  (h:∀ g cap w',w'.ownsRow base 58 2 (.slice (some ⟨g,0,none⟩) (n+1) cap) (n+1) (Spn.sp64 L++[.int .i64 p,.int .i64 q])->V.grownBy w' v.ownBlock->K (a.put o.dst (.slice (some ⟨g,0,none⟩) (n+1) cap)) w') :
  if Region.wanted o (yielded ops a.tmps)=true then Oper.wp Tryz.prog o a V K Q else E:=by
 obtain⟨i0,hi0,hz0,hz1,hz2⟩:=Spn.info_parts Spn.info26
 refine step_append_lies V hgd s x 50 ho base 58 i0 _ 2 16 Tryz.underlying50 hi0 hz0 hz1 hz2 rfl (by omega) v n (Spn.sp64 L) hs hen ⟨b,0,none⟩ 1 1 [.int .i64 p,.int .i64 q] hx rfl (Spn.news_two hc) (by simp[Value.oneCell']) (by omega) (by unfold maxLen;omega) (by omega) hbase V.heap.size rfl ?_
 intro g cap w' hown hgrow hat hlt
 exact h g cap w' hown hgrow
theorem own_put3 {V:World}{base b:Nat}{e t:TypeId}{size n:Nat}{v:Value}{xs:List Value}{cs:Array Value}(h:V.ownsRow base e size v n xs)(hb:HasC V b t cs)(ht:t≠e)(x y z:Value):(((V.setCell ⟨b,0,none⟩ x).setCell ⟨b,1,none⟩ y).setCell ⟨b,2,none⟩ z).ownsRow base e size v n xs:=by
 have hn:=own_ne' h hb ht
 exact((h.kept (gset V ⟨b,0,none⟩ x) (.inr hn)).kept (gset _ ⟨b,1,none⟩ y) (.inr hn)).kept (gset _ ⟨b,2,none⟩ z) (.inr hn)
theorem jcost_bel (o:Int)(W:World):Calls Tryz.prog 64 #[.int .i64 o] W fun e W'=>e=.returned (.int .i64 (coZ o))/\Below W.heap.size W W' :=
 (jcost_any o W).mono fun e W' ⟨a,b⟩=>⟨a,b ▸ Below.refl _ _⟩
theorem mx_snoc {D:List Int}{mx x:Int}(h:mxR D=mx):mxR (D++[x])=max mx x:=by rw[<-h];unfold mxR;rw[List.foldl_append];rfl
def JkP (w:World)(f d:Int)(NM:List Txt)(BS:List Int)(NS:List Nd)(root:Int)(e:Ending)(W':World):Prop :=
 (ckE f d NM BS NS root≠0/\e=.returned (.tuple #[.agg rep0,.int .i64 (ckE f d NM BS NS root)])/\Below w.heap.size w W') \/
 (ckE f d NM BS NS root=0/\∃ a cap,e=.returned (.tuple #[.agg #[.slice a NS.length cap,.int .i64 (coR NS),.int .i64 (mxR (dpR BS NS []))],.int .i64 0])/\Spn.Spans W' a NS.length cap (spR f d BS NS []).1/\Below w.heap.size w W'/\∀ b off,a=some ⟨b,off,none⟩->w.heap.size<=b)
end Go.Proofs.YtimdcmponhcngaaGreat
