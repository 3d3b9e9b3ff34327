import Derived.Test.YticnbcfmbhjbgaaGreatDoorXH
import Derived.Test.YticnbcfmbhjbgaaGreatDoorX09
import Derived.Test.YticnbcfmbhjbgaaGreatDoorX06
set_option maxRecDepth 100000
set_option maxHeartbeats 32000000
set_option linter.unusedVariables false
namespace Go.Proofs.Spn
open Go.RowKit Go.IntWalk Go.Sort
open Knd (info3)
variable {W w:World} {v:Value} {n:Nat}
theorem aM5:(Tryz.prog.info? 165).map (fun i=>(i.zero,i.size,i.bytes))=some (some (.agg #[.i 0,.i 0]),2,16):=by kernel_rfl
def lN (L:List (Int × Int)):List Value:=L.flatMap fun p=>[.i p.1,.i p.2]
theorem mM (L:List (Int × Int)):(lN L).length=L.length*2:=by
 induction L with
 | nil=>rfl
 | cons p L ih=>simp[lN] at *;omega
theorem aKv (L:List (Int × Int))(x y:Int):lN (L++[(x,y)])=lN L++[.i x,.i y]:=by simp[lN]
theorem yY:∀(L:List (Int × Int)) (i:Nat),i < L.length->(lN L)[i*2]?=some (.i (L.getD i (0,0)).1)/\(lN L)[i*2+1]?=some (.i (L.getD i (0,0)).2)
 | [],i,h=>by simp at h
 | p::L,0,h=>by simp[lN]
 | p::L,i+1,h=>by
  have h':=yY L i (by simpa using h)
  have e:lN (p::L)=.i p.1::.i p.2::lN L:=by simp[lN]
  rw[e,show (i+1)*2=i*2+1+1 by omega,show i*2+1+1+1=(i*2+1)+1+1 by omega]
  simp only[List.getElem?_cons_succ]
  simpa using h'
structure Es (w W:World)(v:Value)(n:Nat)(L:List (Int × Int)):Prop where
 a:W.ownsRow w.heap.size 165 2 v n (lN L)
 bel:Below w.heap.size w W
theorem Es.alloc {w W:World}{v:Value}{n:Nat}{L:List (Int × Int)}(h:Es w W v n L)(o:Obj):Es w (W.alloc o) v n L:=⟨h.a.alloc o,h.bel.alloc h.bel.size o⟩
theorem Es.start (W:World):Es W W (.slice none 0 0) 0 []:=⟨⟨rfl,.inl ⟨rfl,rfl⟩⟩,Below.refl _ _⟩
theorem Spans.of_owns {base:Nat}{L:List (Int × Int)}(h:w.ownsRow base 165 2 v n (lN L))(hl:L.length=n):∃ a cap,v=.slice a n cap/\Spans w a n cap L:=by
 have hcs:=fun g hg=>h.cells (g:=g) hg
 rcases h.2 with⟨rfl,rfl⟩|⟨g,cap,cur,rfl,hb,hg,hnc,hcm,hsz,htake⟩
 ·exact⟨none,0,rfl,⟨hl,nLr _,nZl _,fun _=>rfl,.inl rfl⟩⟩
 ·refine⟨some ⟨g,0,none⟩,cap,rfl,⟨hl,hnc,hcm,(fun h=>by cases h),.inr ⟨g,0,rfl,fun i hi=>?_⟩⟩⟩
  obtain⟨e1,e2⟩:=yY L i (by omega)
  have h1:=hcs g rfl _ _ e1
  have h2:=hcs g rfl _ _ e2
  rw[Addr.add_lit] at h1 h2
  exact⟨h1,by rw[Nat.add_assoc];exact h2⟩
theorem aN0 {b:Nat}{x y:Int}(h:aB W b 165 #[.i x,.i y]):∀ j u,[Value.int .i64 x,.i y][j]?=some u->W.cell? ((⟨b,0,none⟩:Addr).add j)=some u:=by
 intro j u hu
 rw[Addr.add_lit]
 match j,hu with
 | 0,hu=>simp at hu;subst hu;exact h.cell 0 rfl
 | 1,hu=>simp at hu;subst hu;exact h.cell 1 rfl
 | _+2,hu=>simp at hu
theorem Es.grow {w':World}{L:List (Int × Int)}(h:Es w W v n L){g cap:Nat}{x y:Int}(hl:L.length=n)
  (hown:w'.ownsRow w.heap.size 165 2 (.slice (some ⟨g,0,none⟩) (n+1) cap) (n+1) (lN L++[.i x,.i y])) (hgrow:W.grownBy w' v.ownBlock) :
  Es w w' (.slice (some ⟨g,0,none⟩) (n+1) cap) (n+1) (L++[(x,y)]) :=
 ⟨by rw[aKv];exact hown,h.bel.grown hgrow h.bel.size (fun k hk=>(h.a.lt k hk).1)⟩
theorem aAy {L:List (Int × Int)}{ops:Array Oper}{rest:List Oper}{o:Oper}{a:Act}{Q:Exit->Act->World->Prop}
  (hgd:o.guard=none) (s x:Operand) (ho:o.op=.call { callee:=.builtin .append,args:=#[s,x],argTypes:=#[53,53] })
  (hs:a.eval s=v) (hen:Es w W v n L) (b:Nat) (p q:Int) (hx:a.eval x=.slice (some ⟨b,0,none⟩) 1 1) (hc:aB W b 165 #[.i p,.i q]) (h3:n<=8796093022001)
  (h:∀ g cap w',Es w w' (.slice (some ⟨g,0,none⟩) (n+1) cap) (n+1) (L++[(p,q)])->W.heap.size<=w'.heap.size->wpList Tryz.prog ops Q rest (a.put o.dst (.slice (some ⟨g,0,none⟩) (n+1) cap)) w') :
  wpList Tryz.prog ops Q (o::rest) a W:=by
 obtain⟨i0,hi0,hz0,hz1,hz2⟩:=info_parts aM5
 have hl:L.length=n:=by
  have:=hen.a.1
  rw[mM] at this
  omega
 refine wpList_append_lies W hgd s x 53 ho w.heap.size 165 i0 _ 2 16 Tryz.underlying53 hi0 hz0 hz1 hz2 rfl (by omega) v n (lN L) hs hen.a ⟨b,0,none⟩ 1 1 [.i p,.i q] hx rfl (aN0 hc) (by simp[Value.oneCell']) (by omega) (by unfold maxLen;omega) (by omega) hen.bel.size W.heap.size rfl ?_
 intro g cap w' hown hgrow hat hlt
 exact h g cap w' (hen.grow hl hown hgrow) hgrow.size
end Go.Proofs.Spn
namespace Go.Proofs.Spn
open Go.RowKit Go.IntWalk

theorem aG3 (n:Int)(w:World)(hn:0<=n/\n<=62) :
  Calls Tryz.prog 235 #[.i n] w fun e w'=>e=.returned (.i (2 ^ n.toNat))/\w'=w:=by
 go_enter Tryz.func235,Tryz.ntmps235
 go_wp2
 go_loop [3,4] (fun x i=>∃ k:Nat,(k:Int)<=n/\i=.i k/\x=.i (2 ^ k)) (fun _ i=>n.toNat-(intOf i).toNat)
 case atStart=>exact⟨0,by omega,rfl,rfl⟩
 case round =>
  obtain⟨k,hk,rfl,rfl⟩:=hrel
  have hp:=yO k 62 (by omega)
  have hp2:(2:Int) ^ (k+1)=2*2 ^ k:=by rw[Int.pow_succ];omega
  have HP:=aA hp2
  clear hp2
  by_cases hlt:(k:Int) < n
  ·have hp3:=yO (k+1) 62 (by omega)
   rw[HP.o] at hp3
   generalize hq:(2:Int) ^ k=q at *
   have HQ:=aA hq
   clear hq
   go_wp2
   go_round
   case rel=>exact⟨k+1,by omega,by go_num,by rw[HP.o]⟩
   case measure=>simp[intOf];omega
  ·obtain rfl:n=(k:Int):=by omega
   go_wp2
   go_ret
   exact⟨rfl,rfl⟩
end Go.Proofs.Spn
