import Derived.Test.YticnbcfmbhjbgaaGreatDoorXH
import Derived.Test.YticnbcfmbhjbgaaGreatDoorChecked
import Derived.WalkSpells
set_option maxRecDepth 100000
set_option maxHeartbeats 32000000
set_option linter.unusedVariables false
namespace Go.Proofs.YticnbcfmbhjbgaaGreatDoor
open Go.RowKit
variable {W:World} {b:Nat} {t:TypeId} {cs:Array Value}
def aB (W:World)(b:Nat)(t:TypeId)(cs:Array Value):Prop:=W.heap[b]?=some (.cells cs t (0,0))
theorem aB.lt (h:aB W b t cs):b < W.heap.size:=(aGs.1 h).1
theorem aB.new (W:World)(t:TypeId)(cs:Array Value):aB (W.alloc (.cells cs t)) W.heap.size t cs:=heap_alloc_new W _
theorem aB.kept {W':World}{row:Option Nat}(h:aB W b t cs)(hg:W.grownBy W' row)(hne:some b≠row):aB W' b t cs:=(hg.block b h.lt hne).trans h
theorem aB.alloc {W:World}{b:Nat}{t:TypeId}{cs:Array Value}(h:aB W b t cs)(o:Obj):aB (W.alloc o) b t cs:=h.kept (World.grownBy_alloc W o none) (by simp)
theorem aB.below {W':World}(h:aB W b t cs)(hb:Below W.heap.size W W'):aB W' b t cs:=(hb.block b h.lt).trans h
theorem aB.cell {W:World}{b:Nat}{t:TypeId}{cs:Array Value}(h:aB W b t cs)(i:Nat){v:Value}(hv:cs[i]?=some v):W.cell? ⟨b,i,none⟩=some v:=(cell_of_row W b i cs t (0,0) h).trans hv
theorem aB.frozen {W:World}{b:Nat}{t:TypeId}{cs:Array Value}(h:aB W b t cs)(i:Nat):W.frozen? ⟨b,i,none⟩=false:=by
 simp[World.frozen?,show W.heap[b]?=_ from h]
theorem aB.other (h:aB W b t cs){p:Addr}(hne:b≠p.block)(u:Value):aB (W.setCell p u) b t cs:=(Below.heap_setCell W p u b hne).trans h
theorem aB.set (h:aB W b t cs)(i:Nat)(u:Value):aB (W.setCell ⟨b,i,none⟩ u) b t (cs.setIfInBounds i u):=by
 obtain⟨hlt,hk⟩:=aGs.1 h
 show (W.heap.modify b _)[b]?=_
 rw[Array.getElem?_eq_getElem (by rw[Array.size_modify];exact hlt),Array.getElem_modify_self,hk]
 rfl
end Go.Proofs.YticnbcfmbhjbgaaGreatDoor
