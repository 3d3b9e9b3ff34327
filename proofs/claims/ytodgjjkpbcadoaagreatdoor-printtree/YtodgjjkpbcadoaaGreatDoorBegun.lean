/-
  The token at a text's beginning.
-/
import Derived.Test.YtodgjjkpbcadoaaGreatDoorClone
import Derived.Lib.QuietBelow
import Derived.Deep.RegionHeld3
namespace Go.Proofs.YtodgjjkpbcadoaaGreatDoor
open Go.RowKit Go.IntWalk Lx
set_option linter.unusedVariables false

/-- The block b holds just these cells. -/
def HasC (W : World) (b : Nat) (t : TypeId) (cs : Array Value) : Prop := W.heap[b]? = some (.cells cs t (0, 0))
theorem HasC.lt {W : World} {b : Nat} {t : TypeId} {cs : Array Value} (h : HasC W b t cs) : b < W.heap.size := (Array.getElem?_eq_some_iff.1 h).1
theorem HasC.new (W : World) (t : TypeId) (cs : Array Value) : HasC (W.alloc (.cells cs t)) W.heap.size t cs := heap_alloc_new W _
theorem HasC.kept {W W' : World} {row : Option Nat} {b : Nat} {t : TypeId} {cs : Array Value} (h : HasC W b t cs) (hg : W.grownBy W' row) (hne : some b ≠ row) : HasC W' b t cs := (hg.block b h.lt hne).trans h
theorem HasC.alloc {W : World} {b : Nat} {t : TypeId} {cs : Array Value} (h : HasC W b t cs) (o : Obj) : HasC (W.alloc o) b t cs := h.kept (World.grownBy_alloc W o none) (by simp)
theorem HasC.below {W W' : World} {b : Nat} {t : TypeId} {cs : Array Value} (h : HasC W b t cs) (hb : Below W.heap.size W W') : HasC W' b t cs := (hb.block b h.lt).trans h
theorem HasC.cell {W : World} {b : Nat} {t : TypeId} {cs : Array Value} (h : HasC W b t cs) (i : Nat) {v : Value} (hv : cs[i]? = some v) : W.cell? ⟨b, i, none⟩ = some v := (cell_of_row W b i cs t (0, 0) h).trans hv
theorem HasC.frozen {W : World} {b : Nat} {t : TypeId} {cs : Array Value} (h : HasC W b t cs) (i : Nat) : W.frozen? ⟨b, i, none⟩ = false := by
  simp [World.frozen?, show W.heap[b]? = _ from h]
theorem HasC.other {W : World} {b : Nat} {t : TypeId} {cs : Array Value} (h : HasC W b t cs) {p : Addr} (hne : b ≠ p.block) (u : Value) : HasC (W.setCell p u) b t cs := (Below.heap_setCell W p u b hne).trans h
theorem HasC.set {W : World} {b : Nat} {t : TypeId} {cs : Array Value} (h : HasC W b t cs) (i : Nat) (u : Value) : HasC (W.setCell ⟨b, i, none⟩ u) b t (cs.setIfInBounds i u) := by
  obtain ⟨hlt, hk⟩ := Array.getElem?_eq_some_iff.1 h
  show (W.heap.modify b _)[b]? = _
  rw [Array.getElem?_eq_getElem (by rw [Array.size_modify]; exact hlt), Array.getElem_modify_self, hk]
  rfl
theorem facts3 {W : World} {b : Nat} {t : TypeId} {x y z : Value} (h : HasC W b t #[x, y, z]) : W.cell? ⟨b, 0, none⟩ = some x ∧ W.cell? ⟨b, 1, none⟩ = some y ∧ W.cell? ⟨b, 2, none⟩ = some z :=
  ⟨h.cell 0 rfl, h.cell 1 rfl, h.cell 2 rfl⟩
theorem free3 {W : World} {b : Nat} {t : TypeId} {x y z : Value} (h : HasC W b t #[x, y, z]) : W.frozen? ⟨b, 0, none⟩ = false ∧ W.frozen? ⟨b, 1, none⟩ = false ∧ W.frozen? ⟨b, 2, none⟩ = false :=
  ⟨h.frozen 0, h.frozen 1, h.frozen 2⟩
theorem below_drew (W : World) : Below W.heap.size W W.drew := ⟨rfl, rfl, rfl, Nat.le_refl _, fun _ _ => rfl⟩
theorem cell_old {W : World} {o : Obj} {b i : Nat} (h : b < W.heap.size) : (W.alloc o).cell? ⟨b, i, none⟩ = W.cell? ⟨b, i, none⟩ := (bel1 W o).cell (p := ⟨b, i, none⟩) h

theorem far3 {W : World} {g b : Nat} {u v y x0 x1 x2 : Value} (hb : b < g) (h0 : W.cell? ⟨g, 0, none⟩ = some x0) (h1 : W.cell? ⟨g, 1, none⟩ = some x1) (h2 : W.cell? ⟨g, 2, none⟩ = some x2) :
    (((W.setCell ⟨b, 0, none⟩ u).setCell ⟨b, 1, none⟩ v).setCell ⟨b, 2, none⟩ y).cell? ⟨g, 0, none⟩ = some x0 ∧ (((W.setCell ⟨b, 0, none⟩ u).setCell ⟨b, 1, none⟩ v).setCell ⟨b, 2, none⟩ y).cell? ⟨g, 1, none⟩ = some x1 ∧ (((W.setCell ⟨b, 0, none⟩ u).setCell ⟨b, 1, none⟩ v).setCell ⟨b, 2, none⟩ y).cell? ⟨g, 2, none⟩ = some x2 := by
  have h : (((W.setCell ⟨b, 0, none⟩ u).setCell ⟨b, 1, none⟩ v).setCell ⟨b, 2, none⟩ y).heap[g]? = W.heap[g]? :=
    (Below.heap_setCell _ _ _ g (by simp; omega)).trans ((Below.heap_setCell _ _ _ g (by simp; omega)).trans (Below.heap_setCell _ _ _ g (by simp; omega)))
  exact ⟨(World.cell?_of_block (a := ⟨g, 0, none⟩) h).trans h0, (World.cell?_of_block (a := ⟨g, 1, none⟩) h).trans h1, (World.cell?_of_block (a := ⟨g, 2, none⟩) h).trans h2⟩
/-- The end of a walk whose answer lies in a block of its own: three stores. -/
theorem stored3 {w w2 : World} {b : Nat} {t : TypeId} {p q r : Value} (h : HasC w2 b t #[p, q, r]) (hB : Below w.heap.size w w2) (hb : w.heap.size ≤ b) (x : Int) (y : ByteArray) (z : Int) :
    (((w2.setCell ⟨b, 0, none⟩ (.int .i64 x)).setCell ⟨b, 1, none⟩ (.string y)).setCell ⟨b, 2, none⟩ (.int .i64 z)).cell? ⟨b, 0, none⟩ = some (.int .i64 x) ∧
    (((w2.setCell ⟨b, 0, none⟩ (.int .i64 x)).setCell ⟨b, 1, none⟩ (.string y)).setCell ⟨b, 2, none⟩ (.int .i64 z)).cell? ⟨b, 1, none⟩ = some (.string y) ∧
    (((w2.setCell ⟨b, 0, none⟩ (.int .i64 x)).setCell ⟨b, 1, none⟩ (.string y)).setCell ⟨b, 2, none⟩ (.int .i64 z)).cell? ⟨b, 2, none⟩ = some (.int .i64 z) ∧
    Below w.heap.size w (((w2.setCell ⟨b, 0, none⟩ (.int .i64 x)).setCell ⟨b, 1, none⟩ (.string y)).setCell ⟨b, 2, none⟩ (.int .i64 z)) := by
  have h3 := ((h.set 0 (.int .i64 x)).set 1 (.string y)).set 2 (.int .i64 z)
  exact ⟨h3.cell 0 rfl, h3.cell 1 rfl, h3.cell 2 rfl, ((hB.setCell (by exact hb) _).setCell (by exact hb) _).setCell (by exact hb) _⟩

/-- A token's cells. -/
abbrev tc (k : Int) (s : ByteArray) (p : Int) : Array Value := #[.int .i64 k, .string s, .int .i64 p]

set_option maxHeartbeats 1000000 in
theorem may_any (k : Int) (s : ByteArray) (p : Int) (w : World) (hs : s.size ≤ maxLen) :
    Calls Tryz.prog 70 #[.agg (tc k s p)] w fun e w' => e = .returned (.bool (may k (bs s))) ∧ Below w.heap.size w w' := by
  have HB := hide (bel1 w (.cells (tc k s p) 89))
  have hs' := hide hs
  clear hs
  by_cases h1 : k = 1
  · subst h1
    rw [show may 1 (bs s) = num (bs s) from rfl]
    go_enter Tryz.func70, Tryz.ntmps70
    go_wp2_with fail
    refine (number_any _ _ hs'.out).mono ?_
    rintro e w' ⟨rfl, rfl⟩
    go_wp2_with fail
    go_ret
    exact ⟨rfl, HB.out⟩
  · by_cases h2 : k = 2
    · subst h2
      rw [show may 2 (bs s) = wrd (bs s) from rfl]
      clear h1
      go_enter Tryz.func70, Tryz.ntmps70
      go_wp2_with fail
      refine (word_any _ _ hs'.out).mono ?_
      rintro e w' ⟨rfl, rfl⟩
      go_wp2_with fail
      go_ret
      exact ⟨rfl, HB.out⟩
    · have e1 : (k == 1) = false := by simp [h1]
      have e2 : (k == 2) = false := by simp [h2]
      have hm := hide (show may k (bs s) = !s.toList.isEmpty by
        unfold may
        rw [if_neg h1, if_neg h2, toList_bs])
      clear h1 h2
      go_enter Tryz.func70, Tryz.ntmps70
      go_wp2_with fail
      go_ret
      exact ⟨ret_bool hm.out.symm, HB.out⟩

theorem bs_to (s : ByteArray) (k : Nat) : bs (s.extract 0 k) = (bs s).take k := by
  show (s.extract 0 k).data.toList = _
  rw [ByteArray.data_extract]
  simp
theorem takeWhile_le (p : UInt8 → Bool) (l : List UInt8) : rn p l ≤ l.length := by
  have h := congrArg List.length (takeWhile_split p l)
  rw [List.length_append] at h
  unfold rn
  omega
theorem mk_le {l : List UInt8} (h : l ≠ []) : mk l ≤ l.length := by
  unfold mk
  split
  · rename_i h2
    have h3 : (l.take 2).length = 2 := by rcases contains_two h2 with h | h | h | h | h | h <;> rw [h] <;> rfl
    rw [List.length_take] at h3
    omega
  · cases l with
    | nil => exact absurd rfl h
    | cons a l => split <;> simp
theorem sz_le {l : List UInt8} (h : l ≠ []) : sz l ≤ l.length := by
  unfold sz
  split
  · exact takeWhile_le _ _
  · split
    · exact takeWhile_le _ _
    · exact mk_le h

set_option maxHeartbeats 2000000 in
theorem begun_any (s : ByteArray) (w : World) (h0 : 0 < s.size) (hs : s.size ≤ 1024) :
    Calls Tryz.prog 54 #[.string s] w fun e w' => e = .returned (.tuple #[.agg (tc (kd (bs s)) (s.extract 0 (sz (bs s))) 0), .bool (gd (bs s))]) ∧ Below w.heap.size w w' := by
  have HL := hide fun w => longest_any s w h0 (by unfold maxLen; omega)
  have hz1 : sz (bs s) ≤ s.size := by
    rw [← bs_len]
    refine sz_le ?_
    obtain ⟨t, ht⟩ := bs_cons h0
    rw [ht]; simp
  have hg := hide (show gd (bs s) = may (kd (bs s)) (bs (s.extract 0 (sz (bs s)))) by rw [bs_to]; rfl)
  obtain ⟨k, hk⟩ : ∃ k, kd (bs s) = k := ⟨_, rfl⟩
  obtain ⟨n, hn⟩ : ∃ n, sz (bs s) = n := ⟨_, rfl⟩
  rw [hk, hn] at HL hg ⊢
  rw [hn] at hz1
  clear hk hn
  obtain ⟨T, hT⟩ : ∃ T, s.extract 0 n = T := ⟨_, rfl⟩
  have hTs : T.size ≤ 1024 := by
    rw [← hT]; simp; omega
  have HC := hide fun w => clone_any T w (by omega)
  have HM := hide fun w => may_any k T 0 w (by unfold maxLen; omega)
  rw [hT] at hg ⊢
  rw [hg.out]
  clear hg hTs
  have H0 := hide (bel1 w (.cells (tc 0 ⟨#[]⟩ 0) 89))
  go_enter Tryz.func54, Tryz.ntmps54
  go_wp2_with fail
  refine (HL.out _).mono ?_
  rintro e w1 ⟨rfl, rfl⟩
  go_wp2_with fail
  refine (HC.out _).mono ?_
  rintro e w2 ⟨rfl, hb2⟩
  have HR := hide ((HasC.new w 89 (tc 0 ⟨#[]⟩ 0)).below hb2)
  have HB := hide (bel H0.out hb2)
  clear hb2 HC H0 HL
  go_wp2_with fail
  have HW := hide (HasC.new w2 89 (tc k T 0))
  have HR2 := hide (HR.out.alloc (.cells (tc k T 0) 89))
  have HB2 := hide (bel HB.out (bel1 w2 (.cells (tc k T 0) 89)))
  have hl := HR.out.lt
  obtain ⟨W, hW⟩ : ∃ W, w2.alloc (.cells #[.int .i64 k, .string T, .int .i64 0] 89) = W := ⟨_, rfl⟩
  obtain ⟨g, hg⟩ : ∃ g, w2.heap.size = g := ⟨_, rfl⟩
  rw [hW, hg] at HW
  rw [hW] at HR2 HB2 ⊢
  rw [hg] at hl ⊢
  clear hW hg HR HB hT h0 hs hz1
  obtain ⟨d0, d1, d2⟩ := facts3 HW.out
  go_region_held3 (fun w' => w'.cell? ⟨g, 0, none⟩ = some (.int .i64 k) ∧ w'.cell? ⟨g, 1, none⟩ = some (.string T) ∧ w'.cell? ⟨g, 2, none⟩ = some (.int .i64 0))
    (first | exact ⟨d0, d1, d2⟩ | exact ⟨t0, t1, t2⟩ | exact far3 hl t0 t1 t2 | go_keep)
    ((first
      | (go_at_call 70; refine (HM.out _).mono ?_; rintro e' w3 ⟨rfl, hb3⟩; have hb4 := bel (below_drew W) hb3; obtain ⟨t0, t1, t2⟩ := facts3 (HW.out.below hb4); have HR3 := hide (HR2.out.below hb4); have HB3 := hide (bel HB2.out hb4); obtain ⟨s0, s1, s2⟩ := facts3 HR3.out; obtain ⟨z0, z1, z2⟩ := free3 HR3.out)))
  go_wp2_with fail
  obtain ⟨e0, e1, e2, hB4⟩ := stored3 HR3.out HB3.out (Nat.le_refl _) k T 0
  exact bodyPost_ret (v := .tuple #[.agg (tc k T 0), .bool (may k (bs T))]) (by simp [results, Tryz.results54, go_sem, e0, e1, e2]) rfl ⟨rfl, hB4⟩

end Go.Proofs.YtodgjjkpbcadoaaGreatDoor
