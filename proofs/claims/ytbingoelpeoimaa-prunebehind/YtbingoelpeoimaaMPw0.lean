/-
  Appends of lists that may be as long as any argument; what PruneBehind's walk counts.
-/
import Derived.Test.YtbingoelpeoimaaMPD
import Derived.Test.YtbingoelpeoimaaMCdE
import Derived.Laws.AppendOwnNone
namespace Go.Proofs.Prn
open Go.RowKit Go.IntWalk Ytbingoelpeoimaa.Knd
open Cde (In i0 ia kd cd Ins is6 i6 mcB)
set_option linter.unusedVariables false

theorem is6_app (L M : List In) : is6 (L ++ M) = is6 L ++ is6 M := by simp [is6]
theorem next_near {need old : Nat} (h : old < need) : Builtin.nextslicecap need old ≤ need + need / 4 + 1024 := by
  unfold Builtin.nextslicecap
  split
  · omega
  · split
    · omega
    · rw [growBy_four]
      repeat' split
      all_goals omega
theorem next_fits {need old bytes : Nat} (h : old < need) (hb : (need + need / 4 + 1024) * bytes ≤ 281474976710656) : Builtin.nextslicecap need old * bytes ≤ 281474976710656 :=
  Nat.le_trans (Nat.mul_le_mul_right _ (next_near h)) hb
/-- An append to a row of one's own, where the whole has room below the limit of memory. -/
theorem run_far {P : Program} (w : World) (base : Nat) (t ty e : TypeId) (i : TypeInfo) (z : Value) (ht : P.underlying t = some (.slice e)) (hi : P.info? e = some i) (hz : i.zero = some z) (hzs : z.cells.size = i.size)
    (g n cap : Nat) (xs : List Value) (hown : w.ownsRow base e i.size (.slice (some ⟨g, 0, none⟩) n cap) n xs)
    (a : Addr) (m c : Nat) (news : List Value) (hl : news.length = m * i.size) (hnews : ∀ j u, news[j]? = some u → w.cell? (a.add j) = some u) (h1 : ∀ u ∈ news, u.oneCell' = true)
    (h63 : n + m ≤ maxLen) (hb : (n + m + (n + m) / 4 + 1024) * i.bytes ≤ 281474976710656) (hbase : base ≤ w.heap.size) :
    ∃ g' c' w', (Builtin.append_ #[t, t] ty #[.slice (some ⟨g, 0, none⟩) n cap, .slice (some a) m c]).run P w = .ok (.slice (some ⟨g', 0, none⟩) (n + m) c') w' ∧ w'.ownsRow base e i.size (.slice (some ⟨g', 0, none⟩) (n + m) c') (n + m) (xs ++ news) ∧ w.grownBy w' (some g) := by
  have hlen : (xs ++ news).length = (n + m) * i.size := by rw [List.length_append, hown.1, hl, Nat.add_mul]
  have hcells := hown.cells (g := g) rfl
  have hxl := hown.1
  have hs63 : ((n + m : Nat) : Int) ≤ 9223372036854775807 := by unfold maxLen at h63; omega
  rcases hown.2 with ⟨he, -⟩ | ⟨g', cap', cur, he, hbg, hg, hnc, hcm, hcs, htk⟩
  · cases he
  cases he
  rcases Nat.lt_or_ge cap (n + m) with hlt | hge
  · have hr := run_append_grow (P := P) w t ty e i z ht hi hz ⟨g, 0, none⟩ n cap xs hxl hcells a m c news hl hnews hlt hs63 (next_fits hlt hb)
    have q1 := grownCap_ge w (n + m) cap e
    have q2 := grownCap_le_maxLen w (n + m) cap e h63
    refine ⟨_, _, _, hr, ⟨hlen, .inr ⟨w.heap.size, _, _, rfl, hbase, heap_alloc_new w.drew _, q1, q2, ?_, ?_⟩⟩, ⟨rfl, rfl, rfl, by simp, fun k hk _ => heap_alloc_old w.drew _ hk⟩⟩
    · rw [Array.size_append, Array.size_append, List.size_toArray, List.size_toArray, size_zeroCells, hzs, hxl, hl, ← Nat.add_mul, ← Nat.add_mul]
      congr 1
      omega
    · rw [Array.toList_append, Array.toList_append, ← hlen]
      exact List.take_left
  · have hfit : n * i.size + news.length ≤ cur.size := by rw [hl, hcs, ← Nat.add_mul]; exact Nat.mul_le_mul_right _ hge
    have hr := run_append_room (P := P) w t ty e i ht hi g n cap cur hg a m c news hl hnews h1 hge hfit
    refine ⟨_, _, _, hr, ⟨hlen, .inr ⟨g, cap, _, rfl, hbg, setRow_heap w g cur _ e _ hg, hge, hcm, ?_, ?_⟩⟩, ⟨rfl, rfl, rfl, by simp, fun k _ hk => setRow_other w g k _ fun hc => hk (by rw [hc])⟩⟩
    · simp only [List.size_toArray, List.length_append, List.length_take, List.length_drop, Array.length_toList]
      omega
    · rw [htk, ← hlen]
      exact List.take_left
/-- The same as a step of a walk, with a list that may be none. -/
theorem append_far {P : Program} (w : World) {ops : Array Oper} {rest : List Oper} {o : Oper} {a : Act} {Q : Exit → Act → World → Prop}
    (hgd : o.guard = none) (s x : Operand) (t : TypeId) (hop : o.op = Op.call { callee := Callee.builtin Builtin.append, args := #[s, x], argTypes := #[t, t] })
    (base : Nat) (e : TypeId) (i : TypeInfo) (z : Value) (ht : P.underlying t = some (.slice e)) (hi : P.info? e = some i) (hz : i.zero = some z) (hzs : z.cells.size = i.size)
    (g n cap : Nat) (xs : List Value) (hs : a.eval s = .slice (some ⟨g, 0, none⟩) n cap) (hown : w.ownsRow base e i.size (.slice (some ⟨g, 0, none⟩) n cap) n xs)
    (ao : Option Addr) (m c : Nat) (news : List Value) (hx : a.eval x = .slice ao m c) (hl : news.length = m * i.size)
    (hnone : ao = none → m = 0 ∧ c = 0) (hc : ∀ ad, ao = some ad → ∀ j u, news[j]? = some u → w.cell? (ad.add j) = some u) (h1 : ∀ u ∈ news, u.oneCell' = true)
    (h63 : n + m ≤ maxLen) (hb : (n + m + (n + m) / 4 + 1024) * i.bytes ≤ 281474976710656) (hbase : base ≤ w.heap.size)
    (hK : ∀ g' c' w', w'.ownsRow base e i.size (.slice (some ⟨g', 0, none⟩) (n + m) c') (n + m) (xs ++ news) → w.grownBy w' (some g) → wpList P ops Q rest (a.put o.dst (.slice (some ⟨g', 0, none⟩) (n + m) c')) w') :
    wpList P ops Q (o :: rest) a w := by
  cases ao with
  | none =>
    obtain ⟨rfl, rfl⟩ := hnone rfl
    have hnews : news = [] := List.eq_nil_of_length_eq_zero (by simpa using hl)
    subst hnews
    exact wpList_append_own_none hgd s x t hop base e i i.size ht hi _ n xs hs hown hx (hK g cap w (by simpa using hown) (World.grownBy.refl _ _))
  | some ad =>
    obtain ⟨g', c', w', hr, h2, h3⟩ := run_far (P := P) w base t o.type e i z ht hi hz hzs g n cap xs hown ad m c news hl (hc ad rfl) h1 h63 hb hbase
    refine wpList_plain hgd fun K hK' => ?_
    unfold Oper.wp execOp
    simp only [hop, resolve, invoke, builtin, Sem.run_bind, Sem.run_pure, Result.andThen_ok, List.map_toArray, List.map_cons, List.map_nil, hs, hx, hr]
    exact hK' _ _ (hK g' c' w' h2 h3)

/-! ## The count -/
def gmK (D L : List In) (k : Nat) : Nat := (L.take k).foldl (gmS D) 0
theorem gmK_succ {D L : List In} {k : Nat} (h : k < L.length) : gmK D L (k + 1) = gmS D (gmK D L k) (L.getD k i0) := by
  unfold gmK
  rw [Cde.take_snoc i0 h, List.foldl_append]
  rfl
theorem gmS_le {D : List In} {a : Nat} {n : In} (h : a ≤ D.length) : gmS D a n ≤ D.length := by
  unfold gmS; split <;> omega
theorem gm_fold (D : List In) : ∀ (C : List In) (a : Nat), a ≤ D.length → C.foldl (gmS D) a ≤ D.length
  | [], a, h => h
  | n :: C, a, h => gm_fold D C _ (gmS_le h)
theorem gmK_le (D L : List In) (k : Nat) : gmK D L k ≤ D.length := gm_fold D _ 0 (Nat.zero_le _)
theorem gmK_end (L : List In) (out : Int) : gmK (prN L out) L L.length = (prN L out).length := by
  unfold gmK; rw [List.take_length]; exact pr_order L out

end Go.Proofs.Prn
