/-
  For KindCausal: the walk of before; and places stand ahead of the sample.
-/
import Derived.Test.YtinlknflkgijmaaSame
import Derived.Test.YtinlknflkgijmaaAwake
import Derived.Test.YtinlknflkgijmaaInp
namespace Go.Proofs.Ytinlknflkgijmaa
open Go.RowKit Go.Shelf
set_option linter.unusedVariables false

/-- The place stands ahead of the sample itself. -/
def Bef (f : Int) (p : Plc) : Prop := if 0 < p.back then f = 0 ∨ p.x ≤ 0 else if f = 1 then p.x < 0 else p.y < 0 ∨ (p.y = 0 ∧ p.x < 0)
instance (f : Int) (p : Plc) : Decidable (Bef f p) := by unfold Bef; infer_instance

set_option maxRecDepth 100000 in
set_option maxHeartbeats 4000000 in
theorem before_ok (f d : Int) (p : Plc) (hf : f = 0 ∨ f = 1) (h : Bef f p) (w : World) :
    Calls Try.prog 31 #[.agg #[.int .i64 f, .int .i64 d], .agg #[.int .i64 p.back, .int .i64 p.coords, .int .i64 p.x, .int .i64 p.y]] w fun e w' => e = .returned (.bool true) ∧ Below w.heap.size w w' := by
  have HB1 := hide ((bel1 w (.cells #[.int .i64 f, .int .i64 d] 23)).alloc (by simp) (.cells #[.int .i64 p.back, .int .i64 p.coords, .int .i64 p.x, .int .i64 p.y] 30))
  obtain ⟨b, c, x, y⟩ := p
  unfold Bef at h
  simp only at h ⊢
  rcases hf with rfl | rfl
  · by_cases hb : 0 < b
    · clear h
      go_enter Try.func31, Try.ntmps31
      go_wp2
      go_ret
      exact ⟨rfl, HB1.out⟩
    · rw [if_neg hb, if_neg (by decide)] at h
      by_cases hy : y < 0
      · clear h
        go_enter Try.func31, Try.ntmps31
        go_wp2
        go_ret
        exact ⟨rfl, HB1.out⟩
      · have h2 : y = 0 ∧ x < 0 := by omega
        obtain ⟨rfl, hx⟩ := h2
        clear h
        go_enter Try.func31, Try.ntmps31
        go_wp2
        go_ret
        exact ⟨rfl, HB1.out⟩
  · by_cases hb : 0 < b
    · rw [if_pos hb] at h
      have hx : x ≤ 0 := by omega
      clear h
      go_enter Try.func31, Try.ntmps31
      go_wp2
      go_ret
      exact ⟨rfl, HB1.out⟩
    · rw [if_neg hb, if_pos rfl] at h
      go_enter Try.func31, Try.ntmps31
      go_wp2
      go_ret
      exact ⟨rfl, HB1.out⟩

theorem plcs_bef (f d : Int) : ∀ p ∈ plcs f d, Bef f p := by
  unfold plcs
  rcases kind3 f d with ⟨hm, rfl⟩ | ⟨hm, rfl⟩ | hm
  · have e : blks 0 d = imageB := by simp [blks, hm]
    rw [e]; decide +kernel
  · have e : blks 1 d = soundB := by simp [blks, hm]
    rw [e]; decide +kernel
  · have e : blks f d = [] := by simp [blks, hm]
    rw [e]; simp [plsAll]

/-- All that is asked of one place. -/
theorem plc_facts (f d : Int) (k : Nat) (hk : k < (plcs f d).length) : ∃ p : Plc, (plcs f d).getD k zp = p ∧ p.wf ∧ Bef f p ∧ (f = 0 ∨ f = 1) ∧ atV f d (k : Int) = .tuple #[.agg (pcells p), .bool true] ∧ numV f d p = .tuple #[.int .i64 (k : Int), .bool true] := by
  have hp : (plcs f d)[k]? = some (plcs f d)[k] := by simp [hk]
  refine ⟨(plcs f d)[k], by simp [List.getD, hk], plcs_wf f d _ (List.getElem_mem hk), plcs_bef f d _ (List.getElem_mem hk), ?_, ?_, ?_⟩
  · have hm : May f d := Classical.byContradiction fun h' => by simp [plcs, blks, h', plsAll] at hk
    exact hm.1
  · have hz : atZ f d (k : Int) = some (plcs f d)[k] := (at_iff f d k _).2 (num_of_at f d k _ hp)
    rw [atV, hz]; rfl
  · rw [num_same, num_of_at f d k _ hp]; rfl

theorem upto_inj {a b : Nat} (ha : a ≤ 64) (hb : b ≤ 64) (h : upto a = upto b) : a = b := by
  have := congrArg List.length h
  rwa [upto_len a ha, upto_len b hb] at this

/-- Behind the first k numbers only the number k makes the first k + 1. -/
theorem upto_next {k : Nat} (hk : k < 64) {x : Fin 64} (hx : x.val ≠ k) : ¬ ∃ j, j ≤ 63 ∧ upto k ++ [x] = upto j := by
  rintro ⟨j, hj, h⟩
  have hl := congrArg List.length h
  rw [List.length_append, upto_len k (by omega), upto_len j (by omega)] at hl
  simp at hl
  subst hl
  rw [upto_succ k hk] at h
  have h2 := List.append_cancel_left h
  simp at h2
  exact hx (by rw [h2])

theorem run_equalIn_func (w : World) (k : Nat) (fn : Fn) (a b : Array Value) : (Op.equalIn (k + 1) 49 (.func fn a b) .nilFunc).run Try.prog w = .ok false w := by
  simp [Op.equalIn, run_underlying Try.underlying49]
theorem run_eql_func (w : World) (fn : Fn) (a b : Array Value) : (binOp .eql 49 (.func fn a b) .nilFunc).run Try.prog w = .ok (.bool false) w := by
  simp only [binOp]
  simp [Op.equal, Op.maxDepth, run_equalIn_func w 9999 fn a b]

/-- What lies in memory all the while: the kind that All holds, the walk, the kind, the number to stop at, the answer; and what was there. -/
structure Bs (w : World) (f d stop : Int) (Z : Nat) (W : World) : Prop where
  a : HasC W Z 23 #[.int .i64 f, .int .i64 d]
  wk : HasC W (Z + 1) 49 #[.func (.func 40) #[] #[.pointer (some ⟨Z, 0, none⟩)]]
  k : HasC W w.heap.size 23 #[.int .i64 f, .int .i64 d]
  s : HasC W (w.heap.size + 1) 3 #[.int .i64 stop]
  r : HasC W (w.heap.size + 1 + 1) 4 #[.bool false]
  b : Below w.heap.size w W

theorem Bs.later {w : World} {f d stop : Int} {Z : Nat} {W W' : World} (h : Bs w f d stop Z W) (hb : Below W.heap.size W W') : Bs w f d stop Z W' :=
  ⟨h.a.below hb, h.wk.below hb, h.k.below hb, h.s.below hb, h.r.below hb, bel h.b hb⟩
theorem Bs.alloc {w : World} {f d stop : Int} {Z : Nat} {W : World} (h : Bs w f d stop Z W) (o : Obj) : Bs w f d stop Z (W.alloc o) := h.later (bel1 W o)
theorem Bs.set {w : World} {f d stop : Int} {Z : Nat} {W : World} (h : Bs w f d stop Z W) (hz : w.heap.size + 1 + 1 < Z) {p : Addr} (hp : Z + 1 < p.block) (u : Value) : Bs w f d stop Z (W.setCell p u) :=
  ⟨h.a.other (by omega) u, h.wk.other (by omega) u, h.k.other (by omega) u, h.s.other (by omega) u, h.r.other (by omega) u, h.b.setCell (by omega) u⟩
theorem Bs.own {β : Type} {w : World} {f d stop : Int} {Z B : Nat} (hB : w.heap.size ≤ B) : OwnFrom B (fun (_ : β) W => Bs w f d stop Z W) := fun s X Y row hs hg hr =>
  ⟨hasC_own Z 23 (fun (_ : Unit) => _) () X Y row hs.a hg (fun r e => (hr r e).2), hasC_own (Z + 1) 49 (fun (_ : Unit) => _) () X Y row hs.wk hg (fun r e => (hr r e).2),
   hasC_own _ 23 (fun (_ : Unit) => _) () X Y row hs.k hg (fun r e => (hr r e).2), hasC_own _ 3 (fun (_ : Unit) => _) () X Y row hs.s hg (fun r e => (hr r e).2),
   hasC_own _ 4 (fun (_ : Unit) => _) () X Y row hs.r hg (fun r e => (hr r e).2), ownFrom_below (β := Unit) (Nat.le_refl _) hB () X Y row hs.b hg hr⟩

theorem keepsIn_own {β : Type} {B B' : Nat} {W : World} : OwnFrom B' (fun (_ : β) W' => KeepsIn B W W') := fun s X Y row hs hg hr =>
  hs.trans (KeepsIn.of_grownBy hg (fun j e => .inr (hr j e).2))
/-- A store into memory that was laid since. -/
theorem KeepsIn.setNew {B : Nat} {W W' : World} (h : KeepsIn B W W') {p : Addr} (hp : W.heap.size ≤ p.block) (u : Value) : KeepsIn B W (W'.setCell p u) :=
  ⟨Nat.le_trans h.size (by simp [World.setCell]), fun k o hB hk ho => (Below.heap_setCell W' p u k (by have := (Array.getElem?_eq_some_iff.1 hk).1; omega)).trans (h.same k o hB hk ho)⟩
theorem keepsFrom_below {B : Nat} {W W' : World} (h : Below W.heap.size W W') : KeepsFrom B W W' := ⟨h.size, fun k o _ hk _ => (h.block k (Array.getElem?_eq_some_iff.1 hk).1).trans hk⟩

/-- What a round of the walk keeps, from its beginning W on. -/
structure Rs (w : World) (f d stop : Int) (Z B : Nat) (x : Int) (W W' : World) : Prop where
  b : Bs w f d stop Z W'
  n : HasC W' (Z + 1 + 1) 3 #[.int .i64 x]
  ki : KeepsIn B W W'
  kf : KeepsFrom B W W'

theorem Rs.own {β : Type} {w : World} {f d stop : Int} {Z B B' : Nat} {x : Int} {W : World} (h1 : w.heap.size ≤ B') (h2 : W.heap.size ≤ B') : OwnFrom B' (fun (_ : β) W' => Rs w f d stop Z B x W W') := fun s X Y row hs hg hr =>
  ⟨Bs.own (β := Unit) h1 () X Y row hs.b hg hr, hasC_own _ 3 (fun (_ : Unit) => _) () X Y row hs.n hg (fun r e => (hr r e).2), keepsIn_own (β := Unit) () X Y row hs.ki hg hr, ownFrom_keepsFrom (β := Unit) h2 () X Y row hs.kf hg hr⟩
theorem Rs.setNew {w : World} {f d stop : Int} {Z B : Nat} {x : Int} {W W' : World} (h : Rs w f d stop Z B x W W') (hz : w.heap.size + 1 + 1 < Z) {p : Addr} (hp : W.heap.size ≤ p.block) (hW : Z + 1 + 1 < W.heap.size) (u : Value) : Rs w f d stop Z B x W (W'.setCell p u) :=
  ⟨h.b.set hz (by omega) u, h.n.other (by omega) u, h.ki.setNew hp u, h.kf.trans ((KeepsOthers.setCell _ _ _).from _)⟩
theorem Rs.later {w : World} {f d stop : Int} {Z B : Nat} {x : Int} {W W1 W2 : World} (h : Rs w f d stop Z B x W W1) (hb : Below W1.heap.size W1 W2) : Rs w f d stop Z B x W W2 :=
  ⟨h.b.later hb, h.n.below hb, h.ki.trans (KeepsIn.of_below hb), h.kf.trans (keepsFrom_below hb)⟩
/-- At the round's end the number of the next place is set down. -/
theorem Rs.next {w : World} {f d stop : Int} {Z B : Nat} {x : Int} {W V : World} (h : Rs w f d stop Z B x W V) (hz : w.heap.size + 1 + 1 < Z) (hB : Z + 1 + 1 < B) (u : Value) :
    KeepsFrom B W (V.setCell ⟨Z + 1 + 1, 0, none⟩ u) ∧ KeepsIn B W (V.setCell ⟨Z + 1 + 1, 0, none⟩ u) ∧ HasC (V.setCell ⟨Z + 1 + 1, 0, none⟩ u) (Z + 1 + 1) 3 #[u] ∧ Bs w f d stop Z (V.setCell ⟨Z + 1 + 1, 0, none⟩ u) :=
  ⟨h.kf.trans ((KeepsOthers.setCell _ _ _).from _), h.ki.trans (KeepsIn.setCell _ (by simpa using hB) _), h.n.set 0 u, h.b.set hz (by simp) u⟩
theorem drewB (w : World) : Below w.heap.size w w.drew := (Below.refl _ _).drew

end Go.Proofs.Ytinlknflkgijmaa
