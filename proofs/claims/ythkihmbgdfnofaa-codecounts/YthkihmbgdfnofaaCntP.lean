/-
  CodeCounts: what stands between its calls; a growing list of lists.
-/
import Derived.Test.YthkihmbgdfnofaaCheckW
import Derived.Test.YthkihmbgdfnofaaU1
import Derived.Test.YthkihmbgdfnofaaU2
import Derived.Test.YthkihmbgdfnofaaApart
import Derived.Test.YthkihmbgdfnofaaKnRoomy
namespace Go.Proofs.Ythkihmbgdfnofaa
open Go.RowKit Go.IntWalk Knd
set_option linter.unusedVariables false

/-- The code and what was made of it, in a later world. -/
structure Cq (W V : World) (f d out : Int) (a : Option Addr) (n cap : Nat) (L : List In) (g c p1 : Nat) : Prop where
  old : Below W.heap.size W V
  b0 : HasC V W.heap.size 26 (cd f d a n cap out)
  u : HasC V p1 26 (cd f d (some ⟨g, 0, none⟩) n c out)
  I : V.ownsRow W.heap.size 43 6 (.slice (some ⟨g, 0, none⟩) (n + 1) c) (n + 1) (is6 (L ++ [mk7]))
section
variable {W V V' : World} {f d out : Int} {a : Option Addr} {n cap : Nat} {L : List In} {g c p1 : Nat}
theorem Cq.later (h : Cq W V f d out a n cap L g c p1) (hb : Below V.heap.size V V') : Cq W V' f d out a n cap L g c p1 :=
  ⟨bel h.old hb, h.b0.below hb, h.u.below hb, own_later h.I hb⟩
theorem Cq.ins (h : Cq W V f d out a n cap L g c p1) : Ins V (some ⟨g, 0, none⟩) n c L := ins_left (roomy_ins h.I)
/-- Behind Apart, which changes the lists alone. -/
theorem Cq.keeps (h : Cq W V f d out a n cap L g c p1) {S : Nat → Prop} (hk : Ap.Keeps V V' S) (hS : ∀ b, S b → W.heap.size ≤ b ∧ ∃ cs fr, V.heap[b]? = some (.cells cs 3 fr)) : Cq W V' f d out a n cap L g c p1 := by
  have no : ∀ (b : Nat) (t : TypeId) (cs : Array Value), HasC V b t cs → t ≠ 3 → ¬ S b := by
    intro b t cs hb ht hs
    obtain ⟨_, cs', fr, h2⟩ := hS b hs
    rw [show V.heap[b]? = _ from hb] at h2
    cases h2
    exact ht rfl
  refine ⟨h.old.trans (hk.below h.old.size fun k hk' => (hS k hk').1), (hk.block _ h.b0.lt (no _ _ _ h.b0 (by decide))).trans h.b0, (hk.block _ h.u.lt (no _ _ _ h.u (by decide))).trans h.u, hk.owns h.I ?_⟩
  intro q hq hs
  obtain ⟨_, cs, fr, h3⟩ := owns_block h.I q hq
  obtain ⟨_, cs', fr', h2⟩ := hS q hs
  rw [h2] at h3
  cases h3
theorem Cq.grown (h : Cq W V f d out a n cap L g c p1) {vl : Value} {M : Nat} {xs : List Value} (hO : V.ownsRow W.heap.size 33 1 vl M xs) (hg : V.grownBy V' vl.ownBlock) : Cq W V' f d out a n cap L g c p1 :=
  ⟨h.old.grown hg h.old.size fun k hk => (owns_block hO k hk).1, has_own h.b0 hO hg (by decide), has_own h.u hO hg (by decide), h.I.kept hg (Ap.owns_apart h.I hO (by decide))⟩
end

/-- A list of lists, each in memory of its own. -/
structure Li (B : Nat) (w : World) (vl : Value) (M : Nat) (v : Nat → Value) (nn : Nat → Nat) : Prop where
  base : B ≤ w.heap.size
  own : w.ownsRow B 33 1 vl M ((List.range M).map v)
  row : ∀ i, i < M → ∃ xs, w.ownsRow B 3 1 (v i) (nn i) xs
  dist : ∀ i j, i < M → j < M → i ≠ j → ∀ k, (v i).ownBlock = some k → (v j).ownBlock ≠ some k
  small : ∀ i, i < M → nn i ≤ 200
theorem Li.later {B : Nat} {w w' : World} {vl : Value} {M : Nat} {v : Nat → Value} {nn : Nat → Nat} (h : Li B w vl M v nn) (hb : Below w.heap.size w w') : Li B w' vl M v nn :=
  ⟨Nat.le_trans h.base hb.size, own_later h.own hb, fun i hi => by obtain ⟨xs, hx⟩ := h.row i hi; exact ⟨xs, own_later hx hb⟩, h.dist, h.small⟩
def updV (v : Nat → Value) (i : Nat) (x : Value) : Nat → Value := fun j => if j = i then x else v j
theorem map_updV (v : Nat → Value) (M : Nat) (x : Value) : (List.range (M + 1)).map (updV v M x) = (List.range M).map v ++ [x] := by
  rw [List.range_succ, List.map_append]
  congr 1
  · apply List.map_congr_left
    intro j hj
    rw [List.mem_range] at hj
    simp [updV]
    omega
  · simp [updV]
theorem Li.push {B : Nat} {w w1 w2 : World} {vl vl' x : Value} {M k : Nat} {v : Nat → Value} {nn : Nat → Nat} {xs : List Value} (h : Li B w vl M v nn) (hb : Below w.heap.size w w1) (hx : w1.ownsRow w.heap.size 3 1 x k xs) (hk : k ≤ 200)
    (hg : w1.grownBy w2 vl.ownBlock) (ho : w2.ownsRow B 33 1 vl' (M + 1) ((List.range M).map v ++ [x])) : Li B w2 vl' (M + 1) (updV v M x) (Ap.upd nn M k) := by
  have h1 := h.later hb
  refine ⟨Nat.le_trans h1.base hg.size, by rw [map_updV]; exact ho, fun i hi => ?_, fun i j hi hj hij q hq hq2 => ?_, fun i hi => ?_⟩
  · by_cases e : i = M
    · subst e
      refine ⟨xs, ?_⟩
      simp only [updV, if_pos, Ap.upd]
      exact own_mono (hx.kept hg (Ap.owns_apart hx h1.own (by decide))) h.base
    · obtain ⟨ys, hy⟩ := h1.row i (by omega)
      refine ⟨ys, ?_⟩
      simp only [updV, if_neg e, Ap.upd]
      exact hy.kept hg (Ap.owns_apart hy h1.own (by decide))
  · simp only [updV] at hq hq2
    by_cases e : i = M
    · subst e
      rw [if_pos rfl] at hq
      rw [if_neg (by omega)] at hq2
      obtain ⟨ys, hy⟩ := h.row j (by omega)
      have a1 := (hy.lt q hq2).2
      have a2 := (hx.lt q hq).1
      omega
    · rw [if_neg e] at hq
      by_cases e2 : j = M
      · subst e2
        rw [if_pos rfl] at hq2
        obtain ⟨ys, hy⟩ := h.row i (by omega)
        have a1 := (hy.lt q hq).2
        have a2 := (hx.lt q hq2).1
        omega
      · rw [if_neg e2] at hq2
        exact h.dist i j (by omega) (by omega) hij q hq hq2
  · by_cases e : i = M
    · subst e; simp only [Ap.upd, if_pos]; exact hk
    · simp only [Ap.upd, if_neg e]; exact h.small i (by omega)
theorem Li.lists {B : Nat} {w : World} {vl : Value} {M : Nat} {v : Nat → Value} {nn : Nat → Nat} (h : Li B w vl M v nn) (h0 : M ≠ 0) (hM : M ≤ 3000000000000) : ∃ l cap, vl = .slice (some ⟨l, 0, none⟩) M cap ∧ Ap.Lists w l M v nn := by
  obtain ⟨l, cap, rfl⟩ := Ap.ownsRow_slice h.own h0
  refine ⟨l, cap, rfl, (h.own.lt l rfl).2, fun i hi => ?_, fun i hi => ?_, h.dist, fun i hi he => ?_, fun i hi => Nat.le_trans (h.small i hi) (by decide), hM⟩
  · rw [h.own.cellAt i (by omega)]
    simp [hi]
  · obtain ⟨xs, hx⟩ := h.row i hi
    exact ⟨xs, own_mono hx (Nat.zero_le _)⟩
  · obtain ⟨xs, hx⟩ := h.row i hi
    rcases Ap.owns_apart hx h.own (by decide) with h1 | h1
    · rw [h1] at he; cases he
    · exact h1 he
theorem infoSl : (Try.prog.info? 33).map (fun i => (i.zero, i.size, i.bytes)) = some (some (.slice none 0 0), 1, 24) := by kernel_rfl
theorem Li.two {B : Nat} {w : World} {x y : Value} {k m : Nat} {xs ys : List Value} (hB : B ≤ w.heap.size) (hx : w.ownsRow B 3 1 x k xs) (hy : w.ownsRow B 3 1 y m ys) (hd : ∀ q, x.ownBlock = some q → y.ownBlock ≠ some q) (h1 : k ≤ 200) (h2 : m ≤ 200) :
    Li B (w.alloc (.cells #[x, y] 33)) (.slice (some ⟨w.heap.size, 0, none⟩) 2 2) 2 (fun i => if i = 0 then x else y) (fun i => if i = 0 then k else m) := by
  have hb := bel1 w (.cells #[x, y] 33)
  refine ⟨Nat.le_trans hB hb.size, ⟨rfl, .inr ⟨w.heap.size, 2, #[x, y], rfl, hB, HasC.new w 33 #[x, y], Nat.le_refl _, by decide, rfl, rfl⟩⟩, fun i hi => ?_, fun i j hi hj hij q hq hq2 => ?_, fun i hi => ?_⟩
  · match i, hi with
    | 0, _ => exact ⟨xs, own_later hx hb⟩
    | 1, _ => exact ⟨ys, own_later hy hb⟩
  · match i, hi, j, hj with
    | 0, _, 0, _ => exact hij rfl
    | 1, _, 1, _ => exact hij rfl
    | 0, _, 1, _ => exact hd q hq hq2
    | 1, _, 0, _ => exact hd q hq2 hq
  · match i, hi with
    | 0, _ => exact h1
    | 1, _ => exact h2
/-- The registers that an instruction reads, as a list of the call's own. -/
theorem args_own {V : World} {ga base : Nat} {m : In} (h : HasC V ga 3 (zA (abc m))) (hb : base ≤ ga) : V.ownsRow base 3 1 (.slice (some ⟨ga, 0, none⟩) (arN m) 3) (arN m) (i64s (agL m)) := by
  have := arN_le m
  refine ⟨by simp [agL_len], .inr ⟨ga, 3, zA (abc m), rfl, hb, h, this, by decide, by simp [abc], ?_⟩⟩
  simp [agL, i64s, List.map_take]
theorem args_ints {V : World} {ga : Nat} {m : In} (h : HasC V ga 3 (zA (abc m))) : Ints V (some ⟨ga, 0, none⟩) (arN m) 3 (agL m) := by
  obtain ⟨a', c', e, hi, -⟩ := Ints.of_owns (args_own h (Nat.zero_le _))
  cases e
  exact hi
/-- The list of lists grows by one. -/
theorem list_li {B : Nat} {w w1 : World} {vl x : Value} {M k : Nat} {v : Nat → Value} {nn : Nat → Nat} {xs : List Value} {ops : Array Oper} {rest : List Oper} {o : Oper} {a : Act} {Q : Exit → Act → World → Prop}
    (hgd : o.guard = none) (s y : Operand) (ho : o.op = .call { callee := .builtin .append, args := #[s, y], argTypes := #[40, 40] })
    (hs : a.eval s = vl) (h : Li B w vl M v nn) (hb : Below w.heap.size w w1) (hx : w1.ownsRow w.heap.size 3 1 x k xs) (hk : k ≤ 200) (b : Nat) (hy : a.eval y = .slice (some ⟨b, 0, none⟩) 1 1) (hc : HasC w1 b 33 #[x]) (h1c : x.oneCell' = true) (hM : M ≤ 2999999999999)
    (hK : ∀ g cap w', Li B w' (.slice (some ⟨g, 0, none⟩) (M + 1) cap) (M + 1) (updV v M x) (Ap.upd nn M k) → w1.grownBy w' vl.ownBlock → wpList Try.prog ops Q rest (a.put o.dst (.slice (some ⟨g, 0, none⟩) (M + 1) cap)) w') :
    wpList Try.prog ops Q (o :: rest) a w1 := by
  obtain ⟨i0, hi0, hz0, hz1, hz2⟩ := info_parts infoSl
  have h1 := h.later hb
  refine append_one w1 hgd s y 40 ho B 33 i0 _ 1 24 Try.underlying40 hi0 hz0 hz1 hz2 rfl (by omega) vl M _ hs h1.own b #[x] hy rfl hc (by simpa using h1c) (by unfold maxLen; omega) (by omega) h1.base ?_
  intro g cap w' hO hg
  exact hK g cap w' (h.push hb hx hk hg hO) hg
theorem us_few (f d out : Int) (L : List In) : (usZ f d L out).2.length ≤ 200 := by
  unfold usZ
  split
  · rename_i hm
    obtain ⟨-, -, h2, -⟩ := mc_parts hm
    rw [usU_len]; exact h2
  · simp

end Go.Proofs.Ythkihmbgdfnofaa
