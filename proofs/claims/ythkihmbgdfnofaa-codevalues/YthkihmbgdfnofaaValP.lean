/-
  CodeValues: what stands between its calls.
-/
import Derived.Test.YthkihmbgdfnofaaX2
import Derived.Test.YthkihmbgdfnofaaCheckW
import Derived.Test.YthkihmbgdfnofaaApart
import Derived.Test.YthkihmbgdfnofaaKnRoomy
namespace Go.Proofs.Ythkihmbgdfnofaa
open Go.RowKit Go.IntWalk Knd
set_option linter.unusedVariables false

/-- The arguments and what was made of them, in a later world. -/
structure Vq (W V : World) (f d out : Int) (v : Wd) (a pa : Option Addr) (n cap pl pc : Nat) (L : List In) (g c g4 p1 p2 : Nat) : Prop where
  old : Below W.heap.size W V
  b0 : HasC V W.heap.size 26 (cd f d a n cap out)
  b1 : HasC V (W.heap.size + 1) 46 (wdA v pa pl pc)
  u : HasC V p1 26 (cd f d (some ⟨g, 0, none⟩) n c out)
  z : HasC V p2 46 (wdA v (some ⟨g4, 0, none⟩) pl (pl + 40))
  I : Ins V (some ⟨g, 0, none⟩) (n + 1) c (L ++ [mk7])
  O : V.ownsRow W.heap.size 3 1 (.slice (some ⟨g4, 0, none⟩) (pl + 40) (pl + 40)) (pl + 40) (i64s (v.ps ++ marks))
  L0 : Ins V a n cap L
  P0 : Ints V pa pl pc v.ps
section
variable {W V V' : World} {f d out : Int} {v : Wd} {a pa : Option Addr} {n cap pl pc : Nat} {L : List In} {g c g4 p1 p2 : Nat}
theorem Vq.later (h : Vq W V f d out v a pa n cap pl pc L g c g4 p1 p2) (hb : Below V.heap.size V V') : Vq W V' f d out v a pa n cap pl pc L g c g4 p1 p2 :=
  ⟨bel h.old hb, h.b0.below hb, h.b1.below hb, h.u.below hb, h.z.below hb, h.I.later hb, own_later h.O hb, h.L0.later hb, h.P0.later hb⟩
theorem Vq.more (h : Vq W V f d out v a pa n cap pl pc L g c g4 p1 p2) : Ints V (some ⟨g4, 0, none⟩) (pl + 40) (pl + 40) (v.ps ++ marks) := by
  obtain ⟨a, c, e, hi, -⟩ := Ints.of_owns h.O
  cases e
  exact hi
theorem Vq.P2 (h : Vq W V f d out v a pa n cap pl pc L g c g4 p1 p2) : Ints V (some ⟨g4, 0, none⟩) pl (pl + 40) v.ps := by
  have h1 := h.more
  refine ⟨h.P0.len, by omega, h1.max, (fun h => by cases h), ?_⟩
  rcases h1.cell with h0 | ⟨b, off, e, hc⟩
  · omega
  · refine .inr ⟨b, off, e, fun i hi => ?_⟩
    rw [hc i (by omega), getD_pre (by rw [h.P0.len]; exact hi)]
/-- The list that Apart is asked about. -/
theorem Vq.own (h : Vq W V f d out v a pa n cap pl pc L g c g4 p1 p2) : V.ownsRow W.heap.size 3 1 (.slice (some ⟨g4, 0, none⟩) pl (pl + 40)) pl (i64s v.ps) := by
  have hl := h.P0.len
  rcases h.O.2 with ⟨h0, -⟩ | ⟨g, cap, cur, e, h1, h2, h3, h4, h5, h6⟩
  · cases h0
  · cases e
    refine ⟨by simpa using hl, .inr ⟨g4, pl + 40, cur, rfl, h1, h2, by omega, h4, h5, ?_⟩⟩
    have h7 := congrArg (List.take (pl * 1)) h6
    rw [List.take_take, show min (pl * 1) ((pl + 40) * 1) = pl * 1 by omega] at h7
    rw [h7, i64s, List.map_append, List.take_append_of_le_length (by simp [hl]), List.take_of_length_le (by simp [hl])]
end
theorem va_few (f d out : Int) (v : Wd) (L : List In) : (vaZ f d v L out).2.length ≤ 200 := by
  unfold vaZ
  split
  · rename_i hm
    split
    · obtain ⟨-, -, h2, -⟩ := mc_parts hm
      by_cases h0 : (vlF f d v L).1 = 0
      · have := vlF_len f d v L L.length (Nat.le_refl _)
        rw [List.take_length] at this
        have := this h0
        omega
      · rw [vlF_nil h0]; simp
    · simp
  · simp

end Go.Proofs.Ythkihmbgdfnofaa
