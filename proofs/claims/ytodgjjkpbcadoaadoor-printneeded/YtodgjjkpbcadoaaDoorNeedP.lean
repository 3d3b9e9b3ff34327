/-
  Brackets of a printed text: plainly.
-/
import Derived.Test.YtodgjjkpbcadoaaDoorLwAB
namespace Go.Proofs.YtodgjjkpbcadoaaDoor
open Lx Pz
open Go.Lib (decDigits itoa)
set_option linter.unusedVariables false

/-- How deep a text ends. -/
def dp (l : Txt) : Int := (l.count 40 : Int) - (l.count 41 : Int)
theorem dp_nil : dp [] = 0 := rfl
theorem dp_app (a b : Txt) : dp (a ++ b) = dp a + dp b := by simp only [dp, List.count_append]; omega
theorem dp_one (c : UInt8) : dp [c] = if c = 40 then 1 else if c = 41 then -1 else 0 := by
  by_cases h : c = 40
  · subst h; rfl
  · by_cases h2 : c = 41
    · subst h2; rfl
    · simp [dp, h, h2]
def Bal (l : Txt) : Prop := dp l = 0 ∧ ∀ k, 0 ≤ dp (l.take k)
theorem Bal.app {a b : Txt} (ha : Bal a) (hb : Bal b) : Bal (a ++ b) := by
  refine ⟨by rw [dp_app, ha.1, hb.1]; rfl, fun k => ?_⟩
  rw [List.take_append, dp_app]
  by_cases h : k ≤ a.length
  · rw [show k - a.length = 0 by omega, List.take_zero, dp_nil]
    have := ha.2 k
    omega
  · rw [List.take_of_length_le (by omega), ha.1]
    have := hb.2 (k - a.length)
    omega
theorem Bal.plain {l : Txt} (h : ∀ c ∈ l, c ≠ 40 ∧ c ≠ 41) : Bal l := by
  have key : ∀ (m : Txt), (∀ c ∈ m, c ≠ 40 ∧ c ≠ 41) → dp m = 0 := by
    intro m hm
    have h1 : m.count 40 = 0 := List.count_eq_zero.2 fun hc => (hm 40 hc).1 rfl
    have h2 : m.count 41 = 0 := List.count_eq_zero.2 fun hc => (hm 41 hc).2 rfl
    simp [dp, h1, h2]
  exact ⟨key l h, fun k => by rw [key _ (fun c hc => h c (List.mem_of_mem_take hc))]; omega⟩
theorem Bal.nil : Bal [] := Bal.plain (by simp)
theorem Bal.br {l : Txt} (h : Bal l) : Bal (40 :: (l ++ [41])) := by
  have e : dp [40] = 1 := rfl
  have e2 : dp [41] = -1 := rfl
  refine ⟨?_, fun k => ?_⟩
  · rw [← List.singleton_append, dp_app, dp_app, h.1, e, e2]; rfl
  · cases k with
    | zero => rw [List.take_zero, dp_nil]; omega
    | succ k =>
      rw [List.take_succ_cons, ← List.singleton_append, dp_app, e, List.take_append, dp_app]
      have := h.2 k
      by_cases hk : k ≤ l.length
      · rw [show k - l.length = 0 by omega, List.take_zero, dp_nil]; omega
      · rw [List.take_of_length_le (show ([41] : Txt).length ≤ k - l.length by simp; omega), e2]
        rw [List.take_of_length_le (by omega), h.1] at this ⊢
        omega
theorem Bal.one {c : UInt8} (h : c ≠ 40 ∧ c ≠ 41) : Bal [c] := Bal.plain (by intro d hd; simp at hd; subst hd; exact h)
theorem Bal.cons {c : UInt8} {l : Txt} (h : c ≠ 40 ∧ c ≠ 41) (hl : Bal l) : Bal (c :: l) := by
  rw [← List.singleton_append]; exact (Bal.one h).app hl

theorem W_np {c : UInt8} (h : W c = true) : c ≠ 40 ∧ c ≠ 41 := by constructor <;> (intro e; subst e; exact absurd h (by decide))
theorem bal_wrd {x : Txt} (h : wrd x = true) : Bal x := by
  simp only [wrd, Bool.and_eq_true, List.all_eq_true] at h
  exact Bal.plain fun c hc => W_np (h.2 c hc)
theorem bal_dec (u : Nat) : Bal (decDigits u) := by
  have h := dec_all u
  rw [List.all_eq_true] at h
  refine Bal.plain fun c hc => ?_
  have := h c hc
  constructor <;> (intro e; subst e; exact absurd this (by decide))
theorem bal_itoa (z : Int) : Bal (itoa z) := by
  unfold itoa
  split
  · exact Bal.cons (by decide) (bal_dec _)
  · exact bal_dec _
theorem bal_brk {l : Txt} (h : Bal l) (b : Bool) : Bal (brk b l) := by
  unfold brk
  split
  · exact h.br
  · exact h
theorem bal_otx {k : Nat} (h : 8 ≤ k ∧ k ≤ 23) : Bal (otx k) := by
  have key : ∀ j, j < 16 → (otx ((8 + j : Nat) : Int)).all (fun c => c != 40 && c != 41) = true := by decide
  have := key (k - 8) (by omega)
  rw [show 8 + (k - 8) = k by omega, List.all_eq_true] at this
  refine Bal.plain fun c hc => ?_
  have := this c hc
  simpa using this
theorem bal_pl (n : Nd) : Bal (plT n) := by
  have hi : Bal (itoa n.x ++ (if n.co = 2 then 44 :: itoa n.y else [])) := by
    refine (bal_itoa _).app ?_
    split
    · exact Bal.cons (by decide) (bal_itoa _)
    · exact Bal.nil
  unfold plT
  split
  · have := Bal.cons (c := 112) (by decide) hi.br
    simpa using this
  · have := Bal.cons (c := 113) (by decide) (((bal_itoa n.back).app (Bal.cons (c := 44) (by decide) hi)).br)
    simpa using this
theorem bal_etx {NM : List Txt} (hn : nmB NM = true) {bd : Nat} (hb : bd ≤ NM.length) : ∀ (e : E), Gd bd e → Bal (etx NM e)
  | .leaf n, hg => by
    obtain ⟨-, -, -, h⟩ := gd_leaf hg
    simp only [etx]
    unfold leafT
    split
    · exact bal_itoa _
    split
    · exact bal_wrd (in_wrd (by omega))
    split
    · exact bal_wrd (nm_at hn (by omega)).1
    · exact bal_pl n
  | .un o a, hg => by
    have ha := bal_etx hn hb a hg.2
    simp only [etx]
    split
    · exact Bal.cons (by decide) (bal_brk ha _)
    · have := pr_one hg.1
      exact (bal_wrd (otx_call (by omega))).app ha.br
  | .bin o a b, hg => by
    have ha := bal_etx hn hb a hg.2.1
    have hbb := bal_etx hn hb b hg.2.2
    simp only [etx]
    split
    · have := (bal_wrd (otx_call (o := o) (by omega))).app (ha.app (Bal.cons (c := 44) (by decide) hbb)).br
      simpa using this
    · have h2 := pr_two hg.1
      obtain ⟨k, rfl⟩ : ∃ k : Nat, o = k := ⟨o.toNat, by omega⟩
      exact (bal_brk ha _).app ((bal_otx (by omega)).app (bal_brk hbb _))
  | .tri o a b c, hg => by
    have ha := bal_etx hn hb a hg.2.1
    have hbb := bal_etx hn hb b hg.2.2.1
    have hc := bal_etx hn hb c hg.2.2.2
    simp only [etx]
    split
    · exact (bal_brk ha _).app (Bal.cons (by decide) (hbb.app (Bal.cons (by decide) hc)))
    · have h3 := pr_three hg.1
      have := (bal_wrd (otx_call (o := o) (by omega))).app (ha.app (Bal.cons (c := 44) (by decide) (hbb.app (Bal.cons (c := 44) (by decide) hc)))).br
      simpa using this
theorem bal_let {NM : List Txt} (hn : nmB NM = true) : ∀ (ns : List Txt) (es : List E), (∀ s ∈ ns, wrd s = true) → (∀ e ∈ es, ∃ bd, bd ≤ NM.length ∧ Gd bd e) → Bal (letT NM ns es)
  | [], es, _, _ => by simp only [letT]; exact Bal.nil
  | s :: ns, [], _, _ => by simp only [letT]; exact Bal.nil
  | s :: ns, e :: es, hs, he => by
    have ih := bal_let hn ns es (fun x hx => hs x (by simp [hx])) (fun x hx => he x (by simp [hx]))
    obtain ⟨bd, h1, h2⟩ := he e (by simp)
    have h3 : Bal [108, 101, 116, 32] := Bal.plain (by decide)
    simp only [letT]
    exact h3.app ((bal_wrd (hs s (by simp))).app (Bal.cons (by decide) ((bal_etx hn h1 e h2).app (Bal.cons (by decide) ih))))
theorem bal_whole {NM : List Txt} {BS : List Int} {NS : List Nd} {root : Int} {es : List E} {ex : E} (hD : Dec NM BS NS root es ex) : Bal (whole NM es ex) := by
  rw [whole_let hD.names]
  refine (bal_let hD.ok NM es (fun s hs => (nm_wrd hD.ok hs).1) (fun e he => ?_)).app (bal_etx hD.ok (bd := es.length) (by rw [hD.names]; omega) ex hD.gx)
  obtain ⟨j, hj, rfl⟩ := List.getElem_of_mem he
  exact ⟨j, by rw [hD.names]; omega, hD.gd j _ (List.getElem?_eq_getElem hj)⟩

/-- How deep it is from f on, ahead of k. -/
def dpf (T : Txt) (f k : Nat) : Int := dp ((T.drop f).take (k - f))
theorem dpf_start (T : Txt) (f : Nat) : dpf T f f = 0 := by unfold dpf; rw [Nat.sub_self, List.take_zero]; rfl
theorem dpf_succ {T : Txt} {f k : Nat} {c : UInt8} (h : f ≤ k) (hk : T[k]? = some c) : dpf T f (k + 1) = dpf T f k + if c = 40 then 1 else if c = 41 then -1 else 0 := by
  unfold dpf
  have hd : (T.drop f)[k - f]? = some c := by rw [List.getElem?_drop, show f + (k - f) = k by omega]; exact hk
  rw [show k + 1 - f = k - f + 1 by omega, List.take_add_one, hd, dp_app]
  show _ + dp [c] = _
  rw [dp_one]
theorem dpf_end {T : Txt} (hB : Bal T) {f : Nat} (hf : f ≤ T.length) : dpf T f T.length ≤ 0 := by
  unfold dpf
  rw [List.take_of_length_le (by rw [List.length_drop]; omega)]
  have h1 := hB.1
  have h2 := hB.2 f
  rw [← List.take_append_drop f T, dp_app] at h1
  omega

/-- A text without two of its bytes. -/
def cut2 (T : Txt) (f i : Nat) : Txt := T.take f ++ (T.drop (f + 1)).take (i - (f + 1)) ++ T.drop (i + 1)
theorem cut2_len {T : Txt} {f i : Nat} (h : f < i) (hi : i < T.length) : (cut2 T f i).length + 2 = T.length := by
  unfold cut2
  simp only [List.length_append, List.length_take, List.length_drop]
  omega

end Go.Proofs.YtodgjjkpbcadoaaDoor
