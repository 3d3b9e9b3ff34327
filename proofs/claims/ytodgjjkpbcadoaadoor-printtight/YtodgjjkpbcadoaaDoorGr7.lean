/-
  The tree of a program is one that Check takes: plain lists.
-/
import Derived.Test.YtodgjjkpbcadoaaDoorCk5
namespace Go.Proofs.YtodgjjkpbcadoaaDoor
open Lx Pz
set_option linter.unusedVariables false

def okT : Tk → Bool
  | .num v => decide (0 ≤ v) && decide (v ≤ 2147483647)
  | .op _ o => prZ o == 2
  | .word s => wrd s
  | _ => true
theorem okT_ab {t : Tok} (h : Wf t) : okT (ab t) = true := by
  rcases h with ⟨hk, h⟩ | ⟨hk, h⟩ | ⟨hk, h⟩
  · simp only [ab, hk, if_true, okT]
    simp only [num, Bool.and_eq_true, decide_eq_true_eq] at h
    simp only [Bool.and_eq_true, decide_eq_true_eq]
    exact ⟨vl_nonneg h.1.1.2, h.2⟩
  · rw [show ab t = .word t.text by simp [ab, hk]]
    exact h
  · rw [show ab t = mkT t.text by simp [ab, hk]]
    have : ∀ s ∈ marks.map (·.1), okT (mkT s) = true := by decide
    exact this _ h

def Gd (bd : Nat) : E → Prop
  | .leaf n => n.a = 0 ∧ n.b = 0 ∧ n.c = 0 ∧ prZ n.op = 0 ∧ fldP n bd = true
  | .un o a => prZ o = 1 ∧ Gd bd a
  | .bin o a b => prZ o = 2 ∧ Gd bd a ∧ Gd bd b
  | .tri o a b c => prZ o = 3 ∧ Gd bd a ∧ Gd bd b ∧ Gd bd c

theorem fld_in {o : Int} (h : 0 < prZ o) (a b c : Int) (bd : Int) : fldP ⟨o, a, b, c, 0, 0, 0, 0, 0⟩ bd = true := by
  have h1 : o ≠ 1 := by intro e; subst e; revert h; decide
  have h2 : o ≠ 2 := by intro e; subst e; revert h; decide
  have h3 : o ≠ 3 := by intro e; subst e; revert h; decide
  have h4 : o ≠ 4 := by intro e; subst e; revert h; decide
  simp [fldP, mostZ, h1, h2, h3, h4, plc0, wthn]

theorem off_ok {l r : List Tk} {x : Int} (h : off l = some (x, r)) (hl : l.all okT = true) : wthn x (-MX) MX = true ∧ r.all okT = true := by
  unfold off at h
  split at h
  · cases h
    simp only [List.all_cons, okT, Bool.and_eq_true, decide_eq_true_eq] at hl
    simp only [wthn, MX, Bool.and_eq_true, decide_eq_true_eq]
    exact ⟨⟨by omega, by omega⟩, hl.2⟩
  · split at h
    · cases h
      simp only [List.all_cons, okT, Bool.and_eq_true, decide_eq_true_eq] at hl
      simp only [wthn, MX, Bool.and_eq_true, decide_eq_true_eq]
      exact ⟨⟨by omega, by omega⟩, hl.2.2⟩
    · cases h
  · cases h
theorem offs_ok {back : Int} {l r : List Tk} {e : E} {bd : Nat} (h : offs back l = some (e, r)) (hl : l.all okT = true) (hb : wthn back 0 MX = true) : Gd bd e := by
  unfold offs at h
  split at h
  · rename_i x r0 ho
    cases h
    have h1 := (off_ok ho hl).1
    refine ⟨rfl, rfl, rfl, rfl, ?_⟩
    simp only [fldP, mayP, if_true, h1, hb]
    decide
  · rename_i x r0 ho
    have h1 := off_ok ho hl
    split at h
    · rename_i y r2 ho2
      cases h
      have h2 := off_ok ho2 (by have := h1.2; simp only [List.all_cons, Bool.and_eq_true] at this; exact this.2)
      refine ⟨rfl, rfl, rfl, rfl, ?_⟩
      simp only [fldP, mayP, if_true, h1.1, h2.1, hb]
      rfl
    · cases h
  · cases h
theorem plc_ok {q : Bool} {l r : List Tk} {e : E} {bd : Nat} (h : plc q l = some (e, r)) (hl : l.all okT = true) : Gd bd e := by
  unfold plc at h
  split at h
  · simp only [List.all_cons, Bool.and_eq_true] at hl
    split at h
    · split at h
      · split at h
        · cases h
        · simp only [List.all_cons, okT, Bool.and_eq_true, decide_eq_true_eq] at hl
          exact offs_ok h hl.2.2.2 (by simp only [wthn, MX, Bool.and_eq_true, decide_eq_true_eq]; omega)
      · cases h
    · exact offs_ok h hl.2 (by decide)
  · cases h
theorem calO_pr {s : Txt} (h : 0 < ari (calO s)) : prZ (calO s) = ari (calO s) := by
  have hc := ari_ne h
  clear h
  unfold calO at hc ⊢
  repeat' split at hc
  all_goals first | (exact absurd rfl hc) | skip
  all_goals simp only [*, if_true] <;> decide
theorem wd_ok {nm : List Txt} {s : Txt} {e : E} (h : wd nm s = some e) : Gd nm.length e := by
  unfold wd at h
  split at h
  · rename_i h0
    cases h
    refine ⟨rfl, rfl, rfl, rfl, ?_⟩
    have h5 : inK s ≤ 5 := by unfold inK; repeat' split
                              all_goals omega
    simp [fldP, mostZ, plc0, wthn, h0, h5]
  · split at h
    · rename_i h0 hc
      cases h
      refine ⟨rfl, rfl, rfl, rfl, ?_⟩
      have : pos nm s < nm.length := by
        unfold pos
        rw [List.findIdx_lt_length]
        exact ⟨s, by simpa using hc, by simp⟩
      simp [fldP, mostZ, plc0, wthn]
      omega
    · cases h

theorem g_gd {nm : List Txt} {c : Nat} {l : List Tk} {e : E} (h : G nm c l e) : l.all okT = true → Gd nm.length e := by
  induction h with
  | up _ _ ih => exact ih
  | sel _ _ _ ih1 ih2 ih3 =>
    intro h
    simp only [List.all_append, List.all_cons, Bool.and_eq_true] at h
    exact ⟨rfl, ih1 h.1, ih2 h.2.2.1, ih3 h.2.2.2.2⟩
  | bin _ _ _ ih1 ih2 =>
    intro h
    simp only [List.all_append, List.all_cons, Bool.and_eq_true, okT, beq_iff_eq] at h
    exact ⟨h.2.1, ih1 h.1, ih2 h.2.2⟩
  | neg _ ih =>
    intro h
    simp only [List.all_cons, Bool.and_eq_true] at h
    exact ⟨rfl, ih h.2⟩
  | par _ ih =>
    intro h
    simp only [List.all_append, List.all_cons, Bool.and_eq_true] at h
    exact ih h.2.1
  | num v =>
    intro h
    simp only [List.all_cons, okT, Bool.and_eq_true, decide_eq_true_eq] at h
    refine ⟨rfl, rfl, rfl, rfl, ?_⟩
    simp [fldP, mostZ, plc0, wthn, MX]
    omega
  | word _ _ _ hw => intro _; exact wd_ok hw
  | place _ hp => intro h; simp only [List.all_cons, Bool.and_eq_true] at h; exact plc_ok hp h.2
  | call1 ha _ ih =>
    intro h
    simp only [List.all_append, List.all_cons, Bool.and_eq_true] at h
    exact ⟨by rw [calO_pr (by omega), ha]; rfl, ih h.2.2.1⟩
  | call2 ha _ _ ih1 ih2 =>
    intro h
    simp only [List.all_append, List.all_cons, Bool.and_eq_true] at h
    exact ⟨by rw [calO_pr (by omega), ha]; rfl, ih1 h.2.2.1, ih2 h.2.2.2.2.1⟩
  | call3 ha _ _ _ ih1 ih2 ih3 =>
    intro h
    simp only [List.all_append, List.all_cons, Bool.and_eq_true] at h
    exact ⟨by rw [calO_pr (by omega), ha]; rfl, ih1 h.2.2.1, ih2 h.2.2.2.2.1, ih3 h.2.2.2.2.2.2.1⟩

/- the row of nodes that are no parts yet -/
def lastP (BS : List Int) (i : Nat) (L : List Int) (bd : Nat) : Option (List Int × Nat) :=
  if bd < BS.length ∧ BS.getD bd 0 = i then (if L.length = 0 then some ([], bd + 1) else none) else some (L ++ [(i : Int)], bd)
theorem step_last {BS : List Int} {i : Nat} {n : Nd} {L B : List Int} {bd : Nat} (h1 : prZ n.op = B.length) (h2 : fldP n bd = true) (h3 : tkE B n = true) : stepP BS i n (L ++ B, bd) = lastP BS i L bd := by
  rw [step_in h1, h2, h3]
  rfl
theorem mach_one (BS : List Int) (i : Nat) (n : Nd) (s : List Int × Nat) : mach BS i [n] s = stepP BS i n s := by
  show (stepP BS i n s).bind _ = _
  cases stepP BS i n s <;> rfl
theorem last_no {BS : List Int} {i : Nat} {L : List Int} {bd : Nat} (h : ¬ (bd < BS.length ∧ BS.getD bd 0 = (i : Int))) : lastP BS i L bd = some (L ++ [(i : Int)], bd) := if_neg h

theorem mach_e {BS : List Int} {bd : Nat} : ∀ (e : E) (s : Nat) (L : List Int), Gd bd e → (∀ i, s ≤ i → i + 1 < s + e.size → ¬ (bd < BS.length ∧ BS.getD bd 0 = (i : Int))) → mach BS s (e.flat s) (L, bd) = lastP BS (s + e.size - 1) L bd
  | .leaf n, s, L, hg, hno => by
    obtain ⟨h1, h2, h3, h4, h5⟩ := hg
    show mach BS s [n] (L, bd) = _
    rw [mach_one]
    have := step_last (BS := BS) (i := s) (L := L) (B := []) (n := n) (bd := bd) (by rw [h4]; rfl) h5 (by simp [tkE, h1, h2, h3])
    rw [List.append_nil] at this
    exact this
  | .un o a, s, L, hg, hno => by
    obtain ⟨h1, ha⟩ := hg
    have pa := a.size_pos
    simp only [E.size] at hno
    simp only [E.flat]
    rw [mach_app, mach_e a s L ha (fun i h1 h2 => hno i h1 (by omega)), last_no (hno _ (by omega) (by omega))]
    show mach BS _ [_] _ = _
    rw [mach_one, E.flat_len, step_last (by rw [h1]; rfl) (fld_in (by omega) _ _ _ _) (by simp [tkE]; omega)]
    simp only [E.size]
    rw [show s + (a.size + 1) - 1 = s + a.size by omega]
  | .bin o a b, s, L, hg, hno => by
    obtain ⟨h1, ha, hb⟩ := hg
    have pa := a.size_pos
    have pb := b.size_pos
    simp only [E.size] at hno
    simp only [E.flat]
    rw [mach_app, mach_app, mach_e a s L ha (fun i h1 h2 => hno i h1 (by omega)), last_no (hno _ (by omega) (by omega)), Option.bind_some, E.flat_len, mach_e b (s + a.size) _ hb (fun i h1 h2 => hno i (by omega) (by omega)), last_no (hno _ (by omega) (by omega)), Option.bind_some, mach_one, List.append_assoc, step_last (by rw [h1]; rfl) (fld_in (by omega) _ _ _ _) (by simp [tkE]; omega)]
    simp only [E.size, List.length_append, E.flat_len]
    rw [show s + (a.size + b.size + 1) - 1 = s + (a.size + b.size) by omega]
  | .tri o a b c, s, L, hg, hno => by
    obtain ⟨h1, ha, hb, hc⟩ := hg
    have pa := a.size_pos
    have pb := b.size_pos
    have pc := c.size_pos
    simp only [E.size] at hno
    simp only [E.flat]
    rw [mach_app, mach_app, mach_app, mach_e a s L ha (fun i h1 h2 => hno i h1 (by omega)), last_no (hno _ (by omega) (by omega)), Option.bind_some, E.flat_len, mach_e b (s + a.size) _ hb (fun i h1 h2 => hno i (by omega) (by omega)), last_no (hno _ (by omega) (by omega)), Option.bind_some, List.length_append, E.flat_len, E.flat_len, ← Nat.add_assoc, mach_e c (s + a.size + b.size) _ hc (fun i h1 h2 => hno i (by omega) (by omega)), last_no (hno _ (by omega) (by omega)), Option.bind_some, mach_one, show ∀ x y z : Int, L ++ [x] ++ [y] ++ [z] = L ++ [x, y, z] from by intros; simp, step_last (by rw [h1]; rfl) (fld_in (by omega) _ _ _ _) (by simp [tkE]; omega)]
    simp only [E.size, List.length_append, E.flat_len]
    rw [show s + (a.size + b.size + c.size + 1) - 1 = s + (a.size + b.size + c.size) by omega]

theorem mach_L {BS : List Int} : ∀ (es : List E) (ex : E) (s bd : Nat), bd ≤ BS.length → BS.drop bd = bdL es s → (∀ j e, es[j]? = some e → Gd (bd + j) e) → Gd (bd + es.length) ex → mach BS s (flL es s ++ ex.flat (s + szL es)) ([], bd) = some ([((s + szL es + ex.size - 1 : Nat) : Int)], BS.length)
  | [], ex, s, bd, hle, hd, hes, hex => by
    have hl : bd = BS.length := by
      have := congrArg List.length hd
      simp [bdL] at this
      omega
    simp only [flL, szL, List.nil_append, Nat.add_zero]
    rw [mach_e (bd := bd) ex s [] hex (fun i _ _ h => by omega), last_no (fun h => by omega), hl]
    rfl
  | a :: es, ex, s, bd, hle, hd, hes, hex => by
    have hlt : bd < BS.length := by
      have := congrArg List.length hd
      simp [bdL] at this
      omega
    have pa := a.size_pos
    have hg : BS.getD bd 0 = ((s + a.size : Nat) : Int) - 1 := by
      have := congrArg (fun l => l.getD 0 0) hd
      simp only [bdL, List.getD_cons_zero] at this
      rw [← this, List.getD_eq_getElem?_getD, List.getD_eq_getElem?_getD, List.getElem?_drop, Nat.add_zero]
    simp only [flL, szL]
    rw [List.append_assoc, mach_app, mach_e (bd := bd) a s [] (hes 0 a rfl) (fun i h1 h2 h => by have := h.2; rw [hg] at this; omega)]
    rw [show lastP BS (s + a.size - 1) [] bd = some ([], bd + 1) by unfold lastP; rw [if_pos ⟨hlt, by rw [hg]; omega⟩]; rfl]
    rw [Option.bind_some, E.flat_len, ← Nat.add_assoc]
    refine mach_L es ex (s + a.size) (bd + 1) hlt ?_ ?_ ?_
    · rw [← List.drop_drop, hd]; rfl
    · intro j e he
      have := hes (j + 1) e he
      rwa [show bd + (j + 1) = bd + 1 + j by omega] at this
    · rw [List.length_cons] at hex
      rwa [show bd + (es.length + 1) = bd + 1 + es.length by omega] at hex

theorem gp_gd {nm : List Txt} {es : List E} {l : List Tk} {o : Out} (h : GP nm es l o) : l.all okT = true → nm.length = es.length → (∀ j e, es[j]? = some e → Gd j e) → nmB nm = true → (∀ j e, o.2.1[j]? = some e → Gd j e) ∧ Gd o.2.1.length o.2.2 ∧ nmB o.1 = true := by
  induction h with
  | last hg => intro h1 h2 h3 h4; exact ⟨h3, h2 ▸ g_gd hg h1, h4⟩
  | @bind nm es s l1 l2 e o hr hc hg _ ih =>
    intro h1 h2 h3 h4
    simp only [List.all_append, List.all_cons, Bool.and_eq_true] at h1
    have hw : wrd s = true := h1.2.1
    refine ih h1.2.2.2.2.2 (by simp [h2]) ?_ (by rw [nmB_snoc, h4, hw, hr, hc]; rfl)
    intro j e' he
    by_cases hj : j < es.length
    · rw [List.getElem?_append_left hj] at he; exact h3 j e' he
    · rw [List.getElem?_append_right (by omega)] at he
      have hj0 : j - es.length = 0 := by
        cases hh : j - es.length with
        | zero => rfl
        | succ m => rw [hh] at he; simp at he
      rw [hj0] at he
      cases he
      have : j = nm.length := by omega
      rw [this]
      exact g_gd hg h1.2.2.2.1

/-- The tree of a text's program is taken. -/
theorem chk_ok {l : List UInt8} {T : List Tok} {NM : List Txt} {es : List E} {ex : E} (hT : tks l = some T) (hA : Ans (T.map ab) (some (NM, es, ex))) (hl : NM.length = es.length) (hz : szL es + ex.size ≤ T.length) :
    chkP NM (bdL es 0) (flL es 0 ++ ex.flat (szL es)) (((szL es + ex.size : Nat) : Int) - 1) = true := by
  have hg := (hA (NM, es, ex)).1 rfl
  have hok : (T.map ab).all okT = true := by
    rw [List.all_map, List.all_eq_true]
    intro t ht
    exact okT_ab (tks_wf hT t ht)
  obtain ⟨h1, h2, h3⟩ := gp_gd hg hok rfl (by intro j e h; simp at h) rfl
  have hbl : (bdL es 0).length = es.length := by
    have : ∀ (es : List E) (s : Nat), (bdL es s).length = es.length := by
      intro es
      induction es with
      | nil => intro s; rfl
      | cons a es ih => intro s; simp [bdL, ih]
    exact this es 0
  have hfl : (flL es 0).length = szL es := by
    have : ∀ (es : List E) (s : Nat), (flL es s).length = szL es := by
      intro es
      induction es with
      | nil => intro s; rfl
      | cons a es ih => intro s; simp [flL, szL, ih, E.flat_len]
    exact this es 0
  have hm := mach_L (BS := bdL es 0) es ex 0 0 (Nat.zero_le _) rfl (by intro j e h; rw [Nat.zero_add]; exact h1 j e h) (by rw [Nat.zero_add]; exact h2)
  rw [Nat.zero_add] at hm
  have h4 := tks_len hT
  have px := ex.size_pos
  unfold chkP ordP endsP
  rw [hm, h3, hbl, hl]
  simp [hfl, E.flat_len, wthn]
  omega

end Go.Proofs.YtodgjjkpbcadoaaDoor
