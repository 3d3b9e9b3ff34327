/-
  The walk of damasklaw01.reads: a step on a reader of which the document has some bytes left answers as the document does.
-/
import Derived.Test.YtibaejoonmedjaaRead
import Derived.Test.YtibaejoonmedjaaReader2
namespace Go.Proofs.Ytibaejoonmedjaa
open Go.RowKit Oct
set_option linter.unusedVariables false

/-- The second slice is the first one without its first k bytes, whatever memory holds. -/
def Tail (a : Option Addr) (n c k : Nat) (a' : Option Addr) (n' c' : Nat) : Prop := ∀ (W : World) (zs : List Int), Bytes W a n c zs → Bytes W a' n' c' (zs.drop k)

theorem Tail.refl (a : Option Addr) (n c : Nat) : Tail a n c 0 a n c := fun W zs h => h

theorem tail_cut {b off n c k off' c' : Nat} (hk : k ≤ n) (hc1 : n - k ≤ c') (hc2 : c' ≤ c) (ho : n - k = 0 ∨ off' = off + k) : Tail (some ⟨b, off, none⟩) n c k (some ⟨b, off', none⟩) (n - k) c' := by
  intro W zs hB
  have hl := hB.len
  refine ⟨by simp [hl], hc1, Nat.le_trans hc2 hB.max, (fun h => by cases h), fun z hz => hB.byte z (List.mem_of_mem_drop hz), ?_⟩
  rcases ho with h0 | rfl
  · exact .inl h0
  · by_cases h0 : n - k = 0
    · exact .inl h0
    · obtain ⟨b', o, e, _, hc⟩ := hB.at (by omega)
      cases e
      refine .inr ⟨b, off + k, rfl, fun i hi => ?_⟩
      rw [Nat.add_assoc, hc (k + i) (by omega)]
      simp [List.getD]

/-- Where nothing is left. -/
theorem tail_empty {a : Option Addr} {c : Nat} {a' : Option Addr} {c' : Nat} (h1 : a' = none → c' = 0) (h2 : c' ≤ maxLen) : Tail a 0 c 0 a' 0 c' := by
  intro W zs hB
  have hl := hB.len
  have hz : zs = [] := List.eq_nil_of_length_eq_zero hl
  subst hz
  exact ⟨rfl, Nat.zero_le _, h2, h1, by simp, .inl rfl⟩

/-- What a step leaves. -/
def Left (w w' : World) (r g : Nat) (a : Option Addr) (n c : Nat) (zs : List Int) (a' : Option Addr) (n' c' : Nat) : Prop :=
  ∃ k, k ≤ n ∧ Tail a n c k a' n' c' ∧ Rd w' r g (zs.drop k) ∧ w.grownBy w' (some r)

theorem Left.box {w w' : World} {o : Obj} {r g : Nat} {a : Option Addr} {n c : Nat} {zs : List Int} {a' : Option Addr} {n' c' : Nat} (h : Left (w.alloc o) w' r g a n c zs a' n' c') : Left w w' r g a n c zs a' n' c' := by
  obtain ⟨k, h1, h2, h3, h4⟩ := h
  refine ⟨k, h1, h2, h3, ⟨h4.os, h4.tape, h4.output, Nat.le_trans (by simp) h4.size, fun j hj hj' => ?_⟩⟩
  rw [h4.block j (by simp; omega) hj', Below.heap_alloc _ _ _ hj]

theorem rdU_le {zs : List Int} (hby : ∀ z ∈ zs, 0 ≤ z ∧ z ≤ 255) : (rdU zs).2.1 ≤ zs.length := by
  rcases scan_cases zs hby with ⟨X, hs, hX0, hX1, hvl, htk⟩ | hs | hs
  · by_cases hbig : 9223372036854775807 < X
    · rw [rdU_big hs hbig]; exact Nat.zero_le _
    · rw [rdU_ok hs hbig]; exact hvl
  · rw [rdU_err hs (by decide)]; exact Nat.zero_le _
  · rw [rdU_err hs (by decide)]; exact Nat.zero_le _
theorem rdI_le {zs : List Int} (hby : ∀ z ∈ zs, 0 ≤ z ∧ z ≤ 255) : (rdI zs).2.1 ≤ zs.length := by
  rcases scan_cases zs hby with ⟨X, hs, hX0, hX1, hvl, htk⟩ | hs | hs
  · rw [rdI_ok hs]; exact hvl
  · rw [rdI_err hs (by decide)]; exact Nat.zero_le _
  · rw [rdI_err hs (by decide)]; exact Nat.zero_le _

theorem grown_drewN {w w' : World} {row : Option Nat} (h : w.grownBy w' row) (q : Nat) : w.grownBy (w'.drewN q) row := ⟨h.os, h.tape, h.output, h.size, h.block⟩
theorem rd_drewN {w : World} {r g : Nat} {zs : List Int} (h : Rd w r g zs) (q : Nat) : Rd (w.drewN q) r g zs := h.later (below_drewN (Below.refl _ _) q)

set_option maxHeartbeats 4000000 in
set_option maxRecDepth 100000 in
theorem reads_uint (r g : Nat) (zs : List Int) (a : Option Addr) (n c : Nat) (N : Int) (w : World) (hR : Rd w r g zs) (hB : Bytes w a n c zs) (hab : ∀ x, a = some x → n ≠ 0 → x.block ≠ r) :
    Calls Try.prog 20 #[.pointer (some ⟨r, 0, none⟩), .slice a n c, .agg #[.int .i64 1, .int .i64 N]] w fun e w' => ∃ a' n' c', e = .returned (.tuple #[.slice a' n' c', .bool true]) ∧ Left w w' r g a n c zs a' n' c' := by
  have hmx : c ≤ 9223372036854775807 := by have := hB.max; unfold maxLen at this; omega
  have hle := hB.le
  have HN : Hid (a = none → c = 0) := hB.nil
  have HM : Hid (c ≤ maxLen) := hB.max
  have HL : Hid (zs.length = n) := hB.len
  have HR : Hid (Rd (w.alloc (.cells #[.int .i64 1, .int .i64 N] 42)) r g zs) := hR.later (below_alloc w _)
  have HB : Hid (Bytes w a n c zs) := hB
  have HBA : Hid (∀ wx, (w.alloc (.cells #[.int .i64 1, .int .i64 N] 42)).grownBy wx (some r) → Bytes wx a n c zs) := fun wx hx => (hB.later (below_alloc w _)).kept hx (fun x hx hn e => hab x hx hn (by simpa using e))
  have hkn : (rdU zs).2.1 ≤ n := by rw [← hB.len]; exact rdU_le hB.byte
  obtain ⟨x, k, er, hf⟩ : ∃ x k er, rdU zs = (x, k, er) := ⟨_, _, _, rfl⟩
  have HF : Hid (rdU zs = (x, k, er)) := hf
  have hkn' : k ≤ n := by rw [hf] at hkn; exact hkn
  clear hf hR hB hkn hab
  by_cases hn : n = 0
  · subst hn
    have hk0 : k = 0 := by omega
    subst hk0
    clear hkn'
    go_enter Try.func20, Try.ntmps20
    go_wp2_with fail
    refine (rUint_any r g zs _ HR.out).mono ?_
    rw [HF.out]
    rintro e w1 ⟨rfl, hR1, hg1⟩
    have HR1 := hide hR1
    have HG1 := hide hg1
    clear hR1 hg1
    go_wp2_with fail
    refine (readUint_any a 0 c zs _ (HBA.out _ HG1.out)).mono ?_
    rw [HF.out]
    rintro e w2 ⟨rfl, rfl⟩
    go_wp2_with fail
    go_ret2
    exact ⟨_, _, _, rfl, Left.box ⟨0, Nat.le_refl _, tail_empty HN.out HM.out, HR1.out, HG1.out⟩⟩
  · obtain ⟨b, off, rfl, _, _⟩ := HB.out.at hn
    go_enter Try.func20, Try.ntmps20
    go_wp2_with fail
    refine (rUint_any r g zs _ HR.out).mono ?_
    rw [HF.out]
    rintro e w1 ⟨rfl, hR1, hg1⟩
    have HR1 := hide hR1
    have HG1 := hide hg1
    clear hR1 hg1
    go_wp2_with fail
    refine (readUint_any (some ⟨b, off, none⟩) n c zs _ (HBA.out _ HG1.out)).mono ?_
    rw [HF.out]
    rintro e w2 ⟨rfl, rfl⟩
    go_wp2_with fail
    all_goals go_ret2
    · exact ⟨_, _, _, rfl, Left.box ⟨k, hkn', tail_cut hkn' (by omega) (by omega) (.inl (by omega)), HR1.out, HG1.out⟩⟩
    · exact ⟨_, _, _, rfl, Left.box ⟨k, hkn', tail_cut hkn' (by omega) (by omega) (.inr rfl), HR1.out, HG1.out⟩⟩

set_option maxHeartbeats 4000000 in
set_option maxRecDepth 100000 in
theorem reads_int (r g : Nat) (zs : List Int) (a : Option Addr) (n c : Nat) (N : Int) (w : World) (hR : Rd w r g zs) (hB : Bytes w a n c zs) (hab : ∀ x, a = some x → n ≠ 0 → x.block ≠ r) :
    Calls Try.prog 20 #[.pointer (some ⟨r, 0, none⟩), .slice a n c, .agg #[.int .i64 2, .int .i64 N]] w fun e w' => ∃ a' n' c', e = .returned (.tuple #[.slice a' n' c', .bool true]) ∧ Left w w' r g a n c zs a' n' c' := by
  have hmx : c ≤ 9223372036854775807 := by have := hB.max; unfold maxLen at this; omega
  have hle := hB.le
  have HN : Hid (a = none → c = 0) := hB.nil
  have HM : Hid (c ≤ maxLen) := hB.max
  have HL : Hid (zs.length = n) := hB.len
  have HR : Hid (Rd (w.alloc (.cells #[.int .i64 2, .int .i64 N] 42)) r g zs) := hR.later (below_alloc w _)
  have HB : Hid (Bytes w a n c zs) := hB
  have HBA : Hid (∀ wx, (w.alloc (.cells #[.int .i64 2, .int .i64 N] 42)).grownBy wx (some r) → Bytes wx a n c zs) := fun wx hx => (hB.later (below_alloc w _)).kept hx (fun x hx hn e => hab x hx hn (by simpa using e))
  have hkn : (rdI zs).2.1 ≤ n := by rw [← hB.len]; exact rdI_le hB.byte
  obtain ⟨x, k, er, hf⟩ : ∃ x k er, rdI zs = (x, k, er) := ⟨_, _, _, rfl⟩
  have HF : Hid (rdI zs = (x, k, er)) := hf
  have hkn' : k ≤ n := by rw [hf] at hkn; exact hkn
  clear hf hR hB hkn hab
  by_cases hn : n = 0
  · subst hn
    have hk0 : k = 0 := by omega
    subst hk0
    clear hkn'
    go_enter Try.func20, Try.ntmps20
    go_wp2_with fail
    refine (rInt_any r g zs _ HR.out).mono ?_
    rw [HF.out]
    rintro e w1 ⟨rfl, hR1, hg1⟩
    have HR1 := hide hR1
    have HG1 := hide hg1
    clear hR1 hg1
    go_wp2_with fail
    refine (readInt_any a 0 c zs _ (HBA.out _ HG1.out)).mono ?_
    rw [HF.out]
    rintro e w2 ⟨rfl, rfl⟩
    go_wp2_with fail
    go_ret2
    exact ⟨_, _, _, rfl, Left.box ⟨0, Nat.le_refl _, tail_empty HN.out HM.out, HR1.out, HG1.out⟩⟩
  · obtain ⟨b, off, rfl, _, _⟩ := HB.out.at hn
    go_enter Try.func20, Try.ntmps20
    go_wp2_with fail
    refine (rInt_any r g zs _ HR.out).mono ?_
    rw [HF.out]
    rintro e w1 ⟨rfl, hR1, hg1⟩
    have HR1 := hide hR1
    have HG1 := hide hg1
    clear hR1 hg1
    go_wp2_with fail
    refine (readInt_any (some ⟨b, off, none⟩) n c zs _ (HBA.out _ HG1.out)).mono ?_
    rw [HF.out]
    rintro e w2 ⟨rfl, rfl⟩
    go_wp2_with fail
    all_goals go_ret2
    · exact ⟨_, _, _, rfl, Left.box ⟨k, hkn', tail_cut hkn' (by omega) (by omega) (.inl (by omega)), HR1.out, HG1.out⟩⟩
    · exact ⟨_, _, _, rfl, Left.box ⟨k, hkn', tail_cut hkn' (by omega) (by omega) (.inr rfl), HR1.out, HG1.out⟩⟩

set_option maxHeartbeats 4000000 in
set_option maxRecDepth 100000 in
theorem reads_byte (r g : Nat) (zs : List Int) (a : Option Addr) (n c : Nat) (N : Int) (w : World) (hR : Rd w r g zs) (hB : Bytes w a n c zs) (hab : ∀ x, a = some x → n ≠ 0 → x.block ≠ r) :
    Calls Try.prog 20 #[.pointer (some ⟨r, 0, none⟩), .slice a n c, .agg #[.int .i64 3, .int .i64 N]] w fun e w' => ∃ a' n' c', e = .returned (.tuple #[.slice a' n' c', .bool true]) ∧ Left w w' r g a n c zs a' n' c' := by
  have hmx : c ≤ 9223372036854775807 := by have := hB.max; unfold maxLen at this; omega
  have hle := hB.le
  have HN : Hid (a = none → c = 0) := hB.nil
  have HM : Hid (c ≤ maxLen) := hB.max
  have HL : Hid (zs.length = n) := hB.len
  have HR : Hid (Rd (w.alloc (.cells #[.int .i64 3, .int .i64 N] 42)) r g zs) := hR.later (below_alloc w _)
  have HB : Hid (Bytes w a n c zs) := hB
  have HBA : Hid (∀ wx, (w.alloc (.cells #[.int .i64 3, .int .i64 N] 42)).grownBy wx (some r) → Bytes wx a n c zs) := fun wx hx => (hB.later (below_alloc w _)).kept hx (fun x hx hn e => hab x hx hn (by simpa using e))
  cases zs with
  | nil =>
    have hl : 0 = n := HL.out
    subst hl
    clear hR hB hab
    go_enter Try.func20, Try.ntmps20
    go_wp2_with fail
    refine (rByte_none r g _ HR.out).mono ?_
    rintro e w1 ⟨rfl, rfl⟩
    go_wp2_with fail
    go_ret2
    exact ⟨_, _, _, rfl, Left.box ⟨0, Nat.le_refl _, Tail.refl _ _ _, HR.out, World.grownBy.refl _ _⟩⟩
  | cons y zs =>
    have hn : n ≠ 0 := by have := HL.out; simp at this; omega
    obtain ⟨b, off, rfl, _, hc⟩ := hB.at hn
    obtain ⟨hy0, hy1⟩ := hB.byte y (by simp)
    have HC : Hid (∀ wx, (w.alloc (.cells #[.int .i64 3, .int .i64 N] 42)).grownBy wx (some r) → wx.cell? ⟨b, off, none⟩ = some (.int .u8 y)) := fun wx hx => by
      obtain ⟨b', off', e, _, hc'⟩ := (HBA.out wx hx).at hn
      cases e
      simpa using hc' 0 (by omega)
    have hn0 : ((n : Int) == 0) = false := by simp; omega
    have hn1 : (1 : Int) ≤ (n : Int) := by omega
    have hn2 : (0 : Int) < (n : Int) := by omega
    have hcn : (1 : Int) ≤ (c : Int) := by omega
    clear hR hB hab hc
    go_enter Try.func20, Try.ntmps20
    go_wp2_with fail
    refine (rByte_some r g y zs _ HR.out).mono ?_
    rintro e w1 ⟨rfl, hR1, hg1⟩
    have HR1 := hide hR1
    have HG1 := hide hg1
    clear hR1 hg1
    have g0 := HC.out _ HG1.out
    go_wp2_with fail
    by_cases hc1 : c = 1
    · subst hc1
      obtain rfl : n = 1 := by omega
      go_quiet (fail)
      go_wp2_with fail
      go_ret2
      exact ⟨_, _, _, rfl, Left.box ⟨1, by omega, tail_cut (b := b) (off := off) (n := 1) (c := 1) (k := 1) (off' := off) (c' := 0) (by omega) (by omega) (by omega) (.inl (by omega)), rd_drewN HR1.out _, grown_drewN HG1.out _⟩⟩
    · go_quiet (fail)
      go_wp2_with fail
      go_ret2
      exact ⟨_, _, _, rfl, Left.box ⟨1, by omega, tail_cut (by omega) (by omega) (by omega) (.inr rfl), rd_drewN HR1.out _, grown_drewN HG1.out _⟩⟩

end Go.Proofs.Ytibaejoonmedjaa
