/-
  Steps of a script: what each writes; the slice of steps in memory; the walk of puts.
-/
import Derived.Test.YtkmhdkeneggceaaTwo
import Derived.Test.YtkmhdkeneggceaaReader2
namespace Go.Proofs.Ytkmhdkeneggceaa
open Go.RowKit Bt
set_option linter.unusedVariables false

structure Stp where
  o : Bool
  n : Int
  d : Int
deriving Inhabited

/-- The step is one that may be. -/
def Stp.ok (s : Stp) : Bool := if s.o then decide (0 ≤ s.d ∧ s.d ≤ 64 ∧ 0 ≤ s.n ∧ s.n ≤ s.d) else decide (0 ≤ s.d ∧ s.d ≤ 32 ∧ 0 ≤ s.n ∧ s.n < 2 ^ s.d.toNat)
/-- What it writes. -/
def Stp.made (s : Stp) : List Int := if s.ok then if s.o then runs s.n.toNat s.d.toNat else binw s.n s.d.toNat else []
def Stp.err (s : Stp) : Int := if s.ok then 0 else 1

theorem runs_len (n m : Nat) : (runs n m).length = n + if n < m then 1 else 0 := by unfold runs; split <;> simp

theorem Stp.made_bin (s : Stp) : Bin s.made := by
  unfold Stp.made
  split
  · split
    · exact runs_bin _ _
    · exact binw_bin _ _
  · intro b hb; cases hb

theorem Stp.made_len (s : Stp) : s.made.length ≤ 65 := by
  unfold Stp.made
  split
  · rename_i h
    unfold Stp.ok at h
    split
    · rename_i ho
      rw [if_pos ho] at h
      have h := of_decide_eq_true h
      rw [runs_len]; split <;> omega
    · rename_i ho
      rw [if_neg ho] at h
      have h := of_decide_eq_true h
      rw [binw_len]; omega
  · simp

abbrev Stp.cells (s : Stp) : List Value := [.bool s.o, .int .i64 s.n, .int .i64 s.d]

/-- The slice (a, n) of steps. -/
structure Script (w : World) (a : Option Addr) (n : Nat) (S : Nat → Stp) : Prop where
  max : n ≤ 9223372036854775807
  cell : n = 0 ∨ ∃ b off, a = some ⟨b, off, none⟩ ∧ b < w.heap.size ∧ ∀ i, i < n → w.cell? ⟨b, off + i * 3, none⟩ = some (.bool (S i).o) ∧ w.cell? ⟨b, off + i * 3 + 1, none⟩ = some (.int .i64 (S i).n) ∧ w.cell? ⟨b, off + i * 3 + 2, none⟩ = some (.int .i64 (S i).d)

theorem Script.at {w : World} {a : Option Addr} {n : Nat} {S : Nat → Stp} (h : Script w a n S) (hn : n ≠ 0) :
    ∃ b off, a = some ⟨b, off, none⟩ ∧ b < w.heap.size ∧ ∀ i, i < n → w.cell? ⟨b, off + i * 3, none⟩ = some (.bool (S i).o) ∧ w.cell? ⟨b, off + i * 3 + 1, none⟩ = some (.int .i64 (S i).n) ∧ w.cell? ⟨b, off + i * 3 + 2, none⟩ = some (.int .i64 (S i).d) := by
  rcases h.cell with h0 | h
  · exact absurd h0 hn
  · exact h

theorem Script.below {w w' : World} {a : Option Addr} {n : Nat} {S : Nat → Stp} (h : Script w a n S) (hb : Below w.heap.size w w') : Script w' a n S := by
  refine ⟨h.max, ?_⟩
  by_cases h0 : n = 0
  · exact .inl h0
  · obtain ⟨b, off, ha, hlt, hc⟩ := h.at h0
    refine .inr ⟨b, off, ha, Nat.lt_of_lt_of_le hlt hb.size, fun i hi => ?_⟩
    obtain ⟨c0, c1, c2⟩ := hc i hi
    exact ⟨(hb.cell (p := ⟨b, off + i * 3, none⟩) hlt).trans c0, (hb.cell (p := ⟨b, off + i * 3 + 1, none⟩) hlt).trans c1, (hb.cell (p := ⟨b, off + i * 3 + 2, none⟩) hlt).trans c2⟩

theorem Stp.ok_ones {s : Stp} (ho : s.o = true) : s.ok = decide (0 ≤ s.d ∧ s.d ≤ 64 ∧ 0 ≤ s.n ∧ s.n ≤ s.d) := by unfold Stp.ok; rw [if_pos ho]
theorem Stp.ok_plain {s : Stp} (ho : s.o = false) : s.ok = decide (0 ≤ s.d ∧ s.d ≤ 32 ∧ 0 ≤ s.n ∧ s.n < 2 ^ s.d.toNat) := by unfold Stp.ok; rw [if_neg (by simp [ho])]

/-- A step of a run. -/
theorem ones_step (base r : Nat) (v : Value) (bs : List Int) (s : Stp) (ho : s.o = true) (w : World) (hW : Wr base w r v bs) (hlen : bs.length + 128 < 1125899906842624) :
    Calls Try.prog 30 #[.pointer (some ⟨r, 0, none⟩), .int .i64 s.n, .int .i64 s.d] w fun e w' => e = .returned (.int .i64 s.err) ∧ ∃ v', Wr base w' r v' (bs ++ s.made) ∧ Goes w w' r v v' := by
  by_cases h : 0 ≤ s.d ∧ s.d ≤ 64 ∧ 0 ≤ s.n ∧ s.n ≤ s.d
  · have hk : s.ok = true := by rw [Stp.ok_ones ho]; exact decide_eq_true h
    obtain ⟨n, hn⟩ := Int.eq_ofNat_of_zero_le h.2.2.1
    obtain ⟨d, hd⟩ := Int.eq_ofNat_of_zero_le h.1
    have e1 : s.err = 0 := by unfold Stp.err; rw [if_pos hk]
    have e2 : s.made = runs n d := by unfold Stp.made; rw [if_pos hk, if_pos ho, hn, hd]; rfl
    rw [e1, e2, hn, hd]
    exact ones_ok base r v bs n d w hW (by omega) (by omega) hlen
  · have hk : s.ok = false := by rw [Stp.ok_ones ho]; exact decide_eq_false h
    have e1 : s.err = 1 := by unfold Stp.err; simp [hk]
    have e2 : s.made = [] := by unfold Stp.made; simp [hk]
    rw [e1, e2, List.append_nil]
    refine (ones_bad (some ⟨r, 0, none⟩) s.n s.d w (.inr (by omega))).mono ?_
    rintro e w' ⟨rfl, rfl⟩
    exact ⟨rfl, v, hW, Goes.refl ..⟩

/-- A step of a number. -/
theorem put_step (base r : Nat) (v : Value) (bs : List Int) (s : Stp) (ho : s.o = false) (w : World) (hW : Wr base w r v bs) (hlen : bs.length + 128 < 1125899906842624) :
    Calls Try.prog 29 #[.pointer (some ⟨r, 0, none⟩), .int .i64 s.n, .int .i64 s.d] w fun e w' => e = .returned (.int .i64 s.err) ∧ ∃ v', Wr base w' r v' (bs ++ s.made) ∧ Goes w w' r v v' := by
  by_cases h : 0 ≤ s.d ∧ s.d ≤ 32 ∧ 0 ≤ s.n ∧ s.n < 2 ^ s.d.toNat
  · have hk : s.ok = true := by rw [Stp.ok_plain ho]; exact decide_eq_true h
    obtain ⟨d, hd⟩ := Int.eq_ofNat_of_zero_le h.1
    have e1 : s.err = 0 := by unfold Stp.err; rw [if_pos hk]
    have e2 : s.made = binw s.n d := by unfold Stp.made; rw [if_pos hk, if_neg (by simp [ho]), hd]; rfl
    rw [hd] at h
    rw [e1, e2, hd]
    exact put_ok base r v bs s.n d w hW (by omega) h.2.2.1 (by simpa using h.2.2.2) (by omega)
  · have hk : s.ok = false := by rw [Stp.ok_plain ho]; exact decide_eq_false h
    have e1 : s.err = 1 := by unfold Stp.err; simp [hk]
    have e2 : s.made = [] := by unfold Stp.made; simp [hk]
    rw [e1, e2, List.append_nil]
    refine (put_bad (some ⟨r, 0, none⟩) s.n s.d w ?_).mono ?_
    · right
      generalize (2 : Int) ^ s.d.toNat = X at *
      omega
    · rintro e w' ⟨rfl, rfl⟩
      exact ⟨rfl, v, hW, Goes.refl ..⟩

theorem owns_mono {B base e size n : Nat} {w : World} {v : Value} {xs : List Value} (h : w.ownsRow base e size v n xs) (hB : B ≤ base) : w.ownsRow B e size v n xs := by
  obtain ⟨h1, h2⟩ := h
  refine ⟨h1, ?_⟩
  rcases h2 with h2 | ⟨g, cap, cur, hv, hg, r⟩
  · exact .inl h2
  · exact .inr ⟨g, cap, cur, hv, Nat.le_trans hB hg, r⟩
theorem Rd.mono {B base : Nat} {w : World} {r : Nat} {v : Value} {zs : List Int} {at' : Nat} (h : Rd base w r v zs at') (hB : B ≤ base) : Rd B w r v zs at' :=
  ⟨h.heap, owns_mono h.own hB, Nat.le_trans hB h.base, h.byte, h.le, h.short⟩

theorem Goes.after {w w1 w2 : World} {r : Nat} {v v' : Value} (hb : Below w.heap.size w w1) (h : Goes w1 w2 r v v') : Goes w w2 r v v' :=
  ⟨(Keeps.of_below (S := Its r v) hb (fun k hk h' => by omega)).trans h.keeps (fun k hk => .inl hk), fun g hg => by
    rcases h.own g hg with h' | h'
    · exact .inl h'
    · exact .inr (Nat.le_trans hb.size h')⟩

set_option maxHeartbeats 1000000 in
theorem puts_any (base r : Nat) (v : Value) (bs : List Int) (s : Stp) (w : World) (hW : Wr base w r v bs) (hlen : bs.length + 128 < 1125899906842624) :
    Calls Try.prog 11 #[.pointer (some ⟨r, 0, none⟩), .agg #[.bool s.o, .int .i64 s.n, .int .i64 s.d]] w fun e w' => e = .returned (.int .i64 s.err) ∧ ∃ v', Wr base w' r v' (bs ++ s.made) ∧ Goes w w' r v v' := by
  have hB : Below w.heap.size w (w.alloc (.cells #[.bool s.o, .int .i64 s.n, .int .i64 s.d] 30)) := (Below.refl _ _).alloc (Nat.le_refl _) _
  have HB := hide hB
  have HW := hide (hW.later hB)
  clear hB hW
  cases ho : s.o with
  | true =>
    rw [ho] at HB HW
    go_enter Try.func11, Try.ntmps11
    go_wp2_with fail
    refine (ones_step base r v bs s ho _ HW.out hlen).mono ?_
    rintro e w1 ⟨rfl, v', hW1, hG1⟩
    have HW1 := hide hW1
    have HG1 := hide (Goes.after HB.out hG1)
    clear hW1 hG1
    go_wp2_with fail
    go_ret
    exact ⟨rfl, v', HW1.out, HG1.out⟩
  | false =>
    rw [ho] at HB HW
    go_enter Try.func11, Try.ntmps11
    go_wp2_with fail
    refine (put_step base r v bs s ho _ HW.out hlen).mono ?_
    rintro e w1 ⟨rfl, v', hW1, hG1⟩
    have HW1 := hide hW1
    have HG1 := hide (Goes.after HB.out hG1)
    clear hW1 hG1
    go_wp2_with fail
    go_ret
    exact ⟨rfl, v', HW1.out, HG1.out⟩

end Go.Proofs.Ytkmhdkeneggceaa
