/-
  How many bits a number has: math/bits.Len64 and Len at numbers of 31 bits, span.width.
-/
import Derived.Test.YtlhbgkaknfhlnaaSpSp
import Derived.Test.YtlhbgkaknfhlnaaSpBitsF
import Derived.Lib.BitFns
namespace Go.Proofs.Ytlhbgkaknfhlnaa.Spn
open Go.RowKit Go.IntWalk
set_option linter.unusedVariables false

theorem bitLen_gt (k : Nat) : ∀ x : Nat, x < 2 ^ k → k ≤ 63 → x < 2 ^ Lib.bitLen x := by
  induction k with
  | zero =>
    intro x h _
    obtain rfl : x = 0 := by simp at h; omega
    decide
  | succ k ih =>
    intro x h hk
    by_cases h0 : x = 0
    · subst h0; decide
    · have hp : 2 ^ (k + 1) ≤ 2 ^ 63 := Nat.pow_le_pow_right (by decide) hk
      have h1 := ih (x / 2) (by rw [Nat.pow_succ] at h; omega) (by omega)
      rw [Lib.bitLen_half x h0 (by omega), Nat.add_comm, Nat.pow_succ]
      omega

theorem tab_all : ∀ n : Fin 256, (Lib.len8tab[n.val]'(Nat.lt_of_lt_of_le n.isLt (by decide +kernel))).toNat = Lib.bitLen n.val := by decide +kernel
theorem tab_of (n : Nat) (hn : n < 256) (h : n < Lib.len8tab.size) : (Lib.len8tab[n]'h).toNat = Lib.bitLen n := tab_all ⟨n, hn⟩

set_option maxRecDepth 100000 in
set_option maxHeartbeats 4000000 in
set_option maxRecDepth 100000 in
theorem len64_any (x : Int) (w : World) (h : 0 ≤ x ∧ x ≤ 2147483647) :
    Calls Try.prog 74 #[.int .u64 x] w fun e w' => e = .returned (.int .i64 (Lib.bitLen x.toNat)) ∧ w' = w := by
  have hs : Lib.len8tab.size = 256 := by decide +kernel
  rcases (show x < 256 ∨ (256 ≤ x ∧ x < 65536) ∨ (65536 ≤ x ∧ x < 16777216) ∨ 16777216 ≤ x by omega) with g | g | g | g
  · go_enter Try.func74, Try.ntmps74
    go_wp2
    go_ret
    refine ⟨ret_int ?_, rfl⟩
    rw [tab_of x.toNat (by omega)]
    have l := Lib.bitLen_le x.toNat 31 (by decide) (by omega)
    unfold wrap64
    omega
  · go_enter Try.func74, Try.ntmps74
    go_wp2
    go_ret
    refine ⟨ret_int ?_, rfl⟩
    rw [tab_of (x / 256).toNat (by omega)]
    have l := Lib.bitLen_le x.toNat 31 (by decide) (by omega)
    have s := Lib.bitLen_shift8 x.toNat (by omega) (by omega)
    rw [show (x / 256).toNat = x.toNat / 256 by omega]
    unfold wrap64
    omega
  · go_enter Try.func74, Try.ntmps74
    go_wp2
    go_ret
    refine ⟨ret_int ?_, rfl⟩
    rw [tab_of (x / 65536).toNat (by omega)]
    have l := Lib.bitLen_le x.toNat 31 (by decide) (by omega)
    have s := Lib.bitLen_shift16 x.toNat (by omega) (by omega)
    rw [show (x / 65536).toNat = x.toNat / 65536 by omega]
    unfold wrap64
    omega
  · go_enter Try.func74, Try.ntmps74
    go_wp2
    go_ret
    refine ⟨ret_int ?_, rfl⟩
    rw [tab_of (x / 65536 / 256).toNat (by omega)]
    have l := Lib.bitLen_le x.toNat 31 (by decide) (by omega)
    have s := Lib.bitLen_shift24 x.toNat (by omega) (by omega)
    rw [show (x / 65536 / 256).toNat = x.toNat / 16777216 by omega]
    unfold wrap64
    omega

theorem len_any (x : Int) (w : World) (h : 0 ≤ x ∧ x ≤ 2147483647) :
    Calls Try.prog 72 #[.int .u64 x] w fun e w' => e = .returned (.int .i64 (Lib.bitLen x.toNat)) ∧ w' = w := by
  go_enter Try.func72, Try.ntmps72
  go_wp2_with (go_at_call 74; refine (len64_any x _ h).mono ?_; rintro e w' ⟨rfl, rfl⟩)
  go_ret
  exact ⟨rfl, rfl⟩

/-- How many bits a number has beside its sign. -/
def wdN (x : Int) : Nat := Lib.bitLen (if x < 0 then -x - 1 else x).toNat
def wdZ (x : Int) : Int := (wdN x : Nat)
theorem wdN_facts {x : Int} (h : -2147483648 ≤ x ∧ x ≤ 2147483647) : wdN x ≤ 31 ∧ -(2 ^ wdN x : Nat) ≤ x ∧ x < (2 ^ wdN x : Nat) := by
  unfold wdN
  have h1 := Lib.bitLen_le (if x < 0 then -x - 1 else x).toNat 31 (by decide) (by split <;> omega)
  have h2 := bitLen_gt 31 (if x < 0 then -x - 1 else x).toNat (by split <;> omega) (by decide)
  revert h1 h2
  generalize Lib.bitLen (if x < 0 then -x - 1 else x).toNat = m
  intro h1 h2
  refine ⟨h1, ?_⟩
  generalize 2 ^ m = P at *
  split at h2 <;> omega
theorem wdN_least {x : Int} {n : Nat} (hn : n ≤ 62) (h : -(2 ^ n : Nat) ≤ x ∧ x < (2 ^ n : Nat)) : wdN x ≤ n := by
  unfold wdN
  refine Lib.bitLen_le _ _ (by omega) ?_
  generalize 2 ^ n = P at *
  split <;> omega

theorem bw_turn' {a : Int} (ha : -2147483648 ≤ a ∧ a ≤ 2147483647) : bw .xor (-1) a = -a - 1 := by
  have h := bw_32 (fun b a => b = -1 → bw .xor b a = -a - 1) (fun h => by cases h) (fun h => by cases h) (fun _ => by decide) (fun _ => by decide) (by
    intro b a hb ha h e
    subst e
    have h1 := h (by decide)
    rw [show ((-1 : Int) / 2) = -1 by decide] at h1
    show bw .xor (-1) a = -a - 1
    rw [bw_step .xor (-1) a (by omega) ha, show ((-1 : Int) / 2) = -1 by decide, h1]
    simp only [Bop.dig]
    omega) (show -2147483648 ≤ (-1 : Int) ∧ (-1 : Int) ≤ 2147483647 by decide) ha
  exact h rfl

theorem width_any (x : Int) (w : World) (h : -2147483648 ≤ x ∧ x ≤ 2147483647) :
    Calls Try.prog 69 #[.int .i64 x] w fun e w' => e = .returned (.int .i64 (wdZ x)) ∧ w' = w := by
  by_cases h0 : x < 0
  · have hl := fun w => len_any (-x - 1) w (by omega)
    have hx : bits BinOp.xor IntKind.i64 (-1) x = -x - 1 := bw_turn' h
    have hk : wdZ x = Lib.bitLen (-x - 1).toNat := by simp [wdZ, wdN, h0]
    rw [hk]
    clear hk
    generalize hy : -x - 1 = y at *
    have hy0 : 0 ≤ y ∧ y ≤ 2147483647 := by omega
    clear hy
    have hu : IntKind.u64.wrap y = y := by simp [IntKind.wrap, IntKind.bits, IntKind.signed]; omega
    go_enter Try.func69, Try.ntmps69
    go_wp2_with fail
    refine (hl _).mono ?_
    rintro e w' ⟨rfl, rfl⟩
    go_wp2_with fail
    go_ret
    exact ⟨rfl, rfl⟩
  · have hl := fun w => len_any x w (by omega)
    go_enter Try.func69, Try.ntmps69
    go_wp2_with (go_at_call 72; refine (hl _).mono ?_; rintro e w' ⟨rfl, rfl⟩)
    go_ret
    exact ⟨ret_int (by simp [wdZ, wdN]; rw [if_neg (by omega)]), rfl⟩

end Go.Proofs.Ytlhbgkaknfhlnaa.Spn
