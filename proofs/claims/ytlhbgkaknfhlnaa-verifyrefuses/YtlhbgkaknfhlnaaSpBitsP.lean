/-
  The bitwise operators on whole numbers, digit by digit.
-/
import Derived.Test.YtlhbgkaknfhlnaaSpLow
namespace Go.Proofs.Ytlhbgkaknfhlnaa.Spn
open Go.RowKit Go.IntWalk
set_option linter.unusedVariables false

/-- The three operators. -/
abbrev Bop := Option Bool
abbrev Bop.and : Bop := none
abbrev Bop.or : Bop := some false
abbrev Bop.xor : Bop := some true
def Bop.op (o : Bop) : BinOp := match o with | none => .and | some false => .or | some true => .xor
def Bop.bv (o : Bop) (x y : BitVec 64) : BitVec 64 := match o with | none => x &&& y | some false => x ||| y | some true => x ^^^ y
def Bop.dig (o : Bop) (p q : Int) : Int := match o with | none => p * q | some false => p + q - p * q | some true => (p + q) % 2

def bw (o : Bop) (a b : Int) : Int := bits o.op .i64 a b

theorem bw_eq (o : Bop) (a b : Int) : bw o a b = (o.bv (BitVec.ofInt 64 a) (BitVec.ofInt 64 b)).toInt := by
  have h : bw o a b = IntKind.i64.wrap ((o.bv (BitVec.ofInt 64 a) (BitVec.ofInt 64 b)).toNat : Int) := by rcases o with _ | _ | _ <;> rfl
  rw [h]
  generalize o.bv (BitVec.ofInt 64 a) (BitVec.ofInt 64 b) = z
  have h1 := z.isLt
  rw [BitVec.toInt_eq_toNat_cond]
  simp [IntKind.wrap, IntKind.bits, IntKind.signed]
  split <;> omega

theorem half_bv (z : BitVec 64) : z.toInt = (z.toNat % 2 : Nat) + 2 * (z.sshiftRight 1).toInt := by
  rw [BitVec.toInt_sshiftRight, Int.shiftRight_eq_div_pow, BitVec.toInt_eq_toNat_cond]
  split <;> omega

theorem half_ofInt (a : Int) (ha : -9223372036854775808 ≤ a ∧ a ≤ 9223372036854775807) : (BitVec.ofInt 64 a).sshiftRight 1 = BitVec.ofInt 64 (a / 2) := by
  apply BitVec.eq_of_toInt_eq
  rw [BitVec.toInt_sshiftRight, Int.shiftRight_eq_div_pow, BitVec.toInt_ofInt, BitVec.toInt_ofInt]
  simp only [Int.bmod]
  omega

theorem bit_ofInt (a : Int) : (((BitVec.ofInt 64 a).toNat % 2 : Nat) : Int) = a % 2 := by
  rw [BitVec.toNat_ofInt]
  omega

theorem dig_nat (o : Bop) (x y : BitVec 64) : (((o.bv x y).toNat % 2 : Nat) : Int) = o.dig ((x.toNat % 2 : Nat) : Int) ((y.toNat % 2 : Nat) : Int) := by
  have hx : x.toNat % 2 = 0 ∨ x.toNat % 2 = 1 := by omega
  have hy : y.toNat % 2 = 0 ∨ y.toNat % 2 = 1 := by omega
  rcases o with _ | _ | _
  · have h : (x.toNat &&& y.toNat) % 2 = (x.toNat % 2) * (y.toNat % 2) := by
      have h1 := Nat.and_mod_two_eq_one (a := x.toNat) (b := y.toNat)
      rcases hx with hx | hx <;> rcases hy with hy | hy <;> rw [hx, hy] at h1 ⊢ <;> omega
    show (((x &&& y).toNat % 2 : Nat) : Int) = _
    rw [BitVec.toNat_and, h]
    rcases hx with hx | hx <;> rcases hy with hy | hy <;> rw [hx, hy] <;> decide
  · have h : (x.toNat ||| y.toNat) % 2 = x.toNat % 2 + y.toNat % 2 - (x.toNat % 2) * (y.toNat % 2) := by
      have h1 := Nat.or_mod_two_eq_one (a := x.toNat) (b := y.toNat)
      rcases hx with hx | hx <;> rcases hy with hy | hy <;> rw [hx, hy] at h1 ⊢ <;> omega
    show (((x ||| y).toNat % 2 : Nat) : Int) = _
    rw [BitVec.toNat_or, h]
    rcases hx with hx | hx <;> rcases hy with hy | hy <;> rw [hx, hy] <;> decide
  · have h : (x.toNat ^^^ y.toNat) % 2 = (x.toNat % 2 + y.toNat % 2) % 2 := by
      have h1 := Nat.xor_mod_two_eq_one (a := x.toNat) (b := y.toNat)
      rcases hx with hx | hx <;> rcases hy with hy | hy <;> rw [hx, hy] at h1 ⊢ <;> omega
    show (((x ^^^ y).toNat % 2 : Nat) : Int) = _
    rw [BitVec.toNat_xor, h]
    rcases hx with hx | hx <;> rcases hy with hy | hy <;> rw [hx, hy] <;> decide

theorem shr_bv (o : Bop) (x y : BitVec 64) : (o.bv x y).sshiftRight 1 = o.bv (x.sshiftRight 1) (y.sshiftRight 1) := by
  rcases o with _ | _ | _
  · exact BitVec.sshiftRight_and_distrib ..
  · exact BitVec.sshiftRight_or_distrib ..
  · exact BitVec.sshiftRight_xor_distrib ..

theorem bw_step (o : Bop) (a b : Int) (ha : -9223372036854775808 ≤ a ∧ a ≤ 9223372036854775807) (hb : -9223372036854775808 ≤ b ∧ b ≤ 9223372036854775807) :
    bw o a b = o.dig (a % 2) (b % 2) + 2 * bw o (a / 2) (b / 2) := by
  rw [bw_eq, bw_eq, half_bv, shr_bv, half_ofInt a ha, half_ofInt b hb, dig_nat, bit_ofInt, bit_ofInt]

theorem two_dig (a : Int) : a % 2 = 0 ∨ a % 2 = 1 := by omega

end Go.Proofs.Ytlhbgkaknfhlnaa.Spn
