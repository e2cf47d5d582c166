/- Masks: x & (2^j - 1) is x % 2^j, at every int. -/
import Derived.Test.YthapggobpfcmjaaGreatMem
namespace Go.Proofs.YthapggobpfcmjaaGreat
open Go.RowKit

theorem and_mask_i64 (x : Int) (j : Nat) (hj : j ≤ 62) : bits .and .i64 x ((2 ^ j - 1 : Nat) : Int) = ((x % 18446744073709551616).toNat % 2 ^ j : Nat) := by
  have hp : 2 ^ j ≤ 2 ^ 62 := Nat.pow_le_pow_right (by omega) hj
  have hp0 : 0 < 2 ^ j := Nat.pow_pos (by omega)
  have h1 : (BitVec.ofInt 64 x).toNat = (x % 18446744073709551616).toNat := by
    rw [BitVec.toNat_ofInt]; rfl
  have h2 : (BitVec.ofInt 64 ((2 ^ j - 1 : Nat) : Int)).toNat = 2 ^ j - 1 := by
    rw [BitVec.ofInt_natCast, BitVec.toNat_ofNat]; exact Nat.mod_eq_of_lt (by omega)
  show IntKind.i64.wrap ((BitVec.ofInt 64 x &&& BitVec.ofInt 64 ((2 ^ j - 1 : Nat) : Int)).toNat : Int) = _
  rw [BitVec.toNat_and, h1, h2, Nat.and_two_pow_sub_one_eq_mod, IntKind.wrap_i64]
  have := Nat.mod_lt (x % 18446744073709551616).toNat hp0
  omega

theorem and_1023 (x : Int) : bits .and .i64 x 1023 = x % 1024 := by
  have := and_mask_i64 x 10 (by omega)
  simp only [Nat.reducePow, Nat.reduceSub] at this
  rw [show ((1023 : Nat) : Int) = 1023 from rfl] at this
  rw [this]; omega
theorem and_65535 (x : Int) : bits .and .i64 x 65535 = x % 65536 := by
  have := and_mask_i64 x 16 (by omega)
  simp only [Nat.reducePow, Nat.reduceSub] at this
  rw [show ((65535 : Nat) : Int) = 65535 from rfl] at this
  rw [this]; omega

end Go.Proofs.YthapggobpfcmjaaGreat
