/- Numbers of 32 and 64 bits: the model's integers and BitVec. No condition. -/
import Derived.Test.YtifdlkohddpmfaaDoorCrc
import Derived.WalkKit
import Derived.Laws.Entries
import Derived.Laws.Bits64b
import Derived.Laws.BitsAllLaws
namespace Go.Proofs.YtifdlkohddpmfaaDoor
/-- A number of 32 bits as the model's integer. -/
def num (x : BitVec 32) : Int := (x.toNat : Int)
theorem num_range (x : BitVec 32) : 0 ≤ num x ∧ num x < 4294967296 := by
  have := x.isLt
  unfold num; omega
theorem num_inj {x y : BitVec 32} (h : num x = num y) : x = y := BitVec.eq_of_toNat_eq (by unfold num at h; omega)
theorem num_beq (x y : BitVec 32) : (num x == num y) = (x == y) := by
  by_cases h : x = y
  · subst h; simp
  · have h' : num x ≠ num y := fun e => h (num_inj e)
    rw [beq_eq_false_iff_ne.2 h, beq_eq_false_iff_ne.2 h']
theorem ofInt_num (x : BitVec 32) : BitVec.ofInt 32 (num x) = x := by
  unfold num; rw [BitVec.ofInt_natCast, BitVec.ofNat_toNat, BitVec.setWidth_eq]
theorem wrap_num (x : BitVec 32) : IntKind.u32.wrap (x.toNat : Int) = num x := by
  rw [IntKind.wrap_u32']
  have := x.isLt
  unfold num; omega
theorem xor_num (x y : BitVec 32) : bits .xor .u32 (num x) (num y) = num (x ^^^ y) := by
  show IntKind.u32.wrap ((BitVec.ofInt 32 (num x) ^^^ BitVec.ofInt 32 (num y)).toNat : Int) = _
  rw [ofInt_num, ofInt_num]; exact wrap_num _
theorem and_num (x y : BitVec 32) : bits .and .u32 (num x) (num y) = num (x &&& y) := by
  show IntKind.u32.wrap ((BitVec.ofInt 32 (num x) &&& BitVec.ofInt 32 (num y)).toNat : Int) = _
  rw [ofInt_num, ofInt_num]; exact wrap_num _
theorem not_num (x : BitVec 32) : bits .xor .u32 IntKind.u32.max (num x) = num (~~~ x) := by
  have h := xor_num (BitVec.allOnes 32) x
  rw [BitVec.allOnes_xor] at h
  exact h
theorem shr_num (x : BitVec 32) (k : Nat) : num x / 2 ^ k = num (x >>> k) := by
  unfold num
  rw [BitVec.toNat_ushiftRight, Nat.shiftRight_eq_div_pow]
  simp
theorem xor_byte (x : BitVec 32) (b : UInt8) : bits .xor .u32 (num x) (b.toNat : Int) = num (x ^^^ Crc.wide b) := by
  rw [← xor_num]; congr 1
theorem and_15 (x : BitVec 32) : bits .and .u32 (num x) 15 = num (x &&& 15#32) := and_num x 15#32
theorem shr4_num (x : BitVec 32) : num x / (16 : Int) = num (x >>> 4) := shr_num x 4
theorem and_15_lt (x : BitVec 32) : (x &&& 15#32).toNat < 16 := by
  rw [BitVec.toNat_and]
  have : x.toNat &&& (15#32).toNat ≤ (15#32).toNat := Nat.and_le_right
  have h : (15#32).toNat = 15 := rfl
  omega

/-- What stands in the table. -/
def half : List Int := (List.range 16).map fun i => num (Crc.nib (BitVec.ofNat 32 i))
theorem half_at (x : BitVec 32) : half[(x &&& 15#32).toNat]? = some (num (Crc.nib (x &&& 15#32))) := by
  have h := and_15_lt x
  unfold half
  rw [List.getElem?_map, List.getElem?_range h]
  simp
theorem half_step (x : BitVec 32) : Crc.nib x = (x >>> 4) ^^^ Crc.nib (x &&& 15#32) := by
  rw [BitVec.xor_comm]; exact Crc.nib_mask x

end Go.Proofs.YtifdlkohddpmfaaDoor
