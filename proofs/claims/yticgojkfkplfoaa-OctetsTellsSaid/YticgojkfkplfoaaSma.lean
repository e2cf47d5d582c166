/- The small functions of octets: between, a word's add, taken, next, Clone. -/
import Derived.Test.YticgojkfkplfoaaBuf
import Derived.Test.YticgojkfkplfoaaOct
import Derived.RegionTactic
import Derived.ChangeAlike
namespace Go.Proofs.Yticgojkfkplfoaa
open Go.RowKit

set_option maxHeartbeats 400000 in
theorem between_any (n top : Int) (k : Nat) (w : World) (ht : 0 ≤ top) (hk : min (max n 0) top = (k : Int)) :
    Calls Try.prog 19 #[.int .i64 n, .int .i64 top] w fun e w' => e = .returned (.int .i64 (k : Int)) ∧ w = w' := by
  by_cases h0 : n < 0
  · have hk' : (k : Int) = 0 := by omega
    rw [hk']
    clear hk hk'
    go_enter Try.func19, Try.ntmps19
    go_wp2
    go_ret
    exact ⟨rfl, rfl⟩
  · by_cases h1 : top < n
    · have hk' : (k : Int) = top := by omega
      rw [hk']
      clear hk hk'
      go_enter Try.func19, Try.ntmps19
      go_wp2
      go_ret
      exact ⟨rfl, rfl⟩
    · have hk' : (k : Int) = n := by omega
      rw [hk']
      clear hk hk'
      go_enter Try.func19, Try.ntmps19
      go_wp2
      go_ret
      exact ⟨rfl, rfl⟩

/-- A word of 64 bits, of which k bytes are known. -/
def WordAt (w : World) (b : Nat) (x : Nat) (k : Nat) : Prop := w.heap[b]? = some (.cells #[.int .u64 (x : Int), .int .u64 ((8 * k : Nat) : Int)] 46 (0, 0))

theorem or_shift (x k : Nat) (c : UInt8) (hk : k < 8) (hx : x < 256 ^ k) :
    bits .or .u64 (x : Int) (IntKind.u64.wrap (IntKind.u64.wrap (c.toNat : Int) * 2 ^ (8 * k))) = ((x + 256 ^ k * c.toNat : Nat) : Int) := by
  have hc := c.toNat_lt
  have hp : (256 : Nat) ^ k = 2 ^ (8 * k) := by rw [Nat.pow_mul]
  have hpk : 256 ^ k * 256 ≤ 256 ^ 8 := by rw [← Nat.pow_succ]; exact Nat.pow_le_pow_right (by omega) hk
  have hm : 256 ^ k * c.toNat + 256 ^ k ≤ 256 ^ k * 256 := by rw [← Nat.mul_succ]; exact Nat.mul_le_mul_left _ hc
  have h8 : (256 : Nat) ^ 8 = 18446744073709551616 := by decide
  rw [IntKind.wrap_u64, IntKind.wrap_u64, Int.emod_eq_of_lt (a := (c.toNat : Int)) (by omega) (by omega)]
  have e : (c.toNat : Int) * 2 ^ (8 * k) = ((256 ^ k * c.toNat : Nat) : Int) := by
    rw [hp]; push_cast; rw [Int.mul_comm]
  rw [e, Int.emod_eq_of_lt (by omega) (by omega), bits_or_u64_nat _ _ (by omega) (by omega), Nat.or_comm, hp, ← Nat.two_pow_add_eq_or_of_lt (by rw [← hp]; exact hx), Nat.add_comm]

set_option maxHeartbeats 400000 in
theorem add_any (b x k : Nat) (c : UInt8) (w : World) (h : WordAt w b x k) (hk : k < 8) (hx : x < 256 ^ k) :
    Calls Try.prog 23 #[.pointer (some ⟨b, 0, none⟩), .int .u8 (c.toNat : Int)] w fun e w' => e = .returned (.tuple #[]) ∧ Touch (fun k => k = b) w w' ∧ WordAt w' b (x + 256 ^ k * c.toNat) (k + 1) := by
  have hc0 := cell_of_row w b 0 _ _ _ h
  have hc1 := cell_of_row w b 1 _ _ _ h
  have hf0 := frozen_of_row w b 0 _ _ h
  have hf1 := frozen_of_row w b 1 _ _ h
  simp only [List.getElem?_toArray, List.getElem?_cons_succ, List.getElem?_cons_zero] at hc0 hc1
  have HO := Lib.hid (or_shift x k c hk hx)
  have H := Lib.hid h
  clear h hx
  go_enter Try.func23, Try.ntmps23
  go_wp2
  go_region
  go_wp2
  go_end0
  refine ⟨rfl, (((Touch.refl (fun k => k = b) w).setCell (a := ⟨b, 0, none⟩) (.inl rfl) _).setCell (a := ⟨b, 1, none⟩) (.inl rfl) _).drew, ?_⟩
  show (((w.setCell ⟨b, 0, none⟩ _).setCell ⟨b, 1, none⟩ _).heap)[b]? = _
  rw [heap_setCell_same _ b 1 _ _ _ (heap_setCell_same w b 0 _ _ _ H.out), HO.out]
  simp
  omega

end Go.Proofs.Yticgojkfkplfoaa
