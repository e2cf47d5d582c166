/- The document's own answer: bit by bit, the highest power ahead. Condition: the bytes are read. -/
import Derived.Test.YtifdlkohddpmfaaDoorCut
namespace Go.Proofs.YtifdlkohddpmfaaDoor
open Go.RowKit

theorem or_nat (a b : Nat) (ha : a < 4294967296) (hb : b < 4294967296) : a ||| b = (a ^^^ b) + (a &&& b) := by
  have h := BitVec.add_eq_or_of_and_eq_zero (BitVec.ofNat 64 a ^^^ BitVec.ofNat 64 b) (BitVec.ofNat 64 a &&& BitVec.ofNat 64 b) (by
    apply BitVec.eq_of_getLsbD_eq; intro i hi
    simp only [BitVec.getLsbD_and, BitVec.getLsbD_xor, BitVec.getLsbD_zero]
    cases (BitVec.ofNat 64 a).getLsbD i <;> cases (BitVec.ofNat 64 b).getLsbD i <;> rfl)
  have h2 : (BitVec.ofNat 64 a ^^^ BitVec.ofNat 64 b) ||| (BitVec.ofNat 64 a &&& BitVec.ofNat 64 b) = BitVec.ofNat 64 a ||| BitVec.ofNat 64 b := by
    apply BitVec.eq_of_getLsbD_eq; intro i hi
    simp only [BitVec.getLsbD_and, BitVec.getLsbD_xor, BitVec.getLsbD_or]
    cases (BitVec.ofNat 64 a).getLsbD i <;> cases (BitVec.ofNat 64 b).getLsbD i <;> rfl
  rw [h2] at h
  have h3 := congrArg BitVec.toNat h
  have x1 : a ^^^ b < 2 ^ 32 := Nat.xor_lt_two_pow ha hb
  have x2 : a &&& b ≤ a := Nat.and_le_left
  rw [BitVec.toNat_add, BitVec.toNat_xor, BitVec.toNat_and, BitVec.toNat_or, BitVec.toNat_ofNat, BitVec.toNat_ofNat, Nat.mod_eq_of_lt (show a < 2 ^ 64 by omega), Nat.mod_eq_of_lt (show b < 2 ^ 64 by omega), Nat.mod_eq_of_lt (by omega)] at h3
  exact h3.symm
theorem ex_num (a b : Nat) (ha : a < 4294967296) (hb : b < 4294967296) : bits .or .u64 (a : Int) (b : Int) - bits .and .u64 (a : Int) (b : Int) = ((a ^^^ b : Nat) : Int) := by
  rw [bits_or_u64_nat a b (by omega) (by omega), bits_and_u64_nat a b (by omega) (by omega), or_nat a b ha hb]
  omega

set_option maxRecDepth 100000 in
set_option maxHeartbeats 1000000 in
theorem exclusive_any (a b : BitVec 32) (w : World) :
    Calls Tryd.prog 15 #[.int .u64 (num a), .int .u64 (num b)] w fun e w' => e = .returned (.int .u64 (num (a ^^^ b))) ∧ w = w' := by
  have h := ex_num a.toNat b.toNat a.isLt b.isLt
  rw [show ((a.toNat : Int)) = num a from rfl, show ((b.toNat : Int)) = num b from rfl, ← BitVec.toNat_xor, show (((a ^^^ b).toNat : Int)) = num (a ^^^ b) from rfl] at h
  have hr := num_range (a ^^^ b)
  generalize num (a ^^^ b) = c at h hr
  generalize num a = x at h
  generalize num b = y at h
  go_enter Tryd.func15, Tryd.ntmps15
  go_wp2
  have hw : IntKind.u64.wrap c = c := by rw [IntKind.wrap_u64]; omega
  go_ret
  exact ⟨by simp [h, hw], rfl⟩

theorem and_one (n : Nat) (h : n < 18446744073709551616) : bits .and .u64 (n : Int) 1 = ((n % 2 : Nat) : Int) := by
  have := bits_and_u64_nat n 1 h (by omega)
  rw [Nat.and_one_is_mod] at this
  exact this
theorem bit_of (n k : Nat) : n / 2 ^ k % 2 = (n.testBit k).toNat := by
  rw [Nat.testBit_eq_decide_div_mod_eq]
  rcases Nat.mod_two_eq_zero_or_one (n / 2 ^ k) with h | h <;> simp [h]
theorem top_num (X : BitVec 32) : num X / (2147483648 : Int) = ((X.getLsbD 31).toNat : Int) := by
  have h := bit_of X.toNat 31
  have : X.getLsbD 31 = X.toNat.testBit 31 := rfl
  rw [this, ← h]
  have := X.isLt
  unfold num; omega
theorem shl_num (X : BitVec 32) : bits .and .u64 (num X * 2) 4294967295 = num (X <<< 1) := by
  have h := bits_and_u64_nat (X.toNat * 2) 4294967295 (by have := X.isLt; omega) (by omega)
  have h2 : X.toNat * 2 &&& 4294967295 = (X <<< 1).toNat := by
    rw [show (4294967295 : Nat) = 2 ^ 32 - 1 from rfl, Nat.and_two_pow_sub_one_eq_mod, BitVec.toNat_shiftLeft, Nat.shiftLeft_eq]
  rw [h2] at h
  rw [← show (((X <<< 1).toNat : Nat) : Int) = num (X <<< 1) from rfl, ← h]
  unfold num; simp

theorem and_bit (n k : Nat) (h : n < 18446744073709551616) : bits .and .u64 ((n : Int) / 2 ^ k) 1 = ((n / 2 ^ k % 2 : Nat) : Int) := by
  have h1 : n / 2 ^ k ≤ n := Nat.div_le_self _ _
  rw [show ((n : Int) / 2 ^ k) = ((n / 2 ^ k : Nat) : Int) by simp]
  exact and_one _ (by omega)
/-- What one bit's round is. -/
theorem ref_facts (X : BitVec 32) (b : UInt8) (j : Nat) : ∃ (t c : Nat), t ≤ 1 ∧ c ≤ 1 ∧ num (Crc.ref8 X b j) / (2147483648 : Int) = (t : Int) ∧ bits .and .u64 ((b.toNat : Int) / 2 ^ j) 1 = (c : Int) ∧
    Crc.ref8 X b (j + 1) = (if t = c then Crc.ref8 X b j <<< 1 else Crc.ref8 X b j <<< 1 ^^^ Crc.polyT) := by
  have hb := and_bit b.toNat j (by have := b.toNat_lt; omega)
  rw [bit_of] at hb
  refine ⟨((Crc.ref8 X b j).getLsbD 31).toNat, (b.toNat.testBit j).toNat, Bool.toNat_le _, Bool.toNat_le _, top_num _, hb, ?_⟩
  show Crc.refB (Crc.ref8 X b j) (b.toNat.testBit j) = _
  unfold Crc.refB
  cases (Crc.ref8 X b j).getLsbD 31 <;> cases b.toNat.testBit j <;> simp
theorem told_facts (X : BitVec 32) (j : Nat) (h : j < 32) : ∃ B : Nat, B ≤ 1 ∧ bits .and .u64 (num X / 2 ^ j) 1 = (B : Int) ∧ Crc.told X.toNat (j + 1) = 2 * Crc.told X.toNat j + B ∧ Crc.told X.toNat j < 2147483648 := by
  refine ⟨X.toNat / 2 ^ j % 2, by omega, and_bit X.toNat j (by have := X.isLt; omega), rfl, ?_⟩
  have h1 := Crc.told_lt X.toNat j
  have h2 : 2 ^ j ≤ 2 ^ 31 := Nat.pow_le_pow_right (by omega) (by omega)
  omega

set_option maxRecDepth 100000 in
set_option maxHeartbeats 1000000 in
theorem ref_any (v : Value) (l : List UInt8) (g : Nat) (w : World) (h : Reads w v l g) (hl : l.length ≤ 4294967296) :
    Calls Tryd.prog 13 #[v] w fun e w' => e = .returned (.int .u32 (num (Crc.sum l))) ∧ w = w' := by
  obtain ⟨a, cap, rfl, hc⟩ : ∃ a cap, v = .slice a l.length cap ∧ (l ≠ [] → ∃ off, a = some ⟨g, off, none⟩ ∧ ∀ i (h : i < l.length), w.cell? ⟨g, off + i, none⟩ = some (byteV l[i])) := by
    obtain ⟨off, cap, ⟨rfl, h⟩ | ⟨⟨a, rfl⟩, rfl⟩⟩ := h
    · exact ⟨_, cap, rfl, fun _ => ⟨off, rfl, h⟩⟩
    · exact ⟨a, cap, rfl, fun h => absurd rfl h⟩
  have HC := Lib.hid hc
  clear hc h
  go_enter Tryd.func13, Tryd.ntmps13
  go_wp2
  go_loopw [3, 4] (fun x i wr => ∃ k : Nat, k ≤ l.length ∧ i = .int .i64 k ∧ x = .int .u64 (num (Crc.refRun (0xFFFFFFFF#32) (l.take k))) ∧ w = wr) (fun _ i _ => l.length - (intOf i).toNat)
  case atStart => exact ⟨0, Nat.zero_le _, rfl, rfl, rfl⟩
  case round =>
    obtain ⟨k, hk, rfl, rfl, rfl⟩ := hrel
    by_cases hlt : k < l.length
    · obtain ⟨off, rfl, hcs⟩ := HC.out (by rintro rfl; simp at hlt)
      have hck := hcs k hlt
      unfold byteV at hck
      have hup : Crc.refRun (0xFFFFFFFF#32) (l.take (k + 1)) = Crc.ref8 (Crc.refRun (0xFFFFFFFF#32) (l.take k)) l[k] 8 := by
        rw [List.take_succ_eq_append_getElem hlt, Crc.refRun, List.foldl_append]; rfl
      have HUP := Lib.hid hup
      generalize l[k] = b at hck HUP
      generalize Crc.refRun (0xFFFFFFFF#32) (l.take k) = X at HUP ⊢
      clear hcs hup
      go_wp2
      go_loopw [3, 5] (fun x i wr => ∃ j : Nat, j ≤ 8 ∧ i = .int .i64 j ∧ x = .int .u64 (num (Crc.ref8 X b j)) ∧ w = wr) (fun _ i _ => 8 - (intOf i).toNat)
      case atStart => exact ⟨0, by omega, rfl, rfl, rfl⟩
      case round =>
        obtain ⟨j, hj, rfl, rfl, rfl⟩ := hrel
        by_cases hlj : j < 8
        · obtain ⟨t, c, ht1, hc1, ht, hc, hnx⟩ := ref_facts X b j
          have HNX := Lib.hid hnx
          generalize Crc.ref8 X b j = Y at ht HNX ⊢
          have hwb : IntKind.u64.wrap (b.toNat : Int) = (b.toNat : Int) := by rw [IntKind.wrap_u64]; have := b.toNat_lt; omega
          have hwy : IntKind.u64.wrap (num Y * 2) = num Y * 2 := by rw [IntKind.wrap_u64]; have := num_range Y; omega
          have hsh := shl_num Y
          clear hnx
          by_cases htc : t = c
          · subst htc
            go_wp2
            go_roundw
            case rel => exact ⟨j + 1, by omega, by go_num, by rw [HNX.out, if_pos rfl], trivial⟩
            case measure => simp [intOf]; omega
          · have htb : ((t : Int) != (c : Int)) = true := by simp; omega
            have HE := Lib.hid (show ∀ W, Calls Tryd.prog 15 #[.int .u64 (num (Y <<< 1)), .int .u64 79764919] W fun e w' => e = .returned (.int .u64 (num (Y <<< 1 ^^^ Crc.polyT))) ∧ W = w' from fun W => exclusive_any (Y <<< 1) Crc.polyT W)
            go_wp2_with fail
            refine (HE.out _).mono ?_
            rintro e w1 ⟨rfl, rfl⟩
            go_wp2
            go_roundw
            case rel => exact ⟨j + 1, by omega, by go_num, by rw [HNX.out, if_neg htc], trivial⟩
            case measure => simp [intOf]; omega
        · obtain rfl : j = 8 := by omega
          go_wp2
          go_roundw
          case rel => exact ⟨k + 1, by omega, by go_num, by rw [HUP.out], trivial⟩
          case measure => simp [intOf]; omega
    · obtain rfl : k = l.length := by omega
      rw [List.take_length] at *
      have hfin := Crc.ref_sum l
      generalize Crc.refRun (0xFFFFFFFF#32) l = X at hfin ⊢
      have HFIN := Lib.hid hfin
      clear hfin
      go_wp2
      go_loopw [8, 9] (fun x i wr => ∃ j : Nat, j ≤ 32 ∧ i = .int .i64 j ∧ x = .int .u32 (Crc.told X.toNat j : Nat) ∧ w = wr) (fun _ i _ => 32 - (intOf i).toNat)
      case atStart => exact ⟨0, by omega, rfl, rfl, rfl⟩
      case round =>
        obtain ⟨j, hj, rfl, rfl, rfl⟩ := hrel
        by_cases hlj : j < 32
        · obtain ⟨B, hB1, hB, hT, hTl⟩ := told_facts X j hlj
          have HT := Lib.hid hT
          generalize Crc.told X.toNat j = T at HT hTl ⊢
          clear hT
          go_wp2
          go_roundw
          case rel => exact ⟨j + 1, by omega, by go_num, by rw [HT.out]; congr 1; push_cast; omega, trivial⟩
          case measure => simp [intOf]; omega
        · obtain rfl : j = 32 := by omega
          have hTl := Crc.told_lt X.toNat 32
          have HF := HFIN.out
          generalize Crc.told X.toNat 32 = T at HF hTl ⊢
          have hn : (4294967295 : Int) - (T : Int) = num (Crc.sum l) := by unfold num; omega
          clear HF
          go_wp2
          go_ret
          exact ⟨rfl, rfl⟩

end Go.Proofs.YtifdlkohddpmfaaDoor
