/- CrcCut: three bytes within. -/
import Derived.Test.YtifdlkohddpmfaaDoorSli
namespace Go.Proofs.YtifdlkohddpmfaaDoor
open Go.RowKit

theorem low_num (X : BitVec 32) : num X % (256 : Int) = ((Crc.low X).toNat : Int) := by
  rw [Crc.low_toNat]; unfold num; omega
theorem low8_num (X : BitVec 32) : num X / (256 : Int) % (256 : Int) = ((Crc.low (X >>> 8)).toNat : Int) := by
  rw [Crc.low_shr]; unfold num; omega
theorem low16_num (X : BitVec 32) : num X / (65536 : Int) % (256 : Int) = ((Crc.low (X >>> 16)).toNat : Int) := by
  rw [Crc.low_shr]; unfold num; omega
theorem low24_num (X : BitVec 32) : num X / (16777216 : Int) % (256 : Int) = ((Crc.low (X >>> 24)).toNat : Int) := by
  rw [Crc.low_shr]; unfold num; omega
theorem of_u32 {x : Int} (h : (Lit.int .u32 x).wf = true) : ∃ X : BitVec 32, x = num X := by
  have h' : 0 ≤ x ∧ x ≤ 4294967295 := by simpa [Lit.wf, IntKind.min, IntKind.max, IntKind.signed, IntKind.bits] using h
  refine ⟨BitVec.ofInt 32 x, ?_⟩
  unfold num
  rw [BitVec.toNat_ofInt]
  omega

theorem three_row' (X : BitVec 32) : #[.int .u8 ((Crc.low X).toNat : Int), .int .u8 ((Crc.low (X >>> 8)).toNat : Int), .int .u8 ((Crc.low (X >>> 16)).toNat : Int)] = rowA (Crc.three X) := rfl
theorem cut_fin (s : BitVec 32) (q : List UInt8) (X Y : BitVec 32) : (num (Crc.more (Crc.more s (Crc.three X)) q) == num (Crc.more (Crc.more s (Crc.three Y)) q)) = (num (X &&& 16777215#32) == num (Y &&& 16777215#32)) := by
  rw [num_beq, num_beq, Bool.eq_iff_iff, beq_iff_eq, beq_iff_eq, Crc.more_three]

set_option maxRecDepth 100000 in
set_option maxHeartbeats 1000000 in
theorem cut_walk (a0 a3 : Option Addr) (l m : List UInt8) (c0 c3 g0 g3 : Nat) (X Y : BitVec 32) (w : World) (hh : Half w) (hr0 : Reads w (.slice a0 l.length c0) l g0) (hg0 : l ≠ [] → g0 < w.heap.size) (hc0 : l.length ≤ c0) (hw0 : l.length ≤ 140737488351232)
    (hr3 : Reads w (.slice a3 m.length c3) m g3) (hg3 : m ≠ [] → g3 < w.heap.size) (hc3 : m.length ≤ c3) (hw3 : m.length ≤ 140737488351232) :
    Calls Tryd.prog 9 #[.slice a0 l.length c0, .int .u32 (num X), .int .u32 (num Y), .slice a3 m.length c3] w fun e w' => e = .returned (.bool true) ∧ Below w.heap.size w w' := by
  obtain ⟨n, hn1, hn2, hmin0⟩ : ∃ n : Nat, n ≤ 200 ∧ n ≤ l.length ∧ (if (200 : Int) < (l.length : Int) then (200 : Int) else (l.length : Int)) = (n : Int) := ⟨min l.length 200, by omega, by omega, min_nat l.length 200⟩
  obtain ⟨k, hk1, hk2, hmin3⟩ : ∃ n : Nat, n ≤ 200 ∧ n ≤ m.length ∧ (if (200 : Int) < (m.length : Int) then (200 : Int) else (m.length : Int)) = (n : Int) := ⟨min m.length 200, by omega, by omega, min_nat m.length 200⟩
  have hx0 := low_num X
  have hx8 := low8_num X
  have hx16 := low16_num X
  have hy0 := low_num Y
  have hy8 := low8_num Y
  have hy16 := low16_num Y
  have hxa : bits .and .u32 (num X) 16777215 = num (X &&& 16777215#32) := and_num X 16777215#32
  have hya : bits .and .u32 (num Y) 16777215 = num (Y &&& 16777215#32) := and_num Y 16777215#32
  have hrx := num_range X
  have hry := num_range Y
  have HH := Lib.hid hh
  have R0 := Lib.hid hr0
  have G0 := Lib.hid hg0
  have R3 := Lib.hid hr3
  have G3 := Lib.hid hg3
  clear hh hr0 hg0 hr3 hg3
  go_enter Tryd.func9, Tryd.ntmps9
  go_wp2_with fail
  refine (shown_any w HH.out).mono ?_
  rintro e w1 ⟨rfl, hT⟩
  replace HH := Lib.hid (HH.out.below hT)
  replace R0 := Lib.hid ((R0.out.below G0.out hT).take (c' := c0) n hn2)
  replace R3 := Lib.hid ((R3.out.below G3.out hT).take (c' := c3) k hk2)
  have HT := Lib.hid hT
  clear hT
  go_wp2_with fail
  refine (sum_any _ (l.take n) g0 _ HH.out R0.out (by rw [List.length_take]; omega)).mono ?_
  rintro e w2 ⟨rfl, rfl⟩
  have hfin := cut_fin (Crc.sum (l.take n)) (m.take k) X Y
  generalize Crc.sum (l.take n) = s at hfin ⊢
  go_wp2_with fail
  refine (more_any _ _ (Crc.three X) w1.heap.size _ (HH.out.alloc _) (lit_reads _ _ _ _ _ _ (three_row' X) rfl) (show 3 ≤ 4294967296 by decide)).mono ?_
  rintro e w2 ⟨rfl, rfl⟩
  rw [three_row' X]
  replace R3 := Lib.hid (R3.out.alloc (fun h => Nat.lt_of_lt_of_le (G3.out (by rintro rfl; simp at h)) HT.out.size) (.cells (rowA (Crc.three X)) 5))
  replace HH := Lib.hid (HH.out.alloc (.cells (rowA (Crc.three X)) 5))
  replace HT := Lib.hid (HT.out.alloc HT.out.size (.cells (rowA (Crc.three X)) 5))
  generalize w1.alloc (.cells (rowA (Crc.three X)) 5) = w2 at HH HT R3 ⊢
  go_wp2_with fail
  refine (more_any _ _ (m.take k) g3 _ HH.out R3.out (by rw [List.length_take]; omega)).mono ?_
  rintro e w3 ⟨rfl, rfl⟩
  go_wp2_with fail
  refine (more_any _ _ (Crc.three Y) w2.heap.size _ (HH.out.alloc _) (lit_reads _ _ _ _ _ _ (three_row' Y) rfl) (show 3 ≤ 4294967296 by decide)).mono ?_
  rintro e w3 ⟨rfl, rfl⟩
  rw [three_row' Y]
  replace R3 := Lib.hid (R3.out.alloc (fun h => Nat.lt_of_lt_of_le (G3.out (by rintro rfl; simp at h)) HT.out.size) (.cells (rowA (Crc.three Y)) 5))
  replace HH := Lib.hid (HH.out.alloc (.cells (rowA (Crc.three Y)) 5))
  replace HT := Lib.hid (HT.out.alloc HT.out.size (.cells (rowA (Crc.three Y)) 5))
  generalize w2.alloc (.cells (rowA (Crc.three Y)) 5) = w3 at HH HT R3 ⊢
  go_wp2_with fail
  refine (more_any _ _ (m.take k) g3 _ HH.out R3.out (by rw [List.length_take]; omega)).mono ?_
  rintro e w4 ⟨rfl, rfl⟩
  generalize num (Crc.more (Crc.more s (Crc.three X)) (m.take k)) = A at hfin ⊢
  generalize num (Crc.more (Crc.more s (Crc.three Y)) (m.take k)) = B at hfin ⊢
  generalize num (X &&& 16777215#32) = C at hfin hxa
  generalize num (Y &&& 16777215#32) = D at hfin hya
  go_wp2
  go_ret
  exact ⟨rfl, HT.out⟩

end Go.Proofs.YtifdlkohddpmfaaDoor
