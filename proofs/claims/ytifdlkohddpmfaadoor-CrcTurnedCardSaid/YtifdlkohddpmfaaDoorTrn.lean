/- CrcTurned: bytes that are each other turned. -/
import Derived.Test.YtifdlkohddpmfaaDoorCut
namespace Go.Proofs.YtifdlkohddpmfaaDoor
open Go.RowKit

theorem of_u8 {x : Int} (h : (Lit.int .u8 x).wf = true) : ∃ X : UInt8, x = (X.toNat : Int) := by
  have h' : 0 ≤ x ∧ x ≤ 255 := by simpa [Lit.wf, IntKind.min, IntKind.max, IntKind.signed, IntKind.bits] using h
  refine ⟨UInt8.ofNat x.toNat, ?_⟩
  rw [UInt8.toNat_ofNat']
  omega
theorem one_row (X : UInt8) : #[.int .u8 (X.toNat : Int)] = rowA [X] := rfl
def tri (X : UInt8) (q : List UInt8) (Y : UInt8) : BitVec 32 := Crc.sum ([X] ++ q ++ [Y])
theorem one_three (X Y : UInt8) (q : List UInt8) : Crc.more (Crc.more (Crc.sum [X]) q) [Y] = tri X q Y := by
  rw [Crc.sum_more, Crc.sum_more]; rfl
/-- What the law asks of the two sums. -/
theorem tri_facts (X Y : UInt8) (q : List UInt8) (k : Nat) (hk : q.length = k) : ∃ b c d : Bool, ((X.toNat : Int) == (Y.toNat : Int)) = b ∧ ((X.toNat : Int) != (Y.toNat : Int)) = !b ∧ (num (tri X q Y) == num (tri Y q X)) = c ∧ decide ((2 : Int) < (k : Int)) = d ∧
    ((b = true ∧ c = true ∧ d = true) ∨ (b = true ∧ c = true ∧ d = false) ∨ (b = false ∧ c = true ∧ d = true) ∨ (b = false ∧ c = false ∧ d = true) ∨ (b = false ∧ c = false ∧ d = false)) := by
  refine ⟨_, _, _, rfl, rfl, rfl, rfl, ?_⟩
  rw [num_beq]
  by_cases h : X = Y
  · subst h
    cases decide ((2 : Int) < (k : Int)) <;> simp
  · have hne : ((X.toNat : Int) == (Y.toNat : Int)) = false := by
      have : (X.toNat : Int) ≠ (Y.toNat : Int) := fun e => h (UInt8.toNat_inj.1 (by omega))
      simpa using this
    rw [hne]
    by_cases h2 : (2 : Int) < (k : Int)
    · rw [decide_eq_true h2]
      cases tri X q Y == tri Y q X <;> simp
    · rw [decide_eq_false h2]
      have : (tri X q Y == tri Y q X) = false := beq_eq_false_iff_ne.2 fun e => h ((Crc.sum_turned X Y q (by omega)).1 e)
      rw [this]; simp

set_option maxRecDepth 100000 in
set_option maxHeartbeats 1000000 in
theorem turned_walk (X Y : UInt8) (a3 : Option Addr) (m : List UInt8) (c3 g3 : Nat) (w : World) (hh : Half w) 
    (hr3 : Reads w (.slice a3 m.length c3) m g3) (hg3 : m ≠ [] → g3 < w.heap.size) (hc3 : m.length ≤ c3) (hw3 : m.length ≤ 140737488351232) :
    Calls Tryd.prog 10 #[.int .u8 (X.toNat : Int), .int .u8 (Y.toNat : Int), .slice a3 m.length c3] w fun e w' => e = .returned (.bool true) ∧ Below w.heap.size w w' := by
  obtain ⟨k, hk1, hk2, hmin3⟩ : ∃ n : Nat, n ≤ 100 ∧ n ≤ m.length ∧ (if (100 : Int) < (m.length : Int) then (100 : Int) else (m.length : Int)) = (n : Int) := ⟨min m.length 100, by omega, by omega, min_nat m.length 100⟩
  have hkl : (m.take k).length = k := by rw [List.length_take]; omega
  have HH := Lib.hid hh
  have R3 := Lib.hid hr3
  have G3 := Lib.hid hg3
  clear hh hr3 hg3
  go_enter Tryd.func10, Tryd.ntmps10
  go_wp2_with fail
  refine (shown_any w HH.out).mono ?_
  rintro e w1 ⟨rfl, hT⟩
  replace HH := Lib.hid (HH.out.below hT)
  replace R3 := Lib.hid ((R3.out.below G3.out hT).take (c' := c3) k hk2)
  have HT := Lib.hid hT
  clear hT
  replace G3 := Lib.hid (show m.take k ≠ [] → g3 < w.heap.size from fun h => G3.out (by rintro rfl; simp at h))
  obtain ⟨b, c, d, hb1, hb2, hb3, hb4, hcase⟩ := tri_facts X Y (m.take k) k hkl
  generalize m.take k = q at R3 G3 hkl hb3
  go_wp2_with fail
  refine (sum_any _ [X] w1.heap.size _ (HH.out.alloc _) (lit_reads _ _ _ _ _ _ (one_row X) rfl) (show 1 ≤ 4294967296 by decide)).mono ?_
  rintro e w2 ⟨rfl, rfl⟩
  rw [one_row X]
  replace R3 := Lib.hid (R3.out.alloc (fun h => Nat.lt_of_lt_of_le (G3.out h) HT.out.size) (.cells (rowA [X]) 5))
  replace HH := Lib.hid (HH.out.alloc (.cells (rowA [X]) 5))
  replace HT := Lib.hid (HT.out.alloc HT.out.size (.cells (rowA [X]) 5))
  generalize w1.alloc (.cells (rowA [X]) 5) = w2 at HH HT R3 ⊢
  go_wp2_with fail
  refine (more_any _ _ q g3 _ HH.out R3.out (by omega)).mono ?_
  rintro e w3 ⟨rfl, rfl⟩
  go_wp2_with fail
  refine (more_any _ _ [Y] w2.heap.size _ (HH.out.alloc _) (lit_reads _ _ _ _ _ _ (one_row Y) rfl) (show 1 ≤ 4294967296 by decide)).mono ?_
  rintro e w3 ⟨rfl, rfl⟩
  rw [one_row Y]
  replace R3 := Lib.hid (R3.out.alloc (fun h => Nat.lt_of_lt_of_le (G3.out h) HT.out.size) (.cells (rowA [Y]) 5))
  replace HH := Lib.hid (HH.out.alloc (.cells (rowA [Y]) 5))
  replace HT := Lib.hid (HT.out.alloc HT.out.size (.cells (rowA [Y]) 5))
  generalize w2.alloc (.cells (rowA [Y]) 5) = w3 at HH HT R3 ⊢
  rw [one_three]
  go_wp2_with fail
  refine (sum_any _ [Y] w3.heap.size _ (HH.out.alloc _) (lit_reads _ _ _ _ _ _ (one_row Y) rfl) (show 1 ≤ 4294967296 by decide)).mono ?_
  rintro e w4 ⟨rfl, rfl⟩
  rw [one_row Y]
  replace R3 := Lib.hid (R3.out.alloc (fun h => Nat.lt_of_lt_of_le (G3.out h) HT.out.size) (.cells (rowA [Y]) 5))
  replace HH := Lib.hid (HH.out.alloc (.cells (rowA [Y]) 5))
  replace HT := Lib.hid (HT.out.alloc HT.out.size (.cells (rowA [Y]) 5))
  generalize w3.alloc (.cells (rowA [Y]) 5) = w4 at HH HT R3 ⊢
  go_wp2_with fail
  refine (more_any _ _ q g3 _ HH.out R3.out (by omega)).mono ?_
  rintro e w5 ⟨rfl, rfl⟩
  go_wp2_with fail
  refine (more_any _ _ [X] w4.heap.size _ (HH.out.alloc _) (lit_reads _ _ _ _ _ _ (one_row X) rfl) (show 1 ≤ 4294967296 by decide)).mono ?_
  rintro e w5 ⟨rfl, rfl⟩
  rw [one_row X]
  replace HT := Lib.hid (HT.out.alloc HT.out.size (.cells (rowA [X]) 5))
  generalize w4.alloc (.cells (rowA [X]) 5) = w5 at HT ⊢
  rw [one_three]
  generalize num (tri X q Y) = A at hb3 ⊢
  generalize num (tri Y q X) = B at hb3 ⊢
  rcases hcase with ⟨rfl, rfl, rfl⟩ | ⟨rfl, rfl, rfl⟩ | ⟨rfl, rfl, rfl⟩ | ⟨rfl, rfl, rfl⟩ | ⟨rfl, rfl, rfl⟩
  all_goals
    simp only [Bool.not_true, Bool.not_false] at hb2
    go_wp2
    go_ret
    exact ⟨rfl, HT.out⟩

end Go.Proofs.YtifdlkohddpmfaaDoor
