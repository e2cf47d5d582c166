/- 'shown': what must be in any case. -/
import Derived.Test.YtifdlkohddpmfaaDoorMor
namespace Go.Proofs.YtifdlkohddpmfaaDoor
open Go.RowKit

theorem num_check : num (Crc.sum [49, 50, 51, 52, 53, 54, 55, 56, 57]) = 3421780262 := by rw [Crc.sum_check]; rfl
theorem num_1234 : num (Crc.more (Crc.sum [49, 50, 51, 52]) [53, 54, 55, 56, 57]) = 3421780262 := by
  rw [Crc.sum_more]; exact num_check
theorem num_nil : num (Crc.sum []) = 0 := by rw [Crc.sum_nil]; rfl
theorem num_0 : num (Crc.sum [0]) = 3523407757 := by rw [Crc.sum_0]; rfl

set_option maxRecDepth 100000 in
set_option maxHeartbeats 4000000 in
theorem shown_any (w : World) (hh : Half w) : Calls Tryd.prog 11 #[] w fun e w' => e = .returned (.bool true) ∧ Below w.heap.size w w' := by
  have kc := conv_lit
  have HH := Lib.hid hh
  have HT := Lib.hid (Below.refl w.heap.size w)
  clear hh
  go_enter Tryd.func11, Tryd.ntmps11
  go_wp2_with fail
  refine (sum_any _ [49, 50, 51, 52, 53, 54, 55, 56, 57] w.heap.size _ (HH.out.alloc _) (lit_reads _ _ _ _ _ _ rfl rfl) (by decide)).mono ?_
  rintro e w1 ⟨rfl, rfl⟩
  rw [num_check]
  replace HH := Lib.hid (HH.out.alloc (.cells (rowA [49, 50, 51, 52, 53, 54, 55, 56, 57]) 5 (9, 10)))
  replace HT := Lib.hid (HT.out.alloc HT.out.size (.cells (rowA [49, 50, 51, 52, 53, 54, 55, 56, 57]) 5 (9, 10)))
  go_wp2_with fail
  refine (sum_any _ [] 0 _ HH.out (Reads.nil _) (by decide)).mono ?_
  rintro e w1 ⟨rfl, rfl⟩
  rw [num_nil]
  generalize w.alloc (.cells (rowA [49, 50, 51, 52, 53, 54, 55, 56, 57]) 5 (9, 10)) = w1 at HH HT ⊢
  go_wp2_with fail
  refine (sum_any _ [49, 50, 51, 52] w1.heap.size _ (HH.out.alloc _) (lit_reads _ _ _ _ _ _ rfl rfl) (by decide)).mono ?_
  rintro e w2 ⟨rfl, rfl⟩
  replace HH := Lib.hid (HH.out.alloc (.cells (rowA [49, 50, 51, 52]) 5 (4, 5)))
  replace HT := Lib.hid (HT.out.alloc HT.out.size (.cells (rowA [49, 50, 51, 52]) 5 (4, 5)))
  generalize w1.alloc (.cells (rowA [49, 50, 51, 52]) 5 (4, 5)) = w2 at HH HT ⊢
  go_wp2_with fail
  refine (more_any _ _ [53, 54, 55, 56, 57] w2.heap.size _ (HH.out.alloc _) (lit_reads _ _ _ _ _ _ rfl rfl) (by decide)).mono ?_
  rintro e w3 ⟨rfl, rfl⟩
  rw [num_1234]
  replace HH := Lib.hid (HH.out.alloc (.cells (rowA [53, 54, 55, 56, 57]) 5 (5, 6)))
  replace HT := Lib.hid (HT.out.alloc HT.out.size (.cells (rowA [53, 54, 55, 56, 57]) 5 (5, 6)))
  generalize w2.alloc (.cells (rowA [53, 54, 55, 56, 57]) 5 (5, 6)) = w3 at HH HT ⊢
  go_wp2_with fail
  refine (sum_any _ [0] w3.heap.size _ (HH.out.alloc _) (lit_reads _ _ _ _ _ _ rfl rfl) (by decide)).mono ?_
  rintro e w4 ⟨rfl, rfl⟩
  rw [num_0]
  replace HT := Lib.hid (HT.out.alloc HT.out.size (.cells (rowA [0]) 5))
  generalize w3.alloc (.cells (rowA [0]) 5) = w4 at HT ⊢
  go_wp2
  go_ret
  exact ⟨rfl, HT.out⟩

end Go.Proofs.YtifdlkohddpmfaaDoor
