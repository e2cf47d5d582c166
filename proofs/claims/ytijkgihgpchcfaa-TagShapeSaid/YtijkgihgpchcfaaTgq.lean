/- Tags compared. No condition. -/
import Derived.Test.YtijkgihgpchcfaaTgw
import Derived.Laws.StructEq
namespace Go.Proofs.Ytijkgihgpchcfaa
open Go.RowKit

theorem eq_tags (a b : Tg.T) (w : World) : (binOp .eql 25 (tagV a) (tagV b)).run Try.prog w = .ok (.bool (decide (a = b))) w := by
  obtain ⟨a0, a1, a2, a3, a4, a5, a6⟩ := a
  obtain ⟨b0, b1, b2, b3, b4, b5, b6⟩ := b
  have hs := fun (w : World) (xs ys : Array Value) => run_equalIn_struct w 9999 25 xs ys (P := Try.prog) (by kernel_rfl) (by kernel_rfl)
  rw [run_eql_struct, hs]
  simp [go_sem]
  simp only [Int.natCast_inj]
  repeat' split
  all_goals simp [*]
theorem eq_refs (a b : Tg.T) (w : World) : (binOp .eql 28 (tagV a) (tagV b)).run Try.prog w = .ok (.bool (decide (a = b))) w := by
  obtain ⟨a0, a1, a2, a3, a4, a5, a6⟩ := a
  obtain ⟨b0, b1, b2, b3, b4, b5, b6⟩ := b
  have hs := fun (w : World) (xs ys : Array Value) => run_equalIn_struct w 9999 28 xs ys (P := Try.prog) (by kernel_rfl) (by kernel_rfl)
  rw [run_eql_struct, hs]
  simp [go_sem]
  simp only [Int.natCast_inj]
  repeat' split
  all_goals simp [*]
theorem guard_tag (x y : Operand) (a b : Tg.T) (w : World) : (eqGuard .eql 25 x y (tagV a) (tagV b)).run Try.prog w = .ok () w := run_eqGuard_agg w .eql _ x y _ _ (by kernel_rfl)
theorem guard_tag' (x y : Operand) (a b : Tg.T) (w : World) : (eqGuard .neq 25 x y (tagV a) (tagV b)).run Try.prog w = .ok () w := run_eqGuard_agg w .neq _ x y _ _ (by kernel_rfl)
theorem guard_ref (x y : Operand) (a b : Tg.T) (w : World) : (eqGuard .eql 28 x y (tagV a) (tagV b)).run Try.prog w = .ok () w := run_eqGuard_agg w .eql _ x y _ _ (by kernel_rfl)
theorem neq_tags (a b : Tg.T) (w : World) : (binOp .neq 25 (tagV a) (tagV b)).run Try.prog w = .ok (.bool (!decide (a = b))) w := by
  obtain ⟨a0, a1, a2, a3, a4, a5, a6⟩ := a
  obtain ⟨b0, b1, b2, b3, b4, b5, b6⟩ := b
  have hs := fun (w : World) (xs ys : Array Value) => run_equalIn_struct w 9999 25 xs ys (P := Try.prog) (by kernel_rfl) (by kernel_rfl)
  rw [run_neq_struct, hs]
  simp [go_sem]
  simp only [Int.natCast_inj]
  repeat' split
  all_goals simp [*]

/-- Encode of a tag and of 480 noughts. -/
theorem encode_zeros (t : Tg.T) (w : World) (he : t.e < 4294967296) :
    Calls Try.prog 10 #[tagV t, .slice (some ⟨w.heap.size, 0, none⟩) 480 480] (w.alloc (.cells (rowA (zerosL 480)) 5)) fun e w' => (∃ v' ec, e = .returned (.tuple #[v', .int .i64 ec]) ∧ (Tg.rightB t = true ∧ ec = 0 ∧ OwnB w.heap.size w' v' (Tg.enc t (zerosL 480)) ∨ Tg.rightB t = false ∧ ec = 1)) ∧ Below w.heap.size w w' := by
  have hb := (Below.refl w.heap.size w).alloc (Nat.le_refl _) (.cells (rowA (zerosL 480)) 5)
  by_cases hr : Tg.rightB t = true
  · refine (encode_ok t _ _ _ _ hr he (z480 w) (zerosL_length 480)).mono ?_
    rintro e w' ⟨⟨v', rfl, ho⟩, h⟩
    exact ⟨⟨v', 0, rfl, .inl ⟨hr, rfl, ho.mono (by simp)⟩⟩, hb.trans (h.mono (by simp))⟩
  · rw [Bool.not_eq_true] at hr
    refine (encode_no t _ _ _ _ (.inl hr)).mono ?_
    rintro e w' ⟨rfl, h⟩
    exact ⟨⟨_, 1, rfl, .inr ⟨hr, rfl⟩⟩, hb.trans (h.mono (by simp))⟩

end Go.Proofs.Ytijkgihgpchcfaa
