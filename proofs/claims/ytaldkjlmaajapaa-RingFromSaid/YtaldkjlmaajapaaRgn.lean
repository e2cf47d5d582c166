/- Rings: New. No condition. -/
import Derived.Test.YtaldkjlmaajapaaRgp
namespace Go.Proofs.Ytaldkjlmaajapaa
open Go.RowKit

theorem madeCells_one' (z : Value) (n : Nat) : madeCells #[z] n = Array.replicate n z := by
  unfold madeCells
  apply Array.ext
  · simp
  · intro i h1 h2
    simp [Nat.mod_one]
/-- A row that is filled: k cells of m. -/
def fillR (v z : Value) (m k : Nat) : List Value := List.replicate k v ++ List.replicate (m - k) z
theorem fillR_zero' (v z : Value) (m : Nat) : fillR v z m 0 = fillR z z m 0 := by simp [fillR]
theorem fillR_zero (v z : Value) (m : Nat) : fillR v z m 0 = List.replicate m z := by simp [fillR]
theorem fillR_full (v z : Value) (m : Nat) : fillR v z m m = List.replicate m v := by simp [fillR]
theorem fillR_length (v z : Value) (m k : Nat) (h : k ≤ m) : (fillR v z m k).length = m := by simp [fillR]; omega
theorem fillR_set (v z : Value) (m k : Nat) (h : k < m) : (fillR v z m k).set k v = fillR v z m (k + 1) := by
  unfold fillR
  rw [List.set_append_right _ _ (by simp), List.length_replicate, Nat.sub_self, show m - k = (m - (k + 1)) + 1 by omega, List.replicate_succ, List.set_cons_zero, List.replicate_succ' (n := k), List.append_assoc]
  rfl
structure FillR (w : World) (v z : Value) (E : TypeId) (m k : Nat) (wr : World) : Prop where
  below : Below w.heap.size w wr
  row : wr.heap[w.heap.size]? = some (.cells (fillR v z m k).toArray E (0, 0))
theorem FillR.cell {w wr : World} {v z : Value} {E : TypeId} {m k : Nat} (h : FillR w v z E m k wr) (hk : k < m) : (∃ u, wr.cell? ⟨w.heap.size, k, none⟩ = some u) ∧ wr.frozen? ⟨w.heap.size, k, none⟩ = false := by
  refine ⟨⟨(fillR v z m k)[k]'(by rw [fillR_length v z m k (by omega)]; exact hk), ?_⟩, frozen_of_row wr _ k _ _ h.row⟩
  rw [cell_of_row wr _ k _ _ _ h.row]; simp
theorem FillR.step {w wr : World} {v z : Value} {E : TypeId} {m k : Nat} (h : FillR w v z E m k wr) (hk : k < m) : FillR w v z E m (k + 1) (wr.setCell ⟨w.heap.size, k, none⟩ v) := by
  refine ⟨((Touch.of_below (F := Emp) h.below).setCell (a := ⟨w.heap.size, k, none⟩) (.inr (Nat.le_refl _)) v).below, ?_⟩
  rw [heap_setCell_same wr _ k _ _ v h.row, ← fillR_set v z m k hk]; simp
theorem clamp_run (n : Int) (m : Nat) (hm : min (max n 1) 1048576 = (m : Int)) : ∃ x : Int, (∀ W : World, (Builtin.max_ #[3, 3] 3 #[.int .i64 n, .int .i64 1]).run Try.prog W = .ok (.int .i64 x) W) ∧ (∀ W : World, (Builtin.min_ #[3, 3] 3 #[.int .i64 x, .int .i64 1048576]).run Try.prog W = .ok (.int .i64 (m : Int)) W) := by
  refine ⟨max n 1, fun W => ?_, fun W => ?_⟩
  · simp [Builtin.max_, Builtin.max2]
    split <;> omega
  · simp [Builtin.min_, Builtin.min2]
    split <;> omega

theorem Try.infoi : (Try.prog.info? 3).map (fun i => (i.zero, i.size, i.bytes)) = some (some (.int .i64 0), 1, 8) := by kernel_rfl
theorem make_i (w : World) (m : Nat) (hm : m ≤ 1048576) :
    (Instr.makeSlice 28 (.int .i64 (m : Int)) (.int .i64 (m : Int))).run Try.prog w = .ok (.slice (some ⟨w.heap.size, 0, none⟩) m m) (w.alloc (.cells (fillR (.int .i64 0) (.int .i64 0) m 0).toArray 3)) := by
  obtain ⟨i0, hi, hz0, hz1, hz2⟩ := info_parts Try.infoi
  have := run_make (P := Try.prog) w 28 3 i0 (.int .i64 0) Try.underlying28 hi hz0 .i64 .i64 m m (by omega) (by omega) (by rw [hz2]; omega) (by omega)
  rw [this, hz1]
  simp only [Value.cells, madeCells_one', Nat.mul_one, Int.toNat_natCast, fillR_zero, List.toArray_replicate]

set_option maxHeartbeats 400000 in
theorem new_i (n : Int) (m : Nat) (x : Int) (w : World) (hm : min (max n 1) 1048576 = (m : Int)) :
    Calls Try.prog 13 #[.int .i64 n, .int .i64 x] w fun e w' => (∃ R g, e = .returned (.pointer (some ⟨R, 0, none⟩)) ∧ Ringi w' R g m (List.replicate m (.int .i64 x)) ∧ w.heap.size ≤ R ∧ w.heap.size ≤ g) ∧ Below w.heap.size w w' := by
  have hm1 : 1 ≤ m ∧ m ≤ 1048576 := by omega
  obtain ⟨hm1, hm2⟩ := hm1
  obtain ⟨x0, hx, hy⟩ := clamp_run n m hm
  have hk := fun W => make_i W m hm2
  have HM := Lib.hid hm
  clear hm
  go_enter Try.func13, Try.ntmps13
  go_wp2
  go_loopw [13] (fun i wr => ∃ k : Nat, k ≤ m ∧ i = .int .i64 k ∧ FillR w (.int .i64 x) (.int .i64 0) 3 m k wr) (fun i _ => m - (intOf i).toNat)
  case atStart => exact ⟨0, Nat.zero_le _, rfl, (Below.refl _ w).alloc (Nat.le_refl _) _, by rw [fillR_zero', ← fillR_zero' (.int .i64 0)]; exact heap_alloc_new w _⟩
  case round =>
    obtain ⟨k, hk, rfl, hF⟩ := hrel
    have HF := Lib.hid hF
    clear hF
    by_cases hlt : k < m
    · obtain ⟨⟨u, hu⟩, hfz⟩ := HF.out.cell hlt
      go_wp2
      go_roundw
      case rel => exact ⟨k + 1, by omega, by go_num, HF.out.step hlt⟩
      case measure => simp [intOf]; omega
    · obtain rfl : k = m := by omega
      clear hk
      go_wp2
      go_ret
      refine ⟨⟨_, w.heap.size, rfl, ⟨by simp, heap_alloc_new wr _, ?_, ?_⟩, HF.out.below.size, Nat.le_refl _⟩, HF.out.below.alloc HF.out.below.size _⟩
      · rw [heap_alloc_old wr _ (lt_of_heap HF.out.row), HF.out.row, fillR_full]
      · have := lt_of_heap HF.out.row; omega

theorem Try.infos : (Try.prog.info? 9).map (fun i => (i.zero, i.size, i.bytes)) = some (some (.string ⟨#[]⟩), 1, 16) := by kernel_rfl
theorem make_s (w : World) (m : Nat) (hm : m ≤ 1048576) :
    (Instr.makeSlice 42 (.int .i64 (m : Int)) (.int .i64 (m : Int))).run Try.prog w = .ok (.slice (some ⟨w.heap.size, 0, none⟩) m m) (w.alloc (.cells (fillR (.string ⟨#[]⟩) (.string ⟨#[]⟩) m 0).toArray 9)) := by
  obtain ⟨i0, hi, hz0, hz1, hz2⟩ := info_parts Try.infos
  have := run_make (P := Try.prog) w 42 9 i0 (.string ⟨#[]⟩) Try.underlying42 hi hz0 .i64 .i64 m m (by omega) (by omega) (by rw [hz2]; omega) (by omega)
  rw [this, hz1]
  simp only [Value.cells, madeCells_one', Nat.mul_one, Int.toNat_natCast, fillR_zero, List.toArray_replicate]

set_option maxHeartbeats 400000 in
theorem new_s (n : Int) (m : Nat) (x : ByteArray) (w : World) (hm : min (max n 1) 1048576 = (m : Int)) :
    Calls Try.prog 10 #[.int .i64 n, .string x] w fun e w' => (∃ R g, e = .returned (.pointer (some ⟨R, 0, none⟩)) ∧ Rings w' R g m (List.replicate m (.string x)) ∧ w.heap.size ≤ R ∧ w.heap.size ≤ g) ∧ Below w.heap.size w w' := by
  have hm1 : 1 ≤ m ∧ m ≤ 1048576 := by omega
  obtain ⟨hm1, hm2⟩ := hm1
  obtain ⟨x0, hx, hy⟩ := clamp_run n m hm
  have hk := fun W => make_s W m hm2
  have HM := Lib.hid hm
  clear hm
  go_enter Try.func10, Try.ntmps10
  go_wp2
  go_loopw [13] (fun i wr => ∃ k : Nat, k ≤ m ∧ i = .int .i64 k ∧ FillR w (.string x) (.string ⟨#[]⟩) 9 m k wr) (fun i _ => m - (intOf i).toNat)
  case atStart => exact ⟨0, Nat.zero_le _, rfl, (Below.refl _ w).alloc (Nat.le_refl _) _, by rw [fillR_zero', ← fillR_zero' (.string ⟨#[]⟩)]; exact heap_alloc_new w _⟩
  case round =>
    obtain ⟨k, hk, rfl, hF⟩ := hrel
    have HF := Lib.hid hF
    clear hF
    by_cases hlt : k < m
    · obtain ⟨⟨u, hu⟩, hfz⟩ := HF.out.cell hlt
      go_wp2
      go_roundw
      case rel => exact ⟨k + 1, by omega, by go_num, HF.out.step hlt⟩
      case measure => simp [intOf]; omega
    · obtain rfl : k = m := by omega
      clear hk
      go_wp2
      go_ret
      refine ⟨⟨_, w.heap.size, rfl, ⟨by simp, heap_alloc_new wr _, ?_, ?_⟩, HF.out.below.size, Nat.le_refl _⟩, HF.out.below.alloc HF.out.below.size _⟩
      · rw [heap_alloc_old wr _ (lt_of_heap HF.out.row), HF.out.row, fillR_full]
      · have := lt_of_heap HF.out.row; omega

theorem Try.infob : (Try.prog.info? 5).map (fun i => (i.zero, i.size, i.bytes)) = some (some (.int .u8 0), 1, 1) := by kernel_rfl
theorem make_b (w : World) (m : Nat) (hm : m ≤ 1048576) :
    (Instr.makeSlice 48 (.int .i64 (m : Int)) (.int .i64 (m : Int))).run Try.prog w = .ok (.slice (some ⟨w.heap.size, 0, none⟩) m m) (w.alloc (.cells (fillR (.int .u8 0) (.int .u8 0) m 0).toArray 5)) := by
  obtain ⟨i0, hi, hz0, hz1, hz2⟩ := info_parts Try.infob
  have := run_make (P := Try.prog) w 48 5 i0 (.int .u8 0) Try.underlying48 hi hz0 .i64 .i64 m m (by omega) (by omega) (by rw [hz2]; omega) (by omega)
  rw [this, hz1]
  simp only [Value.cells, madeCells_one', Nat.mul_one, Int.toNat_natCast, fillR_zero, List.toArray_replicate]

set_option maxHeartbeats 400000 in
theorem new_b (n : Int) (m : Nat) (x : Int) (w : World) (hm : min (max n 1) 1048576 = (m : Int)) :
    Calls Try.prog 18 #[.int .i64 n, .int .u8 x] w fun e w' => (∃ R g, e = .returned (.pointer (some ⟨R, 0, none⟩)) ∧ Ringb w' R g m (List.replicate m (.int .u8 x)) ∧ w.heap.size ≤ R ∧ w.heap.size ≤ g) ∧ Below w.heap.size w w' := by
  have hm1 : 1 ≤ m ∧ m ≤ 1048576 := by omega
  obtain ⟨hm1, hm2⟩ := hm1
  obtain ⟨x0, hx, hy⟩ := clamp_run n m hm
  have hk := fun W => make_b W m hm2
  have HM := Lib.hid hm
  clear hm
  go_enter Try.func18, Try.ntmps18
  go_wp2
  go_loopw [13] (fun i wr => ∃ k : Nat, k ≤ m ∧ i = .int .i64 k ∧ FillR w (.int .u8 x) (.int .u8 0) 5 m k wr) (fun i _ => m - (intOf i).toNat)
  case atStart => exact ⟨0, Nat.zero_le _, rfl, (Below.refl _ w).alloc (Nat.le_refl _) _, by rw [fillR_zero', ← fillR_zero' (.int .u8 0)]; exact heap_alloc_new w _⟩
  case round =>
    obtain ⟨k, hk, rfl, hF⟩ := hrel
    have HF := Lib.hid hF
    clear hF
    by_cases hlt : k < m
    · obtain ⟨⟨u, hu⟩, hfz⟩ := HF.out.cell hlt
      go_wp2
      go_roundw
      case rel => exact ⟨k + 1, by omega, by go_num, HF.out.step hlt⟩
      case measure => simp [intOf]; omega
    · obtain rfl : k = m := by omega
      clear hk
      go_wp2
      go_ret
      refine ⟨⟨_, w.heap.size, rfl, ⟨by simp, heap_alloc_new wr _, ?_, ?_⟩, HF.out.below.size, Nat.le_refl _⟩, HF.out.below.alloc HF.out.below.size _⟩
      · rw [heap_alloc_old wr _ (lt_of_heap HF.out.row), HF.out.row, fillR_full]
      · have := lt_of_heap HF.out.row; omega

end Go.Proofs.Ytaldkjlmaajapaa
