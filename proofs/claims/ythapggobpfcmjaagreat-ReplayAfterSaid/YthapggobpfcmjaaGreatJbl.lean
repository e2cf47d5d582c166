/- The laws' helper 'block': 480 bytes that count up. -/
import Derived.Test.YthapggobpfcmjaaGreatJnw
import Derived.Deep.CutBlock
set_option maxRecDepth 100000
namespace Go.Proofs.YthapggobpfcmjaaGreat
namespace Jn
open Go.RowKit

def byteI (x : Int) : UInt8 := UInt8.ofNat (x % 256).toNat
def blkR (n : Int) (q : Nat) : List UInt8 := (List.range 480).map fun i => if i < q then byteI (n + i) else 0
/-- What the laws' block of n holds. -/
def blk (n : Int) : List UInt8 := blkR n 480
theorem blkR_len (n : Int) (q : Nat) : (blkR n q).length = 480 := by simp [blkR]
theorem blkR_zero (n : Int) : blkR n 0 = zerosL 480 := by
  apply List.ext_getElem
  · simp [blkR, zerosL]
  · intro i h1 h2
    simp only [blkR, List.getElem_map, Nat.not_lt_zero, if_false, zerosL, List.getElem_replicate]
theorem blkR_set (n : Int) {q : Nat} (_hq : q < 480) : (blkR n q).set q (byteI (n + q)) = blkR n (q + 1) := by
  apply List.ext_getElem
  · simp [blkR]
  · intro i h1 h2
    simp only [blkR, List.getElem_set, List.getElem_map, List.getElem_range]
    by_cases h : q = i
    · subst h; simp
    · rw [if_neg h]
      by_cases h3 : i < q
      · rw [if_pos h3, if_pos (by omega)]
      · rw [if_neg h3, if_neg (by omega)]
theorem byteI_run (x : Int) : wrap64 x % 256 = ((byteI x).toNat : Int) := by
  have h1 : (x % 256).toNat < 256 := by omega
  simp only [byteI, UInt8.toNat_ofNat_of_lt' h1, wrap64]
  omega

structure BlkI (w : World) (n : Int) (q : Nat) (wr : World) : Prop where
  row : wr.heap[w.heap.size]? = some (.cells (rowA (blkR n q)) 5 (0, 0))
  below : Below w.heap.size w wr

set_option maxHeartbeats 2000000 in
theorem block_any (n : Int) (w : World) :
    Calls Tryz.prog 12 #[.int .i64 n] w fun e w' => e = .returned (.slice (some ⟨w.heap.size, 0, none⟩) 480 480) ∧ w'.heap[w.heap.size]? = some (.cells (rowA (blk n)) 5 (0, 0)) ∧ Below w.heap.size w w' := by
  have hmk := run_makeBytes w 480 (by omega) (by omega)
  go_enter Tryz.func12, Tryz.ntmps12
  go_wp2
  go_loopw [4] (fun i wr => ∃ q : Nat, q ≤ 480 ∧ i = .int .i64 q ∧ BlkI w n q wr) (fun i _ => 480 - (intOf i).toNat)
  case atStart => exact ⟨0, by omega, rfl, by rw [blkR_zero]; exact heap_alloc_new w _, (Below.refl _ w).alloc (Nat.le_refl _) _⟩
  case round =>
    obtain ⟨q, hq, rfl, hI⟩ := hrel
    by_cases hlt : q < 480
    · have hq1 : (q : Int) < 480 := by omega
      have hfz : wr.frozen? ⟨w.heap.size, q, none⟩ = false := frozen_of_row wr w.heap.size q _ _ hI.row
      have hc : wr.cell? ⟨w.heap.size, q, none⟩ = (rowA (blkR n q))[q]? := cell_of_row wr w.heap.size q _ _ _ hI.row
      have hc2 : (rowA (blkR n q))[q]? = some (.int .u8 (((blkR n q)[q]'(by rw [blkR_len]; exact hlt)).toNat : Int)) := by
        simp [rowA, byteV, blkR_len, hlt]
      rw [hc2] at hc
      have hby := byteI_run (n + q)
      have HI := Lib.hid hI
      have HC := Lib.hid hc2
      clear hI hc2
      go_wp2
      have hv : (rowA (blkR n q)).setIfInBounds q (.int .u8 ((byteI (n + q)).toNat : Int)) = rowA (blkR n (q + 1)) := by
        rw [← blkR_set n hlt]
        simp [rowA, byteV]
      refine ⟨⟨q + 1, by omega, by go_num, ?_, HI.out.below.setCell (Nat.le_refl _) _⟩, by simp [intOf]; omega⟩
      rw [heap_setCell_same _ _ q _ _ _ HI.out.row, hv]
    · obtain rfl : q = 480 := by omega
      have HI := Lib.hid hI
      clear hI hq
      go_wp2
      go_ret
      exact ⟨rfl, HI.out.row, HI.out.below⟩

end Jn
end Go.Proofs.YthapggobpfcmjaaGreat
