/- A list of blocks to write that is written out; a block of the laws' as bytes. -/
import Derived.Test.YthapggobpfcmjaaGreatJst
set_option maxRecDepth 100000
namespace Go.Proofs.YthapggobpfcmjaaGreat
namespace Jn
open Go.RowKit

theorem wl_lit {w : World} {E : List WE} {X : Nat → Prop} (hx : X w.heap.size) (hd : ∀ e ∈ E, BV w e.v e.l e.g ∧ (e.l ≠ [] → X e.g)) :
    WL (w.alloc (.cells (E.flatMap cellsE).toArray 41 (0, 0))) (.slice (some ⟨w.heap.size, 0, none⟩) E.length E.length) E X := by
  refine ⟨⟨_, _, rfl, Nat.le_refl _, (fun e => by cases e), fun _ => ⟨w.heap.size, 0, rfl, hx⟩⟩, fun i hi g off cap e => ?_, fun e he => ⟨(hd e he).1.alloc _, (hd e he).2⟩⟩
  obtain ⟨⟨rfl, rfl⟩, rfl⟩ : (w.heap.size = g ∧ 0 = off) ∧ E.length = cap := by simpa using e
  obtain ⟨h1, h2⟩ := cellsE_at E i hi
  have k := heap_alloc_new w (.cells (E.flatMap cellsE).toArray 41 (0, 0))
  constructor
  · rw [cell_of_row _ _ (0 + i * 2) _ _ _ k]
    simpa using h1
  · rw [cell_of_row _ _ (0 + i * 2 + 1) _ _ _ k]
    simpa using h2
theorem blk_len (n : Int) : (blk n).length = 480 := blkR_len n 480
theorem blk_bv {w : World} {g : Nat} {n : Int} (h : w.heap[g]? = some (.cells (rowA (blk n)) 5 (0, 0))) : BV w (.slice (some ⟨g, 0, none⟩) 480 480) (blk n) g := by
  have ho : OwnAt w g (blk n) := ⟨_, h, by simp only [rowA]; exact List.take_of_length_le (by simp)⟩
  exact ho.bv 480 480 (blk_len n) (Nat.le_refl _)
end Jn
end Go.Proofs.YthapggobpfcmjaaGreat
