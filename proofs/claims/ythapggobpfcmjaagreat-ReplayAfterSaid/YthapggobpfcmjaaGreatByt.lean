/- Bytes: made, and turned into a string. No condition. -/
import Derived.Test.YthapggobpfcmjaaGreatMem
import Derived.Laws.BytesArg
import Derived.Laws.CopyOwn
import Derived.Lib.Hide
namespace Go.Proofs.YthapggobpfcmjaaGreat
open Go.RowKit

theorem Tryz.info5 : (Tryz.prog.info? 5).map (fun i => (i.zero, i.size, i.bytes)) = some (some (.int .u8 0), 1, 1) := by kernel_rfl

theorem madeCells_one (z : Value) (n : Nat) : madeCells #[z] n = Array.replicate n z := by
  unfold madeCells
  apply Array.ext
  · simp
  · intro i h1 h2
    simp [Nat.mod_one]

def zerosL (n : Nat) : List UInt8 := List.replicate n 0
theorem rowA_zeros (n : Nat) : Array.replicate n (Value.int .u8 0) = rowA (zerosL n) := by
  simp [rowA, zerosL, byteV]
theorem zerosL_length (n : Nat) : (zerosL n).length = n := by simp [zerosL]

theorem run_makeBytes (w : World) (n : Int) (h0 : 0 ≤ n) (h1 : n ≤ 281474976710656) :
    (Instr.makeSlice 39 (.int .i64 n) (.int .i64 n)).run Tryz.prog w = .ok (.slice (some ⟨w.heap.size, 0, none⟩) n.toNat n.toNat) (w.alloc (.cells (rowA (zerosL n.toNat)) 5)) := by
  obtain ⟨i0, hi, hz0, hz1, hz2⟩ := info_parts Tryz.info5
  have := run_make (P := Tryz.prog) w 39 5 i0 (.int .u8 0) Tryz.underlying39 hi hz0 .i64 .i64 n n h0 (by omega) (by rw [hz2]; omega) (by omega)
  rw [this, hz1]
  simp only [Value.cells, madeCells_one, Nat.mul_one, rowA_zeros]

set_option maxRecDepth 100000 in
theorem run_convBytes {w : World} {v : Value} {l : List UInt8} {g : Nat} (h : Reads w v l g) : (convert 39 9 v).run Tryz.prog w = .ok (.string ⟨l.toArray⟩) w := by
  obtain ⟨off, cap, ⟨rfl, hc⟩ | ⟨⟨a, rfl⟩, rfl⟩⟩ := h
  · have := run_convert_bytes_arg (P := Tryz.prog) w 39 5 Tryz.underlying39 Tryz.underlying5 g off l.length cap (l.map fun x => (x.toNat : Int)) (by simp)
      (fun i hi => by rw [hc i hi]; simp [byteV, hi]) 9 Tryz.underlying9
    rw [this]
    congr 2
    simp only [strOfNums, List.map_map]
    congr 2
    have : ((fun n : Int => UInt8.ofNat n.toNat) ∘ fun x : UInt8 => (x.toNat : Int)) = id := by
      funext x; simp
    rw [this]; simp
  · cases a with
    | none => exact run_convert_bytes_nil (P := Tryz.prog) w 39 5 Tryz.underlying39 Tryz.underlying5 0 cap 9 Tryz.underlying9
    | some a =>
      rw [run_convert_bytes_string w _ _ _ _ _ _ Tryz.underlying39 Tryz.underlying5 Tryz.underlying9]
      simp [Conv.bytesToString, loadCells, loadCellsFrom]
      rfl

end Go.Proofs.YthapggobpfcmjaaGreat
