/- Contracts of the small functions of bytes: sector, same, sectorOf. -/
import Derived.Test.YtmedpmhiebcdjaaDoorMem
import Derived.Laws.BytesArg
import Derived.Laws.CopyOwn
import Derived.Lib.Hide
namespace Go.Proofs.YtmedpmhiebcdjaaDoor
open Go.RowKit

theorem Tryd.info5 : (Tryd.prog.info? 5).map (fun i => (i.zero, i.size, i.bytes)) = some (some (.int .u8 0), 1, 1) := by kernel_rfl

theorem madeCells_one (z : Value) (n : Nat) : madeCells #[z] n = Array.replicate n z := by
  unfold madeCells
  apply Array.ext
  · simp
  · intro i h1 h2
    simp [Nat.mod_one]

def zerosL (n : Nat) : List UInt8 := List.replicate n 0
theorem rowA_zeros (n : Nat) : Array.replicate n (Value.int .u8 0) = rowA (zerosL n) := by
  simp [rowA, zerosL, byteV]
theorem zerosL_length (n : Nat) : (zerosL n).length = n := by simp [zerosL]

theorem run_makeBytes (w : World) (n : Int) (h0 : 0 ≤ n) (h1 : n ≤ 281474976710656) :
    (Instr.makeSlice 38 (.int .i64 n) (.int .i64 n)).run Tryd.prog w = .ok (.slice (some ⟨w.heap.size, 0, none⟩) n.toNat n.toNat) (w.alloc (.cells (rowA (zerosL n.toNat)) 5)) := by
  obtain ⟨i0, hi, hz0, hz1, hz2⟩ := info_parts Tryd.info5
  have := run_make (P := Tryd.prog) w 38 5 i0 (.int .u8 0) Tryd.underlying38 hi hz0 .i64 .i64 n n h0 (by omega) (by rw [hz2]; omega) (by omega)
  rw [this, hz1]
  simp only [Value.cells, madeCells_one, Nat.mul_one, rowA_zeros]

theorem run_make512 (w : World) : (Instr.makeSlice 38 (.int .i64 512) (.int .i64 512)).run Tryd.prog w = .ok (.slice (some ⟨w.heap.size, 0, none⟩) 512 512) (w.alloc (.cells (rowA (zerosL 512)) 5)) :=
  run_makeBytes w 512 (by omega) (by omega)

theorem byteV_mod (a : Int) : byteV (UInt8.ofNat (a % 256).toNat) = .int .u8 (a % 256) := by
  unfold byteV
  congr 1
  simp
  omega

/-- The bytes of a sector that tells a number. -/
def sectorL (a : Int) : List UInt8 :=
  (((zerosL 512).set 0 (UInt8.ofNat (a % 256).toNat)).set 1 (UInt8.ofNat (a / 256 % 256).toNat)).set 511 (UInt8.ofNat ((a + 1) % 256).toNat)
theorem sectorL_length (a : Int) : (sectorL a).length = 512 := by
  unfold sectorL; rw [List.length_set, List.length_set, List.length_set, zerosL_length]
theorem rowA_set (l : List UInt8) (i : Nat) (x : UInt8) : (rowA l).setIfInBounds i (byteV x) = rowA (l.set i x) := by
  simp [rowA]
theorem rowA_sectorL (a : Int) : (((rowA (zerosL 512)).setIfInBounds 0 (.int .u8 (a % 256))).setIfInBounds 1 (.int .u8 (a / 256 % 256))).setIfInBounds 511 (.int .u8 ((a + 1) % 256)) = rowA (sectorL a) := by
  rw [← byteV_mod, ← byteV_mod, ← byteV_mod, rowA_set, rowA_set, rowA_set]
  rfl

theorem zeros512_at (i : Nat) (h : i < 512) : (rowA (zerosL 512))[i]? = some (.int .u8 0) := by
  rw [← rowA_zeros]; simp [h]

set_option maxHeartbeats 400000 in
theorem sector_any (a : Int) (w : World) :
    Calls Tryd.prog 11 #[.int .i64 a] w fun e w' => e = .returned (.slice (some ⟨w.heap.size, 0, none⟩) 512 512) ∧ w.alloc (.cells (rowA (sectorL a)) 5) = w' := by
  have hmk := run_make512
  have z0 := zeros512_at 0 (by omega)
  have z1 := zeros512_at 1 (by omega)
  have z2 := zeros512_at 511 (by omega)
  have hfin := rowA_sectorL a
  generalize rowA (zerosL 512) = Z at hmk z0 z1 z2 hfin
  have hfin := Lib.hid hfin
  go_enter Tryd.func11, Tryd.ntmps11
  go_wp2
  go_ret
  exact ⟨rfl, by rw [← hfin.out]⟩

theorem run_convBytes {w : World} {v : Value} {l : List UInt8} {g : Nat} (h : Reads w v l g) : (convert 38 9 v).run Tryd.prog w = .ok (.string ⟨l.toArray⟩) w := by
  obtain ⟨off, cap, ⟨rfl, hc⟩ | ⟨⟨a, rfl⟩, rfl⟩⟩ := h
  · have := run_convert_bytes_arg (P := Tryd.prog) w 38 5 Tryd.underlying38 Tryd.underlying5 g off l.length cap (l.map fun x => (x.toNat : Int)) (by simp)
      (fun i hi => by rw [hc i hi]; simp [byteV, hi]) 9 Tryd.underlying9
    rw [this]
    congr 2
    simp only [strOfNums, List.map_map]
    congr 2
    have : ((fun n : Int => UInt8.ofNat n.toNat) ∘ fun x : UInt8 => (x.toNat : Int)) = id := by
      funext x; simp
    rw [this]; simp
  · cases a with
    | none => exact run_convert_bytes_nil (P := Tryd.prog) w 38 5 Tryd.underlying38 Tryd.underlying5 0 cap 9 Tryd.underlying9
    | some a =>
      rw [run_convert_bytes_string w _ _ _ _ _ _ Tryd.underlying38 Tryd.underlying5 Tryd.underlying9]
      simp [Conv.bytesToString, loadCells, loadCellsFrom]
      rfl

set_option maxHeartbeats 400000 in
theorem same_any (v1 v2 : Value) (l1 l2 : List UInt8) (g1 g2 : Nat) (w : World) (h1 : Reads w v1 l1 g1) (h2 : Reads w v2 l2 g2) :
    Calls Tryd.prog 16 #[v1, v2] w fun e w' => e = .returned (.bool (l1 == l2)) ∧ w = w' := by
  have c1 := run_convBytes h1
  have c2 := run_convBytes h2
  clear h1 h2
  go_enter Tryd.func16, Tryd.ntmps16
  go_wp2
  go_ret
  exact ⟨rfl, rfl⟩

theorem setRow_alloc_new (w : World) (c cs : Array Value) (t : TypeId) : (w.alloc (.cells c t)).setRow w.heap.size cs = w.alloc (.cells cs t) := by
  unfold World.setRow World.alloc
  congr 1
  apply Array.ext_getElem?
  intro k
  rw [Array.getElem?_modify]
  by_cases hk : w.heap.size = k
  · subst hk
    simp
  · have hk' : k ≠ w.heap.size := fun e => hk e.symm
    simp [hk, hk', Array.getElem?_push]

/-- Bytes, and 0 up to the length of a sector. -/
def padL (l : List UInt8) : List UInt8 := l ++ zerosL (512 - l.length)
theorem padL_length (l : List UInt8) (h : l.length ≤ 512) : (padL l).length = 512 := by
  unfold padL; rw [List.length_append, zerosL_length]; omega
theorem padL_full (l : List UInt8) (h : l.length = 512) : padL l = l := by
  unfold padL; rw [h]; exact List.append_nil l
theorem padL_nil : padL [] = zerosL 512 := by
  unfold padL; rfl
theorem zerosL_drop (n k : Nat) : (zerosL n).drop k = zerosL (n - k) := List.drop_replicate

theorem reads_cells {w : World} {a : Addr} {l : List UInt8} (h : ∀ i (hi : i < l.length), w.cell? ⟨a.block, a.off + i, none⟩ = some (byteV l[i])) (ha : a.spot = none) :
    ∀ j v, (l.map byteV)[j]? = some v → w.cell? (a.add j) = some v := by
  intro j v hj
  rw [List.getElem?_map] at hj
  obtain ⟨x, hx, rfl⟩ := Option.map_eq_some_iff.1 hj
  obtain ⟨hlt, rfl⟩ := List.getElem?_eq_some_iff.1 hx
  have hadd : a.add j = ⟨a.block, a.off + j, none⟩ := by
    unfold Addr.add; split
    · subst_vars; cases a; simp_all
    · rfl
  rw [hadd]; exact h j hlt

theorem run_copy512 {w : World} {v : Value} {l : List UInt8} {g : Nat} (h : Reads w v l g) (hl : l.length ≤ 512) (ty : TypeId) :
    (Builtin.copy_ #[38, 38] ty #[.slice (some ⟨w.heap.size, 0, none⟩) 512 512, v]).run Tryd.prog (w.alloc (.cells (rowA (zerosL 512)) 5)) =
      .ok (goInt l.length) (w.alloc (.cells (rowA (padL l)) 5)) := by
  have hsz : (Tryd.prog.info? 5).map (·.size) = some 1 := by
    obtain ⟨i0, hi, hz0, hz1, hz2⟩ := info_parts Tryd.info5
    rw [hi]; simp [hz1]
  obtain ⟨off, cap, ⟨rfl, hc⟩ | ⟨⟨a, rfl⟩, rfl⟩⟩ := h
  · by_cases h0 : l.length = 0
    · obtain rfl : l = [] := List.eq_nil_of_length_eq_zero h0
      rw [padL_nil]
      exact run_copy_none (P := Tryd.prog) _ _ _ _ 5 _ _ _ _ _ _ Tryd.underlying38 hsz (by simp)
    have hglt : g < w.heap.size := World.block_lt_of_cell? w ⟨g, off + 0, none⟩ (hc 0 (by omega))
    have := run_copy_row (P := Tryd.prog) (w.alloc (.cells (rowA (zerosL 512)) 5)) 38 38 ty 5 w.heap.size 0 512 512 ⟨g, off, none⟩ l.length cap (rowA (zerosL 512)) 5 (l.map byteV)
      Tryd.underlying38 hsz (heap_alloc_new w _) (by rw [List.length_map]; exact (Nat.min_eq_left hl).symm) (reads_cells (fun i hi => by
        rw [World.cell?_alloc_lt _ _ _ (by exact hglt)]; exact hc i hi) rfl) (by rw [List.length_map, rowA_size, zerosL_length]; omega) (by intro v hv; obtain ⟨x, _, rfl⟩ := List.mem_map.1 hv; rfl)
    rw [this, setRow_alloc_new, List.length_map]
    congr 4
    rw [rowA_list, List.take_zero, List.nil_append, Nat.zero_add, ← List.map_drop, ← List.map_append, zerosL_drop]
    rfl
  · rw [padL_nil]
    exact run_copy_none (P := Tryd.prog) _ _ _ _ 5 _ _ _ _ _ _ Tryd.underlying38 hsz (by simp)

set_option maxHeartbeats 400000 in
theorem sectorOf_any (v : Value) (l : List UInt8) (g : Nat) (w : World) (h : Reads w v l g) (hl : l.length ≤ 512) :
    Calls Tryd.prog 21 #[v] w fun e w' => e = .returned (.slice (some ⟨w.heap.size, 0, none⟩) 512 512) ∧ w.alloc (.cells (rowA (padL l)) 5) = w' := by
  have hmk := run_make512 w
  have hcp := run_copy512 h hl
  clear h hl
  generalize rowA (padL l) = Z at hcp ⊢
  generalize rowA (zerosL 512) = Z0 at hcp hmk
  go_enter Tryd.func21, Tryd.ntmps21
  go_wp2
  go_ret
  exact ⟨rfl, rfl⟩

end Go.Proofs.YtmedpmhiebcdjaaDoor
