/- slices.Repeat of one number. At most 2^20 of it. -/
import Derived.Test.YthapggobpfcmjaaDvc
import Derived.Test.YthapggobpfcmjaaBit
import Derived.Laws.CopyRow
import Derived.Laws.IdiomCopy
import Derived.Deep.RegionWith
import Derived.Lib.Hide
set_option maxRecDepth 100000
namespace Go.Proofs.Ythapggobpfcmjaa
namespace Rq
open Go.RowKit

theorem and_low32 (x : Nat) (h : x < 4294967296) : bits .and .u64 (x : Int) 4294967295 = (x : Int) := by
  have h1 : (BitVec.ofInt 64 (x : Int)).toNat = x := by
    rw [BitVec.ofInt_natCast, BitVec.toNat_ofNat]; exact Nat.mod_eq_of_lt (by omega)
  have h2 : (BitVec.ofInt 64 (4294967295 : Int)).toNat = 2 ^ 32 - 1 := by decide
  show IntKind.u64.wrap ((BitVec.ofInt 64 (x : Int) &&& BitVec.ofInt 64 (4294967295 : Int)).toNat : Int) = _
  rw [BitVec.toNat_and, h1, h2, Nat.and_two_pow_sub_one_eq_mod, Nat.mod_eq_of_lt (by omega)]
  rw [IntKind.wrap_u64]
  omega

set_option maxHeartbeats 400000 in
theorem mul64_one (n : Nat) (w : World) (hn : n ≤ 1048576) :
    Calls Try.prog 80 #[.int .u64 1, .int .u64 (n : Int)] w fun e w' => e = .returned (.tuple #[.int .u64 0, .int .u64 (n : Int)]) ∧ w = w' := by
  have ha := and_low32 n (by omega)
  have hb : bits .and .u64 1 4294967295 = 1 := by decide
  have hz : bits .and .u64 0 4294967295 = 0 := by decide
  have h1 : (1 : Int) * (n : Int) = (n : Int) := by omega
  have hs : (n : Int) / 4294967296 = 0 := by omega
  go_enter Try.func80, Try.ntmps80
  go_wp2
  go_ret2
  exact ⟨rfl, rfl⟩


set_option maxHeartbeats 400000 in
theorem mul_one (n : Nat) (w : World) (hn : n ≤ 1048576) :
    Calls Try.prog 73 #[.int .u64 1, .int .u64 (n : Int)] w fun e w' => e = .returned (.tuple #[.int .u64 0, .int .u64 (n : Int)]) ∧ w = w' := by
  have M := Lib.hid (mul64_one n w hn)
  go_enter Try.func73, Try.ntmps73
  go_wp2_with fail
  refine M.out.mono ?_
  rintro e w' ⟨rfl, rfl⟩
  go_wp2
  go_ret2
  exact ⟨rfl, rfl⟩

theorem madeCells_one' (z : Value) (n : Nat) : madeCells #[z] n = Array.replicate n z := by
  unfold madeCells
  apply Array.ext
  · simp
  · intro i h1 h2
    simp [Nat.mod_one]
/-- A row that is filled: k cells of m. -/
def fillR (v z : Value) (m k : Nat) : List Value := List.replicate k v ++ List.replicate (m - k) z
theorem fillR_zero (v z : Value) (m : Nat) : fillR v z m 0 = List.replicate m z := by simp [fillR]
theorem fillR_full (v z : Value) (m : Nat) : fillR v z m m = List.replicate m v := by simp [fillR]
theorem fillR_length (v z : Value) (m k : Nat) (h : k ≤ m) : (fillR v z m k).length = m := by simp [fillR]; omega
theorem fillR_get (v z : Value) {m k i : Nat} (hi : i < k) : (fillR v z m k)[i]? = some v := by simp [fillR, hi, List.getElem?_append]
theorem fillR_copy (v z : Value) (m k j : Nat) (h : k + j ≤ m) : ((fillR v z m k).toArray.toList.take k ++ List.replicate j v ++ (fillR v z m k).toArray.toList.drop (k + j)).toArray = (fillR v z m (k + j)).toArray := by
  congr 1
  simp only [fillR]
  rw [List.take_append_of_le_length (by simp), List.drop_append, List.length_replicate]
  rw [List.drop_eq_nil_of_le (by simp), List.nil_append, List.drop_replicate, List.take_of_length_le (by simp), List.replicate_append_replicate]
  congr 2
  omega
theorem Try.infoRq : (Try.prog.info? 3).map (fun i => (i.zero, i.size, i.bytes)) = some (some (.int .i64 0), 1, 8) := by kernel_rfl
theorem make_i (w : World) (m : Nat) (hm : m ≤ 1048576) :
    (Instr.makeSlice 43 (.int .i64 (m : Int)) (.int .i64 (m : Int))).run Try.prog w = .ok (.slice (some ⟨w.heap.size, 0, none⟩) m m) (w.alloc (.cells (List.replicate m (.int .i64 0)).toArray 3)) := by
  obtain ⟨i0, hi, hz0, hz1, hz2⟩ := info_parts Try.infoRq
  have := run_make (P := Try.prog) w 43 3 i0 (.int .i64 0) Try.underlying43 hi hz0 .i64 .i64 m m (by omega) (by omega) (by rw [hz2]; omega) (by omega)
  rw [this, hz1]
  simp only [Value.cells, madeCells_one', Nat.mul_one, Int.toNat_natCast, List.toArray_replicate]
theorem size_i : (Try.prog.info? 3).map (·.size) = some 1 := by
  obtain ⟨i0, hi, hz0, hz1, hz2⟩ := info_parts Try.infoRq
  rw [hi]; simp [hz1]
/-- The first copy: one number, or none. -/
theorem copy_first (w : World) (g N m c : Nat) (x : Int) (ty : TypeId) (hx : w.cell? ⟨g, 0, none⟩ = some (.int .i64 x)) (hN : w.heap[N]? = some (.cells (fillR (.int .i64 x) (.int .i64 0) m 0).toArray 3 (0, 0))) :
    (Builtin.copy_ #[43, 43] ty #[.slice (some ⟨N, 0, none⟩) m m, .slice (some ⟨g, 0, none⟩) 1 c]).run Try.prog w = .ok (goInt (min 1 m : Nat)) (w.setRow N (fillR (.int .i64 x) (.int .i64 0) m (min 1 m)).toArray) := by
  have hl : (List.replicate (min 1 m) (Value.int .i64 x)).length = Nat.min 1 m := by simp
  have := run_copy_row (P := Try.prog) w 43 43 ty 3 N 0 m m ⟨g, 0, none⟩ 1 c _ 3 (List.replicate (min 1 m) (.int .i64 x))
    Try.underlying43 size_i hN hl (by
      intro j v hj
      rw [List.getElem?_replicate] at hj
      split at hj
      · cases hj
        obtain rfl : j = 0 := by omega
        exact hx
      · cases hj) (by simp [fillR]; omega) (by intro v hv; rw [List.eq_of_mem_replicate hv]; rfl)
  rw [this, List.length_replicate, fillR_copy _ _ _ _ _ (by omega), Nat.zero_add]
/-- The later copies: what is there is laid behind itself. -/
theorem copy_more (w : World) (N m k : Nat) (x : Int) (ty : TypeId) (hk : k ≤ m) (hN : w.heap[N]? = some (.cells (fillR (.int .i64 x) (.int .i64 0) m k).toArray 3 (0, 0))) :
    (Builtin.copy_ #[43, 43] ty #[.slice (some ⟨N, k, none⟩) (m - k) (m - k), .slice (some ⟨N, 0, none⟩) k m]).run Try.prog w = .ok (goInt (min k (m - k) : Nat)) (w.setRow N (fillR (.int .i64 x) (.int .i64 0) m (k + min k (m - k))).toArray) := by
  have hl : (List.replicate (min k (m - k)) (Value.int .i64 x)).length = Nat.min k (m - k) := by simp
  have := run_copy_row (P := Try.prog) w 43 43 ty 3 N k (m - k) (m - k) ⟨N, 0, none⟩ k m _ 3 (List.replicate (min k (m - k)) (.int .i64 x))
    Try.underlying43 size_i hN hl (by
      intro j v hj
      rw [List.getElem?_replicate] at hj
      split at hj
      · cases hj
        have e : (⟨N, 0, none⟩ : Addr).add j = ⟨N, j, none⟩ := by unfold Addr.add; split <;> simp_all
        rw [e, cell_of_row w N j _ _ _ hN]
        simpa using fillR_get (.int .i64 x) (.int .i64 0) (show j < k by omega)
      · cases hj) (by rw [List.size_toArray, fillR_length _ _ _ _ hk, List.length_replicate]; omega) (by intro v hv; rw [List.eq_of_mem_replicate hv]; rfl)
  rw [this, List.length_replicate, fillR_copy _ _ _ _ _ (by omega)]

/-- What Repeat has built so far. -/
structure Rep (w : World) (x : Int) (m k : Nat) (wr : World) : Prop where
  below : Below w.heap.size w wr
  row : wr.heap[w.heap.size]? = some (.cells (fillR (.int .i64 x) (.int .i64 0) m k).toArray 3 (0, 0))
theorem Rep.step {w wr : World} {x : Int} {m k : Nat} (h : Rep w x m k wr) (k' : Nat) : Rep w x m k' (wr.setRow w.heap.size (fillR (.int .i64 x) (.int .i64 0) m k').toArray) :=
  ⟨((Touch.of_below (F := Emp) h.below).setRow (.inr (Nat.le_refl _)) _).below, setRow_heap wr _ _ _ _ _ h.row⟩
theorem Rep.drewN {w wr : World} {x : Int} {m k : Nat} (h : Rep w x m k wr) (n : Nat) : Rep w x m k (wr.drewN n) :=
  ⟨((Touch.of_below (F := Emp) h.below).drewN n).below, h.row⟩
theorem Rep.start (w : World) (x : Int) (m : Nat) : Rep w x m 0 (w.alloc (.cells (List.replicate m (.int .i64 0)).toArray 3)) :=
  ⟨(Below.refl _ w).alloc (Nat.le_refl _) _, by rw [fillR_zero]; exact heap_alloc_new w _⟩

set_option maxRecDepth 100000 in
set_option maxHeartbeats 1000000 in
theorem repeat_one (g m : Nat) (x : Int) (w : World) (hm : m ≤ 1048576) (hx : w.cell? ⟨g, 0, none⟩ = some (.int .i64 x)) :
    Calls Try.prog 65 #[.slice (some ⟨g, 0, none⟩) 1 1, .int .i64 (m : Int)] w fun e w' => e = .returned (.slice (some ⟨w.heap.size, 0, none⟩) m m) ∧ Rep w x m m w' := by
  have MU := Lib.hid (mul_one m w hm)
  have hmk := make_i w m hm
  have R0 := Lib.hid (Rep.start w x m)
  have hx1 : (w.alloc (.cells (List.replicate m (.int .i64 0)).toArray 3)).cell? ⟨g, 0, none⟩ = some (.int .i64 x) := by
    rw [World.cell?_alloc_lt _ _ _ (World.block_lt_of_cell? w ⟨g, 0, none⟩ hx)]; exact hx
  have hcp := fun ty => copy_first _ g w.heap.size m 1 x ty hx1 R0.out.row
  have R1 := Lib.hid (R0.out.step (min 1 m))
  clear hx hx1
  generalize (w.alloc (.cells (List.replicate m (.int .i64 0)).toArray 3)) = W0 at *
  have hk1 : min 1 m ≤ m ∧ (1 ≤ min 1 m ∨ m = 0) := by omega
  generalize min 1 m = k1 at *
  go_enter Try.func65, Try.ntmps65
  go_wp2_with fail
  refine MU.out.mono ?_
  rintro e w' ⟨rfl, rfl⟩
  go_wp2
  go_loopw [8] (fun i wr => ∃ k : Nat, k ≤ m ∧ (1 ≤ k ∨ m = 0) ∧ i = .int .i64 k ∧ Rep w x m k wr) (fun i _ => m - (intOf i).toNat)
  case atStart => exact ⟨k1, hk1.1, hk1.2, rfl, R1.out⟩
  case round =>
    obtain ⟨k, hk, hk0, rfl, hF⟩ := hrel
    have HF := Lib.hid hF
    by_cases hlt : k < m
    · have hcm := fun ty => copy_more wr.drew w.heap.size m k x ty hk hF.row
      have HK := Lib.hid hk0
      clear hF hk0
      go_wp2_with fail
      go_region
      go_roundw
      case rel => exact ⟨.int .i64 ((k : Int) + (min k (m - k) : Nat)), _, _, _, _, _, _, _, _, _, _, _, _, _, ⟨k + min k (m - k), by omega, by have := HK.out; omega, rfl, (HF.out.drewN 1).step _⟩, rfl⟩
      case measure =>
        have := HK.out
        simp [intOf]
        omega
    · obtain rfl : k = m := by omega
      clear hk hF
      go_wp2
      go_ret
      exact ⟨rfl, HF.out⟩


end Rq
end Go.Proofs.Ythapggobpfcmjaa
