/- Rings of nothing (struct{}): which place a number is; Go, Len, New. Rings of 1 to 2^20 places. -/
import Derived.Test.YthapggobpfcmjaaGreatRgm
set_option maxRecDepth 100000
namespace Go.Proofs.YthapggobpfcmjaaGreat
namespace Rg
open Go.RowKit

/-- A ring of nothing: its block holds a slice of n values that take no room. -/
def RingE (w : World) (R g n : Nat) : Prop := w.heap[R]? = some (.cells #[.slice (some ⟨g, 0, none⟩) n n] 109 (0, 0))
section
variable {w w1 : World} {R g n : Nat} {F : Nat → Prop}
theorem RingE.touch (h : RingE w R g n) (ht : Touch F w w1) (hR : ¬ F R) : RingE w1 R g n := ht.at h hR
theorem RingE.lt (h : RingE w R g n) : R < w.heap.size := lt_of_heap h
theorem RingE.below (h : RingE w R g n) (hb : Below w.heap.size w w1) : RingE w1 R g n := h.touch (F := Emp) (Touch.of_below hb) id
theorem RingE.drewN (h : RingE w R g n) (k : Nat) : RingE (w.drewN k) R g n := h
theorem RingE.drew (h : RingE w R g n) : RingE w.drew R g n := h
theorem RingE.hcell (h : RingE w R g n) : w.cell? ⟨R, 0, none⟩ = some (.slice (some ⟨g, 0, none⟩) n n) := by
  have := cell_of_row w R 0 _ _ _ h
  simpa using this
end

set_option maxHeartbeats 400000 in
theorem place_c (R g n : Nat) (a : Int) (w : World) (hc : w.cell? ⟨R, 0, none⟩ = some (.slice (some ⟨g, 0, none⟩) n n)) (hn : 1 ≤ n) (hm : n ≤ 1048576) :
    Calls Tryz.prog 89 #[.pointer (some ⟨R, 0, none⟩), .int .i64 a] w fun e w' => e = .returned (.int .i64 (a % n)) ∧ w = w' := by
  by_cases h0 : 0 ≤ a
  · obtain ⟨b1, b2⟩ := place_bd a n hn
    go_enter Tryz.func89, Tryz.ntmps89
    go_wp2
    go_ret
    exact ⟨rfl, rfl⟩
  · obtain ⟨b1, b2, b3, b4⟩ := tmod_neg a n (by omega) hn
    have B3 := Lib.hid b3
    have B4 := Lib.hid b4
    clear b3 b4
    by_cases hlt : a.tmod n < 0
    · go_enter Tryz.func89, Tryz.ntmps89
      go_wp2
      go_ret
      exact ⟨by rw [B3.out hlt]; rfl, rfl⟩
    · go_enter Tryz.func89, Tryz.ntmps89
      go_wp2
      go_ret
      exact ⟨by rw [B4.out hlt]; rfl, rfl⟩

set_option maxHeartbeats 400000 in
theorem go_c (R g n : Nat) (a b : Int) (w : World) (hc : w.cell? ⟨R, 0, none⟩ = some (.slice (some ⟨g, 0, none⟩) n n)) (hn : 1 ≤ n) (hm : n ≤ 1048576) :
    Calls Tryz.prog 57 #[.pointer (some ⟨R, 0, none⟩), .int .i64 a, .int .i64 b] w fun e w' => e = .returned (.int .i64 ((a + b) % n)) ∧ w = w' := by
  have P1 := Lib.hid (place_c R g n a w hc hn hm)
  have P2 := Lib.hid (place_c R g n b w hc hn hm)
  have P3 := Lib.hid (place_c R g n (a % n + b % n) w hc hn hm)
  have HP := Lib.hid (go_place a b n)
  obtain ⟨a1, a2⟩ := place_bd a n hn
  obtain ⟨b1, b2⟩ := place_bd b n hn
  clear hc
  go_enter Tryz.func57, Tryz.ntmps57
  go_wp2_with fail
  refine P1.out.mono ?_
  rintro e w' ⟨rfl, rfl⟩
  go_wp2_with fail
  refine P2.out.mono ?_
  rintro e w' ⟨rfl, rfl⟩
  go_wp2_with fail
  refine P3.out.mono ?_
  rintro e w' ⟨rfl, rfl⟩
  go_wp2
  go_ret
  exact ⟨rfl, rfl⟩

theorem go_e (R g n : Nat) (a b : Int) (w : World) (h : RingE w R g n) (hn : 1 ≤ n) (hm : n ≤ 1048576) :
    Calls Tryz.prog 57 #[.pointer (some ⟨R, 0, none⟩), .int .i64 a, .int .i64 b] w fun e w' => e = .returned (.int .i64 ((a + b) % n)) ∧ w = w' := go_c R g n a b w h.hcell hn hm

set_option maxHeartbeats 400000 in
theorem len_e (R g n : Nat) (w : World) (h : RingE w R g n) :
    Calls Tryz.prog 56 #[.pointer (some ⟨R, 0, none⟩)] w fun e w' => e = .returned (.int .i64 (n : Int)) ∧ w = w' := by
  have hc := h.hcell
  clear h
  go_enter Tryz.func56, Tryz.ntmps56
  go_wp2
  go_ret
  exact ⟨rfl, rfl⟩

theorem clamp_run (n : Int) (m : Nat) (hm : min (max n 1) 1048576 = (m : Int)) : ∃ x : Int, (∀ W : World, (Builtin.max_ #[3, 3] 3 #[.int .i64 n, .int .i64 1]).run Tryz.prog W = .ok (.int .i64 x) W) ∧ (∀ W : World, (Builtin.min_ #[3, 3] 3 #[.int .i64 x, .int .i64 1048576]).run Tryz.prog W = .ok (.int .i64 (m : Int)) W) := by
  refine ⟨max n 1, fun W => ?_, fun W => ?_⟩
  · simp [Builtin.max_, Builtin.max2]
    split <;> omega
  · simp [Builtin.min_, Builtin.min2]
    split <;> omega

theorem Tryz.infoE : (Tryz.prog.info? 69).map (fun i => (i.zero, i.size, i.bytes)) = some (some (.agg #[]), 0, 0) := by kernel_rfl
theorem make_e (w : World) (m : Nat) (hm : m ≤ 1048576) :
    (Instr.makeSlice 107 (.int .i64 (m : Int)) (.int .i64 (m : Int))).run Tryz.prog w = .ok (.slice (some ⟨w.heap.size, 0, none⟩) m m) (w.alloc (.cells #[] 69)) := by
  obtain ⟨i0, hi, hz0, hz1, hz2⟩ := info_parts Tryz.infoE
  have := run_make (P := Tryz.prog) w 107 69 i0 (.agg #[]) Tryz.underlying107 hi hz0 .i64 .i64 m m (by omega) (by omega) (by rw [hz2]; omega) (by omega)
  rw [this, hz1]
  have hz : madeCells (Value.agg #[]).cells ((m : Int).toNat * 0) = #[] := by
    apply Array.eq_empty_of_size_eq_zero
    simp [madeCells]
  rw [hz]
  rfl

set_option maxHeartbeats 1000000 in
theorem new_e (n : Int) (m : Nat) (w : World) (hm : min (max n 1) 1048576 = (m : Int)) :
    Calls Tryz.prog 21 #[.int .i64 n, .agg #[]] w fun e w' => (∃ R g, e = .returned (.pointer (some ⟨R, 0, none⟩)) ∧ RingE w' R g m ∧ w.heap.size ≤ R) ∧ Below w.heap.size w w' := by
  have hm1 : 1 ≤ m ∧ m ≤ 1048576 := by omega
  obtain ⟨hm1, hm2⟩ := hm1
  obtain ⟨x0, hx, hy⟩ := clamp_run n m hm
  have hk := fun W => make_e W m hm2
  clear hm
  go_enter Tryz.func21, Tryz.ntmps21
  go_wp2
  go_loopw [13] (fun i wr => ∃ k : Nat, k ≤ m ∧ i = .int .i64 k ∧ Below w.heap.size w wr) (fun i _ => m - (intOf i).toNat)
  case atStart => exact ⟨0, Nat.zero_le _, rfl, ((Below.refl _ w).alloc (Nat.le_refl _) _).alloc (by simp) _⟩
  case round =>
    obtain ⟨k, hk, rfl, hF⟩ := hrel
    have HF := Lib.hid hF
    clear hF
    by_cases hlt : k < m
    · go_wp2
      go_roundw
      case rel => exact ⟨k + 1, by omega, by go_num, HF.out⟩
      case measure => simp [intOf]; omega
    · obtain rfl : k = m := by omega
      clear hk
      go_wp2
      go_ret
      exact ⟨⟨_, _, rfl, heap_alloc_new wr _, HF.out.size⟩, HF.out.alloc HF.out.size _⟩

end Rg
end Go.Proofs.YthapggobpfcmjaaGreat
