/- Put and Field, and the document's own answers for them. -/
import Derived.Test.YticgojkfkplfoaaTak
namespace Go.Proofs.Yticgojkfkplfoaa
open Go.RowKit

theorem run_makeRoom (w : World) (n : Int) (h0 : 0 ≤ n) (h1 : n ≤ 281474976710656) :
    (Instr.makeSlice 22 (.int .i64 0) (.int .i64 n)).run Try.prog w = .ok (.slice (some ⟨w.heap.size, 0, none⟩) 0 n.toNat) (w.alloc (.cells (rowA (zerosL n.toNat)) 5)) := by
  obtain ⟨i0, hi, hz0, hz1, hz2⟩ := info_parts Try.info5
  have := run_make (P := Try.prog) w 22 5 i0 (.int .u8 0) Try.underlying22 hi hz0 .i64 .i64 0 n (by omega) h0 (by rw [hz2]; omega) (by omega)
  rw [this, hz1]
  simp only [Value.cells, madeCells_one, Nat.mul_one, rowA_zeros]
  rfl
/-- Room for so many bytes. -/
theorem own_room (w : World) (n : Nat) (h : n ≤ 281474976710656) : (w.alloc (.cells (rowA (zerosL n)) 5)).ownsRow w.heap.size 5 1 (.slice (some ⟨w.heap.size, 0, none⟩) 0 n) ([] : List UInt8).length (([] : List UInt8).map byteV) :=
  World.ownsRow_made w (rowA (zerosL n)) n (Nat.le_refl _) (by unfold maxLen; omega) (by rw [rowA_size, zerosL_length, Nat.mul_one])

/-- The word as it is shifted: what a round of Put wants. -/
theorem byte_at (x k : Nat) : ((x / 256 ^ k : Nat) : Int) % 256 = ((UInt8.ofNat (x / 256 ^ k % 256)).toNat : Int) := by
  rw [Oct.of_toNat]; omega
theorem one_row (c : UInt8) : #[Value.int .u8 (c.toNat : Int)] = rowA [c] := rfl
theorem div_next (x k : Nat) : ((x / 256 ^ k : Nat) : Int) / 256 = ((x / 256 ^ (k + 1) : Nat) : Int) := by
  rw [Nat.pow_succ, ← Nat.div_div_eq_div_mul]; omega

set_option maxHeartbeats 1000000 in
theorem put_any (v : Value) (l : List UInt8) (g : Nat) (size : Int) (s : Nat) (x : Nat) (w : World) (h : BV w v l g) (hl : l.length + 8 ≤ 4294967296) (hs : min (max size 0) 8 = (s : Int)) (hx : x < 18446744073709551616) :
    Calls Try.prog 10 #[v, .int .i64 size, .int .u64 (x : Int)] w fun e w' => (∃ v', e = .returned v' ∧ Fresh w w' v' (l ++ Oct.le s x)) ∧ Below w.heap.size w w' := by
  obtain ⟨a, cap, rfl, hc, hn⟩ := h.form
  have B := Lib.hid (fun W => between_any size 8 s W (by omega) hs)
  have hs8 : s ≤ 8 := by omega
  have H := Lib.hid h
  clear h hs hn
  have hmk := fun W => run_makeRoom W ((l.length : Int) + (s : Int)) (by omega) (by omega)
  rw [show ((l.length : Int) + (s : Int)).toNat = l.length + s by omega] at hmk
  go_enter Try.func10, Try.ntmps10
  go_wp2_with fail
  refine (B.out _).mono ?_
  rintro e w1 ⟨rfl, rfl⟩
  have HA := Lib.hid (H.out.alloc (.cells (rowA (zerosL (l.length + s))) 5))
  go_wp2_with (at_builtin; refine wpList_append_b rfl (.tmp 14) (.tmp 15) rfl w.heap.size (.slice (some ⟨w.heap.size, 0, none⟩) 0 (l.length + s)) [] rfl (own_room w _ (by omega)) _ l g rfl HA.out.reads HA.out.nilc (by simp; omega) (by simp) ?_; intro v1 w2 hown hgrow; have HO := Lib.hid hown; have HG := Lib.hid hgrow; clear hown hgrow)
  have HB := Lib.hid (((Below.refl w.heap.size w).alloc (Nat.le_refl _) (.cells (rowA (zerosL (l.length + s))) 5)).grown HG.out (by simp) (by intro k hk; simp [Value.ownBlock] at hk; omega))
  clear HG HA
  rw [List.nil_append] at HO
  go_loopw [2, 7, 18] (fun n out i wr => ∃ k : Nat, k ≤ s ∧ i = .int .i64 k ∧ n = .int .u64 ((x / 256 ^ k : Nat) : Int) ∧ wr.ownsRow w.heap.size 5 1 out (l ++ Oct.le k x).length ((l ++ Oct.le k x).map byteV) ∧ Below w.heap.size w wr) (fun _ _ i _ => s - (intOf i).toNat)
  case atStart => exact ⟨0, Nat.zero_le _, rfl, by simp, by simpa [Oct.le] using HO.out, HB.out⟩
  case round =>
    obtain ⟨k, hk, rfl, rfl, hown, hb⟩ := hrel
    by_cases hlt : k < s
    · have hbn := hb.size
      have hbc := byte_at x k
      have hdv := div_next x k
      have hle := Oct.le_succ k x
      have hxx : x / 256 ^ k < 18446744073709551616 := Nat.lt_of_le_of_lt (Nat.div_le_self _ _) hx
      generalize x / 256 ^ k = y at hbc hdv hle hxx ⊢
      generalize hz : x / 256 ^ (k + 1) = z at hdv
      have HZ := Lib.hid hz
      clear hz
      generalize UInt8.ofNat (y % 256) = c at hbc hle
      have HLE := Lib.hid hle
      have HOW := Lib.hid hown
      have HBW := Lib.hid hb
      have HL8 := Lib.hid (show (l ++ Oct.le k x).length + [c].length ≤ 4294967296 by simp [Oct.le_length]; omega)
      have HLT := Lib.hid (lit_reads wr #[.int .u8 (c.toNat : Int)] (0, 0) [c] 1 1 (one_row c) rfl)
      clear hle hown hb
      go_wp2_with (at_builtin; refine wpList_append_b rfl (.tmp 20) (.tmp 23) rfl w.heap.size _ (l ++ Oct.le k x) rfl (HOW.out.alloc _) _ [c] wr.heap.size rfl HLT.out (by intro k c h; cases h) HL8.out (by simp; omega) ?_; intro v2 w3 hown hgrow; have HO2 := Lib.hid hown; have HG2 := Lib.hid hgrow; clear hown hgrow)
      have HB2 := Lib.hid ((HBW.out.alloc hbn (.cells #[.int .u8 (c.toNat : Int)] 5)).grown HG2.out (Nat.le_trans hbn (by simp)) fun k hk => (HOW.out.lt k hk).1)
      clear HG2
      go_roundw
      case rel => exact ⟨k + 1, by omega, by go_num, by rw [HZ.out], by have := HO2.out; rw [List.append_assoc, ← HLE.out] at this; exact this, HB2.out⟩
      case measure => simp [intOf]; omega
    · obtain rfl : k = s := by omega
      have HOW := Lib.hid hown
      have HBW := Lib.hid hb
      clear hown hb
      go_wp2
      go_ret
      obtain ⟨g', hv, hg'⟩ := BV.of_own HOW.out
      exact ⟨⟨_, rfl, g', hv, hg'⟩, HBW.out⟩

theorem setRow_alloc_new (w : World) (c cs : Array Value) (t : TypeId) : (w.alloc (.cells c t)).setRow w.heap.size cs = w.alloc (.cells cs t) := by
  unfold World.setRow World.alloc
  congr 1
  apply Array.ext_getElem?
  intro k
  rw [Array.getElem?_modify]
  by_cases hk : w.heap.size = k
  · subst hk
    simp
  · have hk' : k ≠ w.heap.size := fun e => hk e.symm
    simp [hk, hk', Array.getElem?_push]

theorem reads_cells {w : World} {a : Addr} {l : List UInt8} (h : ∀ i (hi : i < l.length), w.cell? ⟨a.block, a.off + i, none⟩ = some (byteV l[i])) (ha : a.spot = none) :
    ∀ j v, (l.map byteV)[j]? = some v → w.cell? (a.add j) = some v := by
  intro j v hj
  rw [List.getElem?_map] at hj
  obtain ⟨x, hx, rfl⟩ := Option.map_eq_some_iff.1 hj
  obtain ⟨hlt, rfl⟩ := List.getElem?_eq_some_iff.1 hx
  have hadd : a.add j = ⟨a.block, a.off + j, none⟩ := by
    unfold Addr.add; split
    · subst_vars; cases a; simp_all
    · rfl
  rw [hadd]; exact h j hlt

theorem zerosL_drop (n k : Nat) : (zerosL n).drop k = zerosL (n - k) := List.drop_replicate
theorem run_copyN {w : World} {v : Value} {l : List UInt8} {g : Nat} (n : Nat) (h : Reads w v l g) (ty : TypeId) :
    (Builtin.copy_ #[22, 22] ty #[.slice (some ⟨w.heap.size, 0, none⟩) n n, v]).run Try.prog (w.alloc (.cells (rowA (zerosL n)) 5)) =
      .ok (goInt (min l.length n : Nat)) (w.alloc (.cells (rowA (Oct.fieldL l n)) 5)) := by
  have hsz : (Try.prog.info? 5).map (·.size) = some 1 := by
    obtain ⟨i0, hi, hz0, hz1, hz2⟩ := info_parts Try.info5
    rw [hi]; simp [hz1]
  have hnil : Oct.fieldL [] n = zerosL n := by simp [Oct.fieldL, zerosL]
  obtain ⟨off, cap, ⟨rfl, hc⟩ | ⟨⟨a, rfl⟩, rfl⟩⟩ := h
  · by_cases h0 : l.length = 0
    · obtain rfl : l = [] := List.eq_nil_of_length_eq_zero h0
      rw [hnil]
      have := run_copy_none (P := Try.prog) (w.alloc (.cells (rowA (zerosL n)) 5)) 22 22 ty 5 (some ⟨w.heap.size, 0, none⟩) (some ⟨g, off, none⟩) n n 0 cap Try.underlying22 hsz (by simp)
      simpa using this
    have hglt : g < w.heap.size := World.block_lt_of_cell? w ⟨g, off + 0, none⟩ (hc 0 (by omega))
    have hln : (l.take n).length = min l.length n := by rw [List.length_take, Nat.min_comm]
    have := run_copy_row (P := Try.prog) (w.alloc (.cells (rowA (zerosL n)) 5)) 22 22 ty 5 w.heap.size 0 n n ⟨g, off, none⟩ l.length cap (rowA (zerosL n)) 5 ((l.take n).map byteV)
      Try.underlying22 hsz (heap_alloc_new w _) (by rw [List.length_map, hln]) (reads_cells (l := l.take n) (fun i hi => by
        rw [World.cell?_alloc_lt _ _ _ (by exact hglt), List.getElem_take]; exact hc i (by rw [hln] at hi; omega)) rfl) (by rw [List.length_map, rowA_size, zerosL_length, hln]; omega) (by intro v hv; obtain ⟨x, _, rfl⟩ := List.mem_map.1 hv; rfl)
    rw [this, setRow_alloc_new, List.length_map, hln]
    congr 4
    rw [rowA_list, List.take_zero, List.nil_append, Nat.zero_add, ← List.map_drop, ← List.map_append, zerosL_drop]
    unfold Oct.fieldL zerosL
    rw [show n - min l.length n = n - l.length by omega]
  · rw [hnil]
    have := run_copy_none (P := Try.prog) (w.alloc (.cells (rowA (zerosL n)) 5)) 22 22 ty 5 (some ⟨w.heap.size, 0, none⟩) a n n 0 cap Try.underlying22 hsz (by simp)
    simpa using this

set_option maxHeartbeats 400000 in
theorem field_any (v : Value) (l : List UInt8) (g : Nat) (n : Int) (k : Nat) (w : World) (h : BV w v l g) (hk : min (max n 0) 4096 = (k : Int)) :
    Calls Try.prog 11 #[v, .int .i64 n] w fun e w' => e = .returned (.slice (some ⟨w.heap.size, 0, none⟩) k k) ∧ w.alloc (.cells (rowA (Oct.fieldL l k)) 5) = w' := by
  have B := Lib.hid (fun W => between_any n 4096 k W (by omega) hk)
  have hk9 : k ≤ 4096 := by omega
  have hmk := run_makeBytes w (k : Int) (by omega) (by omega)
  rw [Int.toNat_natCast] at hmk
  have hcp := run_copyN k h.reads
  obtain ⟨a, cap, rfl, -⟩ := h.form
  clear h hk
  generalize rowA (Oct.fieldL l k) = Z at hcp ⊢
  generalize rowA (zerosL k) = Z0 at hcp hmk
  go_enter Try.func11, Try.ntmps11
  go_wp2_with fail
  refine (B.out _).mono ?_
  rintro e w1 ⟨rfl, rfl⟩
  go_wp2
  go_ret
  exact ⟨rfl, rfl⟩
/-- What Field hands out. -/
theorem field_fresh (w : World) (l : List UInt8) (k : Nat) : BV (w.alloc (.cells (rowA (Oct.fieldL l k)) 5)) (.slice (some ⟨w.heap.size, 0, none⟩) k k) (Oct.fieldL l k) w.heap.size :=
  BV.lit w _ (0, 0) _ k k rfl (Oct.fieldL_length l k).symm (Nat.le_refl _)

end Go.Proofs.Yticgojkfkplfoaa
