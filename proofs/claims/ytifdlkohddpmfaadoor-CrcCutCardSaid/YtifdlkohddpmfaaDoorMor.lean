/- More and Sum: what they return. Conditions: the bytes read, and the table is as its text says. -/
import Derived.Test.YtifdlkohddpmfaaDoorU32
import Derived.Test.YtifdlkohddpmfaaDoorByt
import Derived.Lib.SlBytesConst
import Derived.Deep.RegionLaw
import Derived.Deep.CutBlock
import Derived.Deep.DeepCutAuto
namespace Go.Proofs.YtifdlkohddpmfaaDoor
open Go.RowKit

/-- The table is as its text says. -/
def Half (w : World) : Prop := ∀ i, i < 16 → w.cell? ⟨0, i, none⟩ = (half[i]?).map fun n => Value.int .u32 n
theorem Half.at {w : World} (h : Half w) (x : BitVec 32) : w.cell? ⟨0, (x &&& 15#32).toNat, none⟩ = some (.int .u32 (num (Crc.nib (x &&& 15#32)))) := by
  rw [h _ (and_15_lt x), half_at]; rfl
theorem Half.touch {F : Nat → Prop} {w w' : World} (h : Half w) (ht : Touch F w w') (h0 : ¬ F 0) : Half w' := fun i hi => by
  have hs : ∃ c, w.cell? ⟨0, i, none⟩ = some c := by
    rw [h i hi]; unfold half; rw [List.getElem?_map, List.getElem?_range hi]; exact ⟨_, rfl⟩
  obtain ⟨c, hc⟩ := hs
  rw [← h i hi]
  exact World.cell?_of_block (ht.block 0 (World.block_lt_of_cell? w _ hc) h0)
theorem Half.below {w w' : World} (h : Half w) (hb : Below w.heap.size w w') : Half w' := h.touch (Touch.of_below (F := Emp) hb) id
theorem Half.alloc {w : World} (h : Half w) (o : Obj) : Half (w.alloc o) := h.touch ((Touch.refl Emp w).alloc o) id
theorem Half.size {w : World} (h : Half w) : 0 < w.heap.size := by
  have hc := h 0 (by omega)
  unfold half at hc; rw [List.getElem?_map, List.getElem?_range (by omega)] at hc
  exact World.block_lt_of_cell? w _ hc
/-- What one round of half a byte wants. -/
theorem nib_facts {w : World} (h : Half w) (x : BitVec 32) : ∃ k : Nat, k < 16 ∧ bits .and .u32 (num x) 15 = (k : Int) ∧ w.cell? ⟨0, k, none⟩ = some (.int .u32 (num (Crc.nib (x &&& 15#32)))) ∧
    bits .xor .u32 (num x / 16) (num (Crc.nib (x &&& 15#32))) = num (Crc.nib x) := by
  refine ⟨(x &&& 15#32).toNat, and_15_lt x, and_15 x, h.at x, ?_⟩
  rw [shr4_num, half_step x, xor_num]

set_option maxHeartbeats 400000 in
theorem more_any (s : BitVec 32) (v : Value) (l : List UInt8) (g : Nat) (w : World) (hh : Half w) (h : Reads w v l g) (hl : l.length ≤ 4294967296) :
    Calls Tryd.prog 14 #[.int .u32 (num s), v] w fun e w' => e = .returned (.int .u32 (num (Crc.more s l))) ∧ w = w' := by
  obtain ⟨a, cap, rfl, hc⟩ : ∃ a cap, v = .slice a l.length cap ∧ (l ≠ [] → ∃ off, a = some ⟨g, off, none⟩ ∧ ∀ i (h : i < l.length), w.cell? ⟨g, off + i, none⟩ = some (byteV l[i])) := by
    obtain ⟨off, cap, ⟨rfl, h⟩ | ⟨⟨a, rfl⟩, rfl⟩⟩ := h
    · exact ⟨_, cap, rfl, fun _ => ⟨off, rfl, h⟩⟩
    · exact ⟨a, cap, rfl, fun h => absurd rfl h⟩
  have HH := Lib.hid hh
  have HC := Lib.hid hc
  clear hh hc h
  go_enter Tryd.func14, Tryd.ntmps14
  go_wp2
  go_loopw [5, 11] (fun x i wr => ∃ k : Nat, k ≤ l.length ∧ i = .int .i64 k ∧ x = .int .u32 (num (Crc.run (~~~ s) (l.take k))) ∧ w = wr) (fun _ i _ => l.length - (intOf i).toNat)
  case atStart => exact ⟨0, Nat.zero_le _, rfl, by rw [not_num]; rfl, rfl⟩
  case round =>
    obtain ⟨k, hk, rfl, rfl, rfl⟩ := hrel
    by_cases hlt : k < l.length
    · obtain ⟨off, rfl, hcs⟩ := HC.out (by rintro rfl; simp at hlt)
      have hck := hcs k hlt
      unfold byteV at hck
      have hx : bits .xor .u32 (num (Crc.run (~~~ s) (l.take k))) ((l[k].toNat : Int) % 4294967296) = num (Crc.run (~~~ s) (l.take k) ^^^ Crc.wide l[k]) := by
        rw [← xor_byte, Int.emod_eq_of_lt (by omega) (by have := l[k].toNat_lt; omega)]
      have hup : Crc.run (~~~ s) (l.take (k + 1)) = Crc.step (Crc.run (~~~ s) (l.take k) ^^^ Crc.wide l[k]) := by
        rw [List.take_succ_eq_append_getElem hlt, Crc.run_append]; rfl
      have HUP := Lib.hid hup
      generalize l[k] = b at hck hx HUP
      generalize Crc.run (~~~ s) (l.take k) = y at hx HUP ⊢
      clear hcs hup
      go_wp2
      generalize y ^^^ Crc.wide b = z at hx HUP
      go_loopw [5, 21] (fun x i wr => ((i = .int .i64 0 ∧ x = .int .u32 (num z)) ∨ (i = .int .i64 1 ∧ x = .int .u32 (num (Crc.nib z))) ∨ (i = .int .i64 2 ∧ x = .int .u32 (num (Crc.step z)))) ∧ w = wr) (fun _ i _ => 2 - (intOf i).toNat)
      case atStart => exact ⟨.inl ⟨rfl, rfl⟩, rfl⟩
      case round =>
        obtain ⟨⟨rfl, rfl⟩ | ⟨rfl, rfl⟩ | ⟨rfl, rfl⟩, rfl⟩ := hrel
        · obtain ⟨m, hm, ha, hb, hc⟩ := nib_facts HH.out z
          go_wp2
          go_roundw
          case rel => exact ⟨.inr (.inl ⟨rfl, rfl⟩), trivial⟩
          case measure => simp [intOf]
        · obtain ⟨m, hm, ha, hb, hc⟩ := nib_facts HH.out (Crc.nib z)
          go_wp2
          go_roundw
          case rel => exact ⟨.inr (.inr ⟨rfl, rfl⟩), trivial⟩
          case measure => simp [intOf]
        · go_wp2
          go_roundw
          case rel => exact ⟨k + 1, by omega, by go_num, by rw [HUP.out], trivial⟩
          case measure => simp [intOf]; omega
    · obtain rfl : k = l.length := by omega
      have hn := not_num (Crc.run (~~~ s) l)
      rw [List.take_length] at *
      go_wp2
      go_ret
      exact ⟨rfl, rfl⟩
theorem Reads.nil (w : World) : Reads w (.slice none 0 0) [] 0 := ⟨0, 0, .inr ⟨⟨none, rfl⟩, rfl⟩⟩
/-- Bytes that are laid out. -/
theorem lit_reads (w : World) (C : Array Value) (fr : Nat × Nat) (l : List UInt8) (n cap : Nat) (hC : C = rowA l) (hn : n = l.length) :
    Reads (w.alloc (.cells C 5 fr)) (.slice (some ⟨w.heap.size, 0, none⟩) n cap) l w.heap.size := by
  subst hC hn
  exact ⟨0, cap, .inl ⟨rfl, fun i hi => by rw [Nat.zero_add, World.cell?_alloc_mark, rowA_at]; simp [hi]⟩⟩
theorem conv_lit (w : World) (C : Array Value) (n c : Nat) : (convert 22 22 (.slice (some ⟨w.heap.size, 0, none⟩) n c)).run Tryd.prog (w.alloc (.cells C 5)) = .ok (.slice (some ⟨w.heap.size, 0, none⟩) n c) (w.alloc (.cells C 5 (C.size, C.size + 1))) :=
  Lib.run_convert_bytes_const (P := Tryd.prog) w 22 5 C n c Tryd.underlying22 Tryd.underlying5

set_option maxHeartbeats 400000 in
theorem sum_any (v : Value) (l : List UInt8) (g : Nat) (w : World) (hh : Half w) (h : Reads w v l g) (hl : l.length ≤ 4294967296) :
    Calls Tryd.prog 12 #[v] w fun e w' => e = .returned (.int .u32 (num (Crc.sum l))) ∧ w = w' := by
  have hm := more_any 0#32 v l g w hh h hl
  rw [show num 0#32 = 0 from rfl] at hm
  have HM := Lib.hid hm
  clear hm hh h hl
  go_enter Tryd.func12, Tryd.ntmps12
  go_wp2_with fail
  refine HM.out.mono ?_
  rintro e w1 ⟨rfl, rfl⟩
  go_wp2
  go_ret
  exact ⟨rfl, rfl⟩

end Go.Proofs.YtifdlkohddpmfaaDoor
