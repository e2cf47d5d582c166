/- Parts of bytes: the first ones, the last ones. No condition. -/
import Derived.Test.YtifdlkohddpmfaaDoorShw
import Derived.Test.YtifdlkohddpmfaaDoorBit
import Derived.Deep.RegionHeld3
namespace Go.Proofs.YtifdlkohddpmfaaDoor
open Go.RowKit

/-- The first ones of bytes that are read. -/
theorem Reads.take {w : World} {a : Option Addr} {cap c' g : Nat} {l : List UInt8} (h : Reads w (.slice a l.length cap) l g) (n : Nat) (hn : n ≤ l.length) : Reads w (.slice a n c') (l.take n) g := by
  obtain ⟨off, cap, ⟨e, h⟩ | ⟨⟨a, e⟩, rfl⟩⟩ := h
  · cases e
    exact ⟨off, c', .inl ⟨by rw [List.length_take, Nat.min_eq_left hn], fun i hi => by
      rw [List.length_take] at hi
      rw [h i (by omega), List.getElem_take]⟩⟩
  · obtain rfl : n = 0 := by simpa using hn
    exact ⟨0, c', .inr ⟨⟨_, rfl⟩, by simp⟩⟩
theorem add_plain' (b o i : Nat) : Addr.add ⟨b, o, none⟩ i = ⟨b, o + i, none⟩ := by
  unfold Addr.add; split
  · subst_vars; rfl
  · rfl
/-- The last ones. -/
theorem Reads.drop {w : World} {a : Option Addr} {cap c' g : Nat} {l : List UInt8} (h : Reads w (.slice a l.length cap) l g) (hc : l.length ≤ cap) (n p : Nat) (e : n = l.length) (hp : p ≤ n) :
    Reads w (.slice (if cap = p then a else a.map (·.add p)) (n - p) c') (l.drop p) g := by
  subst e
  obtain ⟨off, cap', ⟨e, h⟩ | ⟨⟨a', e⟩, rfl⟩⟩ := h
  · cases e
    by_cases hlt : p < l.length
    · rw [if_neg (by omega)]
      exact ⟨off + p, c', .inl ⟨by rw [List.length_drop, Option.map_some, add_plain'], fun i hi => by
        rw [List.length_drop] at hi
        rw [Nat.add_assoc, h (p + i) (by omega), List.getElem_drop]⟩⟩
    · obtain rfl : p = l.length := by omega
      exact ⟨0, c', .inr ⟨⟨_, by rw [Nat.sub_self]⟩, List.drop_length⟩⟩
  · exact ⟨0, c', .inr ⟨⟨_, by simp; rfl⟩, by simp⟩⟩
theorem Reads.below {w w' : World} {v : Value} {l : List UInt8} {g : Nat} (h : Reads w v l g) (hg : l ≠ [] → g < w.heap.size) (hb : Below w.heap.size w w') : Reads w' v l g := by
  obtain ⟨off, cap, ⟨rfl, hc⟩ | ⟨ha, rfl⟩⟩ := h
  · refine ⟨off, cap, .inl ⟨rfl, fun i hi => ?_⟩⟩
    rw [← hc i hi]
    exact World.cell?_of_block (hb.block g (hg (by rintro rfl; simp at hi)))
  · exact ⟨off, cap, .inr ⟨ha, rfl⟩⟩
theorem Reads.alloc {w : World} {v : Value} {l : List UInt8} {g : Nat} (h : Reads w v l g) (hg : l ≠ [] → g < w.heap.size) (o : Obj) : Reads (w.alloc o) v l g :=
  h.below hg ((Below.refl _ w).alloc (Nat.le_refl _) o)

theorem min_nat (l : Nat) (m : Nat) : (if (m : Int) < (l : Int) then (m : Int) else (l : Int)) = (min l m : Nat) := by
  split <;> omega
theorem elemBytes : Tryd.prog.elem 22 = 5 := by kernel_rfl
theorem sizeByte (w : World) : (sizeOf 5).run Tryd.prog w = .ok 1 w := by kernel_rfl
theorem run_from (w : World) (a : Option Addr) (n cap p : Nat) (hp : p ≤ n) :
    (Instr.sliceAt 22 (.slice a n cap) (some (.int .i64 (p : Int))) none none).run Tryd.prog w = .ok (.slice (if cap = p then a else a.map (·.add p)) (n - p) (cap - p)) w := by
  have hu : Tryd.prog.underlying 22 = some (.slice (Tryd.prog.elem 22)) := by rw [elemBytes]; exact Tryd.underlying22
  rw [run_sliceAt_slice w _ _ _ _ _ hu, run_slice_l w _ a n cap hu .i64 p (by omega) (by omega), elemBytes, sizeByte]
  simp [Result.andThen, sliced]
theorem run_upto (w : World) (a : Option Addr) (n cap p : Nat) (hp : p ≤ cap) :
    (Instr.sliceAt 22 (.slice a n cap) none (some (.int .i64 (p : Int))) none).run Tryd.prog w = .ok (.slice a p cap) w := by
  have hu : Tryd.prog.underlying 22 = some (.slice (Tryd.prog.elem 22)) := by rw [elemBytes]; exact Tryd.underlying22
  rw [run_sliceAt_slice w _ _ _ _ _ hu, run_slice_h w _ a n cap hu .i64 p (by omega) (by omega), elemBytes, sizeByte]
  have h0 : a.map (fun x => x.add 0) = a := by cases a <;> simp [Addr.add]
  simp [Result.andThen, sliced, h0]

end Go.Proofs.YtifdlkohddpmfaaDoor
