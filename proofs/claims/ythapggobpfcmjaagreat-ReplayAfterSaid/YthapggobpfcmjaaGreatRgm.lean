/- A ring in memory, and the mathematics of its places. No condition. -/
import Derived.Test.YthapggobpfcmjaaGreatMem
import Derived.Lib.Hide
namespace Go.Proofs.YthapggobpfcmjaaGreat
open Go.RowKit

/-- A ring: block R holds the slice of its values; block g holds these, n of them. -/
structure RingAt (T E : TypeId) (w : World) (R g n : Nat) (l : List Value) : Prop where
  len : l.length = n
  head : w.heap[R]? = some (.cells #[.slice (some ⟨g, 0, none⟩) n n] T (0, 0))
  row : w.heap[g]? = some (.cells l.toArray E (0, 0))
  ne : R ≠ g
section
variable {T E : TypeId} {w w1 : World} {R g n : Nat} {l : List Value} {F : Nat → Prop}
theorem RingAt.touch (h : RingAt T E w R g n l) (ht : Touch F w w1) (hR : ¬ F R) (hg : ¬ F g) : RingAt T E w1 R g n l := ⟨h.len, ht.at h.head hR, ht.at h.row hg, h.ne⟩
theorem RingAt.lt (h : RingAt T E w R g n l) : R < w.heap.size ∧ g < w.heap.size := ⟨lt_of_heap h.head, lt_of_heap h.row⟩
theorem RingAt.below (h : RingAt T E w R g n l) (hb : Below w.heap.size w w1) : RingAt T E w1 R g n l := h.touch (F := Emp) (Touch.of_below hb) id id
theorem RingAt.low (h : RingAt T E w R g n l) {B : Nat} (hb : Below B w w1) (hR : R < B) (hg : g < B) : RingAt T E w1 R g n l :=
  ⟨h.len, (hb.block R hR).trans h.head, (hb.block g hg).trans h.row, h.ne⟩
theorem RingAt.drewN (h : RingAt T E w R g n l) (k : Nat) : RingAt T E (w.drewN k) R g n l := h.touch (F := Emp) ((Touch.refl Emp w).drewN k) id id
theorem RingAt.drew (h : RingAt T E w R g n l) : RingAt T E w.drew R g n l := h.touch (F := Emp) (Touch.refl Emp w).drew id id
theorem RingAt.alloc (h : RingAt T E w R g n l) (o : Obj) : RingAt T E (w.alloc o) R g n l := h.below ((Below.refl _ w).alloc (Nat.le_refl _) o)
theorem RingAt.hcell (h : RingAt T E w R g n l) : w.cell? ⟨R, 0, none⟩ = some (.slice (some ⟨g, 0, none⟩) n n) := by
  have := cell_of_row w R 0 _ _ _ h.head
  simpa using this
theorem RingAt.cell (h : RingAt T E w R g n l) (i : Nat) : w.cell? ⟨g, i, none⟩ = l[i]? := by
  rw [cell_of_row w g i _ _ _ h.row]; simp
theorem RingAt.free (h : RingAt T E w R g n l) (i : Nat) : w.frozen? ⟨g, i, none⟩ = false := frozen_of_row w g i _ _ h.row
theorem RingAt.set (h : RingAt T E w R g n l) (i : Nat) (v : Value) : RingAt T E (w.setCell ⟨g, i, none⟩ v) R g n (l.set i v) := by
  refine ⟨by rw [List.length_set]; exact h.len, ?_, ?_, h.ne⟩
  · rw [heap_setCell_other w ⟨g, i, none⟩ R v h.ne]; exact h.head
  · rw [heap_setCell_same w g i _ _ v h.row]; simp
end

/-- What is left of a number below 0, by tmod. -/
theorem tmod_neg (a : Int) (n : Nat) (ha : a < 0) (hn : 1 ≤ n) : -(n : Int) < a.tmod n ∧ a.tmod n ≤ 0 ∧ (a.tmod n < 0 → a.tmod n + n = a % n) ∧ (¬ a.tmod n < 0 → a.tmod n = a % n) := by
  have e : a.tmod n = -((-a) % n) := by
    rw [show a = -(-a) by omega, Int.neg_tmod, Int.tmod_eq_emod_of_nonneg (by omega), Int.neg_neg]
  have h1 := Int.emod_nonneg (-a) (show (n : Int) ≠ 0 by omega)
  have h2 := Int.emod_lt_of_pos (-a) (show (0 : Int) < n by omega)
  have hd := Int.emod_add_mul_ediv (-a) n
  have h3 : a = -((-a) % n) + n * (-((-a) / n)) := by rw [Int.mul_neg]; omega
  refine ⟨by omega, by omega, fun hlt => ?_, fun hge => ?_⟩
  · have h4 : a = (a.tmod n + n) + n * (-((-a) / n) - 1) := by rw [Int.mul_sub, Int.mul_one, e]; omega
    calc a.tmod n + n = (a.tmod n + n) % n := (Int.emod_eq_of_lt (by omega) (by omega)).symm
      _ = ((a.tmod n + n) + n * (-((-a) / n) - 1)) % n := (Int.add_mul_emod_self_left _ _ _).symm
      _ = a % n := by rw [← h4]
  · have h0 : a.tmod n = 0 := by omega
    have h5 : (-a) % n = 0 := by omega
    rw [h0]
    rw [h5] at h3
    rw [show a = n * (-((-a) / n)) by omega, Int.mul_emod_right]
theorem place_bd (a : Int) (n : Nat) (hn : 1 ≤ n) : 0 ≤ a % n ∧ a % n < n := ⟨Int.emod_nonneg _ (by omega), Int.emod_lt_of_pos _ (by omega)⟩
theorem go_place (a b : Int) (n : Nat) : (a % n + b % n) % n = (a + b) % n := (Int.add_emod a b n).symm
theorem far_place (a b : Int) (n : Nat) : (b % n - a % n) % n = (b - a) % n := (Int.sub_emod b a n).symm

end Go.Proofs.YthapggobpfcmjaaGreat
