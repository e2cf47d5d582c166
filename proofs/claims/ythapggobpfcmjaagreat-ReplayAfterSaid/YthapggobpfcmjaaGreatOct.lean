/- Numbers as bytes, the lowest first: plain mathematics. -/
import Derived.Test.YthapggobpfcmjaaGreatRows
namespace Go.Proofs.YthapggobpfcmjaaGreat
namespace Oct

/-- The lowest s bytes of n, the lowest first. -/
def le : Nat → Nat → List UInt8
  | 0, _ => []
  | s + 1, n => UInt8.ofNat (n % 256) :: le s (n / 256)
/-- A number by its bytes. -/
def unle : List UInt8 → Nat
  | [] => 0
  | x :: l => x.toNat + 256 * unle l

theorem le_length : ∀ s n, (le s n).length = s
  | 0, _ => rfl
  | s + 1, n => by simp [le, le_length s]
theorem of_toNat (n : Nat) : (UInt8.ofNat (n % 256)).toNat = n % 256 := by
  rw [UInt8.toNat_ofNat']; omega
theorem unle_le : ∀ s n, unle (le s n) = n % 256 ^ s
  | 0, n => by simp [le, unle, Nat.mod_one]
  | s + 1, n => by
    rw [le, unle, unle_le s, of_toNat, Nat.pow_succ, Nat.mul_comm (256 ^ s), Nat.mod_mul]
theorem unle_lt : ∀ l, unle l < 256 ^ l.length
  | [] => by simp [unle]
  | x :: l => by
    have h := unle_lt l
    have hx := x.toNat_lt
    simp only [unle, List.length_cons, Nat.pow_succ]
    have hx' : x.toNat < 256 := hx
    omega
theorem le_unle : ∀ l, le l.length (unle l) = l
  | [] => rfl
  | x :: l => by
    have hx : x.toNat < 256 := x.toNat_lt
    simp only [List.length_cons, le, unle]
    rw [show (x.toNat + 256 * unle l) % 256 = x.toNat by omega, show (x.toNat + 256 * unle l) / 256 = unle l by omega, le_unle l]
    congr 1
    exact UInt8.toNat_inj.1 (by rw [UInt8.toNat_ofNat']; omega)
theorem le_at : ∀ s n i, i < s → (le s n)[i]? = some (UInt8.ofNat (n / 256 ^ i % 256))
  | s + 1, n, 0, _ => by simp [le]
  | s + 1, n, i + 1, h => by
    rw [le, List.getElem?_cons_succ, le_at s (n / 256) i (by omega), Nat.pow_succ, Nat.mul_comm, Nat.div_div_eq_div_mul]
theorem le_mod : ∀ s n, le s (n % 256 ^ s) = le s n := by
  intro s n
  have h := le_unle (le s n)
  rw [le_length, unle_le] at h
  exact h
theorem le_succ : ∀ s n, le (s + 1) n = le s n ++ [UInt8.ofNat (n / 256 ^ s % 256)]
  | 0, n => by simp [le]
  | s + 1, n => by
    rw [le, le_succ s, le, List.cons_append, Nat.div_div_eq_div_mul, Nat.pow_succ, Nat.mul_comm 256]
theorem le_take : ∀ s t n, t ≤ s → (le s n).take t = le t n
  | _, 0, _, _ => by simp [le]
  | s + 1, t + 1, n, h => by rw [le, le, List.take_succ_cons, le_take s t _ (by omega)]
theorem le_zero : ∀ s, le s 0 = List.replicate s 0
  | 0 => rfl
  | s + 1 => by rw [le, Nat.zero_div, le_zero s]; rfl
theorem unle_append : ∀ l m, unle (l ++ m) = unle l + 256 ^ l.length * unle m
  | [], m => by simp [unle]
  | x :: l, m => by
    simp only [List.cons_append, unle, List.length_cons, Nat.pow_succ]
    rw [unle_append l m, Nat.mul_add, Nat.mul_comm (256 ^ l.length) 256, Nat.mul_assoc]; omega
theorem unle_zeros : ∀ n, unle (List.replicate n 0) = 0
  | 0 => rfl
  | n + 1 => by rw [List.replicate_succ, unle, unle_zeros n]; rfl
theorem unle_inj (l m : List UInt8) (h : l.length = m.length) (e : unle l = unle m) : l = m := by
  rw [← le_unle l, ← le_unle m, h, e]
theorem unle_drop (l : List UInt8) (i : Nat) (h : i < l.length) : unle (l.drop i) = l[i].toNat + 256 * unle (l.drop (i + 1)) := by
  rw [List.drop_eq_getElem_cons h, unle]
/-- The greater one has the greater byte where they are unlike last. -/
theorem order (p p' q : List UInt8) (x y : UInt8) (h : p.length = p'.length) (hxy : x ≠ y) : (unle (p ++ [x] ++ q) < unle (p' ++ [y] ++ q) ↔ x < y) ∧ unle (p ++ [x] ++ q) ≠ unle (p' ++ [y] ++ q) := by
  have hp := unle_lt p
  have hp' := unle_lt p'
  rw [h] at hp
  have hne : x.toNat ≠ y.toNat := fun e => hxy (UInt8.toNat_inj.1 e)
  have e1 : unle (p ++ [x] ++ q) = unle p + 256 ^ p'.length * x.toNat + 256 ^ p'.length * 256 * unle q := by
    rw [unle_append, unle_append, List.length_append, h]; simp [unle, Nat.pow_succ]
  have e2 : unle (p' ++ [y] ++ q) = unle p' + 256 ^ p'.length * y.toNat + 256 ^ p'.length * 256 * unle q := by
    rw [unle_append, unle_append, List.length_append]; simp [unle, Nat.pow_succ]
  have hl : (x < y) = (x.toNat < y.toNat) := by rw [UInt8.lt_iff_toNat_lt]
  rw [hl, e1, e2]
  rcases Nat.lt_or_gt_of_ne hne with hlt | hgt
  · have : 256 ^ p'.length * (x.toNat + 1) ≤ 256 ^ p'.length * y.toNat := Nat.mul_le_mul_left _ hlt
    rw [Nat.mul_add] at this
    refine ⟨⟨fun _ => hlt, fun _ => by omega⟩, by omega⟩
  · have : 256 ^ p'.length * (y.toNat + 1) ≤ 256 ^ p'.length * x.toNat := Nat.mul_le_mul_left _ hgt
    rw [Nat.mul_add] at this
    refine ⟨⟨fun _ => by omega, fun _ => by omega⟩, by omega⟩

/-- A field: the first n, and noughts behind. -/
def fieldL (b : List UInt8) (n : Nat) : List UInt8 := b.take n ++ List.replicate (n - b.length) 0
theorem fieldL_length (b : List UInt8) (n : Nat) : (fieldL b n).length = n := by simp [fieldL]; omega
theorem fieldL_at (b : List UInt8) (n i : Nat) (h : i < n) : (fieldL b n)[i]? = some (b.getD i 0) := by
  unfold fieldL
  by_cases hb : i < b.length
  · rw [List.getElem?_append_left (by simp; omega), List.getElem?_take, if_pos h, List.getElem?_eq_getElem hb]; simp [hb]
  · rw [List.getElem?_append_right (by simp; omega), List.getElem?_replicate]
    rw [if_pos (by simp; omega)]
    simp [List.getD, List.getElem?_eq_none (by omega : b.length ≤ i)]
theorem field_field (b : List UInt8) (n m : Nat) : fieldL (fieldL b n) m = fieldL (fieldL b (min n m)) m := by
  apply List.ext_getElem?
  intro i
  by_cases h : i < m
  · rw [fieldL_at _ _ _ h, fieldL_at _ _ _ h]
    have e : ∀ k, (fieldL b k).getD i 0 = if i < k then b.getD i 0 else 0 := fun k => by
      by_cases hk : i < k
      · rw [if_pos hk, List.getD, fieldL_at _ _ _ hk]; rfl
      · rw [if_neg hk, List.getD, List.getElem?_eq_none (by rw [fieldL_length]; omega)]; rfl
    rw [e, e]
    by_cases hn : i < n
    · rw [if_pos hn, if_pos (by omega)]
    · rw [if_neg hn, if_neg (by omega)]
  · rw [List.getElem?_eq_none (by rw [fieldL_length]; omega), List.getElem?_eq_none (by rw [fieldL_length]; omega)]
theorem fieldL_succ (b : List UInt8) (n : Nat) : fieldL b (n + 1) = fieldL b n ++ [b.getD n 0] := by
  apply List.ext_getElem?
  intro i
  by_cases h : i < n
  · rw [fieldL_at _ _ _ (by omega), List.getElem?_append_left (by rw [fieldL_length]; exact h), fieldL_at _ _ _ h]
  · by_cases e : i = n
    · subst e
      rw [fieldL_at _ _ _ (by omega), List.getElem?_append_right (by rw [fieldL_length]; omega), fieldL_length]; simp
    · rw [List.getElem?_eq_none (by rw [fieldL_length]; omega), List.getElem?_eq_none (by simp [fieldL_length]; omega)]

end Oct
end Go.Proofs.YthapggobpfcmjaaGreat
