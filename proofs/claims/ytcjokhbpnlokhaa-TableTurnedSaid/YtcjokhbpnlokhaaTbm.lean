/- A table in memory, and the mathematics of its blocks and places. No condition. -/
import Derived.Test.YtcjokhbpnlokhaaMem
import Derived.Lib.Hide
namespace Go.Proofs.Ytcjokhbpnlokhaa
open Go.RowKit

/-- What stands in a list for a place, or for none. -/
def enc : Option Nat → Int
  | some p => p
  | none => -1
theorem enc_neg {x : Option Nat} : enc x = -1 ↔ x = none := by
  cases x with
  | none => simp [enc]
  | some p => simp [enc]
theorem enc_inj {x y : Option Nat} (h : enc x = enc y) : x = y := by
  cases x <;> cases y <;> simp [enc] at * <;> omega
/-- What a look tells: the number, and whether there is one. -/
def ans : Option Nat → Int
  | some p => p
  | none => 0
def lookI (f : Nat → Option Nat) (a : Int) : Option Nat := if 0 ≤ a then f a.toNat else none
theorem lookI_nat (f : Nat → Option Nat) (n : Nat) : lookI f (n : Int) = f n := by simp [lookI]
def rowT (n : Nat) (f : Nat → Option Nat) : List Value := (List.range n).map fun i => .int .i64 (enc (f i))
def upd (f : Nat → Option Nat) (i : Nat) (v : Option Nat) : Nat → Option Nat := fun j => if j = i then v else f j
theorem rowT_length (n : Nat) (f : Nat → Option Nat) : (rowT n f).length = n := by simp [rowT]
theorem rowT_get {n i : Nat} (f : Nat → Option Nat) (h : i < n) : (rowT n f)[i]? = some (.int .i64 (enc (f i))) := by simp [rowT, h]
theorem rowT_set (n i : Nat) (f : Nat → Option Nat) (v : Option Nat) : (rowT n f).set i (.int .i64 (enc v)) = rowT n (upd f i v) := by
  apply List.ext_getElem
  · simp [rowT]
  · intro j h1 h2
    rw [List.getElem_set]
    by_cases h : i = j
    · subst h; simp [rowT, upd]
    · simp only [h, if_false, rowT, List.getElem_map, List.getElem_range, upd]
      rw [if_neg (fun e => h e.symm)]
theorem upd_self (f : Nat → Option Nat) (i : Nat) : upd f i (f i) = f := by
  funext j; by_cases h : j = i <;> simp [upd, h]
theorem upd_upd (f : Nat → Option Nat) (i : Nat) (u v : Option Nat) : upd (upd f i u) i v = upd f i v := by
  funext j; by_cases h : j = i <;> simp [upd, h]
theorem upd_same (f : Nat → Option Nat) (i : Nat) (v : Option Nat) : upd f i v i = v := by simp [upd]
theorem upd_other (f : Nat → Option Nat) {i j : Nat} (v : Option Nat) (h : j ≠ i) : upd f i v j = f j := by simp [upd, h]

/-- How many of the first n stand somewhere. -/
def cnt (f : Nat → Option Nat) : Nat → Nat
  | 0 => 0
  | n + 1 => cnt f n + if (f n).isSome then 1 else 0
theorem cnt_le (f : Nat → Option Nat) (n : Nat) : cnt f n ≤ n := by
  induction n with
  | zero => simp [cnt]
  | succ n ih => simp only [cnt]; split <;> omega
theorem cnt_upd_ge (f : Nat → Option Nat) (i : Nat) (v : Option Nat) : ∀ n, n ≤ i → cnt (upd f i v) n = cnt f n
  | 0, _ => rfl
  | n + 1, h => by simp only [cnt]; rw [cnt_upd_ge f i v n (by omega), upd_other f v (by omega)]
theorem cnt_upd (f : Nat → Option Nat) (i : Nat) (v : Option Nat) : ∀ n, i < n → cnt (upd f i v) n + (if (f i).isSome then 1 else 0) = cnt f n + (if v.isSome then 1 else 0)
  | 0, h => by omega
  | n + 1, h => by
    simp only [cnt]
    by_cases h1 : i = n
    · subst h1; rw [cnt_upd_ge f i v i (Nat.le_refl _), upd_same]; omega
    · have := cnt_upd f i v n (by omega)
      rw [upd_other f v (by omega)]; omega

/-- A block is at the place whose block it is. -/
structure Good (B S : Nat) (a o : Nat → Option Nat) : Prop where
  back : ∀ i p, a i = some p ↔ o p = some i
  lt : ∀ i p, a i = some p → i < B ∧ p < S
theorem good_none {B S : Nat} : Good B S (fun _ => none) (fun _ => none) := ⟨fun _ _ => by simp, fun _ _ h => by simp at h⟩
/-- The places behind a Drop, and behind a Put. -/
def dropO (a o : Nat → Option Nat) (id : Nat) : Nat → Option Nat := match a id with | some q => upd o q none | none => o
def putO (a o : Nat → Option Nat) (id p : Nat) : Nat → Option Nat := upd (dropO a o id) p (some id)
section
variable {B S : Nat} {a o : Nat → Option Nat}
theorem Good.outA (h : Good B S a o) {i : Nat} (hi : B ≤ i) : a i = none := by
  cases e : a i with
  | none => rfl
  | some p => have := (h.lt i p e).1; omega
theorem Good.outO (h : Good B S a o) {p : Nat} (hp : S ≤ p) : o p = none := by
  cases e : o p with
  | none => rfl
  | some i => have := (h.lt i p ((h.back i p).2 e)).2; omega
theorem Good.drop (h : Good B S a o) (id : Nat) : Good B S (upd a id none) (dropO a o id) := by
  refine ⟨fun i p => ?_, fun i p hi => h.lt i p ?_⟩
  · unfold dropO
    cases e : a id with
    | none =>
      have : upd a id none = a := by rw [← e]; exact upd_self a id
      simp only [this]; exact h.back i p
    | some q =>
      simp only [upd]
      by_cases h1 : i = id
      · subst h1
        simp only [if_true]
        by_cases h2 : p = q
        · subst h2; simp
        · simp only [h2, if_false]
          rw [← h.back i p, e]
          simp; exact fun e => h2 e.symm
      · simp only [h1, if_false]
        by_cases h2 : p = q
        · subst h2
          simp only [if_true]
          rw [h.back i p, (h.back id p).1 e]
          simp; exact fun e => h1 e.symm
        · simp only [h2, if_false]; exact h.back i p
  · by_cases h1 : i = id
    · subst h1; simp [upd] at hi
    · rwa [upd_other _ _ h1] at hi
/-- A place that has this block, or none, has none when the block is gone. -/
theorem Good.free (h : Good B S a o) {id p : Nat} (hf : o p = none ∨ o p = some id) : dropO a o id p = none := by
  have hd := h.drop id
  cases e : dropO a o id p with
  | none => rfl
  | some i =>
    have h1 := (hd.back i p).2 e
    by_cases h2 : i = id
    · subst h2; simp [upd] at h1
    · rw [upd_other _ _ h2] at h1
      have := (h.back i p).1 h1
      rcases hf with h3 | h3 <;> rw [h3] at this <;> simp at this
      omega
theorem Good.put (h : Good B S a o) {id p : Nat} (hid : id < B) (hp : p < S) (hf : o p = none ∨ o p = some id) : Good B S (upd a id (some p)) (putO a o id p) := by
  have hd := h.drop id
  have hfr := h.free hf
  refine ⟨fun i q => ?_, fun i q hi => ?_⟩
  · unfold putO
    rw [← upd_upd a id none (some p)]
    simp only [upd.eq_1 (upd a id none), upd.eq_1 (dropO a o id)]
    by_cases h1 : i = id
    · subst h1
      by_cases h2 : q = p
      · subst h2; simp
      · simp only [h2, if_false, if_true]
        rw [← hd.back i q, upd_same]
        simp; exact fun e => h2 e.symm
    · by_cases h2 : q = p
      · subst h2
        simp only [h1, if_false, if_true]
        rw [hd.back i q, hfr]
        simp; exact fun e => h1 e.symm
      · simp only [h1, h2, if_false]; exact hd.back i q
  · by_cases h1 : i = id
    · subst h1; rw [upd_same] at hi; cases hi; exact ⟨hid, hp⟩
    · rw [upd_other _ _ h1] at hi; exact h.lt i q hi
theorem Good.cnt_drop (h : Good B S a o) (id : Nat) : cnt (upd a id none) B + (if (a id).isSome then 1 else 0) = cnt a B := by
  by_cases hi : id < B
  · simpa using cnt_upd a id none B hi
  · rw [h.outA (by omega), cnt_upd_ge _ _ _ _ (by omega)]; simp
theorem cnt_put {id : Nat} (hid : id < B) (p : Nat) : cnt (upd a id (some p)) B = cnt (upd a id none) B + 1 := by
  have := cnt_upd (upd a id none) id (some p) B hid
  rw [upd_upd, upd_same] at this
  simpa using this
end

/-- A table: block T holds the two lists and how many there are; blocks gp, go hold these. -/
structure TabAt (w : World) (T gp go B S : Nat) (a o : Nat → Option Nat) : Prop where
  good : Good B S a o
  head : w.heap[T]? = some (.cells #[.slice (some ⟨gp, 0, none⟩) B B, .slice (some ⟨go, 0, none⟩) S S, .int .i64 (cnt a B : Nat)] 43 (0, 0))
  rowp : w.heap[gp]? = some (.cells (rowT B a).toArray 3 (0, 0))
  rowo : w.heap[go]? = some (.cells (rowT S o).toArray 3 (0, 0))
  n1 : T ≠ gp
  n2 : T ≠ go
  n3 : gp ≠ go
  mB : B ≤ 1048576
  mS : S ≤ 1048576
section
variable {w w1 : World} {T gp go B S : Nat} {a o : Nat → Option Nat} {F : Nat → Prop}
theorem TabAt.touch (h : TabAt w T gp go B S a o) (ht : Touch F w w1) (h1 : ¬ F T) (h2 : ¬ F gp) (h3 : ¬ F go) : TabAt w1 T gp go B S a o :=
  ⟨h.good, ht.at h.head h1, ht.at h.rowp h2, ht.at h.rowo h3, h.n1, h.n2, h.n3, h.mB, h.mS⟩
theorem TabAt.lt (h : TabAt w T gp go B S a o) : T < w.heap.size ∧ gp < w.heap.size ∧ go < w.heap.size := ⟨lt_of_heap h.head, lt_of_heap h.rowp, lt_of_heap h.rowo⟩
theorem TabAt.below (h : TabAt w T gp go B S a o) (hb : Below w.heap.size w w1) : TabAt w1 T gp go B S a o := h.touch (F := Emp) (Touch.of_below hb) id id id
theorem TabAt.alloc (h : TabAt w T gp go B S a o) (x : Obj) : TabAt (w.alloc x) T gp go B S a o := h.below ((Below.refl _ w).alloc (Nat.le_refl _) x)
theorem TabAt.drewN (h : TabAt w T gp go B S a o) (k : Nat) : TabAt (w.drewN k) T gp go B S a o := h.touch (F := Emp) ((Touch.refl Emp w).drewN k) id id id
theorem TabAt.c0 (h : TabAt w T gp go B S a o) : w.cell? ⟨T, 0, none⟩ = some (.slice (some ⟨gp, 0, none⟩) B B) := by
  have := cell_of_row w T 0 _ _ _ h.head
  simpa using this
theorem TabAt.c1 (h : TabAt w T gp go B S a o) : w.cell? ⟨T, 1, none⟩ = some (.slice (some ⟨go, 0, none⟩) S S) := by
  have := cell_of_row w T 1 _ _ _ h.head
  simpa using this
theorem TabAt.c2 (h : TabAt w T gp go B S a o) : w.cell? ⟨T, 2, none⟩ = some (.int .i64 (cnt a B : Nat)) := by
  have := cell_of_row w T 2 _ _ _ h.head
  simpa using this
theorem TabAt.f2 (h : TabAt w T gp go B S a o) : w.frozen? ⟨T, 2, none⟩ = false := frozen_of_row w T 2 _ _ h.head
theorem TabAt.cp (h : TabAt w T gp go B S a o) {i : Nat} (hi : i < B) : w.cell? ⟨gp, i, none⟩ = some (.int .i64 (enc (a i))) := by
  rw [cell_of_row w gp i _ _ _ h.rowp]; simpa using rowT_get a hi
theorem TabAt.co (h : TabAt w T gp go B S a o) {i : Nat} (hi : i < S) : w.cell? ⟨go, i, none⟩ = some (.int .i64 (enc (o i))) := by
  rw [cell_of_row w go i _ _ _ h.rowo]; simpa using rowT_get o hi
theorem TabAt.fp (h : TabAt w T gp go B S a o) (i : Nat) : w.frozen? ⟨gp, i, none⟩ = false := frozen_of_row w gp i _ _ h.rowp
theorem TabAt.fo (h : TabAt w T gp go B S a o) (i : Nat) : w.frozen? ⟨go, i, none⟩ = false := frozen_of_row w go i _ _ h.rowo
end

end Go.Proofs.Ytcjokhbpnlokhaa
