/- Tables: plain mathematics, and in memory; New, Drop, Put, At, Owner. Tables of at most 2^20 blocks and places. -/
import Derived.Test.YthapggobpfcmjaaGreatMem
import Derived.Test.YthapggobpfcmjaaGreatBit
import Derived.Lib.Hide
import Derived.Laws.CopyRow
import Derived.Laws.IdiomCopy
import Derived.Deep.RegionWith
import Derived.RegionTactic
import Derived.BigRegion
import Derived.RangeFuncBox
import Derived.RangeFuncLeaves
import Derived.RangeFuncNested
import Derived.Shelf.Abstract
import Derived.OwnWalkIn
import Derived.TacticsInMore
import Derived.LoopNIn
import Derived.LoopIn

set_option maxRecDepth 100000
namespace Go.Proofs.YthapggobpfcmjaaGreat
namespace Tb
open Go.RowKit

/-- What stands in a list for a place, or for none. -/
def enc : Option Nat → Int
  | some p => p
  | none => -1
theorem enc_neg {x : Option Nat} : enc x = -1 ↔ x = none := by
  cases x with
  | none => simp [enc]
  | some p => simp [enc]
theorem enc_inj {x y : Option Nat} (h : enc x = enc y) : x = y := by
  cases x <;> cases y <;> simp [enc] at * <;> omega
/-- What a look tells: the number, and whether there is one. -/
def ans : Option Nat → Int
  | some p => p
  | none => 0
def lookI (f : Nat → Option Nat) (a : Int) : Option Nat := if 0 ≤ a then f a.toNat else none
theorem lookI_nat (f : Nat → Option Nat) (n : Nat) : lookI f (n : Int) = f n := by simp [lookI]
def rowT (n : Nat) (f : Nat → Option Nat) : List Value := (List.range n).map fun i => .int .i64 (enc (f i))
def upd (f : Nat → Option Nat) (i : Nat) (v : Option Nat) : Nat → Option Nat := fun j => if j = i then v else f j
theorem rowT_length (n : Nat) (f : Nat → Option Nat) : (rowT n f).length = n := by simp [rowT]
theorem rowT_get {n i : Nat} (f : Nat → Option Nat) (h : i < n) : (rowT n f)[i]? = some (.int .i64 (enc (f i))) := by simp [rowT, h]
theorem rowT_set (n i : Nat) (f : Nat → Option Nat) (v : Option Nat) : (rowT n f).set i (.int .i64 (enc v)) = rowT n (upd f i v) := by
  apply List.ext_getElem
  · simp [rowT]
  · intro j h1 h2
    rw [List.getElem_set]
    by_cases h : i = j
    · subst h; simp [rowT, upd]
    · simp only [h, if_false, rowT, List.getElem_map, List.getElem_range, upd]
      rw [if_neg (fun e => h e.symm)]
theorem upd_self (f : Nat → Option Nat) (i : Nat) : upd f i (f i) = f := by
  funext j; by_cases h : j = i <;> simp [upd, h]
theorem upd_upd (f : Nat → Option Nat) (i : Nat) (u v : Option Nat) : upd (upd f i u) i v = upd f i v := by
  funext j; by_cases h : j = i <;> simp [upd, h]
theorem upd_same (f : Nat → Option Nat) (i : Nat) (v : Option Nat) : upd f i v i = v := by simp [upd]
theorem upd_other (f : Nat → Option Nat) {i j : Nat} (v : Option Nat) (h : j ≠ i) : upd f i v j = f j := by simp [upd, h]

/-- How many of the first n stand somewhere. -/
def cnt (f : Nat → Option Nat) : Nat → Nat
  | 0 => 0
  | n + 1 => cnt f n + if (f n).isSome then 1 else 0
theorem cnt_le (f : Nat → Option Nat) (n : Nat) : cnt f n ≤ n := by
  induction n with
  | zero => simp [cnt]
  | succ n ih => simp only [cnt]; split <;> omega
theorem cnt_upd_ge (f : Nat → Option Nat) (i : Nat) (v : Option Nat) : ∀ n, n ≤ i → cnt (upd f i v) n = cnt f n
  | 0, _ => rfl
  | n + 1, h => by simp only [cnt]; rw [cnt_upd_ge f i v n (by omega), upd_other f v (by omega)]
theorem cnt_upd (f : Nat → Option Nat) (i : Nat) (v : Option Nat) : ∀ n, i < n → cnt (upd f i v) n + (if (f i).isSome then 1 else 0) = cnt f n + (if v.isSome then 1 else 0)
  | 0, h => by omega
  | n + 1, h => by
    simp only [cnt]
    by_cases h1 : i = n
    · subst h1; rw [cnt_upd_ge f i v i (Nat.le_refl _), upd_same]; omega
    · have := cnt_upd f i v n (by omega)
      rw [upd_other f v (by omega)]; omega

/-- A block is at the place whose block it is. -/
structure Good (B S : Nat) (a o : Nat → Option Nat) : Prop where
  back : ∀ i p, a i = some p ↔ o p = some i
  lt : ∀ i p, a i = some p → i < B ∧ p < S
theorem good_none {B S : Nat} : Good B S (fun _ => none) (fun _ => none) := ⟨fun _ _ => by simp, fun _ _ h => by simp at h⟩
/-- The places behind a Drop, and behind a Put. -/
def dropO (a o : Nat → Option Nat) (id : Nat) : Nat → Option Nat := match a id with | some q => upd o q none | none => o
def putO (a o : Nat → Option Nat) (id p : Nat) : Nat → Option Nat := upd (dropO a o id) p (some id)
section
variable {B S : Nat} {a o : Nat → Option Nat}
theorem Good.outA (h : Good B S a o) {i : Nat} (hi : B ≤ i) : a i = none := by
  cases e : a i with
  | none => rfl
  | some p => have := (h.lt i p e).1; omega
theorem Good.outO (h : Good B S a o) {p : Nat} (hp : S ≤ p) : o p = none := by
  cases e : o p with
  | none => rfl
  | some i => have := (h.lt i p ((h.back i p).2 e)).2; omega
theorem Good.drop (h : Good B S a o) (id : Nat) : Good B S (upd a id none) (dropO a o id) := by
  refine ⟨fun i p => ?_, fun i p hi => h.lt i p ?_⟩
  · unfold dropO
    cases e : a id with
    | none =>
      have : upd a id none = a := by rw [← e]; exact upd_self a id
      simp only [this]; exact h.back i p
    | some q =>
      simp only [upd]
      by_cases h1 : i = id
      · subst h1
        simp only [if_true]
        by_cases h2 : p = q
        · subst h2; simp
        · simp only [h2, if_false]
          rw [← h.back i p, e]
          simp; exact fun e => h2 e.symm
      · simp only [h1, if_false]
        by_cases h2 : p = q
        · subst h2
          simp only [if_true]
          rw [h.back i p, (h.back id p).1 e]
          simp; exact fun e => h1 e.symm
        · simp only [h2, if_false]; exact h.back i p
  · by_cases h1 : i = id
    · subst h1; simp [upd] at hi
    · rwa [upd_other _ _ h1] at hi
/-- A place that has this block, or none, has none when the block is gone. -/
theorem Good.free (h : Good B S a o) {id p : Nat} (hf : o p = none ∨ o p = some id) : dropO a o id p = none := by
  have hd := h.drop id
  cases e : dropO a o id p with
  | none => rfl
  | some i =>
    have h1 := (hd.back i p).2 e
    by_cases h2 : i = id
    · subst h2; simp [upd] at h1
    · rw [upd_other _ _ h2] at h1
      have := (h.back i p).1 h1
      rcases hf with h3 | h3 <;> rw [h3] at this <;> simp at this
      omega
theorem Good.put (h : Good B S a o) {id p : Nat} (hid : id < B) (hp : p < S) (hf : o p = none ∨ o p = some id) : Good B S (upd a id (some p)) (putO a o id p) := by
  have hd := h.drop id
  have hfr := h.free hf
  refine ⟨fun i q => ?_, fun i q hi => ?_⟩
  · unfold putO
    rw [← upd_upd a id none (some p)]
    simp only [upd.eq_1 (upd a id none), upd.eq_1 (dropO a o id)]
    by_cases h1 : i = id
    · subst h1
      by_cases h2 : q = p
      · subst h2; simp
      · simp only [h2, if_false, if_true]
        rw [← hd.back i q, upd_same]
        simp; exact fun e => h2 e.symm
    · by_cases h2 : q = p
      · subst h2
        simp only [h1, if_false, if_true]
        rw [hd.back i q, hfr]
        simp; exact fun e => h1 e.symm
      · simp only [h1, h2, if_false]; exact hd.back i q
  · by_cases h1 : i = id
    · subst h1; rw [upd_same] at hi; cases hi; exact ⟨hid, hp⟩
    · rw [upd_other _ _ h1] at hi; exact h.lt i q hi
theorem Good.cnt_drop (h : Good B S a o) (id : Nat) : cnt (upd a id none) B + (if (a id).isSome then 1 else 0) = cnt a B := by
  by_cases hi : id < B
  · simpa using cnt_upd a id none B hi
  · rw [h.outA (by omega), cnt_upd_ge _ _ _ _ (by omega)]; simp
theorem cnt_put {id : Nat} (hid : id < B) (p : Nat) : cnt (upd a id (some p)) B = cnt (upd a id none) B + 1 := by
  have := cnt_upd (upd a id none) id (some p) B hid
  rw [upd_upd, upd_same] at this
  simpa using this
end

/-- A table: block T holds the two lists and how many there are; blocks gp, go hold these. -/
structure TabAt (w : World) (T gp go B S : Nat) (a o : Nat → Option Nat) : Prop where
  good : Good B S a o
  head : w.heap[T]? = some (.cells #[.slice (some ⟨gp, 0, none⟩) B B, .slice (some ⟨go, 0, none⟩) S S, .int .i64 (cnt a B : Nat)] 112 (0, 0))
  rowp : w.heap[gp]? = some (.cells (rowT B a).toArray 3 (0, 0))
  rowo : w.heap[go]? = some (.cells (rowT S o).toArray 3 (0, 0))
  n1 : T ≠ gp
  n2 : T ≠ go
  n3 : gp ≠ go
  mB : B ≤ 1048576
  mS : S ≤ 1048576
section
variable {w w1 : World} {T gp go B S : Nat} {a o : Nat → Option Nat} {F : Nat → Prop}
theorem TabAt.touch (h : TabAt w T gp go B S a o) (ht : Touch F w w1) (h1 : ¬ F T) (h2 : ¬ F gp) (h3 : ¬ F go) : TabAt w1 T gp go B S a o :=
  ⟨h.good, ht.at h.head h1, ht.at h.rowp h2, ht.at h.rowo h3, h.n1, h.n2, h.n3, h.mB, h.mS⟩
theorem TabAt.lt (h : TabAt w T gp go B S a o) : T < w.heap.size ∧ gp < w.heap.size ∧ go < w.heap.size := ⟨lt_of_heap h.head, lt_of_heap h.rowp, lt_of_heap h.rowo⟩
theorem TabAt.below (h : TabAt w T gp go B S a o) (hb : Below w.heap.size w w1) : TabAt w1 T gp go B S a o := h.touch (F := Emp) (Touch.of_below hb) id id id
theorem TabAt.alloc (h : TabAt w T gp go B S a o) (x : Obj) : TabAt (w.alloc x) T gp go B S a o := h.below ((Below.refl _ w).alloc (Nat.le_refl _) x)
theorem TabAt.drewN (h : TabAt w T gp go B S a o) (k : Nat) : TabAt (w.drewN k) T gp go B S a o := h.touch (F := Emp) ((Touch.refl Emp w).drewN k) id id id
theorem TabAt.c0 (h : TabAt w T gp go B S a o) : w.cell? ⟨T, 0, none⟩ = some (.slice (some ⟨gp, 0, none⟩) B B) := by
  have := cell_of_row w T 0 _ _ _ h.head
  simpa using this
theorem TabAt.c1 (h : TabAt w T gp go B S a o) : w.cell? ⟨T, 1, none⟩ = some (.slice (some ⟨go, 0, none⟩) S S) := by
  have := cell_of_row w T 1 _ _ _ h.head
  simpa using this
theorem TabAt.c2 (h : TabAt w T gp go B S a o) : w.cell? ⟨T, 2, none⟩ = some (.int .i64 (cnt a B : Nat)) := by
  have := cell_of_row w T 2 _ _ _ h.head
  simpa using this
theorem TabAt.f2 (h : TabAt w T gp go B S a o) : w.frozen? ⟨T, 2, none⟩ = false := frozen_of_row w T 2 _ _ h.head
theorem TabAt.cp (h : TabAt w T gp go B S a o) {i : Nat} (hi : i < B) : w.cell? ⟨gp, i, none⟩ = some (.int .i64 (enc (a i))) := by
  rw [cell_of_row w gp i _ _ _ h.rowp]; simpa using rowT_get a hi
theorem TabAt.co (h : TabAt w T gp go B S a o) {i : Nat} (hi : i < S) : w.cell? ⟨go, i, none⟩ = some (.int .i64 (enc (o i))) := by
  rw [cell_of_row w go i _ _ _ h.rowo]; simpa using rowT_get o hi
theorem TabAt.fp (h : TabAt w T gp go B S a o) (i : Nat) : w.frozen? ⟨gp, i, none⟩ = false := frozen_of_row w gp i _ _ h.rowp
theorem TabAt.fo (h : TabAt w T gp go B S a o) (i : Nat) : w.frozen? ⟨go, i, none⟩ = false := frozen_of_row w go i _ _ h.rowo
end

end Tb
end Go.Proofs.YthapggobpfcmjaaGreat

namespace Go.Proofs.YthapggobpfcmjaaGreat
namespace Tb
open Go.RowKit

set_option maxHeartbeats 400000 in
theorem has_any (g n : Nat) (a : Int) (w : World) (_hn : n ≤ 1048576) :
    Calls Tryz.prog 51 #[.slice (some ⟨g, 0, none⟩) n n, .int .i64 a] w fun e w' => e = .returned (.bool (decide (0 ≤ a ∧ a < n))) ∧ w = w' := by
  by_cases h0 : 0 ≤ a
  · by_cases h1 : a < (n : Int)
    · have hd : decide (0 ≤ a ∧ a < (n : Int)) = true := by simp [h0, h1]
      rw [hd]
      go_enter Tryz.func51, Tryz.ntmps51
      go_wp2
      go_ret
      exact ⟨rfl, rfl⟩
    · have hd : decide (0 ≤ a ∧ a < (n : Int)) = false := by simp [h1]
      rw [hd]
      go_enter Tryz.func51, Tryz.ntmps51
      go_wp2
      go_ret
      exact ⟨rfl, rfl⟩
  · have hd : decide (0 ≤ a ∧ a < (n : Int)) = false := by simp [h0]
    rw [hd]
    go_enter Tryz.func51, Tryz.ntmps51
    go_wp2
    go_ret
    exact ⟨rfl, rfl⟩

set_option maxHeartbeats 400000 in
theorem look_any (g n : Nat) (f : Nat → Option Nat) (a : Int) (w : World) (hn : n ≤ 1048576) (hf : ∀ i, n ≤ i → f i = none) (hc : ∀ i, i < n → w.cell? ⟨g, i, none⟩ = some (.int .i64 (enc (f i)))) :
    Calls Tryz.prog 66 #[.slice (some ⟨g, 0, none⟩) n n, .int .i64 a] w fun e w' => e = .returned (.tuple #[.int .i64 (ans (lookI f a)), .bool (lookI f a).isSome]) ∧ w = w' := by
  have H := Lib.hid (has_any g n a w hn)
  by_cases h0 : 0 ≤ a
  · obtain ⟨i, rfl⟩ : ∃ i : Nat, a = (i : Int) := ⟨a.toNat, by omega⟩
    rw [lookI_nat]
    by_cases h1 : i < n
    · have hd : decide (0 ≤ (i : Int) ∧ (i : Int) < (n : Int)) = true := by simp [h1]
      rw [hd] at H
      have hv := hc i h1
      clear hf hc hd h0
      cases e : f i with
      | none =>
        rw [e] at hv
        simp only [enc] at hv
        simp only [ans, Option.isSome]
        go_enter Tryz.func66, Tryz.ntmps66
        go_wp2_with fail
        refine H.out.mono ?_
        rintro e w' ⟨rfl, rfl⟩
        go_wp2
        go_ret2
        exact ⟨rfl, rfl⟩
      | some p =>
        rw [e] at hv
        simp only [enc] at hv
        simp only [ans, Option.isSome]
        have hb : ((p : Int) == -1) = false := by rw [beq_eq_false_iff_ne]; omega
        go_enter Tryz.func66, Tryz.ntmps66
        go_wp2_with fail
        refine H.out.mono ?_
        rintro e w' ⟨rfl, rfl⟩
        go_wp2
        go_ret2
        exact ⟨rfl, rfl⟩
    · have hd : decide (0 ≤ (i : Int) ∧ (i : Int) < (n : Int)) = false := by simp; omega
      rw [hd] at H
      rw [hf i (by omega)]
      simp only [ans, Option.isSome]
      go_enter Tryz.func66, Tryz.ntmps66
      go_wp2_with fail
      refine H.out.mono ?_
      rintro e w' ⟨rfl, rfl⟩
      go_wp2
      go_ret2
      exact ⟨rfl, rfl⟩
  · have hd : decide (0 ≤ a ∧ a < (n : Int)) = false := by simp [h0]
    rw [hd] at H
    have hl : lookI f a = none := by simp [lookI, h0]
    rw [hl]
    simp only [ans, Option.isSome]
    go_enter Tryz.func66, Tryz.ntmps66
    go_wp2_with fail
    refine H.out.mono ?_
    rintro e w' ⟨rfl, rfl⟩
    go_wp2
    go_ret2
    exact ⟨rfl, rfl⟩

section
variable {w : World} {T gp go B S : Nat} {a o : Nat → Option Nat}
set_option maxHeartbeats 400000 in
theorem at_any (h : TabAt w T gp go B S a o) (id : Int) :
    Calls Tryz.prog 38 #[.pointer (some ⟨T, 0, none⟩), .int .i64 id] w fun e w' => e = .returned (.tuple #[.int .i64 (ans (lookI a id)), .bool (lookI a id).isSome]) ∧ w = w' := by
  have hc := h.c0
  have L := Lib.hid (look_any gp B a id w h.mB (fun i hi => h.good.outA hi) (fun i hi => h.cp hi))
  clear h
  go_enter Tryz.func38, Tryz.ntmps38
  go_wp2_with fail
  refine L.out.mono ?_
  rintro e w' ⟨rfl, rfl⟩
  go_wp2
  go_ret2
  exact ⟨rfl, rfl⟩
set_option maxHeartbeats 400000 in
theorem owner_any (h : TabAt w T gp go B S a o) (p : Int) :
    Calls Tryz.prog 88 #[.pointer (some ⟨T, 0, none⟩), .int .i64 p] w fun e w' => e = .returned (.tuple #[.int .i64 (ans (lookI o p)), .bool (lookI o p).isSome]) ∧ w = w' := by
  have hc := h.c1
  have L := Lib.hid (look_any go S o p w h.mS (fun i hi => h.good.outO hi) (fun i hi => h.co hi))
  clear h
  go_enter Tryz.func88, Tryz.ntmps88
  go_wp2_with fail
  refine L.out.mono ?_
  rintro e w' ⟨rfl, rfl⟩
  go_wp2
  go_ret2
  exact ⟨rfl, rfl⟩
end

end Tb
end Go.Proofs.YthapggobpfcmjaaGreat

namespace Go.Proofs.YthapggobpfcmjaaGreat
namespace Tb
open Go.RowKit

theorem and_low32 (x : Nat) (h : x < 4294967296) : bits .and .u64 (x : Int) 4294967295 = (x : Int) := by
  have h1 : (BitVec.ofInt 64 (x : Int)).toNat = x := by
    rw [BitVec.ofInt_natCast, BitVec.toNat_ofNat]; exact Nat.mod_eq_of_lt (by omega)
  have h2 : (BitVec.ofInt 64 (4294967295 : Int)).toNat = 2 ^ 32 - 1 := by decide
  show IntKind.u64.wrap ((BitVec.ofInt 64 (x : Int) &&& BitVec.ofInt 64 (4294967295 : Int)).toNat : Int) = _
  rw [BitVec.toNat_and, h1, h2, Nat.and_two_pow_sub_one_eq_mod, Nat.mod_eq_of_lt (by omega)]
  rw [IntKind.wrap_u64]
  omega

set_option maxHeartbeats 400000 in
theorem mul64_one (n : Nat) (w : World) (hn : n ≤ 1048576) :
    Calls Tryz.prog 94 #[.int .u64 1, .int .u64 (n : Int)] w fun e w' => e = .returned (.tuple #[.int .u64 0, .int .u64 (n : Int)]) ∧ w = w' := by
  have ha := and_low32 n (by omega)
  have hb : bits .and .u64 1 4294967295 = 1 := by decide
  have hz : bits .and .u64 0 4294967295 = 0 := by decide
  have h1 : (1 : Int) * (n : Int) = (n : Int) := by omega
  have hs : (n : Int) / 4294967296 = 0 := by omega
  go_enter Tryz.func94, Tryz.ntmps94
  go_wp2
  go_ret2
  exact ⟨rfl, rfl⟩


set_option maxHeartbeats 400000 in
theorem mul_one (n : Nat) (w : World) (hn : n ≤ 1048576) :
    Calls Tryz.prog 64 #[.int .u64 1, .int .u64 (n : Int)] w fun e w' => e = .returned (.tuple #[.int .u64 0, .int .u64 (n : Int)]) ∧ w = w' := by
  have M := Lib.hid (mul64_one n w hn)
  go_enter Tryz.func64, Tryz.ntmps64
  go_wp2_with fail
  refine M.out.mono ?_
  rintro e w' ⟨rfl, rfl⟩
  go_wp2
  go_ret2
  exact ⟨rfl, rfl⟩

theorem madeCells_one' (z : Value) (n : Nat) : madeCells #[z] n = Array.replicate n z := by
  unfold madeCells
  apply Array.ext
  · simp
  · intro i h1 h2
    simp [Nat.mod_one]
/-- A row that is filled: k cells of m. -/
def fillR (v z : Value) (m k : Nat) : List Value := List.replicate k v ++ List.replicate (m - k) z
theorem fillR_zero (v z : Value) (m : Nat) : fillR v z m 0 = List.replicate m z := by simp [fillR]
theorem fillR_full (v z : Value) (m : Nat) : fillR v z m m = List.replicate m v := by simp [fillR]
theorem fillR_length (v z : Value) (m k : Nat) (h : k ≤ m) : (fillR v z m k).length = m := by simp [fillR]; omega
theorem fillR_get (v z : Value) {m k i : Nat} (hi : i < k) : (fillR v z m k)[i]? = some v := by simp [fillR, hi, List.getElem?_append]
theorem fillR_copy (v z : Value) (m k j : Nat) (h : k + j ≤ m) : ((fillR v z m k).toArray.toList.take k ++ List.replicate j v ++ (fillR v z m k).toArray.toList.drop (k + j)).toArray = (fillR v z m (k + j)).toArray := by
  congr 1
  simp only [fillR]
  rw [List.take_append_of_le_length (by simp), List.drop_append, List.length_replicate]
  rw [List.drop_eq_nil_of_le (by simp), List.nil_append, List.drop_replicate, List.take_of_length_le (by simp), List.replicate_append_replicate]
  congr 2
  omega
theorem Tryz.infoi : (Tryz.prog.info? 3).map (fun i => (i.zero, i.size, i.bytes)) = some (some (.int .i64 0), 1, 8) := by kernel_rfl
theorem make_i (w : World) (m : Nat) (hm : m ≤ 1048576) :
    (Instr.makeSlice 33 (.int .i64 (m : Int)) (.int .i64 (m : Int))).run Tryz.prog w = .ok (.slice (some ⟨w.heap.size, 0, none⟩) m m) (w.alloc (.cells (List.replicate m (.int .i64 0)).toArray 3)) := by
  obtain ⟨i0, hi, hz0, hz1, hz2⟩ := info_parts Tryz.infoi
  have := run_make (P := Tryz.prog) w 33 3 i0 (.int .i64 0) Tryz.underlying33 hi hz0 .i64 .i64 m m (by omega) (by omega) (by rw [hz2]; omega) (by omega)
  rw [this, hz1]
  simp only [Value.cells, madeCells_one', Nat.mul_one, Int.toNat_natCast, List.toArray_replicate]
theorem size_i : (Tryz.prog.info? 3).map (·.size) = some 1 := by
  obtain ⟨i0, hi, hz0, hz1, hz2⟩ := info_parts Tryz.infoi
  rw [hi]; simp [hz1]
/-- The first copy: one number, or none. -/
theorem copy_first (w : World) (g N m c : Nat) (x : Int) (ty : TypeId) (hx : w.cell? ⟨g, 0, none⟩ = some (.int .i64 x)) (hN : w.heap[N]? = some (.cells (fillR (.int .i64 x) (.int .i64 0) m 0).toArray 3 (0, 0))) :
    (Builtin.copy_ #[33, 33] ty #[.slice (some ⟨N, 0, none⟩) m m, .slice (some ⟨g, 0, none⟩) 1 c]).run Tryz.prog w = .ok (goInt (min 1 m : Nat)) (w.setRow N (fillR (.int .i64 x) (.int .i64 0) m (min 1 m)).toArray) := by
  have hl : (List.replicate (min 1 m) (Value.int .i64 x)).length = Nat.min 1 m := by simp
  have := run_copy_row (P := Tryz.prog) w 33 33 ty 3 N 0 m m ⟨g, 0, none⟩ 1 c _ 3 (List.replicate (min 1 m) (.int .i64 x))
    Tryz.underlying33 size_i hN hl (by
      intro j v hj
      rw [List.getElem?_replicate] at hj
      split at hj
      · cases hj
        obtain rfl : j = 0 := by omega
        exact hx
      · cases hj) (by simp [fillR]; omega) (by intro v hv; rw [List.eq_of_mem_replicate hv]; rfl)
  rw [this, List.length_replicate, fillR_copy _ _ _ _ _ (by omega), Nat.zero_add]
/-- The later copies: what is there is laid behind itself. -/
theorem copy_more (w : World) (N m k : Nat) (x : Int) (ty : TypeId) (hk : k ≤ m) (hN : w.heap[N]? = some (.cells (fillR (.int .i64 x) (.int .i64 0) m k).toArray 3 (0, 0))) :
    (Builtin.copy_ #[33, 33] ty #[.slice (some ⟨N, k, none⟩) (m - k) (m - k), .slice (some ⟨N, 0, none⟩) k m]).run Tryz.prog w = .ok (goInt (min k (m - k) : Nat)) (w.setRow N (fillR (.int .i64 x) (.int .i64 0) m (k + min k (m - k))).toArray) := by
  have hl : (List.replicate (min k (m - k)) (Value.int .i64 x)).length = Nat.min k (m - k) := by simp
  have := run_copy_row (P := Tryz.prog) w 33 33 ty 3 N k (m - k) (m - k) ⟨N, 0, none⟩ k m _ 3 (List.replicate (min k (m - k)) (.int .i64 x))
    Tryz.underlying33 size_i hN hl (by
      intro j v hj
      rw [List.getElem?_replicate] at hj
      split at hj
      · cases hj
        have e : (⟨N, 0, none⟩ : Addr).add j = ⟨N, j, none⟩ := by unfold Addr.add; split <;> simp_all
        rw [e, cell_of_row w N j _ _ _ hN]
        simpa using fillR_get (.int .i64 x) (.int .i64 0) (show j < k by omega)
      · cases hj) (by rw [List.size_toArray, fillR_length _ _ _ _ hk, List.length_replicate]; omega) (by intro v hv; rw [List.eq_of_mem_replicate hv]; rfl)
  rw [this, List.length_replicate, fillR_copy _ _ _ _ _ (by omega)]

/-- What Repeat has built so far. -/
structure Rep (w : World) (x : Int) (m k : Nat) (wr : World) : Prop where
  below : Below w.heap.size w wr
  row : wr.heap[w.heap.size]? = some (.cells (fillR (.int .i64 x) (.int .i64 0) m k).toArray 3 (0, 0))
theorem Rep.step {w wr : World} {x : Int} {m k : Nat} (h : Rep w x m k wr) (k' : Nat) : Rep w x m k' (wr.setRow w.heap.size (fillR (.int .i64 x) (.int .i64 0) m k').toArray) :=
  ⟨((Touch.of_below (F := Emp) h.below).setRow (.inr (Nat.le_refl _)) _).below, setRow_heap wr _ _ _ _ _ h.row⟩
theorem Rep.drewN {w wr : World} {x : Int} {m k : Nat} (h : Rep w x m k wr) (n : Nat) : Rep w x m k (wr.drewN n) :=
  ⟨((Touch.of_below (F := Emp) h.below).drewN n).below, h.row⟩
theorem Rep.start (w : World) (x : Int) (m : Nat) : Rep w x m 0 (w.alloc (.cells (List.replicate m (.int .i64 0)).toArray 3)) :=
  ⟨(Below.refl _ w).alloc (Nat.le_refl _) _, by rw [fillR_zero]; exact heap_alloc_new w _⟩

set_option maxRecDepth 100000 in
set_option maxHeartbeats 1000000 in
theorem repeat_one (g m : Nat) (x : Int) (w : World) (hm : m ≤ 1048576) (hx : w.cell? ⟨g, 0, none⟩ = some (.int .i64 x)) :
    Calls Tryz.prog 33 #[.slice (some ⟨g, 0, none⟩) 1 1, .int .i64 (m : Int)] w fun e w' => e = .returned (.slice (some ⟨w.heap.size, 0, none⟩) m m) ∧ Rep w x m m w' := by
  have MU := Lib.hid (mul_one m w hm)
  have hmk := make_i w m hm
  have R0 := Lib.hid (Rep.start w x m)
  have hx1 : (w.alloc (.cells (List.replicate m (.int .i64 0)).toArray 3)).cell? ⟨g, 0, none⟩ = some (.int .i64 x) := by
    rw [World.cell?_alloc_lt _ _ _ (World.block_lt_of_cell? w ⟨g, 0, none⟩ hx)]; exact hx
  have hcp := fun ty => copy_first _ g w.heap.size m 1 x ty hx1 R0.out.row
  have R1 := Lib.hid (R0.out.step (min 1 m))
  clear hx hx1
  generalize (w.alloc (.cells (List.replicate m (.int .i64 0)).toArray 3)) = W0 at *
  have hk1 : min 1 m ≤ m ∧ (1 ≤ min 1 m ∨ m = 0) := by omega
  generalize min 1 m = k1 at *
  go_enter Tryz.func33, Tryz.ntmps33
  go_wp2_with fail
  refine MU.out.mono ?_
  rintro e w' ⟨rfl, rfl⟩
  go_wp2
  go_loopw [8] (fun i wr => ∃ k : Nat, k ≤ m ∧ (1 ≤ k ∨ m = 0) ∧ i = .int .i64 k ∧ Rep w x m k wr) (fun i _ => m - (intOf i).toNat)
  case atStart => exact ⟨k1, hk1.1, hk1.2, rfl, R1.out⟩
  case round =>
    obtain ⟨k, hk, hk0, rfl, hF⟩ := hrel
    have HF := Lib.hid hF
    by_cases hlt : k < m
    · have hcm := fun ty => copy_more wr.drew w.heap.size m k x ty hk hF.row
      have HK := Lib.hid hk0
      clear hF hk0
      go_wp2_with fail
      go_region
      go_roundw
      case rel => exact ⟨.int .i64 ((k : Int) + (min k (m - k) : Nat)), _, _, _, _, _, _, _, _, _, _, _, _, _, ⟨k + min k (m - k), by omega, by have := HK.out; omega, rfl, (HF.out.drewN 1).step _⟩, rfl⟩
      case measure =>
        have := HK.out
        simp [intOf]
        omega
    · obtain rfl : k = m := by omega
      clear hk hF
      go_wp2
      go_ret
      exact ⟨rfl, HF.out⟩


/-- Lists that have nothing yet. -/
theorem clamp_run (n : Int) (m : Nat) (hm : min (max n 0) 1048576 = (m : Int)) : ∃ x : Int, (∀ W : World, (Builtin.max_ #[3, 3] 3 #[.int .i64 n, .int .i64 0]).run Tryz.prog W = .ok (.int .i64 x) W) ∧ (∀ W : World, (Builtin.min_ #[3, 3] 3 #[.int .i64 x, .int .i64 1048576]).run Tryz.prog W = .ok (.int .i64 (m : Int)) W) := by
  refine ⟨max n 0, fun W => ?_, fun W => ?_⟩
  · simp [Builtin.max_, Builtin.max2]
    split <;> omega
  · simp [Builtin.min_, Builtin.min2]
    split <;> omega
theorem none_row (m : Nat) : fillR (.int .i64 (-1)) (.int .i64 0) m m = rowT m (fun _ => none) := by
  rw [fillR_full]
  apply List.ext_getElem <;> simp [rowT, enc]
set_option maxHeartbeats 400000 in
theorem nones_any (n : Int) (m : Nat) (w : World) (hm : min (max n 0) 1048576 = (m : Int)) :
    Calls Tryz.prog 50 #[.int .i64 n] w fun e w' => ∃ g, e = .returned (.slice (some ⟨g, 0, none⟩) m m) ∧ w.heap.size ≤ g ∧ Below w.heap.size w w' ∧ w'.heap[g]? = some (.cells (rowT m (fun _ => none)).toArray 3 (0, 0)) := by
  have hm2 : m ≤ 1048576 := by omega
  obtain ⟨x0, hx, hy⟩ := clamp_run n m hm
  have R := Lib.hid (repeat_one w.heap.size m (-1) (w.alloc (.cells #[.int .i64 (-1)] 3)) hm2 (by rw [cell_of_row _ _ 0 _ _ _ (heap_alloc_new w _)]; rfl))
  clear hm
  go_enter Tryz.func50, Tryz.ntmps50
  go_wp2_with fail
  refine R.out.mono ?_
  rintro e w1 ⟨rfl, hr⟩
  have HR := Lib.hid hr
  clear hr
  go_wp2
  go_ret
  exact ⟨_, rfl, by simp, ((Below.refl _ w).alloc (Nat.le_refl _) _).trans (HR.out.below.mono (by simp)), by have := HR.out.row; simp only [none_row] at this; simpa using this⟩

set_option maxHeartbeats 400000 in
theorem new_any (n k : Int) (B S : Nat) (w : World) (hB : min (max n 0) 1048576 = (B : Int)) (hS : min (max k 0) 1048576 = (S : Int)) :
    Calls Tryz.prog 22 #[.int .i64 n, .int .i64 k] w fun e w' => (∃ T gp go, e = .returned (.pointer (some ⟨T, 0, none⟩)) ∧ TabAt w' T gp go B S (fun _ => none) (fun _ => none) ∧ w.heap.size ≤ T ∧ w.heap.size ≤ gp ∧ w.heap.size ≤ go) ∧ Below w.heap.size w w' := by
  have N1 := Lib.hid (nones_any n B w hB)
  have N2 := Lib.hid (fun W => nones_any k S W hS)
  have hB2 : B ≤ 1048576 := by omega
  have hS2 : S ≤ 1048576 := by omega
  clear hB hS
  go_enter Tryz.func22, Tryz.ntmps22
  go_wp2_with fail
  refine N1.out.mono ?_
  rintro e w1 ⟨gp, rfl, hg1, hb1, hr1⟩
  have HG1 := Lib.hid hg1
  have HB1 := Lib.hid hb1
  have HR1 := Lib.hid hr1
  clear hg1 hb1 hr1
  go_wp2_with fail
  refine (N2.out w1).mono ?_
  rintro e w2 ⟨go, rfl, hg2, hb2, hr2⟩
  have HG2 := Lib.hid hg2
  have HB2 := Lib.hid hb2
  have HR2 := Lib.hid hr2
  clear hg2 hb2 hr2
  go_wp2
  go_ret
  have l1 := lt_of_heap HR1.out
  have l2 := lt_of_heap HR2.out
  have s1 := HB1.out.size
  have s2 := HB2.out.size
  have g1 := HG1.out
  have g2 := HG2.out
  have hr1 := (HB2.out.block gp l1).trans HR1.out
  have hc : cnt (fun _ => none) B = 0 := by
    clear N1 N2 HR1 HR2 hr1
    induction B with
    | zero => rfl
    | succ n ih => simp only [cnt]; rw [ih (by omega)]; rfl
  refine ⟨⟨_, gp, go, rfl, ⟨good_none, ?_, ?_, ?_, by omega, by omega, by omega, hB2, hS2⟩, by omega, by omega, by omega⟩, (HB1.out.trans (HB2.out.mono s1)).alloc (by omega) _⟩
  · rw [hc]; exact heap_alloc_new w2 _
  · rw [heap_alloc_old w2 _ (by omega)]; exact hr1
  · rw [heap_alloc_old w2 _ l2]; exact HR2.out

end Tb
end Go.Proofs.YthapggobpfcmjaaGreat

namespace Go.Proofs.YthapggobpfcmjaaGreat
namespace Tb
open Go.RowKit

section
variable {w : World} {T gp go B S : Nat} {a o : Nat → Option Nat}
/-- Three stores: a block's place, a place's block, how many there are. -/
theorem TabAt.store3 (h : TabAt w T gp go B S a o) {i q c : Nat} {u v : Option Nat} (hg : Good B S (upd a i u) (upd o q v)) (hc : cnt (upd a i u) B = c) :
    TabAt (((w.setCell ⟨gp, i, none⟩ (.int .i64 (enc u))).setCell ⟨go, q, none⟩ (.int .i64 (enc v))).setCell ⟨T, 2, none⟩ (.int .i64 (c : Int))) T gp go B S (upd a i u) (upd o q v) := by
  have e1 := heap_setCell_same w gp i _ _ (.int .i64 (enc u)) h.rowp
  have e2 : (w.setCell ⟨gp, i, none⟩ (.int .i64 (enc u))).heap[go]? = _ := (heap_setCell_other w ⟨gp, i, none⟩ go _ (fun e => h.n3 e.symm)).trans h.rowo
  have e3 : (w.setCell ⟨gp, i, none⟩ (.int .i64 (enc u))).heap[T]? = _ := (heap_setCell_other w ⟨gp, i, none⟩ T _ h.n1).trans h.head
  generalize (w.setCell ⟨gp, i, none⟩ (.int .i64 (enc u))) = w1 at *
  have f1 := heap_setCell_same w1 go q _ _ (.int .i64 (enc v)) e2
  have f2 : (w1.setCell ⟨go, q, none⟩ (.int .i64 (enc v))).heap[gp]? = _ := (heap_setCell_other w1 ⟨go, q, none⟩ gp _ h.n3).trans e1
  have f3 : (w1.setCell ⟨go, q, none⟩ (.int .i64 (enc v))).heap[T]? = _ := (heap_setCell_other w1 ⟨go, q, none⟩ T _ h.n2).trans e3
  generalize (w1.setCell ⟨go, q, none⟩ (.int .i64 (enc v))) = w2 at *
  have g1 := heap_setCell_same w2 T 2 _ _ (.int .i64 (c : Int)) f3
  refine ⟨hg, ?_, ?_, ?_, h.n1, h.n2, h.n3, h.mB, h.mS⟩
  · rw [g1, hc]; rfl
  · rw [heap_setCell_other w2 ⟨T, 2, none⟩ gp _ (fun e => h.n1 e.symm), f2, ← rowT_set]; simp
  · rw [heap_setCell_other w2 ⟨T, 2, none⟩ go _ (fun e => h.n2 e.symm), f1, ← rowT_set]; simp
/-- The block of how many there are, behind the two stores. -/
theorem TabAt.after2 (h : TabAt w T gp go B S a o) (i q : Nat) (x y : Value) :
    ((w.setCell ⟨gp, i, none⟩ x).setCell ⟨go, q, none⟩ y).cell? ⟨T, 2, none⟩ = some (.int .i64 (cnt a B : Nat)) ∧ ((w.setCell ⟨gp, i, none⟩ x).setCell ⟨go, q, none⟩ y).frozen? ⟨T, 2, none⟩ = false := by
  have f3 : ((w.setCell ⟨gp, i, none⟩ x).setCell ⟨go, q, none⟩ y).heap[T]? = _ := (heap_setCell_other _ ⟨go, q, none⟩ T y h.n2).trans ((heap_setCell_other w ⟨gp, i, none⟩ T x h.n1).trans h.head)
  exact ⟨by rw [cell_of_row _ T 2 _ _ _ f3]; rfl, frozen_of_row _ T 2 _ _ f3⟩
/-- The second store's cell, behind the first one. -/
theorem TabAt.after1 (h : TabAt w T gp go B S a o) (i : Nat) {q : Nat} (hq : q < S) (x : Value) :
    (w.setCell ⟨gp, i, none⟩ x).cell? ⟨go, q, none⟩ = some (.int .i64 (enc (o q))) ∧ (w.setCell ⟨gp, i, none⟩ x).frozen? ⟨go, q, none⟩ = false := by
  have f3 : (w.setCell ⟨gp, i, none⟩ x).heap[go]? = _ := (heap_setCell_other w ⟨gp, i, none⟩ go x (fun e => h.n3 e.symm)).trans h.rowo
  exact ⟨by rw [cell_of_row _ go q _ _ _ f3]; simpa using rowT_get o hq, frozen_of_row _ go q _ _ f3⟩

def Own3 (T gp go k : Nat) : Prop := k = T ∨ k = gp ∨ k = go
theorem touch3 (w : World) (T gp go i q : Nat) (x y z : Value) (n : Nat) : Touch (Own3 T gp go) w ((((w.drewN n).setCell ⟨gp, i, none⟩ x).setCell ⟨go, q, none⟩ y).setCell ⟨T, 2, none⟩ z) :=
  ((((Touch.refl _ w).drewN n).setCell (a := ⟨gp, i, none⟩) (.inl (.inr (.inl rfl))) x).setCell (a := ⟨go, q, none⟩) (.inl (.inr (.inr rfl))) y).setCell (a := ⟨T, 2, none⟩) (.inl (.inl rfl)) z

set_option maxRecDepth 100000 in
set_option maxHeartbeats 1000000 in
theorem drop_any (h : TabAt w T gp go B S a o) (id : Int) :
    Calls Tryz.prog 52 #[.pointer (some ⟨T, 0, none⟩), .int .i64 id] w fun e w' => e = .returned (.bool (lookI a id).isSome) ∧ (∃ a' o', TabAt w' T gp go B S a' o' ∧ (0 ≤ id → a' = upd a id.toNat none ∧ o' = dropO a o id.toNat) ∧ (id < 0 → a' = a ∧ o' = o)) ∧ Touch (Own3 T gp go) w w' := by
  have A := Lib.hid (at_any h id)
  have H := Lib.hid h
  cases e : lookI a id with
  | none =>
    rw [e] at A
    simp only [ans, Option.isSome] at A ⊢
    have E := Lib.hid e
    clear h e
    go_enter Tryz.func52, Tryz.ntmps52
    go_wp2_with fail
    refine A.out.mono ?_
    rintro e w' ⟨rfl, rfl⟩
    go_wp2
    go_ret
    refine ⟨rfl, ⟨a, o, H.out, fun h0 => ?_, fun _ => ⟨rfl, rfl⟩⟩, Touch.refl _ _⟩
    have he := E.out
    simp only [lookI, h0, if_true] at he
    exact ⟨by rw [← he, upd_self], by simp [dropO, he]⟩
  | some q =>
    rw [e] at A
    simp only [ans, Option.isSome] at A ⊢
    obtain ⟨i, rfl⟩ : ∃ i : Nat, id = (i : Int) := ⟨id.toNat, by
      by_cases h0 : 0 ≤ id
      · omega
      · simp [lookI, h0] at e⟩
    rw [lookI_nat] at e
    obtain ⟨hi, hq⟩ := h.good.lt i q e
    have hi' : (i : Int) < (B : Int) := by omega
    have hq' : (q : Int) < (S : Int) := by omega
    have c0 := h.c0
    have c1 := h.c1
    have cp := h.cp hi
    have fp := h.fp i
    obtain ⟨co, fo⟩ := h.after1 i hq (.int .i64 (-1))
    obtain ⟨c2, f2⟩ := h.after2 i q (.int .i64 (-1)) (.int .i64 (-1))
    have hcd := h.good.cnt_drop i
    rw [e] at hcd
    simp only [Option.isSome, if_true] at hcd
    have HG := Lib.hid (h.good.drop i)
    have E := Lib.hid e
    have hle := cnt_le a B
    have hmB := h.mB
    obtain ⟨c, hc⟩ : ∃ c : Nat, cnt (upd a i none) B = c := ⟨_, rfl⟩
    have hcc : cnt a B = c + 1 := by omega
    have HC := Lib.hid hc
    have hcb : c ≤ 1048576 := by omega
    rw [hcc] at c2
    clear h e hcd hcc hc
    go_enter Tryz.func52, Tryz.ntmps52
    go_wp2_with fail
    refine A.out.mono ?_
    rintro e w' ⟨rfl, rfl⟩
    go_wp2
    go_region
    go_wp2
    go_ret
    refine ⟨rfl, ⟨upd a i none, dropO a o i, ?_, fun _ => ⟨rfl, rfl⟩, fun h0 => by omega⟩, ?_⟩
    · have hs := (H.out.store3 (i := i) (q := q) (c := c) (u := none) (v := none) (by have := HG.out; simp only [dropO, E.out] at this; exact this) HC.out).drewN 1
      simp only [dropO, E.out]
      exact hs
    · exact touch3 w T gp go i q _ _ _ 1

set_option maxRecDepth 100000 in
set_option maxHeartbeats 1000000 in
theorem put_no (h : TabAt w T gp go B S a o) (id p : Int) (hno : ¬ (0 ≤ id ∧ id < B ∧ 0 ≤ p ∧ p < S ∧ (o p.toNat = none ∨ o p.toNat = some id.toNat))) :
    Calls Tryz.prog 23 #[.pointer (some ⟨T, 0, none⟩), .int .i64 id, .int .i64 p] w fun e w' => e = .returned (.bool false) ∧ w = w' := by
  have H1 := Lib.hid (has_any gp B id w h.mB)
  have H2 := Lib.hid (has_any go S p w h.mS)
  have c0 := h.c0
  have c1 := h.c1
  have HO := Lib.hid (fun q (hq : q < S) => h.co hq)
  by_cases hi : 0 ≤ id ∧ id < B
  · have hd : decide (0 ≤ id ∧ id < (B : Int)) = true := by simp [hi]
    rw [hd] at H1
    by_cases hp : 0 ≤ p ∧ p < S
    · have hd : decide (0 ≤ p ∧ p < (S : Int)) = true := by simp [hp]
      rw [hd] at H2
      obtain ⟨q, rfl⟩ : ∃ q : Nat, p = (q : Int) := ⟨p.toNat, by omega⟩
      obtain ⟨i, rfl⟩ : ∃ i : Nat, id = (i : Int) := ⟨id.toNat, by omega⟩
      simp only [Int.toNat_natCast] at hno
      have hq : q < S := by omega
      have hq' : (q : Int) < (S : Int) := by omega
      have co := HO.out q hq
      cases e : o q with
      | none => exact (hno ⟨hi.1, hi.2, hp.1, hp.2, .inl e⟩).elim
      | some j =>
        rw [e] at co
        simp only [enc] at co
        have hji : j ≠ i := fun e' => hno ⟨hi.1, hi.2, hp.1, hp.2, .inr (by rw [e, e'])⟩
        have b1 : ((j : Int) != -1) = true := by rw [bne_iff_ne]; omega
        have b2 : ((j : Int) != (i : Int)) = true := by rw [bne_iff_ne]; omega
        have b3 : ((j : Int) == -1) = false := by rw [beq_eq_false_iff_ne]; omega
        have b4 : ((j : Int) == (i : Int)) = false := by rw [beq_eq_false_iff_ne]; omega
        clear h hno hi hp hd e hq HO
        go_enter Tryz.func23, Tryz.ntmps23
        go_wp2_with fail
        refine H1.out.mono ?_
        rintro e w' ⟨rfl, rfl⟩
        go_wp2_with fail
        refine H2.out.mono ?_
        rintro e w' ⟨rfl, rfl⟩
        go_wp2
        go_ret
        exact ⟨rfl, rfl⟩
    · have hd : decide (0 ≤ p ∧ p < (S : Int)) = false := by simp; omega
      rw [hd] at H2
      clear h hno hi hp hd HO
      go_enter Tryz.func23, Tryz.ntmps23
      go_wp2_with fail
      refine H1.out.mono ?_
      rintro e w' ⟨rfl, rfl⟩
      go_wp2_with fail
      refine H2.out.mono ?_
      rintro e w' ⟨rfl, rfl⟩
      go_wp2
      go_ret
      exact ⟨rfl, rfl⟩
  · have hd : decide (0 ≤ id ∧ id < (B : Int)) = false := by simp; omega
    rw [hd] at H1
    clear h hno hi hd HO
    go_enter Tryz.func23, Tryz.ntmps23
    go_wp2_with fail
    refine H1.out.mono ?_
    rintro e w' ⟨rfl, rfl⟩
    go_wp2
    go_ret
    exact ⟨rfl, rfl⟩

set_option maxRecDepth 100000 in
set_option maxHeartbeats 1000000 in
theorem put_ok (h : TabAt w T gp go B S a o) {i p : Nat} (hi : i < B) (hp : p < S) (hf : o p = none ∨ o p = some i) :
    Calls Tryz.prog 23 #[.pointer (some ⟨T, 0, none⟩), .int .i64 (i : Int), .int .i64 (p : Int)] w fun e w' => e = .returned (.bool true) ∧ TabAt w' T gp go B S (upd a i (some p)) (putO a o i p) ∧ Touch (Own3 T gp go) w w' := by
  have H1 := Lib.hid (has_any gp B i w h.mB)
  have H2 := Lib.hid (has_any go S p w h.mS)
  have hd : decide (0 ≤ (i : Int) ∧ (i : Int) < (B : Int)) = true := by simp [hi]
  rw [hd] at H1
  have hd : decide (0 ≤ (p : Int) ∧ (p : Int) < (S : Int)) = true := by simp [hp]
  rw [hd] at H2
  have c0 := h.c0
  have c1 := h.c1
  have co := h.co hp
  have hp' : (p : Int) < (S : Int) := by omega
  have hi' : (i : Int) < (B : Int) := by omega
  have D := Lib.hid (drop_any h (i : Int))
  have HGP := Lib.hid (h.good.put hi hp hf)
  have HCP := Lib.hid (cnt_put (a := a) hi p)
  have HFR := Lib.hid (h.good.free hf)
  have hcle := cnt_le (upd a i (some p)) B
  have hmB := h.mB
  have hb : ((enc (o p)) != -1 && (enc (o p)) != (i : Int)) = false := by
    rcases hf with e | e <;> rw [e] <;> simp [enc]
  have HE := Lib.hid (show enc (o p) = -1 ∨ enc (o p) = (i : Int) by rcases hf with e | e <;> rw [e] <;> simp [enc])
  generalize enc (o p) = E at *
  clear h hf hd hb
  have b1 : ((i : Int) != -1) = true := by rw [bne_iff_ne]; omega
  have b2 : ((i : Int) == -1) = false := by rw [beq_eq_false_iff_ne]; omega
  rcases HE.out with e | e <;> subst e
  all_goals
    clear HE
    go_enter Tryz.func23, Tryz.ntmps23
    go_wp2_with fail
    refine H1.out.mono ?_
    rintro e w' ⟨rfl, rfl⟩
    go_wp2_with fail
    refine H2.out.mono ?_
    rintro e w' ⟨rfl, rfl⟩
    go_wp2_with fail
    refine D.out.mono ?_
    rintro e w1 ⟨rfl, ⟨a', o', ht, hx, -⟩, htc⟩
    obtain ⟨rfl, rfl⟩ := hx (by omega)
    simp only [Int.toNat_natCast] at ht
    have HT := Lib.hid ht
    have TC := Lib.hid htc
    clear c0 c1 co ht htc hx
    have c0 := HT.out.c0
    have c1 := HT.out.c1
    have cp := HT.out.cp hi
    have fp := HT.out.fp i
    obtain ⟨co, fo⟩ := HT.out.after1 i hp (.int .i64 (p : Int))
    obtain ⟨c2, f2⟩ := HT.out.after2 i p (.int .i64 (p : Int)) (.int .i64 (i : Int))
    have hcc := HCP.out
    obtain ⟨c, hc⟩ : ∃ c : Nat, cnt (upd a i none) B = c := ⟨_, rfl⟩
    rw [hc] at c2
    have hcb : c ≤ 1048576 := by omega
    have HC := Lib.hid hc
    clear hc hcc hcle
    go_wp2
    go_region
    go_wp2
    go_ret
    refine ⟨rfl, ?_, ?_⟩
    · have hs := (HT.out.store3 (i := i) (q := p) (c := c + 1) (u := some p) (v := some i) (by rw [upd_upd]; exact HGP.out) (by rw [upd_upd, HCP.out, HC.out])).drewN 1
      rw [upd_upd] at hs
      exact hs
    · exact TC.out.trans (touch3 w1 T gp go i p _ _ _ 1) (fun k hk _ => hk)

end

end Tb
end Go.Proofs.YthapggobpfcmjaaGreat

namespace Go.Proofs.YthapggobpfcmjaaGreat
namespace Tb
open Go.RowKit Go.Shelf

/-- The blocks that are anywhere, of the first n, rising. -/
def tells (a : Nat → Option Nat) : Nat → List (Nat × Nat)
  | 0 => []
  | n + 1 => tells a n ++ (match a n with | some p => [(n, p)] | none => [])
theorem tells_none {a : Nat → Option Nat} {n : Nat} (h : a n = none) : tells a (n + 1) = tells a n := by simp [tells, h]
theorem tells_some {a : Nat → Option Nat} {n p : Nat} (h : a n = some p) : tells a (n + 1) = tells a n ++ [(n, p)] := by simp [tells, h]
theorem tells_length (a : Nat → Option Nat) (n : Nat) : (tells a n).length = cnt a n := by
  induction n with
  | zero => rfl
  | succ n ih => cases h : a n <;> simp [tells, cnt, h, ih]
theorem tells_lt {a : Nat → Option Nat} {n : Nat} {z : Nat × Nat} (h : z ∈ tells a n) : z.1 < n := by
  induction n with
  | zero => simp [tells] at h
  | succ n ih =>
    cases e : a n with
    | none => rw [tells_none e] at h; have := ih h; omega
    | some p =>
      rw [tells_some e, List.mem_append, List.mem_singleton] at h
      rcases h with h | rfl
      · have := ih h; omega
      · simp
def lastI (pre : List (Nat × Nat)) : Int := match pre.getLast? with | some z => z.1 | none => -1
theorem lastI_append (pre : List (Nat × Nat)) (z : Nat × Nat) : lastI (pre ++ [z]) = z.1 := by simp [lastI]
theorem lastI_bd (pre : List (Nat × Nat)) : -1 ≤ lastI pre := by
  unfold lastI; split <;> omega
def Told (a : Nat → Option Nat) (B : Nat) (pre : List (Nat × Nat)) : Prop := ∃ k, k ≤ B ∧ pre = tells a k
theorem told_last {a : Nat → Option Nat} {pre : List (Nat × Nat)} {y : Nat × Nat} : ∀ {k : Nat}, pre ++ [y] = tells a k → a y.1 = some y.2 ∧ lastI pre < (y.1 : Int)
  | 0, h => by simp [tells] at h
  | k + 1, h => by
    cases e : a k with
    | none => rw [tells_none e] at h; exact told_last h
    | some p =>
      rw [tells_some e] at h
      obtain ⟨rfl, h2⟩ := List.append_inj' h rfl
      obtain rfl : y = (k, p) := by simpa using h2
      refine ⟨e, ?_⟩
      unfold lastI
      cases g : (tells a k).getLast? with
      | none => simp; omega
      | some z =>
        have := tells_lt (List.mem_of_getLast? g)
        simp; exact this

set_option maxHeartbeats 1000000 in
theorem all_i (T : Nat) (w : World) :
    Calls Tryz.prog 34 #[.pointer (some ⟨T, 0, none⟩)] w fun e w' => e = .returned (.func (.func 65) #[] #[.pointer (some ⟨w.heap.size, 0, none⟩)]) ∧ w.alloc (.cells #[.pointer (some ⟨T, 0, none⟩)] 70) = w' := by
  go_enter Tryz.func34, Tryz.ntmps34
  go_wp2
  go_ret
  exact ⟨rfl, rfl⟩

attribute [local go_sem] Oper.semAt_some

/-- The iterator's blocks: none of them is touched by the body of a round. -/
structure AllFree (F : Nat → Prop) (br T gp go : Nat) : Prop where
  r : ¬ F br
  T : ¬ F T
  p : ¬ F gp
  o : ¬ F go

set_option maxRecDepth 100000 in
set_option maxHeartbeats 2000000 in
/-- The iterator: for every body that touches F alone. -/
theorem all1_in (d : Nat) (hd : 1 ≤ d) (l : Nat) (F : Nat → Prop) (br T gp go B S : Nat) (a o : Nat → Option Nat) (hF : AllFree F br T gp go) (J Jx : List (Nat × Nat) → World → Prop)
    (hY : ∀ pre y W, J pre W → pre.length < B → YieldAt Fence.wide (d - 1) Tryz.prog l #[.int .i64 (y.1 : Int), .int .i64 (y.2 : Int)] W fun e W' =>
      (e = .returned (.bool true) ∧ J (pre ++ [y]) W' ∧ Touch F W W') ∨ (e = .returned (.bool false) ∧ Jx (pre ++ [y]) W'))
    (W : World) (hA : Boxed W br 70 (.pointer (some ⟨T, 0, none⟩))) (hR : TabAt W T gp go B S a o) (h0 : J [] W) :
    CallsIn Fence.wide d Tryz.prog 65 #[.func (.yield l) #[] #[], .pointer (some ⟨br, 0, none⟩)] W fun e W' => (∃ v, e = .returned v) ∧
      ((∃ ys, ys = tells a B ∧ J ys W') ∨ (∃ pre, Told a B pre ∧ Jx pre W')) := by
  have hc0 := hA.cell
  have hc1 := hR.c0
  have hmB := hR.mB
  refine callsIn_of_wp Tryz.func65 rfl trivial ?_ rfl
  simp only [Tryz.ntmps65, List.size_toArray, List.length_cons, List.length_nil, Nat.reduceAdd, Nat.reduceSub, Array.replicate_succ, Array.replicate_zero, List.push_toArray, List.append_toArray, List.nil_append, List.cons_append]
  have HA := Lib.hid hA
  have HR := Lib.hid hR
  have HY := Lib.hid hY
  have H0 := Lib.hid h0
  have HF := Lib.hid hF
  clear hA hR hY h0 hF
  gi_wp2
  gi_loopw [10] (fun i wr => ∃ k : Nat, k ≤ B ∧ i = .int .i64 k ∧ J (tells a k) wr ∧ TabAt wr T gp go B S a o)
    (fun i _ => B - (intOf i).toNat)
  case atStart => exact ⟨0, Nat.zero_le _, rfl, H0.out, HR.out⟩
  case round =>
    obtain ⟨k, hk, rfl, hJ, hR⟩ := hrel
    by_cases hlt : k < B
    · have hc4 := hR.cp hlt
      have hcl : (tells a k).length < B := by rw [tells_length]; have := cnt_le a k; omega
      cases e : a k with
      | none =>
        have J3 := Lib.hid hJ
        replace HR := Lib.hid hR
        rw [e] at hc4
        simp only [enc] at hc4
        clear hJ hR H0
        gi_wp2
        refine ⟨(fun _ h => by cases h), ?_⟩
        gi_wp2
        go_roundw
        case rel => exact ⟨k + 1, by omega, by go_num, by rw [tells_none e]; exact J3.out, HR.out⟩
        case measure => simp [intOf]; omega
      | some p =>
        rw [e] at hc4
        simp only [enc] at hc4
        have hb : ((p : Int) != -1) = true := by rw [bne_iff_ne]; omega
        obtain ⟨fn, tmps, assign, body, hy, hRd⟩ := HY.out _ (k, p) wr hJ hcl
        dsimp only at hy
        replace HR := Lib.hid hR
        have RD := Lib.hid hRd
        clear hR hJ H0 hRd hcl
        gi_wp2_with fail
        refine RD.out.mono ?_
        rintro e' W3 (⟨rfl, hJ3, hk3⟩ | ⟨rfl, hJx3⟩)
        · have J3 := Lib.hid hJ3
          have HR3 := Lib.hid (HR.out.touch hk3 HF.out.T HF.out.p HF.out.o)
          clear hJ3 hk3
          gi_wp2
          go_roundw
          case rel => exact ⟨k + 1, by omega, by go_num, by rw [tells_some e]; exact J3.out, HR3.out⟩
          case measure => simp [intOf]; omega
        · have J3 := Lib.hid hJx3
          clear hJx3
          gi_wp2
          refine bodyPost_ret (results_none rfl _ _ _) rfl ?_
          exact ⟨⟨_, rfl⟩, .inr ⟨_, ⟨k + 1, by omega, (tells_some e).symm⟩, J3.out⟩⟩
    · obtain rfl : k = B := by omega
      have J3 := Lib.hid hJ
      clear hJ hR H0
      gi_wp2
      go_end0
      exact ⟨⟨_, rfl⟩, .inl ⟨_, rfl, J3.out⟩⟩

end Tb
end Go.Proofs.YthapggobpfcmjaaGreat
