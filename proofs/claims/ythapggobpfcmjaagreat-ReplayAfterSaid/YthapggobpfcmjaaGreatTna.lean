/- Tags: plain mathematics; Right; the fields, and their functions. No condition. -/
import Derived.Test.YthapggobpfcmjaaGreatBuf
import Derived.Test.YthapggobpfcmjaaGreatOct
import Derived.Test.YthapggobpfcmjaaGreatDva
import Derived.Lib.AppendStr
import Derived.RegionTactic
import Derived.ChangeAlike
import Derived.Maps.AppendAt

set_option maxRecDepth 100000
namespace Go.Proofs.YthapggobpfcmjaaGreat
namespace Tg
open Oct

/-- A tag: Epoch, Start, Seq, Floor, Index, Count, ID. -/
structure T where
  e : Nat
  s : Nat
  q : Nat
  f : Nat
  i : Int
  c : Int
  d : Int
deriving DecidableEq

def batchB (t : T) : Bool := decide (1 ≤ t.e ∧ 1 ≤ t.s ∧ t.s ≤ t.q ∧ t.q ≤ 281474976710655 ∧ t.f < t.q)
def placeB (t : T) : Bool := decide (1 ≤ t.c ∧ t.c ≤ 72 ∧ 0 ≤ t.i ∧ t.i < t.c)
def rightB (t : T) : Bool := decide (1 ≤ t.e ∧ 1 ≤ t.s ∧ t.s ≤ t.q ∧ t.q ≤ 281474976710655 ∧ t.f < t.q ∧ 1 ≤ t.c ∧ t.c ≤ 72 ∧ 0 ≤ t.i ∧ t.i < t.c ∧ 0 ≤ t.d ∧ t.d < 3840)
theorem right_iff (t : T) : rightB t = true ↔ (1 ≤ t.e ∧ 1 ≤ t.s ∧ t.s ≤ t.q ∧ t.q ≤ 281474976710655 ∧ t.f < t.q ∧ 1 ≤ t.c ∧ t.c ≤ 72 ∧ 0 ≤ t.i ∧ t.i < t.c ∧ 0 ≤ t.d ∧ t.d < 3840) := by simp [rightB]

def size : Nat → Nat
  | 0 => 4
  | 1 => 6
  | 2 => 6
  | 3 => 6
  | 4 => 1
  | 5 => 1
  | _ => 2
def val (t : T) : Nat → Nat
  | 0 => t.e
  | 1 => t.q
  | 2 => t.f
  | 3 => t.s
  | 4 => t.i.toNat
  | 5 => t.c.toNat
  | _ => t.d.toNat
def place : Nat → Nat
  | 0 => 4
  | 1 => 8
  | 2 => 14
  | 3 => 20
  | 4 => 26
  | 5 => 27
  | 6 => 28
  | _ => 30
/-- A sector's mark and first k numbers. -/
def pre (t : T) : Nat → List UInt8
  | 0 => [72, 82, 82, 87]
  | k + 1 => pre t k ++ le (size k) (val t k)
theorem pre_length (t : T) : ∀ k, k ≤ 7 → (pre t k).length = place k
  | 0, _ => rfl
  | k + 1, h => by
    rw [pre, List.length_append, le_length, pre_length t k (by omega)]
    have : k = 0 ∨ k = 1 ∨ k = 2 ∨ k = 3 ∨ k = 4 ∨ k = 5 ∨ k = 6 := by omega
    rcases this with rfl | rfl | rfl | rfl | rfl | rfl | rfl <;> rfl
/-- The head: 32 bytes. -/
def head (t : T) : List UInt8 := pre t 7 ++ [0, 0]
theorem head_length (t : T) : (head t).length = 32 := by rw [head, List.length_append, pre_length t 7 (Nat.le_refl _)]; rfl
def enc (t : T) (b : List UInt8) : List UInt8 := head t ++ b
theorem enc_length (t : T) (b : List UInt8) : (enc t b).length = 32 + b.length := by rw [enc, List.length_append, head_length]
theorem enc_drop (t : T) (b : List UInt8) : (enc t b).drop 32 = b := by
  rw [enc, ← head_length t, List.drop_left]

/-- What the bytes of a number tell. -/
def fld (b : List UInt8) (k : Nat) : Nat := unle ((b.drop (place k)).take (size k))
theorem fld_lt (b : List UInt8) (k : Nat) : fld b k < 256 ^ size k := by
  refine Nat.lt_of_lt_of_le (unle_lt _) (Nat.pow_le_pow_right (by omega) ?_)
  rw [List.length_take]; omega
/-- The numbers that k rounds have told. -/
def part (b : List UInt8) (k : Nat) : T :=
  ⟨if 0 < k then fld b 0 else 0, if 3 < k then fld b 3 else 0, if 1 < k then fld b 1 else 0, if 2 < k then fld b 2 else 0,
    if 4 < k then (fld b 4 : Int) else 0, if 5 < k then (fld b 5 : Int) else 0, if 6 < k then (fld b 6 : Int) else 0⟩
def told (b : List UInt8) : T := ⟨fld b 0, fld b 3, fld b 1, fld b 2, fld b 4, fld b 5, fld b 6⟩
theorem part_all (b : List UInt8) : part b 7 = told b := by simp [part, told]
theorem told_e (b : List UInt8) : (told b).e < 4294967296 := fld_lt b 0
theorem told_s (b : List UInt8) : (told b).s < 281474976710656 := fld_lt b 3
theorem told_q (b : List UInt8) : (told b).q < 281474976710656 := fld_lt b 1
theorem told_f (b : List UInt8) : (told b).f < 281474976710656 := fld_lt b 2
theorem told_i (b : List UInt8) : 0 ≤ (told b).i ∧ (told b).i < 256 := ⟨Int.natCast_nonneg _, by have := fld_lt b 4; exact Int.ofNat_lt.2 this⟩
theorem told_c (b : List UInt8) : 0 ≤ (told b).c ∧ (told b).c < 256 := ⟨Int.natCast_nonneg _, by have := fld_lt b 5; exact Int.ofNat_lt.2 this⟩
theorem told_d (b : List UInt8) : 0 ≤ (told b).d ∧ (told b).d < 65536 := ⟨Int.natCast_nonneg _, by have := fld_lt b 6; exact Int.ofNat_lt.2 this⟩

theorem fld_of (A M R b : List UInt8) (k : Nat) (hb : b = A ++ (M ++ R)) (hA : A.length = place k) (hM : M.length = size k) : fld b k = unle M := by
  subst hb
  rw [fld, ← hA, List.drop_left, ← hM, List.take_left]
theorem pre_more (t : T) : ∀ (j k : Nat), ∃ R, pre t (k + 1 + j) = pre t k ++ (le (size k) (val t k) ++ R)
  | 0, k => ⟨[], by rw [List.append_nil]; rfl⟩
  | j + 1, k => by
    obtain ⟨R, h⟩ := pre_more t j k
    refine ⟨R ++ le (size (k + 1 + j)) (val t (k + 1 + j)), ?_⟩
    rw [show k + 1 + (j + 1) = k + 1 + j + 1 by omega, pre, h]; simp [List.append_assoc]
theorem fld_enc (t : T) (b : List UInt8) (k : Nat) (hk : k < 7) : fld (enc t b) k = val t k % 256 ^ size k := by
  obtain ⟨R, h⟩ := pre_more t (6 - k) k
  rw [show k + 1 + (6 - k) = 7 by omega] at h
  rw [fld_of (pre t k) (le (size k) (val t k)) (R ++ [0, 0] ++ b) _ k (by rw [enc, head, h]; simp [List.append_assoc]) (pre_length t k (by omega)) (le_length _ _), unle_le]
/-- There is but one tag of a sector. -/
theorem told_enc (t : T) (b : List UInt8) (h : rightB t = true) (he : t.e < 4294967296) : told (enc t b) = t := by
  obtain ⟨h1, h2, h3, h4, h5, h6, h7, h8, h9, h10, h11⟩ := (right_iff t).1 h
  obtain ⟨e, s, q, f, i, c, d⟩ := t
  have e0 : (val ⟨e, s, q, f, i, c, d⟩ 0 % 256 ^ size 0) = e := Nat.mod_eq_of_lt he
  have e1 : (val ⟨e, s, q, f, i, c, d⟩ 1 % 256 ^ size 1) = q := Nat.mod_eq_of_lt (show q < 281474976710656 by simp at *; omega)
  have e2 : (val ⟨e, s, q, f, i, c, d⟩ 2 % 256 ^ size 2) = f := Nat.mod_eq_of_lt (show f < 281474976710656 by simp at *; omega)
  have e3 : (val ⟨e, s, q, f, i, c, d⟩ 3 % 256 ^ size 3) = s := Nat.mod_eq_of_lt (show s < 281474976710656 by simp at *; omega)
  have e4 : (val ⟨e, s, q, f, i, c, d⟩ 4 % 256 ^ size 4) = i.toNat := Nat.mod_eq_of_lt (show i.toNat < 256 by simp at *; omega)
  have e5 : (val ⟨e, s, q, f, i, c, d⟩ 5 % 256 ^ size 5) = c.toNat := Nat.mod_eq_of_lt (show c.toNat < 256 by simp at *; omega)
  have e6 : (val ⟨e, s, q, f, i, c, d⟩ 6 % 256 ^ size 6) = d.toNat := Nat.mod_eq_of_lt (show d.toNat < 65536 by simp at *; omega)
  simp only [told, fld_enc _ _ _ (show 0 < 7 by omega), fld_enc _ _ _ (show 1 < 7 by omega), fld_enc _ _ _ (show 2 < 7 by omega), fld_enc _ _ _ (show 3 < 7 by omega), fld_enc _ _ _ (show 4 < 7 by omega), fld_enc _ _ _ (show 5 < 7 by omega), fld_enc _ _ _ (show 6 < 7 by omega), e0, e1, e2, e3, e4, e5, e6]
  simp only [T.mk.injEq, true_and]
  simp at h6 h8 h10
  omega

/-- What a sector has: whether it has a tag. -/
def decB (b : List UInt8) : Bool := rightB (told b) && (enc (told b) (b.drop 32) == b)
theorem dec_iff (b : List UInt8) : decB b = true ↔ rightB (told b) = true ∧ enc (told b) (b.drop 32) = b := by simp [decB]
theorem dec_enc (t : T) (b : List UInt8) (h : rightB t = true) (he : t.e < 4294967296) : decB (enc t b) = true := by
  rw [dec_iff, told_enc t b h he, enc_drop]; exact ⟨h, rfl⟩
theorem enc_inj (t u : T) (b : List UInt8) (h : rightB t = true) (he : t.e < 4294967296) (hu : rightB u = true) (hue : u.e < 4294967296) : enc t b = enc u b ↔ t = u :=
  ⟨fun e => by rw [← told_enc t b h he, e, told_enc u b hu hue], fun e => by rw [e]⟩
/-- One byte of the head otherwise: another tag, or none. -/
theorem dec_other (t : T) (b : List UInt8) (k : Nat) (x : UInt8) (hk : k < 32) (h : decB ((enc t b).set k x) = true) (e : told ((enc t b).set k x) = t) : (enc t b)[k]? = some x := by
  have h2 := ((dec_iff _).1 h).2
  rw [e, List.drop_set_of_lt hk, enc_drop] at h2
  have := congrArg (fun (l : List UInt8) => l[k]?) h2
  simp only [List.getElem?_set, if_pos] at this
  rw [this, if_pos (by rw [enc_length]; omega)]

end Tg
end Go.Proofs.YthapggobpfcmjaaGreat

namespace Go.Proofs.YthapggobpfcmjaaGreat
open Go.RowKit

theorem run_makeRoom (w : World) (n : Int) (h0 : 0 ≤ n) (h1 : n ≤ 281474976710656) :
    (Instr.makeSlice 39 (.int .i64 0) (.int .i64 n)).run Tryz.prog w = .ok (.slice (some ⟨w.heap.size, 0, none⟩) 0 n.toNat) (w.alloc (.cells (rowA (zerosL n.toNat)) 5)) := by
  obtain ⟨i0, hi, hz0, hz1, hz2⟩ := info_parts Tryz.info5
  have := run_make (P := Tryz.prog) w 39 5 i0 (.int .u8 0) Tryz.underlying39 hi hz0 .i64 .i64 0 n (by omega) h0 (by rw [hz2]; omega) (by omega)
  rw [this, hz1]
  simp only [Value.cells, madeCells_one, Nat.mul_one, rowA_zeros]
  rfl
/-- Room for so many bytes. -/
theorem own_room (w : World) (n : Nat) (h : n ≤ 281474976710656) : (w.alloc (.cells (rowA (zerosL n)) 5)).ownsRow w.heap.size 5 1 (.slice (some ⟨w.heap.size, 0, none⟩) 0 n) ([] : List UInt8).length (([] : List UInt8).map byteV) :=
  World.ownsRow_made w (rowA (zerosL n)) n (Nat.le_refl _) (by unfold maxLen; omega) (by rw [rowA_size, zerosL_length, Nat.mul_one])
theorem byte_at (x k : Nat) : ((x / 256 ^ k : Nat) : Int) % 256 = ((UInt8.ofNat (x / 256 ^ k % 256)).toNat : Int) := by
  rw [Oct.of_toNat]; omega
theorem one_row (c : UInt8) : #[Value.int .u8 (c.toNat : Int)] = rowA [c] := rfl
theorem div_next (x k : Nat) : ((x / 256 ^ k : Nat) : Int) / 256 = ((x / 256 ^ (k + 1) : Nat) : Int) := by
  rw [Nat.pow_succ, ← Nat.div_div_eq_div_mul]; omega

/-- append(own, "..."...). -/
theorem wpList_append_s {w : World} {ops : Array Oper} {rest : List Oper} {o : Oper} {a : Act} {Q : Exit → Act → World → Prop} (hgd : o.guard = none) (s x : Operand)
    (ho : o.op = .call { callee := .builtin .append, args := #[s, x], argTypes := #[39, 9] })
    (base : Nat) (v : Value) (xs : List UInt8) (hs : a.eval s = v) (hown : w.ownsRow base 5 1 v xs.length (xs.map byteV))
    (l : List UInt8) (hx : a.eval x = .string ⟨l.toArray⟩)
    (h63 : xs.length + l.length ≤ 4294967296) (hbase : base ≤ w.heap.size)
    (h : ∀ v' w', w'.ownsRow base 5 1 v' (xs ++ l).length ((xs ++ l).map byteV) → w.grownBy w' v.ownBlock → wpList Tryz.prog ops Q rest (a.put o.dst v') w') : wpList Tryz.prog ops Q (o :: rest) a w := by
  obtain ⟨i0, hi, hz, hsize, hby⟩ := info_parts Tryz.info5
  have hl : (⟨l.toArray⟩ : ByteArray).size = l.length := by simp [ByteArray.size]
  refine Lib.wpList_append_own_string w hgd s x 39 9 ho base 5 i0 Tryz.underlying39 Tryz.underlying9 hi hz hsize hby v xs.length (xs.map byteV) hs hown ⟨l.toArray⟩ hx (by rw [hl]; unfold maxLen; omega) (by rw [hl]; omega) hbase fun v' w' h1 h2 _ => h v' w' ?_ h2
  rw [hl] at h1
  rw [List.length_append, List.map_append]
  have e : Lib.strCells ⟨l.toArray⟩ = l.map byteV := by simp [Lib.strCells, byteV]; done
  rw [← e]; exact h1

/-- An own block that holds these bytes ahead. -/
def OwnAt (w : World) (g : Nat) (M : List UInt8) : Prop := ∃ cur, w.heap[g]? = some (.cells cur 5 (0, 0)) ∧ cur.toList.take M.length = M.map byteV
theorem OwnAt.cell {w : World} {g : Nat} {M : List UInt8} (h : OwnAt w g M) (j : Nat) (x : UInt8) (hj : M[j]? = some x) : w.cell? ⟨g, j, none⟩ = some (.int .u8 (x.toNat : Int)) ∧ w.frozen? ⟨g, j, none⟩ = false := by
  obtain ⟨cur, hg, ht⟩ := h
  obtain ⟨hlt, rfl⟩ := List.getElem?_eq_some_iff.1 hj
  refine ⟨?_, frozen_of_row w g j _ _ hg⟩
  rw [cell_of_row w g j _ _ _ hg]
  have e := congrArg (fun (L : List Value) => L[j]?) ht
  simp only [List.getElem?_take, hlt, if_true, List.getElem?_map, List.getElem?_eq_getElem hlt, Option.map_some] at e
  simpa [byteV] using e
theorem OwnAt.set {w : World} {g : Nat} {M : List UInt8} (h : OwnAt w g M) (j : Nat) (x : UInt8) : OwnAt (w.setCell ⟨g, j, none⟩ (.int .u8 (x.toNat : Int))) g (M.set j x) := by
  obtain ⟨cur, hg, ht⟩ := h
  refine ⟨_, heap_setCell_same w g j _ _ _ hg, ?_⟩
  rw [List.length_set, Array.toList_setIfInBounds, List.take_set, ht]
  simp [byteV]
theorem OwnAt.touch {F : Nat → Prop} {w w1 : World} {g : Nat} {M : List UInt8} (h : OwnAt w g M) (ht : Touch F w w1) (hF : ¬ F g) : OwnAt w1 g M := by
  obtain ⟨cur, hg, h2⟩ := h
  exact ⟨cur, ht.at hg hF, h2⟩
theorem OwnAt.below {w w1 : World} {g : Nat} {M : List UInt8} (h : OwnAt w g M) (hb : Below w.heap.size w w1) : OwnAt w1 g M := by
  obtain ⟨cur, hg, h2⟩ := h
  exact ⟨cur, by rw [hb.block g (lt_of_heap hg)]; exact hg, h2⟩
theorem OwnAt.lt {w : World} {g : Nat} {M : List UInt8} (h : OwnAt w g M) : g < w.heap.size := by
  obtain ⟨cur, hg, _⟩ := h
  exact lt_of_heap hg
theorem OwnAt.bv {w : World} {g : Nat} {M : List UInt8} (h : OwnAt w g M) (n cap : Nat) (hn : M.length = n) (hc : n ≤ cap) : BV w (.slice (some ⟨g, 0, none⟩) n cap) M g := by
  subst hn
  exact ⟨⟨0, cap, .inl ⟨rfl, fun i hi => by rw [Nat.zero_add]; exact (h.cell i _ (List.getElem?_eq_getElem hi)).1⟩⟩, ⟨_, _, rfl, hc, fun h => by cases h⟩, fun _ => h.lt⟩

/-- What a call hands out that is the caller's own: bytes in a new block. -/
def OwnB (base : Nat) (w : World) (v : Value) (l : List UInt8) : Prop := ∃ g cap, v = .slice (some ⟨g, 0, none⟩) l.length cap ∧ l.length ≤ cap ∧ base ≤ g ∧ OwnAt w g l
theorem OwnB.of_own {base : Nat} {w : World} {v : Value} {l : List UInt8} (h : w.ownsRow base 5 1 v l.length (l.map byteV)) (hl : l ≠ []) : OwnB base w v l := by
  rcases h.2 with ⟨rfl, h0⟩ | ⟨g, cap, cur, rfl, hb, hg, h1, h2, h3, ht⟩
  · exact absurd (List.eq_nil_of_length_eq_zero h0) hl
  · exact ⟨g, cap, rfl, h1, hb, cur, hg, by rwa [Nat.mul_one] at ht⟩
theorem OwnB.bv {base : Nat} {w : World} {v : Value} {l : List UInt8} (h : OwnB base w v l) : ∃ g, BV w v l g ∧ base ≤ g := by
  obtain ⟨g, cap, rfl, h1, h2, h3⟩ := h
  exact ⟨g, h3.bv _ _ rfl h1, h2⟩

/-- A tag as a value. -/
abbrev tagV (t : Tg.T) : Value := .agg #[.int .u32 (t.e : Int), .int .u64 (t.s : Int), .int .u64 (t.q : Int), .int .u64 (t.f : Int), .int .i64 t.i, .int .i64 t.c, .int .i64 t.d]

end Go.Proofs.YthapggobpfcmjaaGreat

namespace Go.Proofs.YthapggobpfcmjaaGreat
open Go.RowKit

theorem right_not (t : Tg.T) (h : Tg.rightB t = false) : ¬ (1 ≤ t.e ∧ 1 ≤ t.s ∧ t.s ≤ t.q ∧ t.q ≤ 281474976710655 ∧ t.f < t.q ∧ 1 ≤ t.c ∧ t.c ≤ 72 ∧ 0 ≤ t.i ∧ t.i < t.c ∧ 0 ≤ t.d ∧ t.d < 3840) := fun hx => by
  rw [(Tg.right_iff t).2 hx] at h; cases h
theorem batch_iff (t : Tg.T) : Tg.batchB t = true ↔ (1 ≤ t.e ∧ 1 ≤ t.s ∧ t.s ≤ t.q ∧ t.q ≤ 281474976710655 ∧ t.f < t.q) := by simp [Tg.batchB]

set_option maxRecDepth 100000 in
set_option maxHeartbeats 1000000 in
theorem right_any (t : Tg.T) (w : World) :
    Calls Tryz.prog 43 #[tagV t] w fun e w' => e = .returned (.bool (Tg.rightB t)) ∧ Below w.heap.size w w' := by
  obtain ⟨e, s, q, f, i, c, d⟩ := t
  by_cases hr : Tg.rightB ⟨e, s, q, f, i, c, d⟩ = true
  · rw [hr]
    obtain ⟨h1, h2, h3, h4, h5, h6, h7, h8, h9, h10, h11⟩ := (Tg.right_iff _).1 hr
    clear hr
    simp only at h1 h2 h3 h4 h5 h6 h7 h8 h9 h10 h11
    go_enter Tryz.func43, Tryz.ntmps43
    go_wp2
    go_ret
    exact ⟨rfl, (Below.refl _ _).alloc (Nat.le_refl _) _⟩
  · rw [Bool.not_eq_true] at hr
    have hn := right_not _ hr
    rw [hr]
    simp only at hn
    have HN := Lib.hid hn
    clear hr hn
    by_cases hb : Tg.batchB ⟨e, s, q, f, i, c, d⟩ = true
    · obtain ⟨h1, h2, h3, h4, h5⟩ := (batch_iff _).1 hb
      simp only at h1 h2 h3 h4 h5
      clear hb
      go_enter Tryz.func43, Tryz.ntmps43
      go_wp2
      all_goals
        go_ret
        refine ⟨?_, (Below.refl _ _).alloc (Nat.le_refl _) _⟩
        first
          | rfl
          | (have hx := HN.out
             have e1 : decide (d < 3840) = false := by simp only [decide_eq_false_iff_not]; omega
             exact (show Ending.returned (.bool (decide (d < 3840))) = .returned (.bool false) by rw [e1]))
    · have hb' : ¬ (1 ≤ e ∧ 1 ≤ s ∧ s ≤ q ∧ q ≤ 281474976710655 ∧ f < q) := fun h => hb ((batch_iff _).2 h)
      replace HN := Lib.hid hb'
      clear hb hb'
      go_enter Tryz.func43, Tryz.ntmps43
      go_wp2
      all_goals
        first
          | (exfalso; have hx := HN.out; omega)
          | (go_ret
             exact ⟨rfl, (Below.refl _ _).alloc (Nat.le_refl _) _⟩)

end Go.Proofs.YthapggobpfcmjaaGreat

namespace Go.Proofs.YthapggobpfcmjaaGreat
open Go.RowKit

theorem wpList_append_b_at {w : World} {ops : Array Oper} {rest : List Oper} {o : Oper} {a : Act} {Q : Exit → Act → World → Prop} (hgd : o.guard = none) (s x : Operand)
    (ho : o.op = .call { callee := .builtin .append, args := #[s, x], argTypes := #[39, 39] })
    (base : Nat) (v : Value) (xs : List UInt8) (hs : a.eval s = v) (hown : w.ownsRow base 5 1 v xs.length (xs.map byteV))
    (g cap : Nat) (l : List UInt8) (hx : a.eval x = .slice (some ⟨g, 0, none⟩) l.length cap) (hr : ∀ i (h : i < l.length), w.cell? ⟨g, i, none⟩ = some (byteV l[i]))
    (h63 : xs.length + l.length ≤ 4294967296) (hbase : base ≤ w.heap.size)
    (h : ∀ v' w', w'.ownsRow base 5 1 v' (xs ++ l).length ((xs ++ l).map byteV) → w.grownBy w' v.ownBlock → (v'.ownBlock = v.ownBlock ∨ v'.ownBlock = some w.heap.size) → wpList Tryz.prog ops Q rest (a.put o.dst v') w') : wpList Tryz.prog ops Q (o :: rest) a w := by
  obtain ⟨i0, hi, hz, hsize, hby⟩ := info_parts Tryz.info5
  have hm : xs.length + l.length ≤ maxLen := by unfold maxLen; omega
  have hb : (xs.length + l.length) * 1 ≤ 140737488355328 := by omega
  refine wpList_append_own_at w hgd s x 39 ho base 5 i0 (.int .u8 0) 1 1 Tryz.underlying39 hi hz hsize hby rfl (by omega) v xs.length (xs.map byteV) hs hown ⟨g, 0, none⟩ l.length cap (l.map byteV) hx (by simp) (fun j u hj => ?_) (byteV_all l) (by simpa using hm) (by simpa using hb) hbase fun v' w' h2 h3 _ h5 => h v' w' (by rw [List.length_append, List.map_append]; exact h2) h3 h5
  rw [List.getElem?_map] at hj
  obtain ⟨y, hy, rfl⟩ := Option.map_eq_some_iff.1 hj
  obtain ⟨hj', rfl⟩ := List.getElem?_eq_some_iff.1 hy
  rw [add_plain', Nat.zero_add]
  exact hr j hj'

/-- What put has done after k rounds. -/
structure PutI (base : Nat) (v : Value) (w : World) (l : List UInt8) (out : Value) (wr : World) : Prop where
  own : wr.ownsRow base 5 1 out l.length (l.map byteV)
  touch : Touch (fun k => v.ownBlock = some k) w wr
  at_ : ∀ k, out.ownBlock = some k → v.ownBlock = some k ∨ w.heap.size ≤ k
theorem PutI.next {base : Nat} {v : Value} {w : World} {l l' : List UInt8} {out v2 : Value} {wr w3 : World} (h : PutI base v w l out wr) (o : Obj) (hown : w3.ownsRow base 5 1 v2 l'.length (l'.map byteV)) (hg : (wr.alloc o).grownBy w3 out.ownBlock) (hat : v2.ownBlock = out.ownBlock ∨ v2.ownBlock = some (wr.alloc o).heap.size) : PutI base v w l' v2 w3 := by
  refine ⟨hown, (h.touch.alloc o).trans (Touch.of_grown (F := fun k => out.ownBlock = some k) hg fun k hk => hk) fun k hk hlt => ?_, fun k hk => ?_⟩
  · rcases h.at_ k hk with h1 | h1
    · exact h1
    · omega
  · rcases hat with e | e
    · rw [e] at hk; exact h.at_ k hk
    · rw [e] at hk
      have h1 := h.touch.size
      simp at hk
      right; omega

set_option maxHeartbeats 1000000 in
theorem put_own (base : Nat) (v : Value) (l : List UInt8) (s : Nat) (x : Nat) (w : World) (h : w.ownsRow base 5 1 v l.length (l.map byteV)) (hb : base ≤ w.heap.size) (hs : s ≤ 8) (hl : l.length + 8 ≤ 4294967296) (hx : x < 18446744073709551616) :
    Calls Tryz.prog 45 #[v, .int .i64 (s : Int), .int .u64 (x : Int)] w fun e w' => (∃ v', e = .returned v' ∧ w'.ownsRow base 5 1 v' (l ++ Oct.le s x).length ((l ++ Oct.le s x).map byteV)) ∧ Touch (fun k => v.ownBlock = some k) w w' := by
  have HO := Lib.hid (show PutI base v w l v w from ⟨h, Touch.refl _ _, fun _ hk => .inl hk⟩)
  have HS := Lib.hid hb
  clear h hb
  go_enter Tryz.func45, Tryz.ntmps45
  go_wp2
  go_loopw [0, 2, 8] (fun out n i wr => ∃ k : Nat, k ≤ s ∧ i = .int .i64 k ∧ n = .int .u64 ((x / 256 ^ k : Nat) : Int) ∧ PutI base v w (l ++ Oct.le k x) out wr) (fun _ _ i _ => s - (intOf i).toNat)
  case atStart => exact ⟨0, Nat.zero_le _, rfl, by simp, by simpa [Oct.le] using HO.out⟩
  case round =>
    obtain ⟨k, hk, rfl, rfl, hI⟩ := hrel
    by_cases hlt : k < s
    · have hbn := Nat.le_trans HS.out hI.touch.size
      have hbc := byte_at x k
      have hdv := div_next x k
      have hle := Oct.le_succ k x
      have hxx : x / 256 ^ k < 18446744073709551616 := Nat.lt_of_le_of_lt (Nat.div_le_self _ _) hx
      generalize x / 256 ^ k = y at hbc hdv hle hxx ⊢
      generalize hz : x / 256 ^ (k + 1) = z at hdv
      have HZ := Lib.hid hz
      clear hz
      generalize UInt8.ofNat (y % 256) = c at hbc hle
      have HLE := Lib.hid hle
      have HI := Lib.hid hI
      have HL8 := Lib.hid (show (l ++ Oct.le k x).length + [c].length ≤ 4294967296 by simp [Oct.le_length]; omega)
      have HLT := Lib.hid (show ∀ i (h : i < [c].length), (wr.alloc (.cells #[.int .u8 (c.toNat : Int)] 5)).cell? ⟨wr.heap.size, i, none⟩ = some (byteV [c][i]) from fun i hi => by
        have : i = 0 := by simp at hi; omega
        subst this
        rw [World.cell?_alloc_mark]; rfl)
      clear hle hI
      go_wp2_with (at_builtin; refine wpList_append_b_at rfl (.tmp 10) (.tmp 13) rfl base _ (l ++ Oct.le k x) rfl (HI.out.own.alloc _) wr.heap.size 1 [c] rfl HLT.out HL8.out (by simp; omega) ?_; intro v2 w3 hown hgrow hat; have HO2 := Lib.hid hown; have HG2 := Lib.hid hgrow; have HA2 := Lib.hid hat; clear hown hgrow hat)
      have HI2 := Lib.hid (HI.out.next _ HO2.out HG2.out HA2.out)
      clear HG2 HA2 HO2
      go_roundw
      case rel => exact ⟨k + 1, by omega, by go_num, by rw [HZ.out], by have := HI2.out; rw [List.append_assoc, ← HLE.out] at this; exact this⟩
      case measure => simp [intOf]; omega
    · obtain rfl : k = s := by omega
      have HI := Lib.hid hI
      clear hI
      go_wp2
      go_ret
      exact ⟨⟨_, rfl, HI.out.own⟩, HI.out.touch⟩

theorem unle_snoc (l : List UInt8) (k : Nat) (h : k < l.length) : Oct.unle (l.take (k + 1)) = Oct.unle (l.take k) + 256 ^ k * l[k].toNat := by
  rw [List.take_succ_eq_append_getElem h, Oct.unle_append, List.length_take, Nat.min_eq_left (Nat.le_of_lt h)]; simp [Oct.unle]
theorem unle_take_lt (l : List UInt8) (k : Nat) (h : k ≤ l.length) : Oct.unle (l.take k) < 256 ^ k := by
  have := Oct.unle_lt (l.take k)
  rwa [List.length_take, Nat.min_eq_left h] at this
theorem or_shift (x k : Nat) (c : UInt8) (hk : k < 8) (hx : x < 256 ^ k) :
    bits .or .u64 (x : Int) (IntKind.u64.wrap (IntKind.u64.wrap (c.toNat : Int) * 2 ^ (8 * k))) = ((x + 256 ^ k * c.toNat : Nat) : Int) := by
  have hc := c.toNat_lt
  have hp : (256 : Nat) ^ k = 2 ^ (8 * k) := by rw [Nat.pow_mul]
  have hpk : 256 ^ k * 256 ≤ 256 ^ 8 := by rw [← Nat.pow_succ]; exact Nat.pow_le_pow_right (by omega) hk
  have hm : 256 ^ k * c.toNat + 256 ^ k ≤ 256 ^ k * 256 := by rw [← Nat.mul_succ]; exact Nat.mul_le_mul_left _ hc
  have h8 : (256 : Nat) ^ 8 = 18446744073709551616 := by decide
  rw [IntKind.wrap_u64, IntKind.wrap_u64, Int.emod_eq_of_lt (a := (c.toNat : Int)) (by omega) (by omega)]
  have e : (c.toNat : Int) * 2 ^ (8 * k) = ((256 ^ k * c.toNat : Nat) : Int) := by
    rw [hp]; push_cast; rw [Int.mul_comm]
  rw [e, Int.emod_eq_of_lt (by omega) (by omega), bits_or_u64_nat _ _ (by omega) (by omega), Nat.or_comm, hp, ← Nat.two_pow_add_eq_or_of_lt (by rw [← hp]; exact hx), Nat.add_comm]

set_option maxHeartbeats 400000 in
theorem number_any (v : Value) (l : List UInt8) (g : Nat) (w : World) (h : BV w v l g) (hl : l.length ≤ 8) :
    Calls Tryz.prog 96 #[v] w fun e w' => e = .returned (.int .u64 (Oct.unle l : Int)) ∧ w = w' := by
  obtain ⟨a, cap, rfl, hc, hn⟩ := h.form
  have H := Lib.hid h
  clear h hn
  go_enter Tryz.func96, Tryz.ntmps96
  go_wp2
  go_loop [3, 8] (fun n i => ∃ k : Nat, k ≤ l.length ∧ i = .int .i64 k ∧ n = .int .u64 ((Oct.unle (l.take k) : Nat) : Int)) (fun _ i => l.length - (intOf i).toNat)
  case atStart => exact ⟨0, Nat.zero_le _, rfl, rfl⟩
  case round =>
    obtain ⟨k, hk, rfl, rfl⟩ := hrel
    by_cases hlt : k < l.length
    · obtain ⟨off, rfl, hck⟩ := H.out.reads.cellk hlt
      have hor := or_shift (Oct.unle (l.take k)) k l[k] (by omega) (unle_take_lt l k hk)
      rw [← unle_snoc l k hlt] at hor
      generalize hz : Oct.unle (l.take (k + 1)) = z at hor
      have HZ := Lib.hid hz
      clear hz
      generalize Oct.unle (l.take k) = y at hor ⊢
      generalize l[k] = c at hor hck
      go_wp2
      go_round
      case rel => exact ⟨k + 1, by omega, by go_num, by rw [HZ.out]⟩
      case measure => simp [intOf]; omega
    · obtain rfl : k = l.length := by omega
      rw [List.take_length]
      go_wp2
      go_ret
      exact ⟨rfl, rfl⟩

theorem str_app (a b : List UInt8) : (⟨a.toArray⟩ : ByteArray) ++ ⟨b.toArray⟩ = ⟨(a ++ b).toArray⟩ := by
  apply ByteArray.ext
  rw [ByteArray.data_append]
  simp

end Go.Proofs.YthapggobpfcmjaaGreat

namespace Go.Proofs.YthapggobpfcmjaaGreat
open Go.RowKit

def getF : Nat → Nat
  | 0 => 71
  | 1 => 73
  | 2 => 75
  | 3 => 77
  | 4 => 79
  | 5 => 81
  | _ => 83
def setF : Nat → Nat
  | 0 => 72
  | 1 => 74
  | 2 => 76
  | 3 => 78
  | 4 => 80
  | 5 => 82
  | _ => 84
def fldC (k : Nat) : Array Value := #[.int .i64 (Tg.size k : Int), .func (.func (getF k)) #[] #[], .func (.func (setF k)) #[] #[]]
def fieldsC : Array Value := fldC 0 ++ fldC 1 ++ fldC 2 ++ fldC 3 ++ fldC 4 ++ fldC 5 ++ fldC 6
def fieldsV : Value := .agg fieldsC
theorem fieldsC_eq : fieldsC = #[.int .i64 4, .func (.func (getF 0)) #[] #[], .func (.func (setF 0)) #[] #[], .int .i64 6, .func (.func (getF 1)) #[] #[], .func (.func (setF 1)) #[] #[],
    .int .i64 6, .func (.func (getF 2)) #[] #[], .func (.func (setF 2)) #[] #[], .int .i64 6, .func (.func (getF 3)) #[] #[], .func (.func (setF 3)) #[] #[],
    .int .i64 1, .func (.func (getF 4)) #[] #[], .func (.func (setF 4)) #[] #[], .int .i64 1, .func (.func (getF 5)) #[] #[], .func (.func (setF 5)) #[] #[],
    .int .i64 2, .func (.func (getF 6)) #[] #[], .func (.func (setF 6)) #[] #[]] := rfl

theorem info_arr : (Tryz.prog.info? 103).map (·.size) = some fieldsC.size := by kernel_rfl
set_option maxHeartbeats 400000 in
theorem fields_any (w : World) : Calls Tryz.prog 44 #[] w fun e w' => e = .returned fieldsV ∧ Below w.heap.size w w' := by
  have hst := fun (C Z : Array Value) => setRow_alloc_new w Z C 103
  have hhd := fun (C : Array Value) => heap_alloc_new w (.cells C 103)
  go_enter Tryz.func44, Tryz.ntmps44
  go_wp2_with (with_reducible refine wpList_store_row rfl 103 (.tmp 0) (.tmp 8) rfl w.heap.size _ rfl rfl 103 _ (heap_alloc_new w _) (by kernel_rfl) (by kernel_rfl) (by kernel_rfl) ?_)
  rw [setRow_alloc_new]
  exact bodyPost_ret (v := fieldsV) (results_cell_row rfl _ _ w.heap.size 103 fieldsC (0, 0) _ rfl (heap_alloc_new w _) Tryz.underlying103 rfl info_arr) rfl ⟨rfl, (Below.refl _ _).alloc (Nat.le_refl _) _⟩

theorem index_f0 : ∀ w, (Instr.index 103 fieldsV (.int .i64 0)).run Tryz.prog w = .ok (.agg (fldC 0)) w := fun _ => by kernel_rfl
theorem index_f1 : ∀ w, (Instr.index 103 fieldsV (.int .i64 1)).run Tryz.prog w = .ok (.agg (fldC 1)) w := fun _ => by kernel_rfl
theorem index_f2 : ∀ w, (Instr.index 103 fieldsV (.int .i64 2)).run Tryz.prog w = .ok (.agg (fldC 2)) w := fun _ => by kernel_rfl
theorem index_f3 : ∀ w, (Instr.index 103 fieldsV (.int .i64 3)).run Tryz.prog w = .ok (.agg (fldC 3)) w := fun _ => by kernel_rfl
theorem index_f4 : ∀ w, (Instr.index 103 fieldsV (.int .i64 4)).run Tryz.prog w = .ok (.agg (fldC 4)) w := fun _ => by kernel_rfl
theorem index_f5 : ∀ w, (Instr.index 103 fieldsV (.int .i64 5)).run Tryz.prog w = .ok (.agg (fldC 5)) w := fun _ => by kernel_rfl
theorem index_f6 : ∀ w, (Instr.index 103 fieldsV (.int .i64 6)).run Tryz.prog w = .ok (.agg (fldC 6)) w := fun _ => by kernel_rfl
theorem index_fields (k : Nat) (hk : k < 7) (w : World) : (Instr.index 103 fieldsV (.int .i64 (k : Int))).run Tryz.prog w = .ok (.agg (fldC k)) w := by
  have : k = 0 ∨ k = 1 ∨ k = 2 ∨ k = 3 ∨ k = 4 ∨ k = 5 ∨ k = 6 := by omega
  rcases this with rfl | rfl | rfl | rfl | rfl | rfl | rfl
  · exact index_f0 w
  · exact index_f1 w
  · exact index_f2 w
  · exact index_f3 w
  · exact index_f4 w
  · exact index_f5 w
  · exact index_f6 w

theorem index_fields' (k : Nat) (hk : k < 7) (w : World) : (Instr.index 103 fieldsV (.int .i64 (k : Int))).run Tryz.prog w = .ok (.agg #[.int .i64 (Tg.size k : Int), .func (.func (getF k)) #[] #[], .func (.func (setF k)) #[] #[]]) w := index_fields k hk w

theorem call_of {f : FuncId} {fn : Func} (h : Tryz.prog.funcs[f]? = some fn) (h1 : (fn.name == "runtime.NumGoroutine") = false) (h2 : fn.body.isNone = false) (args : Array Value) (w : World) : (callFunc f args).run Tryz.prog w = .ok (.enter f args) w := by
  simp only [callFunc, Sem.run_bind, run_program, Result.andThen_ok, h, h1, h2, Bool.false_eq_true, if_false, Sem.run_pure]
theorem call_g0 (args : Array Value) (w : World) : (callFunc 71 args).run Tryz.prog w = .ok (.enter 71 args) w := call_of Tryz.func71 (by kernel_rfl) (by kernel_rfl) args w
theorem call_s0 (args : Array Value) (w : World) : (callFunc 72 args).run Tryz.prog w = .ok (.enter 72 args) w := call_of Tryz.func72 (by kernel_rfl) (by kernel_rfl) args w
theorem call_g1 (args : Array Value) (w : World) : (callFunc 73 args).run Tryz.prog w = .ok (.enter 73 args) w := call_of Tryz.func73 (by kernel_rfl) (by kernel_rfl) args w
theorem call_s1 (args : Array Value) (w : World) : (callFunc 74 args).run Tryz.prog w = .ok (.enter 74 args) w := call_of Tryz.func74 (by kernel_rfl) (by kernel_rfl) args w
theorem call_g2 (args : Array Value) (w : World) : (callFunc 75 args).run Tryz.prog w = .ok (.enter 75 args) w := call_of Tryz.func75 (by kernel_rfl) (by kernel_rfl) args w
theorem call_s2 (args : Array Value) (w : World) : (callFunc 76 args).run Tryz.prog w = .ok (.enter 76 args) w := call_of Tryz.func76 (by kernel_rfl) (by kernel_rfl) args w
theorem call_g3 (args : Array Value) (w : World) : (callFunc 77 args).run Tryz.prog w = .ok (.enter 77 args) w := call_of Tryz.func77 (by kernel_rfl) (by kernel_rfl) args w
theorem call_s3 (args : Array Value) (w : World) : (callFunc 78 args).run Tryz.prog w = .ok (.enter 78 args) w := call_of Tryz.func78 (by kernel_rfl) (by kernel_rfl) args w
theorem call_g4 (args : Array Value) (w : World) : (callFunc 79 args).run Tryz.prog w = .ok (.enter 79 args) w := call_of Tryz.func79 (by kernel_rfl) (by kernel_rfl) args w
theorem call_s4 (args : Array Value) (w : World) : (callFunc 80 args).run Tryz.prog w = .ok (.enter 80 args) w := call_of Tryz.func80 (by kernel_rfl) (by kernel_rfl) args w
theorem call_g5 (args : Array Value) (w : World) : (callFunc 81 args).run Tryz.prog w = .ok (.enter 81 args) w := call_of Tryz.func81 (by kernel_rfl) (by kernel_rfl) args w
theorem call_s5 (args : Array Value) (w : World) : (callFunc 82 args).run Tryz.prog w = .ok (.enter 82 args) w := call_of Tryz.func82 (by kernel_rfl) (by kernel_rfl) args w
theorem call_g6 (args : Array Value) (w : World) : (callFunc 83 args).run Tryz.prog w = .ok (.enter 83 args) w := call_of Tryz.func83 (by kernel_rfl) (by kernel_rfl) args w
theorem call_s6 (args : Array Value) (w : World) : (callFunc 84 args).run Tryz.prog w = .ok (.enter 84 args) w := call_of Tryz.func84 (by kernel_rfl) (by kernel_rfl) args w
theorem call_get (k : Nat) (hk : k < 7) (args : Array Value) (w : World) : (callFunc (getF k) args).run Tryz.prog w = .ok (.enter (getF k) args) w := by
  have : k = 0 ∨ k = 1 ∨ k = 2 ∨ k = 3 ∨ k = 4 ∨ k = 5 ∨ k = 6 := by omega
  rcases this with rfl | rfl | rfl | rfl | rfl | rfl | rfl
  · exact call_g0 args w
  · exact call_g1 args w
  · exact call_g2 args w
  · exact call_g3 args w
  · exact call_g4 args w
  · exact call_g5 args w
  · exact call_g6 args w
theorem call_set (k : Nat) (hk : k < 7) (args : Array Value) (w : World) : (callFunc (setF k) args).run Tryz.prog w = .ok (.enter (setF k) args) w := by
  have : k = 0 ∨ k = 1 ∨ k = 2 ∨ k = 3 ∨ k = 4 ∨ k = 5 ∨ k = 6 := by omega
  rcases this with rfl | rfl | rfl | rfl | rfl | rfl | rfl
  · exact call_s0 args w
  · exact call_s1 args w
  · exact call_s2 args w
  · exact call_s3 args w
  · exact call_s4 args w
  · exact call_s5 args w
  · exact call_s6 args w

/-- What a field tells. -/
theorem get_any (t : Tg.T) (k : Nat) (hk : k < 7) (w : World) (hi : 0 ≤ t.i ∧ t.i < 256) (hc : 0 ≤ t.c ∧ t.c < 256) (hd : 0 ≤ t.d ∧ t.d < 65536) (he : t.e < 4294967296) :
    Calls Tryz.prog (getF k) #[tagV t] w fun e w' => e = .returned (.int .u64 (Tg.val t k : Int)) ∧ Below w.heap.size w w' := by
  obtain ⟨e, s, q, f, i, c, d⟩ := t
  simp only at hi hc hd he
  have : k = 0 ∨ k = 1 ∨ k = 2 ∨ k = 3 ∨ k = 4 ∨ k = 5 ∨ k = 6 := by omega
  rcases this with rfl | rfl | rfl | rfl | rfl | rfl | rfl
  · have hw : IntKind.u64.wrap (e : Int) = (e : Int) := by rw [IntKind.wrap_u64]; omega
    clear hi hc hd he
    go_enter Tryz.func71, Tryz.ntmps71
    go_wp2
    go_ret
    exact ⟨rfl, (Below.refl _ _).alloc (Nat.le_refl _) _⟩
  · clear hi hc hd he
    go_enter Tryz.func73, Tryz.ntmps73
    go_wp2
    go_ret
    exact ⟨rfl, (Below.refl _ _).alloc (Nat.le_refl _) _⟩
  · clear hi hc hd he
    go_enter Tryz.func75, Tryz.ntmps75
    go_wp2
    go_ret
    exact ⟨rfl, (Below.refl _ _).alloc (Nat.le_refl _) _⟩
  · clear hi hc hd he
    go_enter Tryz.func77, Tryz.ntmps77
    go_wp2
    go_ret
    exact ⟨rfl, (Below.refl _ _).alloc (Nat.le_refl _) _⟩
  · obtain ⟨m, rfl⟩ : ∃ m : Nat, i = (m : Int) := ⟨i.toNat, by omega⟩
    have hw : IntKind.u64.wrap (m : Int) = (m : Int) := by rw [IntKind.wrap_u64]; omega
    clear hi hc hd he
    go_enter Tryz.func79, Tryz.ntmps79
    go_wp2
    go_ret
    exact ⟨rfl, (Below.refl _ _).alloc (Nat.le_refl _) _⟩
  · obtain ⟨m, rfl⟩ : ∃ m : Nat, c = (m : Int) := ⟨c.toNat, by omega⟩
    have hw : IntKind.u64.wrap (m : Int) = (m : Int) := by rw [IntKind.wrap_u64]; omega
    clear hi hc hd he
    go_enter Tryz.func81, Tryz.ntmps81
    go_wp2
    go_ret
    exact ⟨rfl, (Below.refl _ _).alloc (Nat.le_refl _) _⟩
  · obtain ⟨m, rfl⟩ : ∃ m : Nat, d = (m : Int) := ⟨d.toNat, by omega⟩
    have hw : IntKind.u64.wrap (m : Int) = (m : Int) := by rw [IntKind.wrap_u64]; omega
    clear hi hc hd he
    go_enter Tryz.func83, Tryz.ntmps83
    go_wp2
    go_ret
    exact ⟨rfl, (Below.refl _ _).alloc (Nat.le_refl _) _⟩

/-- A field laid into a tag that lies in memory. -/
def tagC (t : Tg.T) : Array Value := #[.int .u32 (t.e : Int), .int .u64 (t.s : Int), .int .u64 (t.q : Int), .int .u64 (t.f : Int), .int .i64 t.i, .int .i64 t.c, .int .i64 t.d]
def TagAt (w : World) (b : Nat) (t : Tg.T) : Prop := w.heap[b]? = some (.cells (tagC t) 59 (0, 0))
def setT (t : Tg.T) (k n : Nat) : Tg.T :=
  match k with
  | 0 => { t with e := n }
  | 1 => { t with q := n }
  | 2 => { t with f := n }
  | 3 => { t with s := n }
  | 4 => { t with i := n }
  | 5 => { t with c := n }
  | _ => { t with d := n }
theorem setT_part (l : List UInt8) (k : Nat) (hk : k < 7) : setT (Tg.part l k) k (Tg.fld l k) = Tg.part l (k + 1) := by
  have : k = 0 ∨ k = 1 ∨ k = 2 ∨ k = 3 ∨ k = 4 ∨ k = 5 ∨ k = 6 := by omega
  rcases this with rfl | rfl | rfl | rfl | rfl | rfl | rfl <;> simp [setT, Tg.part]

set_option maxHeartbeats 1000000 in
theorem set_any (b : Nat) (t : Tg.T) (k n : Nat) (hk : k < 7) (w : World) (h : TagAt w b t) (hn : n < 256 ^ Tg.size k) :
    Calls Tryz.prog (setF k) #[.pointer (some ⟨b, 0, none⟩), .int .u64 (n : Int)] w fun e w' => e = .returned (.tuple #[]) ∧ Touch (fun k => k = b) w w' ∧ TagAt w' b (setT t k n) ∧ w'.heap.size = w.heap.size := by
  have H := Lib.hid h
  have HC := Lib.hid (fun j => cell_of_row w b j _ _ _ h)
  have HF := Lib.hid (fun j => frozen_of_row w b j _ _ h)
  have hlt := lt_of_heap h
  clear h
  have : k = 0 ∨ k = 1 ∨ k = 2 ∨ k = 3 ∨ k = 4 ∨ k = 5 ∨ k = 6 := by omega
  rcases this with rfl | rfl | rfl | rfl | rfl | rfl | rfl
  · have hc := HC.out 0
    have hf := HF.out 0
    simp only [tagC, List.getElem?_toArray, List.getElem?_cons_zero] at hc
    have hw : IntKind.u32.wrap (n : Int) = (n : Int) := by rw [IntKind.wrap_u32]; have : n < 4294967296 := hn; omega
    clear hn hk
    go_enter Tryz.func72, Tryz.ntmps72
    go_wp2
    go_end0
    exact ⟨rfl, (Touch.refl (fun k => k = b) w).setCell (a := ⟨b, 0, none⟩) (.inl rfl) _, by unfold TagAt; rw [heap_setCell_same w b 0 _ _ _ H.out]; rfl, by simp⟩
  · have hc := HC.out 2
    have hf := HF.out 2
    simp only [tagC, List.getElem?_toArray, List.getElem?_cons_succ, List.getElem?_cons_zero] at hc
    clear hn hk
    go_enter Tryz.func74, Tryz.ntmps74
    go_wp2
    go_end0
    exact ⟨rfl, (Touch.refl (fun k => k = b) w).setCell (a := ⟨b, 2, none⟩) (.inl rfl) _, by unfold TagAt; rw [heap_setCell_same w b 2 _ _ _ H.out]; rfl, by simp⟩
  · have hc := HC.out 3
    have hf := HF.out 3
    simp only [tagC, List.getElem?_toArray, List.getElem?_cons_succ, List.getElem?_cons_zero] at hc
    clear hn hk
    go_enter Tryz.func76, Tryz.ntmps76
    go_wp2
    go_end0
    exact ⟨rfl, (Touch.refl (fun k => k = b) w).setCell (a := ⟨b, 3, none⟩) (.inl rfl) _, by unfold TagAt; rw [heap_setCell_same w b 3 _ _ _ H.out]; rfl, by simp⟩
  · have hc := HC.out 1
    have hf := HF.out 1
    simp only [tagC, List.getElem?_toArray, List.getElem?_cons_succ, List.getElem?_cons_zero] at hc
    clear hn hk
    go_enter Tryz.func78, Tryz.ntmps78
    go_wp2
    go_end0
    exact ⟨rfl, (Touch.refl (fun k => k = b) w).setCell (a := ⟨b, 1, none⟩) (.inl rfl) _, by unfold TagAt; rw [heap_setCell_same w b 1 _ _ _ H.out]; rfl, by simp⟩
  · have hc := HC.out 4
    have hf := HF.out 4
    simp only [tagC, List.getElem?_toArray, List.getElem?_cons_succ, List.getElem?_cons_zero] at hc
    have hw : IntKind.i64.wrap (n : Int) = (n : Int) := by rw [IntKind.wrap_i64]; have : n < 256 := hn; omega
    clear hn hk
    go_enter Tryz.func80, Tryz.ntmps80
    go_wp2
    go_end0
    exact ⟨rfl, (Touch.refl (fun k => k = b) w).setCell (a := ⟨b, 4, none⟩) (.inl rfl) _, by unfold TagAt; rw [heap_setCell_same w b 4 _ _ _ H.out]; rfl, by simp⟩
  · have hc := HC.out 5
    have hf := HF.out 5
    simp only [tagC, List.getElem?_toArray, List.getElem?_cons_succ, List.getElem?_cons_zero] at hc
    have hw : IntKind.i64.wrap (n : Int) = (n : Int) := by rw [IntKind.wrap_i64]; have : n < 256 := hn; omega
    clear hn hk
    go_enter Tryz.func82, Tryz.ntmps82
    go_wp2
    go_end0
    exact ⟨rfl, (Touch.refl (fun k => k = b) w).setCell (a := ⟨b, 5, none⟩) (.inl rfl) _, by unfold TagAt; rw [heap_setCell_same w b 5 _ _ _ H.out]; rfl, by simp⟩
  · have hc := HC.out 6
    have hf := HF.out 6
    simp only [tagC, List.getElem?_toArray, List.getElem?_cons_succ, List.getElem?_cons_zero] at hc
    have hw : IntKind.i64.wrap (n : Int) = (n : Int) := by rw [IntKind.wrap_i64]; have : n < 65536 := hn; omega
    clear hn hk
    go_enter Tryz.func84, Tryz.ntmps84
    go_wp2
    go_end0
    exact ⟨rfl, (Touch.refl (fun k => k = b) w).setCell (a := ⟨b, 6, none⟩) (.inl rfl) _, by unfold TagAt; rw [heap_setCell_same w b 6 _ _ _ H.out]; rfl, by simp⟩

end Go.Proofs.YthapggobpfcmjaaGreat
