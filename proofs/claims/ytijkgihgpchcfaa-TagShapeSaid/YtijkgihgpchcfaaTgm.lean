/- Tags of sectors: plain mathematics. No condition. -/
import Derived.Test.YtijkgihgpchcfaaOct
namespace Go.Proofs.Ytijkgihgpchcfaa
namespace Tg
open Oct

/-- A tag: Epoch, Start, Seq, Floor, Index, Count, ID. -/
structure T where
  e : Nat
  s : Nat
  q : Nat
  f : Nat
  i : Int
  c : Int
  d : Int
deriving DecidableEq

def batchB (t : T) : Bool := decide (1 ≤ t.e ∧ 1 ≤ t.s ∧ t.s ≤ t.q ∧ t.q ≤ 281474976710655 ∧ t.f < t.q)
def placeB (t : T) : Bool := decide (1 ≤ t.c ∧ t.c ≤ 72 ∧ 0 ≤ t.i ∧ t.i < t.c)
def rightB (t : T) : Bool := decide (1 ≤ t.e ∧ 1 ≤ t.s ∧ t.s ≤ t.q ∧ t.q ≤ 281474976710655 ∧ t.f < t.q ∧ 1 ≤ t.c ∧ t.c ≤ 72 ∧ 0 ≤ t.i ∧ t.i < t.c ∧ 0 ≤ t.d ∧ t.d < 3840)
theorem right_iff (t : T) : rightB t = true ↔ (1 ≤ t.e ∧ 1 ≤ t.s ∧ t.s ≤ t.q ∧ t.q ≤ 281474976710655 ∧ t.f < t.q ∧ 1 ≤ t.c ∧ t.c ≤ 72 ∧ 0 ≤ t.i ∧ t.i < t.c ∧ 0 ≤ t.d ∧ t.d < 3840) := by simp [rightB]

def size : Nat → Nat
  | 0 => 4
  | 1 => 6
  | 2 => 6
  | 3 => 6
  | 4 => 1
  | 5 => 1
  | _ => 2
def val (t : T) : Nat → Nat
  | 0 => t.e
  | 1 => t.q
  | 2 => t.f
  | 3 => t.s
  | 4 => t.i.toNat
  | 5 => t.c.toNat
  | _ => t.d.toNat
def place : Nat → Nat
  | 0 => 4
  | 1 => 8
  | 2 => 14
  | 3 => 20
  | 4 => 26
  | 5 => 27
  | 6 => 28
  | _ => 30
/-- A sector's mark and first k numbers. -/
def pre (t : T) : Nat → List UInt8
  | 0 => [72, 82, 82, 87]
  | k + 1 => pre t k ++ le (size k) (val t k)
theorem pre_length (t : T) : ∀ k, k ≤ 7 → (pre t k).length = place k
  | 0, _ => rfl
  | k + 1, h => by
    rw [pre, List.length_append, le_length, pre_length t k (by omega)]
    have : k = 0 ∨ k = 1 ∨ k = 2 ∨ k = 3 ∨ k = 4 ∨ k = 5 ∨ k = 6 := by omega
    rcases this with rfl | rfl | rfl | rfl | rfl | rfl | rfl <;> rfl
/-- The head: 32 bytes. -/
def head (t : T) : List UInt8 := pre t 7 ++ [0, 0]
theorem head_length (t : T) : (head t).length = 32 := by rw [head, List.length_append, pre_length t 7 (Nat.le_refl _)]; rfl
def enc (t : T) (b : List UInt8) : List UInt8 := head t ++ b
theorem enc_length (t : T) (b : List UInt8) : (enc t b).length = 32 + b.length := by rw [enc, List.length_append, head_length]
theorem enc_drop (t : T) (b : List UInt8) : (enc t b).drop 32 = b := by
  rw [enc, ← head_length t, List.drop_left]

/-- What the bytes of a number tell. -/
def fld (b : List UInt8) (k : Nat) : Nat := unle ((b.drop (place k)).take (size k))
theorem fld_lt (b : List UInt8) (k : Nat) : fld b k < 256 ^ size k := by
  refine Nat.lt_of_lt_of_le (unle_lt _) (Nat.pow_le_pow_right (by omega) ?_)
  rw [List.length_take]; omega
/-- The numbers that k rounds have told. -/
def part (b : List UInt8) (k : Nat) : T :=
  ⟨if 0 < k then fld b 0 else 0, if 3 < k then fld b 3 else 0, if 1 < k then fld b 1 else 0, if 2 < k then fld b 2 else 0,
    if 4 < k then (fld b 4 : Int) else 0, if 5 < k then (fld b 5 : Int) else 0, if 6 < k then (fld b 6 : Int) else 0⟩
def told (b : List UInt8) : T := ⟨fld b 0, fld b 3, fld b 1, fld b 2, fld b 4, fld b 5, fld b 6⟩
theorem part_all (b : List UInt8) : part b 7 = told b := by simp [part, told]
theorem told_e (b : List UInt8) : (told b).e < 4294967296 := fld_lt b 0
theorem told_s (b : List UInt8) : (told b).s < 281474976710656 := fld_lt b 3
theorem told_q (b : List UInt8) : (told b).q < 281474976710656 := fld_lt b 1
theorem told_f (b : List UInt8) : (told b).f < 281474976710656 := fld_lt b 2
theorem told_i (b : List UInt8) : 0 ≤ (told b).i ∧ (told b).i < 256 := ⟨Int.natCast_nonneg _, by have := fld_lt b 4; exact Int.ofNat_lt.2 this⟩
theorem told_c (b : List UInt8) : 0 ≤ (told b).c ∧ (told b).c < 256 := ⟨Int.natCast_nonneg _, by have := fld_lt b 5; exact Int.ofNat_lt.2 this⟩
theorem told_d (b : List UInt8) : 0 ≤ (told b).d ∧ (told b).d < 65536 := ⟨Int.natCast_nonneg _, by have := fld_lt b 6; exact Int.ofNat_lt.2 this⟩

theorem fld_of (A M R b : List UInt8) (k : Nat) (hb : b = A ++ (M ++ R)) (hA : A.length = place k) (hM : M.length = size k) : fld b k = unle M := by
  subst hb
  rw [fld, ← hA, List.drop_left, ← hM, List.take_left]
theorem pre_more (t : T) : ∀ (j k : Nat), ∃ R, pre t (k + 1 + j) = pre t k ++ (le (size k) (val t k) ++ R)
  | 0, k => ⟨[], by rw [List.append_nil]; rfl⟩
  | j + 1, k => by
    obtain ⟨R, h⟩ := pre_more t j k
    refine ⟨R ++ le (size (k + 1 + j)) (val t (k + 1 + j)), ?_⟩
    rw [show k + 1 + (j + 1) = k + 1 + j + 1 by omega, pre, h]; simp [List.append_assoc]
theorem fld_enc (t : T) (b : List UInt8) (k : Nat) (hk : k < 7) : fld (enc t b) k = val t k % 256 ^ size k := by
  obtain ⟨R, h⟩ := pre_more t (6 - k) k
  rw [show k + 1 + (6 - k) = 7 by omega] at h
  rw [fld_of (pre t k) (le (size k) (val t k)) (R ++ [0, 0] ++ b) _ k (by rw [enc, head, h]; simp [List.append_assoc]) (pre_length t k (by omega)) (le_length _ _), unle_le]
/-- There is but one tag of a sector. -/
theorem told_enc (t : T) (b : List UInt8) (h : rightB t = true) (he : t.e < 4294967296) : told (enc t b) = t := by
  obtain ⟨h1, h2, h3, h4, h5, h6, h7, h8, h9, h10, h11⟩ := (right_iff t).1 h
  obtain ⟨e, s, q, f, i, c, d⟩ := t
  have e0 : (val ⟨e, s, q, f, i, c, d⟩ 0 % 256 ^ size 0) = e := Nat.mod_eq_of_lt he
  have e1 : (val ⟨e, s, q, f, i, c, d⟩ 1 % 256 ^ size 1) = q := Nat.mod_eq_of_lt (show q < 281474976710656 by simp at *; omega)
  have e2 : (val ⟨e, s, q, f, i, c, d⟩ 2 % 256 ^ size 2) = f := Nat.mod_eq_of_lt (show f < 281474976710656 by simp at *; omega)
  have e3 : (val ⟨e, s, q, f, i, c, d⟩ 3 % 256 ^ size 3) = s := Nat.mod_eq_of_lt (show s < 281474976710656 by simp at *; omega)
  have e4 : (val ⟨e, s, q, f, i, c, d⟩ 4 % 256 ^ size 4) = i.toNat := Nat.mod_eq_of_lt (show i.toNat < 256 by simp at *; omega)
  have e5 : (val ⟨e, s, q, f, i, c, d⟩ 5 % 256 ^ size 5) = c.toNat := Nat.mod_eq_of_lt (show c.toNat < 256 by simp at *; omega)
  have e6 : (val ⟨e, s, q, f, i, c, d⟩ 6 % 256 ^ size 6) = d.toNat := Nat.mod_eq_of_lt (show d.toNat < 65536 by simp at *; omega)
  simp only [told, fld_enc _ _ _ (show 0 < 7 by omega), fld_enc _ _ _ (show 1 < 7 by omega), fld_enc _ _ _ (show 2 < 7 by omega), fld_enc _ _ _ (show 3 < 7 by omega), fld_enc _ _ _ (show 4 < 7 by omega), fld_enc _ _ _ (show 5 < 7 by omega), fld_enc _ _ _ (show 6 < 7 by omega), e0, e1, e2, e3, e4, e5, e6]
  simp only [T.mk.injEq, true_and]
  simp at h6 h8 h10
  omega

/-- What a sector has: whether it has a tag. -/
def decB (b : List UInt8) : Bool := rightB (told b) && (enc (told b) (b.drop 32) == b)
theorem dec_iff (b : List UInt8) : decB b = true ↔ rightB (told b) = true ∧ enc (told b) (b.drop 32) = b := by simp [decB]
theorem dec_enc (t : T) (b : List UInt8) (h : rightB t = true) (he : t.e < 4294967296) : decB (enc t b) = true := by
  rw [dec_iff, told_enc t b h he, enc_drop]; exact ⟨h, rfl⟩
theorem enc_inj (t u : T) (b : List UInt8) (h : rightB t = true) (he : t.e < 4294967296) (hu : rightB u = true) (hue : u.e < 4294967296) : enc t b = enc u b ↔ t = u :=
  ⟨fun e => by rw [← told_enc t b h he, e, told_enc u b hu hue], fun e => by rw [e]⟩
/-- One byte of the head otherwise: another tag, or none. -/
theorem dec_other (t : T) (b : List UInt8) (k : Nat) (x : UInt8) (hk : k < 32) (h : decB ((enc t b).set k x) = true) (e : told ((enc t b).set k x) = t) : (enc t b)[k]? = some x := by
  have h2 := ((dec_iff _).1 h).2
  rw [e, List.drop_set_of_lt hk, enc_drop] at h2
  have := congrArg (fun (l : List UInt8) => l[k]?) h2
  simp only [List.getElem?_set, if_pos] at this
  rw [this, if_pos (by rw [enc_length]; omega)]

end Tg
end Go.Proofs.Ytijkgihgpchcfaa
