/- The sum as a polynomial's rest: plain mathematics on 32 bits. -/
import Derived.Test.YtifdlkohddpmfaaDoorRows
namespace Go.Proofs.YtifdlkohddpmfaaDoor
namespace Crc

def poly : BitVec 32 := 0xEDB88320#32
def sel (c : Bool) : BitVec 32 := if c then poly else 0#32
/-- One bit goes in. -/
def bitB (s : BitVec 32) (c : Bool) : BitVec 32 := (s >>> 1) ^^^ sel (s.getLsbD 0 ^^ c)
def bit (s : BitVec 32) : BitVec 32 := bitB s false
def nib (s : BitVec 32) : BitVec 32 := bit (bit (bit (bit s)))
def step (s : BitVec 32) : BitVec 32 := nib (nib s)
def wide (b : UInt8) : BitVec 32 := b.toBitVec.setWidth 32
def feed (s : BitVec 32) (b : UInt8) : BitVec 32 := step (s ^^^ wide b)
def run (s : BitVec 32) (l : List UInt8) : BitVec 32 := l.foldl feed s
def more (s : BitVec 32) (l : List UInt8) : BitVec 32 := ~~~ (run (~~~ s) l)
def sum (l : List UInt8) : BitVec 32 := more 0#32 l

theorem sel_xor (a b : Bool) : sel (a ^^ b) = sel a ^^^ sel b := by
  cases a <;> cases b <;> simp [sel]
theorem xor4 (a b c d : BitVec 32) : (a ^^^ b) ^^^ (c ^^^ d) = (a ^^^ c) ^^^ (b ^^^ d) := by
  rw [BitVec.xor_assoc, BitVec.xor_assoc, ← BitVec.xor_assoc b, ← BitVec.xor_assoc c, BitVec.xor_comm b c]
theorem bitB_xor (a b : BitVec 32) (c d : Bool) : bitB (a ^^^ b) (c ^^ d) = bitB a c ^^^ bitB b d := by
  unfold bitB
  rw [BitVec.ushiftRight_xor_distrib, xor4, ← sel_xor, BitVec.getLsbD_xor]
  congr 2
  cases a.getLsbD 0 <;> cases b.getLsbD 0 <;> cases c <;> cases d <;> rfl
theorem bit_xor (a b : BitVec 32) : bit (a ^^^ b) = bit a ^^^ bit b := bitB_xor a b false false
theorem nib_xor (a b : BitVec 32) : nib (a ^^^ b) = nib a ^^^ nib b := by simp only [nib, bit_xor]
theorem step_xor (a b : BitVec 32) : step (a ^^^ b) = step a ^^^ step b := by simp only [step, nib_xor]
theorem xor_left_inj (a b c : BitVec 32) (h : a ^^^ c = b ^^^ c) : a = b := by
  have := congrArg (· ^^^ c) h
  simpa [BitVec.xor_assoc] using this
theorem poly_top : poly.getLsbD 31 = true := by decide
theorem bit_zero (s : BitVec 32) (h : bit s = 0#32) : s = 0#32 := by
  have h0 : s.getLsbD 0 = false := by
    cases hs : s.getLsbD 0
    · rfl
    · have := congrArg (fun x => x.getLsbD 31) h
      simp [bit, bitB, hs, sel, poly] at this
  have h1 : s >>> 1 = 0#32 := by
    unfold bit bitB at h
    rw [h0] at h
    simpa [sel] using h
  apply BitVec.eq_of_getLsbD_eq
  intro i hi
  cases i with
  | zero => rw [h0]; simp
  | succ i =>
    have := congrArg (fun x => x.getLsbD i) h1
    simp only [BitVec.getLsbD_ushiftRight] at this
    rw [Nat.add_comm] at this
    rw [this]; simp
theorem bit_inj (a b : BitVec 32) (h : bit a = bit b) : a = b := by
  have : bit (a ^^^ b) = 0#32 := by rw [bit_xor, h, BitVec.xor_self]
  have := bit_zero _ this
  exact BitVec.xor_eq_zero_iff.1 this
theorem nib_inj (a b : BitVec 32) (h : nib a = nib b) : a = b := bit_inj _ _ (bit_inj _ _ (bit_inj _ _ (bit_inj _ _ h)))
theorem step_inj (a b : BitVec 32) (h : step a = step b) : a = b := nib_inj _ _ (nib_inj _ _ h)

/-- What has not come to the end yet only moves down. -/
theorem bit_in (s m : BitVec 32) : bit (s ^^^ m) = bitB s (m.getLsbD 0) ^^^ (m >>> 1) := by
  unfold bit bitB
  rw [BitVec.ushiftRight_xor_distrib, BitVec.getLsbD_xor, BitVec.xor_assoc, BitVec.xor_assoc, BitVec.xor_comm (m >>> 1)]
  simp
/-- Eight bits, the lowest first. -/
def bits8 (s m : BitVec 32) : BitVec 32 :=
  bitB (bitB (bitB (bitB (bitB (bitB (bitB (bitB s (m.getLsbD 0)) (m.getLsbD 1)) (m.getLsbD 2)) (m.getLsbD 3)) (m.getLsbD 4)) (m.getLsbD 5)) (m.getLsbD 6)) (m.getLsbD 7)
theorem shr_shr (m : BitVec 32) (a b : Nat) : m >>> a >>> b = m >>> (a + b) := by
  apply BitVec.eq_of_getLsbD_eq
  intro i _
  simp only [BitVec.getLsbD_ushiftRight, Nat.add_assoc]
theorem step_in (s m : BitVec 32) : step (s ^^^ m) = bits8 s m ^^^ (m >>> 8) := by
  unfold step nib bits8
  rw [bit_in, bit_in, bit_in, bit_in, bit_in, bit_in, bit_in, bit_in]
  simp only [shr_shr, BitVec.getLsbD_ushiftRight]
theorem bits8_mask (s m : BitVec 32) : bits8 s (m &&& 255#32) = bits8 s m := by
  unfold bits8
  simp only [BitVec.getLsbD_and]
  simp
theorem mask_shr (m : BitVec 32) : (m &&& 255#32) >>> 8 = 0#32 := by
  apply BitVec.eq_of_toNat_eq
  simp only [BitVec.toNat_ushiftRight, BitVec.toNat_and, BitVec.toNat_ofNat]
  have : m.toNat &&& 255 ≤ 255 := Nat.and_le_right
  rw [Nat.shiftRight_eq_div_pow]
  simp; omega
theorem step_mask (s m : BitVec 32) : step (s ^^^ m) = step (s ^^^ (m &&& 255#32)) ^^^ (m >>> 8) := by
  rw [step_in, step_in, bits8_mask, mask_shr]; simp
theorem wide_shr (b : UInt8) : wide b >>> 8 = 0#32 := by
  apply BitVec.eq_of_toNat_eq
  simp only [wide, BitVec.toNat_ushiftRight, BitVec.toNat_setWidth, BitVec.toNat_ofNat, Nat.shiftRight_eq_div_pow]
  have : b.toBitVec.toNat < 256 := b.toBitVec.isLt
  rw [Nat.mod_eq_of_lt (by omega), Nat.div_eq_of_lt (by omega)]
theorem feed_bits (s : BitVec 32) (b : UInt8) : feed s b = bits8 s (wide b) := by
  unfold feed
  rw [step_in, wide_shr]; simp

/-- The lowest byte of a number. -/
def low (m : BitVec 32) : UInt8 := ⟨m.setWidth 8⟩
theorem wide_low (m : BitVec 32) : wide (low m) = m &&& 255#32 := by
  apply BitVec.eq_of_toNat_eq
  simp only [wide, low, BitVec.toNat_setWidth, BitVec.toNat_and, BitVec.toNat_ofNat]
  have h : (255 % 2 ^ 32 : Nat) = 2 ^ 8 - 1 := by decide
  rw [h, Nat.and_two_pow_sub_one_eq_mod]
  omega
theorem feed_low (s m : BitVec 32) : step (s ^^^ m) = feed s (low m) ^^^ (m >>> 8) := by
  rw [step_mask]; unfold feed; rw [wide_low]
/-- Four bytes at once. -/
def four (m : BitVec 32) : List UInt8 := [low m, low (m >>> 8), low (m >>> 16), low (m >>> 24)]
theorem shr32 (m : BitVec 32) : m >>> 32 = 0#32 := by
  apply BitVec.eq_of_toNat_eq
  simp only [BitVec.toNat_ushiftRight, Nat.shiftRight_eq_div_pow, BitVec.toNat_ofNat]
  have := m.isLt
  simp; omega
theorem run_four (s m : BitVec 32) : run s (four m) = step (step (step (step (s ^^^ m)))) := by
  rw [feed_low, feed_low, feed_low, feed_low]
  simp only [shr_shr, run, four, List.foldl]
  rw [shr32]; simp
def three (m : BitVec 32) : List UInt8 := [low m, low (m >>> 8), low (m >>> 16)]
theorem mask24_shr (m : BitVec 32) : (m &&& 16777215#32) >>> 24 = 0#32 := by
  apply BitVec.eq_of_toNat_eq
  simp only [BitVec.toNat_ushiftRight, BitVec.toNat_and, BitVec.toNat_ofNat]
  have : m.toNat &&& 16777215 ≤ 16777215 := Nat.and_le_right
  rw [Nat.shiftRight_eq_div_pow]
  simp; omega
theorem low_mask24 (m : BitVec 32) (k : Nat) (h : k = 0 ∨ k = 8 ∨ k = 16) : low ((m &&& 16777215#32) >>> k) = low (m >>> k) := by
  apply UInt8.toBitVec_inj.1
  show ((m &&& 16777215#32) >>> k).setWidth 8 = (m >>> k).setWidth 8
  apply BitVec.eq_of_getLsbD_eq
  intro i hi
  simp only [BitVec.getLsbD_setWidth, BitVec.getLsbD_ushiftRight, BitVec.getLsbD_and]
  have hm (j : Nat) (hj : j < 24) : (16777215#32).getLsbD j = true := by
    rw [show (16777215#32) = BitVec.ofNat 32 (2 ^ 24 - 1) from rfl, BitVec.getLsbD_ofNat, Nat.testBit_two_pow_sub_one]
    simp only [Bool.and_eq_true, decide_eq_true_eq]; omega
  rw [hm (k + i) (by omega)]; simp
theorem run_three (s m : BitVec 32) : run s (three m) = step (step (step (s ^^^ (m &&& 16777215#32)))) := by
  rw [feed_low, feed_low, feed_low]
  simp only [shr_shr, run, three, List.foldl]
  rw [mask24_shr]
  have h0 := low_mask24 m 0 (.inl rfl)
  have h1 := low_mask24 m 8 (.inr (.inl rfl))
  have h2 := low_mask24 m 16 (.inr (.inr rfl))
  simp only [BitVec.ushiftRight_zero] at h0
  rw [h0, h1, h2]; simp

theorem run_append (s : BitVec 32) (l m : List UInt8) : run s (l ++ m) = run (run s l) m := by simp [run]
theorem run_cons (s : BitVec 32) (b : UInt8) (l : List UInt8) : run s (b :: l) = run (feed s b) l := rfl
theorem run_nil (s : BitVec 32) : run s [] = s := rfl
theorem feed_inj (a b : BitVec 32) (x : UInt8) (h : feed a x = feed b x) : a = b := xor_left_inj _ _ _ (step_inj _ _ h)
theorem run_inj : ∀ (l : List UInt8) (a b : BitVec 32), run a l = run b l → a = b
  | [], _, _, h => h
  | x :: l, a, b, h => feed_inj a b x (run_inj l _ _ h)
theorem not_inj (a b : BitVec 32) (h : ~~~ a = ~~~ b) : a = b := by
  have := congrArg (~~~ ·) h
  simpa using this
theorem more_inj (l : List UInt8) (a b : BitVec 32) (h : more a l = more b l) : a = b := not_inj _ _ (run_inj l _ _ (not_inj _ _ h))
theorem more_more (s : BitVec 32) (l m : List UInt8) : more (more s l) m = more s (l ++ m) := by
  simp [more, run_append]
theorem more_nil (s : BitVec 32) : more s [] = s := by simp [more, run]
theorem sum_more (l m : List UInt8) : more (sum l) m = sum (l ++ m) := more_more _ _ _
theorem sum_nil : sum [] = 0#32 := more_nil _
/-- Sums of as many bytes add up. -/
theorem wide_xor (a b : UInt8) : wide (a ^^^ b) = wide a ^^^ wide b := by
  unfold wide; rw [UInt8.toBitVec_xor, BitVec.setWidth_xor]
theorem feed_xor (a b : BitVec 32) (x y : UInt8) : feed (a ^^^ b) (x ^^^ y) = feed a x ^^^ feed b y := by
  unfold feed; rw [wide_xor, xor4, step_xor]
theorem run_xor : ∀ (l m : List UInt8) (a b : BitVec 32), l.length = m.length → run (a ^^^ b) (List.zipWith (· ^^^ ·) l m) = run a l ^^^ run b m
  | [], [], _, _, _ => rfl
  | x :: l, y :: m, a, b, h => by
    show run (feed (a ^^^ b) (x ^^^ y)) (List.zipWith (· ^^^ ·) l m) = _
    rw [feed_xor]
    exact run_xor l m _ _ (by simpa using h)
theorem sum_xor3 (l m n : List UInt8) (h1 : l.length = m.length) (h2 : l.length = n.length) :
    sum (List.zipWith (· ^^^ ·) (List.zipWith (· ^^^ ·) l m) n) = sum l ^^^ sum m ^^^ sum n := by
  unfold sum more
  have h := run_xor (List.zipWith (· ^^^ ·) l m) n (~~~ 0#32 ^^^ ~~~ 0#32) (~~~ 0#32) (by simp; omega)
  rw [run_xor l m _ _ h1] at h
  have hi : ~~~ 0#32 ^^^ ~~~ 0#32 ^^^ ~~~ 0#32 = ~~~ (0#32) := by decide
  rw [hi] at h
  rw [h]
  apply BitVec.eq_of_getLsbD_eq
  intro i hi
  simp only [BitVec.getLsbD_not, BitVec.getLsbD_xor, hi, decide_true, Bool.true_and]
  cases (run (~~~ 0#32) l).getLsbD i <;> cases (run (~~~ 0#32) m).getLsbD i <;> cases (run (~~~ 0#32) n).getLsbD i <;> rfl
/-- Bytes with their own sum behind them. -/
theorem sum_ends (l : List UInt8) : sum (l ++ four (sum l)) = 0x2144DF1C#32 := by
  unfold sum more
  rw [run_append, run_four]
  have : run (~~~ 0#32) l ^^^ ~~~ run (~~~ 0#32) l = 0xFFFFFFFF#32 := by
    apply BitVec.eq_of_getLsbD_eq
    intro i hi
    rw [BitVec.getLsbD_xor, BitVec.getLsbD_not]
    have h1 : (0xFFFFFFFF#32).getLsbD i = true := by
      rw [show (0xFFFFFFFF#32) = BitVec.allOnes 32 from rfl, BitVec.getLsbD_allOnes]; simp [hi]
    rw [h1]
    simp only [hi, decide_true, Bool.true_and]
    cases (run (~~~ 0#32) l).getLsbD i <;> rfl
  rw [this]
  decide
theorem four_inj (s x y : BitVec 32) : run s (four x) = run s (four y) ↔ x = y := by
  rw [run_four, run_four]
  refine ⟨fun h => ?_, fun h => by rw [h]⟩
  have := step_inj _ _ (step_inj _ _ (step_inj _ _ (step_inj _ _ h)))
  rw [BitVec.xor_comm s, BitVec.xor_comm s] at this
  exact xor_left_inj _ _ _ this
theorem three_inj (s x y : BitVec 32) : run s (three x) = run s (three y) ↔ x &&& 16777215#32 = y &&& 16777215#32 := by
  rw [run_three, run_three]
  refine ⟨fun h => ?_, fun h => by rw [h]⟩
  have := step_inj _ _ (step_inj _ _ (step_inj _ _ h))
  rw [BitVec.xor_comm s, BitVec.xor_comm s] at this
  exact xor_left_inj _ _ _ this
theorem more_congr (l : List UInt8) (a b : BitVec 32) : more a l = more b l ↔ a = b := ⟨more_inj l a b, fun h => by rw [h]⟩
theorem more_def_inj (s : BitVec 32) (l m : List UInt8) : more s l = more s m ↔ run (~~~ s) l = run (~~~ s) m := by
  unfold more; exact ⟨not_inj _ _, fun h => by rw [h]⟩
/-- CrcChanges: four bytes within. -/
theorem sum_four (p q : List UInt8) (x y : BitVec 32) : sum (p ++ four x ++ q) = sum (p ++ four y ++ q) ↔ x = y := by
  rw [← sum_more (p ++ four x), ← sum_more (p ++ four y), more_congr, ← sum_more, ← sum_more, more_def_inj, four_inj]
theorem more_three (s : BitVec 32) (q : List UInt8) (x y : BitVec 32) : more (more s (three x)) q = more (more s (three y)) q ↔ x &&& 16777215#32 = y &&& 16777215#32 := by
  rw [more_congr, more_def_inj, three_inj]
/-- Noughts ahead. -/
theorem step_ones : feed (~~~ 0#32) 0 ≠ ~~~ 0#32 := by decide
theorem sum_noughts (n : Nat) (l : List UInt8) : sum (List.replicate n 0 ++ l) ≠ sum (List.replicate (n + 1) 0 ++ l) := by
  intro h
  rw [← sum_more, ← sum_more, more_congr] at h
  unfold sum more at h
  have h := not_inj _ _ h
  rw [List.replicate_succ, run_cons] at h
  exact step_ones (run_inj _ _ _ h).symm
/-- Bytes that are each other turned. -/
theorem toNat_wide (b : UInt8) : (wide b).toNat = b.toNat := by
  simp only [wide, BitVec.toNat_setWidth]
  have : b.toBitVec.toNat < 256 := b.toBitVec.isLt
  rw [Nat.mod_eq_of_lt (by omega)]
  rfl

theorem low_toNat (m : BitVec 32) : (low m).toNat = m.toNat % 256 := by
  show (m.setWidth 8).toNat = _
  rw [BitVec.toNat_setWidth]
theorem u8_eq (a b : UInt8) (h : a.toNat = b.toNat) : a = b := UInt8.toNat_inj.1 h
theorem low_shr (m : BitVec 32) (k : Nat) : (low (m >>> k)).toNat = m.toNat / 2 ^ k % 256 := by
  rw [low_toNat, BitVec.toNat_ushiftRight, Nat.shiftRight_eq_div_pow]
def word (a b c d : UInt8) : BitVec 32 := BitVec.ofNat 32 (a.toNat + 256 * b.toNat + 65536 * c.toNat + 16777216 * d.toNat)
theorem word_toNat (a b c d : UInt8) : (word a b c d).toNat = a.toNat + 256 * b.toNat + 65536 * c.toNat + 16777216 * d.toNat := by
  unfold word
  have := a.toNat_lt; have := b.toNat_lt; have := c.toNat_lt; have := d.toNat_lt
  rw [BitVec.toNat_ofNat, Nat.mod_eq_of_lt (by omega)]
theorem four_word (a b c d : UInt8) : four (word a b c d) = [a, b, c, d] := by
  have ha := a.toNat_lt; have hb := b.toNat_lt; have hc := c.toNat_lt; have hd := d.toNat_lt
  have h := word_toNat a b c d
  unfold four
  have h0 : low (word a b c d) = a := u8_eq _ _ (by rw [low_toNat, h]; omega)
  have h1 : low (word a b c d >>> 8) = b := u8_eq _ _ (by rw [low_shr, h]; omega)
  have h2 : low (word a b c d >>> 16) = c := u8_eq _ _ (by rw [low_shr, h]; omega)
  have h3 : low (word a b c d >>> 24) = d := u8_eq _ _ (by rw [low_shr, h]; omega)
  rw [h0, h1, h2, h3]
theorem run4_inj (s : BitVec 32) (a b c d a' b' c' d' : UInt8) (h : run s [a, b, c, d] = run s [a', b', c', d']) : a = a' ∧ b = b' ∧ c = c' ∧ d = d' := by
  rw [← four_word a b c d, ← four_word a' b' c' d', four_inj] at h
  have := congrArg four h
  rw [four_word, four_word] at this
  simpa using this
/-- Rows of at most four bytes. -/
theorem run_short (s : BitVec 32) (l m : List UInt8) (hl : l.length = m.length) (h4 : l.length ≤ 4) (h : run s l = run s m) : l = m := by
  have hz : ∀ z : List UInt8, run s (l ++ z) = run s (m ++ z) := fun z => by rw [run_append, run_append, h]
  match l, m, hl, h4, hz with
  | [], [], _, _, _ => rfl
  | [a], [a'], _, _, hz => have := run4_inj s a 0 0 0 a' 0 0 0 (hz [0, 0, 0]); rw [this.1]
  | [a, b], [a', b'], _, _, hz => have := run4_inj s a b 0 0 a' b' 0 0 (hz [0, 0]); rw [this.1, this.2.1]
  | [a, b, c], [a', b', c'], _, _, hz => have := run4_inj s a b c 0 a' b' c' 0 (hz [0]); rw [this.1, this.2.1, this.2.2.1]
  | [a, b, c, d], [a', b', c', d'], _, _, hz => have := run4_inj s a b c d a' b' c' d' (by simpa using hz []); rw [this.1, this.2.1, this.2.2.1, this.2.2.2]
  | _ :: _ :: _ :: _ :: _ :: _, _, _, h, _ => simp at h
theorem sum_turned (x y : UInt8) (l : List UInt8) (hl : l.length ≤ 2) : sum ([x] ++ l ++ [y]) = sum ([y] ++ l ++ [x]) ↔ x = y := by
  refine ⟨fun h => ?_, fun h => by rw [h]⟩
  have := run_short _ _ _ (by simp) (by simp; omega) ((more_def_inj 0#32 _ _).1 h)
  simpa using (List.cons.inj this).1
/-- Four bytes that are changed by a number's bytes. -/
theorem low_xor (a b : BitVec 32) : low (a ^^^ b) = low a ^^^ low b := by
  apply UInt8.toBitVec_inj.1
  rw [UInt8.toBitVec_xor]
  show (a ^^^ b).setWidth 8 = a.setWidth 8 ^^^ b.setWidth 8
  rw [BitVec.setWidth_xor]
theorem four_xor (a b : BitVec 32) : four (a ^^^ b) = List.zipWith (· ^^^ ·) (four a) (four b) := by
  simp only [four, BitVec.ushiftRight_xor_distrib, low_xor, List.zipWith]
theorem sum_changes (p q : List UInt8) (a b c d : UInt8) (x : BitVec 32) :
    sum (p ++ [a ^^^ low x, b ^^^ low (x >>> 8), c ^^^ low (x >>> 16), d ^^^ low (x >>> 24)] ++ q) = sum (p ++ [a, b, c, d] ++ q) ↔ x = 0#32 := by
  have h : [a ^^^ low x, b ^^^ low (x >>> 8), c ^^^ low (x >>> 16), d ^^^ low (x >>> 24)] = four (word a b c d ^^^ x) := by
    rw [four_xor, four_word]; rfl
  rw [h, ← four_word a b c d, sum_four]
  refine ⟨fun h => ?_, fun h => by rw [h]; simp⟩
  have := congrArg (word a b c d ^^^ ·) h
  simpa [← BitVec.xor_assoc] using this
/-- The sums that must be there in any case. -/
theorem sum_0 : sum [0] = 0xD202EF8D#32 := by decide
theorem sum_check : sum [49, 50, 51, 52, 53, 54, 55, 56, 57] = 0xCBF43926#32 := by decide +kernel

/-- Half a byte at once, by what its 16 numbers do. -/
theorem and_shr (s : BitVec 32) : s = (s &&& 15#32) ^^^ ((s >>> 4) <<< 4) := by
  apply BitVec.eq_of_getLsbD_eq
  intro i hi
  simp only [BitVec.getLsbD_xor, BitVec.getLsbD_and, BitVec.getLsbD_shiftLeft, BitVec.getLsbD_ushiftRight, hi, decide_true, Bool.true_and]
  rw [show (15#32) = BitVec.ofNat 32 (2 ^ 4 - 1) from rfl, BitVec.getLsbD_ofNat, Nat.testBit_two_pow_sub_one]
  by_cases h : i < 4
  · simp [h, hi]
  · simp only [h, hi, decide_true, decide_false, Bool.and_false, Bool.false_xor, Bool.not_false, Bool.true_and]
    congr 1; omega
def bits4 (s m : BitVec 32) : BitVec 32 := bitB (bitB (bitB (bitB s (m.getLsbD 0)) (m.getLsbD 1)) (m.getLsbD 2)) (m.getLsbD 3)
theorem nib_in (s m : BitVec 32) : nib (s ^^^ m) = bits4 s m ^^^ (m >>> 4) := by
  unfold nib bits4
  rw [bit_in, bit_in, bit_in, bit_in]
  simp only [shr_shr, BitVec.getLsbD_ushiftRight]
theorem bits4_mask (s m : BitVec 32) : bits4 s (m &&& 15#32) = bits4 s m := by
  unfold bits4
  simp only [BitVec.getLsbD_and]
  simp
theorem mask4_shr (m : BitVec 32) : (m &&& 15#32) >>> 4 = 0#32 := by
  apply BitVec.eq_of_toNat_eq
  simp only [BitVec.toNat_ushiftRight, BitVec.toNat_and, BitVec.toNat_ofNat]
  have : m.toNat &&& 15 ≤ 15 := Nat.and_le_right
  rw [Nat.shiftRight_eq_div_pow]
  simp; omega
theorem nib_mask (m : BitVec 32) : nib m = nib (m &&& 15#32) ^^^ (m >>> 4) := by
  have h1 := nib_in 0#32 m
  have h2 := nib_in 0#32 (m &&& 15#32)
  rw [bits4_mask, mask4_shr] at h2
  simp only [BitVec.zero_xor, BitVec.xor_zero] at h1 h2
  rw [h1, h2]

/-- The same, the highest power ahead. -/
def polyT : BitVec 32 := 0x04C11DB7#32
def refB (x : BitVec 32) (c : Bool) : BitVec 32 := (x <<< 1) ^^^ (if x.getLsbD 31 ^^ c then polyT else 0#32)
theorem rev_xor (a b : BitVec 32) : (a ^^^ b).reverse = a.reverse ^^^ b.reverse := by
  apply BitVec.eq_of_getLsbD_eq
  intro i hi
  simp only [BitVec.getLsbD_reverse, BitVec.getLsbD_xor, BitVec.getMsbD_xor]
theorem rev_shr (a : BitVec 32) : (a >>> 1).reverse = a.reverse <<< 1 := by
  apply BitVec.eq_of_getLsbD_eq
  intro i hi
  simp only [BitVec.getLsbD_reverse, BitVec.getLsbD_shiftLeft, BitVec.getMsbD_eq_getLsbD, BitVec.getLsbD_ushiftRight, hi, decide_true, Bool.true_and]
  by_cases h : i < 1
  · obtain rfl : i = 0 := by omega
    simp
  · simp only [h, decide_false, Bool.not_false, Bool.true_and]
    have h1 : i - 1 < 32 := by omega
    simp only [h1, decide_true, Bool.true_and]
    congr 1; omega
theorem rev_poly : poly.reverse = polyT := by decide +kernel
theorem rev_zero : (0#32).reverse = 0#32 := by decide +kernel
theorem rev_bit (s : BitVec 32) (c : Bool) : (bitB s c).reverse = refB s.reverse c := by
  unfold bitB refB sel
  have h : s.reverse.getLsbD 31 = s.getLsbD 0 := by
    rw [BitVec.getLsbD_reverse, BitVec.getMsbD_eq_getLsbD]; simp
  rw [rev_xor, rev_shr, h]
  cases s.getLsbD 0 ^^ c <;> simp [rev_poly, rev_zero]
/-- A number told bit by bit, the lowest first. -/
def told (x : Nat) : Nat → Nat
  | 0 => 0
  | k + 1 => 2 * told x k + x / 2 ^ k % 2
theorem told_lt (x : Nat) : ∀ k, told x k < 2 ^ k
  | 0 => by simp [told]
  | k + 1 => by
    have := told_lt x k
    rw [Nat.pow_succ]; unfold told; omega
theorem told_bit (x : Nat) : ∀ k i, i < k → (told x k).testBit i = x.testBit (k - 1 - i)
  | k + 1, 0, _ => by
    show (told x (k + 1)).testBit 0 = x.testBit (k - 0)
    rw [Nat.testBit_zero, Nat.testBit_eq_decide_div_mod_eq]
    unfold told
    congr 1
    simp only [Nat.sub_zero, eq_iff_iff]
    omega
  | k + 1, i + 1, h => by
    have hk := told_bit x k i (by omega)
    rw [Nat.testBit_succ]
    have : told x (k + 1) / 2 = told x k := by show (2 * told x k + x / 2 ^ k % 2) / 2 = told x k; omega
    rw [this, hk]
    congr 1; omega
theorem told_rev (x : BitVec 32) : told x.toNat 32 = x.reverse.toNat := by
  apply Nat.eq_of_testBit_eq
  intro i
  by_cases h : i < 32
  · rw [told_bit _ _ _ h]
    have : x.reverse.toNat.testBit i = x.reverse.getLsbD i := rfl
    rw [this, BitVec.getLsbD_reverse, BitVec.getMsbD_eq_getLsbD]
    simp only [h, decide_true, Bool.true_and]
    rfl
  · rw [Nat.testBit_lt_two_pow (Nat.lt_of_lt_of_le (told_lt _ _) (Nat.pow_le_pow_right (by omega) (by omega))), Nat.testBit_lt_two_pow (Nat.lt_of_lt_of_le x.reverse.isLt (Nat.pow_le_pow_right (by omega) (by omega)))]
def ref8 (x : BitVec 32) (b : UInt8) : Nat → BitVec 32
  | 0 => x
  | k + 1 => refB (ref8 x b k) (b.toNat.testBit k)
theorem wide_bit (b : UInt8) (k : Nat) : (wide b).getLsbD k = b.toNat.testBit k := by
  rw [← toNat_wide]; rfl
theorem rev_feed (s : BitVec 32) (b : UInt8) : (feed s b).reverse = ref8 s.reverse b 8 := by
  rw [feed_bits]
  unfold bits8
  simp only [rev_bit, wide_bit, ref8]
def refRun (x : BitVec 32) (l : List UInt8) : BitVec 32 := l.foldl (fun x b => ref8 x b 8) x
theorem rev_run : ∀ (l : List UInt8) (s : BitVec 32), (run s l).reverse = refRun s.reverse l
  | [], _ => rfl
  | b :: l, s => by
    show (run (feed s b) l).reverse = refRun (ref8 s.reverse b 8) l
    rw [rev_run l, rev_feed]
theorem rev_rev (x : BitVec 32) : x.reverse.reverse = x := by
  apply BitVec.eq_of_getLsbD_eq
  intro i hi
  rw [BitVec.getLsbD_reverse, BitVec.getMsbD_reverse]
theorem ref_sum (l : List UInt8) : 4294967295 - told (refRun (0xFFFFFFFF#32) l).toNat 32 = (sum l).toNat := by
  unfold sum more
  rw [told_rev, BitVec.toNat_not]
  have h : (0xFFFFFFFF#32) = (~~~ 0#32).reverse := by decide +kernel
  rw [h, ← rev_run, rev_rev]

end Crc
end Go.Proofs.YtifdlkohddpmfaaDoor
