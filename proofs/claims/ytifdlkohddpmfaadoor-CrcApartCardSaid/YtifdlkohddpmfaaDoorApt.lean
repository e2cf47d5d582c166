/- CrcApart: sums of as many bytes add up. -/
import Derived.Test.YtifdlkohddpmfaaDoorCut
namespace Go.Proofs.YtifdlkohddpmfaaDoor
open Go.RowKit

theorem xor_u8 (a b : UInt8) : bits .xor .u8 (a.toNat : Int) (b.toNat : Int) = ((a ^^^ b).toNat : Int) := by
  rw [u8_xor_nat _ _ a.toNat_lt b.toNat_lt, UInt8.toNat_xor]
theorem min4_nat (a b c : Nat) : ∃ n : Nat, n ≤ 300 ∧ n ≤ a ∧ n ≤ b ∧ n ≤ c ∧ ∀ W : World, (Builtin.min_ #[3, 3, 3, 3] 3 #[.int .i64 (a : Int), .int .i64 (b : Int), .int .i64 (c : Int), .int .i64 300]).run Tryd.prog W = .ok (.int .i64 (n : Int)) W := by
  refine ⟨min (min (min a b) c) 300, by omega, by omega, by omega, by omega, fun W => ?_⟩
  simp [Builtin.min_, Builtin.min2]
  split <;> split <;> split <;> omega
theorem rowA_set (l : List UInt8) (i : Nat) (x : UInt8) : (rowA l).setIfInBounds i (byteV x) = rowA (l.set i x) := by
  simp [rowA]
/-- The row as it is filled. -/
def xrow (z : List UInt8) (n k : Nat) : List UInt8 := z.take k ++ zerosL (n - k)
theorem xrow_zero (z : List UInt8) (n : Nat) : xrow z n 0 = zerosL n := by simp [xrow]
theorem xrow_full (z : List UInt8) (n : Nat) (h : z.length = n) : xrow z n n = z := by
  subst h; simp [xrow, zerosL]
theorem xrow_set (z : List UInt8) (n k : Nat) (h : z.length = n) (hk : k < n) : (xrow z n k).set k (z[k]'(by omega)) = xrow z n (k + 1) := by
  subst h
  have hl : (z.take k).length = k := by rw [List.length_take]; omega
  unfold xrow zerosL
  rw [List.set_append_right _ _ (by omega), hl, Nat.sub_self, show z.length - k = (z.length - (k + 1)) + 1 by omega, List.replicate_succ, List.set_cons_zero, List.take_succ_eq_append_getElem hk, List.append_assoc]
  rfl
theorem xrow_length (z : List UInt8) (n k : Nat) (h : z.length = n) (hk : k ≤ n) : (xrow z n k).length = n := by
  subst h; simp [xrow, zerosL]; omega

theorem Reads.cellk {w : World} {a : Option Addr} {l : List UInt8} {cap g : Nat} (h : Reads w (.slice a l.length cap) l g) {k : Nat} (hk : k < l.length) : ∃ off, a = some ⟨g, off, none⟩ ∧ w.cell? ⟨g, off + k, none⟩ = some (.int .u8 (l[k].toNat : Int)) := by
  obtain ⟨off, cap, ⟨e, h⟩ | ⟨⟨a, e⟩, rfl⟩⟩ := h
  · cases e
    exact ⟨off, rfl, h k hk⟩
  · simp at hk

/-- The loop: so many bytes are filled in. -/
structure Fill (w1 : World) (z : List UInt8) (n k : Nat) (wr : World) : Prop where
  below : Below w1.heap.size w1 wr
  row : ByteRow wr w1.heap.size (xrow z n k)
theorem Fill.start (w1 : World) (z : List UInt8) (n : Nat) : Fill w1 z n 0 (w1.alloc (.cells (rowA (zerosL n)) 5)) :=
  ⟨(Below.refl _ _).alloc (Nat.le_refl _) _, by rw [xrow_zero]; exact heap_alloc_new w1 _⟩
theorem Fill.step {w1 wr : World} {z : List UInt8} {n k : Nat} (h : Fill w1 z n k wr) (hz : z.length = n) (hk : k < n) (x : Int) (hx : x = ((z[k]'(by omega)).toNat : Int)) : Fill w1 z n (k + 1) (wr.setCell ⟨w1.heap.size, k, none⟩ (.int .u8 x)) := by
  subst hx
  refine ⟨?_, ?_⟩
  · have := ((Touch.of_below (F := Emp) h.below).setCell (a := ⟨w1.heap.size, k, none⟩) (.inr (Nat.le_refl _)) (.int .u8 ((z[k]'(by omega)).toNat : Int)))
    exact this.below
  · have := heap_setCell_same wr w1.heap.size k _ _ (.int .u8 ((z[k]'(by omega)).toNat : Int)) h.row
    unfold ByteRow
    rw [this, ← xrow_set z n k hz hk, ← rowA_set]
    rfl
theorem Fill.drew {w1 wr : World} {z : List UInt8} {n k : Nat} (h : Fill w1 z n k wr) : Fill w1 z n k wr.drew := ⟨h.below.drew, h.row⟩
theorem Fill.cell {w1 wr : World} {z : List UInt8} {n k : Nat} (h : Fill w1 z n k wr) (hz : z.length = n) (hk : k < n) : (∃ x, wr.cell? ⟨w1.heap.size, k, none⟩ = some (byteV x)) ∧ wr.frozen? ⟨w1.heap.size, k, none⟩ = false := by
  have hl := xrow_length z n k hz (Nat.le_of_lt hk)
  refine ⟨⟨(xrow z n k)[k]'(by omega), ?_⟩, frozen_of_row wr _ k _ _ h.row⟩
  rw [cell_of_row wr _ k _ _ _ h.row, rowA_at, List.getElem?_eq_getElem (by omega)]; rfl
theorem zip_at (la lb lc : List UInt8) (n k : Nat) (ha : n ≤ la.length) (hb : n ≤ lb.length) (hc : n ≤ lc.length) (hk : k < n) (z : List UInt8) (hz : z = List.zipWith (· ^^^ ·) (List.zipWith (· ^^^ ·) (la.take n) (lb.take n)) (lc.take n)) (h : k < z.length) :
    z[k] = (la[k]'(by omega) ^^^ lb[k]'(by omega)) ^^^ lc[k]'(by omega) := by
  subst hz
  simp

set_option maxRecDepth 100000 in
set_option maxHeartbeats 1000000 in
theorem apart_walk (a b c : Option Addr) (la lb lc : List UInt8) (ca cb cc ga gb gc : Nat) (w : World) (hh : Half w)
    (hra : Reads w (.slice a la.length ca) la ga) (hga : la ≠ [] → ga < w.heap.size) (hca : la.length ≤ ca) (hwa : la.length ≤ 140737488351232)
    (hrb : Reads w (.slice b lb.length cb) lb gb) (hgb : lb ≠ [] → gb < w.heap.size) (hcb : lb.length ≤ cb) (hwb : lb.length ≤ 140737488351232)
    (hrc : Reads w (.slice c lc.length cc) lc gc) (hgc : lc ≠ [] → gc < w.heap.size) (hcc : lc.length ≤ cc) (hwc : lc.length ≤ 140737488351232) :
    Calls Tryd.prog 6 #[.slice a la.length ca, .slice b lb.length cb, .slice c lc.length cc] w fun e w' => e = .returned (.bool true) ∧ Below w.heap.size w w' := by
  obtain ⟨n, hn, hna, hnb, hnc, hmin⟩ := min4_nat la.length lb.length lc.length
  obtain ⟨z, hz⟩ : ∃ z, z = List.zipWith (· ^^^ ·) (List.zipWith (· ^^^ ·) (la.take n) (lb.take n)) (lc.take n) := ⟨_, rfl⟩
  have hzl : z.length = n := by rw [hz]; simp; omega
  have hsum : Crc.sum z = Crc.sum (la.take n) ^^^ Crc.sum (lb.take n) ^^^ Crc.sum (lc.take n) := by
    rw [hz]; exact Crc.sum_xor3 _ _ _ (by simp; omega) (by simp; omega)
  have HH := Lib.hid hh
  have RA := Lib.hid hra
  have RB := Lib.hid hrb
  have RC := Lib.hid hrc
  have GA := Lib.hid hga
  have GB := Lib.hid hgb
  have GC := Lib.hid hgc
  have HZ := Lib.hid hz
  have HZL := Lib.hid hzl
  have HS := Lib.hid hsum
  clear hh hra hrb hrc hz hzl hsum hga hgb hgc
  have hmk := fun W => run_makeBytes W (n : Int) (by omega) (by omega)
  simp only [Int.toNat_natCast] at hmk
  go_enter Tryd.func6, Tryd.ntmps6
  go_wp2_with fail
  refine (shown_any w HH.out).mono ?_
  rintro e w1 ⟨rfl, hT⟩
  replace HH := Lib.hid (HH.out.below hT)
  replace RA := Lib.hid (RA.out.below GA.out hT)
  replace RB := Lib.hid (RB.out.below GB.out hT)
  replace RC := Lib.hid (RC.out.below GC.out hT)
  have HT := Lib.hid hT
  clear hT
  go_wp2_with fail
  go_loopw [10] (fun i wr => ∃ k : Nat, k ≤ n ∧ i = .int .i64 k ∧ Fill w1 z n k wr) (fun i _ => n - (intOf i).toNat)
  case atStart => exact ⟨0, Nat.zero_le _, rfl, Fill.start w1 z n⟩
  case round =>
    obtain ⟨k, hk, rfl, hF⟩ := hrel
    have HF := Lib.hid hF
    clear hF
    replace RA := Lib.hid (RA.out.below (fun h => Nat.lt_of_lt_of_le (GA.out h) HT.out.size) HF.out.below)
    replace RB := Lib.hid (RB.out.below (fun h => Nat.lt_of_lt_of_le (GB.out h) HT.out.size) HF.out.below)
    replace RC := Lib.hid (RC.out.below (fun h => Nat.lt_of_lt_of_le (GC.out h) HT.out.size) HF.out.below)
    by_cases hlt : k < n
    · obtain ⟨oa, rfl, hxa⟩ := RA.out.cellk (k := k) (by omega)
      obtain ⟨ob, rfl, hxb⟩ := RB.out.cellk (k := k) (by omega)
      obtain ⟨oc, rfl, hxc⟩ := RC.out.cellk (k := k) (by omega)
      obtain ⟨⟨x0, hx0⟩, hfz⟩ := HF.out.cell HZL.out hlt
      have hzk := zip_at la lb lc n k hna hnb hnc hlt z HZ.out (by rw [HZL.out]; exact hlt)
      have h1 := xor_u8 la[k] lb[k]
      have h2 : bits .xor .u8 ((la[k].toNat ^^^ lb[k].toNat : Nat) : Int) (lc[k].toNat : Int) = (((la[k] ^^^ lb[k]) ^^^ lc[k]).toNat : Int) := by rw [← UInt8.toNat_xor]; exact xor_u8 _ _
      have HZK := Lib.hid hzk
      generalize (la[k] ^^^ lb[k]) ^^^ lc[k] = r at h2 HZK
      generalize la[k] = xa at hxa h1 h2
      generalize lb[k] = xb at hxb h1 h2
      generalize lc[k] = xc at hxc h2
      clear hzk
      go_wp2
      go_region
      go_wp2
      go_roundw
      case rel => exact ⟨k + 1, by omega, by go_num, (HF.out.step HZL.out hlt _ (by rw [HZK.out])).drew⟩
      case measure => simp [intOf]; omega
    · obtain rfl : k = n := by omega
      have hrow := HF.out.row
      rw [xrow_full z k HZL.out] at hrow
      have R0 := hrow.reads k
      rw [HZL.out] at R0
      have hla : (la.take k).length ≤ 4294967296 := by rw [List.length_take]; omega
      have hlb : (lb.take k).length ≤ 4294967296 := by rw [List.length_take]; omega
      have hlc : (lc.take k).length ≤ 4294967296 := by rw [List.length_take]; omega
      have hlz : z.length ≤ 4294967296 := by rw [HZL.out]; omega
      have HH2 : Half wr.drew := (HH.out.below HF.out.below.drew)
      have S0 := Lib.hid (sum_any _ _ _ wr.drew HH2 R0 hlz)
      have SA := Lib.hid (sum_any _ _ _ wr.drew HH2 (RA.out.take (c' := ca) k hna) hla)
      have SB := Lib.hid (sum_any _ _ _ wr.drew HH2 (RB.out.take (c' := cb) k hnb) hlb)
      have SC := Lib.hid (sum_any _ _ _ wr.drew HH2 (RC.out.take (c' := cc) k hnc) hlc)
      have hx1 := xor_num (Crc.sum (la.take k)) (Crc.sum (lb.take k))
      have hx2 := xor_num (Crc.sum (la.take k) ^^^ Crc.sum (lb.take k)) (Crc.sum (lc.take k))
      rw [← HS.out] at hx2
      have HT2 := Lib.hid (show Below w.heap.size w wr.drew from (HT.out.trans (HF.out.below.mono HT.out.size)).drew)
      generalize num (Crc.sum (la.take k) ^^^ Crc.sum (lb.take k)) = AB at hx1 hx2
      generalize num (Crc.sum (la.take k)) = A at hx1 SA
      generalize num (Crc.sum (lb.take k)) = B at hx1 SB
      generalize num (Crc.sum (lc.take k)) = C at hx2 SC
      generalize num (Crc.sum z) = Z at hx2 S0
      clear hla hlb hlc hlz HH2 R0 hrow HZ HZL RA RB RC GA GB GC HF HS
      have hua := fun W => run_upto W a la.length ca k (by omega)
      have hub := fun W => run_upto W b lb.length cb k (by omega)
      have huc := fun W => run_upto W c lc.length cc k (by omega)
      go_wp2_with fail
      go_region_held3 (fun w' => w' = wr.drew) (first | rfl | assumption) (first | (go_at_call_of 12 (Value.slice (some ⟨w1.heap.size, 0, none⟩) k k); refine S0.out.mono ?_; rintro e w4 ⟨rfl, rfl⟩) | (go_at_call_of 12 (Value.slice a k ca); refine SA.out.mono ?_; rintro e w4 ⟨rfl, rfl⟩) | (go_at_call_of 12 (Value.slice b k cb); refine SB.out.mono ?_; rintro e w4 ⟨rfl, rfl⟩) | (go_at_call_of 12 (Value.slice c k cc); refine SC.out.mono ?_; rintro e w4 ⟨rfl, rfl⟩))
      go_wp2
      go_ret
      exact ⟨rfl, HT2.out⟩

end Go.Proofs.YtifdlkohddpmfaaDoor
