/- CrcChanges: four bytes within. -/
import Derived.Test.YtifdlkohddpmfaaDoorEnd
namespace Go.Proofs.YtifdlkohddpmfaaDoor
open Go.RowKit

theorem Half.low {B : Nat} {w w' : World} (h : Half w) (hb : Below B w w') (h0 : 0 < B) : Half w' :=
  h.touch (F := fun k => B ≤ k) ⟨hb.os, hb.tape, hb.output, hb.size, fun k _ hF => hb.block k (Nat.lt_of_not_le hF)⟩ (by omega)
/-- An own block that holds these bytes ahead. -/
def OwnAt (w : World) (g : Nat) (M : List UInt8) : Prop := ∃ cur, w.heap[g]? = some (.cells cur 5 (0, 0)) ∧ cur.toList.take M.length = M.map byteV
theorem OwnAt.cell {w : World} {g : Nat} {M : List UInt8} (h : OwnAt w g M) (j : Nat) (x : UInt8) (hj : M[j]? = some x) : w.cell? ⟨g, j, none⟩ = some (.int .u8 (x.toNat : Int)) ∧ w.frozen? ⟨g, j, none⟩ = false := by
  obtain ⟨cur, hg, ht⟩ := h
  obtain ⟨hlt, rfl⟩ := List.getElem?_eq_some_iff.1 hj
  refine ⟨?_, frozen_of_row w g j _ _ hg⟩
  rw [cell_of_row w g j _ _ _ hg]
  have e := congrArg (fun (L : List Value) => L[j]?) ht
  simp only [List.getElem?_take, hlt, if_true, List.getElem?_map, List.getElem?_eq_getElem hlt, Option.map_some] at e
  simpa [byteV] using e
theorem OwnAt.set {w : World} {g : Nat} {M : List UInt8} (h : OwnAt w g M) (j : Nat) (x : UInt8) : OwnAt (w.setCell ⟨g, j, none⟩ (.int .u8 (x.toNat : Int))) g (M.set j x) := by
  obtain ⟨cur, hg, ht⟩ := h
  refine ⟨_, heap_setCell_same w g j _ _ _ hg, ?_⟩
  rw [List.length_set, Array.toList_setIfInBounds, List.take_set, ht]
  simp [byteV]
theorem OwnAt.reads {w : World} {g : Nat} {M : List UInt8} (h : OwnAt w g M) (n cap : Nat) (hn : M.length = n) : Reads w (.slice (some ⟨g, 0, none⟩) n cap) M g := by
  subst hn
  exact ⟨0, cap, .inl ⟨rfl, fun i hi => by rw [Nat.zero_add]; exact (h.cell i _ (List.getElem?_eq_getElem hi)).1⟩⟩
theorem OwnAt.drew {w : World} {g : Nat} {M : List UInt8} (h : OwnAt w g M) : OwnAt w.drew g M := h

def M4 (P Q : List UInt8) (a b c d : UInt8) : List UInt8 := P ++ [a, b, c, d] ++ Q
theorem M4_parts (L : List UInt8) (p : Nat) (h : p + 4 ≤ L.length) : ∃ P Q a b c d, P.length = p ∧ L = M4 P Q a b c d := by
  have hl : (L.drop p).length = L.length - p := List.length_drop
  match hd : L.drop p with
  | a :: b :: c :: d :: Q =>
    refine ⟨L.take p, Q, a, b, c, d, by rw [List.length_take]; omega, ?_⟩
    have := List.take_append_drop p L
    rw [hd] at this
    show L = L.take p ++ [a, b, c, d] ++ Q
    rw [List.append_assoc]; exact this.symm
  | [] => rw [hd] at hl; simp at hl; omega
  | [_] => rw [hd] at hl; simp at hl; omega
  | [_, _] => rw [hd] at hl; simp at hl; omega
  | [_, _, _] => rw [hd] at hl; simp at hl; omega
theorem M4_length (P Q : List UInt8) (a b c d : UInt8) : (M4 P Q a b c d).length = P.length + 4 + Q.length := by simp [M4]; omega
section
variable (P Q : List UInt8) (a b c d x : UInt8) (p : Nat) (h : P.length = p)
include h
theorem M4_at0 : (M4 P Q a b c d)[p]? = some a := by subst h; simp [M4]
theorem M4_at1 : (M4 P Q a b c d)[p + 1]? = some b := by subst h; simp [M4, List.getElem?_append]
theorem M4_at2 : (M4 P Q a b c d)[p + 2]? = some c := by subst h; simp [M4, List.getElem?_append]
theorem M4_at3 : (M4 P Q a b c d)[p + 3]? = some d := by subst h; simp [M4, List.getElem?_append]
theorem M4_set0 : (M4 P Q a b c d).set p x = M4 P Q x b c d := by subst h; simp [M4]
theorem M4_set1 : (M4 P Q a b c d).set (p + 1) x = M4 P Q a x c d := by subst h; simp [M4, List.set_append]
theorem M4_set2 : (M4 P Q a b c d).set (p + 2) x = M4 P Q a b x d := by subst h; simp [M4, List.set_append]
theorem M4_set3 : (M4 P Q a b c d).set (p + 3) x = M4 P Q a b c x := by subst h; simp [M4, List.set_append]
end
theorem chg_fin (P Q : List UInt8) (a b c d : UInt8) (X : BitVec 32) : (num (Crc.sum (M4 P Q (a ^^^ Crc.low X) (b ^^^ Crc.low (X >>> 8)) (c ^^^ Crc.low (X >>> 16)) (d ^^^ Crc.low (X >>> 24)))) == num (Crc.sum (M4 P Q a b c d))) = (num X == 0) := by
  rw [show (0 : Int) = num 0#32 from rfl, num_beq, num_beq, Bool.eq_iff_iff, beq_iff_eq, beq_iff_eq]
  exact Crc.sum_changes P Q a b c d X
theorem xor8 (a b : UInt8) : bits .xor .u8 (a.toNat : Int) (b.toNat : Int) = ((a ^^^ b).toNat : Int) := by
  rw [u8_xor_nat _ _ a.toNat_lt b.toNat_lt, UInt8.toNat_xor]

set_option maxRecDepth 100000 in
set_option maxHeartbeats 1000000 in
theorem changes_walk (a : Option Addr) (l : List UInt8) (cap g : Nat) (at_ : Int) (X : BitVec 32) (w : World) (hh : Half w) (hr : Reads w (.slice a l.length cap) l g) (hg : l ≠ [] → g < w.heap.size) (hc : l.length ≤ cap) (hn : a = none → cap = 0) (hw : l.length ≤ 140737488351232) :
    Calls Tryd.prog 5 #[.slice a l.length cap, .int .i64 at_, .int .u32 (num X)] w fun e w' => e = .returned (.bool true) ∧ Below w.heap.size w w' := by
  obtain ⟨n, hn1, hn2, hmin⟩ : ∃ n : Nat, n ≤ 600 ∧ n ≤ l.length ∧ (if (600 : Int) < (l.length : Int) then (600 : Int) else (l.length : Int)) = (n : Int) := ⟨min l.length 600, by omega, by omega, min_nat l.length 600⟩
  have HH := Lib.hid hh
  have HR := Lib.hid hr
  have HG := Lib.hid hg
  clear hh hr hg
  go_enter Tryd.func5, Tryd.ntmps5
  go_wp2_with fail
  refine (shown_any w HH.out).mono ?_
  rintro e w1 ⟨rfl, hT⟩
  have NIL := Lib.hid (show ∀ k c', Value.slice a n cap = .slice none k c' → c' = 0 by intro k c' h; cases h; exact hn rfl)
  have hln : (l.take n).length = n := by rw [List.length_take]; omega
  have R := Lib.hid ((HR.out.below HG.out hT).take (c' := cap) n hn2)
  replace R := Lib.hid (R.out.alloc (fun h => Nat.lt_of_lt_of_le (HG.out (by rintro rfl; simp at h)) hT.size) (.cells #[] 5))
  have HP := Lib.hid (HH.out.below hT).size
  have HB := Lib.hid ((Below.refl w1.heap.size w1).alloc (Nat.le_refl _) (.cells #[] 5))
  have HT := Lib.hid hT
  replace HH := Lib.hid ((HH.out.below hT).alloc (.cells #[] 5))
  clear hT hn
  generalize l.take n = L at hln R
  have hrx := num_range X
  go_wp2_with (at_builtin; refine wpList_append_b rfl (.tmp 11) (.tmp 16) rfl w1.heap.size (.slice (some ⟨w1.heap.size, 0, none⟩) 0 0) [] rfl (own_none w1) _ L g rfl R.out NIL.out (by simp; omega) (by simp) ?_; intro v1 w2 hown hgrow; replace HH := Lib.hid (HH.out.touch (Touch.of_grown (F := fun k => k = w1.heap.size) hgrow (by intro k hk; simp [Value.ownBlock] at hk; exact hk.symm)) (by have := HP.out; omega)); replace HB := Lib.hid (HB.out.grown hgrow (by simp) (by intro k hk; simp [Value.ownBlock] at hk; omega)); have ho := hown; refine Go.RowKit.Hid.out ?_)
  refine Lib.hid ?_
  rw [List.nil_append] at ho
  clear hown hgrow
  obtain ⟨a1, c1, g1, rfl, hr1, hl1, -, -, hcur⟩ := own_bytes ho
  rw [hln]
  clear ho
  have HT2 := Lib.hid (HT.out.trans (HB.out.mono HT.out.size))
  by_cases h4 : n < 4
  · go_wp2
    go_ret
    exact ⟨rfl, HT2.out⟩
  · have hne : L ≠ [] := by rintro rfl; simp at hln; omega
    obtain ⟨hg1, -⟩ := hl1 hne
    obtain ⟨rfl, hcur2⟩ := hcur hne
    obtain ⟨z, hz⟩ : ∃ z : Nat, (z : Int) = at_ % 65536 := ⟨(at_ % 65536).toNat, by omega⟩
    have hz1 : bits .and .i64 at_ 65535 = (z : Int) := by rw [and_65535, hz]
    obtain ⟨p, hp, hz2⟩ : ∃ p : Nat, p ≤ n - 4 ∧ (z : Int).tmod ((n : Int) - 3) = (p : Int) :=
      ⟨z % (n - 3), by have := Nat.mod_lt z (show 0 < n - 3 by omega); omega, by rw [Int.tmod_eq_emod_of_nonneg (by omega), show (n : Int) - 3 = ((n - 3 : Nat) : Int) by omega]; rfl⟩
    obtain ⟨P, Q, a, b, c, d, hP, hL⟩ := M4_parts L p (by omega)
    have hO : OwnAt w2 g1 (M4 P Q a b c d) := by rw [← hL]; exact hcur2
    have HO := Lib.hid hO
    have HL := Lib.hid hL
    have HPP := Lib.hid hP
    clear hO hcur hcur2 hL hP hl1 hz
    rw [hln] at hr1
    go_wp2_with fail
    refine (sum_any _ L g1 _ HH.out hr1 (by omega)).mono ?_
    rintro e w3 ⟨rfl, rfl⟩
    rw [HL.out]
    have hfin := chg_fin P Q a b c d X
    have h0 := xor8 a (Crc.low X)
    have h1 := xor8 b (Crc.low (X >>> 8))
    have h2 := xor8 c (Crc.low (X >>> 16))
    have h3 := xor8 d (Crc.low (X >>> 24))
    generalize a ^^^ Crc.low X = a' at h0 hfin
    generalize b ^^^ Crc.low (X >>> 8) = b' at h1 hfin
    generalize c ^^^ Crc.low (X >>> 16) = c' at h2 hfin
    generalize d ^^^ Crc.low (X >>> 24) = d' at h3 hfin
    have hx0 := low_num X
    have hx8 := low8_num X
    have hx16 := low16_num X
    have hx24 := low24_all X
    have HFIN := Lib.hid hfin
    clear hfin hr1
    go_upto_block 0 with fail
    go_cut [9] (fun _ wx => Below w1.heap.size w2 wx ∧ OwnAt wx g1 (M4 P Q a' b' c' d'))
    case first =>
      go_wp2_with fail
      go_loopw [9] (fun i wr => Below w1.heap.size w2 wr ∧ ((i = .int .i64 0 ∧ OwnAt wr g1 (M4 P Q a b c d)) ∨ (i = .int .i64 1 ∧ OwnAt wr g1 (M4 P Q a' b c d)) ∨ (i = .int .i64 2 ∧ OwnAt wr g1 (M4 P Q a' b' c d)) ∨ (i = .int .i64 3 ∧ OwnAt wr g1 (M4 P Q a' b' c' d)) ∨ (i = .int .i64 4 ∧ OwnAt wr g1 (M4 P Q a' b' c' d')))) (fun i _ => 4 - (intOf i).toNat)
      case atStart => exact ⟨Below.refl _ _, .inl ⟨rfl, HO.out⟩⟩
      case round =>
        obtain ⟨hB, ⟨rfl, hO⟩ | ⟨rfl, hO⟩ | ⟨rfl, hO⟩ | ⟨rfl, hO⟩ | ⟨rfl, hO⟩⟩ := hrel
        · obtain ⟨hc1, hf1⟩ := hO.cell p _ (M4_at0 P Q a b c d p HPP.out)
          have HN := Lib.hid (show OwnAt (wr.setCell ⟨g1, p, none⟩ (.int .u8 (a'.toNat : Int))) g1 (M4 P Q a' b c d) by
            have := hO.set p a'; rwa [M4_set0 P Q a b c d a' p HPP.out] at this)
          have HBN := Lib.hid (show Below w1.heap.size w2 (wr.setCell ⟨g1, p, none⟩ (.int .u8 (a'.toNat : Int))) from (hB.setCell (p := ⟨g1, p, none⟩) hg1 _))
          clear hO hB
          go_wp2
          go_roundw
          case rel => exact ⟨HBN.out, .inr (.inl ⟨rfl, HN.out⟩)⟩
          case measure => simp [intOf]
        · obtain ⟨hc1, hf1⟩ := hO.cell (p + 1) _ (M4_at1 P Q a' b c d p HPP.out)
          have HN := Lib.hid (show OwnAt (wr.setCell ⟨g1, (p + 1), none⟩ (.int .u8 (b'.toNat : Int))) g1 (M4 P Q a' b' c d) by
            have := hO.set (p + 1) b'; rwa [M4_set1 P Q a' b c d b' p HPP.out] at this)
          have HBN := Lib.hid (show Below w1.heap.size w2 (wr.setCell ⟨g1, (p + 1), none⟩ (.int .u8 (b'.toNat : Int))) from (hB.setCell (p := ⟨g1, (p + 1), none⟩) hg1 _))
          clear hO hB
          go_wp2
          go_roundw
          case rel => exact ⟨HBN.out, .inr (.inr (.inl ⟨rfl, HN.out⟩))⟩
          case measure => simp [intOf]
        · obtain ⟨hc1, hf1⟩ := hO.cell (p + 2) _ (M4_at2 P Q a' b' c d p HPP.out)
          have HN := Lib.hid (show OwnAt (wr.setCell ⟨g1, (p + 2), none⟩ (.int .u8 (c'.toNat : Int))) g1 (M4 P Q a' b' c' d) by
            have := hO.set (p + 2) c'; rwa [M4_set2 P Q a' b' c d c' p HPP.out] at this)
          have HBN := Lib.hid (show Below w1.heap.size w2 (wr.setCell ⟨g1, (p + 2), none⟩ (.int .u8 (c'.toNat : Int))) from (hB.setCell (p := ⟨g1, (p + 2), none⟩) hg1 _))
          clear hO hB
          go_wp2
          go_roundw
          case rel => exact ⟨HBN.out, .inr (.inr (.inr (.inl ⟨rfl, HN.out⟩)))⟩
          case measure => simp [intOf]
        · obtain ⟨hc1, hf1⟩ := hO.cell (p + 3) _ (M4_at3 P Q a' b' c' d p HPP.out)
          have HN := Lib.hid (show OwnAt (wr.setCell ⟨g1, (p + 3), none⟩ (.int .u8 (d'.toNat : Int))) g1 (M4 P Q a' b' c' d') by
            have := hO.set (p + 3) d'; rwa [M4_set3 P Q a' b' c' d d' p HPP.out] at this)
          have HBN := Lib.hid (show Below w1.heap.size w2 (wr.setCell ⟨g1, (p + 3), none⟩ (.int .u8 (d'.toNat : Int))) from (hB.setCell (p := ⟨g1, (p + 3), none⟩) hg1 _))
          clear hO hB
          go_wp2
          go_roundw
          case rel => exact ⟨HBN.out, .inr (.inr (.inr (.inr (⟨rfl, HN.out⟩))))⟩
          case measure => simp [intOf]
        · have HOE := Lib.hid hO
          have HBE := Lib.hid hB
          clear hO hB
          go_wp2_with fail
          go_meet
          exact ⟨HBE.out, HOE.out⟩
    case rest =>
      obtain ⟨hB, hO⟩ := hcut
      have hrd := hO.reads n c1 (by rw [M4_length, ← hln, HL.out, M4_length])
      have HH3 := Lib.hid (HH.out.low hB HP.out)
      have HT3 := Lib.hid (HT2.out.trans (hB.mono HT.out.size))
      have S1 := Lib.hid (sum_any _ _ _ _ HH3.out hrd (by have := HL.out; rw [M4_length]; have h1 := congrArg List.length this; rw [M4_length] at h1; omega))
      generalize num (Crc.sum (M4 P Q a' b' c' d')) = A at S1 HFIN
      generalize num (Crc.sum (M4 P Q a b c d)) = B at HFIN ⊢
      obtain ⟨t, ht⟩ : ∃ t : Bool, (num X == 0) = t := ⟨_, rfl⟩
      have hab := HFIN.out
      rw [ht] at hab
      clear hB hO hrd h0 h1 h2 h3 hx0 hx8 hx16 hx24 HFIN
      go_wp2_with fail
      refine S1.out.mono ?_
      rintro e w4 ⟨rfl, rfl⟩
      cases t
      all_goals
        go_wp2
        go_ret
        exact ⟨rfl, HT3.out⟩

end Go.Proofs.YtifdlkohddpmfaaDoor
