/- CrcEnds: bytes with their own sum behind them. -/
import Derived.Test.YtifdlkohddpmfaaDoorApb
namespace Go.Proofs.YtifdlkohddpmfaaDoor
open Go.RowKit

theorem low24_all (X : BitVec 32) : num X / (16777216 : Int) = ((Crc.low (X >>> 24)).toNat : Int) := by
  rw [Crc.low_shr]; have := X.isLt; unfold num; omega
theorem four_row (X : BitVec 32) : #[.int .u8 ((Crc.low X).toNat : Int), .int .u8 ((Crc.low (X >>> 8)).toNat : Int), .int .u8 ((Crc.low (X >>> 16)).toNat : Int), .int .u8 ((Crc.low (X >>> 24)).toNat : Int)] = rowA (Crc.four X) := rfl

set_option maxRecDepth 100000 in
set_option maxHeartbeats 1000000 in
theorem ends_walk (a : Option Addr) (l : List UInt8) (cap g : Nat) (w : World) (hh : Half w) (hr : Reads w (.slice a l.length cap) l g) (hg : l ≠ [] → g < w.heap.size) (hc : l.length ≤ cap) (hn : a = none → cap = 0) (hw : l.length ≤ 140737488351232) :
    Calls Tryd.prog 7 #[.slice a l.length cap] w fun e w' => e = .returned (.bool true) ∧ Below w.heap.size w w' := by
  obtain ⟨n, hn1, hn2, hmin⟩ : ∃ n : Nat, n ≤ 600 ∧ n ≤ l.length ∧ (if (600 : Int) < (l.length : Int) then (600 : Int) else (l.length : Int)) = (n : Int) := ⟨min l.length 600, by omega, by omega, min_nat l.length 600⟩
  have HH := Lib.hid hh
  have HR := Lib.hid hr
  have HG := Lib.hid hg
  clear hh hr hg
  go_enter Tryd.func7, Tryd.ntmps7
  go_wp2_with fail
  refine (shown_any w HH.out).mono ?_
  rintro e w1 ⟨rfl, hT⟩
  have NIL := Lib.hid (show ∀ k c', Value.slice a n cap = .slice none k c' → c' = 0 by intro k c' h; cases h; exact hn rfl)
  have hln : (l.take n).length = n := by rw [List.length_take]; omega
  have R := Lib.hid ((HR.out.below HG.out hT).take (c' := cap) n hn2)
  replace R := Lib.hid (R.out.alloc (fun h => Nat.lt_of_lt_of_le (HG.out (by rintro rfl; simp at h)) hT.size) (.cells #[] 5))
  have HP := Lib.hid (HH.out.below hT).size
  have HB := Lib.hid ((Below.refl w1.heap.size w1).alloc (Nat.le_refl _) (.cells #[] 5))
  have HT := Lib.hid hT
  replace HH := Lib.hid ((HH.out.below hT).alloc (.cells #[] 5))
  have hfin : Crc.sum (l.take n ++ Crc.four (Crc.sum (l.take n))) = 0x2144DF1C#32 := Crc.sum_ends _
  clear hT hn
  generalize l.take n = L at hln R hfin
  have HFIN := Lib.hid hfin
  clear hfin
  go_wp2_with (at_builtin; refine wpList_append_b rfl (.tmp 6) (.tmp 11) rfl w1.heap.size (.slice (some ⟨w1.heap.size, 0, none⟩) 0 0) [] rfl (own_none w1) _ L g rfl R.out NIL.out (by simp; omega) (by simp) ?_; intro v1 w2 hown hgrow; replace HH := Lib.hid (HH.out.touch (Touch.of_grown (F := fun k => k = w1.heap.size) hgrow (by intro k hk; simp [Value.ownBlock] at hk; exact hk.symm)) (by have := HP.out; omega)); replace HB := Lib.hid (HB.out.grown hgrow (by simp) (by intro k hk; simp [Value.ownBlock] at hk; omega)); have HO := Lib.hid hown; clear hown hgrow)
  have ho := HO.out
  rw [List.nil_append] at ho
  replace HO := Lib.hid ho
  obtain ⟨a1, c1, g1, rfl, hr1, hl1, hn1', hb1, -⟩ := own_bytes ho
  clear ho
  refine (sum_any _ L g1 _ HH.out hr1 (by omega)).mono ?_
  rintro e w3 ⟨rfl, rfl⟩
  generalize hS : Crc.sum L = S at HFIN ⊢
  clear hS hr1
  have hx0 := low_num S
  have hx8 := low8_num S
  have hx16 := low16_num S
  have hx24 := low24_all S
  have hrs := num_range S
  have HO2 := Lib.hid (show ∀ o, (w2.alloc o).ownsRow w1.heap.size 5 1 (.slice a1 n c1) L.length (L.map byteV) from fun o => by rw [← hln]; exact HO.out.alloc o)
  have HL4 := Lib.hid (show L.length + (Crc.four S).length ≤ 4294967296 by rw [hln]; show n + 4 ≤ _; omega)
  go_wp2_with (at_builtin; refine wpList_append_b rfl (.tmp 15) (.tmp 27) rfl w1.heap.size (.slice a1 n c1) L rfl (HO2.out _) _ (Crc.four S) w2.heap.size rfl (lit_reads _ _ _ _ _ _ (four_row S) rfl) (fun _ _ h => by cases h) HL4.out (Nat.le_trans HB.out.size (by simp)) ?_; intro v2 w3 hown hgrow; replace HH := Lib.hid ((HH.out.alloc (.cells (rowA (Crc.four S)) 5)).touch (Touch.of_grown (F := fun k => w1.heap.size ≤ k) hgrow (by rw [hln] at hb1; exact hb1)) (by have := HP.out; omega)); replace HB := Lib.hid ((HB.out.alloc HB.out.size (.cells (rowA (Crc.four S)) 5)).grown hgrow (Nat.le_trans HB.out.size (by simp)) (by rw [hln] at hb1; exact hb1)); have HO3 := Lib.hid hown; clear hown hgrow)
  obtain ⟨a2, c2, g2, rfl, hr2, -⟩ := own_bytes HO3.out
  refine (sum_any _ (L ++ Crc.four S) g2 _ HH.out hr2 (by rw [List.length_append]; exact HL4.out)).mono ?_
  rintro e w4 ⟨rfl, rfl⟩
  rw [HFIN.out, show num 558161692#32 = 558161692 from rfl]
  have HT2 := Lib.hid (HT.out.trans (HB.out.mono HT.out.size))
  go_wp2
  go_ret
  exact ⟨rfl, HT2.out⟩

end Go.Proofs.YtifdlkohddpmfaaDoor
