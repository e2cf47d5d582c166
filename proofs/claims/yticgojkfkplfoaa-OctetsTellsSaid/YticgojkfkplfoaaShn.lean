/- 'shown' of octets: what must be in any case. -/
import Derived.Test.YticgojkfkplfoaaRdr
import Derived.Test.YticgojkfkplfoaaPut
namespace Go.Proofs.Yticgojkfkplfoaa
open Go.RowKit

theorem below_touch1 {B b : Nat} {w w1 w2 : World} (h : Below B w w1) (ht : Touch (fun k => k = b) w1 w2) (hb : B ≤ b) (hB : B ≤ w.heap.size) : Below B w w2 :=
  h.trans (ht.to_below (by rintro k _ rfl; exact hb) (Nat.le_trans hB h.size))

set_option maxRecDepth 100000 in
set_option maxHeartbeats 4000000 in
theorem shown_any (w : World) : Calls Try.prog 9 #[] w fun e w' => e = .returned (.bool true) ∧ Below w.heap.size w w' := by
  have kc := conv_lit
  have HT := Lib.hid (Below.refl w.heap.size w)
  have R := Lib.hid (read_any _ [2, 1, 7, 9] w.heap.size _ (BV.lit w #[.int .u8 2, .int .u8 1, .int .u8 7, .int .u8 9] (0, 0) [2, 1, 7, 9] 4 4 rfl rfl (Nat.le_refl _)) (by decide))
  go_enter Try.func9, Try.ntmps9
  go_wp2_with fail
  refine R.out.mono ?_
  rintro e w1 ⟨⟨b, g, rfl, hr, hbb, hgg⟩, hb⟩
  replace HT := Lib.hid ((HT.out.alloc HT.out.size (.cells #[.int .u8 2, .int .u8 1, .int .u8 7, .int .u8 9] 5)).trans (hb.mono (by simp)))
  replace hbb : w.heap.size ≤ b := Nat.le_trans (by simp) hbb
  have HR := Lib.hid hr
  clear hr hb hgg R
  go_wp2_with fail
  refine (number_ok 2 2 b [2, 1, 7, 9] false g w1 HR.out (by decide) (by decide)).mono ?_
  rintro e w2 ⟨rfl, ht, hr⟩
  replace HT := Lib.hid (below_touch1 HT.out ht hbb (Nat.le_refl _))
  replace HR := Lib.hid hr
  rw [show ((Oct.unle (List.take 2 [2, 1, 7, 9]) : Nat) : Int) = 258 from rfl]
  clear ht hr
  go_wp2_with fail
  refine (bytes_ok 1 1 b [7, 9] false g w2 HR.out (by decide) (by decide) (by decide)).mono ?_
  rintro e w3 ⟨⟨v1, rfl, hv⟩, ht, hr⟩
  replace HT := Lib.hid (below_touch1 HT.out ht hbb (Nat.le_refl _))
  obtain ⟨g1, hv1, hg1⟩ := hv
  have hblt := HR.out.lt
  have HG := Lib.hid (show g1 ≠ b from fun e => by have := hg1 (by simp); omega)
  replace HR := Lib.hid hr
  obtain ⟨a1, c1, rfl, -⟩ := hv1.form
  have HV := Lib.hid (show BV w3 (.slice a1 1 c1) [7] g1 from hv1)
  clear ht hr hv1 hg1 hblt
  go_wp2_with fail
  refine (left_any b [9] false g w3 HR.out).mono ?_
  rintro e w4 ⟨rfl, rfl⟩
  go_wp2_with fail
  refine (number_short 2 2 b [9] false g w3 HR.out (by decide) (by decide)).mono ?_
  rintro e w4 ⟨rfl, ht, hr⟩
  replace HT := Lib.hid (below_touch1 HT.out ht hbb (Nat.le_refl _))
  replace HV := Lib.hid (HV.out.touch ht fun _ => HG.out)
  replace HR := Lib.hid hr
  clear ht hr
  go_wp2_with fail
  refine (fine_any b [] true g w4 HR.out).mono ?_
  rintro e w5 ⟨rfl, rfl⟩
  go_wp2_with fail
  refine (put_any _ [] 0 2 2 258 w4 (BV.nil w4 0) (by decide) (by decide) (by decide)).mono ?_
  rintro e w5 ⟨⟨v2, rfl, g2, hv2, -⟩, hb⟩
  have kd := run_convBytes hv2.reads
  rw [show ([] : List UInt8) ++ Oct.le 2 258 = [2, 1] from rfl] at kd
  replace HT := Lib.hid (HT.out.trans (hb.mono HT.out.size))
  replace HV := Lib.hid (HV.out.below hb)
  replace HR := Lib.hid (HR.out.below hb)
  clear hv2 hb
  go_wp2_with fail
  refine (field_any _ [5] w5.heap.size 3 3 _ (BV.lit w5 #[.int .u8 5] (0, 0) [5] 1 1 rfl rfl (Nat.le_refl _)) (by decide)).mono ?_
  rintro e w6 ⟨rfl, hw⟩
  replace HT := Lib.hid (HT.out.alloc HT.out.size (.cells #[.int .u8 5] 5))
  replace HV := Lib.hid (HV.out.alloc (.cells #[.int .u8 5] 5))
  replace HR := Lib.hid (HR.out.below ((Below.refl _ w5).alloc (Nat.le_refl _) (.cells #[.int .u8 5] 5)))
  generalize w5.alloc (.cells #[.int .u8 5] 5) = w7 at HT HV HR hw ⊢
  have kf := run_convBytes (field_fresh w7 [5] 3).reads
  have kv := run_convBytes (HV.out.alloc (.cells (rowA (Oct.fieldL [5] 3)) 5)).reads
  have HLF := Lib.hid (left_any b [] true g _ (HR.out.below ((Below.refl _ w7).alloc (Nat.le_refl _) (.cells (rowA (Oct.fieldL [5] 3)) 5))))
  replace HT := Lib.hid (HT.out.alloc HT.out.size (.cells (rowA (Oct.fieldL [5] 3)) 5))
  rw [show Oct.fieldL [5] 3 = [5, 0, 0] from rfl] at kf kv HLF HT hw
  rw [hw] at kf kv HLF HT
  clear hw HR HV kd
  generalize w7.heap.size = gf at kf ⊢
  go_wp2_with fail
  refine HLF.out.mono ?_
  rintro e w8 ⟨rfl, rfl⟩
  go_wp2_with fail
  refine (put_any _ [120] w6.heap.size 9 8 1 _ (BV.lit w6 #[.int .u8 120] (1, 2) [120] 1 1 rfl rfl (Nat.le_refl _)) (by decide) (by decide) (by decide)).mono ?_
  rintro e w9 ⟨⟨v3, rfl, g3, hv3, -⟩, hb⟩
  have k3 := run_convBytes hv3.reads
  rw [show ([120] : List UInt8) ++ Oct.le 8 1 = [120, 1, 0, 0, 0, 0, 0, 0, 0] from rfl] at k3
  replace HT := Lib.hid ((HT.out.alloc HT.out.size (.cells #[.int .u8 120] 5 (1, 2))).trans (hb.mono (Nat.le_trans HT.out.size (by simp))))
  clear hv3 hb
  go_wp2
  go_ret
  exact ⟨rfl, HT.out⟩

end Go.Proofs.Yticgojkfkplfoaa
