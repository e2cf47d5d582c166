/- RingGoes: who goes as far as it is, is there. -/
import Derived.Test.YtaldkjlmaajapaaRgs
namespace Go.Proofs.Ytaldkjlmaajapaa
open Go.RowKit

set_option maxRecDepth 100000 in
set_option maxHeartbeats 1000000 in
theorem goes_walk (n a0 b0 c0 : Int) (w : World) :
    Calls Try.prog 3 #[.int .i64 n, .int .i64 a0, .int .i64 b0, .int .i64 c0] w fun e w' => e = .returned (.bool true) ∧ Below w.heap.size w w' := by
  obtain ⟨m, hm, hm1, hm2⟩ := few_bd n
  have HM := Lib.hid hm
  clear hm
  obtain ⟨a, ha, ha1, ha2⟩ := tmod_bd a0 1000000 (by omega)
  obtain ⟨b, hb, hb1, hb2⟩ := tmod_bd b0 1000000 (by omega)
  obtain ⟨c, hc, hc1, hc2⟩ := tmod_bd c0 1000000 (by omega)
  replace ha : a0.tmod 1000000 = a := ha
  replace hb : b0.tmod 1000000 = b := hb
  replace hc : c0.tmod 1000000 = c := hc
  replace ha1 : -1000000 < a := ha1
  replace hb1 : -1000000 < b := hb1
  replace hc1 : -1000000 < c := hc1
  replace ha2 : a < 1000000 := ha2
  replace hb2 : b < 1000000 := hb2
  replace hc2 : c < 1000000 := hc2
  obtain ⟨pa, hpa, -⟩ := place_nat a m hm1
  obtain ⟨pb, hpb, -⟩ := place_nat b m hm1
  obtain ⟨f, hf, hfm⟩ := place_nat (b - a) m hm1
  obtain ⟨f2, hf2, hfm2⟩ := place_nat (a - b) m hm1
  obtain ⟨u, hu, hum⟩ := place_nat (a + b) m hm1
  obtain ⟨v, hv, hvm⟩ := place_nat (a + (b + c)) m hm1
  have e1 : (a + (f : Int)) % m = (pb : Int) := by rw [← hf, Int.add_emod_emod, show a + (b - a) = b by omega]; exact hpb
  have e2 : (b + 0) % m = (pb : Int) := by rw [Int.add_zero]; exact hpb
  have e3 : ((u : Int) + c) % m = (v : Int) := by rw [← hu, Int.emod_add_emod, Int.add_assoc]; exact hv
  have e4 : ((u : Int) + -b) % m = (pa : Int) := by rw [← hu, Int.emod_add_emod, show a + b + -b = a by omega]; exact hpa
  have e5 : (a + 0) % m = (pa : Int) := by rw [Int.add_zero]; exact hpa
  have e6 : ((f : Int) + (f2 : Int)) % m = 0 := by rw [← hf, ← hf2, ← Int.add_emod, show b - a + (a - b) = 0 by omega]; exact Int.zero_emod _
  have E1 := Lib.hid e1
  have E2 := Lib.hid e2
  have E3 := Lib.hid e3
  have E4 := Lib.hid e4
  have E5 := Lib.hid e5
  have HF := Lib.hid hf
  have HF2 := Lib.hid hf2
  have HU := Lib.hid hu
  have HV := Lib.hid hv
  clear e1 e2 e3 e4 e5 hf hf2 hu hv hpa hpb
  have hmm : m ≤ 1048576 := by omega
  go_enter Try.func3, Try.ntmps3
  go_wp2_with fail
  refine (shown_any w).mono ?_
  rintro e w0 ⟨rfl, hb0⟩
  have HB0 := Lib.hid hb0
  clear hb0
  go_wp2_with fail
  refine (few_any n m w0 HM.out).mono ?_
  rintro e w' ⟨rfl, rfl⟩
  go_wp2_with fail
  refine (new_s m m _ w0 (by omega)).mono ?_
  rintro e w1 ⟨⟨R, g, rfl, hr, -, -⟩, hb⟩
  have H := Lib.hid hr
  have HB := Lib.hid (HB0.out.trans (hb.mono HB0.out.size))
  clear hr hb HB0
  go_wp2_with fail
  refine (farq_s R g m f _ a b w1 H.out hm1 hmm HF.out).mono ?_
  rintro e w' ⟨rfl, rfl⟩
  go_wp2_with fail
  refine (goq_s R g m pb _ a f w1 H.out hm1 hmm E1.out).mono ?_
  rintro e w' ⟨rfl, rfl⟩
  go_wp2_with fail
  refine (goq_s R g m pb _ b 0 w1 H.out hm1 hmm E2.out).mono ?_
  rintro e w' ⟨rfl, rfl⟩
  go_wp2_with fail
  refine (goq_s R g m u _ a b w1 H.out hm1 hmm HU.out).mono ?_
  rintro e w' ⟨rfl, rfl⟩
  go_wp2_with fail
  refine (goq_s R g m v _ u c w1 H.out hm1 hmm E3.out).mono ?_
  rintro e w' ⟨rfl, rfl⟩
  go_wp2_with fail
  refine (goq_s R g m v _ a (b + c) w1 H.out hm1 hmm HV.out).mono ?_
  rintro e w' ⟨rfl, rfl⟩
  go_wp2_with fail
  refine (goq_s R g m u _ a b w1 H.out hm1 hmm HU.out).mono ?_
  rintro e w' ⟨rfl, rfl⟩
  go_wp2_with fail
  refine (goq_s R g m pa _ u (-b) w1 H.out hm1 hmm E4.out).mono ?_
  rintro e w' ⟨rfl, rfl⟩
  go_wp2_with fail
  refine (goq_s R g m pa _ a 0 w1 H.out hm1 hmm E5.out).mono ?_
  rintro e w' ⟨rfl, rfl⟩
  go_wp2_with fail
  refine (farq_s R g m f _ a b w1 H.out hm1 hmm HF.out).mono ?_
  rintro e w' ⟨rfl, rfl⟩
  go_wp2_with fail
  refine (farq_s R g m f2 _ b a w1 H.out hm1 hmm HF2.out).mono ?_
  rintro e w' ⟨rfl, rfl⟩
  go_wp2
  go_ret
  exact ⟨rfl, HB.out⟩

end Go.Proofs.Ytaldkjlmaajapaa
