/- RingTurns: a ring that is gone round is where it was. -/
import Derived.Test.YtaldkjlmaajapaaRgs
namespace Go.Proofs.Ytaldkjlmaajapaa
open Go.RowKit

theorem mul_bd (m : Nat) (t : Int) (h : m ≤ 300) (h1 : -1000 < t) (h2 : t < 1000) : -300000 ≤ (m : Int) * t ∧ (m : Int) * t ≤ 300000 := by
  have a : (m : Int) * t ≤ m * 1000 := Int.mul_le_mul_of_nonneg_left (by omega) (by omega)
  have b : (m : Int) * (-1000) ≤ m * t := Int.mul_le_mul_of_nonneg_left (by omega) (by omega)
  omega

set_option maxRecDepth 100000 in
set_option maxHeartbeats 1000000 in
theorem turns_walk (n a t : Int) (w : World) :
    Calls Try.prog 7 #[.int .i64 n, .int .i64 a, .int .i64 t] w fun e w' => e = .returned (.bool true) ∧ Below w.heap.size w w' := by
  obtain ⟨m, hm, hm1, hm2⟩ := few_bd n
  have HM := Lib.hid hm
  clear hm
  obtain ⟨t', ht, ht1, ht2⟩ := tmod_bd t 1000 (by omega)
  obtain ⟨a', ha, ha1, ha2⟩ := tmod_bd a 100000 (by omega)
  obtain ⟨hx1, hx2⟩ := mul_bd m t' hm2 ht1 ht2
  obtain ⟨p, hp, hpm⟩ := place_nat a' m hm1
  obtain ⟨q, hq, hqm⟩ := place_nat (a' + m / 2) m hm1
  have e1 : (a' + 0) % m = (p : Int) := by rw [Int.add_zero]; exact hp
  have e2 : (a' + m * t') % m = (p : Int) := by rw [Int.add_mul_emod_self_left]; exact hp
  have e3 : (a' + m * t' - a') % m = ((0 : Nat) : Int) := by rw [show a' + m * t' - a' = m * t' by omega]; exact Int.mul_emod_right _ _
  have e4 : ((q : Int) + ((m : Int) - m / 2)) % m = (p : Int) := by
    rw [← hq, Int.emod_add_emod, show a' + (m : Int) / 2 + ((m : Int) - m / 2) = a' + m by omega, Int.add_emod_right]; exact hp
  have E1 := Lib.hid e1
  have E2 := Lib.hid e2
  have E3 := Lib.hid e3
  have E4 := Lib.hid e4
  have EQ := Lib.hid hq
  clear e1 e2 e3 e4 hq hp
  replace ht : t.tmod 1000 = t' := ht
  replace ha : a.tmod 100000 = a' := ha
  replace ht1 : -1000 < t' := ht1
  replace ht2 : t' < 1000 := ht2
  replace ha1 : -100000 < a' := ha1
  replace ha2 : a' < 100000 := ha2
  go_enter Try.func7, Try.ntmps7
  go_wp2_with fail
  refine (shown_any w).mono ?_
  rintro e w0 ⟨rfl, hb0⟩
  have HB0 := Lib.hid hb0
  clear hb0
  go_wp2_with fail
  refine (few_any n m w0 HM.out).mono ?_
  rintro e w' ⟨rfl, rfl⟩
  go_wp2_with fail
  refine (new_i m m 0 w0 (by omega)).mono ?_
  rintro e w1 ⟨⟨R, g, rfl, hr, -, -⟩, hb⟩
  have H := Lib.hid hr
  have HB := Lib.hid (HB0.out.trans (hb.mono HB0.out.size))
  clear hr hb HB0
  have hmm : m ≤ 1048576 := by omega
  go_wp2_with fail
  refine (goq_i R g m p _ a' 0 w1 H.out hm1 hmm E1.out).mono ?_
  rintro e w' ⟨rfl, rfl⟩
  go_wp2_with fail
  refine (goq_i R g m p _ a' (m * t') w1 H.out hm1 hmm E2.out).mono ?_
  rintro e w' ⟨rfl, rfl⟩
  go_wp2_with fail
  refine (farq_i R g m 0 _ a' (a' + m * t') w1 H.out hm1 hmm E3.out).mono ?_
  rintro e w' ⟨rfl, rfl⟩
  go_wp2_with fail
  refine (goq_i R g m q _ a' (m / 2) w1 H.out hm1 hmm EQ.out).mono ?_
  rintro e w' ⟨rfl, rfl⟩
  go_wp2_with fail
  refine (goq_i R g m p _ q (m - m / 2) w1 H.out hm1 hmm E4.out).mono ?_
  rintro e w' ⟨rfl, rfl⟩
  go_wp2
  go_ret
  exact ⟨rfl, HB.out⟩

end Go.Proofs.Ytaldkjlmaajapaa
