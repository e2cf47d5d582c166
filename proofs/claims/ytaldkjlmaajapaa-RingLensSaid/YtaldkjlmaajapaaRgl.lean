/- RingLens: a ring has the length that was asked for, cut. -/
import Derived.Test.YtaldkjlmaajapaaRgs
namespace Go.Proofs.Ytaldkjlmaajapaa
open Go.RowKit

/-- The law behind its first test: of a ring of n asked. -/
theorem lens_nat (n : Int) : ∃ m : Nat, min (max n 1) 1048576 = (m : Int) ∧ 1 ≤ m ∧ m ≤ 1048576 := ⟨(min (max n 1) 1048576).toNat, by omega, by omega, by omega⟩
theorem replicate_at (v : Value) (m i : Nat) (h : i < m) : (List.replicate m v)[i]? = some v := by simp [h]
set_option maxRecDepth 100000 in
set_option maxHeartbeats 1000000 in
theorem lens_walk (n : Int) (w : World) (hn1 : -9223372036854775808 ≤ n) (hn2 : n ≤ 9223372036854775807) :
    Calls Try.prog 6 #[.int .i64 n] w fun e w' => e = .returned (.bool true) ∧ Below w.heap.size w w' := by
  obtain ⟨n', hn'⟩ : ∃ n' : Int, n' = if 5000 < n ∧ n ≤ 1048576 then n % 5000 else n := ⟨_, rfl⟩
  obtain ⟨m, hm, hm1, hm2⟩ := lens_nat n'
  obtain ⟨x, hx, hy⟩ := clamp_run n' m hm
  obtain ⟨i, hi, him⟩ := place_nat n' m hm1
  have e1 : ((-1 : Int) - 0) % m = ((m - 1 : Nat) : Int) := by
    rw [show (-1 : Int) - 0 = (m - 1 : Nat) + m * (-1) by omega, Int.add_mul_emod_self_left]
    exact Int.emod_eq_of_lt (by omega) (by omega)
  have e2 : ((0 : Int) + m) % m = ((0 : Nat) : Int) := by rw [Int.zero_add, Int.emod_self]; rfl
  have hm1' : ((m - 1 : Nat) : Int) = (m : Int) - 1 := by omega
  rw [hm1'] at e1
  have HM := Lib.hid hm
  have HI := Lib.hid hi
  have E1 := Lib.hid e1
  have E2 := Lib.hid e2
  have HN := Lib.hid hn'
  clear hm hi e1 e2 hm1' hn'
  have fin : ∀ (w0 w1 : World) (R g : Nat) (H : Hid (Ringb w1 R g m (List.replicate m (.int .u8 3)))) (HB : Hid (Below w.heap.size w w1)), True := fun _ _ _ _ _ _ => trivial
  clear fin
  by_cases hc : 5000 < n ∧ n ≤ 1048576
  · obtain ⟨hc1, hc2⟩ := hc
    obtain rfl : n' = n % 5000 := by rw [HN.out, if_pos ⟨hc1, hc2⟩]
    clear HN
    go_enter Try.func6, Try.ntmps6
    go_wp2_with fail
    refine (shown_any w).mono ?_
    rintro e w0 ⟨rfl, hb0⟩
    have HB0 := Lib.hid hb0
    clear hb0
    go_wp2_with fail
    refine (new_b (n % 5000) m _ w0 HM.out).mono ?_
    rintro e w1 ⟨⟨R, g, rfl, hr, -, -⟩, hb⟩
    have H := Lib.hid hr
    have HB := Lib.hid (HB0.out.trans (hb.mono HB0.out.size))
    clear hr hb HB0
    go_wp2_with fail
    refine (len_b R g m _ w1 H.out).mono ?_
    rintro e w' ⟨rfl, rfl⟩
    go_wp2_with fail
    refine (get_b R g m i _ (n % 5000) 3 w1 H.out hm1 hm2 HI.out (replicate_at _ m i him)).mono ?_
    rintro e w' ⟨rfl, k, rfl⟩
    go_wp2_with fail
    refine (far_b R g m _ 0 (-1) (w1.drewN k) (H.out.drewN k) hm1 hm2).mono ?_
    rintro e w' ⟨rfl, rfl⟩
    rw [E1.out]
    go_wp2_with fail
    refine (go_b R g m _ 0 m (w1.drewN k) (H.out.drewN k) hm1 hm2).mono ?_
    rintro e w' ⟨rfl, rfl⟩
    rw [E2.out]
    go_wp2
    go_ret
    exact ⟨rfl, ((Touch.of_below (F := Emp) HB.out).drewN k).below⟩
  · obtain rfl : n' = n := by rw [HN.out, if_neg hc]
    clear HN
    have tail : ∀ W : World, Calls Try.prog 6 #[.int .i64 n'] w fun e w' => e = .returned (.bool true) ∧ Below w.heap.size w w' := by
      intro W
      by_cases hc1 : 5000 < n'
      · have hc2 : ¬ n' ≤ 1048576 := fun h => hc ⟨hc1, h⟩
        clear hc
        go_enter Try.func6, Try.ntmps6
        go_wp2_with fail
        refine (shown_any w).mono ?_
        rintro e w0 ⟨rfl, hb0⟩
        have HB0 := Lib.hid hb0
        clear hb0
        go_wp2_with fail
        refine (new_b n' m _ w0 HM.out).mono ?_
        rintro e w1 ⟨⟨R, g, rfl, hr, -, -⟩, hb⟩
        have H := Lib.hid hr
        have HB := Lib.hid (HB0.out.trans (hb.mono HB0.out.size))
        clear hr hb HB0
        go_wp2_with fail
        refine (len_b R g m _ w1 H.out).mono ?_
        rintro e w' ⟨rfl, rfl⟩
        go_wp2_with fail
        refine (get_b R g m i _ n' 3 w1 H.out hm1 hm2 HI.out (replicate_at _ m i him)).mono ?_
        rintro e w' ⟨rfl, k, rfl⟩
        go_wp2_with fail
        refine (far_b R g m _ 0 (-1) (w1.drewN k) (H.out.drewN k) hm1 hm2).mono ?_
        rintro e w' ⟨rfl, rfl⟩
        rw [E1.out]
        go_wp2_with fail
        refine (go_b R g m _ 0 m (w1.drewN k) (H.out.drewN k) hm1 hm2).mono ?_
        rintro e w' ⟨rfl, rfl⟩
        rw [E2.out]
        go_wp2
        go_ret
        exact ⟨rfl, ((Touch.of_below (F := Emp) HB.out).drewN k).below⟩
      · clear hc
        go_enter Try.func6, Try.ntmps6
        go_wp2_with fail
        refine (shown_any w).mono ?_
        rintro e w0 ⟨rfl, hb0⟩
        have HB0 := Lib.hid hb0
        clear hb0
        go_wp2_with fail
        refine (new_b n' m _ w0 HM.out).mono ?_
        rintro e w1 ⟨⟨R, g, rfl, hr, -, -⟩, hb⟩
        have H := Lib.hid hr
        have HB := Lib.hid (HB0.out.trans (hb.mono HB0.out.size))
        clear hr hb HB0
        go_wp2_with fail
        refine (len_b R g m _ w1 H.out).mono ?_
        rintro e w' ⟨rfl, rfl⟩
        go_wp2_with fail
        refine (get_b R g m i _ n' 3 w1 H.out hm1 hm2 HI.out (replicate_at _ m i him)).mono ?_
        rintro e w' ⟨rfl, k, rfl⟩
        go_wp2_with fail
        refine (far_b R g m _ 0 (-1) (w1.drewN k) (H.out.drewN k) hm1 hm2).mono ?_
        rintro e w' ⟨rfl, rfl⟩
        rw [E1.out]
        go_wp2_with fail
        refine (go_b R g m _ 0 m (w1.drewN k) (H.out.drewN k) hm1 hm2).mono ?_
        rintro e w' ⟨rfl, rfl⟩
        rw [E2.out]
        go_wp2
        go_ret
        exact ⟨rfl, ((Touch.of_below (F := Emp) HB.out).drewN k).below⟩
    exact tail w

end Go.Proofs.Ytaldkjlmaajapaa
