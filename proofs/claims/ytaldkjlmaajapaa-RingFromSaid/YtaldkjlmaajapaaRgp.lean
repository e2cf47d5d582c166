/- Rings: which place a number is; Go, Far, Len. Rings of 1 to 2^20 places. -/
import Derived.Test.YtaldkjlmaajapaaRgm
namespace Go.Proofs.Ytaldkjlmaajapaa
open Go.RowKit

abbrev Ringi (w : World) (R g n : Nat) (l : List Value) : Prop := RingAt 46 3 w R g n l

set_option maxHeartbeats 400000 in
theorem place_i (R g n : Nat) (l : List Value) (a : Int) (w : World) (h : Ringi w R g n l) (hn : 1 ≤ n) (hm : n ≤ 1048576) :
    Calls Try.prog 26 #[.pointer (some ⟨R, 0, none⟩), .int .i64 a] w fun e w' => e = .returned (.int .i64 (a % n)) ∧ w = w' := by
  have hc := h.hcell
  clear h
  by_cases h0 : 0 ≤ a
  · obtain ⟨b1, b2⟩ := place_bd a n hn
    go_enter Try.func26, Try.ntmps26
    go_wp2
    go_ret
    exact ⟨rfl, rfl⟩
  · obtain ⟨b1, b2, b3, b4⟩ := tmod_neg a n (by omega) hn
    have B3 := Lib.hid b3
    have B4 := Lib.hid b4
    clear b3 b4
    by_cases hlt : a.tmod n < 0
    · go_enter Try.func26, Try.ntmps26
      go_wp2
      go_ret
      exact ⟨by rw [B3.out hlt]; rfl, rfl⟩
    · go_enter Try.func26, Try.ntmps26
      go_wp2
      go_ret
      exact ⟨by rw [B4.out hlt]; rfl, rfl⟩

abbrev Rings (w : World) (R g n : Nat) (l : List Value) : Prop := RingAt 44 9 w R g n l

set_option maxHeartbeats 400000 in
theorem place_s (R g n : Nat) (l : List Value) (a : Int) (w : World) (h : Rings w R g n l) (hn : 1 ≤ n) (hm : n ≤ 1048576) :
    Calls Try.prog 25 #[.pointer (some ⟨R, 0, none⟩), .int .i64 a] w fun e w' => e = .returned (.int .i64 (a % n)) ∧ w = w' := by
  have hc := h.hcell
  clear h
  by_cases h0 : 0 ≤ a
  · obtain ⟨b1, b2⟩ := place_bd a n hn
    go_enter Try.func25, Try.ntmps25
    go_wp2
    go_ret
    exact ⟨rfl, rfl⟩
  · obtain ⟨b1, b2, b3, b4⟩ := tmod_neg a n (by omega) hn
    have B3 := Lib.hid b3
    have B4 := Lib.hid b4
    clear b3 b4
    by_cases hlt : a.tmod n < 0
    · go_enter Try.func25, Try.ntmps25
      go_wp2
      go_ret
      exact ⟨by rw [B3.out hlt]; rfl, rfl⟩
    · go_enter Try.func25, Try.ntmps25
      go_wp2
      go_ret
      exact ⟨by rw [B4.out hlt]; rfl, rfl⟩

abbrev Ringb (w : World) (R g n : Nat) (l : List Value) : Prop := RingAt 50 5 w R g n l

set_option maxHeartbeats 400000 in
theorem place_b (R g n : Nat) (l : List Value) (a : Int) (w : World) (h : Ringb w R g n l) (hn : 1 ≤ n) (hm : n ≤ 1048576) :
    Calls Try.prog 28 #[.pointer (some ⟨R, 0, none⟩), .int .i64 a] w fun e w' => e = .returned (.int .i64 (a % n)) ∧ w = w' := by
  have hc := h.hcell
  clear h
  by_cases h0 : 0 ≤ a
  · obtain ⟨b1, b2⟩ := place_bd a n hn
    go_enter Try.func28, Try.ntmps28
    go_wp2
    go_ret
    exact ⟨rfl, rfl⟩
  · obtain ⟨b1, b2, b3, b4⟩ := tmod_neg a n (by omega) hn
    have B3 := Lib.hid b3
    have B4 := Lib.hid b4
    clear b3 b4
    by_cases hlt : a.tmod n < 0
    · go_enter Try.func28, Try.ntmps28
      go_wp2
      go_ret
      exact ⟨by rw [B3.out hlt]; rfl, rfl⟩
    · go_enter Try.func28, Try.ntmps28
      go_wp2
      go_ret
      exact ⟨by rw [B4.out hlt]; rfl, rfl⟩

set_option maxHeartbeats 400000 in
theorem go_i (R g n : Nat) (l : List Value) (a b : Int) (w : World) (h : Ringi w R g n l) (hn : 1 ≤ n) (hm : n ≤ 1048576) :
    Calls Try.prog 17 #[.pointer (some ⟨R, 0, none⟩), .int .i64 a, .int .i64 b] w fun e w' => e = .returned (.int .i64 ((a + b) % n)) ∧ w = w' := by
  have P1 := Lib.hid (place_i R g n l a w h hn hm)
  have P2 := Lib.hid (place_i R g n l b w h hn hm)
  have P3 := Lib.hid (place_i R g n l (a % n + b % n) w h hn hm)
  obtain ⟨a1, a2⟩ := place_bd a n hn
  obtain ⟨b1, b2⟩ := place_bd b n hn
  clear h
  go_enter Try.func17, Try.ntmps17
  go_wp2_with fail
  refine P1.out.mono ?_
  rintro e w' ⟨rfl, rfl⟩
  go_wp2_with fail
  refine P2.out.mono ?_
  rintro e w' ⟨rfl, rfl⟩
  go_wp2_with fail
  refine P3.out.mono ?_
  rintro e w' ⟨rfl, rfl⟩
  go_wp2
  go_ret
  exact ⟨rfl, rfl⟩

set_option maxHeartbeats 400000 in
theorem far_i (R g n : Nat) (l : List Value) (a b : Int) (w : World) (h : Ringi w R g n l) (hn : 1 ≤ n) (hm : n ≤ 1048576) :
    Calls Try.prog 23 #[.pointer (some ⟨R, 0, none⟩), .int .i64 a, .int .i64 b] w fun e w' => e = .returned (.int .i64 ((b - a) % n)) ∧ w = w' := by
  have P1 := Lib.hid (place_i R g n l b w h hn hm)
  have P2 := Lib.hid (place_i R g n l a w h hn hm)
  have P3 := Lib.hid (place_i R g n l (b % n - a % n) w h hn hm)
  obtain ⟨a1, a2⟩ := place_bd a n hn
  obtain ⟨b1, b2⟩ := place_bd b n hn
  clear h
  go_enter Try.func23, Try.ntmps23
  go_wp2_with fail
  refine P1.out.mono ?_
  rintro e w' ⟨rfl, rfl⟩
  go_wp2_with fail
  refine P2.out.mono ?_
  rintro e w' ⟨rfl, rfl⟩
  go_wp2_with fail
  refine P3.out.mono ?_
  rintro e w' ⟨rfl, rfl⟩
  go_wp2
  go_ret
  exact ⟨rfl, rfl⟩

set_option maxHeartbeats 400000 in
theorem go_s (R g n : Nat) (l : List Value) (a b : Int) (w : World) (h : Rings w R g n l) (hn : 1 ≤ n) (hm : n ≤ 1048576) :
    Calls Try.prog 12 #[.pointer (some ⟨R, 0, none⟩), .int .i64 a, .int .i64 b] w fun e w' => e = .returned (.int .i64 ((a + b) % n)) ∧ w = w' := by
  have P1 := Lib.hid (place_s R g n l a w h hn hm)
  have P2 := Lib.hid (place_s R g n l b w h hn hm)
  have P3 := Lib.hid (place_s R g n l (a % n + b % n) w h hn hm)
  obtain ⟨a1, a2⟩ := place_bd a n hn
  obtain ⟨b1, b2⟩ := place_bd b n hn
  clear h
  go_enter Try.func12, Try.ntmps12
  go_wp2_with fail
  refine P1.out.mono ?_
  rintro e w' ⟨rfl, rfl⟩
  go_wp2_with fail
  refine P2.out.mono ?_
  rintro e w' ⟨rfl, rfl⟩
  go_wp2_with fail
  refine P3.out.mono ?_
  rintro e w' ⟨rfl, rfl⟩
  go_wp2
  go_ret
  exact ⟨rfl, rfl⟩

set_option maxHeartbeats 400000 in
theorem far_s (R g n : Nat) (l : List Value) (a b : Int) (w : World) (h : Rings w R g n l) (hn : 1 ≤ n) (hm : n ≤ 1048576) :
    Calls Try.prog 11 #[.pointer (some ⟨R, 0, none⟩), .int .i64 a, .int .i64 b] w fun e w' => e = .returned (.int .i64 ((b - a) % n)) ∧ w = w' := by
  have P1 := Lib.hid (place_s R g n l b w h hn hm)
  have P2 := Lib.hid (place_s R g n l a w h hn hm)
  have P3 := Lib.hid (place_s R g n l (b % n - a % n) w h hn hm)
  obtain ⟨a1, a2⟩ := place_bd a n hn
  obtain ⟨b1, b2⟩ := place_bd b n hn
  clear h
  go_enter Try.func11, Try.ntmps11
  go_wp2_with fail
  refine P1.out.mono ?_
  rintro e w' ⟨rfl, rfl⟩
  go_wp2_with fail
  refine P2.out.mono ?_
  rintro e w' ⟨rfl, rfl⟩
  go_wp2_with fail
  refine P3.out.mono ?_
  rintro e w' ⟨rfl, rfl⟩
  go_wp2
  go_ret
  exact ⟨rfl, rfl⟩

set_option maxHeartbeats 400000 in
theorem go_b (R g n : Nat) (l : List Value) (a b : Int) (w : World) (h : Ringb w R g n l) (hn : 1 ≤ n) (hm : n ≤ 1048576) :
    Calls Try.prog 22 #[.pointer (some ⟨R, 0, none⟩), .int .i64 a, .int .i64 b] w fun e w' => e = .returned (.int .i64 ((a + b) % n)) ∧ w = w' := by
  have P1 := Lib.hid (place_b R g n l a w h hn hm)
  have P2 := Lib.hid (place_b R g n l b w h hn hm)
  have P3 := Lib.hid (place_b R g n l (a % n + b % n) w h hn hm)
  obtain ⟨a1, a2⟩ := place_bd a n hn
  obtain ⟨b1, b2⟩ := place_bd b n hn
  clear h
  go_enter Try.func22, Try.ntmps22
  go_wp2_with fail
  refine P1.out.mono ?_
  rintro e w' ⟨rfl, rfl⟩
  go_wp2_with fail
  refine P2.out.mono ?_
  rintro e w' ⟨rfl, rfl⟩
  go_wp2_with fail
  refine P3.out.mono ?_
  rintro e w' ⟨rfl, rfl⟩
  go_wp2
  go_ret
  exact ⟨rfl, rfl⟩

set_option maxHeartbeats 400000 in
theorem far_b (R g n : Nat) (l : List Value) (a b : Int) (w : World) (h : Ringb w R g n l) (hn : 1 ≤ n) (hm : n ≤ 1048576) :
    Calls Try.prog 21 #[.pointer (some ⟨R, 0, none⟩), .int .i64 a, .int .i64 b] w fun e w' => e = .returned (.int .i64 ((b - a) % n)) ∧ w = w' := by
  have P1 := Lib.hid (place_b R g n l b w h hn hm)
  have P2 := Lib.hid (place_b R g n l a w h hn hm)
  have P3 := Lib.hid (place_b R g n l (b % n - a % n) w h hn hm)
  obtain ⟨a1, a2⟩ := place_bd a n hn
  obtain ⟨b1, b2⟩ := place_bd b n hn
  clear h
  go_enter Try.func21, Try.ntmps21
  go_wp2_with fail
  refine P1.out.mono ?_
  rintro e w' ⟨rfl, rfl⟩
  go_wp2_with fail
  refine P2.out.mono ?_
  rintro e w' ⟨rfl, rfl⟩
  go_wp2_with fail
  refine P3.out.mono ?_
  rintro e w' ⟨rfl, rfl⟩
  go_wp2
  go_ret
  exact ⟨rfl, rfl⟩

set_option maxHeartbeats 400000 in
theorem len_i (R g n : Nat) (l : List Value) (w : World) (h : Ringi w R g n l) :
    Calls Try.prog 24 #[.pointer (some ⟨R, 0, none⟩)] w fun e w' => e = .returned (.int .i64 (n : Int)) ∧ w = w' := by
  have hc := h.hcell
  clear h
  go_enter Try.func24, Try.ntmps24
  go_wp2
  go_ret
  exact ⟨rfl, rfl⟩

set_option maxHeartbeats 400000 in
theorem len_b (R g n : Nat) (l : List Value) (w : World) (h : Ringb w R g n l) :
    Calls Try.prog 19 #[.pointer (some ⟨R, 0, none⟩)] w fun e w' => e = .returned (.int .i64 (n : Int)) ∧ w = w' := by
  have hc := h.hcell
  clear h
  go_enter Try.func19, Try.ntmps19
  go_wp2
  go_ret
  exact ⟨rfl, rfl⟩

end Go.Proofs.Ytaldkjlmaajapaa
