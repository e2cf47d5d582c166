/- Rings: what must be in any case; few. No condition. -/
import Derived.Test.YtaldkjlmaajapaaRgg
import Derived.Test.YtaldkjlmaajapaaBit
namespace Go.Proofs.Ytaldkjlmaajapaa
open Go.RowKit

theorem few_bd (n : Int) : ∃ m : Nat, 1 + n % 65536 % 300 = (m : Int) ∧ 1 ≤ m ∧ m ≤ 300 := ⟨(1 + n % 65536 % 300).toNat, by omega, by omega, by omega⟩
set_option maxHeartbeats 400000 in
theorem few_any (n : Int) (m : Nat) (w : World) (hm : 1 + n % 65536 % 300 = (m : Int)) :
    Calls Try.prog 9 #[.int .i64 n] w fun e w' => e = .returned (.int .i64 (m : Int)) ∧ w = w' := by
  have ha := and_65535 n
  have h0 : 0 ≤ n % 65536 := by omega
  have h1 : n % 65536 < 65536 := by omega
  have HM := Lib.hid hm
  clear hm
  generalize n % 65536 = r at *
  go_enter Try.func9, Try.ntmps9
  go_wp2
  go_ret
  exact ⟨by rw [← HM.out]; rfl, rfl⟩

set_option maxRecDepth 100000 in
set_option maxHeartbeats 1000000 in
theorem shown_any (w : World) : Calls Try.prog 8 #[] w fun e w' => e = .returned (.bool true) ∧ Below w.heap.size w w' := by
  go_enter Try.func8, Try.ntmps8
  go_wp2_with fail
  refine (new_i 5 5 7 _ (by decide)).mono ?_
  rintro e w1 ⟨⟨R, g, rfl, hr, hR, hg⟩, hb⟩
  have H := Lib.hid hr
  have HB := Lib.hid hb
  have HR := Lib.hid (And.intro hR hg)
  clear hr hb hR hg
  go_wp2_with fail
  refine (go_i R g 5 _ 3 4 w1 H.out (by omega) (by omega)).mono ?_
  rintro e w' ⟨rfl, rfl⟩
  go_wp2_with fail
  refine (far_i R g 5 _ 3 1 w1 H.out (by omega) (by omega)).mono ?_
  rintro e w' ⟨rfl, rfl⟩
  go_wp2_with fail
  refine (set_i R g 5 4 _ (-1) 9 w1 H.out (by omega) (by omega) (by decide)).mono ?_
  rintro e w2 ⟨rfl, hr, ht⟩
  have H2 := Lib.hid hr
  have HT := Lib.hid ht
  clear hr ht
  have L5 := Lib.hid (len_i R g 5 _ w2 H2.out)
  have G4 := Lib.hid (get_i R g 5 4 _ 4 9 w2 H2.out (by omega) (by omega) (by decide) rfl)
  have G0 := Lib.hid (fun k => get_i R g 5 0 _ 0 7 (w2.drewN k) (H2.out.drewN k) (by omega) (by omega) (by decide) rfl)
  go_wp2_with fail
  refine L5.out.mono ?_
  rintro e w' ⟨rfl, rfl⟩
  go_wp2_with fail
  refine G4.out.mono ?_
  rintro e w' ⟨rfl, k, rfl⟩
  go_wp2_with fail
  refine (G0.out k).mono ?_
  rintro e w' ⟨rfl, k', rfl⟩
  go_wp2
  go_ret
  exact ⟨rfl, (((Touch.of_below HB.out).trans (G := fun k => k = g) HT.out (by rintro k rfl hk; have := HR.out; omega)).drewN (k + k')).below⟩

theorem tmod_bd (a : Int) (m : Nat) (h : 1 ≤ m) : ∃ t : Int, a.tmod m = t ∧ -(m : Int) < t ∧ t < m := by
  refine ⟨_, rfl, ?_⟩
  by_cases h0 : 0 ≤ a
  · rw [Int.tmod_eq_emod_of_nonneg h0]; have := place_bd a m h; omega
  · have := tmod_neg a m (by omega) h; omega
theorem goq_i (R g n i : Nat) (l : List Value) (a b : Int) (w : World) (h : Ringi w R g n l) (hn : 1 ≤ n) (hm : n ≤ 1048576) (hi : (a + b) % n = (i : Int)) :
    Calls Try.prog 17 #[.pointer (some ⟨R, 0, none⟩), .int .i64 a, .int .i64 b] w fun e w' => e = .returned (.int .i64 (i : Int)) ∧ w = w' :=
  (go_i R g n l a b w h hn hm).mono fun _ _ ⟨he, hw⟩ => ⟨by rw [he, hi], hw⟩
theorem farq_i (R g n i : Nat) (l : List Value) (a b : Int) (w : World) (h : Ringi w R g n l) (hn : 1 ≤ n) (hm : n ≤ 1048576) (hi : (b - a) % n = (i : Int)) :
    Calls Try.prog 23 #[.pointer (some ⟨R, 0, none⟩), .int .i64 a, .int .i64 b] w fun e w' => e = .returned (.int .i64 (i : Int)) ∧ w = w' :=
  (far_i R g n l a b w h hn hm).mono fun _ _ ⟨he, hw⟩ => ⟨by rw [he, hi], hw⟩
theorem goq_s (R g n i : Nat) (l : List Value) (a b : Int) (w : World) (h : Rings w R g n l) (hn : 1 ≤ n) (hm : n ≤ 1048576) (hi : (a + b) % n = (i : Int)) :
    Calls Try.prog 12 #[.pointer (some ⟨R, 0, none⟩), .int .i64 a, .int .i64 b] w fun e w' => e = .returned (.int .i64 (i : Int)) ∧ w = w' :=
  (go_s R g n l a b w h hn hm).mono fun _ _ ⟨he, hw⟩ => ⟨by rw [he, hi], hw⟩
theorem farq_s (R g n i : Nat) (l : List Value) (a b : Int) (w : World) (h : Rings w R g n l) (hn : 1 ≤ n) (hm : n ≤ 1048576) (hi : (b - a) % n = (i : Int)) :
    Calls Try.prog 11 #[.pointer (some ⟨R, 0, none⟩), .int .i64 a, .int .i64 b] w fun e w' => e = .returned (.int .i64 (i : Int)) ∧ w = w' :=
  (far_s R g n l a b w h hn hm).mono fun _ _ ⟨he, hw⟩ => ⟨by rw [he, hi], hw⟩
/-- A place is a Nat below the length. -/
theorem place_nat (a : Int) (n : Nat) (hn : 1 ≤ n) : ∃ i : Nat, a % n = (i : Int) ∧ i < n := by
  have := place_bd a n hn
  exact ⟨(a % n).toNat, by omega, by omega⟩

end Go.Proofs.Ytaldkjlmaajapaa
