/- Rings: Get, Set. Rings of 1 to 2^20 places. -/
import Derived.Test.YtaldkjlmaajapaaRgn
import Derived.Deep.QuietTactic
import Derived.BigQuiet
import Derived.Deep.RegionWith
import Derived.Outline
namespace Go.Proofs.Ytaldkjlmaajapaa
open Go.RowKit

theorem placeq_i (R g n i : Nat) (l : List Value) (a : Int) (w : World) (h : Ringi w R g n l) (hn : 1 ≤ n) (hm : n ≤ 1048576) (hi : a % n = (i : Int)) :
    Calls Try.prog 26 #[.pointer (some ⟨R, 0, none⟩), .int .i64 a] w fun e w' => e = .returned (.int .i64 (i : Int)) ∧ w' = w :=
  (place_i R g n l a w h hn hm).mono fun _ _ ⟨he, hw⟩ => ⟨by rw [he, hi], hw.symm⟩

set_option maxHeartbeats 400000 in
theorem get_i (R g n i : Nat) (l : List Value) (a : Int) (x : Int) (w : World) (h : Ringi w R g n l) (hn : 1 ≤ n) (hm : n ≤ 1048576) (hi : a % n = (i : Int)) (hx : l[i]? = some (.int .i64 x)) :
    Calls Try.prog 15 #[.pointer (some ⟨R, 0, none⟩), .int .i64 a] w fun e w' => e = .returned (.int .i64 x) ∧ ∃ m, w' = w.drewN m := by
  have hc := h.hcell
  have hv := (h.cell i).trans hx
  have hlt : (i : Int) < (n : Int) := by have := place_bd a n hn; omega
  have PL := Lib.hid (fun m => placeq_i R g n i l a (w.drewN m) (h.drewN m) hn hm hi)
  clear hi hx h
  go_enter Try.func15, Try.ntmps15
  go_wp2_with fail
  go_quiet ((go_at_call 26; exact Calls.quiet_of_same (PL.out _)))
  go_wp2
  go_ret
  exact ⟨rfl, _, rfl⟩

theorem placeq_b (R g n i : Nat) (l : List Value) (a : Int) (w : World) (h : Ringb w R g n l) (hn : 1 ≤ n) (hm : n ≤ 1048576) (hi : a % n = (i : Int)) :
    Calls Try.prog 28 #[.pointer (some ⟨R, 0, none⟩), .int .i64 a] w fun e w' => e = .returned (.int .i64 (i : Int)) ∧ w' = w :=
  (place_b R g n l a w h hn hm).mono fun _ _ ⟨he, hw⟩ => ⟨by rw [he, hi], hw.symm⟩

set_option maxHeartbeats 400000 in
theorem get_b (R g n i : Nat) (l : List Value) (a : Int) (x : Int) (w : World) (h : Ringb w R g n l) (hn : 1 ≤ n) (hm : n ≤ 1048576) (hi : a % n = (i : Int)) (hx : l[i]? = some (.int .u8 x)) :
    Calls Try.prog 20 #[.pointer (some ⟨R, 0, none⟩), .int .i64 a] w fun e w' => e = .returned (.int .u8 x) ∧ ∃ m, w' = w.drewN m := by
  have hc := h.hcell
  have hv := (h.cell i).trans hx
  have hlt : (i : Int) < (n : Int) := by have := place_bd a n hn; omega
  have PL := Lib.hid (fun m => placeq_b R g n i l a (w.drewN m) (h.drewN m) hn hm hi)
  clear hi hx h
  go_enter Try.func20, Try.ntmps20
  go_wp2_with fail
  go_quiet ((go_at_call 28; exact Calls.quiet_of_same (PL.out _)))
  go_wp2
  go_ret
  exact ⟨rfl, _, rfl⟩

set_option maxHeartbeats 400000 in
theorem set_i (R g n i : Nat) (l : List Value) (a x : Int) (w : World) (h : Ringi w R g n l) (hn : 1 ≤ n) (hm : n ≤ 1048576) (hi : a % n = (i : Int)) :
    Calls Try.prog 14 #[.pointer (some ⟨R, 0, none⟩), .int .i64 a, .int .i64 x] w fun e w' => e = .returned (.tuple #[]) ∧ Ringi w' R g n (l.set i (.int .i64 x)) ∧ Touch (fun k => k = g) w w' := by
  have hc := h.hcell
  have hlt : (i : Int) < (n : Int) := by have := place_bd a n hn; omega
  have hlt' : i < l.length := by rw [h.len]; omega
  have hv := (h.cell i).trans (List.getElem?_eq_getElem hlt')
  have hf := h.free i
  have PL := Lib.hid (fun m => placeq_i R g n i l a (w.drewN m) (h.drewN m) hn hm hi)
  have H := Lib.hid h
  clear hi h
  generalize l[i] = u at hv
  go_enter Try.func14, Try.ntmps14
  have P1 := Lib.hid (PL.out 1)
  go_region_with ((go_at_call 26; refine P1.out.mono ?_; rintro e w4 ⟨rfl, rfl⟩))
  all_goals
    go_end0
    exact ⟨rfl, (H.out.drewN 1).set i _, ((Touch.refl (fun k => k = g) w).drewN 1).setCell (a := ⟨g, i, none⟩) (.inl rfl) _⟩

end Go.Proofs.Ytaldkjlmaajapaa
