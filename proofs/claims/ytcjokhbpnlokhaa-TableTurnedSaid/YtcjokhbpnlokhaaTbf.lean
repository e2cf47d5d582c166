/- Tables: has, look, At, Owner, Len. Tables of at most 2^20 blocks and places. -/
import Derived.Test.YtcjokhbpnlokhaaTbm
namespace Go.Proofs.Ytcjokhbpnlokhaa
open Go.RowKit

set_option maxHeartbeats 400000 in
theorem has_any (g n : Nat) (a : Int) (w : World) (hn : n ≤ 1048576) :
    Calls Try.prog 16 #[.slice (some ⟨g, 0, none⟩) n n, .int .i64 a] w fun e w' => e = .returned (.bool (decide (0 ≤ a ∧ a < n))) ∧ w = w' := by
  by_cases h0 : 0 ≤ a
  · by_cases h1 : a < (n : Int)
    · have hd : decide (0 ≤ a ∧ a < (n : Int)) = true := by simp [h0, h1]
      rw [hd]
      go_enter Try.func16, Try.ntmps16
      go_wp2
      go_ret
      exact ⟨rfl, rfl⟩
    · have hd : decide (0 ≤ a ∧ a < (n : Int)) = false := by simp [h1]
      rw [hd]
      go_enter Try.func16, Try.ntmps16
      go_wp2
      go_ret
      exact ⟨rfl, rfl⟩
  · have hd : decide (0 ≤ a ∧ a < (n : Int)) = false := by simp [h0]
    rw [hd]
    go_enter Try.func16, Try.ntmps16
    go_wp2
    go_ret
    exact ⟨rfl, rfl⟩

set_option maxHeartbeats 400000 in
theorem look_any (g n : Nat) (f : Nat → Option Nat) (a : Int) (w : World) (hn : n ≤ 1048576) (hf : ∀ i, n ≤ i → f i = none) (hc : ∀ i, i < n → w.cell? ⟨g, i, none⟩ = some (.int .i64 (enc (f i)))) :
    Calls Try.prog 17 #[.slice (some ⟨g, 0, none⟩) n n, .int .i64 a] w fun e w' => e = .returned (.tuple #[.int .i64 (ans (lookI f a)), .bool (lookI f a).isSome]) ∧ w = w' := by
  have H := Lib.hid (has_any g n a w hn)
  by_cases h0 : 0 ≤ a
  · obtain ⟨i, rfl⟩ : ∃ i : Nat, a = (i : Int) := ⟨a.toNat, by omega⟩
    rw [lookI_nat]
    by_cases h1 : i < n
    · have hd : decide (0 ≤ (i : Int) ∧ (i : Int) < (n : Int)) = true := by simp [h1]
      rw [hd] at H
      have hv := hc i h1
      clear hf hc hd h0
      cases e : f i with
      | none =>
        rw [e] at hv
        simp only [enc] at hv
        simp only [ans, Option.isSome]
        go_enter Try.func17, Try.ntmps17
        go_wp2_with fail
        refine H.out.mono ?_
        rintro e w' ⟨rfl, rfl⟩
        go_wp2
        go_ret2
        exact ⟨rfl, rfl⟩
      | some p =>
        rw [e] at hv
        simp only [enc] at hv
        simp only [ans, Option.isSome]
        have hb : ((p : Int) == -1) = false := by rw [beq_eq_false_iff_ne]; omega
        go_enter Try.func17, Try.ntmps17
        go_wp2_with fail
        refine H.out.mono ?_
        rintro e w' ⟨rfl, rfl⟩
        go_wp2
        go_ret2
        exact ⟨rfl, rfl⟩
    · have hd : decide (0 ≤ (i : Int) ∧ (i : Int) < (n : Int)) = false := by simp; omega
      rw [hd] at H
      rw [hf i (by omega)]
      simp only [ans, Option.isSome]
      go_enter Try.func17, Try.ntmps17
      go_wp2_with fail
      refine H.out.mono ?_
      rintro e w' ⟨rfl, rfl⟩
      go_wp2
      go_ret2
      exact ⟨rfl, rfl⟩
  · have hd : decide (0 ≤ a ∧ a < (n : Int)) = false := by simp [h0]
    rw [hd] at H
    have hl : lookI f a = none := by simp [lookI, h0]
    rw [hl]
    simp only [ans, Option.isSome]
    go_enter Try.func17, Try.ntmps17
    go_wp2_with fail
    refine H.out.mono ?_
    rintro e w' ⟨rfl, rfl⟩
    go_wp2
    go_ret2
    exact ⟨rfl, rfl⟩

section
variable {w : World} {T gp go B S : Nat} {a o : Nat → Option Nat}
set_option maxHeartbeats 400000 in
theorem at_any (h : TabAt w T gp go B S a o) (id : Int) :
    Calls Try.prog 11 #[.pointer (some ⟨T, 0, none⟩), .int .i64 id] w fun e w' => e = .returned (.tuple #[.int .i64 (ans (lookI a id)), .bool (lookI a id).isSome]) ∧ w = w' := by
  have hc := h.c0
  have L := Lib.hid (look_any gp B a id w h.mB (fun i hi => h.good.outA hi) (fun i hi => h.cp hi))
  clear h
  go_enter Try.func11, Try.ntmps11
  go_wp2_with fail
  refine L.out.mono ?_
  rintro e w' ⟨rfl, rfl⟩
  go_wp2
  go_ret2
  exact ⟨rfl, rfl⟩
set_option maxHeartbeats 400000 in
theorem owner_any (h : TabAt w T gp go B S a o) (p : Int) :
    Calls Try.prog 12 #[.pointer (some ⟨T, 0, none⟩), .int .i64 p] w fun e w' => e = .returned (.tuple #[.int .i64 (ans (lookI o p)), .bool (lookI o p).isSome]) ∧ w = w' := by
  have hc := h.c1
  have L := Lib.hid (look_any go S o p w h.mS (fun i hi => h.good.outO hi) (fun i hi => h.co hi))
  clear h
  go_enter Try.func12, Try.ntmps12
  go_wp2_with fail
  refine L.out.mono ?_
  rintro e w' ⟨rfl, rfl⟩
  go_wp2
  go_ret2
  exact ⟨rfl, rfl⟩
theorem len_any (h : TabAt w T gp go B S a o) :
    Calls Try.prog 14 #[.pointer (some ⟨T, 0, none⟩)] w fun e w' => e = .returned (.int .i64 (cnt a B : Nat)) ∧ w = w' := by
  have hc := h.c2
  clear h
  go_enter Try.func14, Try.ntmps14
  go_wp2
  go_ret
  exact ⟨rfl, rfl⟩
end

end Go.Proofs.Ytcjokhbpnlokhaa
