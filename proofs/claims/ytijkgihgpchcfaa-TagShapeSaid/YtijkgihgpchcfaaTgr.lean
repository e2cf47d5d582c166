/- Right, and the document's own answer for it. No condition. -/
import Derived.Test.YtijkgihgpchcfaaTgb
import Derived.RegionTactic
import Derived.ChangeAlike
namespace Go.Proofs.Ytijkgihgpchcfaa
open Go.RowKit

theorem right_not (t : Tg.T) (h : Tg.rightB t = false) : ¬ (1 ≤ t.e ∧ 1 ≤ t.s ∧ t.s ≤ t.q ∧ t.q ≤ 281474976710655 ∧ t.f < t.q ∧ 1 ≤ t.c ∧ t.c ≤ 72 ∧ 0 ≤ t.i ∧ t.i < t.c ∧ 0 ≤ t.d ∧ t.d < 3840) := fun hx => by
  rw [(Tg.right_iff t).2 hx] at h; cases h
theorem batch_iff (t : Tg.T) : Tg.batchB t = true ↔ (1 ≤ t.e ∧ 1 ≤ t.s ∧ t.s ≤ t.q ∧ t.q ≤ 281474976710655 ∧ t.f < t.q) := by simp [Tg.batchB]

set_option maxRecDepth 100000 in
set_option maxHeartbeats 1000000 in
theorem refRight_any (t : Tg.T) (w : World) :
    Calls Try.prog 9 #[tagV t] w fun e w' => e = .returned (.bool (Tg.rightB t)) ∧ Below w.heap.size w w' := by
  obtain ⟨e, s, q, f, i, c, d⟩ := t
  by_cases hr : Tg.rightB ⟨e, s, q, f, i, c, d⟩ = true
  · rw [hr]
    obtain ⟨h1, h2, h3, h4, h5, h6, h7, h8, h9, h10, h11⟩ := (Tg.right_iff _).1 hr
    clear hr
    simp only at h1 h2 h3 h4 h5 h6 h7 h8 h9 h10 h11
    go_enter Try.func9, Try.ntmps9
    go_wp2
    go_ret
    exact ⟨rfl, (Below.refl _ _).alloc (Nat.le_refl _) _⟩
  · rw [Bool.not_eq_true] at hr
    have hn := right_not _ hr
    rw [hr]
    simp only at hn
    have HN := Lib.hid hn
    clear hr hn
    go_enter Try.func9, Try.ntmps9
    go_wp2
    all_goals
      go_ret
      refine ⟨?_, (Below.refl _ _).alloc (Nat.le_refl _) _⟩
      first
        | rfl
        | (have hx := HN.out
           have e1 : decide (d < 3840) = false := by simp only [decide_eq_false_iff_not]; omega
           exact (show Ending.returned (.bool (decide (d < 3840))) = .returned (.bool false) by rw [e1]))

set_option maxRecDepth 100000 in
set_option maxHeartbeats 1000000 in
theorem right_any (t : Tg.T) (w : World) :
    Calls Try.prog 11 #[tagV t] w fun e w' => e = .returned (.bool (Tg.rightB t)) ∧ Below w.heap.size w w' := by
  obtain ⟨e, s, q, f, i, c, d⟩ := t
  by_cases hr : Tg.rightB ⟨e, s, q, f, i, c, d⟩ = true
  · rw [hr]
    obtain ⟨h1, h2, h3, h4, h5, h6, h7, h8, h9, h10, h11⟩ := (Tg.right_iff _).1 hr
    clear hr
    simp only at h1 h2 h3 h4 h5 h6 h7 h8 h9 h10 h11
    go_enter Try.func11, Try.ntmps11
    go_wp2
    go_ret
    exact ⟨rfl, (Below.refl _ _).alloc (Nat.le_refl _) _⟩
  · rw [Bool.not_eq_true] at hr
    have hn := right_not _ hr
    rw [hr]
    simp only at hn
    have HN := Lib.hid hn
    clear hr hn
    by_cases hb : Tg.batchB ⟨e, s, q, f, i, c, d⟩ = true
    · obtain ⟨h1, h2, h3, h4, h5⟩ := (batch_iff _).1 hb
      simp only at h1 h2 h3 h4 h5
      clear hb
      go_enter Try.func11, Try.ntmps11
      go_wp2
      all_goals
        go_ret
        refine ⟨?_, (Below.refl _ _).alloc (Nat.le_refl _) _⟩
        first
          | rfl
          | (have hx := HN.out
             have e1 : decide (d < 3840) = false := by simp only [decide_eq_false_iff_not]; omega
             exact (show Ending.returned (.bool (decide (d < 3840))) = .returned (.bool false) by rw [e1]))
    · have hb' : ¬ (1 ≤ e ∧ 1 ≤ s ∧ s ≤ q ∧ q ≤ 281474976710655 ∧ f < q) := fun h => hb ((batch_iff _).2 h)
      replace HN := Lib.hid hb'
      clear hb hb'
      go_enter Try.func11, Try.ntmps11
      go_wp2
      all_goals
        first
          | (exfalso; have hx := HN.out; omega)
          | (go_ret
             exact ⟨rfl, (Below.refl _ _).alloc (Nat.le_refl _) _⟩)

end Go.Proofs.Ytijkgihgpchcfaa
