/- A journal that nothing was written to: where a law begins. -/
import Derived.Test.YthapggobpfcmjaaGreatJfr
set_option maxRecDepth 100000
namespace Go.Proofs.YthapggobpfcmjaaGreat
namespace Jn
open Go.RowKit

theorem aL_none (N : Nat) : aL (List.replicate N (-1)) = fun _ => none := by
  funext i
  unfold aL
  rw [List.getElem?_replicate]
  by_cases h : i < N
  · rw [if_pos h]; simp
  · rw [if_neg h]
theorem right_none {P N : Nat} (hP : 1 ≤ P) (hN : 1 ≤ N ∧ N ≤ 3840) : RightF P (1 : Nat) (1 : Nat) (0 : Nat) (0 : Nat) (0 : Nat) (List.replicate N (-1)) := by
  refine ⟨by omega, by omega, by simpa using hN, ⟨fun p hp => .inl (List.eq_of_mem_replicate hp), ?_⟩⟩
  have : keysA (List.replicate N (-1)) = [] := by
    unfold keysA
    rw [List.filter_eq_nil_iff.2 (fun a ha => by rw [List.eq_of_mem_replicate ha]; simp)]
    rfl
  rw [this]
  exact List.nodup_nil
theorem jl_start {w : World} {A : Ad} {F : Nat → Prop} {n P N : Nat} {o : Nat → Option Nat} (hj : JAt w A (s0 P 1 1 0 0 0 N (fun _ => none) o)) (hD : DevF w F A.b (DSt.new n)) (hoff : ∀ k, A.own k → ¬ F k) (hn : P + 1 ≤ n) (hr : 5 * N + 240 ≤ 2 * P) (hN : N ≤ 3840) :
    Jl w A F (s0 P 1 1 0 0 0 N (fun _ => none) o) ⟨0, 0, 0, fun _ => none⟩ (DSt.new n) (fun _ => zerosL 480) := by
  refine ⟨hj, hD, hoff, rfl, DSt.new_up n, ?_, ⟨fun id => rfl, ?_, rfl, rfl, Jou.fresh N, fun _ _ h => by simp at h⟩, hr, ?_, fun _ _ => rfl, hN, Nat.le_refl _, Nat.le_refl _, Nat.le_refl _, ?_⟩
  · simpa [DSt.new, s0] using hn
  · show 0 = 0 % P
    simp
  · intro id p h
    simp [s0] at h
  · simp [DSt.new]
end Jn
end Go.Proofs.YthapggobpfcmjaaGreat
