/- Proved: DeviceLast returns true for every row of writes and every row of flushes (no condition): a sector has what was written to it last, waiting or not. -/
import Derived.Test.YtmedpmhiebcdjaaLas
namespace Go.Proofs.Ytmedpmhiebcdjaa
open Go.ChangeShapes Go.WideShapes Go.ChangeAt Go.RowKit
namespace deviceLast

set_option maxRecDepth 100000 in
theorem lifted (os : Os) (started : os.Started) (H : Type) (enc : TypeId × Value → H) :
    ReturnsInHanded {} Try.checked os 5 .any (Rows.deviceLastSpec.pre6 enc Try.prog Try.f5 Rows.deviceLastRow.domain false) (Rows.deviceLastSpec.post enc Try.prog Try.f5 false true false false) := by
  refine returnsInHanded_of_change_sized (C := Try.checked) own started (by kernel_rfl) Try.func5
    (ChangeSpec.witness6 (enc := enc) (C := Try.checked) false ⟨#[], #[.slice none 0 0, .slice none 0 0], []⟩ 8 (by kernel_rfl) (by kernel_rfl) (by kernel_rfl) (by kernel_rfl)) ?_
  intro W base args ds gs before hval0 hW _ _ _
  have hval : ∀ (j : Nat) t v, Try.f5.params[j]? = some t → args[j]? = some v → Value.okWide Try.prog W .any base t v := hval0
  have hW' := hW
  obtain ⟨p, q, hA0, hV, rfl, _, _⟩ := hW
  have hA : DataW.TrodAll enc Try.prog W 0 (fun _ => true) true Try.f5.params.toList args.toList ds p := hA0
  rw [Try.params5] at hA hval
  obtain ⟨v0, vs0, d0, ds0, p0, q0, hargs, rfl, rfl, h0, r0⟩ := trodAll_cons hA
  obtain ⟨v1, vs1, d1, ds1, p1, q1, rfl, rfl, rfl, h1, r1⟩ := trodAll_cons r0
  obtain ⟨rfl, rfl, rfl⟩ := trodAll_nil r1
  obtain rfl : args = #[v0, v1] := by cases args; simp_all
  obtain ⟨rfl, rfl⟩ := trodVars_none hV
  obtain ⟨l, g1, a0, _⟩ := arg_ints Try.underlying22 Try.underlying3 (by kernel_rfl) (hval 0 22 v0 rfl rfl) h0
  obtain ⟨fl, g2, a1, _⟩ := arg_bools Try.underlying41 Try.underlying4 (by kernel_rfl) (hval 1 41 v1 rfl rfl) h1
  obtain ⟨x0, c0, rfl, b0⟩ := a0.form
  obtain ⟨x1, c1, rfl, b1⟩ := a1.form
  refine (last_walk x0 x1 _ _ c0 c1 l fl g1 g2 W rfl (by simp) b0 ?_).mono fun e W' ⟨he, hb⟩ => ⟨_, he, law_post laidOut Try.underlying4 ?_ rfl rfl rfl hW' hb⟩
  · intro hne
    obtain ⟨off, rfl, h⟩ := b1 (by simpa using hne)
    exact ⟨off, rfl, fun i hi => by have := h i (by simpa using hi); simpa using this⟩
  rw [Try.params5]
  intro t ht
  have ht' : t = 22 ∨ t = 41 := by simpa using ht
  rcases ht' with rfl | rfl
  · exact ⟨by kernel_rfl, of_decide_eq_true (by kernel_rfl)⟩
  · exact ⟨by kernel_rfl, of_decide_eq_true (by kernel_rfl)⟩

theorem proved : Rows.DeviceLastSaid :=
  OpenClaim.holds_of_wide 5 Try.f5 rfl rfl rfl rfl rfl rfl rfl ⟨rfl, rfl, rfl, rfl, rfl⟩ rfl rfl rfl rfl rfl (by kernel_rfl) Try.func5 (by kernel_rfl)
    (of_decide_eq_true (by kernel_rfl)) (by unfold Func.isWrapper; first | (rw [if_pos (by decide +kernel)]; kernel_rfl) | (rw [if_neg (by decide +kernel)]; exact ⟨rfl, rfl⟩))
    (fun os started H enc _ => lifted os started H enc)

end deviceLast
end Go.Proofs.Ytmedpmhiebcdjaa
