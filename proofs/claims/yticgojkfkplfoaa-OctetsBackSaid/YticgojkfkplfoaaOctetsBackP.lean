/- Proved: OctetsBack returns true for all numbers and all sizes (no condition): what was put is read. -/
import Derived.Test.YticgojkfkplfoaaBck
import Derived.Test.YticgojkfkplfoaaRowB
namespace Go.Proofs.Yticgojkfkplfoaa
open Go.ChangeShapes Go.WideShapes Go.ChangeAt Go.RowKit
namespace octetsBack

set_option maxRecDepth 100000 in
theorem lifted (os : Os) (started : os.Started) (H : Type) (enc : TypeId × Value → H) :
    ReturnsInHanded {} Try.checked os 4 .any (Rows.octetsBackSpec.pre6 enc Try.prog Try.f4 Rows.octetsBackRow.domain false) (Rows.octetsBackSpec.post enc Try.prog Try.f4 false true false false) := by
  refine returnsInHanded_of_change_sized (C := Try.checked) own started (by kernel_rfl) Try.func4
    (ChangeSpec.witness6 (enc := enc) (C := Try.checked) false ⟨#[], #[.slice none 0 0, .slice none 0 0], []⟩ 8 (by kernel_rfl) (by kernel_rfl) (by kernel_rfl) (by kernel_rfl)) ?_
  intro W base args ds gs before hval0 hW _ hwt _
  have hval : ∀ (j : Nat) t v, Try.f4.params[j]? = some t → args[j]? = some v → Value.okWide Try.prog W .any base t v := hval0
  have hW' := hW
  obtain ⟨p, q, hA0, hV, rfl, _, _⟩ := hW
  have hA : DataW.TrodAll enc Try.prog W 0 (fun _ => true) true Try.f4.params.toList args.toList ds p := hA0
  rw [Try.params4] at hA hval
  obtain ⟨v0, vs0, d0, ds0, p0, q0, hargs, rfl, rfl, h0, r0⟩ := trodAll_cons hA
  obtain ⟨v1, vs1, d1, ds1, p1, q1, rfl, rfl, rfl, h1, r1⟩ := trodAll_cons r0
  obtain ⟨rfl, rfl, rfl⟩ := trodAll_nil r1
  obtain rfl : args = #[v0, v1] := by cases args; simp_all
  obtain ⟨rfl, rfl⟩ := trodVars_none hV
  obtain ⟨l0, g0, a0, c0, rfl, nv0, wf0, el0⟩ := arg_nums Try.underlying28 Try.underlying23 (by kernel_rfl) (hval 0 28 v0 rfl rfl) h0
  have wt0 := weight_nums (P := Try.prog) (n := 8) Try.underlying28 (by kernel_rfl) el0 (weights_mem (i := 0) hwt rfl rfl)
  obtain ⟨l1, g1, rd1, lt1, el1, a1, c1, rfl, cap1, nil1⟩ := arg_bytes Try.underlying22 Try.underlying5 (by kernel_rfl) (hval 1 22 v1 rfl rfl) h1
  have bv1 : BV W (.slice a1 l1.length c1) l1 g1 := ⟨rd1, ⟨_, _, rfl, cap1, nil1⟩, lt1⟩
  have wt1 := weight_bytes (P := Try.prog) Try.underlying22 (by kernel_rfl) el1 (weights_mem (i := 1) hwt rfl rfl)
  refine (back_walk a0 l0 c0 g0 a1 l1 c1 g1 W nv0 bv1 wt0 wt1 wf0).mono fun e W' ⟨he, hb⟩ => ⟨_, he, law_post laidOut Try.underlying4 ?_ rfl rfl rfl hW' hb⟩
  rw [Try.params4]
  intro t ht
  have ht' : t = 28 ∨ t = 22 := by
    replace ht : t ∈ [28, 22] := ht
    simp only [List.mem_cons, List.not_mem_nil, or_false] at ht
    rcases ht with rfl | rfl <;> simp
  rcases ht' with rfl | rfl
  · exact ⟨by kernel_rfl, of_decide_eq_true (by kernel_rfl)⟩
  · exact ⟨by kernel_rfl, of_decide_eq_true (by kernel_rfl)⟩

theorem proved : Rows.OctetsBackSaid :=
  OpenClaim.holds_of_wide 4 Try.f4 rfl rfl rfl rfl rfl rfl rfl ⟨rfl, rfl, rfl, rfl, rfl⟩ rfl rfl rfl rfl rfl (by kernel_rfl) Try.func4 (by kernel_rfl)
    (of_decide_eq_true (by kernel_rfl)) (by unfold Func.isWrapper; first | (rw [if_pos (by decide +kernel)]; kernel_rfl) | (rw [if_neg (by decide +kernel)]; exact ⟨rfl, rfl⟩))
    (fun os started H enc _ => lifted os started H enc)

end octetsBack
end Go.Proofs.Yticgojkfkplfoaa
