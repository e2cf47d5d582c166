/- Proved: OctetsGrows returns true for all bytes, all numbers and every size (no condition): what was there stays ahead of what is put. -/
import Derived.Test.YticgojkfkplfoaaGro
import Derived.Test.YticgojkfkplfoaaRowB
namespace Go.Proofs.Yticgojkfkplfoaa
open Go.ChangeShapes Go.WideShapes Go.ChangeAt Go.RowKit
namespace octetsGrows

set_option maxRecDepth 100000 in
theorem lifted (os : Os) (started : os.Started) (H : Type) (enc : TypeId × Value → H) :
    ReturnsInHanded {} Try.checked os 8 .any (Rows.octetsGrowsSpec.pre6 enc Try.prog Try.f8 Rows.octetsGrowsRow.domain false) (Rows.octetsGrowsSpec.post enc Try.prog Try.f8 false true false false) := by
  refine returnsInHanded_of_change_sized (C := Try.checked) own started (by kernel_rfl) Try.func8
    (ChangeSpec.witness6 (enc := enc) (C := Try.checked) false ⟨#[], #[.slice none 0 0, .slice none 0 0, .int .i64 0], []⟩ 8 (by kernel_rfl) (by kernel_rfl) (by kernel_rfl) (by kernel_rfl)) ?_
  intro W base args ds gs before hval0 hW _ hwt _
  have hval : ∀ (j : Nat) t v, Try.f8.params[j]? = some t → args[j]? = some v → Value.okWide Try.prog W .any base t v := hval0
  have hW' := hW
  obtain ⟨p, q, hA0, hV, rfl, _, _⟩ := hW
  have hA : DataW.TrodAll enc Try.prog W 0 (fun _ => true) true Try.f8.params.toList args.toList ds p := hA0
  rw [Try.params8] at hA hval
  obtain ⟨v0, vs0, d0, ds0, p0, q0, hargs, rfl, rfl, h0, r0⟩ := trodAll_cons hA
  obtain ⟨v1, vs1, d1, ds1, p1, q1, rfl, rfl, rfl, h1, r1⟩ := trodAll_cons r0
  obtain ⟨v2, vs2, d2, ds2, p2, q2, rfl, rfl, rfl, h2, r2⟩ := trodAll_cons r1
  obtain ⟨rfl, rfl, rfl⟩ := trodAll_nil r2
  obtain rfl : args = #[v0, v1, v2] := by cases args; simp_all
  obtain ⟨rfl, rfl⟩ := trodVars_none hV
  obtain ⟨l0, g0, rd0, lt0, el0, a0, c0, rfl, cap0, nil0⟩ := arg_bytes Try.underlying22 Try.underlying5 (by kernel_rfl) (hval 0 22 v0 rfl rfl) h0
  have bv0 : BV W (.slice a0 l0.length c0) l0 g0 := ⟨rd0, ⟨_, _, rfl, cap0, nil0⟩, lt0⟩
  obtain ⟨l1, g1, a1, c1, rfl, nv1, wf1, el1⟩ := arg_nums Try.underlying28 Try.underlying23 (by kernel_rfl) (hval 1 28 v1 rfl rfl) h1
  have wt1 := weight_nums (P := Try.prog) (n := 8) Try.underlying28 (by kernel_rfl) el1 (weights_mem (i := 1) hwt rfl rfl)
  obtain ⟨x2, rfl, rfl, rfl, xw2⟩ := open_int Try.underlying3 (hval 2 3 v2 rfl rfl) h2
  refine (grows_walk a0 l0 c0 g0 a1 l1 c1 g1 x2 W bv0 nv1 wt1 wf1).mono fun e W' ⟨he, hb⟩ => ⟨_, he, law_post laidOut Try.underlying4 ?_ rfl rfl rfl hW' hb⟩
  rw [Try.params8]
  intro t ht
  have ht' : t = 22 ∨ t = 28 ∨ t = 3 := by
    replace ht : t ∈ [22, 28, 3] := ht
    simp only [List.mem_cons, List.not_mem_nil, or_false] at ht
    rcases ht with rfl | rfl | rfl <;> simp
  rcases ht' with rfl | rfl | rfl
  · exact ⟨by kernel_rfl, of_decide_eq_true (by kernel_rfl)⟩
  · exact ⟨by kernel_rfl, of_decide_eq_true (by kernel_rfl)⟩
  · exact ⟨by kernel_rfl, of_decide_eq_true (by kernel_rfl)⟩

theorem proved : Rows.OctetsGrowsSaid :=
  OpenClaim.holds_of_wide 8 Try.f8 rfl rfl rfl rfl rfl rfl rfl ⟨rfl, rfl, rfl, rfl, rfl⟩ rfl rfl rfl rfl rfl (by kernel_rfl) Try.func8 (by kernel_rfl)
    (of_decide_eq_true (by kernel_rfl)) (by unfold Func.isWrapper; first | (rw [if_pos (by decide +kernel)]; kernel_rfl) | (rw [if_neg (by decide +kernel)]; exact ⟨rfl, rfl⟩))
    (fun os started H enc _ => lifted os started H enc)

end octetsGrows
end Go.Proofs.Yticgojkfkplfoaa
