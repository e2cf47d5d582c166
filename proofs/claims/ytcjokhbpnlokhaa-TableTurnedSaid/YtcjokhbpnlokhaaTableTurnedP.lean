/- Proved: TableTurned returns true for all steps (no condition): a block is at the place whose block it is; All tells them, rising. -/
import Derived.Test.YtcjokhbpnlokhaaTbt
import Derived.Test.YtcjokhbpnlokhaaRowB
import Derived.Test.YtcjokhbpnlokhaaFit
namespace Go.Proofs.Ytcjokhbpnlokhaa
open Go.ChangeShapes Go.WideShapes Go.ChangeAt Go.RowKit
namespace tableTurned

theorem arg_steps {H : Type} {enc : TypeId × Value → H} {W : World} {base : Nat} {v : Value} {d : DataW H} {p : List MemPlace} (hv : Value.okWide Try.prog W .any base 22 v) (h : DataW.Trod enc Try.prog W 0 (fun _ => true) true 22 v d p) :
    ∃ a n c, v = .slice a n c ∧ ∀ i, i < n → StepIn W a i := by
  obtain ⟨a, n, c, rfl, _, _, hi⟩ := arg_rows Try.underlying22 Try.underlying27 (by kernel_rfl) (by kernel_rfl) (by decide) hv h
  refine ⟨a, n, c, rfl, fun i hin => ?_⟩
  obtain ⟨g, off, xs, m, rfl, hxl, -, hf⟩ := hi i hin
  obtain ⟨u0, y0, c0, _, t0⟩ := hf 0 _ rfl
  obtain ⟨u1, y1, c1, _, t1⟩ := hf 1 _ rfl
  obtain ⟨u2, y2, c2, _, t2⟩ := hf 2 _ rfl
  obtain ⟨b0, r0, _⟩ := DataW.trod_bool Try.underlying4 t0
  obtain ⟨n1, r1, _, _⟩ := DataW.trod_int Try.underlying3 t1
  obtain ⟨n2, r2, _, _⟩ := DataW.trod_int Try.underlying3 t2
  obtain rfl : u0 = .bool b0 := by simpa using r0
  obtain rfl : u1 = .int .i64 n1 := by simpa using r1
  obtain rfl : u2 = .int .i64 n2 := by simpa using r2
  exact ⟨g, off, b0, n1, n2, rfl, c0, c1, c2⟩

set_option maxRecDepth 100000 in
theorem lifted (os : Os) (started : os.Started) (H : Type) (enc : TypeId × Value → H) :
    ReturnsInHanded {} Try.checked os 3 .any (Rows.tableTurnedSpec.pre6 enc Try.prog Try.f3 Rows.tableTurnedRow.domain false) (Rows.tableTurnedSpec.post enc Try.prog Try.f3 false true false false) := by
  refine returnsInHanded_of_change_sized (C := Try.checked) own started (by kernel_rfl) Try.func3
    (ChangeSpec.witness6 (enc := enc) (C := Try.checked) false ⟨#[], #[.slice none 0 0], []⟩ 8 (by kernel_rfl) (by kernel_rfl) (by kernel_rfl) (by kernel_rfl)) ?_
  intro W base args ds gs before hval0 hW _ hwt _
  have hval : ∀ (j : Nat) t v, Try.f3.params[j]? = some t → args[j]? = some v → Value.okWide Try.prog W .any base t v := hval0
  have hW' := hW
  obtain ⟨p, q, hA0, hV, rfl, _, _⟩ := hW
  have hA : DataW.TrodAll enc Try.prog W 0 (fun _ => true) true Try.f3.params.toList args.toList ds p := hA0
  rw [Try.params3] at hA hval
  obtain ⟨v0, vs0, d0, ds0, p0, q0, hargs, rfl, rfl, h0, r0⟩ := trodAll_cons hA
  obtain ⟨rfl, rfl, rfl⟩ := trodAll_nil r0
  obtain rfl : args = #[v0] := by cases args; simp_all
  obtain ⟨rfl, rfl⟩ := trodVars_none hV
  obtain ⟨a0, n0, c0, rfl, hs0⟩ := arg_steps (hval 0 22 v0 rfl rfl) h0
  refine (turned_walk a0 n0 c0 W hs0).mono fun e W' ⟨he, hb⟩ => ⟨_, he, law_post laidOut Try.underlying4 ?_ rfl rfl rfl hW' hb⟩
  rw [Try.params3]
  intro t ht
  have ht' : t = 22 := by simpa using ht
  subst ht'
  exact ⟨by kernel_rfl, of_decide_eq_true (by kernel_rfl)⟩

theorem proved : Rows.TableTurnedSaid :=
  OpenClaim.holds_of_wide 3 Try.f3 rfl rfl rfl rfl rfl rfl rfl ⟨rfl, rfl, rfl, rfl, rfl⟩ rfl rfl rfl rfl rfl (by kernel_rfl) Try.func3 (by kernel_rfl)
    (of_decide_eq_true (by kernel_rfl)) (by unfold Func.isWrapper; first | (rw [if_pos (by decide +kernel)]; kernel_rfl) | (rw [if_neg (by decide +kernel)]; exact ⟨rfl, rfl⟩))
    (fun os started H enc _ => lifted os started H enc)

end tableTurned
end Go.Proofs.Ytcjokhbpnlokhaa
