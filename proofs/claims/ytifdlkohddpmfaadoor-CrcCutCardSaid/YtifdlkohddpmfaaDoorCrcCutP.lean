/- Proved: CrcCut returns true for all bytes ahead and behind and every two rows of three bytes (no condition but the card's own): three bytes within have another sum just if they are others. -/
import Derived.Test.YtifdlkohddpmfaaDoorCut
import Derived.Test.YtifdlkohddpmfaaDoorRowB
import Derived.Test.YtifdlkohddpmfaaDoorLay
import Derived.Test.YtifdlkohddpmfaaDoorCards
import Derived.Test.YtifdlkohddpmfaaDoorTie
import Derived.LaidMore
import Derived.Lay
import Derived.MakeChecks
import Derived.SevenTiedAt
import Derived.Stop.Joined
namespace Go.Proofs.YtifdlkohddpmfaaDoor
open Go.ChangeShapes Go.WideShapes Go.ChangeAt Go.RowKit
namespace crcCut

set_option maxRecDepth 100000 in
theorem lifted (os : Os) (started : os.Started) (H : Type) (enc : TypeId × Value → H) :
    ReturnsInHanded {} Tryd.checked os 9 .any (fun w args => (Rows.crcCutSpec.pre enc Tryd.prog Tryd.f9 Rows.crcCutRow.domain false w args ∧ laidMetH Tryd.prog Rows.crcCutRow.laid w) ∧ sizedMet enc Tryd.prog Tryd.f9 (OpenSpec.ofChange Rows.crcCutSpec) false w args)
      (Rows.crcCutSpec.post enc Tryd.prog Tryd.f9 false true false false) := by
  refine returnsInHanded_of_change_and (C := Tryd.checked) (X := fun w _ => laidMetH Tryd.prog Rows.crcCutRow.laid w) (fun _ _ _ hh h => h.of_heap hh) own started (by kernel_rfl) Tryd.func9
    (ChangeSpec.witness_shaped (enc := enc) (C := Tryd.checked) (os := os) (X := fun w _ => laidMetH Tryd.prog Rows.crcCutRow.laid w) false (World.laidAll Tryd.prog os Rows.crcCutRow.laid) #[.slice none 0 0, .int .u32 0, .int .u32 0, .slice none 0 0] 8 (World.laidAll_os _ _ _)
      (World.shaped_of_ZipB (by kernel_rfl) (by kernel_rfl)) (by kernel_rfl) (by kernel_rfl) (by kernel_rfl)
      (by rw [MakeChecks.laidMetH_plain _ _ _ (by kernel_rfl)]; exact laidMet_laidAll _ (by kernel_rfl) (by kernel_rfl))) ?_
  intro W base args ds gs before hval0 hW _ hwt hL _
  have hval : ∀ (j : Nat) t v, Tryd.f9.params[j]? = some t → args[j]? = some v → Value.okWide Tryd.prog W .any base t v := hval0
  have hW' := hW
  obtain ⟨p, q, hA0, hV, rfl, _, _⟩ := hW
  have hA : DataW.TrodAll enc Tryd.prog W 0 (fun _ => true) true Tryd.f9.params.toList args.toList ds p := hA0
  rw [Tryd.params9] at hA hval
  obtain ⟨v0, vs0, d0, ds0, p0, q0, hargs, rfl, rfl, h0, r0⟩ := trodAll_cons hA
  obtain ⟨v1, vs1, d1, ds1, p1, q1, rfl, rfl, rfl, h1, r1⟩ := trodAll_cons r0
  obtain ⟨v2, vs2, d2, ds2, p2, q2, rfl, rfl, rfl, h2, r2⟩ := trodAll_cons r1
  obtain ⟨v3, vs3, d3, ds3, p3, q3, rfl, rfl, rfl, h3, r3⟩ := trodAll_cons r2
  obtain ⟨rfl, rfl, rfl⟩ := trodAll_nil r3
  obtain rfl : args = #[v0, v1, v2, v3] := by cases args; simp_all
  obtain ⟨rfl, rfl⟩ := trodVars_none hV
  obtain ⟨l0, g0, rd0, lt0, el0, a0, c0, rfl, cap0, nil0⟩ := arg_bytes Tryd.underlying22 Tryd.underlying5 (by kernel_rfl) (hval 0 22 v0 rfl rfl) h0
  have wt0 := weight_bytes (P := Tryd.prog) Tryd.underlying22 (by kernel_rfl) el0 (weights_mem (i := 0) hwt rfl rfl)
  obtain ⟨x1, rfl, rfl, rfl, xw1⟩ := open_int Tryd.underlying24 (hval 1 24 v1 rfl rfl) h1
  obtain ⟨x2, rfl, rfl, rfl, xw2⟩ := open_int Tryd.underlying24 (hval 2 24 v2 rfl rfl) h2
  obtain ⟨l3, g3, rd3, lt3, el3, a3, c3, rfl, cap3, nil3⟩ := arg_bytes Tryd.underlying22 Tryd.underlying5 (by kernel_rfl) (hval 3 22 v3 rfl rfl) h3
  have wt3 := weight_bytes (P := Tryd.prog) Tryd.underlying22 (by kernel_rfl) el3 (weights_mem (i := 3) hwt rfl rfl)
  obtain ⟨X1, rfl⟩ := of_u32 xw1
  obtain ⟨X2, rfl⟩ := of_u32 xw2
  refine (cut_walk a0 a3 l0 l3 c0 c3 g0 g3 X1 X2 W (half_of_laid hL) rd0 lt0 cap0 wt0 rd3 lt3 cap3 wt3).mono fun e W' ⟨he, hb⟩ => ⟨_, he, law_post laidOut Tryd.underlying4 ?_ rfl rfl rfl hW' hb⟩
  rw [Tryd.params9]
  intro t ht
  have ht' : t = 22 ∨ t = 24 := by
    replace ht : t ∈ [22, 24, 24, 22] := ht
    simp only [List.mem_cons, List.not_mem_nil, or_false] at ht
    rcases ht with rfl | rfl | rfl | rfl <;> simp
  rcases ht' with rfl | rfl
  · exact ⟨by kernel_rfl, of_decide_eq_true (by kernel_rfl)⟩
  · exact ⟨by kernel_rfl, of_decide_eq_true (by kernel_rfl)⟩

theorem holds : Rows.CrcCutSaid :=
  OpenClaim.holds_of_wide 9 Tryd.f9 rfl rfl rfl rfl rfl rfl rfl ⟨rfl, rfl, rfl, rfl, rfl⟩ rfl rfl rfl rfl rfl (by kernel_rfl) Tryd.func9 (by kernel_rfl)
    (of_decide_eq_true (by kernel_rfl)) (by unfold Func.isWrapper; first | (rw [if_pos (by decide +kernel)]; kernel_rfl) | (rw [if_neg (by decide +kernel)]; exact ⟨rfl, rfl⟩))
    (fun os started H enc _ => lifted os started H enc)

theorem proved : Rows.CrcCutCardSaid :=
  Claim7.holds_tied_plain_at .later [] Rows.crcCutCard.laidKinds true Rows.crcCutCard.stood.harness false holds (fun _ h => by cases h) (by kernel_rfl) (fun _ h => by cases h) crcCut_row_tie rfl ⟨rfl, rfl⟩ (by kernel_rfl) rfl
    (fun f fn hf hfn => by
      obtain rfl : f = 9 := Option.some.inj ((show Tryd.prog.funcNamed "harrow/harrowlaw02.CrcCut" = some 9 by kernel_rfl).symm.trans hf) |>.symm
      obtain rfl : fn = Tryd.f9 := (Option.some.inj (Tryd.func9.symm.trans hfn)).symm
      exact ⟨by kernel_rfl, fun j t ht => by
        rw [Tryd.params9] at ht
        have hm : t ∈ [22, 24] := by
          have h' : t ∈ [22, 24, 24, 22] := by simpa using Array.mem_of_getElem? ht
          simp only [List.mem_cons, List.not_mem_nil, or_false] at h'
          rcases h' with rfl | rfl | rfl | rfl <;> simp
        have hall : ([22, 24].all fun u => !Tryd.prog.wantsStandIn u) = true := by kernel_rfl
        exact (show Tryd.prog.wantsStandIn t = false by simpa using List.all_eq_true.1 hall t hm)⟩)
    (by kernel_rfl)

end crcCut
end Go.Proofs.YtifdlkohddpmfaaDoor
