/- Proved: DeviceAgain returns true for every number of sectors and all steps (no condition but the card's own): the same steps do the same. -/
import Derived.Test.YtmedpmhiebcdjaaDoorAgw
import Derived.Test.YtmedpmhiebcdjaaDoorFie
import Derived.Test.YtmedpmhiebcdjaaDoorCards
import Derived.Test.YtmedpmhiebcdjaaDoorTie
import Derived.LaidMore
import Derived.Lay
import Derived.MakeChecks
import Derived.SevenTiedAt
import Derived.Stop.Joined
namespace Go.Proofs.YtmedpmhiebcdjaaDoor
open Go.ChangeShapes Go.WideShapes Go.ChangeAt Go.RowKit
namespace deviceAgain

theorem arg_steps {H : Type} {enc : TypeId × Value → H} {W : World} {base : Nat} {v : Value} {d : DataW H} {p : List MemPlace} (hv : Value.okWide Tryd.prog W .any base 22 v) (h : DataW.Trod enc Tryd.prog W 0 (fun _ => true) true 22 v d p)
    (hw : ∀ n ∈ d.weights Tryd.prog 22, n ≤ reachBytes) : ∃ a n c, v = .slice a n c ∧ ∀ i, i < n → StepIn W a i := by
  obtain ⟨a, n, c, rfl, _, _, hi⟩ := arg_rows Tryd.underlying22 Tryd.underlying31 (by kernel_rfl) (by kernel_rfl) (by decide) hv h
  refine ⟨a, n, c, rfl, fun i hin => ?_⟩
  obtain ⟨g, off, xs, m, rfl, hxl, ⟨el, sp, hd, hel⟩, hf⟩ := hi i hin
  obtain ⟨u0, y0, c0, _, t0⟩ := hf 0 _ rfl
  obtain ⟨u1, y1, c1, _, t1⟩ := hf 1 _ rfl
  obtain ⟨u2, y2, c2, _, t2⟩ := hf 2 _ rfl
  obtain ⟨u3, y3, c3, _, t3⟩ := hf 3 _ rfl
  obtain ⟨u4, y4, c4, _, t4⟩ := hf 4 _ rfl
  obtain ⟨u5, y5, c5, e5, t5⟩ := hf 5 _ rfl
  obtain ⟨n0, r0, _, _⟩ := DataW.trod_int Tryd.underlying3 t0
  obtain ⟨n1, r1, _, w1⟩ := DataW.trod_int Tryd.underlying3 t1
  obtain ⟨n2, r2, _, _⟩ := DataW.trod_int Tryd.underlying3 t2
  obtain ⟨n3, r3, _, _⟩ := DataW.trod_int Tryd.underlying3 t3
  obtain ⟨b4, r4, _⟩ := DataW.trod_bool Tryd.underlying4 t4
  obtain rfl : u0 = .int .i64 n0 := by simpa using r0
  obtain rfl : u1 = .int .i64 n1 := by simpa using r1
  obtain rfl : u2 = .int .i64 n2 := by simpa using r2
  obtain rfl : u3 = .int .i64 n3 := by simpa using r3
  obtain rfl : u4 = .bool b4 := by simpa using r4
  obtain ⟨l, gk, hr, hg, _, hl⟩ := arg_ints_cell Tryd.underlying29 Tryd.underlying3 (by kernel_rfl) t5
  have hwk := weights_rows Tryd.underlying22 Tryd.underlying31 hd hel hw (j := 5) rfl (y := y5.1) (by rw [List.getElem?_map, e5]; rfl)
  have hlen := weight_ints (P := Tryd.prog) Tryd.underlying29 (by kernel_rfl) hl hwk
  have hn1 := (bounds_i64 w1).2
  exact ⟨g, off, n0, n1, n2, n3, b4, u5, l, gk, rfl, ⟨c0, c1, c2, c3, c4, c5⟩, hr, hg, hlen, hn1⟩

set_option maxRecDepth 100000 in
theorem lifted (os : Os) (started : os.Started) (H : Type) (enc : TypeId × Value → H) :
    ReturnsInHanded {} Tryd.checked os 3 .any (fun w args => (Rows.deviceAgainSpec.pre enc Tryd.prog Tryd.f3 Rows.deviceAgainRow.domain false w args ∧ laidMetH Tryd.prog Rows.deviceAgainRow.laid w) ∧ sizedMet enc Tryd.prog Tryd.f3 (OpenSpec.ofChange Rows.deviceAgainSpec) false w args)
      (Rows.deviceAgainSpec.post enc Tryd.prog Tryd.f3 false true false false) := by
  refine returnsInHanded_of_change_and (C := Tryd.checked) (X := fun w _ => laidMetH Tryd.prog Rows.deviceAgainRow.laid w) (fun _ _ _ hh h => h.of_heap hh) own started (by kernel_rfl) Tryd.func3
    (ChangeSpec.witness_shaped (enc := enc) (C := Tryd.checked) (os := os) (X := fun w _ => laidMetH Tryd.prog Rows.deviceAgainRow.laid w) false (World.laidAll Tryd.prog os Rows.deviceAgainRow.laid) #[.int .i64 0, .slice none 0 0] 8 (World.laidAll_os _ _ _)
      (World.shaped_of_ZipB (by kernel_rfl) (by kernel_rfl)) (by kernel_rfl) (by kernel_rfl) (by kernel_rfl)
      (by rw [MakeChecks.laidMetH_plain _ _ _ (by kernel_rfl)]; exact laidMet_laidAll _ (by kernel_rfl) (by kernel_rfl))) ?_
  intro W base args ds gs before hval0 hW _ hwt _ _
  have hval : ∀ (j : Nat) t v, Tryd.f3.params[j]? = some t → args[j]? = some v → Value.okWide Tryd.prog W .any base t v := hval0
  have hW' := hW
  obtain ⟨p, q, hA0, hV, rfl, _, _⟩ := hW
  have hA : DataW.TrodAll enc Tryd.prog W 0 (fun _ => true) true Tryd.f3.params.toList args.toList ds p := hA0
  rw [Tryd.params3] at hA hval
  obtain ⟨v0, vs0, d0, ds0, p0, q0, hargs, rfl, rfl, h0, r0⟩ := trodAll_cons hA
  obtain ⟨v1, vs1, d1, ds1, p1, q1, rfl, rfl, rfl, h1, r1⟩ := trodAll_cons r0
  obtain ⟨rfl, rfl, rfl⟩ := trodAll_nil r1
  obtain rfl : args = #[v0, v1] := by cases args; simp_all
  obtain ⟨rfl, rfl⟩ := trodVars_none hV
  obtain ⟨n0, rfl, rfl, rfl, _⟩ := open_int Tryd.underlying3 (hval 0 3 v0 rfl rfl) h0
  obtain ⟨a, n, c, rfl, hs⟩ := arg_steps (hval 1 22 v1 rfl rfl) h1 (weights_mem (i := 1) hwt rfl rfl)
  refine (again_walk n0 a n c W hs).mono fun e W' ⟨he, hb⟩ => ⟨_, he, law_post laidOut Tryd.underlying4 ?_ rfl rfl rfl hW' hb⟩
  rw [Tryd.params3]
  intro t ht
  have ht' : t = 3 ∨ t = 22 := by simpa using ht
  rcases ht' with rfl | rfl
  · exact ⟨by kernel_rfl, of_decide_eq_true (by kernel_rfl)⟩
  · exact ⟨by kernel_rfl, of_decide_eq_true (by kernel_rfl)⟩

theorem holds : Rows.DeviceAgainSaid :=
  OpenClaim.holds_of_wide 3 Tryd.f3 rfl rfl rfl rfl rfl rfl rfl ⟨rfl, rfl, rfl, rfl, rfl⟩ rfl rfl rfl rfl rfl (by kernel_rfl) Tryd.func3 (by kernel_rfl)
    (of_decide_eq_true (by kernel_rfl)) (by unfold Func.isWrapper; first | (rw [if_pos (by decide +kernel)]; kernel_rfl) | (rw [if_neg (by decide +kernel)]; exact ⟨rfl, rfl⟩))
    (fun os started H enc _ => lifted os started H enc)

theorem proved : Rows.DeviceAgainCardSaid :=
  Claim7.holds_tied_plain_at .later [] Rows.deviceAgainCard.laidKinds true Rows.deviceAgainCard.stood.harness false holds (fun _ h => by cases h) (by kernel_rfl) (fun _ h => by cases h) deviceAgain_row_tie rfl ⟨rfl, rfl⟩ (by kernel_rfl) rfl
    (fun f fn hf hfn => by
      obtain rfl : f = 3 := Option.some.inj ((show Tryd.prog.funcNamed "harrow/harrowlaw01.DeviceAgain" = some 3 by kernel_rfl).symm.trans hf) |>.symm
      obtain rfl : fn = Tryd.f3 := (Option.some.inj (Tryd.func3.symm.trans hfn)).symm
      exact ⟨by kernel_rfl, fun j t ht => by
        rw [Tryd.params3] at ht
        have hm : t ∈ [3, 22] := by simpa using Array.mem_of_getElem? ht
        have hall : ([3, 22].all fun u => !Tryd.prog.wantsStandIn u) = true := by kernel_rfl
        exact (show Tryd.prog.wantsStandIn t = false by simpa using List.all_eq_true.1 hall t hm)⟩)
    (by kernel_rfl)

end deviceAgain
end Go.Proofs.YtmedpmhiebcdjaaDoor
