/- The table, as the rows lay it, is what the walk wants. -/
import Derived.Test.YtifdlkohddpmfaaDoorMor
import Derived.ProofKit
import Derived.OpenShut
import Derived.LaidMore
import Derived.MakeChecks
namespace Go.Proofs.YtifdlkohddpmfaaDoor
open Go.ChangeShapes Go.WideShapes Go.ChangeAt Go.RowKit

theorem half_is : half = [0, 498536548, 997073096, 651767980, 1994146192, 1802195444, 1303535960, 1342533948, 3988292384, 4027552580, 3604390888, 3412177804, 2607071920, 2262029012, 2685067896, 3183342108] := by decide +kernel
theorem laid_is {H : Type} : (Rows.laid_harrow_crc_half : DataW H) = .agg (half.map fun n => .lit (.int .u32 n)) := by
  rw [half_is]; rfl
theorem gHalf : Tryd.prog.globalNamed "harrow/crc.half" = some 0 := by kernel_rfl
theorem tHalf : (Tryd.prog.globals[0]?).map (·.type) = some 36 := by kernel_rfl

theorem half_of_laid {W : World} (h : laidMetH Tryd.prog [("harrow/crc.half", Rows.laid_harrow_crc_half)] W) : Half W := by
  rw [MakeChecks.laidMetH_plain _ _ _ (by kernel_rfl)] at h
  obtain ⟨ps, ⟨g0, t0, cs0, f0, p0, q0, hg0, ht0, hv0, hd0, _, _⟩, _, _⟩ := h
  obtain rfl := Option.some.inj (gHalf.symm.trans hg0)
  obtain rfl := Option.some.inj (tHalf.symm.trans ht0)
  rw [laid_is] at hd0
  obtain ⟨xs, m1, rfl, hx1, hlen, hn, hel⟩ := DataW.trod_array Tryd.underlying36 hd0
  have c1 : Tryd.prog.cellsOf 24 = 1 := by kernel_rfl
  simp only [c1, Nat.mul_one] at hel
  have hx : xs.map (·.1) = half.map fun n => .lit (.int .u32 n) := by
    have := congrArg Prod.fst hx1
    simpa using this.symm
  intro i hi
  rw [World.var?_cell hg0 hv0 i]
  have h0 := hel i hi
  obtain ⟨x, hxi⟩ : ∃ x, xs[i]? = some x := ⟨_, List.getElem?_eq_getElem (by omega)⟩
  rw [hxi] at h0
  obtain ⟨k, e1, e2, _⟩ := DataW.trod_int Tryd.underlying24 h0
  have hh := congrArg (fun l => l[i]?) hx
  simp only [List.getElem?_map, hxi, Option.map_some] at hh
  have hi2 : half[i]? = some k := by
    cases hk : half[i]? with
    | none => rw [hk] at hh; cases hh
    | some n => rw [hk, e2] at hh; simpa using hh.symm
  rw [hi2]
  have e3 := congrArg (fun l => l[0]?) e1
  simp only [List.getElem?_take, List.getElem?_drop] at e3
  simpa using e3

end Go.Proofs.YtifdlkohddpmfaaDoor
