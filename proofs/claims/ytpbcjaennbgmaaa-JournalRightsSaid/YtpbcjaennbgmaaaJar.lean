/- The steps of a journal's laws as an argument. -/
import Derived.Test.YtpbcjaennbgmaaaJlw
import Derived.Test.YtpbcjaennbgmaaaFit
set_option maxRecDepth 100000
namespace Go.Proofs.Ytpbcjaennbgmaaa
namespace Jn
open Go.ChangeShapes Go.WideShapes Go.ChangeAt Go.RowKit

section
variable {H : Type} {enc : TypeId × Value → H} {P : Program}
/-- What a slice of numbers is that lies in a cell of what came in. -/
theorem cell_nums {k : IntKind} {W : World} {t e : TypeId} {u : Value} {n : Nat} {y : DataW H × List MemPlace} (ht : P.underlying t = some (.slice e)) (he : P.underlying e = some (.int k)) (hc : P.cellsOf e = 1)
    (hf : DataW.trod enc P W 0 (fun _ => true) true n t [u] = some y) :
    ∃ l g a cap, u = .slice a l.length cap ∧ NV k W u l g ∧ l.length ≤ maxLen := by
  rcases open_ints ht he hc hf with ⟨hcs, hx⟩ | ⟨a, len', cap', zs, hcs, _, hl, hm, hz, hx, hcell, hwz⟩
  · obtain rfl : u = .slice none 0 0 := by simpa using hcs
    exact ⟨[], 0, none, 0, rfl, ⟨⟨none, 0, rfl, Nat.le_refl _, fun _ => rfl, fun h => absurd rfl h⟩, fun h => absurd rfl h⟩, Nat.zero_le _⟩
  · obtain rfl : u = .slice (some a) len' cap' := by simpa using hcs
    simp only [if_true] at hz
    by_cases h0 : len' = 0
    · subst h0
      exact ⟨[], 0, some a, cap', rfl, ⟨⟨some a, cap', rfl, Nat.zero_le _, (fun h => by cases h), fun h => absurd rfl h⟩, fun h => absurd rfl h⟩, Nat.zero_le _⟩
    · obtain ⟨b, off, rfl, hc2⟩ := ints_at hcell (by omega)
      have hlen : (zs.take len').length = len' := by rw [List.length_take]; omega
      refine ⟨zs.take len', b, some ⟨b, off, none⟩, cap', by rw [hlen], ⟨⟨_, cap', by rw [hlen], by rw [hlen]; exact hl, (fun h => by cases h), fun _ => ⟨off, rfl, fun i hi => ?_⟩⟩, fun _ => ?_⟩, by rw [hlen]; omega⟩
      · rw [hlen] at hi
        rw [hc2 i (by omega)]
        simp [List.getD, List.getElem?_eq_getElem (show i < zs.length by omega)]
      · have := hc2 0 (by omega)
        exact World.block_lt_of_cell? W ⟨b, off + 0, none⟩ this
end
theorem arg_steps {H : Type} {enc : TypeId × Value → H} {W : World} {base : Nat} {v : Value} {d : DataW H} {p : List MemPlace} (hv : Value.okWide Try.prog W .any base 22 v) (h : DataW.Trod enc Try.prog W 0 (fun _ => true) true 22 v d p) :
    ∃ a n c, v = .slice a n c ∧ ∀ i, i < n → StepIn W a i := by
  obtain ⟨a, n, c, rfl, _, _, hi⟩ := arg_rows Try.underlying22 Try.underlying40 (by kernel_rfl) (by kernel_rfl) (by decide) hv h
  refine ⟨a, n, c, rfl, fun i hin => ?_⟩
  obtain ⟨g, off, xs, m, rfl, hxl, -, hf⟩ := hi i hin
  obtain ⟨u0, y0, c0, _, t0⟩ := hf 0 _ rfl
  obtain ⟨u1, y1, c1, _, t1⟩ := hf 1 _ rfl
  obtain ⟨u2, y2, c2, _, t2⟩ := hf 2 _ rfl
  obtain ⟨l, gl, al, cl, rfl, hnv, hlen⟩ := cell_nums (k := .i64) Try.underlying33 Try.underlying3 (by kernel_rfl) t0
  obtain ⟨n1, r1, _, _⟩ := DataW.trod_int Try.underlying3 t1
  obtain ⟨n2, r2, _, _⟩ := DataW.trod_int Try.underlying3 t2
  obtain rfl : u1 = .int .i64 n1 := by simpa using r1
  obtain rfl : u2 = .int .i64 n2 := by simpa using r2
  exact ⟨_, l, gl, n1, n2, ⟨⟨g, off, rfl, c0, c1, c2⟩, hnv, hlen⟩⟩
end Jn
end Go.Proofs.Ytpbcjaennbgmaaa
