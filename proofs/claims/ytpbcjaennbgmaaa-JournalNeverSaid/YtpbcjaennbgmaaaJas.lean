/- The steps of a journal's law as an argument, with what their numbers weigh. -/
import Derived.Test.YtpbcjaennbgmaaaJar
set_option maxRecDepth 100000
namespace Go.Proofs.Ytpbcjaennbgmaaa
namespace Jn
open Go.ChangeShapes Go.WideShapes Go.ChangeAt Go.RowKit

section
variable {H : Type} {enc : TypeId × Value → H} {P : Program}
theorem cell_told {k : IntKind} {W : World} {t e : TypeId} {a : Option Addr} {len cap n : Nat} {y : DataW H × List MemPlace} (ht : P.underlying t = some (.slice e)) (he : P.underlying e = some (.int k)) (hc : P.cellsOf e = 1)
    (hf : DataW.trod enc P W 0 (fun _ => true) true n t [.slice a len cap] = some y) : len ≠ 0 → ∃ el sp, y.1 = .slice el sp ∧ len ≤ el.length := by
  intro h0
  rcases open_ints ht he hc hf with ⟨hcs, hx⟩ | ⟨a', len', cap', zs, hcs, _, hl, hm, hz, hx, hcell, hwz⟩
  · obtain ⟨-, rfl, -⟩ : a = none ∧ len = 0 ∧ cap = 0 := by simpa using hcs
    exact absurd rfl h0
  · obtain ⟨rfl, rfl, rfl⟩ : a = some a' ∧ len = len' ∧ cap = cap' := by simpa using hcs
    simp only [if_true] at hz
    exact ⟨_, _, congrArg Prod.fst hx, by simp [lits]; omega⟩
end
theorem arg_small {H : Type} {enc : TypeId × Value → H} {W : World} {base : Nat} {v : Value} {d : DataW H} {p : List MemPlace} (hv : Value.okWide Try.prog W .any base 22 v) (h : DataW.Trod enc Try.prog W 0 (fun _ => true) true 22 v d p)
    (hw : ∀ n ∈ d.weights Try.prog 22, n ≤ reachBytes) :
    ∃ a n c, v = .slice a n c ∧ ∀ i, i < n → ∃ vids ids g d n, StepAt W a i vids ids g d n ∧ ids.length ≤ 17592186044416 := by
  obtain ⟨a, n, c, rfl, _, _, hi⟩ := arg_rows Try.underlying22 Try.underlying40 (by kernel_rfl) (by kernel_rfl) (by decide) hv h
  refine ⟨a, n, c, rfl, fun i hin => ?_⟩
  obtain ⟨g, off, xs, m, rfl, hxl, ⟨el, sp, hd, hmem⟩, hf⟩ := hi i hin
  obtain ⟨u0, y0, c0, x0, t0⟩ := hf 0 _ rfl
  obtain ⟨u1, y1, c1, _, t1⟩ := hf 1 _ rfl
  obtain ⟨u2, y2, c2, _, t2⟩ := hf 2 _ rfl
  obtain ⟨l, gl, al, cl, rfl, hnv, hlen⟩ := cell_nums (k := .i64) Try.underlying33 Try.underlying3 (by kernel_rfl) t0
  have ht := cell_told (k := .i64) Try.underlying33 Try.underlying3 (by kernel_rfl) t0
  have hw0 := weights_rows Try.underlying22 Try.underlying40 hd hmem hw (j := 0) rfl (y := y0.1) (by rw [List.getElem?_map, x0]; rfl)
  have hwt := weight_nums (P := Try.prog) (n := 8) (l := l) Try.underlying33 (by kernel_rfl) (fun hl => ht (fun e => hl (List.eq_nil_of_length_eq_zero e))) hw0
  obtain ⟨n1, r1, _, _⟩ := DataW.trod_int Try.underlying3 t1
  obtain ⟨n2, r2, _, _⟩ := DataW.trod_int Try.underlying3 t2
  obtain rfl : u1 = .int .i64 n1 := by simpa using r1
  obtain rfl : u2 = .int .i64 n2 := by simpa using r2
  exact ⟨_, l, gl, n1, n2, ⟨⟨g, off, rfl, c0, c1, c2⟩, hnv, hlen⟩, by omega⟩
end Jn
end Go.Proofs.Ytpbcjaennbgmaaa
