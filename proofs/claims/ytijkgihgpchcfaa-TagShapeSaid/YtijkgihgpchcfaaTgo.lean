/- An argument that is a tag. No condition. -/
import Derived.Test.YtijkgihgpchcfaaRowB
import Derived.Test.YtijkgihgpchcfaaTgb
namespace Go.Proofs.Ytijkgihgpchcfaa
open Go.ChangeShapes Go.WideShapes Go.RowKit

section
variable {H : Type} {enc : TypeId × Value → H} {P : Program} {W : World}
/-- One field of a struct whose cells are numbers. -/
theorem field_int {n : Nat} {t : TypeId} {k : IntKind} {cs : List Value} {off sz : Nat} {x : Option (DataW H × List MemPlace)} (j : Nat) (u : Value) (hu : (cs.drop off).take sz = [u]) (ht : P.underlying t = some (.int k)) (h : DataW.trod enc P W 0 (fun _ => true) true n t ((cs.drop off).take sz) = x) (hx : x.isSome = true) : ∃ z, u = .int k z ∧ (Lit.int k z).wf = true := by
  cases x with
  | none => cases hx
  | some y =>
    rw [hu] at h
    obtain ⟨z, h1, _, h3⟩ := DataW.trod_int ht h
    exact ⟨z, by simpa using h1, h3⟩
end
theorem of_u32 {z : Int} (h : (Lit.int .u32 z).wf = true) : ∃ n : Nat, n < 4294967296 ∧ z = (n : Int) := by
  have h' : 0 ≤ z ∧ z ≤ 4294967295 := by simpa [Lit.wf, IntKind.min, IntKind.max, IntKind.signed, IntKind.bits] using h
  exact ⟨z.toNat, by omega, by omega⟩
theorem of_u64 {z : Int} (h : (Lit.int .u64 z).wf = true) : ∃ n : Nat, n < 18446744073709551616 ∧ z = (n : Int) := by
  have h' : 0 ≤ z ∧ z ≤ 18446744073709551615 := by simpa [Lit.wf, IntKind.min, IntKind.max, IntKind.signed, IntKind.bits] using h
  exact ⟨z.toNat, by omega, by omega⟩
theorem of_u8 {z : Int} (h : (Lit.int .u8 z).wf = true) : ∃ c : UInt8, z = (c.toNat : Int) := by
  have h' : 0 ≤ z ∧ z ≤ 255 := by simpa [Lit.wf, IntKind.min, IntKind.max, IntKind.signed, IntKind.bits] using h
  exact ⟨UInt8.ofNat z.toNat, by rw [UInt8.toNat_ofNat']; omega⟩
theorem of_i64 {z : Int} (h : (Lit.int .i64 z).wf = true) : -9223372036854775808 ≤ z ∧ z ≤ 9223372036854775807 := by
  simpa [Lit.wf, IntKind.min, IntKind.max, IntKind.signed, IntKind.bits] using h

/-- A tag as Go has them. -/
structure TagFits (t : Tg.T) : Prop where
  e : t.e < 4294967296
  s : t.s < 18446744073709551616
  q : t.q < 18446744073709551616
  f : t.f < 18446744073709551616
  i : -9223372036854775808 ≤ t.i ∧ t.i ≤ 9223372036854775807
  c : -9223372036854775808 ≤ t.c ∧ t.c ≤ 9223372036854775807
  d : -9223372036854775808 ≤ t.d ∧ t.d ≤ 9223372036854775807

theorem open_tag {H : Type} {enc : TypeId × Value → H} {W : World} {base : Nat} {v : Value} {d : DataW H} {p : List MemPlace} (hv : Value.okWide Try.prog W .any base 25 v) (h : DataW.Trod enc Try.prog W 0 (fun _ => true) true 25 v d p) : ∃ t, v = tagV t ∧ TagFits t := by
  obtain ⟨cs, rfl, hsz⟩ := okWide_struct Try.underlying25 hv
  obtain ⟨fuel, hf⟩ := h
  obtain ⟨xs, n, rfl, hx, hlen, hxl, hg⟩ := DataW.trod_struct Try.underlying25 hf
  have hsz7 : cs.size = 7 := hsz.trans (by kernel_rfl)
  have hxl7 : xs.length = 7 := hxl.trans (by kernel_rfl)
  obtain ⟨l⟩ := cs
  match l, hsz7 with
  | [c0, c1, c2, c3, c4, c5, c6], _ =>
    have g0 := hg 0 _ rfl
    obtain ⟨z0, rfl, w0⟩ := field_int 0 c0 (by show List.take (Try.prog.cellsOf 22) _ = _; rw [show Try.prog.cellsOf 22 = 1 by kernel_rfl]; rfl) Try.underlying22 g0 (by rw [List.getElem?_eq_getElem (by omega)]; rfl)
    have g1 := hg 1 _ rfl
    obtain ⟨z1, rfl, w1⟩ := field_int 1 c1 (by show List.take (Try.prog.cellsOf 23) _ = _; rw [show Try.prog.cellsOf 23 = 1 by kernel_rfl]; rfl) Try.underlying23 g1 (by rw [List.getElem?_eq_getElem (by omega)]; rfl)
    have g2 := hg 2 _ rfl
    obtain ⟨z2, rfl, w2⟩ := field_int 2 c2 (by show List.take (Try.prog.cellsOf 23) _ = _; rw [show Try.prog.cellsOf 23 = 1 by kernel_rfl]; rfl) Try.underlying23 g2 (by rw [List.getElem?_eq_getElem (by omega)]; rfl)
    have g3 := hg 3 _ rfl
    obtain ⟨z3, rfl, w3⟩ := field_int 3 c3 (by show List.take (Try.prog.cellsOf 23) _ = _; rw [show Try.prog.cellsOf 23 = 1 by kernel_rfl]; rfl) Try.underlying23 g3 (by rw [List.getElem?_eq_getElem (by omega)]; rfl)
    have g4 := hg 4 _ rfl
    obtain ⟨z4, rfl, w4⟩ := field_int 4 c4 (by show List.take (Try.prog.cellsOf 3) _ = _; rw [show Try.prog.cellsOf 3 = 1 by kernel_rfl]; rfl) Try.underlying3 g4 (by rw [List.getElem?_eq_getElem (by omega)]; rfl)
    have g5 := hg 5 _ rfl
    obtain ⟨z5, rfl, w5⟩ := field_int 5 c5 (by show List.take (Try.prog.cellsOf 3) _ = _; rw [show Try.prog.cellsOf 3 = 1 by kernel_rfl]; rfl) Try.underlying3 g5 (by rw [List.getElem?_eq_getElem (by omega)]; rfl)
    have g6 := hg 6 _ rfl
    obtain ⟨z6, rfl, w6⟩ := field_int 6 c6 (by show List.take (Try.prog.cellsOf 3) _ = _; rw [show Try.prog.cellsOf 3 = 1 by kernel_rfl]; rfl) Try.underlying3 g6 (by rw [List.getElem?_eq_getElem (by omega)]; rfl)
    obtain ⟨n0, b0, rfl⟩ := of_u32 w0
    obtain ⟨n1, b1, rfl⟩ := of_u64 w1
    obtain ⟨n2, b2, rfl⟩ := of_u64 w2
    obtain ⟨n3, b3, rfl⟩ := of_u64 w3
    exact ⟨⟨n0, n1, n2, n3, z4, z5, z6⟩, rfl, b0, b1, b2, b3, of_i64 w4, of_i64 w5, of_i64 w6⟩

end Go.Proofs.Ytijkgihgpchcfaa
