/- Slices of numbers of any kind: what they read as, how they come in. No condition. -/
import Derived.Test.YthapggobpfcmjaaGreatMem
import Derived.Test.YthapggobpfcmjaaGreatRowB
namespace Go.Proofs.YthapggobpfcmjaaGreat
open Go.ChangeShapes Go.WideShapes Go.ChangeAt Go.RowKit

/-- A slice value that reads as numbers of kind k; its row, if it matters, is block g. -/
structure NV (k : IntKind) (w : World) (v : Value) (l : List Int) (g : Nat) : Prop where
  form : ∃ a cap, v = .slice a l.length cap ∧ l.length ≤ cap ∧ (a = none → cap = 0) ∧ (l ≠ [] → ∃ off, a = some ⟨g, off, none⟩ ∧ ∀ i (h : i < l.length), w.cell? ⟨g, off + i, none⟩ = some (.int k l[i]))
  lt : l ≠ [] → g < w.heap.size
section
variable {k : IntKind} {F : Nat → Prop} {w w1 : World} {v : Value} {l : List Int} {g : Nat}
theorem NV.touch (h : NV k w v l g) (ht : Touch F w w1) (hF : l ≠ [] → ¬ F g) : NV k w1 v l g := by
  obtain ⟨a, cap, rfl, h1, h2, h3⟩ := h.form
  refine ⟨⟨a, cap, rfl, h1, h2, fun hl => ?_⟩, fun hl => Nat.lt_of_lt_of_le (h.lt hl) ht.size⟩
  obtain ⟨off, rfl, hc⟩ := h3 hl
  exact ⟨off, rfl, fun i hi => by rw [← hc i hi]; exact World.cell?_of_block (ht.block g (h.lt hl) (hF hl))⟩
theorem NV.low (h : NV k w v l g) {B : Nat} (hb : Below B w w1) (hB : l ≠ [] → g < B) : NV k w1 v l g :=
  h.touch (F := fun k => B ≤ k) ⟨hb.os, hb.tape, hb.output, hb.size, fun k _ hF => hb.block k (Nat.lt_of_not_le hF)⟩ fun hl => Nat.not_le_of_lt (hB hl)
theorem NV.below (h : NV k w v l g) (hb : Below w.heap.size w w1) : NV k w1 v l g := h.low hb h.lt
theorem NV.alloc (h : NV k w v l g) (o : Obj) : NV k (w.alloc o) v l g := h.below ((Below.refl _ w).alloc (Nat.le_refl _) o)
theorem NV.drewN (h : NV k w v l g) (n : Nat) : NV k (w.drewN n) v l g := h.touch (F := Emp) ((Touch.refl Emp w).drewN n) fun _ => id
theorem NV.cellk (h : NV k w v l g) {i : Nat} (hi : i < l.length) : ∃ off n cap, v = .slice (some ⟨g, off, none⟩) n cap ∧ w.cell? ⟨g, off + i, none⟩ = some (.int k l[i]) := by
  obtain ⟨a, cap, rfl, -, -, h3⟩ := h.form
  obtain ⟨off, rfl, hc⟩ := h3 (by rintro rfl; simp at hi)
  exact ⟨off, _, cap, rfl, hc i hi⟩
theorem NV.cell_at {a : Option Addr} {n cap : Nat} (h : NV k w (.slice a n cap) l g) {i : Nat} (hi : i < l.length) : ∃ off, a = some ⟨g, off, none⟩ ∧ w.cell? ⟨g, off + i, none⟩ = some (.int k l[i]) := by
  obtain ⟨off, _, _, e, hc⟩ := h.cellk hi
  cases e
  exact ⟨off, rfl, hc⟩
end
section
variable {H : Type} {enc : TypeId × Value → H} {P : Program}
/-- What a slice of numbers that came in is for the walk. -/
theorem arg_nums {k : IntKind} {W : World} {base : Nat} {t e : TypeId} {v : Value} {d : DataW H} {p : List MemPlace} (ht : P.underlying t = some (.slice e)) (he : P.underlying e = some (.int k)) (hc : P.cellsOf e = 1)
    (hv : Value.okWide P W .any base t v) (h : DataW.Trod enc P W 0 (fun _ => true) true t v d p) :
    ∃ l g a cap, v = .slice a l.length cap ∧ NV k W (.slice a l.length cap) l g ∧ (∀ x ∈ l, (Lit.int k x).wf = true) ∧ (l ≠ [] → ∃ el sp, d = .slice el sp ∧ l.length ≤ el.length) := by
  obtain ⟨a0, len, cap, rfl⟩ := okWide_slice ht hv
  obtain ⟨fuel, hf⟩ := h
  rcases open_ints ht he hc hf with ⟨hcs, hx⟩ | ⟨a, len', cap', zs, hcs, _, hl, hm, hz, hx, hcell, hwz⟩
  · have e1 : a0 = none ∧ len = 0 ∧ cap = 0 := by simpa [Value.cells] using hcs
    obtain ⟨rfl, rfl, rfl⟩ := e1
    exact ⟨[], 0, none, 0, rfl, ⟨⟨none, 0, rfl, Nat.le_refl _, fun _ => rfl, fun h => absurd rfl h⟩, fun h => absurd rfl h⟩, fun x hx => by simp at hx, fun h => absurd rfl h⟩
  · have e1 : a0 = some a ∧ len = len' ∧ cap = cap' := by simpa [Value.cells] using hcs
    obtain ⟨rfl, rfl, rfl⟩ := e1
    simp only [if_true] at hz
    by_cases h0 : len = 0
    · subst h0
      exact ⟨[], 0, some a, cap, rfl, ⟨⟨some a, cap, rfl, Nat.zero_le _, (fun h => by cases h), fun h => absurd rfl h⟩, fun h => absurd rfl h⟩, fun x hx => by simp at hx, fun h => absurd rfl h⟩
    · obtain ⟨b, off, rfl, hc2⟩ := ints_at hcell (by omega)
      have hlen : (zs.take len).length = len := by rw [List.length_take]; omega
      refine ⟨zs.take len, b, some ⟨b, off, none⟩, cap, by rw [hlen], ⟨⟨_, cap, rfl, by rw [hlen]; exact hl, (fun h => by cases h), fun _ => ⟨off, rfl, fun i hi => ?_⟩⟩, fun _ => ?_⟩, fun x hx => hwz x (List.mem_of_mem_take hx), fun _ => ⟨_, _, congrArg Prod.fst hx, by simp [lits]⟩⟩
      · rw [hlen] at hi
        rw [hc2 i (by omega)]
        simp [List.getD, List.getElem?_eq_getElem (show i < zs.length by omega)]
      · have := hc2 0 (by omega)
        exact World.block_lt_of_cell? W ⟨b, off + 0, none⟩ this
theorem weight_nums {t e : TypeId} {n : Nat} (ht : P.underlying t = some (.slice e)) (hb : P.bytesOf e = n) {d : DataW H} {l : List Int} (hd : l ≠ [] → ∃ el sp, d = .slice el sp ∧ l.length ≤ el.length) (hw : ∀ n ∈ d.weights P t, n ≤ reachBytes) :
    l.length * n ≤ 140737488351232 := by
  by_cases h0 : l = []
  · subst h0; simp
  · obtain ⟨el, sp, rfl, hl⟩ := hd h0
    have := hw ((el.length + sp.length) * P.bytesOf e) (by rw [DataW.weights, ht]; simp)
    rw [hb] at this
    unfold reachBytes at this
    have h2 : l.length * n ≤ (el.length + sp.length) * n := Nat.mul_le_mul_right _ (by omega)
    omega
end
/-- Numbers of 64 bits without a sign are Nats. -/
theorem nat_of_u64 {x : Int} (h : (Lit.int .u64 x).wf = true) : x = (x.toNat : Int) ∧ x.toNat < 18446744073709551616 := by
  have h' : 0 ≤ x ∧ x ≤ 18446744073709551615 := by simpa [Lit.wf, IntKind.min, IntKind.max, IntKind.signed, IntKind.bits] using h
  omega
theorem int_of_i64 {x : Int} (h : (Lit.int .i64 x).wf = true) : -9223372036854775808 ≤ x ∧ x ≤ 9223372036854775807 := by
  simpa [Lit.wf, IntKind.min, IntKind.max, IntKind.signed, IntKind.bits] using h

end Go.Proofs.YthapggobpfcmjaaGreat
