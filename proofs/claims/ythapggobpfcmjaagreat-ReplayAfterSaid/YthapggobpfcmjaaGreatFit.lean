/- An argument that is a slice of structs, each field a cell. -/
import Derived.Test.YthapggobpfcmjaaGreatRowB
import Derived.Deep.Fields
namespace Go.Proofs.YthapggobpfcmjaaGreat
open Go.ChangeShapes Go.WideShapes Go.RowKit

section
variable {H : Type} {enc : TypeId × Value → H} {P : Program} {W : World}
theorem arg_rows {base : Nat} {t e : TypeId} {fs : Array Field} {v : Value} {d : DataW H} {p : List MemPlace} (ht : P.underlying t = some (.slice e)) (he : P.underlying e = some (.struct fs)) (hone : Deep.oneCellFields P fs = true) (hC : P.cellsOf e = fs.size) (hpos : 0 < fs.size)
    (hv : Value.okWide P W .any base t v) (h : DataW.Trod enc P W 0 (fun _ => true) true t v d p) :
    ∃ (a : Option Addr) (len cap : Nat), v = .slice a len cap ∧ len ≤ cap ∧ (∀ k c, Value.slice a len cap = .slice none k c → c = 0) ∧ ∀ i, i < len → ∃ (g off : Nat) (xs : List (DataW H × List MemPlace)) (n : Nat), a = some ⟨g, off, none⟩ ∧ xs.length = fs.size ∧
      (∃ el sp, d = .slice el sp ∧ DataW.agg (xs.map (·.1)) ∈ el) ∧ ∀ (j : Nat) (f : Field), fs[j]? = some f → ∃ (u : Value) (y : DataW H × List MemPlace), W.cell? ⟨g, off + i * fs.size + j, none⟩ = some u ∧ xs[j]? = some y ∧ DataW.trod enc P W 0 (fun _ => true) true n f.type [u] = some y := by
  obtain ⟨a0, len, cap, rfl⟩ := okWide_slice ht hv
  obtain ⟨fuel, hf⟩ := h
  refine ⟨a0, len, cap, rfl, ?_⟩
  rcases Deep.open_slice ht hf with ⟨hcs, hx⟩ | ⟨a, len', cap', m, n, D, Pl, hcs, _, hl, hm, hmm, hx, hi⟩
  · have e1 : a0 = none ∧ len = 0 ∧ cap = 0 := by simpa [Value.cells] using hcs
    obtain ⟨rfl, rfl, rfl⟩ := e1
    exact ⟨by omega, (fun k c hk => by cases hk; rfl), fun i hi => by omega⟩
  · have e1 : a0 = some a ∧ len = len' ∧ cap = cap' := by simpa [Value.cells] using hcs
    obtain ⟨rfl, rfl, rfl⟩ := e1
    simp only [if_true] at hmm
    subst hmm
    refine ⟨hl, (fun k c hk => by cases hk), fun i hil => ?_⟩
    obtain ⟨cs', h1, h2⟩ := hi i (by omega)
    obtain ⟨xs, n', rfl, hy, hlen, hxl, hff⟩ := DataW.trod_struct he h2
    obtain ⟨hb1, hb2, hb3⟩ := World.cells?_some h1
    simp only [Prod.mk.injEq] at hy
    have hcell : ∀ j, j < fs.size → ∃ u, cs'[j]? = some u ∧ W.cell? ((a.add (i * fs.size)).add j) = some u := by
      intro j hj
      have := hb3 j (by rw [hC]; exact hj)
      rw [hC] at this
      have hj' : j < cs'.length := by omega
      exact ⟨cs'[j], List.getElem?_eq_getElem hj', by rw [this, List.getElem?_eq_getElem hj']⟩
    have hspot : a.spot = none := by
      obtain ⟨cs0, g1, g2⟩ := hi 0 (by omega)
      obtain ⟨_, k2, k3⟩ := World.cells?_some g1
      have h0 := k3 0 (by rw [hC]; exact hpos)
      rw [List.getElem?_eq_getElem (by omega)] at h0
      have := World.cell?_spot h0
      simpa [Addr.add] using this
    obtain ⟨b, off, spot⟩ := a
    simp only at hspot
    subst hspot
    refine ⟨b, off, xs, n', rfl, hxl, ⟨_, _, congrArg Prod.fst hx, ?_⟩, fun j f hj => ?_⟩
    · rw [← hy.1]
      exact List.mem_map_of_mem (List.mem_range.2 hil)
    · obtain ⟨ho, hk⟩ := Deep.hone_of hone j f hj
      have hjl : j < fs.size := (Array.getElem?_eq_some_iff.1 hj).1
      obtain ⟨u, hu1, hu2⟩ := hcell j hjl
      have h3 := hff j f hj
      rw [ho, hk] at h3
      have hj' : j < cs'.length := (List.getElem?_eq_some_iff.1 hu1).1
      have hone' : (cs'.drop j).take 1 = [u] := by
        rw [List.drop_eq_getElem_cons hj', (List.getElem?_eq_some_iff.1 hu1).2]; rfl
      rw [hone'] at h3
      have hxj : j < xs.length := by omega
      refine ⟨u, xs[j], ?_, List.getElem?_eq_getElem hxj, h3.trans (List.getElem?_eq_getElem hxj)⟩
      rw [← hu2, Go.WideShapes.add_plain, Go.WideShapes.add_plain]
theorem weightsAll_mem {e : TypeId} : ∀ {el : List (DataW H)} {d : DataW H} {n : Nat}, d ∈ el → n ∈ d.weights P e → n ∈ DataW.weightsAll P e el
  | d0 :: el, d, n, h, hn => by
    rw [DataW.weightsAll, List.mem_append]
    rcases List.mem_cons.1 h with rfl | h
    · exact .inl hn
    · exact .inr (weightsAll_mem h hn)
theorem weights_rows {t e : TypeId} {fs : Array Field} {d : DataW H} {el sp : List (DataW H)} (ht : P.underlying t = some (.slice e)) (he : P.underlying e = some (.struct fs)) (hd : d = .slice el sp) {parts : List (DataW H)} (hp : DataW.agg parts ∈ el)
    (hw : ∀ n ∈ d.weights P t, n ≤ reachBytes) : ∀ {j : Nat} {f : Field} {y : DataW H}, fs[j]? = some f → parts[j]? = some y → ∀ n ∈ y.weights P f.type, n ≤ reachBytes := by
  intro j f y hf hy n hn
  subst hd
  refine weights_mem (P := P) (ts := fs.toList.map (·.type)) (ds := parts) (i := j) (t := f.type) (d := y) ?_ (by simp [hf]) hy n hn
  rw [List.all_eq_true]
  intro m hm
  have : m ∈ (DataW.agg parts).weights P e := by rw [DataW.weights, he]; exact hm
  have := hw m (by rw [DataW.weights, ht]; simp only [List.mem_cons, List.mem_append]; exact .inr (.inl (weightsAll_mem hp this)))
  simpa using this
end

end Go.Proofs.YthapggobpfcmjaaGreat
