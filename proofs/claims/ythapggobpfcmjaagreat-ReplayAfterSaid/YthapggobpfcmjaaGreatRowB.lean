/- From a law's walk to its row: what the laws over bytes share. -/
import Derived.Test.YthapggobpfcmjaaGreatRows
import Derived.Test.YthapggobpfcmjaaGreatMem
import Derived.ProofKit
import Derived.OpenShut
import Derived.SizedLaws
import Derived.Lib.Hide
namespace Go.Proofs.YthapggobpfcmjaaGreat
open Go.ChangeShapes Go.WideShapes Go.ChangeAt Go.RowKit

theorem Reads.form {w : World} {v : Value} {l : List UInt8} {g : Nat} (h : Reads w v l g) : ∃ a cap, v = .slice a l.length cap ∧ (l ≠ [] → ∃ off, a = some ⟨g, off, none⟩ ∧ ∀ i (h : i < l.length), w.cell? ⟨g, off + i, none⟩ = some (byteV l[i])) := by
  obtain ⟨off, cap, ⟨rfl, h⟩ | ⟨⟨a, rfl⟩, rfl⟩⟩ := h
  · exact ⟨_, cap, rfl, fun _ => ⟨off, rfl, h⟩⟩
  · exact ⟨a, cap, rfl, fun h => absurd rfl h⟩

theorem own : ownKnob Tryz.prog.godebug = none := by kernel_rfl
theorem laidOut : laidOutB Tryz.prog = true := by kernel_rfl

section
variable {H : Type} {enc : TypeId × Value → H} {P : Program}
theorem trodAll_below (hl : laidOutB P = true) {W W' : World} (hb : Below W.heap.size W W') : ∀ {ts : List TypeId} {vs : List Value} {ds : List (DataW H)} {ps : List MemPlace}, (∀ t ∈ ts, P.readableRec t = true ∧ t < P.types.size) →
    DataW.TrodAll enc P W 0 (fun _ => true) true ts vs ds ps → (∀ x ∈ ps, x.block < W.heap.size) → DataW.TrodAll enc P W' 0 (fun b => decide (b < W.heap.size)) true ts vs ds ps
  | [], vs, ds, ps, _, h, _ => by
    obtain ⟨rfl, rfl, rfl⟩ := trodAll_nil h
    exact trodAll_mk0
  | t :: ts, vs, ds, ps, hr, h, hlt => by
    obtain ⟨v, vs', d, ds', p, q, rfl, rfl, rfl, h0, h1⟩ := trodAll_cons h
    exact trodAll_cons_mk (Below.trod hl (hr t (by simp)).1 (hr t (by simp)).2 h0 hb fun x hx => hlt x (by simp [hx]))
      (trodAll_below hl hb (fun t ht => hr t (by simp [ht])) h1 fun x hx => hlt x (by simp [hx]))

/-- A law's post: it returns true, and nothing that was there has turned. -/
theorem law_post (hl : laidOutB P = true) {f : Func} {s : ChangeSpec} {W W' : World} {args : Array Value} {ds : List (DataW H)} {before : List MemPlace} {tb : TypeId} (htb : P.underlying tb = some .bool)
    (hts : ∀ t ∈ f.params.toList, P.readableRec t = true ∧ t < P.types.size) (hvars : s.vars = []) (hres : f.resultTypes = #[tb]) (hfn : s.fn H (ds ++ []) = { results := [.lit (.bool true)], args := ds })
    (hW : DataW.Whole enc P f.params.toList s.vars false W args.toList ds [] before) (hb : Below W.heap.size W W') : s.post enc P f false true false false W args (.bool true) W' := by
  have hlt := hW.lt
  obtain ⟨p, q, hA, hV, rfl, hfz, hnd⟩ := hW
  have hV0 := hV
  rw [hvars] at hV0
  obtain rfl : q = [] := hV0
  refine ⟨ds, [], p ++ [], [], p, [], ⟨p, [], hA, hV, rfl, hfz, hnd⟩, ?_, ?_, ?_, hb.frame _, fun h => by cases h⟩
  · rw [hfn, hres]
    exact trodAll_mk1 (shut_bool htb true)
  · rw [hfn]
    exact trodAll_below hl hb hts hA fun x hx => hlt x (by simp [hx])
  · rw [hfn, hvars]; rfl

/-- What a slice of bytes that came in is for the walk. -/
theorem arg_bytes {W : World} {base : Nat} {t e : TypeId} {v : Value} {d : DataW H} {p : List MemPlace} (ht : P.underlying t = some (.slice e)) (he : P.underlying e = some (.int .u8)) (hc : P.cellsOf e = 1)
    (hv : Value.okWide P W .any base t v) (h : DataW.Trod enc P W 0 (fun _ => true) true t v d p) :
    ∃ l g, Reads W v l g ∧ (l ≠ [] → g < W.heap.size) ∧ (l ≠ [] → ∃ el sp, d = .slice el sp ∧ l.length ≤ el.length) ∧ ∃ a cap, v = .slice a l.length cap ∧ l.length ≤ cap ∧ (a = none → cap = 0) := by
  obtain ⟨a0, len, cap, rfl⟩ := okWide_slice ht hv
  obtain ⟨fuel, hf⟩ := h
  rcases open_ints ht he hc hf with ⟨hcs, hx⟩ | ⟨a, len', cap', zs, hcs, _, hl, hm, hz, hx, hcell, hwz⟩
  · have e1 : a0 = none ∧ len = 0 ∧ cap = 0 := by simpa [Value.cells] using hcs
    obtain ⟨rfl, rfl, rfl⟩ := e1
    exact ⟨[], 0, ⟨0, 0, .inr ⟨⟨none, rfl⟩, rfl⟩⟩, fun h => absurd rfl h, fun h => absurd rfl h, none, 0, rfl, Nat.le_refl _, fun _ => rfl⟩
  · have e1 : a0 = some a ∧ len = len' ∧ cap = cap' := by simpa [Value.cells] using hcs
    obtain ⟨rfl, rfl, rfl⟩ := e1
    simp only [if_true] at hz
    by_cases h0 : len = 0
    · subst h0
      exact ⟨[], 0, ⟨0, cap, .inr ⟨⟨some a, rfl⟩, rfl⟩⟩, fun h => absurd rfl h, fun h => absurd rfl h, some a, cap, rfl, hl, fun h => by cases h⟩
    · obtain ⟨b, off, rfl, hc2⟩ := ints_at hcell (by omega)
      have hlen : ((zs.take len).map fun z => UInt8.ofNat z.toNat).length = len := by rw [List.length_map, List.length_take]; omega
      refine ⟨(zs.take len).map fun z => UInt8.ofNat z.toNat, b, ⟨off, cap, .inl ⟨by rw [hlen], fun i hi => ?_⟩⟩, fun _ => ?_, fun _ => ⟨_, _, congrArg Prod.fst hx, by simp [lits]⟩, some ⟨b, off, none⟩, cap, by rw [hlen], by omega, fun h => by cases h⟩
      · rw [hlen] at hi
        rw [hc2 i (by omega)]
        have hw := hwz (zs[i]'(by omega)) (List.getElem_mem _)
        have hw' : 0 ≤ zs[i] ∧ zs[i] ≤ 255 := by simpa [Lit.wf, IntKind.min, IntKind.max, IntKind.signed, IntKind.bits] using hw
        simp only [List.getD, List.getElem?_eq_getElem (show i < zs.length by omega), Option.getD_some, byteV, List.getElem_map, List.getElem_take]
        congr 2
        rw [UInt8.toNat_ofNat']
        omega
      · have := hc2 0 (by omega)
        exact World.block_lt_of_cell? W ⟨b, off + 0, none⟩ this
theorem weights_mem : ∀ {ts : List TypeId} {ds : List (DataW H)} {i : Nat} {t : TypeId} {d : DataW H}, (DataW.weightsEach P ts ds).all (· ≤ reachBytes) = true → ts[i]? = some t → ds[i]? = some d → ∀ n ∈ d.weights P t, n ≤ reachBytes
  | t0 :: ts, d0 :: ds, 0, t, d, h, h1, h2, n, hn => by
    simp only [List.getElem?_cons_zero, Option.some.injEq] at h1 h2
    subst h1 h2
    rw [DataW.weightsEach, List.all_append, Bool.and_eq_true] at h
    have := List.all_eq_true.1 h.1 n hn
    simpa using this
  | t0 :: ts, d0 :: ds, i + 1, t, d, h, h1, h2, n, hn => by
    rw [DataW.weightsEach, List.all_append, Bool.and_eq_true] at h
    exact weights_mem h.2 (by simpa using h1) (by simpa using h2) n hn
  | [], _, _, _, _, _, h1, _, _, _ => by simp at h1
  | _ :: _, [], _, _, _, _, _, h2, _, _ => by simp at h2
theorem weight_bytes {t e : TypeId} (ht : P.underlying t = some (.slice e)) (hb : P.bytesOf e = 1) {d : DataW H} {l : List UInt8} (hd : l ≠ [] → ∃ el sp, d = .slice el sp ∧ l.length ≤ el.length) (hw : ∀ n ∈ d.weights P t, n ≤ reachBytes) :
    l.length ≤ 140737488351232 := by
  by_cases h0 : l = []
  · subst h0; simp
  · obtain ⟨el, sp, rfl, hl⟩ := hd h0
    have := hw ((el.length + sp.length) * P.bytesOf e) (by rw [DataW.weights, ht]; simp)
    rw [hb] at this
    unfold reachBytes at this
    omega
end

end Go.Proofs.YthapggobpfcmjaaGreat
