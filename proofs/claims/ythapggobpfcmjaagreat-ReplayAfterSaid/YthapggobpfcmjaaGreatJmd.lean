/- What is written at once, as it is handed in; which of it may be a batch. No condition. -/
import Derived.Test.YthapggobpfcmjaaGreatJmc
set_option maxRecDepth 100000
namespace Go.Proofs.YthapggobpfcmjaaGreat
namespace Jn
open Go.RowKit

/-- One block to write: its number, and its bytes (a slice that reads as l, row g). -/
structure WE where
  id : Int
  v : Value
  l : List UInt8
  g : Nat
/-- A slice of blocks to write; all that it stands on lies in X. -/
structure WL (w : World) (v : Value) (E : List WE) (X : Nat → Prop) : Prop where
  form : ∃ a cap, v = .slice a E.length cap ∧ E.length ≤ cap ∧ (a = none → cap = 0) ∧ (E ≠ [] → ∃ g off, a = some ⟨g, off, none⟩ ∧ X g)
  cell : ∀ i (h : i < E.length) g off cap, v = .slice (some ⟨g, off, none⟩) E.length cap → w.cell? ⟨g, off + i * 2, none⟩ = some (.int .i64 E[i].id) ∧ w.cell? ⟨g, off + i * 2 + 1, none⟩ = some E[i].v
  data : ∀ e ∈ E, BV w e.v e.l e.g ∧ (e.l ≠ [] → X e.g)
section
variable {w w1 : World} {v : Value} {E : List WE} {X Y F : Nat → Prop}
theorem WL.touch (h : WL w v E X) (ht : Touch F w w1) (hF : ∀ k, X k → ¬ F k) : WL w1 v E X := by
  refine ⟨h.form, fun i hi g off cap e => ?_, fun e he => ⟨(h.data e he).1.touch ht fun hl => hF _ ((h.data e he).2 hl), (h.data e he).2⟩⟩
  obtain ⟨h1, h2⟩ := h.cell i hi g off cap e
  obtain ⟨a, cap', e2, -, -, hx⟩ := h.form
  obtain ⟨g', off', rfl, hg⟩ := hx (by intro h0; subst h0; simp at hi)
  rw [e] at e2
  obtain ⟨⟨rfl, rfl⟩, -⟩ : (g = g' ∧ off = off') ∧ cap = cap' := by simpa using e2
  have hb := ht.block g (World.block_lt_of_cell? w _ h1) (hF g hg)
  exact ⟨(World.cell?_of_block hb).trans h1, (World.cell?_of_block hb).trans h2⟩
theorem WL.below (h : WL w v E X) (hb : Below w.heap.size w w1) : WL w1 v E X := h.touch (F := Emp) (Touch.of_below hb) fun _ _ => id
theorem WL.mono (h : WL w v E X) (hx : ∀ k, X k → Y k) : WL w v E Y := by
  obtain ⟨a, cap, h1, h2, h3, h4⟩ := h.form
  exact ⟨⟨a, cap, h1, h2, h3, fun h0 => by obtain ⟨g, off, h5, h6⟩ := h4 h0; exact ⟨g, off, h5, hx g h6⟩⟩, h.cell, fun e he => ⟨(h.data e he).1, fun hl => hx _ ((h.data e he).2 hl)⟩⟩
/-- What lies at one of its places. -/
theorem WL.at (h : WL w v E X) {i : Nat} (hi : i < E.length) : ∃ g off cap, v = .slice (some ⟨g, off, none⟩) E.length cap ∧ X g ∧ w.cell? ⟨g, off + i * 2, none⟩ = some (.int .i64 E[i].id) ∧ w.cell? ⟨g, off + i * 2 + 1, none⟩ = some E[i].v := by
  obtain ⟨a, cap, e, -, -, hx⟩ := h.form
  obtain ⟨g, off, rfl, hg⟩ := hx (by intro h0; subst h0; simp at hi)
  exact ⟨g, off, cap, e, hg, h.cell i hi g off cap e⟩
end

/-- May these be a batch of a journal of N blocks? -/
def MayE (N : Nat) (E : List WE) : Prop := 1 ≤ E.length ∧ E.length ≤ 24 ∧ (∀ e ∈ E, 0 ≤ e.id ∧ e.id < N ∧ e.l.length = 480) ∧ (E.map (·.id)).Nodup
def idsN (E : List WE) : List Nat := E.map (·.id.toNat)
/-- .. as far as the first ones go. -/
def FineE (N : Nat) (E : List WE) : Prop := (∀ e ∈ E, 0 ≤ e.id ∧ e.id < N ∧ e.l.length = 480) ∧ (E.map (·.id)).Nodup
theorem FineE.snoc {N : Nat} {E : List WE} {e : WE} (h : FineE N E) (h1 : 0 ≤ e.id ∧ e.id < N ∧ e.l.length = 480) (h2 : e.id.toNat ∉ idsN E) : FineE N (E ++ [e]) := by
  refine ⟨fun x hx => (List.mem_append.1 hx).elim (h.1 x) fun hx => by rw [List.mem_singleton.1 hx]; exact h1, ?_⟩
  rw [List.map_append, List.nodup_append]
  refine ⟨h.2, by simp, fun a ha b hb e' => h2 ?_⟩
  obtain ⟨x, hx, rfl⟩ := List.mem_map.1 ha
  obtain rfl : b = e.id := by simpa using hb
  exact List.mem_map.2 ⟨x, hx, by rw [e']⟩
theorem FineE.take {N : Nat} {E : List WE} (h : FineE N E) (k : Nat) : FineE N (E.take k) :=
  ⟨fun x hx => h.1 x (List.mem_of_mem_take hx), by rw [List.map_take]; exact h.2.sublist (List.take_sublist _ _)⟩
theorem FineE.twice {N : Nat} {E : List WE} (h : FineE N E) {k : Nat} (hk : k < E.length) : E[k].id.toNat ∉ idsN (E.take k) := by
  intro hm
  obtain ⟨x, hx, he⟩ := List.mem_map.1 hm
  obtain ⟨i, hi, rfl⟩ := List.mem_iff_getElem.1 hx
  have hi' : i < k := by simp at hi; omega
  rw [List.getElem_take] at he
  have h1 := (h.1 E[i] (List.getElem_mem _)).1
  have h2 := (h.1 E[k] (List.getElem_mem _)).1
  have h3 : E[i].id = E[k].id := by omega
  have := (List.pairwise_iff_getElem.1 h.2) i k (by simp; omega) (by simpa using hk) hi'
  simp at this
  exact this h3
theorem insT_new {k : Nat} {l : List Nat} (h : k ∉ l) : insT k l = l ++ [k] := if_neg h

/-- A number below 0 is no key of such a map. -/
theorem findNow_neg {k : Int} (hk : k < 0) : ∀ (es : List MapEntry) (l : List Nat) (i : Nat), es.map (fun e => (e.key, e.val)) = l.map kv0 → Instr.findNow (.int .i64) (.int .i64 k) es i = some none
  | [], _, _, _ => by simp [Instr.findNow]
  | e :: es, [], i, h => by simp at h
  | e :: es, x :: l, i, h => by
    simp only [List.map_cons, List.cons.injEq, kv0, Prod.mk.injEq] at h
    obtain ⟨⟨hx, hv⟩, ht⟩ := h
    have hb : (k == (x : Int)) = false := by simp; omega
    have hb2 : ((x : Int) == k) = false := by simp; omega
    simp [Instr.findNow, hx, Instr.sameNow, hb, findNow_neg hk es l (i + 1) ht]
theorem zero_none (w : World) : (zeroValue 69).run Tryz.prog w = .ok (.agg #[]) w := by kernel_rfl
/-- A look-up by any number. -/
theorem look_any {es : Array MapEntry} {clk : Nat} {l : List Nat} (hs : ISet es l) {bm : Nat} (k : Int) (w : World) (hb : w.heap[bm]? = some (.map es clk)) :
    (Instr.lookup 61 (.map (some bm)) (.int .i64 k) true).run Tryz.prog w = .ok (.tuple #[.agg #[], .bool (decide (0 ≤ k ∧ k.toNat ∈ l))]) w := by
  by_cases h0 : 0 ≤ k
  · obtain ⟨n, rfl⟩ := Int.eq_ofNat_of_zero_le h0
    have := run_lookup_iset (P := Tryz.prog) Tryz.underlying61 Tryz.underlying3 (E := 69) zero_none hs n w hb
    simpa using this
  · have hf := findNow_neg (by omega : k < 0) es.toList l 0 hs
    have hd : decide (0 ≤ k ∧ k.toNat ∈ l) = false := by simp [h0]
    rw [hd]
    simp [Instr.lookup, run_underlying Tryz.underlying61, run_getObj_mp hb, run_checkKey_int Tryz.underlying3, run_underlying Tryz.underlying3, Instr.findKey, hf]

end Jn
end Go.Proofs.YthapggobpfcmjaaGreat
