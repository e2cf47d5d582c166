/- A slice of tags and places in memory; a map from epochs to numbers. No condition. -/
import Derived.Test.YthapggobpfcmjaaRpa
import Derived.Test.YthapggobpfcmjaaDvc
import Derived.Maps.Range
set_option maxRecDepth 100000
namespace Go.Proofs.Ythapggobpfcmjaa
namespace Rp
open Go.RowKit

/-- Whatever a map's element is, it may be ranged over. -/
def RN (_ : Value) : Option (DataW Nat × List MemPlace) := some (.nil, [])
abbrev OwnM (w : World) (b n : Nat) (D : DataW Nat) : Prop := w.ownsMap Try.prog 30 RN b n D
theorem keyU : Maps.Keyed Try.prog 30 := Maps.int_keyed Try.underlying30
theorem keyOf_u {e : Nat} (h : e < 4294967296) : keyOf Try.prog 30 (.int .u32 (e : Int)) = some (.int .u32 (e : Int)) := by
  have hw : (Lit.int .u32 (e : Int)).wf = true := by
    simp [Lit.wf, IntKind.min, IntKind.max, IntKind.signed, IntKind.bits]
    omega
  simp [keyOf, Try.underlying30, mapKey, hw]

def kvU (p : Nat × Nat) : Value × Value := (.int .u32 (p.1 : Int), .int .u64 (p.2 : Int))
/-- The entries of a map are these, in this order. -/
def UMap (es : Array MapEntry) (m : UM) : Prop := es.toList.map (fun e => (e.key, e.val)) = m.map kvU
theorem UMap_nil : UMap #[] [] := rfl
theorem getA_cons (p : Nat × Nat) (m : UM) (k : Nat) : getA (p :: m) k = if p.1 = k then some p.2 else getA m k := by
  unfold getA
  by_cases h : p.1 = k
  · simp [h]
  · rw [List.find?_cons, show (p.1 == k) = false by simpa using h, if_neg h]
theorem findNow_u (k : Nat) : ∀ (es : List MapEntry) (m : UM) (i : Nat), es.map (fun e => (e.key, e.val)) = m.map kvU →
    Instr.findNow (.int .u32) (.int .u32 (k : Int)) es i = some ((getA m k).map fun (v : Nat) => (i + (m.map (·.1)).idxOf k, Value.int .u64 (v : Int)))
  | [], m, i, h => by
    obtain rfl : m = [] := by simpa using h.symm
    simp [Instr.findNow, getA]
  | e :: es, [], i, h => by simp at h
  | e :: es, x :: m, i, h => by
    simp only [List.map_cons, List.cons.injEq, kvU, Prod.mk.injEq] at h
    obtain ⟨⟨hk, hv⟩, ht⟩ := h
    have ih := findNow_u k es m (i + 1) ht
    rw [getA_cons]
    by_cases hx : x.1 = k
    · subst hx
      simp [Instr.findNow, hk, hv, Instr.sameNow]
    · have hx' : ¬ ((k : Int) = (x.1 : Int)) := by omega
      have hb : ((k : Int) == (x.1 : Int)) = false := by simpa using hx'
      have hxk : (x.1 == k) = false := by simpa using hx
      rw [if_neg hx]
      simp only [Instr.findNow, hk, Instr.sameNow, if_true, hb, ih, List.map_cons, List.idxOf_cons, hxk, cond_false]
      cases getA m k with
      | none => rfl
      | some v => simp only [Option.map_some]; congr 2; simp; omega
theorem UMap_at {es : Array MapEntry} {m : UM} (hs : UMap es m) {k v : Nat} (hg : getA m k = some v) :
    ∃ e, es[(m.map (·.1)).idxOf k]? = some e ∧ e.key = .int .u32 (k : Int) ∧ e.val = .int .u64 (v : Int) := by
  have hp : ∀ m : UM, getA m k = some v → m[(m.map (·.1)).idxOf k]? = some (k, v) := fun m => by
    induction m with
    | nil => intro h; simp [getA] at h
    | cons p m ih =>
      intro h
      rw [getA_cons] at h
      by_cases hx : p.1 = k
      · rw [if_pos hx] at h
        simp only [Option.some.injEq] at h
        subst hx; subst h
        simp
      · rw [if_neg hx] at h
        have hxk : (p.1 == k) = false := by simpa using hx
        simp only [List.map_cons, List.idxOf_cons, hxk, cond_false, List.getElem?_cons_succ]
        exact ih h
  have h := congrArg (·[(m.map (·.1)).idxOf k]?) hs
  simp only [List.getElem?_map, Array.getElem?_toList] at h
  rw [hp m hg] at h
  obtain ⟨e, he, hkv⟩ := Option.map_eq_some_iff.1 h
  simp only [kvU, Prod.mk.injEq] at hkv
  exact ⟨e, he, hkv.1, hkv.2⟩
theorem map_modify_at {α β : Type} (f : α → β) (g : α → α) (b : β) : ∀ (l : List α) (i : Nat), (∀ x, l[i]? = some x → f (g x) = b) → (l.modify i g).map f = (l.map f).modify i fun _ => b
  | [], i, _ => by simp
  | x :: l, 0, h => by simp [h x (by simp)]
  | x :: l, i + 1, h => by simp [map_modify_at f g b l i (fun y hy => h y (by simpa using hy))]
theorem put_modify (k v : Nat) : ∀ m : UM, (m.map (·.1)).Nodup → k ∈ m.map (·.1) → (m.map kvU).modify ((m.map (·.1)).idxOf k) (fun _ => kvU (k, v)) = (m.map fun p => if p.1 = k then (k, v) else p).map kvU
  | [], _, h => by simp at h
  | p :: m, hn, h => by
    rw [List.map_cons, List.nodup_cons] at hn
    by_cases hx : p.1 = k
    · have hm : m.map (fun p => if p.1 = k then (k, v) else p) = m := by
        refine (List.map_congr_left fun q hq => ?_).trans (List.map_id m)
        rw [if_neg fun e => hn.1 (by rw [hx]; exact List.mem_map.2 ⟨q, hq, e⟩)]; rfl
      simp only [List.map_cons, hx, if_true, List.idxOf_cons_self, List.modify_zero_cons]
      rw [hm]
    · have hxk : (p.1 == k) = false := by simpa using hx
      have hk : k ∈ m.map (·.1) := by
        rcases List.mem_cons.1 (show k ∈ p.1 :: m.map (·.1) from h) with e | h
        · exact absurd e.symm hx
        · exact h
      simp only [List.map_cons, if_neg hx, List.idxOf_cons, hxk, cond_false, List.modify_succ_cons]
      rw [put_modify k v m hn.2 hk]

theorem Try.mapU : Try.prog.underlying 111 = some (.map 30 31) := Try.underlying111
theorem run_checkKey_u (c : Bool) (q : IntKind) (k : Int) (w : World) : (Instr.checkKey c 10000 30 (.int q k)).run Try.prog w = .ok () w := by
  have : ∀ n, (Instr.checkKey c (n + 1) 30 (.int q k)).run Try.prog w = .ok () w := by
    intro n
    simp [Instr.checkKey, run_underlying Try.underlying30]
  exact this 9999
theorem zero_u64 (w : World) : (zeroValue 31).run Try.prog w = .ok (.int .u64 0) w := by kernel_rfl
section
variable {es : Array MapEntry} {clk : Nat} {m : UM} (hs : UMap es m)
include hs
/-- What a map says of a key; 0, if it has none. -/
theorem run_lookup_u {bm : Nat} (k : Nat) (w : World) (hb : w.heap[bm]? = some (.map es clk)) :
    (Instr.lookup 111 (.map (some bm)) (.int .u32 (k : Int)) false).run Try.prog w = .ok (.int .u64 (((getA m k).getD 0 : Nat) : Int)) w := by
  have hf := findNow_u k es.toList m 0 hs
  cases hg : getA m k with
  | none =>
    rw [hg] at hf
    simp [Instr.lookup, run_underlying Try.mapU, run_getObj_mp hb, run_checkKey_u, run_underlying Try.underlying30, Instr.findKey, hf, zero_u64 w]
  | some v =>
    rw [hg] at hf
    simp [Instr.lookup, run_underlying Try.mapU, run_getObj_mp hb, run_checkKey_u, run_underlying Try.underlying30, Instr.findKey, hf]
/-- .. and whether it has any. -/
theorem run_lookup_ok {bm : Nat} (k : Nat) (w : World) (hb : w.heap[bm]? = some (.map es clk)) :
    (Instr.lookup 111 (.map (some bm)) (.int .u32 (k : Int)) true).run Try.prog w = .ok (.tuple #[.int .u64 (((getA m k).getD 0 : Nat) : Int), .bool (getA m k).isSome]) w := by
  have hf := findNow_u k es.toList m 0 hs
  cases hg : getA m k with
  | none =>
    rw [hg] at hf
    simp [Instr.lookup, run_underlying Try.mapU, run_getObj_mp hb, run_checkKey_u, run_underlying Try.underlying30, Instr.findKey, hf, zero_u64 w]
  | some v =>
    rw [hg] at hf
    simp [Instr.lookup, run_underlying Try.mapU, run_getObj_mp hb, run_checkKey_u, run_underlying Try.underlying30, Instr.findKey, hf]
theorem run_update_u (hn : (m.map (·.1)).Nodup) (k v : Nat) :
    ∃ es' clk', UMap es' (putA m k v) ∧ ∀ (bm : Nat) (w : World), w.heap[bm]? = some (.map es clk) →
      (Instr.mapUpdate 111 (.map (some bm)) (.int .u32 (k : Int)) (.int .u64 (v : Int))).run Try.prog w = .ok () (ChangeMaps.setBlock w bm (.map es' clk')) := by
  have hf := findNow_u k es.toList m 0 hs
  cases hg : getA m k with
  | some v0 =>
    rw [hg] at hf
    have hm : k ∈ m.map (·.1) := Classical.byContradiction fun h => by rw [getA_none.2 h] at hg; cases hg
    obtain ⟨e, he, hk, hv⟩ := UMap_at hs hg
    refine ⟨es.modify ((m.map (·.1)).idxOf k) (fun e => { e with key := .int .u32 (k : Int), val := .int .u64 (v : Int) }), clk, ?_, ?_⟩
    · simp only [UMap, putA, if_pos hm]
      rw [Array.toList_modify, map_modify_at (fun e : MapEntry => (e.key, e.val)) (fun e => { e with key := .int .u32 (k : Int), val := .int .u64 (v : Int) }) (kvU (k, v)) _ _ (fun x _ => rfl), show es.toList.map (fun e => (e.key, e.val)) = m.map kvU from hs]
      exact put_modify k v m hn hm
    · intro bm w hb
      have hst : (Instr.keyThatStays (.int .u32 (k : Int)) (.int .u32 (k : Int))).run Try.prog w = .ok (.int .u32 (k : Int)) w := by
        have : ∀ n, Instr.sameBits (n + 1) (.int .u32 (k : Int)) (.int .u32 (k : Int)) = true := by intro n; simp [Instr.sameBits]
        have h2 : Instr.sameBits 10000 (.int .u32 (k : Int)) (.int .u32 (k : Int)) = true := this 9999
        simp [Instr.keyThatStays, h2]
      simp [Instr.mapUpdate, run_underlying Try.mapU, run_getObj_mp hb, run_setObj_mp _ hb, run_checkKey_u, run_underlying Try.underlying30, Instr.findKey, hf, he, hk, hst]
  | none =>
    rw [hg] at hf
    have hm := getA_none.1 hg
    refine ⟨es.push { key := .int .u32 (k : Int), val := .int .u64 (v : Int), born := clk }, clk + 1, ?_, ?_⟩
    · simp only [UMap, putA, if_neg hm, Array.toList_push, List.map_append, List.map_cons, List.map_nil]
      rw [show List.map (fun e : MapEntry => (e.key, e.val)) es.toList = m.map kvU from hs]
      rfl
    · intro bm w hb
      simp [Instr.mapUpdate, run_underlying Try.mapU, run_getObj_mp hb, run_setObj_mp _ hb, run_checkKey_u, run_underlying Try.underlying30, Instr.findKey, hf]
end
/-- How many a set has. -/
theorem run_len_iset {es : Array MapEntry} {clk : Nat} {l : List Nat} (hs : ISet es l) (ty : TypeId) {bm : Nat} (w : World) (hb : w.heap[bm]? = some (.map es clk)) :
    (Builtin.len_ #[60] ty #[.map (some bm)]).run Try.prog w = .ok (.int .i64 (l.length : Int)) w := by
  have := congrArg List.length hs
  simp only [List.length_map, Array.length_toList] at this
  rw [← this]
  simp [Builtin.len_, run_getObj_mp hb, goInt]

/-- A tag and its place as they lie in memory. -/
def foC (x : Fo) : List Value := [.int .u32 (x.1.e : Int), .int .u64 (x.1.s : Int), .int .u64 (x.1.q : Int), .int .u64 (x.1.f : Int), .int .i64 x.1.i, .int .i64 x.1.c, .int .i64 x.1.d, .int .i64 (x.2 : Int)]
theorem foC_at : ∀ (l : List Fo) (k : Nat) (h : k < l.length) (j : Nat), j < 8 → (l.flatMap foC)[k * 8 + j]? = (foC l[k])[j]?
  | [], k, h, _, _ => by simp at h
  | x :: l, 0, _, j, hj => by
    rw [List.flatMap_cons, Nat.zero_mul, Nat.zero_add, List.getElem?_append_left (by simpa [foC] using hj)]; rfl
  | x :: l, k + 1, h, j, hj => by
    have := foC_at l k (by simpa using h) j hj
    rw [List.flatMap_cons, show (k + 1) * 8 + j = (foC x).length + (k * 8 + j) by simp [foC]; omega, List.getElem?_append_right (by omega), show (foC x).length + (k * 8 + j) - (foC x).length = k * 8 + j by omega]
    exact this
/-- A slice that reads as these, row g. -/
structure FV (w : World) (v : Value) (l : List Fo) (g : Nat) : Prop where
  form : ∃ a cap, v = .slice a l.length cap ∧ l.length ≤ cap ∧ (a = none → cap = 0) ∧ (l ≠ [] → a = some ⟨g, 0, none⟩)
  cell : ∀ i (h : i < l.length) j, j < 8 → w.cell? ⟨g, i * 8 + j, none⟩ = (foC l[i])[j]?
  lt : l ≠ [] → g < w.heap.size
theorem FV.nil (w : World) (g : Nat) : FV w (.slice none 0 0) [] g := ⟨⟨none, 0, rfl, Nat.le_refl _, fun _ => rfl, fun h => absurd rfl h⟩, fun i h => absurd h (by simp), fun h => absurd rfl h⟩
section
variable {F : Nat → Prop} {w w1 : World} {v : Value} {l : List Fo} {g : Nat}
theorem FV.touch (h : FV w v l g) (ht : Touch F w w1) (hF : l ≠ [] → ¬ F g) : FV w1 v l g := by
  refine ⟨h.form, fun i hi j hj => ?_, fun hl => Nat.lt_of_lt_of_le (h.lt hl) ht.size⟩
  have hl : l ≠ [] := by intro e; subst e; simp at hi
  rw [← h.cell i hi j hj]
  exact World.cell?_of_block (ht.block g (h.lt hl) (hF hl))
theorem FV.low (h : FV w v l g) {B : Nat} (hb : Below B w w1) (hB : l ≠ [] → g < B) : FV w1 v l g := by
  refine ⟨h.form, fun i hi j hj => ?_, fun hl => Nat.lt_of_lt_of_le (h.lt hl) hb.size⟩
  have hl : l ≠ [] := by intro e; subst e; simp at hi
  rw [← h.cell i hi j hj]
  exact World.cell?_of_block (hb.block g (hB hl))
theorem FV.below (h : FV w v l g) (hb : Below w.heap.size w w1) : FV w1 v l g := h.low hb h.lt
theorem FV.drew (h : FV w v l g) : FV w.drew v l g := h.below (Below.refl _ w).drew
/-- What lies at one of its places. -/
theorem FV.at (h : FV w v l g) {i : Nat} (hi : i < l.length) : ∃ cap, v = .slice (some ⟨g, 0, none⟩) l.length cap ∧ l.length ≤ cap ∧ w.cell? ⟨g, i * 8, none⟩ = some (.int .u32 (l[i].1.e : Int)) ∧ w.cell? ⟨g, i * 8 + 1, none⟩ = some (.int .u64 (l[i].1.s : Int)) ∧
    w.cell? ⟨g, i * 8 + 2, none⟩ = some (.int .u64 (l[i].1.q : Int)) ∧ w.cell? ⟨g, i * 8 + 3, none⟩ = some (.int .u64 (l[i].1.f : Int)) ∧ w.cell? ⟨g, i * 8 + 4, none⟩ = some (.int .i64 l[i].1.i) ∧ w.cell? ⟨g, i * 8 + 5, none⟩ = some (.int .i64 l[i].1.c) ∧
    w.cell? ⟨g, i * 8 + 6, none⟩ = some (.int .i64 l[i].1.d) ∧ w.cell? ⟨g, i * 8 + 7, none⟩ = some (.int .i64 (l[i].2 : Int)) := by
  obtain ⟨a, cap, rfl, h1, -, h2⟩ := h.form
  have hl : l ≠ [] := by intro e; subst e; simp at hi
  rw [h2 hl]
  have := h.cell i hi
  exact ⟨cap, rfl, h1, this 0 (by omega), this 1 (by omega), this 2 (by omega), this 3 (by omega), this 4 (by omega), this 5 (by omega), this 6 (by omega), this 7 (by omega)⟩
/-- One that the call made itself. -/
theorem FV.own {base : Nat} (h : w.ownsRow base 96 8 v l.length (l.flatMap foC)) : ∃ g, FV w v l g ∧ (l ≠ [] → base ≤ g) := by
  rcases h.2 with ⟨rfl, h0⟩ | ⟨g, cap, cur, rfl, hb, hg, hc, -, -, htk⟩
  · obtain rfl : l = [] := List.eq_nil_of_length_eq_zero h0
    exact ⟨0, FV.nil w 0, fun h => absurd rfl h⟩
  · refine ⟨g, ⟨⟨_, cap, rfl, hc, (fun e => by cases e), fun _ => rfl⟩, fun i hi j hj => ?_, fun _ => lt_of_heap hg⟩, fun _ => hb⟩
    have hcells := h.cells (g := g) rfl
    have h1 := foC_at l i hi j hj
    have hj8 : j < (foC l[i]).length := by simpa [foC] using hj
    rw [List.getElem?_eq_getElem hj8] at h1 ⊢
    have k1 := hcells _ _ h1
    rw [add_lit] at k1
    simpa using k1
end
end Rp
end Go.Proofs.Ythapggobpfcmjaa
