/- A map from int to struct{} as a list of numbers: look up, put in, delete. No condition. -/
import Derived.Test.YtmedpmhiebcdjaaDoorMem
namespace Go.Proofs.YtmedpmhiebcdjaaDoor
open Go.RowKit

def kv0 (k : Nat) : Value × Value := (.int .i64 (k : Int), .agg #[])
/-- The entries of a map are these numbers, in this order. -/
def ISet (es : Array MapEntry) (l : List Nat) : Prop := es.toList.map (fun e => (e.key, e.val)) = l.map kv0
def insT (k : Nat) (l : List Nat) : List Nat := if k ∈ l then l else l ++ [k]

theorem ISet_nil : ISet #[] [] := rfl

theorem findNow_iset (k : Nat) : ∀ (es : List MapEntry) (l : List Nat) (i : Nat), es.map (fun e => (e.key, e.val)) = l.map kv0 →
    Instr.findNow (.int .i64) (.int .i64 (k : Int)) es i = some (if k ∈ l then some (i + l.idxOf k, .agg #[]) else none)
  | [], l, i, h => by
    obtain rfl : l = [] := by simpa using h.symm
    simp [Instr.findNow]
  | e :: es, [], i, h => by simp at h
  | e :: es, x :: l, i, h => by
    simp only [List.map_cons, List.cons.injEq, kv0, Prod.mk.injEq] at h
    obtain ⟨⟨hk, hv⟩, ht⟩ := h
    have ih := findNow_iset k es l (i + 1) ht
    by_cases hx : k = x
    · subst hx
      simp [Instr.findNow, hk, hv, Instr.sameNow]
    · have hx' : ¬ ((k : Int) = (x : Int)) := by omega
      have hb : ((k : Int) == (x : Int)) = false := by simpa using hx'
      have hxk : (x == k) = false := by simpa using Ne.symm hx
      simp only [Instr.findNow, hk, Instr.sameNow, if_true, hb, ih, List.mem_cons, hx, false_or, List.idxOf_cons, hxk, cond_false]
      congr 1
      split
      · congr 2; omega
      · rfl

theorem run_getObj_mp {P : Program} {w : World} {r : Nat} {es : Array MapEntry} {clock : Nat} (hb : w.heap[r]? = some (.map es clock)) : (getObj r).run P w = .ok (.map es clock) w := by simp [getObj, Sem.run, hb]
theorem run_setObj_mp {P : Program} {w : World} {r : Nat} {es : Array MapEntry} {clock : Nat} (o : Obj) (hb : w.heap[r]? = some (.map es clock)) : (setObj r o).run P w = .ok () (ChangeMaps.setBlock w r o) := by simp [setObj, Sem.run, hb, ChangeMaps.setBlock]

theorem ISet_at {es : Array MapEntry} {l : List Nat} (hs : ISet es l) {k : Nat} (hm : k ∈ l) :
    ∃ e, es[l.idxOf k]? = some e ∧ e.key = .int .i64 (k : Int) ∧ e.val = .agg #[] := by
  have h := congrArg (·[l.idxOf k]?) hs
  simp only [List.getElem?_map, Array.getElem?_toList] at h
  have hk : l[l.idxOf k]? = some k := by
    rw [List.getElem?_eq_getElem (List.idxOf_lt_length_of_mem hm), List.getElem_idxOf]
  rw [hk] at h
  obtain ⟨e, he, hkv⟩ := Option.map_eq_some_iff.1 h
  simp only [kv0, Prod.mk.injEq] at hkv
  exact ⟨e, he, hkv.1, hkv.2⟩

theorem eraseIdx_idxOf (k : Nat) : ∀ l : List Nat, k ∈ l → l.eraseIdx (l.idxOf k) = l.erase k
  | [], h => by simp at h
  | x :: l, h => by
    by_cases hx : x = k
    · subst hx; simp
    · have hxk : (x == k) = false := by simpa using hx
      have hm : k ∈ l := by simpa [Ne.symm hx] using h
      simp [List.idxOf_cons, hxk, eraseIdx_idxOf k l hm]

theorem map_eraseIdx {α β : Type} (f : α → β) : ∀ (l : List α) (i : Nat), (l.eraseIdx i).map f = (l.map f).eraseIdx i
  | [], i => by simp
  | x :: l, 0 => by simp
  | x :: l, i + 1 => by simp [map_eraseIdx f l i]

theorem map_modify_same {α β : Type} (f : α → β) (g : α → α) : ∀ (l : List α) (i : Nat), (∀ x, l[i]? = some x → f (g x) = f x) → (l.modify i g).map f = l.map f
  | [], i, _ => by simp
  | x :: l, 0, h => by simp [h x (by simp)]
  | x :: l, i + 1, h => by simp [map_modify_same f g l i (fun y hy => h y (by simpa using hy))]

section
variable {P : Program} {T K E : TypeId} (hT : P.underlying T = some (.map K E)) (hK : P.underlying K = some (.int .i64))
include hT hK

omit hT in
theorem run_checkKey_int (c : Bool) (q : IntKind) (k : Int) (w : World) : (Instr.checkKey c 10000 K (.int q k)).run P w = .ok () w := by
  have : ∀ n, (Instr.checkKey c (n + 1) K (.int q k)).run P w = .ok () w := by
    intro n
    simp [Instr.checkKey, run_underlying hK]
  exact this 9999

theorem run_lookup_iset (hz : ∀ w, (zeroValue E).run P w = .ok (.agg #[]) w) {es : Array MapEntry} {clk : Nat} {l : List Nat} (hs : ISet es l) {bm : Nat} (k : Nat) (w : World) (hb : w.heap[bm]? = some (.map es clk)) :
    (Instr.lookup T (.map (some bm)) (.int .i64 (k : Int)) true).run P w = .ok (.tuple #[.agg #[], .bool (decide (k ∈ l))]) w := by
  have hf := findNow_iset k es.toList l 0 hs
  by_cases hm : k ∈ l
  · simp [Instr.lookup, run_underlying hT, run_getObj_mp hb, run_checkKey_int hK, run_underlying hK, Instr.findKey, hf, hm]
  · simp [Instr.lookup, run_underlying hT, run_getObj_mp hb, run_checkKey_int hK, run_underlying hK, Instr.findKey, hf, hm, hz w]

theorem run_delete_iset {es : Array MapEntry} {clk : Nat} {l : List Nat} (hs : ISet es l) (k : Nat) :
    ∃ es', ISet es' (l.erase k) ∧ ∀ (ty : TypeId) (bm : Nat) (w : World), w.heap[bm]? = some (.map es clk) →
      (Builtin.delete_ #[T, K] ty #[.map (some bm), .int .i64 (k : Int)]).run P w = .ok (.tuple #[]) (ChangeMaps.setBlock w bm (.map es' clk)) := by
  have hf := findNow_iset k es.toList l 0 hs
  by_cases hm : k ∈ l
  · refine ⟨es.eraseIdxIfInBounds (l.idxOf k), ?_, ?_⟩
    · simp only [ISet] at hs ⊢
      rw [← eraseIdx_idxOf k l hm, map_eraseIdx, ← hs, ← map_eraseIdx]
      congr 1
      obtain ⟨e, he, _⟩ := ISet_at hs hm
      have hlt : l.idxOf k < es.size := (Array.getElem?_eq_some_iff.1 he).1
      simp [Array.eraseIdxIfInBounds, hlt]
    · intro ty bm w hb
      simp [Builtin.delete_, run_underlying hT, run_getObj_mp hb, run_setObj_mp _ hb, run_checkKey_int hK, run_underlying hK, Instr.findKey, hf, hm, ChangeMaps.setBlock]
  · refine ⟨es, ?_, ?_⟩
    · rw [List.erase_of_not_mem hm]; exact hs
    · intro ty bm w hb
      simp [Builtin.delete_, run_underlying hT, run_getObj_mp hb, run_setObj_mp _ hb, run_checkKey_int hK, run_underlying hK, Instr.findKey, hf, hm, ChangeMaps.setBlock]

theorem run_update_iset {es : Array MapEntry} {clk : Nat} {l : List Nat} (hs : ISet es l) (k : Nat) :
    ∃ es' clk', ISet es' (insT k l) ∧ ∀ (bm : Nat) (w : World), w.heap[bm]? = some (.map es clk) →
      (Instr.mapUpdate T (.map (some bm)) (.int .i64 (k : Int)) (.agg #[])).run P w = .ok () (ChangeMaps.setBlock w bm (.map es' clk')) := by
  have hf := findNow_iset k es.toList l 0 hs
  by_cases hm : k ∈ l
  · refine ⟨es.modify (l.idxOf k) (fun e => { e with key := .int .i64 (k : Int), val := .agg #[] }), clk, ?_, ?_⟩
    · obtain ⟨e, he, hk, hv⟩ := ISet_at hs hm
      simp only [ISet, insT, if_pos hm] at hs ⊢
      rw [← hs]
      rw [Array.toList_modify]
      refine map_modify_same _ _ _ _ fun x hx => ?_
      rw [Array.getElem?_toList, he] at hx
      obtain rfl := Option.some.inj hx
      simp [hk, hv]
    · intro bm w hb
      obtain ⟨e, he, hk, hv⟩ := ISet_at hs hm
      have hst : (Instr.keyThatStays (.int .i64 (k : Int)) (.int .i64 (k : Int))).run P w = .ok (.int .i64 (k : Int)) w := by
        have : ∀ n, Instr.sameBits (n + 1) (.int .i64 (k : Int)) (.int .i64 (k : Int)) = true := by intro n; simp [Instr.sameBits]
        have h2 : Instr.sameBits 10000 (.int .i64 (k : Int)) (.int .i64 (k : Int)) = true := this 9999
        simp [Instr.keyThatStays, h2]
      simp [Instr.mapUpdate, run_underlying hT, run_getObj_mp hb, run_setObj_mp _ hb, run_checkKey_int hK, run_underlying hK, Instr.findKey, hf, hm, he, hk, hst]
  · refine ⟨es.push { key := .int .i64 (k : Int), val := .agg #[], born := clk }, clk + 1, ?_, ?_⟩
    · simp only [ISet, insT, if_neg hm, Array.toList_push, List.map_append, List.map_cons, List.map_nil]
      rw [show List.map (fun e : MapEntry => (e.key, e.val)) es.toList = l.map kv0 from hs]
      rfl
    · intro bm w hb
      simp [Instr.mapUpdate, run_underlying hT, run_getObj_mp hb, run_setObj_mp _ hb, run_checkKey_int hK, run_underlying hK, Instr.findKey, hf, hm, ChangeMaps.setBlock]
end

end Go.Proofs.YtmedpmhiebcdjaaDoor
