/- A device in memory, and its small functions: the layers below its operations. No condition. -/
import Derived.Test.YthapggobpfcmjaaGreatBuf
import Derived.Test.YthapggobpfcmjaaGreatMem
import Derived.Laws.BytesArg
import Derived.Laws.CopyOwn
import Derived.Lib.Hide
import Derived.BigQuiet
import Derived.Deep.QuietTactic

set_option maxRecDepth 100000
namespace Go.Proofs.YthapggobpfcmjaaGreat
open Go.RowKit

theorem run_make512 (w : World) : (Instr.makeSlice 39 (.int .i64 512) (.int .i64 512)).run Tryz.prog w = .ok (.slice (some ⟨w.heap.size, 0, none⟩) 512 512) (w.alloc (.cells (rowA (zerosL 512)) 5)) :=
  run_makeBytes w 512 (by omega) (by omega)

theorem setRow_alloc_new (w : World) (c cs : Array Value) (t : TypeId) : (w.alloc (.cells c t)).setRow w.heap.size cs = w.alloc (.cells cs t) := by
  unfold World.setRow World.alloc
  congr 1
  apply Array.ext_getElem?
  intro k
  rw [Array.getElem?_modify]
  by_cases hk : w.heap.size = k
  · subst hk
    simp
  · have hk' : k ≠ w.heap.size := fun e => hk e.symm
    simp [hk, hk', Array.getElem?_push]

/-- Bytes, and 0 up to the length of a sector. -/
def padL (l : List UInt8) : List UInt8 := l ++ zerosL (512 - l.length)
theorem padL_length (l : List UInt8) (h : l.length ≤ 512) : (padL l).length = 512 := by
  unfold padL; rw [List.length_append, zerosL_length]; omega
theorem padL_full (l : List UInt8) (h : l.length = 512) : padL l = l := by
  unfold padL; rw [h]; exact List.append_nil l
theorem padL_nil : padL [] = zerosL 512 := by
  unfold padL; rfl
theorem zerosL_drop (n k : Nat) : (zerosL n).drop k = zerosL (n - k) := List.drop_replicate

theorem reads_cells {w : World} {a : Addr} {l : List UInt8} (h : ∀ i (hi : i < l.length), w.cell? ⟨a.block, a.off + i, none⟩ = some (byteV l[i])) (ha : a.spot = none) :
    ∀ j v, (l.map byteV)[j]? = some v → w.cell? (a.add j) = some v := by
  intro j v hj
  rw [List.getElem?_map] at hj
  obtain ⟨x, hx, rfl⟩ := Option.map_eq_some_iff.1 hj
  obtain ⟨hlt, rfl⟩ := List.getElem?_eq_some_iff.1 hx
  have hadd : a.add j = ⟨a.block, a.off + j, none⟩ := by
    unfold Addr.add; split
    · subst_vars; cases a; simp_all
    · rfl
  rw [hadd]; exact h j hlt

theorem run_copy512 {w : World} {v : Value} {l : List UInt8} {g : Nat} (h : Reads w v l g) (hl : l.length ≤ 512) (ty : TypeId) :
    (Builtin.copy_ #[39, 39] ty #[.slice (some ⟨w.heap.size, 0, none⟩) 512 512, v]).run Tryz.prog (w.alloc (.cells (rowA (zerosL 512)) 5)) =
      .ok (goInt l.length) (w.alloc (.cells (rowA (padL l)) 5)) := by
  have hsz : (Tryz.prog.info? 5).map (·.size) = some 1 := by
    obtain ⟨i0, hi, hz0, hz1, hz2⟩ := info_parts Tryz.info5
    rw [hi]; simp [hz1]
  obtain ⟨off, cap, ⟨rfl, hc⟩ | ⟨⟨a, rfl⟩, rfl⟩⟩ := h
  · by_cases h0 : l.length = 0
    · obtain rfl : l = [] := List.eq_nil_of_length_eq_zero h0
      rw [padL_nil]
      exact run_copy_none (P := Tryz.prog) _ _ _ _ 5 _ _ _ _ _ _ Tryz.underlying39 hsz (by simp)
    have hglt : g < w.heap.size := World.block_lt_of_cell? w ⟨g, off + 0, none⟩ (hc 0 (by omega))
    have := run_copy_row (P := Tryz.prog) (w.alloc (.cells (rowA (zerosL 512)) 5)) 39 39 ty 5 w.heap.size 0 512 512 ⟨g, off, none⟩ l.length cap (rowA (zerosL 512)) 5 (l.map byteV)
      Tryz.underlying39 hsz (heap_alloc_new w _) (by rw [List.length_map]; exact (Nat.min_eq_left hl).symm) (reads_cells (fun i hi => by
        rw [World.cell?_alloc_lt _ _ _ (by exact hglt)]; exact hc i hi) rfl) (by rw [List.length_map, rowA_size, zerosL_length]; omega) (by intro v hv; obtain ⟨x, _, rfl⟩ := List.mem_map.1 hv; rfl)
    rw [this, setRow_alloc_new, List.length_map]
    congr 4
    rw [rowA_list, List.take_zero, List.nil_append, Nat.zero_add, ← List.map_drop, ← List.map_append, zerosL_drop]
    rfl
  · rw [padL_nil]
    exact run_copy_none (P := Tryz.prog) _ _ _ _ 5 _ _ _ _ _ _ Tryz.underlying39 hsz (by simp)

set_option maxHeartbeats 400000 in
theorem sectorOf_any (v : Value) (l : List UInt8) (g : Nat) (w : World) (h : Reads w v l g) (hl : l.length ≤ 512) :
    Calls Tryz.prog 48 #[v] w fun e w' => e = .returned (.slice (some ⟨w.heap.size, 0, none⟩) 512 512) ∧ w.alloc (.cells (rowA (padL l)) 5) = w' := by
  have hmk := run_make512 w
  have hcp := run_copy512 h hl
  clear h hl
  generalize rowA (padL l) = Z at hcp ⊢
  generalize rowA (zerosL 512) = Z0 at hcp hmk
  go_enter Tryz.func48, Tryz.ntmps48
  go_wp2
  go_ret
  exact ⟨rfl, rfl⟩

end Go.Proofs.YthapggobpfcmjaaGreat

namespace Go.Proofs.YthapggobpfcmjaaGreat
open Go.RowKit

def kv0 (k : Nat) : Value × Value := (.int .i64 (k : Int), .agg #[])
/-- The entries of a map are these numbers, in this order. -/
def ISet (es : Array MapEntry) (l : List Nat) : Prop := es.toList.map (fun e => (e.key, e.val)) = l.map kv0
def insT (k : Nat) (l : List Nat) : List Nat := if k ∈ l then l else l ++ [k]

theorem ISet_nil : ISet #[] [] := rfl

theorem findNow_iset (k : Nat) : ∀ (es : List MapEntry) (l : List Nat) (i : Nat), es.map (fun e => (e.key, e.val)) = l.map kv0 →
    Instr.findNow (.int .i64) (.int .i64 (k : Int)) es i = some (if k ∈ l then some (i + l.idxOf k, .agg #[]) else none)
  | [], l, i, h => by
    obtain rfl : l = [] := by simpa using h.symm
    simp [Instr.findNow]
  | e :: es, [], i, h => by simp at h
  | e :: es, x :: l, i, h => by
    simp only [List.map_cons, List.cons.injEq, kv0, Prod.mk.injEq] at h
    obtain ⟨⟨hk, hv⟩, ht⟩ := h
    have ih := findNow_iset k es l (i + 1) ht
    by_cases hx : k = x
    · subst hx
      simp [Instr.findNow, hk, hv, Instr.sameNow]
    · have hx' : ¬ ((k : Int) = (x : Int)) := by omega
      have hb : ((k : Int) == (x : Int)) = false := by simpa using hx'
      have hxk : (x == k) = false := by simpa using Ne.symm hx
      simp only [Instr.findNow, hk, Instr.sameNow, if_true, hb, ih, List.mem_cons, hx, false_or, List.idxOf_cons, hxk, cond_false]
      congr 1
      split
      · congr 2; omega
      · rfl

theorem run_getObj_mp {P : Program} {w : World} {r : Nat} {es : Array MapEntry} {clock : Nat} (hb : w.heap[r]? = some (.map es clock)) : (getObj r).run P w = .ok (.map es clock) w := by simp [getObj, Sem.run, hb]
theorem run_setObj_mp {P : Program} {w : World} {r : Nat} {es : Array MapEntry} {clock : Nat} (o : Obj) (hb : w.heap[r]? = some (.map es clock)) : (setObj r o).run P w = .ok () (ChangeMaps.setBlock w r o) := by simp [setObj, Sem.run, hb, ChangeMaps.setBlock]

theorem ISet_at {es : Array MapEntry} {l : List Nat} (hs : ISet es l) {k : Nat} (hm : k ∈ l) :
    ∃ e, es[l.idxOf k]? = some e ∧ e.key = .int .i64 (k : Int) ∧ e.val = .agg #[] := by
  have h := congrArg (·[l.idxOf k]?) hs
  simp only [List.getElem?_map, Array.getElem?_toList] at h
  have hk : l[l.idxOf k]? = some k := by
    rw [List.getElem?_eq_getElem (List.idxOf_lt_length_of_mem hm), List.getElem_idxOf]
  rw [hk] at h
  obtain ⟨e, he, hkv⟩ := Option.map_eq_some_iff.1 h
  simp only [kv0, Prod.mk.injEq] at hkv
  exact ⟨e, he, hkv.1, hkv.2⟩

theorem eraseIdx_idxOf (k : Nat) : ∀ l : List Nat, k ∈ l → l.eraseIdx (l.idxOf k) = l.erase k
  | [], h => by simp at h
  | x :: l, h => by
    by_cases hx : x = k
    · subst hx; simp
    · have hxk : (x == k) = false := by simpa using hx
      have hm : k ∈ l := by simpa [Ne.symm hx] using h
      simp [List.idxOf_cons, hxk, eraseIdx_idxOf k l hm]

theorem map_eraseIdx {α β : Type} (f : α → β) : ∀ (l : List α) (i : Nat), (l.eraseIdx i).map f = (l.map f).eraseIdx i
  | [], i => by simp
  | x :: l, 0 => by simp
  | x :: l, i + 1 => by simp [map_eraseIdx f l i]

theorem map_modify_same {α β : Type} (f : α → β) (g : α → α) : ∀ (l : List α) (i : Nat), (∀ x, l[i]? = some x → f (g x) = f x) → (l.modify i g).map f = l.map f
  | [], i, _ => by simp
  | x :: l, 0, h => by simp [h x (by simp)]
  | x :: l, i + 1, h => by simp [map_modify_same f g l i (fun y hy => h y (by simpa using hy))]

section
variable {P : Program} {T K E : TypeId} (hT : P.underlying T = some (.map K E)) (hK : P.underlying K = some (.int .i64))
include hT hK

omit hT in
theorem run_checkKey_int (c : Bool) (q : IntKind) (k : Int) (w : World) : (Instr.checkKey c 10000 K (.int q k)).run P w = .ok () w := by
  have : ∀ n, (Instr.checkKey c (n + 1) K (.int q k)).run P w = .ok () w := by
    intro n
    simp [Instr.checkKey, run_underlying hK]
  exact this 9999

theorem run_lookup_iset (hz : ∀ w, (zeroValue E).run P w = .ok (.agg #[]) w) {es : Array MapEntry} {clk : Nat} {l : List Nat} (hs : ISet es l) {bm : Nat} (k : Nat) (w : World) (hb : w.heap[bm]? = some (.map es clk)) :
    (Instr.lookup T (.map (some bm)) (.int .i64 (k : Int)) true).run P w = .ok (.tuple #[.agg #[], .bool (decide (k ∈ l))]) w := by
  have hf := findNow_iset k es.toList l 0 hs
  by_cases hm : k ∈ l
  · simp [Instr.lookup, run_underlying hT, run_getObj_mp hb, run_checkKey_int hK, run_underlying hK, Instr.findKey, hf, hm]
  · simp [Instr.lookup, run_underlying hT, run_getObj_mp hb, run_checkKey_int hK, run_underlying hK, Instr.findKey, hf, hm, hz w]

theorem run_delete_iset {es : Array MapEntry} {clk : Nat} {l : List Nat} (hs : ISet es l) (k : Nat) :
    ∃ es', ISet es' (l.erase k) ∧ ∀ (ty : TypeId) (bm : Nat) (w : World), w.heap[bm]? = some (.map es clk) →
      (Builtin.delete_ #[T, K] ty #[.map (some bm), .int .i64 (k : Int)]).run P w = .ok (.tuple #[]) (ChangeMaps.setBlock w bm (.map es' clk)) := by
  have hf := findNow_iset k es.toList l 0 hs
  by_cases hm : k ∈ l
  · refine ⟨es.eraseIdxIfInBounds (l.idxOf k), ?_, ?_⟩
    · simp only [ISet] at hs ⊢
      rw [← eraseIdx_idxOf k l hm, map_eraseIdx, ← hs, ← map_eraseIdx]
      congr 1
      obtain ⟨e, he, _⟩ := ISet_at hs hm
      have hlt : l.idxOf k < es.size := (Array.getElem?_eq_some_iff.1 he).1
      simp [Array.eraseIdxIfInBounds, hlt]
    · intro ty bm w hb
      simp [Builtin.delete_, run_underlying hT, run_getObj_mp hb, run_setObj_mp _ hb, run_checkKey_int hK, run_underlying hK, Instr.findKey, hf, hm, ChangeMaps.setBlock]
  · refine ⟨es, ?_, ?_⟩
    · rw [List.erase_of_not_mem hm]; exact hs
    · intro ty bm w hb
      simp [Builtin.delete_, run_underlying hT, run_getObj_mp hb, run_setObj_mp _ hb, run_checkKey_int hK, run_underlying hK, Instr.findKey, hf, hm, ChangeMaps.setBlock]

theorem run_update_iset {es : Array MapEntry} {clk : Nat} {l : List Nat} (hs : ISet es l) (k : Nat) :
    ∃ es' clk', ISet es' (insT k l) ∧ ∀ (bm : Nat) (w : World), w.heap[bm]? = some (.map es clk) →
      (Instr.mapUpdate T (.map (some bm)) (.int .i64 (k : Int)) (.agg #[])).run P w = .ok () (ChangeMaps.setBlock w bm (.map es' clk')) := by
  have hf := findNow_iset k es.toList l 0 hs
  by_cases hm : k ∈ l
  · refine ⟨es.modify (l.idxOf k) (fun e => { e with key := .int .i64 (k : Int), val := .agg #[] }), clk, ?_, ?_⟩
    · obtain ⟨e, he, hk, hv⟩ := ISet_at hs hm
      simp only [ISet, insT, if_pos hm] at hs ⊢
      rw [← hs]
      rw [Array.toList_modify]
      refine map_modify_same _ _ _ _ fun x hx => ?_
      rw [Array.getElem?_toList, he] at hx
      obtain rfl := Option.some.inj hx
      simp [hk, hv]
    · intro bm w hb
      obtain ⟨e, he, hk, hv⟩ := ISet_at hs hm
      have hst : (Instr.keyThatStays (.int .i64 (k : Int)) (.int .i64 (k : Int))).run P w = .ok (.int .i64 (k : Int)) w := by
        have : ∀ n, Instr.sameBits (n + 1) (.int .i64 (k : Int)) (.int .i64 (k : Int)) = true := by intro n; simp [Instr.sameBits]
        have h2 : Instr.sameBits 10000 (.int .i64 (k : Int)) (.int .i64 (k : Int)) = true := this 9999
        simp [Instr.keyThatStays, h2]
      simp [Instr.mapUpdate, run_underlying hT, run_getObj_mp hb, run_setObj_mp _ hb, run_checkKey_int hK, run_underlying hK, Instr.findKey, hf, hm, he, hk, hst]
  · refine ⟨es.push { key := .int .i64 (k : Int), val := .agg #[], born := clk }, clk + 1, ?_, ?_⟩
    · simp only [ISet, insT, if_neg hm, Array.toList_push, List.map_append, List.map_cons, List.map_nil]
      rw [show List.map (fun e : MapEntry => (e.key, e.val)) es.toList = l.map kv0 from hs]
      rfl
    · intro bm w hb
      simp [Instr.mapUpdate, run_underlying hT, run_getObj_mp hb, run_setObj_mp _ hb, run_checkKey_int hK, run_underlying hK, Instr.findKey, hf, hm, ChangeMaps.setBlock]
end

end Go.Proofs.YthapggobpfcmjaaGreat

namespace Go.Proofs.YthapggobpfcmjaaGreat
open Go.RowKit

/-- A device as the document has it. -/
structure DSt where
  secs : List (List UInt8)
  waits : List (Nat × List UInt8)
  torn : List Nat
  reads : Nat
  writes : Nat
  flushes : Nat
  down : Bool
  armed : Bool
  left : Int
  keep : List Int

def secV : Option Nat → Value
  | none => .slice none 0 0
  | some g => .slice (some ⟨g, 0, none⟩) 512 512
def SecOk (w : World) (F : Nat → Prop) (o : Option Nat) (l : List UInt8) : Prop :=
  l.length = 512 ∧ ((o = none ∧ l = zerosL 512) ∨ ∃ g, o = some g ∧ F g ∧ ByteRow w g l)
def waitC (x : Nat × Nat × List UInt8) : List Value := [.int .i64 (x.1 : Int), .slice (some ⟨x.2.1, 0, none⟩) 512 512]
/-- A slice of ints that belongs to F. -/
def Ints (w : World) (F : Nat → Prop) (v : Value) (l : List Int) : Prop :=
  (∃ g cap c, v = .slice (some ⟨g, 0, none⟩) l.length cap ∧ F g ∧ w.heap[g]? = some (.cells c 3 (0, 0)) ∧ c.toList.take l.length = l.map (Value.int .i64)) ∨ ((∃ a cap, v = .slice a 0 cap) ∧ l = [])
def devC (s : DSt) (gs : Nat) (wv : Value) (bm : Nat) (kv : Value) : Array Value :=
  #[.slice (some ⟨gs, 0, none⟩) s.secs.length s.secs.length, wv, .map (some bm), .int .i64 s.reads, .int .i64 s.writes, .int .i64 s.flushes, .bool s.down, .bool s.armed, .int .i64 s.left, kv]

structure DevAt (w : World) (F : Nat → Prop) (b : Nat) (s : DSt) (gs : Nat) (S : List (Option Nat)) (wv : Value) (W : List (Nat × Nat × List UInt8)) (bm : Nat) (es : Array MapEntry) (clk : Nat) (kv : Value) : Prop where
  ownD : F b
  ownS : F gs
  ownM : F bm
  dev : w.heap[b]? = some (.cells (devC s gs wv bm kv) 64 (0, 0))
  rowS : w.heap[gs]? = some (.cells (S.map secV).toArray 39 (0, 0))
  lenS : S.length = s.secs.length
  secs : ∀ (i : Nat) o l, S[i]? = some o → s.secs[i]? = some l → SecOk w F o l
  rowW : w.ownsRow 0 90 2 wv W.length (W.flatMap waitC)
  ownW : ∀ k, wv.ownBlock = some k → F k
  waits : W.map (fun x => (x.1, x.2.2)) = s.waits
  data : ∀ x ∈ W, F x.2.1 ∧ ByteRow w x.2.1 x.2.2 ∧ x.2.2.length = 512 ∧ x.1 < s.secs.length
  map : w.heap[bm]? = some (.map es clk)
  torn : ISet es s.torn
  keep : Ints w F kv s.keep
  left : s.armed = true → 0 ≤ s.left
  left2 : s.left ≤ 9223372036854775807
  size : s.secs.length ≤ 20000

def Dev (w : World) (F : Nat → Prop) (b : Nat) (s : DSt) : Prop := ∃ gs S wv W bm es clk kv, DevAt w F b s gs S wv W bm es clk kv

section
variable {F G : Nat → Prop} {w w1 : World} {b gs bm clk : Nat} {s : DSt} {S : List (Option Nat)} {wv kv : Value} {W : List (Nat × Nat × List UInt8)} {es : Array MapEntry}

theorem SecOk.mono {o : Option Nat} {l : List UInt8} (h : SecOk w F o l) (hf : ∀ k, F k → G k) : SecOk w G o l :=
  ⟨h.1, h.2.imp id fun ⟨g, h1, h2, h3⟩ => ⟨g, h1, hf g h2, h3⟩⟩
theorem SecOk.touch {o : Option Nat} {l : List UInt8} (h : SecOk w F o l) (ht : Touch G w w1) (hd : ∀ k, F k → ¬ G k) : SecOk w1 F o l :=
  ⟨h.1, h.2.imp id fun ⟨g, h1, h2, h3⟩ => ⟨g, h1, h2, h3.touch ht (hd g h2)⟩⟩
theorem Ints.mono {v : Value} {l : List Int} (h : Ints w F v l) (hf : ∀ k, F k → G k) : Ints w G v l :=
  h.imp (fun ⟨g, cap, c, h1, h2, h3⟩ => ⟨g, cap, c, h1, hf g h2, h3⟩) id
theorem Ints.touch {v : Value} {l : List Int} (h : Ints w F v l) (ht : Touch G w w1) (hd : ∀ k, F k → ¬ G k) : Ints w1 F v l :=
  h.imp (fun ⟨g, cap, c, h1, h2, h3, h4⟩ => ⟨g, cap, c, h1, h2, ht.at h3 (hd g h2), h4⟩) id

theorem ownsRow_touch {base e size n : Nat} {v : Value} {xs : List Value} (h : w.ownsRow base e size v n xs) (ht : Touch G w w1) (hd : ∀ k, v.ownBlock = some k → ¬ G k) : w1.ownsRow base e size v n xs := by
  refine ⟨h.1, ?_⟩
  rcases h.2 with hn | ⟨g, cap, cur, rfl, hb, hgg, rest⟩
  · exact .inl hn
  · exact .inr ⟨g, cap, cur, rfl, hb, ht.at hgg (hd g rfl), rest⟩

theorem DevAt.mono (h : DevAt w F b s gs S wv W bm es clk kv) (hf : ∀ k, F k → G k) : DevAt w G b s gs S wv W bm es clk kv :=
  ⟨hf _ h.ownD, hf _ h.ownS, hf _ h.ownM, h.dev, h.rowS, h.lenS, fun i o l h1 h2 => (h.secs i o l h1 h2).mono hf, h.rowW, fun k hk => hf k (h.ownW k hk), h.waits,
    fun x hx => ⟨hf _ (h.data x hx).1, (h.data x hx).2⟩, h.map, h.torn, h.keep.mono hf, h.left, h.left2, h.size⟩
theorem DevAt.touch (h : DevAt w F b s gs S wv W bm es clk kv) (ht : Touch G w w1) (hd : ∀ k, F k → ¬ G k) : DevAt w1 F b s gs S wv W bm es clk kv :=
  ⟨h.ownD, h.ownS, h.ownM, ht.at h.dev (hd _ h.ownD), ht.at h.rowS (hd _ h.ownS), h.lenS, fun i o l h1 h2 => (h.secs i o l h1 h2).touch ht hd, ownsRow_touch h.rowW ht fun k hk => hd k (h.ownW k hk), h.ownW, h.waits,
    fun x hx => ⟨(h.data x hx).1, (h.data x hx).2.1.touch ht (hd _ (h.data x hx).1), (h.data x hx).2.2⟩, ht.at h.map (hd _ h.ownM), h.torn, h.keep.touch ht hd, h.left, h.left2, h.size⟩
theorem Dev.mono (h : Dev w F b s) (hf : ∀ k, F k → G k) : Dev w G b s := by
  obtain ⟨gs, S, wv, W, bm, es, clk, kv, h⟩ := h
  exact ⟨gs, S, wv, W, bm, es, clk, kv, h.mono hf⟩
theorem Dev.touch (h : Dev w F b s) (ht : Touch G w w1) (hd : ∀ k, F k → ¬ G k) : Dev w1 F b s := by
  obtain ⟨gs, S, wv, W, bm, es, clk, kv, h⟩ := h
  exact ⟨gs, S, wv, W, bm, es, clk, kv, h.touch ht hd⟩
end

theorem ne_of_obj {w : World} {a b : Nat} {o1 o2 : Obj} (h1 : w.heap[a]? = some o1) (h2 : w.heap[b]? = some o2) (h : o1 ≠ o2) : a ≠ b := by
  rintro rfl
  exact h (Option.some.inj (h1.symm.trans h2))
theorem cells_ne {c1 c2 : Array Value} {t1 t2 : TypeId} {f1 f2 : Nat × Nat} (h : t1 ≠ t2) : Obj.cells c1 t1 f1 ≠ Obj.cells c2 t2 f2 := fun e => h (by injection e)
theorem cells_ne_map {c1 : Array Value} {t1 : TypeId} {f1 : Nat × Nat} {es : Array MapEntry} {k : Nat} : Obj.cells c1 t1 f1 ≠ Obj.map es k := fun e => by cases e
theorem ownsRow_block {w : World} {base e size n : Nat} {v : Value} {xs : List Value} (h : w.ownsRow base e size v n xs) {k : Nat} (hk : v.ownBlock = some k) : ∃ cur, w.heap[k]? = some (.cells cur e (0, 0)) := by
  rcases h.2 with ⟨rfl, _⟩ | ⟨g, cap, cur, rfl, hb, hgg, rest⟩
  · simp [Value.ownBlock] at hk
  · simp [Value.ownBlock] at hk
    subst hk
    exact ⟨cur, hgg⟩

section
variable {F G : Nat → Prop} {w w1 : World} {b gs bm clk : Nat} {s : DSt} {S : List (Option Nat)} {wv kv : Value} {W : List (Nat × Nat × List UInt8)} {es : Array MapEntry}

theorem DevAt.b_gs (h : DevAt w F b s gs S wv W bm es clk kv) : gs ≠ b := ne_of_obj h.rowS h.dev (cells_ne (by decide))
theorem DevAt.b_bm (h : DevAt w F b s gs S wv W bm es clk kv) : bm ≠ b := (ne_of_obj h.dev h.map cells_ne_map).symm
theorem DevAt.gs_bm (h : DevAt w F b s gs S wv W bm es clk kv) : gs ≠ bm := ne_of_obj h.rowS h.map cells_ne_map
theorem DevAt.wv_ne (h : DevAt w F b s gs S wv W bm es clk kv) {k : Nat} (hk : wv.ownBlock = some k) : k ≠ b ∧ k ≠ gs ∧ k ≠ bm := by
  obtain ⟨cur, hc⟩ := ownsRow_block h.rowW hk
  exact ⟨ne_of_obj hc h.dev (cells_ne (by decide)), ne_of_obj hc h.rowS (cells_ne (by decide)), ne_of_obj hc h.map cells_ne_map⟩
theorem DevAt.data_ne (h : DevAt w F b s gs S wv W bm es clk kv) {k : Nat} {l : List UInt8} (hk : ByteRow w k l) : k ≠ b ∧ k ≠ gs ∧ k ≠ bm :=
  ⟨ne_of_obj hk h.dev (cells_ne (by decide)), ne_of_obj hk h.rowS (cells_ne (by decide)), ne_of_obj hk h.map cells_ne_map⟩
theorem SecOk.touch' {o : Option Nat} {l : List UInt8} (h : SecOk w F o l) (ht : Touch G w w1) (hd : ∀ k l, ByteRow w k l → ¬ G k) : SecOk w1 F o l :=
  ⟨h.1, h.2.imp id fun ⟨g, h1, h2, h3⟩ => ⟨g, h1, h2, h3.touch ht (hd g _ h3)⟩⟩
theorem Ints.touch' {v : Value} {l : List Int} (h : Ints w F v l) (ht : Touch G w w1) (hd : ∀ k c, w.heap[k]? = some (.cells c 3 (0, 0)) → ¬ G k) : Ints w1 F v l :=
  h.imp (fun ⟨g, cap, c, h1, h2, h3, h4⟩ => ⟨g, cap, c, h1, h2, ht.at h3 (hd g _ h3), h4⟩) id
theorem DevAt.int_ne (h : DevAt w F b s gs S wv W bm es clk kv) {k : Nat} {c : Array Value} (hk : w.heap[k]? = some (.cells c 3 (0, 0))) : k ≠ b ∧ k ≠ gs ∧ k ≠ bm :=
  ⟨ne_of_obj hk h.dev (cells_ne (by decide)), ne_of_obj hk h.rowS (cells_ne (by decide)), ne_of_obj hk h.map cells_ne_map⟩

/-- A cell of the device's own row. -/
theorem DevAt.cell (h : DevAt w F b s gs S wv W bm es clk kv) (i : Nat) : w.cell? ⟨b, i, none⟩ = (devC s gs wv bm kv)[i]? := cell_of_row w b i _ _ _ h.dev
theorem DevAt.free (h : DevAt w F b s gs S wv W bm es clk kv) (i : Nat) : w.frozen? ⟨b, i, none⟩ = false := frozen_of_row w b i _ _ h.dev
theorem DevAt.secCell (h : DevAt w F b s gs S wv W bm es clk kv) {i : Nat} (hi : i < s.secs.length) : ∃ o, S[i]? = some o ∧ w.cell? ⟨gs, i, none⟩ = some (secV o) := by
  have hi' : i < S.length := by rw [h.lenS]; exact hi
  exact ⟨S[i], List.getElem?_eq_getElem hi', by rw [cell_of_row w gs i _ _ _ h.rowS]; simp [hi']⟩

/-- The device's own row is written: what it points at stays. -/
theorem DevAt.put (h : DevAt w F b s gs S wv W bm es clk kv) (ht : Touch (fun k => k = b) w w1) {s' : DSt} {wv' kv' : Value} {W' : List (Nat × Nat × List UInt8)}
    (hdev : w1.heap[b]? = some (.cells (devC s' gs wv' bm kv') 64 (0, 0))) (hs : s'.secs = s.secs) (hto : s'.torn = s.torn)
    (hrow : w1.ownsRow 0 90 2 wv' W'.length (W'.flatMap waitC)) (hown : ∀ k, wv'.ownBlock = some k → F k) (hw : W'.map (fun x => (x.1, x.2.2)) = s'.waits)
    (hdata : ∀ x ∈ W', F x.2.1 ∧ ByteRow w1 x.2.1 x.2.2 ∧ x.2.2.length = 512 ∧ x.1 < s.secs.length) (hk : Ints w1 F kv' s'.keep) (hl : s'.armed = true → 0 ≤ s'.left) (hl2 : s'.left ≤ 9223372036854775807) :
    DevAt w1 F b s' gs S wv' W' bm es clk kv' :=
  ⟨h.ownD, h.ownS, h.ownM, hdev, ht.at h.rowS h.b_gs, by rw [hs]; exact h.lenS, fun i o l h1 h2 => (h.secs i o l h1 (hs ▸ h2)).touch' ht fun k l hk => (h.data_ne hk).1, hrow, hown, hw,
    fun x hx => by rw [hs]; exact hdata x hx, ht.at h.map h.b_bm, by rw [hto]; exact h.torn, hk, hl, hl2, by rw [hs]; exact h.size⟩
/-- The same, where the waits and the keep stay. -/
theorem DevAt.put1 (h : DevAt w F b s gs S wv W bm es clk kv) (ht : Touch (fun k => k = b) w w1) {s' : DSt}
    (hdev : w1.heap[b]? = some (.cells (devC s' gs wv bm kv) 64 (0, 0))) (hs : s'.secs = s.secs) (hto : s'.torn = s.torn) (hw : s'.waits = s.waits) (hk : s'.keep = s.keep)
    (hl : s'.armed = true → 0 ≤ s'.left) (hl2 : s'.left ≤ 9223372036854775807) : DevAt w1 F b s' gs S wv W bm es clk kv :=
  h.put ht hdev hs hto (ownsRow_touch h.rowW ht fun k hk => (h.wv_ne hk).1) h.ownW (by rw [hw]; exact h.waits)
    (fun x hx => ⟨(h.data x hx).1, (h.data x hx).2.1.touch ht (h.data_ne (h.data x hx).2.1).1, (h.data x hx).2.2⟩)
    (by rw [hk]; exact h.keep.touch' ht fun k c hc => (h.int_ne hc).1) hl hl2
end

def DSt.settle (s : DSt) (at_ : Nat) (l : List UInt8) : DSt := { s with secs := s.secs.set at_ l, torn := s.torn.erase at_ }

set_option maxHeartbeats 400000 in
theorem settle_walk (b gs bm n at_ g : Nat) (w Wf : World) (v0 : Value) (hat : at_ < n) (_hn : n ≤ 20000)
    (hc0 : w.cell? ⟨b, 0, none⟩ = some (.slice (some ⟨gs, 0, none⟩) n n)) (hc2 : w.cell? ⟨b, 2, none⟩ = some (.map (some bm)))
    (hcs : w.cell? ⟨gs, at_, none⟩ = some v0) (hfs : w.frozen? ⟨gs, at_, none⟩ = false) (hne : gs ≠ b) (hb : b < w.heap.size) (hg : gs < w.heap.size)
    (hdel : ∀ ty, (Builtin.delete_ #[61, 3] ty #[.map (some bm), .int .i64 (at_ : Int)]).run Tryz.prog
      ((w.setCell ⟨gs, at_, none⟩ (.slice (some ⟨g, 0, none⟩) 512 512)).alloc (.cells #[.int .i64 (at_ : Int), .slice (some ⟨g, 0, none⟩) 512 512] 90)).drew.drew = .ok (.tuple #[]) Wf) :
    Calls Tryz.prog 35 #[.pointer (some ⟨b, 0, none⟩), .agg #[.int .i64 (at_ : Int), .slice (some ⟨g, 0, none⟩) 512 512]] w fun e w' =>
      e = .returned (.tuple #[]) ∧ Wf = w' := by
  go_enter Tryz.func35, Tryz.ntmps35
  go_wp2
  go_region
  go_wp2
  go_region
  all_goals (go_wp2; go_end0; exact ⟨rfl, rfl⟩)


theorem heap_setBlock_same {w : World} {b : Nat} {o o' : Obj} (h : w.heap[b]? = some o) : (ChangeMaps.setBlock w b o').heap[b]? = some o' := by
  simp [ChangeMaps.setBlock, lt_of_heap h]
theorem heap_setBlock_other {w : World} {b k : Nat} {o' : Obj} (h : k ≠ b) : (ChangeMaps.setBlock w b o').heap[k]? = w.heap[k]? := by
  simp only [ChangeMaps.setBlock]; exact Array.getElem?_setIfInBounds_ne h.symm

theorem settle_any {F : Nat → Prop} {w : World} {b gs bm clk : Nat} {s : DSt} {S : List (Option Nat)} {wv kv : Value} {W : List (Nat × Nat × List UInt8)} {es : Array MapEntry}
    (h : DevAt w F b s gs S wv W bm es clk kv) (at_ g : Nat) (l : List UInt8) (hat : at_ < s.secs.length) (hg : F g) (hl : ByteRow w g l) (hlen : l.length = 512) :
    Calls Tryz.prog 35 #[.pointer (some ⟨b, 0, none⟩), .agg #[.int .i64 (at_ : Int), .slice (some ⟨g, 0, none⟩) 512 512]] w fun e w' =>
      e = .returned (.tuple #[]) ∧ ∃ S' es', Touch (fun k => k = gs ∨ k = bm) w w' ∧ DevAt w' F b (s.settle at_ l) gs S' wv W bm es' clk kv := by
  obtain ⟨o, hS, hcs⟩ := h.secCell hat
  obtain ⟨es', hes', hrun⟩ := run_delete_iset (P := Tryz.prog) Tryz.underlying61 Tryz.underlying3 (clk := clk) h.torn at_
  have hgs := lt_of_heap h.rowS
  have hbm := lt_of_heap h.map
  have hst := heap_setCell_same w gs at_ _ _ (secV (some g)) h.rowS
  have ht : Touch (fun k => k = gs ∨ k = bm) w (((w.setCell ⟨gs, at_, none⟩ (.slice (some ⟨g, 0, none⟩) 512 512)).alloc (.cells #[.int .i64 (at_ : Int), .slice (some ⟨g, 0, none⟩) 512 512] 90)).drew.drew) :=
    ((((Touch.refl _ w).setCell (a := ⟨gs, at_, none⟩) (.inl (.inl rfl)) _).alloc _).drew).drew
  have hm2 : (((w.setCell ⟨gs, at_, none⟩ (.slice (some ⟨g, 0, none⟩) 512 512)).alloc (.cells #[.int .i64 (at_ : Int), .slice (some ⟨g, 0, none⟩) 512 512] 90)).drew.drew).heap[bm]? = some (.map es clk) := by
    show ((w.setCell ⟨gs, at_, none⟩ (.slice (some ⟨g, 0, none⟩) 512 512)).alloc _).heap[bm]? = _
    rw [Below.heap_alloc _ _ _ (by simpa using hbm), heap_setCell_other _ _ _ _ (by exact h.gs_bm.symm)]
    exact h.map
  refine (settle_walk b gs bm s.secs.length at_ g w _ _ hat h.size (by rw [h.cell]; rfl) (by rw [h.cell]; rfl) hcs (frozen_of_row _ _ _ _ _ h.rowS) h.b_gs (lt_of_heap h.dev) hgs
    (fun ty => hrun ty bm _ hm2)).mono ?_
  rintro e w' ⟨he, rfl⟩
  refine ⟨he, S.set at_ (some g), es', ht.setBlock (.inl (.inr rfl)) _, ?_⟩
  have ht' : Touch (fun k => k = gs ∨ k = bm) w _ := ht.setBlock (g := bm) (.inl (.inr rfl)) (.map es' clk)
  have hdat : ∀ k l, ByteRow w k l → ¬ (k = gs ∨ k = bm) := fun k l hk => by have := h.data_ne hk; omega
  refine ⟨h.ownD, h.ownS, h.ownM, ?_, ?_, ?_, ?_, ?_, h.ownW, h.waits, ?_, heap_setBlock_same hm2, hes', ?_, h.left, h.left2, ?_⟩
  · have := ht'.at h.dev (by have := h.b_gs; have := h.b_bm; omega)
    simpa [devC, DSt.settle] using this
  · rw [heap_setBlock_other h.gs_bm]
    show ((w.setCell ⟨gs, at_, none⟩ (.slice (some ⟨g, 0, none⟩) 512 512)).alloc _).heap[gs]? = _
    rw [Below.heap_alloc _ _ _ (by simpa using hgs)]
    refine hst.trans ?_
    simp [List.map_set]
  · simp [DSt.settle, h.lenS]
  · intro i o' l' h1 h2
    simp only [DSt.settle, List.getElem?_set] at h1 h2
    by_cases hi : at_ = i
    · subst hi
      simp [hat, h.lenS] at h1 h2
      subst h1 h2
      exact ⟨hlen, .inr ⟨g, rfl, hg, hl.touch ht' (hdat g _ hl)⟩⟩
    · simp [hi] at h1 h2
      exact (h.secs i o' l' h1 h2).touch' ht' hdat
  · exact ownsRow_touch h.rowW ht' fun k hk => by have := h.wv_ne hk; omega
  · intro x hx
    have hd := h.data x hx
    exact ⟨hd.1, hd.2.1.touch ht' (hdat _ _ hd.2.1), hd.2.2.1, by simpa [DSt.settle] using hd.2.2.2⟩
  · exact h.keep.touch' ht' fun k c hc => by have := h.int_ne hc; omega
  · simpa [DSt.settle] using h.size

end Go.Proofs.YthapggobpfcmjaaGreat

namespace Go.Proofs.YthapggobpfcmjaaGreat
open Go.RowKit

def DSt.tear (s : DSt) (at_ : Nat) : DSt := { s with torn := insT at_ s.torn }
def DSt.one (s : DSt) (x : Nat × List UInt8) (k : Int) : DSt := if k = 1 then s.settle x.1 x.2 else if k = 2 then s.tear x.1 else s
def DSt.crashW : List (Nat × List UInt8) → List Int → DSt → DSt
  | x :: xs, k :: ks, s => crashW xs ks (s.one x k)
  | _, _, s => s
def DSt.crash (s : DSt) (keep : List Int) : DSt := { DSt.crashW s.waits keep s with waits := [], down := true, armed := false, left := 0, keep := [] }

theorem crashW_snoc : ∀ (xs : List (Nat × List UInt8)) (ks : List Int) (s : DSt) (x : Nat × List UInt8) (k : Int), xs.length = ks.length →
    DSt.crashW (xs ++ [x]) (ks ++ [k]) s = (DSt.crashW xs ks s).one x k
  | [], [], s, x, k, _ => rfl
  | a :: xs, c :: ks, s, x, k, h => crashW_snoc xs ks _ x k (by simpa using h)
  | [], _ :: _, _, _, _, h => by simp at h
  | _ :: _, [], _, _, _, h => by simp at h
theorem crashW_take : ∀ (xs : List (Nat × List UInt8)) (ks : List Int) (s : DSt) (n : Nat), n = min xs.length ks.length → DSt.crashW (xs.take n) (ks.take n) s = DSt.crashW xs ks s
  | [], ks, s, n, h => by simp [DSt.crashW]
  | x :: xs, [], s, n, h => by simp at h; subst h; simp [DSt.crashW]
  | x :: xs, k :: ks, s, n, h => by
    obtain rfl : n = min xs.length ks.length + 1 := by simp at h; omega
    simp [DSt.crashW, crashW_take xs ks _ _ rfl]
theorem one_secs (s : DSt) (x : Nat × List UInt8) (k : Int) : (s.one x k).secs.length = s.secs.length := by
  unfold DSt.one; split
  · simp [DSt.settle]
  · split <;> rfl
theorem one_waits (s : DSt) (x : Nat × List UInt8) (k : Int) : (s.one x k).waits = s.waits := by
  unfold DSt.one; split
  · rfl
  · split <;> rfl
theorem crashW_secs : ∀ (xs : List (Nat × List UInt8)) (ks : List Int) (s : DSt), (DSt.crashW xs ks s).secs.length = s.secs.length
  | x :: xs, k :: ks, s => (crashW_secs xs ks _).trans (one_secs s x k)
  | [], _, _ => rfl
  | _ :: _, [], _ => rfl

/-- A slice value that reads as ints; its block is g. -/
def IReads (w : World) (v : Value) (l : List Int) (g : Nat) : Prop :=
  ∃ off cap, (v = .slice (some ⟨g, off, none⟩) l.length cap ∧ ∀ i (h : i < l.length), w.cell? ⟨g, off + i, none⟩ = some (.int .i64 l[i])) ∨ ((∃ a, v = .slice a 0 cap) ∧ l = [])
theorem IReads.touch {F : Nat → Prop} {w w1 : World} {v : Value} {g : Nat} {l : List Int} (h : IReads w v l g) (ht : Touch F w w1) (hF : ¬ F g) : IReads w1 v l g := by
  obtain ⟨off, cap, ⟨rfl, hc⟩ | ⟨ha, rfl⟩⟩ := h
  · refine ⟨off, cap, .inl ⟨rfl, fun i hi => ?_⟩⟩
    have := hc i hi
    rw [← this]
    exact World.cell?_of_block (ht.block g (World.block_lt_of_cell? w ⟨g, off + i, none⟩ this) hF)
  · exact ⟨off, cap, .inr ⟨ha, rfl⟩⟩

def Two (gs bm k : Nat) : Prop := k = gs ∨ k = bm
/-- How far Crash has come at its k-th write. -/
def CrashInv (w : World) (F : Nat → Prop) (b : Nat) (s : DSt) (gs : Nat) (wv : Value) (W : List (Nat × Nat × List UInt8)) (bm : Nat) (kv : Value) (keep : List Int) (k : Nat) (wr : World) : Prop :=
  Touch (Two gs bm) w wr ∧ ∃ S es clk, DevAt wr F b (DSt.crashW (s.waits.take k) (keep.take k) s) gs S wv W bm es clk kv

theorem waitC_at : ∀ (W : List (Nat × Nat × List UInt8)) (k : Nat) (h : k < W.length),
    (W.flatMap waitC)[k * 2]? = some (.int .i64 (W[k].1 : Int)) ∧ (W.flatMap waitC)[k * 2 + 1]? = some (.slice (some ⟨W[k].2.1, 0, none⟩) 512 512)
  | [], k, h => by simp at h
  | x :: W, 0, _ => by simp [waitC]
  | x :: W, k + 1, h => by
    have ih := waitC_at W k (by simpa using h)
    rw [show (k + 1) * 2 = k * 2 + 2 by omega]
    simpa [waitC] using ih

theorem add_lit (g j : Nat) : (⟨g, 0, none⟩ : Addr).add j = ⟨g, j, none⟩ := by unfold Addr.add; split <;> simp_all

theorem DevAt.waitCell {F : Nat → Prop} {w : World} {b gs bm clk : Nat} {s : DSt} {S : List (Option Nat)} {wv kv : Value} {W : List (Nat × Nat × List UInt8)} {es : Array MapEntry}
    (h : DevAt w F b s gs S wv W bm es clk kv) {gw n wcap : Nat} (hwv : wv = .slice (some ⟨gw, 0, none⟩) n wcap) {k : Nat} (hk : k < W.length) :
    w.cell? ⟨gw, k * 2, none⟩ = some (.int .i64 (W[k].1 : Int)) ∧ w.cell? ⟨gw, k * 2 + 1, none⟩ = some (.slice (some ⟨W[k].2.1, 0, none⟩) 512 512) := by
  have hc := h.rowW.cells (g := gw) (by rw [hwv]; rfl)
  have ha := waitC_at W k hk
  have h1 := hc _ _ ha.1
  have h2 := hc _ _ ha.2
  rw [add_lit] at h1 h2
  exact ⟨h1, h2⟩

set_option maxHeartbeats 400000 in
theorem disarm_any (b : Nat) (w : World) (c : Array Value) (h : w.heap[b]? = some (.cells c 64 (0, 0))) (hs : c.size = 10) :
    Calls Tryz.prog 36 #[.pointer (some ⟨b, 0, none⟩)] w fun e w' => e = .returned (.tuple #[]) ∧
      ((w.setCell ⟨b, 7, none⟩ (.bool false)).setCell ⟨b, 8, none⟩ (.int .i64 0)).setCell ⟨b, 9, none⟩ (.slice none 0 0) = w' := by
  have h7 : w.cell? ⟨b, 7, none⟩ = some c[7] := by rw [cell_of_row w b 7 _ _ _ h]; simp [hs]
  have h8 : w.cell? ⟨b, 8, none⟩ = some c[8] := by rw [cell_of_row w b 8 _ _ _ h]; simp [hs]
  have h9 : w.cell? ⟨b, 9, none⟩ = some c[9] := by rw [cell_of_row w b 9 _ _ _ h]; simp [hs]
  have f7 := frozen_of_row w b 7 _ _ h
  have f8 := frozen_of_row w b 8 _ _ h
  have f9 := frozen_of_row w b 9 _ _ h
  generalize c[7] = v0 at h7
  generalize c[8] = v1 at h8
  generalize c[9] = v2 at h9
  clear h hs
  go_enter Tryz.func36, Tryz.ntmps36
  go_wp2
  go_end0
  exact ⟨rfl, rfl⟩

theorem inv_step {F : Nat → Prop} {w wr w1 : World} {b gs bm : Nat} {s : DSt} {wv kv : Value} {W : List (Nat × Nat × List UInt8)} {keep : List Int} {k : Nat}
    (hw : W.map (fun x => (x.1, x.2.2)) = s.waits) (hlt : k < W.length) (hlk : k < keep.length) {x : Nat × Nat × List UInt8} (hx : x = W[k]) {q : Int} (hq : q = keep[k])
    (ht : Touch (Two gs bm) w wr) (ht2 : Touch (Two gs bm) wr w1) {S : List (Option Nat)} {es : Array MapEntry} {clk : Nat}
    (hd : DevAt w1 F b ((DSt.crashW (s.waits.take k) (keep.take k) s).one (x.1, x.2.2) q) gs S wv W bm es clk kv) : CrashInv w F b s gs wv W bm kv keep (k + 1) w1 := by
  refine ⟨ht.trans ht2 fun _ h _ => h, S, es, clk, ?_⟩
  have hlw : k < s.waits.length := by rw [← hw]; simpa using hlt
  have e1 : s.waits.take (k + 1) = s.waits.take k ++ [(x.1, x.2.2)] := by
    rw [List.take_succ_eq_append_getElem hlw]
    congr 2
    have : s.waits[k]? = some (x.1, x.2.2) := by rw [← hw, hx]; simp [hlt]
    exact (List.getElem?_eq_some_iff.1 this).2
  have e2 : keep.take (k + 1) = keep.take k ++ [q] := by rw [List.take_succ_eq_append_getElem hlk, hq]
  rw [e1, e2, crashW_snoc _ _ _ _ _ (by simp; omega)]
  exact hd

theorem tear_dev {F : Nat → Prop} {w : World} {b gs bm clk : Nat} {s : DSt} {S : List (Option Nat)} {wv kv : Value} {W : List (Nat × Nat × List UInt8)} {es : Array MapEntry}
    (h : DevAt w F b s gs S wv W bm es clk kv) (at_ : Nat) {es' : Array MapEntry} {clk' : Nat} (he : ISet es' (insT at_ s.torn)) :
    DevAt (ChangeMaps.setBlock w bm (.map es' clk')) F b (s.tear at_) gs S wv W bm es' clk' kv := by
  have ht : Touch (fun k => k = bm) w (ChangeMaps.setBlock w bm (.map es' clk')) := (Touch.refl (fun k => k = bm) w).setBlock (g := bm) (.inl rfl) _
  have hdat : ∀ k l, ByteRow w k l → ¬ (k = bm) := fun k l hk => (h.data_ne hk).2.2
  exact ⟨h.ownD, h.ownS, h.ownM, ht.at h.dev h.b_bm.symm, ht.at h.rowS h.gs_bm, h.lenS, fun i o l h1 h2 => (h.secs i o l h1 h2).touch' ht hdat,
    ownsRow_touch h.rowW ht fun k hk => (h.wv_ne hk).2.2, h.ownW, h.waits, fun x hx => ⟨(h.data x hx).1, (h.data x hx).2.1.touch ht (hdat _ _ (h.data x hx).2.1), (h.data x hx).2.2⟩,
    heap_setBlock_same h.map, he, h.keep.touch' ht fun k c hc => (h.int_ne hc).2.2, h.left, h.left2, h.size⟩

def CrashPost (w : World) (F : Nat → Prop) (b : Nat) (s : DSt) (gs : Nat) (wv : Value) (W : List (Nat × Nat × List UInt8)) (bm : Nat) (kv : Value) (keep : List Int) (k : Nat) (w' : World) : Prop :=
  ∃ wr, CrashInv w F b s gs wv W bm kv keep k wr ∧ Touch (fun k => k = b) wr w' ∧ ∀ c, wr.heap[b]? = some (.cells c 64 (0, 0)) →
    w'.heap[b]? = some (.cells (((((c.setIfInBounds 1 (.slice none 0 0)).setIfInBounds 6 (.bool true)).setIfInBounds 7 (.bool false)).setIfInBounds 8 (.int .i64 0)).setIfInBounds 9 (.slice none 0 0)) 64 (0, 0))

theorem crash_post {w wr : World} {F : Nat → Prop} {b : Nat} {s : DSt} {gs : Nat} {wv : Value} {W : List (Nat × Nat × List UInt8)} {bm : Nat} {kv : Value} {keep : List Int} {k : Nat} (h : CrashInv w F b s gs wv W bm kv keep k wr) :
    CrashPost w F b s gs wv W bm kv keep k (((((wr.setCell ⟨b, 1, none⟩ (.slice none 0 0)).setCell ⟨b, 6, none⟩ (.bool true)).setCell ⟨b, 7, none⟩ (.bool false)).setCell ⟨b, 8, none⟩ (.int .i64 0)).setCell ⟨b, 9, none⟩ (.slice none 0 0)) := by
  refine ⟨wr, h, ?_, fun c hc => ?_⟩
  · exact ((((((Touch.refl (fun k => k = b) wr).setCell (a := ⟨b, 1, none⟩) (.inl rfl) _).setCell (a := ⟨b, 6, none⟩) (.inl rfl) _).setCell (a := ⟨b, 7, none⟩) (.inl rfl) _).setCell (a := ⟨b, 8, none⟩) (.inl rfl) _).setCell (a := ⟨b, 9, none⟩) (.inl rfl) _)
  · exact heap_setCell_same _ _ _ _ _ _ (heap_setCell_same _ _ _ _ _ _ (heap_setCell_same _ _ _ _ _ _ (heap_setCell_same _ _ _ _ _ _ (heap_setCell_same _ _ _ _ _ _ hc))))
theorem CrashPost.alloc {w w1 : World} {F : Nat → Prop} {b : Nat} {s : DSt} {gs : Nat} {wv : Value} {W : List (Nat × Nat × List UInt8)} {bm : Nat} {kv : Value} {keep : List Int} {k : Nat} (h : CrashPost w F b s gs wv W bm kv keep k w1) (o : Obj) :
    CrashPost w F b s gs wv W bm kv keep k (w1.alloc o) := by
  obtain ⟨wr, h1, h2, h3⟩ := h
  exact ⟨wr, h1, h2.alloc o, fun c hc => (Below.heap_alloc _ _ _ (lt_of_heap (h3 c hc))).trans (h3 c hc)⟩

set_option maxHeartbeats 1000000 in
theorem crash_walk {F : Nat → Prop} {w : World} {b gs bm clk : Nat} {s : DSt} {S : List (Option Nat)} {wv kv : Value} {W : List (Nat × Nat × List UInt8)} {es : Array MapEntry}
    (h : DevAt w F b s gs S wv W bm es clk kv) (wa : Option Addr) (wcap : Nat) (hwv : wv = .slice wa W.length wcap) (hwa : W ≠ [] → ∃ gw, wa = some ⟨gw, 0, none⟩) (a : Option Addr) (g : Nat) (keep : List Int) (kcap : Nat)
    (hk : keep ≠ [] → ∃ off, a = some ⟨g, off, none⟩ ∧ ∀ i (h : i < keep.length), w.cell? ⟨g, off + i, none⟩ = some (.int .i64 keep[i])) (hg : g ≠ b ∧ g ≠ gs ∧ g ≠ bm) (hsz : W.length < 4294967296) :
    Calls Tryz.prog 14 #[.pointer (some ⟨b, 0, none⟩), .slice a keep.length kcap] w fun e w' => e = .returned (.tuple #[]) ∧
      CrashPost w F b s gs wv W bm kv keep (min W.length keep.length) w' := by
  have hc1 : w.cell? ⟨b, 1, none⟩ = some (.slice wa W.length wcap) := by rw [h.cell, ← hwv]; rfl
  have HWV := Lib.hid hwv
  clear hwv
  have HK := Lib.hid hk
  clear hk
  have H := Lib.hid h
  clear h
  have HWA := Lib.hid hwa
  clear hwa
  go_enter Tryz.func14, Tryz.ntmps14
  go_wp2
  go_loopw [11] (fun i wr => ∃ k : Nat, k ≤ W.length ∧ k ≤ keep.length ∧ i = .int .i64 k ∧ CrashInv w F b s gs wv W bm kv keep k wr) (fun i _ => W.length - (intOf i).toNat)
  case atStart => exact ⟨0, Nat.zero_le _, Nat.zero_le _, rfl, Touch.refl _ _, S, es, clk, by simpa [DSt.crashW] using H.out⟩
  case round =>
    obtain ⟨k, hkW, hkK, rfl, ht, S1, es1, clk1, hd⟩ := hrel
    have HD := Lib.hid hd
    by_cases hlt : k < W.length
    · obtain ⟨gw, rfl⟩ := HWA.out (by rintro rfl; simp at hlt)
      obtain ⟨hcA, hcB⟩ := hd.waitCell HWV.out hlt
      obtain ⟨x, hx⟩ : ∃ x, x = W[k] := ⟨_, rfl⟩
      have hxm : x ∈ W := by rw [hx]; exact List.getElem_mem hlt
      have HX := Lib.hid hx
      rw [← hx] at hcA hcB
      have hdx := hd.data x hxm
      have hdb := lt_of_heap hd.dev
      have hD : ∀ o, DevAt (wr.alloc o) F b _ gs S1 wv W bm es1 clk1 kv := fun o => hd.touch ((Touch.refl Emp wr).alloc o) (fun _ _ h => h)
      have HD := Lib.hid hD
      have HD0 := Lib.hid hd
      have HDX := Lib.hid hdx
      clear hd hx hD hxm hdx hc1
      by_cases hlk : k < keep.length
      · obtain ⟨off, rfl, hcells⟩ := HK.out (by rintro rfl; simp at hlk)
        have HCS := Lib.hid hcells
        clear hcells
        have hkk : wr.cell? ⟨g, off + k, none⟩ = some (.int .i64 keep[k]) := by
          have := HCS.out k hlk
          rw [← this]
          exact World.cell?_of_block (ht.block g (World.block_lt_of_cell? w ⟨g, off + k, none⟩ this) (by have := hg.2; unfold Two; omega))
        have hgg := World.block_lt_of_cell? wr ⟨g, off + k, none⟩ hkk
        have hgg : g < wr.heap.size := hgg
        obtain ⟨q, hq⟩ : ∃ q, q = keep[k] := ⟨_, rfl⟩
        have HQ := Lib.hid hq
        rw [← hq] at hkk
        clear hq
        by_cases h1 : q = 1
        · subst h1
          go_wp2_with fail
          refine (settle_any (HD.out _) x.1 x.2.1 x.2.2 HDX.out.2.2.2 HDX.out.1 (HDX.out.2.1.touch ((Touch.refl Emp wr).alloc _) id) HDX.out.2.2.1).mono ?_
          rintro e w1 ⟨rfl, S2, es2, ht2, hd2⟩
          go_wp2
          go_roundw
          case rel => exact ⟨k + 1, by omega, by omega, by go_num, inv_step H.out.waits hlt hlk HX.out HQ.out ht ((((Touch.refl _ wr).alloc _).trans ht2 fun _ h _ => h)) hd2⟩
          case measure => simp [intOf]; omega
        · have h1b : (q == 1) = false := by simpa using h1
          by_cases h2 : q = 2
          · subst h2
            obtain ⟨es2, clk2, hes2, hrun⟩ := run_update_iset (P := Tryz.prog) Tryz.underlying61 Tryz.underlying3 (clk := clk1) (HD.out (.map #[] 0)).torn x.1
            have hc2 : wr.cell? ⟨b, 2, none⟩ = some (.map (some bm)) := by
              have := (HD.out (.map #[] 0)).cell 2
              rw [World.cell?_alloc_lt _ _ _ (by exact hdb)] at this
              exact this
            have hupd : (Instr.mapUpdate 61 (.map (some bm)) (.int .i64 (x.1 : Int)) (.agg #[])).run Tryz.prog ((wr.alloc (.cells #[.int .i64 (x.1 : Int), .slice (some ⟨x.2.1, 0, none⟩) 512 512] 90)).drew) =
              .ok () (ChangeMaps.setBlock (wr.alloc (.cells #[.int .i64 (x.1 : Int), .slice (some ⟨x.2.1, 0, none⟩) 512 512] 90)).drew bm (.map es2 clk2)) := by
              refine hrun bm _ (HD.out _).map
            go_wp2
            go_region
            go_wp2
            go_roundw
            case rel =>
              refine ⟨k + 1, by omega, by omega, by go_num, inv_step H.out.waits hlt hlk HX.out HQ.out ht ((((Touch.refl _ wr).alloc _).drew).setBlock (g := bm) (.inl (.inr rfl)) _) (S := S1) (es := es2) (clk := clk2) ?_⟩
              exact tear_dev ((HD.out _).touch (w1 := (wr.alloc (.cells #[.int .i64 (x.1 : Int), .slice (some ⟨x.2.1, 0, none⟩) 512 512] 90)).drew) (Touch.refl Emp _).drew fun _ _ h => h) x.1 hes2
            case measure => simp [intOf]; omega
          · have h2b : (q == 2) = false := by simpa using h2
            have h3 : DSt.one (DSt.crashW (s.waits.take k) (keep.take k) s) (x.1, x.2.2) q = DSt.crashW (s.waits.take k) (keep.take k) s := by unfold DSt.one; rw [if_neg h1, if_neg h2]
            have H3 := Lib.hid h3
            clear h3
            go_wp2
            go_roundw
            case rel => exact ⟨k + 1, by omega, by omega, by go_num, inv_step H.out.waits hlt hlk HX.out HQ.out ht ((Touch.refl _ wr).alloc _) (by rw [H3.out]; exact HD.out _)⟩
            case measure => simp [intOf]; omega
      · have hkk : k = min W.length keep.length := by omega
        have HKK := Lib.hid hkk
        clear hkk
        have hdev := HD0.out.dev
        have d1 := cell_of_row wr b 1 _ _ _ hdev
        have d6 := cell_of_row wr b 6 _ _ _ hdev
        simp only [devC, List.getElem?_toArray, List.getElem?_cons_succ, List.getElem?_cons_zero] at d1 d6
        have f1 := frozen_of_row wr b 1 _ _ hdev
        have f6 := frozen_of_row wr b 6 _ _ hdev
        have hx := fun o => (Below.heap_alloc _ o b (by simpa using hdb)).trans (heap_setCell_same _ b 6 _ _ (.bool true) (heap_setCell_same _ b 1 _ _ (.slice none 0 0) hdev))
        have HXX := Lib.hid hx
        clear hx hdev
        go_wp2_with fail
        refine (disarm_any b _ _ (HXX.out _) (by simp [devC])).mono ?_
        rintro e w1 ⟨rfl, hw1⟩
        have HW1 := Lib.hid hw1
        clear hw1
        go_wp2
        go_end0
        refine ⟨rfl, ?_⟩
        have hp := (crash_post (w := w) (wr := wr) (F := F) (b := b) (s := s) (gs := gs) (wv := wv) (W := W) (bm := bm) (kv := kv) (keep := keep) (k := k) ⟨ht, S1, es1, clk1, HD0.out⟩).alloc (.cells #[.int .i64 (x.1 : Int), .slice (some ⟨x.2.1, 0, none⟩) 512 512] 90)
        rw [← HKK.out, ← HW1.out]
        simpa only [World.setCell_alloc_past, World.size_setCell, hdb] using hp
    · have hkk : k = min W.length keep.length := by omega
      have HKK := Lib.hid hkk
      clear hkk
      have hdev := hd.dev
      have hdb := lt_of_heap hd.dev
      have d1 := cell_of_row wr b 1 _ _ _ hdev
      have d6 := cell_of_row wr b 6 _ _ _ hdev
      simp only [devC, List.getElem?_toArray, List.getElem?_cons_succ, List.getElem?_cons_zero] at d1 d6
      have f1 := frozen_of_row wr b 1 _ _ hdev
      have f6 := frozen_of_row wr b 6 _ _ hdev
      have hx := heap_setCell_same _ b 6 _ _ (.bool true) (heap_setCell_same _ b 1 _ _ (.slice none 0 0) hdev)
      have HXX := Lib.hid hx
      have HD0 := Lib.hid hd
      clear hx hdev hd hc1
      go_wp2_with fail
      refine (disarm_any b _ _ HXX.out (by simp [devC])).mono ?_
      rintro e w1 ⟨rfl, hw1⟩
      have HW1 := Lib.hid hw1
      clear hw1
      go_wp2
      go_end0
      refine ⟨rfl, ?_⟩
      have hp := crash_post (w := w) (wr := wr) (F := F) (b := b) (s := s) (gs := gs) (wv := wv) (W := W) (bm := bm) (kv := kv) (keep := keep) (k := k) ⟨ht, S1, es1, clk1, HD0.out⟩
      rw [← HKK.out, ← HW1.out]
      exact hp

theorem DevAt.wvForm {F : Nat → Prop} {w : World} {b gs bm clk : Nat} {s : DSt} {S : List (Option Nat)} {wv kv : Value} {W : List (Nat × Nat × List UInt8)} {es : Array MapEntry}
    (h : DevAt w F b s gs S wv W bm es clk kv) : ∃ wa wcap, wv = .slice wa W.length wcap ∧ (W ≠ [] → ∃ gw, wa = some ⟨gw, 0, none⟩) := by
  rcases h.rowW.2 with ⟨hv, hn⟩ | ⟨g, cap, cur, hv, _⟩
  · exact ⟨none, 0, by rw [hv, hn], fun hW => absurd (List.eq_nil_of_length_eq_zero hn) hW⟩
  · exact ⟨_, cap, hv, fun _ => ⟨g, rfl⟩⟩

theorem crashW_waits : ∀ (xs : List (Nat × List UInt8)) (ks : List Int) (s : DSt), (DSt.crashW xs ks s).waits = s.waits
  | x :: xs, k :: ks, s => (crashW_waits xs ks _).trans (one_waits s x k)
  | [], _, _ => rfl
  | _ :: _, [], _ => rfl

theorem crash_any {F : Nat → Prop} {w : World} {b gs bm clk : Nat} {s : DSt} {S : List (Option Nat)} {wv kv : Value} {W : List (Nat × Nat × List UInt8)} {es : Array MapEntry}
    (h : DevAt w F b s gs S wv W bm es clk kv) (v : Value) (keep : List Int) (g : Nat) (hk : IReads w v keep g) (hg : keep ≠ [] → g ≠ b ∧ g ≠ gs ∧ g ≠ bm) (hsz : s.waits.length < 4294967296) :
    Calls Tryz.prog 14 #[.pointer (some ⟨b, 0, none⟩), v] w fun e w' => e = .returned (.tuple #[]) ∧ Touch F w w' ∧ Dev w' F b (s.crash keep) := by
  obtain ⟨wa, wcap, hwv, hwa⟩ := h.wvForm
  have hsz' : W.length < 4294967296 := by have := congrArg List.length h.waits; simp at this; omega
  have key : ∃ a kcap g', v = .slice a keep.length kcap ∧ (keep ≠ [] → ∃ off, a = some ⟨g', off, none⟩ ∧ ∀ i (h : i < keep.length), w.cell? ⟨g', off + i, none⟩ = some (.int .i64 keep[i])) ∧ (g' ≠ b ∧ g' ≠ gs ∧ g' ≠ bm) := by
    by_cases h0 : keep = []
    · subst h0
      obtain ⟨off, cap, ⟨rfl, _⟩ | ⟨⟨a, rfl⟩, _⟩⟩ := hk
      · exact ⟨_, cap, b + gs + bm + 1, rfl, fun h => absurd rfl h, by omega⟩
      · exact ⟨a, cap, b + gs + bm + 1, rfl, fun h => absurd rfl h, by omega⟩
    · obtain ⟨off, cap, ⟨rfl, hc⟩ | ⟨_, h1⟩⟩ := hk
      · exact ⟨_, cap, g, rfl, fun _ => ⟨off, rfl, hc⟩, hg h0⟩
      · exact absurd h1 h0
  obtain ⟨a, kcap, g', rfl, hka, hg'⟩ := key
  refine (crash_walk h wa wcap hwv hwa a g' keep kcap hka hg' hsz').mono ?_
  rintro e w' ⟨he, wr, ⟨ht, S1, es1, clk1, hd⟩, ht2, hdev⟩
  have hlen : W.length = s.waits.length := by have := congrArg List.length h.waits; simpa using this
  rw [hlen, crashW_take _ _ _ _ rfl] at hd
  have T1 : Touch F w wr := ht.mono fun k _ hk => hk.elim (fun e => e ▸ h.ownS) (fun e => e ▸ h.ownM)
  have T2 : Touch F wr w' := ht2.mono fun k _ hk => by subst hk; exact h.ownD
  refine ⟨he, T1.trans T2 (fun _ h _ => h), gs, S1, .slice none 0 0, [], bm, es1, clk1, .slice none 0 0, ?_⟩
  refine hd.put ht2 (s' := s.crash keep) ?_ rfl rfl (World.ownsRow_nil _ _ _ _) (by intro k hk; simp [Value.ownBlock] at hk) rfl (by intro x hx; simp at hx) (.inr ⟨⟨none, 0, rfl⟩, rfl⟩) (by intro hf; cases hf) (by show (0 : Int) ≤ _; omega)
  rw [hdev _ hd.dev]
  simp [devC, DSt.crash]

end Go.Proofs.YthapggobpfcmjaaGreat

namespace Go.Proofs.YthapggobpfcmjaaGreat
open Go.RowKit

/-- What each operation does first. -/
def DSt.fired (s : DSt) : DSt := if s.armed = true ∧ s.left = 0 ∧ s.down = false then s.crash s.keep else s
def DSt.ticked (s : DSt) : DSt := if s.armed = true then { s with left := s.left - 1 } else s
def DSt.begin_ (s : DSt) : DSt := if s.fired.down = true then s.fired else s.fired.ticked
def DSt.err (s : DSt) : Int := if s.fired.down = true then 2 else 0

theorem Ints.reads {w : World} {F : Nat → Prop} {v : Value} {l : List Int} (h : Ints w F v l) : ∃ g, IReads w v l g ∧ (l ≠ [] → ∃ c, w.heap[g]? = some (.cells c 3 (0, 0))) := by
  rcases h with ⟨g, cap, c, rfl, _, hg, hc⟩ | ⟨ha, rfl⟩
  · refine ⟨g, ⟨0, cap, .inl ⟨rfl, fun i hi => ?_⟩⟩, fun _ => ⟨c, hg⟩⟩
    rw [cell_of_row w g _ _ _ _ hg]
    have := congrArg (·[i]?) hc
    simp only [List.getElem?_take, hi, if_true, List.getElem?_map, Array.getElem?_toList] at this
    rw [Nat.zero_add, this]
    simp [hi]
  · obtain ⟨a, cap, rfl⟩ := ha
    exact ⟨0, ⟨0, cap, .inr ⟨⟨a, rfl⟩, rfl⟩⟩, fun h => absurd rfl h⟩

set_option maxHeartbeats 400000 in
theorem has_any (b gs n : Nat) (at_ : Int) (w : World) (hc : w.cell? ⟨b, 0, none⟩ = some (.slice (some ⟨gs, 0, none⟩) n n)) :
    Calls Tryz.prog 46 #[.pointer (some ⟨b, 0, none⟩), .int .i64 at_] w fun e w' => e = .returned (.bool (decide (0 ≤ at_ ∧ at_ < n))) ∧ w = w' := by
  by_cases h0 : 0 ≤ at_
  · by_cases h1 : at_ < n
    · have h2 : (decide (0 ≤ at_ ∧ at_ < n)) = true := by simp [h0, h1]
      rw [h2]
      clear h2
      go_enter Tryz.func46, Tryz.ntmps46
      go_wp2
      go_ret
      exact ⟨rfl, rfl⟩
    · have h2 : (decide (0 ≤ at_ ∧ at_ < n)) = false := by simp [h1]
      rw [h2]
      clear h2
      go_enter Tryz.func46, Tryz.ntmps46
      go_wp2
      go_ret
      exact ⟨rfl, rfl⟩
  · have h2 : (decide (0 ≤ at_ ∧ at_ < n)) = false := by simp [h0]
    rw [h2]
    clear h2
    go_enter Tryz.func46, Tryz.ntmps46
    go_wp2
    go_ret
    exact ⟨rfl, rfl⟩

set_option maxHeartbeats 400000 in
theorem begin_fired {F : Nat → Prop} {w : World} {b : Nat} {s : DSt} (h : Dev w F b s) (hsz : s.waits.length < 4294967296) (ha : s.armed = true) (hl : s.left = 0) (hdn : s.down = false) :
    Calls Tryz.prog 47 #[.pointer (some ⟨b, 0, none⟩)] w fun e w' => e = .returned (.int .i64 2) ∧ Touch F w w' ∧ Dev w' F b (s.crash s.keep) := by
  obtain ⟨gs, S, wv, W, bm, es, clk, kv, h⟩ := h
  obtain ⟨g, hr, hg⟩ := h.keep.reads
  have hc := crash_any h kv s.keep g hr (fun h0 => by obtain ⟨c, hc⟩ := hg h0; exact h.int_ne hc) hsz
  have HC := Lib.hid hc
  have d6 := h.cell 6
  have d7 := h.cell 7
  have d8 := h.cell 8
  have d9 := h.cell 9
  simp only [devC, List.getElem?_toArray, List.getElem?_cons_succ, List.getElem?_cons_zero, ha, hl, hdn] at d6 d7 d8 d9
  clear h hr hg hc ha hl hdn hsz
  go_enter Tryz.func47, Tryz.ntmps47
  go_wp2_with fail
  refine HC.out.mono ?_
  rintro e w1 ⟨rfl, ht, hd⟩
  have d6' : w1.cell? ⟨b, 6, none⟩ = some (.bool true) := by
    obtain ⟨gs, S, wv, W, bm, es, clk, kv, hd⟩ := hd
    rw [hd.cell]; rfl
  go_wp2
  go_ret
  exact ⟨rfl, ht, hd⟩

set_option maxHeartbeats 400000 in
theorem begin_down {F : Nat → Prop} {w : World} {b : Nat} {s : DSt} (h : Dev w F b s) (hdn : s.down = true) :
    Calls Tryz.prog 47 #[.pointer (some ⟨b, 0, none⟩)] w fun e w' => e = .returned (.int .i64 2) ∧ w = w' := by
  obtain ⟨gs, S, wv, W, bm, es, clk, kv, h⟩ := h
  have d6 := h.cell 6
  have d7 := h.cell 7
  have d8 := h.cell 8
  simp only [devC, List.getElem?_toArray, List.getElem?_cons_succ, List.getElem?_cons_zero, hdn] at d6 d7 d8
  clear h hdn
  cases ha : s.armed
  · rw [ha] at d7
    clear ha
    go_enter Tryz.func47, Tryz.ntmps47
    go_wp2
    go_ret
    exact ⟨rfl, rfl⟩
  · rw [ha] at d7
    clear ha
    by_cases hl : s.left = 0
    · rw [hl] at d8
      clear hl
      go_enter Tryz.func47, Tryz.ntmps47
      go_wp2
      go_ret
      exact ⟨rfl, rfl⟩
    · have hlb : (s.left == 0) = false := by simpa using hl
      go_enter Tryz.func47, Tryz.ntmps47
      go_wp2
      go_ret
      exact ⟨rfl, rfl⟩

set_option maxHeartbeats 400000 in
theorem begin_idle {F : Nat → Prop} {w : World} {b : Nat} {s : DSt} (h : Dev w F b s) (hdn : s.down = false) (ha : s.armed = false) :
    Calls Tryz.prog 47 #[.pointer (some ⟨b, 0, none⟩)] w fun e w' => e = .returned (.int .i64 0) ∧ w = w' := by
  obtain ⟨gs, S, wv, W, bm, es, clk, kv, h⟩ := h
  have d6 := h.cell 6
  have d7 := h.cell 7
  simp only [devC, List.getElem?_toArray, List.getElem?_cons_succ, List.getElem?_cons_zero, hdn, ha] at d6 d7
  clear h hdn ha
  go_enter Tryz.func47, Tryz.ntmps47
  go_wp2
  go_ret
  exact ⟨rfl, rfl⟩

set_option maxHeartbeats 400000 in
theorem begin_tick {F : Nat → Prop} {w : World} {b : Nat} {s : DSt} (h : Dev w F b s) (hdn : s.down = false) (ha : s.armed = true) (hl : ¬ s.left = 0) :
    Calls Tryz.prog 47 #[.pointer (some ⟨b, 0, none⟩)] w fun e w' => e = .returned (.int .i64 0) ∧ Touch F w w' ∧ Dev w' F b { s with left := s.left - 1 } := by
  obtain ⟨gs, S, wv, W, bm, es, clk, kv, h⟩ := h
  have H := Lib.hid h
  have d6 := h.cell 6
  have d7 := h.cell 7
  have d8 := h.cell 8
  have f8 := h.free 8
  simp only [devC, List.getElem?_toArray, List.getElem?_cons_succ, List.getElem?_cons_zero, hdn, ha] at d6 d7 d8
  have h0 := h.left ha
  have h1 := h.left2
  have hlb : (s.left == 0) = false := by simpa using hl
  clear h hdn
  go_enter Tryz.func47, Tryz.ntmps47
  go_wp2
  go_ret
  have ht : Touch (fun k => k = b) w (w.setCell ⟨b, 8, none⟩ (.int .i64 (s.left - 1))) := (Touch.refl (fun k => k = b) w).setCell (a := ⟨b, 8, none⟩) (.inl rfl) _
  refine ⟨rfl, ht.mono fun k _ hk => hk ▸ H.out.ownD, gs, S, wv, W, bm, es, clk, kv, H.out.put1 ht ?_ rfl rfl rfl rfl (fun _ => by show (0 : Int) ≤ s.left - 1; omega) (by show s.left - 1 ≤ _; omega)⟩
  rw [heap_setCell_same _ _ _ _ _ _ H.out.dev]
  simp [devC]

theorem begin_any {F : Nat → Prop} {w : World} {b : Nat} {s : DSt} (h : Dev w F b s) (hsz : s.waits.length < 4294967296) :
    Calls Tryz.prog 47 #[.pointer (some ⟨b, 0, none⟩)] w fun e w' => e = .returned (.int .i64 s.err) ∧ Touch F w w' ∧ Dev w' F b s.begin_ := by
  by_cases hf : s.armed = true ∧ s.left = 0 ∧ s.down = false
  · have e1 : s.fired = s.crash s.keep := if_pos hf
    have e2 : s.fired.down = true := by rw [e1]; rfl
    rw [DSt.err, if_pos e2, DSt.begin_, if_pos e2, e1]
    exact begin_fired h hsz hf.1 hf.2.1 hf.2.2
  · have e1 : s.fired = s := if_neg hf
    cases hdn : s.down
    · have e2 : ¬ s.fired.down = true := by rw [e1, hdn]; simp
      rw [DSt.err, if_neg e2, DSt.begin_, if_neg e2, e1]
      cases ha : s.armed
      · have e3 : s.ticked = s := if_neg (by rw [ha]; simp)
        rw [e3]
        refine (begin_idle h hdn ha).mono ?_
        rintro e w' ⟨he, rfl⟩
        exact ⟨he, Touch.refl _ _, h⟩
      · have e3 : s.ticked = { s with left := s.left - 1 } := if_pos ha
        rw [e3]
        exact begin_tick h hdn ha fun hl => hf ⟨ha, hl, hdn⟩
    · have e2 : s.fired.down = true := by rw [e1, hdn]
      rw [DSt.err, if_pos e2, DSt.begin_, if_pos e2, e1]
      refine (begin_down h hdn).mono ?_
      rintro e w' ⟨he, rfl⟩
      exact ⟨he, Touch.refl _ _, h⟩

end Go.Proofs.YthapggobpfcmjaaGreat
