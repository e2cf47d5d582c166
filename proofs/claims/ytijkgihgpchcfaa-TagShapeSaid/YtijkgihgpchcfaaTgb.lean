/- What the texts on tags share: room for bytes, appends of a constant string, own rows, a tag as a value. No condition. -/
import Derived.Test.YtijkgihgpchcfaaBuf
import Derived.Test.YtijkgihgpchcfaaTgm
import Derived.Lib.AppendStr
namespace Go.Proofs.Ytijkgihgpchcfaa
open Go.RowKit

theorem run_makeRoom (w : World) (n : Int) (h0 : 0 ≤ n) (h1 : n ≤ 281474976710656) :
    (Instr.makeSlice 26 (.int .i64 0) (.int .i64 n)).run Try.prog w = .ok (.slice (some ⟨w.heap.size, 0, none⟩) 0 n.toNat) (w.alloc (.cells (rowA (zerosL n.toNat)) 5)) := by
  obtain ⟨i0, hi, hz0, hz1, hz2⟩ := info_parts Try.info5
  have := run_make (P := Try.prog) w 26 5 i0 (.int .u8 0) Try.underlying26 hi hz0 .i64 .i64 0 n (by omega) h0 (by rw [hz2]; omega) (by omega)
  rw [this, hz1]
  simp only [Value.cells, madeCells_one, Nat.mul_one, rowA_zeros]
  rfl
/-- Room for so many bytes. -/
theorem own_room (w : World) (n : Nat) (h : n ≤ 281474976710656) : (w.alloc (.cells (rowA (zerosL n)) 5)).ownsRow w.heap.size 5 1 (.slice (some ⟨w.heap.size, 0, none⟩) 0 n) ([] : List UInt8).length (([] : List UInt8).map byteV) :=
  World.ownsRow_made w (rowA (zerosL n)) n (Nat.le_refl _) (by unfold maxLen; omega) (by rw [rowA_size, zerosL_length, Nat.mul_one])
theorem byte_at (x k : Nat) : ((x / 256 ^ k : Nat) : Int) % 256 = ((UInt8.ofNat (x / 256 ^ k % 256)).toNat : Int) := by
  rw [Oct.of_toNat]; omega
theorem one_row (c : UInt8) : #[Value.int .u8 (c.toNat : Int)] = rowA [c] := rfl
theorem div_next (x k : Nat) : ((x / 256 ^ k : Nat) : Int) / 256 = ((x / 256 ^ (k + 1) : Nat) : Int) := by
  rw [Nat.pow_succ, ← Nat.div_div_eq_div_mul]; omega

/-- append(own, "..."...). -/
theorem wpList_append_s {w : World} {ops : Array Oper} {rest : List Oper} {o : Oper} {a : Act} {Q : Exit → Act → World → Prop} (hgd : o.guard = none) (s x : Operand)
    (ho : o.op = .call { callee := .builtin .append, args := #[s, x], argTypes := #[26, 9] })
    (base : Nat) (v : Value) (xs : List UInt8) (hs : a.eval s = v) (hown : w.ownsRow base 5 1 v xs.length (xs.map byteV))
    (l : List UInt8) (hx : a.eval x = .string ⟨l.toArray⟩)
    (h63 : xs.length + l.length ≤ 4294967296) (hbase : base ≤ w.heap.size)
    (h : ∀ v' w', w'.ownsRow base 5 1 v' (xs ++ l).length ((xs ++ l).map byteV) → w.grownBy w' v.ownBlock → wpList Try.prog ops Q rest (a.put o.dst v') w') : wpList Try.prog ops Q (o :: rest) a w := by
  obtain ⟨i0, hi, hz, hsize, hby⟩ := info_parts Try.info5
  have hl : (⟨l.toArray⟩ : ByteArray).size = l.length := by simp [ByteArray.size]
  refine Lib.wpList_append_own_string w hgd s x 26 9 ho base 5 i0 Try.underlying26 Try.underlying9 hi hz hsize hby v xs.length (xs.map byteV) hs hown ⟨l.toArray⟩ hx (by rw [hl]; unfold maxLen; omega) (by rw [hl]; omega) hbase fun v' w' h1 h2 _ => h v' w' ?_ h2
  rw [hl] at h1
  rw [List.length_append, List.map_append]
  have e : Lib.strCells ⟨l.toArray⟩ = l.map byteV := by simp [Lib.strCells, byteV]; done
  rw [← e]; exact h1

/-- An own block that holds these bytes ahead. -/
def OwnAt (w : World) (g : Nat) (M : List UInt8) : Prop := ∃ cur, w.heap[g]? = some (.cells cur 5 (0, 0)) ∧ cur.toList.take M.length = M.map byteV
theorem OwnAt.cell {w : World} {g : Nat} {M : List UInt8} (h : OwnAt w g M) (j : Nat) (x : UInt8) (hj : M[j]? = some x) : w.cell? ⟨g, j, none⟩ = some (.int .u8 (x.toNat : Int)) ∧ w.frozen? ⟨g, j, none⟩ = false := by
  obtain ⟨cur, hg, ht⟩ := h
  obtain ⟨hlt, rfl⟩ := List.getElem?_eq_some_iff.1 hj
  refine ⟨?_, frozen_of_row w g j _ _ hg⟩
  rw [cell_of_row w g j _ _ _ hg]
  have e := congrArg (fun (L : List Value) => L[j]?) ht
  simp only [List.getElem?_take, hlt, if_true, List.getElem?_map, List.getElem?_eq_getElem hlt, Option.map_some] at e
  simpa [byteV] using e
theorem OwnAt.set {w : World} {g : Nat} {M : List UInt8} (h : OwnAt w g M) (j : Nat) (x : UInt8) : OwnAt (w.setCell ⟨g, j, none⟩ (.int .u8 (x.toNat : Int))) g (M.set j x) := by
  obtain ⟨cur, hg, ht⟩ := h
  refine ⟨_, heap_setCell_same w g j _ _ _ hg, ?_⟩
  rw [List.length_set, Array.toList_setIfInBounds, List.take_set, ht]
  simp [byteV]
theorem OwnAt.touch {F : Nat → Prop} {w w1 : World} {g : Nat} {M : List UInt8} (h : OwnAt w g M) (ht : Touch F w w1) (hF : ¬ F g) : OwnAt w1 g M := by
  obtain ⟨cur, hg, h2⟩ := h
  exact ⟨cur, ht.at hg hF, h2⟩
theorem OwnAt.below {w w1 : World} {g : Nat} {M : List UInt8} (h : OwnAt w g M) (hb : Below w.heap.size w w1) : OwnAt w1 g M := by
  obtain ⟨cur, hg, h2⟩ := h
  exact ⟨cur, by rw [hb.block g (lt_of_heap hg)]; exact hg, h2⟩
theorem OwnAt.lt {w : World} {g : Nat} {M : List UInt8} (h : OwnAt w g M) : g < w.heap.size := by
  obtain ⟨cur, hg, _⟩ := h
  exact lt_of_heap hg
theorem OwnAt.bv {w : World} {g : Nat} {M : List UInt8} (h : OwnAt w g M) (n cap : Nat) (hn : M.length = n) (hc : n ≤ cap) : BV w (.slice (some ⟨g, 0, none⟩) n cap) M g := by
  subst hn
  exact ⟨⟨0, cap, .inl ⟨rfl, fun i hi => by rw [Nat.zero_add]; exact (h.cell i _ (List.getElem?_eq_getElem hi)).1⟩⟩, ⟨_, _, rfl, hc, fun h => by cases h⟩, fun _ => h.lt⟩

/-- What a call hands out that is the caller's own: bytes in a new block. -/
def OwnB (base : Nat) (w : World) (v : Value) (l : List UInt8) : Prop := ∃ g cap, v = .slice (some ⟨g, 0, none⟩) l.length cap ∧ l.length ≤ cap ∧ base ≤ g ∧ OwnAt w g l
theorem OwnB.of_own {base : Nat} {w : World} {v : Value} {l : List UInt8} (h : w.ownsRow base 5 1 v l.length (l.map byteV)) (hl : l ≠ []) : OwnB base w v l := by
  rcases h.2 with ⟨rfl, h0⟩ | ⟨g, cap, cur, rfl, hb, hg, h1, h2, h3, ht⟩
  · exact absurd (List.eq_nil_of_length_eq_zero h0) hl
  · exact ⟨g, cap, rfl, h1, hb, cur, hg, by rwa [Nat.mul_one] at ht⟩
theorem OwnB.bv {base : Nat} {w : World} {v : Value} {l : List UInt8} (h : OwnB base w v l) : ∃ g, BV w v l g ∧ base ≤ g := by
  obtain ⟨g, cap, rfl, h1, h2, h3⟩ := h
  exact ⟨g, h3.bv _ _ rfl h1, h2⟩

/-- A tag as a value. -/
abbrev tagV (t : Tg.T) : Value := .agg #[.int .u32 (t.e : Int), .int .u64 (t.s : Int), .int .u64 (t.q : Int), .int .u64 (t.f : Int), .int .i64 t.i, .int .i64 t.c, .int .i64 t.d]

end Go.Proofs.Ytijkgihgpchcfaa
