/- Bytes: what the texts on bytes share: parts, appends, literals, values that read as bytes. No condition. -/
import Derived.Test.YthapggobpfcmjaaGreatByt
import Derived.Laws.AppendOwnNone
import Derived.Laws.Entries
import Derived.Laws.Bits64b
import Derived.Laws.BitsAllLaws
import Derived.Deep.RegionHeld3
import Derived.Lib.SlBytesConst
import Derived.Deep.RegionLaw
import Derived.Deep.CutBlock
import Derived.Deep.DeepCutAuto
namespace Go.Proofs.YthapggobpfcmjaaGreat
open Go.RowKit

theorem Reads.nil (w : World) : Reads w (.slice none 0 0) [] 0 := ⟨0, 0, .inr ⟨⟨none, rfl⟩, rfl⟩⟩
/-- Bytes that are laid out. -/
theorem lit_reads (w : World) (C : Array Value) (fr : Nat × Nat) (l : List UInt8) (n cap : Nat) (hC : C = rowA l) (hn : n = l.length) :
    Reads (w.alloc (.cells C 5 fr)) (.slice (some ⟨w.heap.size, 0, none⟩) n cap) l w.heap.size := by
  subst hC hn
  exact ⟨0, cap, .inl ⟨rfl, fun i hi => by rw [Nat.zero_add, World.cell?_alloc_mark, rowA_at]; simp [hi]⟩⟩
theorem conv_lit (w : World) (C : Array Value) (n c : Nat) : (convert 39 39 (.slice (some ⟨w.heap.size, 0, none⟩) n c)).run Tryz.prog (w.alloc (.cells C 5)) = .ok (.slice (some ⟨w.heap.size, 0, none⟩) n c) (w.alloc (.cells C 5 (C.size, C.size + 1))) :=
  Lib.run_convert_bytes_const (P := Tryz.prog) w 39 5 C n c Tryz.underlying39 Tryz.underlying5

/-- The first ones of bytes that are read. -/
theorem Reads.take {w : World} {a : Option Addr} {cap c' g : Nat} {l : List UInt8} (h : Reads w (.slice a l.length cap) l g) (n : Nat) (hn : n ≤ l.length) : Reads w (.slice a n c') (l.take n) g := by
  obtain ⟨off, cap, ⟨e, h⟩ | ⟨⟨a, e⟩, rfl⟩⟩ := h
  · cases e
    exact ⟨off, c', .inl ⟨by rw [List.length_take, Nat.min_eq_left hn], fun i hi => by
      rw [List.length_take] at hi
      rw [h i (by omega), List.getElem_take]⟩⟩
  · obtain rfl : n = 0 := by simpa using hn
    exact ⟨0, c', .inr ⟨⟨_, rfl⟩, by simp⟩⟩
theorem add_plain' (b o i : Nat) : Addr.add ⟨b, o, none⟩ i = ⟨b, o + i, none⟩ := by
  unfold Addr.add; split
  · subst_vars; rfl
  · rfl
/-- The last ones. -/
theorem Reads.drop {w : World} {a : Option Addr} {cap c' g : Nat} {l : List UInt8} (h : Reads w (.slice a l.length cap) l g) (hc : l.length ≤ cap) (n p : Nat) (e : n = l.length) (hp : p ≤ n) :
    Reads w (.slice (if cap = p then a else a.map (·.add p)) (n - p) c') (l.drop p) g := by
  subst e
  obtain ⟨off, cap', ⟨e, h⟩ | ⟨⟨a', e⟩, rfl⟩⟩ := h
  · cases e
    by_cases hlt : p < l.length
    · rw [if_neg (by omega)]
      exact ⟨off + p, c', .inl ⟨by rw [List.length_drop, Option.map_some, add_plain'], fun i hi => by
        rw [List.length_drop] at hi
        rw [Nat.add_assoc, h (p + i) (by omega), List.getElem_drop]⟩⟩
    · obtain rfl : p = l.length := by omega
      exact ⟨0, c', .inr ⟨⟨_, by rw [Nat.sub_self]⟩, List.drop_length⟩⟩
  · exact ⟨0, c', .inr ⟨⟨_, by simp; rfl⟩, by simp⟩⟩
theorem Reads.below {w w' : World} {v : Value} {l : List UInt8} {g : Nat} (h : Reads w v l g) (hg : l ≠ [] → g < w.heap.size) (hb : Below w.heap.size w w') : Reads w' v l g := by
  obtain ⟨off, cap, ⟨rfl, hc⟩ | ⟨ha, rfl⟩⟩ := h
  · refine ⟨off, cap, .inl ⟨rfl, fun i hi => ?_⟩⟩
    rw [← hc i hi]
    exact World.cell?_of_block (hb.block g (hg (by rintro rfl; simp at hi)))
  · exact ⟨off, cap, .inr ⟨ha, rfl⟩⟩
theorem Reads.alloc {w : World} {v : Value} {l : List UInt8} {g : Nat} (h : Reads w v l g) (hg : l ≠ [] → g < w.heap.size) (o : Obj) : Reads (w.alloc o) v l g :=
  h.below hg ((Below.refl _ w).alloc (Nat.le_refl _) o)

theorem min_nat (l : Nat) (m : Nat) : (if (m : Int) < (l : Int) then (m : Int) else (l : Int)) = (min l m : Nat) := by
  split <;> omega
theorem elemBytes : Tryz.prog.elem 39 = 5 := by kernel_rfl
theorem sizeByte (w : World) : (sizeOf 5).run Tryz.prog w = .ok 1 w := by kernel_rfl
theorem run_from (w : World) (a : Option Addr) (n cap p : Nat) (hp : p ≤ n) :
    (Instr.sliceAt 39 (.slice a n cap) (some (.int .i64 (p : Int))) none none).run Tryz.prog w = .ok (.slice (if cap = p then a else a.map (·.add p)) (n - p) (cap - p)) w := by
  have hu : Tryz.prog.underlying 39 = some (.slice (Tryz.prog.elem 39)) := by rw [elemBytes]; exact Tryz.underlying39
  rw [run_sliceAt_slice w _ _ _ _ _ hu, run_slice_l w _ a n cap hu .i64 p (by omega) (by omega), elemBytes, sizeByte]
  simp [Result.andThen, sliced]
theorem run_upto (w : World) (a : Option Addr) (n cap p : Nat) (hp : p ≤ cap) :
    (Instr.sliceAt 39 (.slice a n cap) none (some (.int .i64 (p : Int))) none).run Tryz.prog w = .ok (.slice a p cap) w := by
  have hu : Tryz.prog.underlying 39 = some (.slice (Tryz.prog.elem 39)) := by rw [elemBytes]; exact Tryz.underlying39
  rw [run_sliceAt_slice w _ _ _ _ _ hu, run_slice_h w _ a n cap hu .i64 p (by omega) (by omega), elemBytes, sizeByte]
  have h0 : a.map (fun x => x.add 0) = a := by cases a <;> simp [Addr.add]
  simp [Result.andThen, sliced, h0]

theorem byteV_all (l : List UInt8) : ∀ u ∈ l.map byteV, u.oneCell' = true := by
  intro u hu; obtain ⟨x, _, rfl⟩ := List.mem_map.1 hu; rfl
theorem wpList_append_b {w : World} {ops : Array Oper} {rest : List Oper} {o : Oper} {a : Act} {Q : Exit → Act → World → Prop} (hgd : o.guard = none) (s x : Operand)
    (ho : o.op = .call { callee := .builtin .append, args := #[s, x], argTypes := #[39, 39] })
    (base : Nat) (v : Value) (xs : List UInt8) (hs : a.eval s = v) (hown : w.ownsRow base 5 1 v xs.length (xs.map byteV))
    (xv : Value) (l : List UInt8) (g : Nat) (hx : a.eval x = xv) (hr : Reads w xv l g) (hnil : ∀ k c, xv = .slice none k c → c = 0)
    (h63 : xs.length + l.length ≤ 4294967296) (hbase : base ≤ w.heap.size)
    (h : ∀ v' w', w'.ownsRow base 5 1 v' (xs ++ l).length ((xs ++ l).map byteV) → w.grownBy w' v.ownBlock → wpList Tryz.prog ops Q rest (a.put o.dst v') w') : wpList Tryz.prog ops Q (o :: rest) a w := by
  obtain ⟨i0, hi, hz, hsize, hby⟩ := info_parts Tryz.info5
  have h' : ∀ v' w', w'.ownsRow base 5 1 v' (xs.length + l.length) (xs.map byteV ++ l.map byteV) → w.grownBy w' v.ownBlock → wpList Tryz.prog ops Q rest (a.put o.dst v') w' := fun v' w' h1 h2 => h v' w' (by rw [List.length_append, List.map_append]; exact h1) h2
  have hm : xs.length + l.length ≤ maxLen := by unfold maxLen; omega
  have hb : (xs.length + l.length) * 1 ≤ 140737488355328 := by omega
  obtain ⟨off, cap, ⟨rfl, hc⟩ | ⟨⟨ad, rfl⟩, rfl⟩⟩ := hr
  · refine wpList_append_own w hgd s x 39 ho base 5 i0 (.int .u8 0) 1 1 Tryz.underlying39 hi hz hsize hby rfl (by omega) v xs.length (xs.map byteV) hs hown ⟨g, off, none⟩ l.length cap (l.map byteV) hx (by simp) (fun j u hj => ?_) (byteV_all l) (by simpa using hm) (by simpa using hb) hbase fun v' w' h2 h3 _ => h' v' w' (by simpa using h2) h3
    rw [List.getElem?_map] at hj
    obtain ⟨y, hy, rfl⟩ := Option.map_eq_some_iff.1 hj
    obtain ⟨hj', rfl⟩ := List.getElem?_eq_some_iff.1 hy
    rw [Go.WideShapes.add_plain]
    exact hc j hj'
  · cases ad with
    | some ad =>
      exact wpList_append_own w hgd s x 39 ho base 5 i0 (.int .u8 0) 1 1 Tryz.underlying39 hi hz hsize hby rfl (by omega) v xs.length (xs.map byteV) hs hown ad 0 cap [] hx rfl (fun j u hj => by simp at hj) (fun u hu => by simp at hu) (by simpa using hm) (by simpa using hb) hbase fun v' w' h2 h3 _ => h' v' w' (by simpa using h2) h3
    | none =>
      obtain rfl := hnil _ _ rfl
      refine wpList_append_own_none hgd s x 39 ho base 5 i0 1 Tryz.underlying39 hi v xs.length (xs.map byteV) hs hown hx (h' v w (by simpa using hown) ⟨rfl, rfl, rfl, Nat.le_refl _, fun _ _ _ => rfl⟩)

theorem own_none (w : World) : (w.alloc (.cells #[] 5)).ownsRow w.heap.size 5 1 (.slice (some ⟨w.heap.size, 0, none⟩) 0 0) ([] : List UInt8).length (([] : List UInt8).map byteV) :=
  World.ownsRow_made w #[] 0 (Nat.le_refl _) (Nat.zero_le _) rfl
/-- What an own row of bytes is for a caller: its block is new. -/
theorem own_bytes {w : World} {base : Nat} {v : Value} {l : List UInt8} (h : w.ownsRow base 5 1 v l.length (l.map byteV)) : ∃ a cap g, v = .slice a l.length cap ∧ Reads w v l g ∧ (l ≠ [] → base ≤ g ∧ g < w.heap.size) ∧ (∀ k c, v = .slice none k c → c = 0) ∧
    (∀ k, v.ownBlock = some k → base ≤ k) ∧ (l ≠ [] → a = some ⟨g, 0, none⟩ ∧ ∃ cur, w.heap[g]? = some (.cells cur 5 (0, 0)) ∧ cur.toList.take l.length = l.map byteV) := by
  rcases h.2 with ⟨rfl, h0⟩ | ⟨g, cap, cur, rfl, hb, hg, h1, h2, h3, ht⟩
  · obtain rfl : l = [] := List.eq_nil_of_length_eq_zero h0
    exact ⟨none, 0, 0, rfl, Reads.nil w, fun h => absurd rfl h, fun k c h => by cases h; rfl, fun k h => by simp [Value.ownBlock] at h, fun h => absurd rfl h⟩
  · rw [Nat.mul_one] at ht
    refine ⟨_, cap, g, rfl, ⟨0, cap, .inl ⟨rfl, fun i hi => ?_⟩⟩, fun _ => ⟨hb, lt_of_heap hg⟩, fun k c h => (by cases h), fun k h => ?_, fun _ => ⟨rfl, cur, hg, ht⟩⟩
    · rw [Nat.zero_add, cell_of_row w g i _ _ _ hg]
      have e := congrArg (fun (L : List Value) => L[i]?) ht
      simp only [List.getElem?_take, hi, if_true, List.getElem?_map, List.getElem?_eq_getElem hi, Option.map_some] at e
      simpa using e
    · simp [Value.ownBlock] at h; omega

theorem zeros_reads (w : World) (n : Nat) : Reads (w.alloc (.cells (rowA (zerosL n)) 5)) (.slice (some ⟨w.heap.size, 0, none⟩) n n) (zerosL n) w.heap.size :=
  lit_reads w _ _ _ n n rfl (zerosL_length n).symm

/-- An operation that stands under a guard that holds is as one without. -/
theorem wpList_guarded {P : Program} {ops : Array Oper} {Q : Exit → Act → World → Prop} {a : Act} {w : World} {rest : List Oper} {o : Oper} (hw : Region.wanted o (yielded ops a.tmps) = true) (h : wpList P ops Q ({ o with guard := none } :: rest) a w) : wpList P ops Q (o :: rest) a w := by
  unfold wpList at h ⊢
  rw [if_pos hw]
  rw [if_pos (by simp [Region.wanted])] at h
  exact h

theorem rowA_set (l : List UInt8) (i : Nat) (x : UInt8) : (rowA l).setIfInBounds i (byteV x) = rowA (l.set i x) := by
  simp [rowA]
theorem Reads.cellk {w : World} {a : Option Addr} {l : List UInt8} {cap g : Nat} (h : Reads w (.slice a l.length cap) l g) {k : Nat} (hk : k < l.length) : ∃ off, a = some ⟨g, off, none⟩ ∧ w.cell? ⟨g, off + k, none⟩ = some (.int .u8 (l[k].toNat : Int)) := by
  obtain ⟨off, cap, ⟨e, h⟩ | ⟨⟨a, e⟩, rfl⟩⟩ := h
  · cases e
    exact ⟨off, rfl, h k hk⟩
  · simp at hk


/-- Only F has turned, and F lies high. -/
theorem Touch.to_below {F : Nat → Prop} {B : Nat} {w w1 : World} (h : Touch F w w1) (hF : ∀ k, k < w.heap.size → F k → B ≤ k) (hB : B ≤ w.heap.size) : Below B w w1 :=
  ⟨h.os, h.tape, h.output, h.size, fun k hk => h.block k (Nat.lt_of_lt_of_le hk hB) fun hf => absurd (hF k (Nat.lt_of_lt_of_le hk hB) hf) (by omega)⟩
theorem Reads.form' {w : World} {v : Value} {l : List UInt8} {g : Nat} (h : Reads w v l g) : ∃ a cap, v = .slice a l.length cap ∧ (l ≠ [] → ∃ off, a = some ⟨g, off, none⟩ ∧ ∀ i (h : i < l.length), w.cell? ⟨g, off + i, none⟩ = some (byteV l[i])) := by
  obtain ⟨off, cap, ⟨rfl, h⟩ | ⟨⟨a, rfl⟩, rfl⟩⟩ := h
  · exact ⟨_, cap, rfl, fun _ => ⟨off, rfl, h⟩⟩
  · exact ⟨a, cap, rfl, fun h => absurd rfl h⟩

/-- A value that reads as bytes, and is a slice as Go has them; its row, if it matters, is block g. -/
structure BV (w : World) (v : Value) (l : List UInt8) (g : Nat) : Prop where
  reads : Reads w v l g
  form : ∃ a cap, v = .slice a l.length cap ∧ l.length ≤ cap ∧ (a = none → cap = 0)
  lt : l ≠ [] → g < w.heap.size
section
variable {F : Nat → Prop} {w w1 : World} {v : Value} {l : List UInt8} {g : Nat}
theorem BV.touch (h : BV w v l g) (ht : Touch F w w1) (hF : l ≠ [] → ¬ F g) : BV w1 v l g := by
  refine ⟨?_, h.form, fun hl => Nat.lt_of_lt_of_le (h.lt hl) ht.size⟩
  by_cases hl : l = []
  · subst hl
    obtain ⟨off, cap, ⟨rfl, _⟩ | ⟨ha, _⟩⟩ := h.reads
    · exact ⟨0, cap, .inr ⟨⟨_, rfl⟩, rfl⟩⟩
    · exact ⟨0, cap, .inr ⟨ha, rfl⟩⟩
  · exact h.reads.touch ht (hF hl)
theorem BV.low (h : BV w v l g) {B : Nat} (hb : Below B w w1) (hB : l ≠ [] → g < B) : BV w1 v l g :=
  h.touch (F := fun k => B ≤ k) ⟨hb.os, hb.tape, hb.output, hb.size, fun k _ hF => hb.block k (Nat.lt_of_not_le hF)⟩ fun hl => Nat.not_le_of_lt (hB hl)
theorem BV.below (h : BV w v l g) (hb : Below w.heap.size w w1) : BV w1 v l g := h.low hb h.lt
theorem BV.alloc (h : BV w v l g) (o : Obj) : BV (w.alloc o) v l g := h.below ((Below.refl _ w).alloc (Nat.le_refl _) o)
theorem BV.drew (h : BV w v l g) : BV w.drew v l g := ⟨h.reads, h.form, h.lt⟩
theorem BV.nilc (h : BV w v l g) : ∀ k c, v = .slice none k c → c = 0 := by
  intro k c e
  obtain ⟨a, cap, rfl, _, hn⟩ := h.form
  cases e; exact hn rfl
theorem BV.nil (w : World) (g : Nat) : BV w (.slice none 0 0) [] g := ⟨⟨0, 0, .inr ⟨⟨none, rfl⟩, rfl⟩⟩, ⟨none, 0, rfl, Nat.le_refl _, fun _ => rfl⟩, fun h => absurd rfl h⟩
/-- An own row of bytes is a value that reads as bytes. -/
theorem BV.of_own {base : Nat} (h : w.ownsRow base 5 1 v l.length (l.map byteV)) : ∃ g, BV w v l g ∧ (l ≠ [] → base ≤ g) := by
  rcases h.2 with ⟨rfl, h0⟩ | ⟨g, cap, cur, rfl, hb, hg, h1, h2, h3, ht⟩
  · obtain rfl : l = [] := List.eq_nil_of_length_eq_zero h0
    exact ⟨0, BV.nil w 0, fun h => absurd rfl h⟩
  · obtain ⟨a, c, g', e, hr, hl, _, _, hx⟩ := own_bytes h
    cases e
    refine ⟨g', ⟨hr, ⟨_, _, rfl, h1, fun h => by cases h⟩, fun hl' => (hl hl').2⟩, fun hl' => (hl hl').1⟩
/-- A literal's bytes. -/
theorem BV.lit (w : World) (C : Array Value) (fr : Nat × Nat) (l : List UInt8) (n cap : Nat) (hC : C = rowA l) (hn : n = l.length) (hc : n ≤ cap) : BV (w.alloc (.cells C 5 fr)) (.slice (some ⟨w.heap.size, 0, none⟩) n cap) l w.heap.size :=
  ⟨lit_reads w C fr l n cap hC hn, ⟨_, _, by rw [hn], by omega, fun h => by cases h⟩, fun _ => by simp⟩
theorem BV.take {a : Option Addr} {n cap : Nat} (h : BV w (.slice a n cap) l g) (k : Nat) (hk : k ≤ n) (c' : Nat) (hc : k ≤ c') (hc2 : c' ≤ cap) : BV w (.slice a k c') (l.take k) g := by
  obtain ⟨a0, cap0, e, h1, h2⟩ := h.form
  cases e
  refine ⟨h.reads.take k hk, ⟨a, c', by rw [List.length_take, Nat.min_eq_left hk], by rw [List.length_take]; omega, fun e => by have := h2 e; omega⟩, fun hl => h.lt (by rintro rfl; simp at hl)⟩
theorem BV.drop {a : Option Addr} {n cap : Nat} (h : BV w (.slice a n cap) l g) (p : Nat) (hp : p ≤ n) : BV w (.slice (if cap = p then a else a.map (·.add p)) (n - p) (cap - p)) (l.drop p) g := by
  obtain ⟨a0, cap0, e, h1, h2⟩ := h.form
  cases e
  refine ⟨h.reads.drop h1 _ p rfl hp, ⟨_, _, by rw [List.length_drop], by rw [List.length_drop]; omega, fun e => ?_⟩, fun hl => h.lt (by rintro rfl; simp at hl)⟩
  split at e
  · have := h2 e; omega
  · cases a with
    | none => have := h2 rfl; omega
    | some a => cases e
end

end Go.Proofs.YthapggobpfcmjaaGreat
