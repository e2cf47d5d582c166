/- append(own, bytes...): whatever the bytes are: nil, empty, or not. -/
import Derived.Test.YtifdlkohddpmfaaDoorCut
import Derived.Laws.AppendOwnNone
namespace Go.Proofs.YtifdlkohddpmfaaDoor
open Go.RowKit

theorem byteV_all (l : List UInt8) : ∀ u ∈ l.map byteV, u.oneCell' = true := by
  intro u hu; obtain ⟨x, _, rfl⟩ := List.mem_map.1 hu; rfl
theorem wpList_append_b {w : World} {ops : Array Oper} {rest : List Oper} {o : Oper} {a : Act} {Q : Exit → Act → World → Prop} (hgd : o.guard = none) (s x : Operand)
    (ho : o.op = .call { callee := .builtin .append, args := #[s, x], argTypes := #[22, 22] })
    (base : Nat) (v : Value) (xs : List UInt8) (hs : a.eval s = v) (hown : w.ownsRow base 5 1 v xs.length (xs.map byteV))
    (xv : Value) (l : List UInt8) (g : Nat) (hx : a.eval x = xv) (hr : Reads w xv l g) (hnil : ∀ k c, xv = .slice none k c → c = 0)
    (h63 : xs.length + l.length ≤ 4294967296) (hbase : base ≤ w.heap.size)
    (h : ∀ v' w', w'.ownsRow base 5 1 v' (xs ++ l).length ((xs ++ l).map byteV) → w.grownBy w' v.ownBlock → wpList Tryd.prog ops Q rest (a.put o.dst v') w') : wpList Tryd.prog ops Q (o :: rest) a w := by
  obtain ⟨i0, hi, hz, hsize, hby⟩ := info_parts Tryd.info5
  have h' : ∀ v' w', w'.ownsRow base 5 1 v' (xs.length + l.length) (xs.map byteV ++ l.map byteV) → w.grownBy w' v.ownBlock → wpList Tryd.prog ops Q rest (a.put o.dst v') w' := fun v' w' h1 h2 => h v' w' (by rw [List.length_append, List.map_append]; exact h1) h2
  have hm : xs.length + l.length ≤ maxLen := by unfold maxLen; omega
  have hb : (xs.length + l.length) * 1 ≤ 140737488355328 := by omega
  obtain ⟨off, cap, ⟨rfl, hc⟩ | ⟨⟨ad, rfl⟩, rfl⟩⟩ := hr
  · refine wpList_append_own w hgd s x 22 ho base 5 i0 (.int .u8 0) 1 1 Tryd.underlying22 hi hz hsize hby rfl (by omega) v xs.length (xs.map byteV) hs hown ⟨g, off, none⟩ l.length cap (l.map byteV) hx (by simp) (fun j u hj => ?_) (byteV_all l) (by simpa using hm) (by simpa using hb) hbase fun v' w' h2 h3 _ => h' v' w' (by simpa using h2) h3
    rw [List.getElem?_map] at hj
    obtain ⟨y, hy, rfl⟩ := Option.map_eq_some_iff.1 hj
    obtain ⟨hj', rfl⟩ := List.getElem?_eq_some_iff.1 hy
    rw [Go.WideShapes.add_plain]
    exact hc j hj'
  · cases ad with
    | some ad =>
      exact wpList_append_own w hgd s x 22 ho base 5 i0 (.int .u8 0) 1 1 Tryd.underlying22 hi hz hsize hby rfl (by omega) v xs.length (xs.map byteV) hs hown ad 0 cap [] hx rfl (fun j u hj => by simp at hj) (fun u hu => by simp at hu) (by simpa using hm) (by simpa using hb) hbase fun v' w' h2 h3 _ => h' v' w' (by simpa using h2) h3
    | none =>
      obtain rfl := hnil _ _ rfl
      refine wpList_append_own_none hgd s x 22 ho base 5 i0 1 Tryd.underlying22 hi v xs.length (xs.map byteV) hs hown hx (h' v w (by simpa using hown) ⟨rfl, rfl, rfl, Nat.le_refl _, fun _ _ _ => rfl⟩)

theorem own_none (w : World) : (w.alloc (.cells #[] 5)).ownsRow w.heap.size 5 1 (.slice (some ⟨w.heap.size, 0, none⟩) 0 0) ([] : List UInt8).length (([] : List UInt8).map byteV) :=
  World.ownsRow_made w #[] 0 (Nat.le_refl _) (Nat.zero_le _) rfl
/-- What an own row of bytes is for a caller: its block is new. -/
theorem own_bytes {w : World} {base : Nat} {v : Value} {l : List UInt8} (h : w.ownsRow base 5 1 v l.length (l.map byteV)) : ∃ a cap g, v = .slice a l.length cap ∧ Reads w v l g ∧ (l ≠ [] → base ≤ g ∧ g < w.heap.size) ∧ (∀ k c, v = .slice none k c → c = 0) ∧
    (∀ k, v.ownBlock = some k → base ≤ k) ∧ (l ≠ [] → a = some ⟨g, 0, none⟩ ∧ ∃ cur, w.heap[g]? = some (.cells cur 5 (0, 0)) ∧ cur.toList.take l.length = l.map byteV) := by
  rcases h.2 with ⟨rfl, h0⟩ | ⟨g, cap, cur, rfl, hb, hg, h1, h2, h3, ht⟩
  · obtain rfl : l = [] := List.eq_nil_of_length_eq_zero h0
    exact ⟨none, 0, 0, rfl, Reads.nil w, fun h => absurd rfl h, fun k c h => by cases h; rfl, fun k h => by simp [Value.ownBlock] at h, fun h => absurd rfl h⟩
  · rw [Nat.mul_one] at ht
    refine ⟨_, cap, g, rfl, ⟨0, cap, .inl ⟨rfl, fun i hi => ?_⟩⟩, fun _ => ⟨hb, lt_of_heap hg⟩, fun k c h => (by cases h), fun k h => ?_, fun _ => ⟨rfl, cur, hg, ht⟩⟩
    · rw [Nat.zero_add, cell_of_row w g i _ _ _ hg]
      have e := congrArg (fun (L : List Value) => L[i]?) ht
      simp only [List.getElem?_take, hi, if_true, List.getElem?_map, List.getElem?_eq_getElem hi, Option.map_some] at e
      simpa using e
    · simp [Value.ownBlock] at h; omega

end Go.Proofs.YtifdlkohddpmfaaDoor
