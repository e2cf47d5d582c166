/- append(own, xs...), whatever xs is: nil, empty, or not. -/
import Derived.Test.YtmedpmhiebcdjaaRow
import Derived.Laws.AppendOwnNone
namespace Go.Proofs.Ytmedpmhiebcdjaa
open Go.RowKit

theorem IReads.vals {w : World} {v : Value} {l : List Int} {g : Nat} (h : IReads w v l g) : VReads w v (l.map (Value.int .i64)) g := by
  obtain ⟨off, cap, ⟨rfl, h⟩ | ⟨ha, rfl⟩⟩ := h
  · exact ⟨off, cap, .inl ⟨by simp, fun i hi => by simpa using h i (by simpa using hi)⟩⟩
  · exact ⟨off, cap, .inr ⟨ha, rfl⟩⟩

section
variable {P : Program} {w : World}
theorem wpList_append_v {ops : Array Oper} {rest : List Oper} {o : Oper} {a : Act} {Q : Exit → Act → World → Prop} (hgd : o.guard = none) (s x : Operand) (t : TypeId)
    (ho : o.op = .call { callee := .builtin .append, args := #[s, x], argTypes := #[t, t] })
    (base : Nat) (e : TypeId) (i : TypeInfo) (z : Value) (bytes : Nat) (ht : P.underlying t = some (.slice e)) (hi : P.info? e = some i) (hz : i.zero = some z)
    (hsize : i.size = 1) (hby : i.bytes = bytes) (hzs : z.cells.size = 1)
    (v : Value) (n : Nat) (xs : List Value) (hs : a.eval s = v) (hown : w.ownsRow base e 1 v n xs)
    (xv : Value) (l : List Value) (g : Nat) (hx : a.eval x = xv) (hr : VReads w xv l g) (hnil : ∀ k c, xv = .slice none k c → c = 0) (h1 : ∀ u ∈ l, u.oneCell' = true)
    (h63 : n + l.length ≤ maxLen) (hbytes : (n + l.length) * bytes ≤ 140737488355328) (hbase : base ≤ w.heap.size)
    (h : ∀ v' w', w'.ownsRow base e 1 v' (n + l.length) (xs ++ l) → w.grownBy w' v.ownBlock → wpList P ops Q rest (a.put o.dst v') w') : wpList P ops Q (o :: rest) a w := by
  obtain ⟨off, cap, ⟨rfl, hc⟩ | ⟨⟨ad, rfl⟩, rfl⟩⟩ := hr
  · refine wpList_append_own w hgd s x t ho base e i z 1 bytes ht hi hz hsize hby hzs (by omega) v n xs hs hown ⟨g, off, none⟩ l.length cap l hx (by omega) (fun j u hj => ?_) h1 h63 hbytes hbase fun v' w' h2 h3 _ => h v' w' h2 h3
    obtain ⟨hj', rfl⟩ := List.getElem?_eq_some_iff.1 hj
    rw [Go.WideShapes.add_plain]
    exact hc j hj'
  · cases ad with
    | some ad =>
      exact wpList_append_own w hgd s x t ho base e i z 1 bytes ht hi hz hsize hby hzs (by omega) v n xs hs hown ad 0 cap [] hx rfl (fun j u hj => by simp at hj) (fun u hu => by simp at hu) h63 hbytes hbase fun v' w' h2 h3 _ => h v' w' h2 h3
    | none =>
      obtain rfl := hnil _ _ rfl
      refine wpList_append_own_none hgd s x t ho base e i 1 ht hi v n xs hs hown hx (h v w (by simpa using hown) ⟨rfl, rfl, rfl, Nat.le_refl _, fun _ _ _ => rfl⟩)
end

/-- What an own row of ints is for a caller: its block is new. -/
theorem own_ints {w : World} {base n : Nat} {v : Value} {l : List Int} (h : w.ownsRow base 3 1 v n (l.map (Value.int .i64))) : ∃ a cap, v = .slice a l.length cap ∧ (l ≠ [] → ∃ g, a = some ⟨g, 0, none⟩ ∧ base ≤ g ∧ g < w.heap.size ∧
    ∃ c, w.heap[g]? = some (.cells c 3 (0, 0)) ∧ c.toList.take l.length = l.map (Value.int .i64)) := by
  have hl : l.length = n := by have := h.1; simpa using this
  rcases h.2 with ⟨rfl, rfl⟩ | ⟨g, cap, cur, rfl, hb, hg, h1, h2, h3, ht⟩
  · obtain rfl : l = [] := List.eq_nil_of_length_eq_zero hl
    exact ⟨none, 0, rfl, fun h => absurd rfl h⟩
  · subst hl
    exact ⟨_, cap, rfl, fun _ => ⟨g, rfl, hb, lt_of_heap hg, cur, hg, by simpa using ht⟩⟩

end Go.Proofs.Ytmedpmhiebcdjaa
