/- Two slices of blocks to write, one behind the other: slices.Grow, slices.Concat. At most a million blocks. -/
import Derived.Test.YthapggobpfcmjaaGreatJmh
import Derived.Lib.AppendZeros
import Derived.Laws.AppendOwnNone
set_option maxRecDepth 100000
namespace Go.Proofs.YthapggobpfcmjaaGreat
namespace Jn
open Go.RowKit

set_option maxHeartbeats 1000000 in
theorem grow_nil (n : Nat) (hn : n ≤ 1048576) (h0 : 0 < n) (w : World) :
    Calls Tryz.prog 55 #[.slice none 0 0, .int .i64 (n : Int)] w fun e w' => (∃ v, e = .returned v ∧ w'.ownsRow w.heap.size 41 2 v 0 []) ∧ Below w.heap.size w w' := by
  obtain ⟨i0, hi, hz0, hz1, hz2⟩ := info_parts Tryz.infoW
  have hap := fun W ty => Lib.run_append_nil_zeros (P := Tryz.prog) W 37 3 ty 41 i0 (.agg #[.int .i64 0, .slice none 0 0]) .i64 .i64 Tryz.underlying37 Tryz.underlying3 hi hz0 n h0 (by rw [hz1]; decide) (by omega) (by rw [hz2]; omega)
  go_enter Tryz.func55, Tryz.ntmps55
  go_wp2_with (at_builtin; refine Lib.wpList_append_run _ rfl _ _ 37 3 rfl _ _ rfl rfl _ _ (hap _ _) ?_)
  go_ret
  have hge := grownCap_ge w n 0 41
  have hle := grownCap_le_maxLen w n 0 41 (by simp only [maxLen]; omega)
  have hm := World.ownsRow_made (base := w.heap.size) (e := 41) (size := 2) w (Builtin.zeroCells #[.int .i64 0, .slice none 0 0] n ++ Builtin.zeroCells #[.int .i64 0, .slice none 0 0] (grownCap w n 0 41 - n)) (grownCap w n 0 41) (Nat.le_refl _) hle (by
    simp only [Array.size_append, size_zeroCells, List.size_toArray, List.length_cons, List.length_nil]
    omega)
  exact ⟨⟨_, rfl, hm⟩, ((Below.refl _ w).alloc (Nat.le_refl _) _).drew⟩

theorem wlCells {w : World} {E : List WE} {g off cap : Nat} {X : Nat → Prop} (h : WL w (.slice (some ⟨g, off, none⟩) E.length cap) E X) : ∀ j u, (E.flatMap cellsE)[j]? = some u → w.cell? ((⟨g, off, none⟩ : Addr).add j) = some u := by
  intro j u hj
  have hlen : (E.flatMap cellsE).length = E.length * 2 := by
    clear h hj
    induction E with
    | nil => rfl
    | cons e E ih => simp only [List.flatMap_cons, List.length_append, ih, List.length_cons, cellsE, List.length_nil]; omega
  have hjl := (List.getElem?_eq_some_iff.1 hj).1
  rw [hlen] at hjl
  have hk : j / 2 < E.length := by omega
  obtain ⟨h1, h2⟩ := h.cell (j / 2) hk g off cap rfl
  obtain ⟨e1, e2⟩ := cellsE_at E (j / 2) hk
  rw [add_plain']
  rcases (show j = j / 2 * 2 ∨ j = j / 2 * 2 + 1 by omega) with e | e
  · rw [← e] at h1 e1
    rw [h1, ← hj, e1]
  · rw [← e] at e2
    rw [Nat.add_assoc, ← e] at h2
    rw [h2, ← hj, e2]
theorem cellsE_one {w : World} {v : Value} {E : List WE} {X : Nat → Prop} (h : WL w v E X) : ∀ u ∈ E.flatMap cellsE, u.oneCell' = true := by
  intro u hu
  obtain ⟨e, he, hu⟩ := List.mem_flatMap.1 hu
  obtain ⟨a, cap, hv, -⟩ := (h.data e he).1.form
  simp only [cellsE, List.mem_cons, List.not_mem_nil, or_false] at hu
  rcases hu with rfl | rfl
  · rfl
  · rw [hv]; rfl
theorem cellsE_len (E : List WE) : (E.flatMap cellsE).length = E.length * 2 := by
  induction E with
  | nil => rfl
  | cons e E ih => simp only [List.flatMap_cons, List.length_append, ih, List.length_cons, cellsE, List.length_nil]; omega

/-- An append of blocks to write, whatever slice they come in. -/
theorem wpList_append_W {w : World} {ops : Array Oper} {rest : List Oper} {o : Oper} {a : Act} {Q : Exit → Act → World → Prop} (hgd : o.guard = none) (s x : Operand)
    (ho : o.op = .call { callee := .builtin .append, args := #[s, x], argTypes := #[37, 37] })
    (base : Nat) (v : Value) (E1 : List WE) (hs : a.eval s = v) (hown : w.ownsRow base 41 2 v E1.length (E1.flatMap cellsE))
    (xv : Value) (E2 : List WE) (X : Nat → Prop) (hx : a.eval x = xv) (hr : WL w xv E2 X)
    (h63 : E1.length + E2.length ≤ 4294967296) (hbase : base ≤ w.heap.size)
    (h : ∀ v' w', w'.ownsRow base 41 2 v' (E1 ++ E2).length ((E1 ++ E2).flatMap cellsE) → w.grownBy w' v.ownBlock → wpList Tryz.prog ops Q rest (a.put o.dst v') w') : wpList Tryz.prog ops Q (o :: rest) a w := by
  obtain ⟨i0, hi, hz, hsize, hby⟩ := info_parts Tryz.infoW
  obtain ⟨ad, cap, rfl, hcap, hnil, hne⟩ := hr.form
  cases ad with
  | none =>
    have h0 := hnil rfl
    obtain rfl : E2 = [] := List.eq_nil_of_length_eq_zero (by omega)
    obtain rfl : cap = 0 := h0
    refine wpList_append_own_none hgd s x 37 ho base 41 i0 2 Tryz.underlying37 hi v E1.length (E1.flatMap cellsE) hs hown hx ?_
    exact h v w (by simpa using hown) ⟨rfl, rfl, rfl, Nat.le_refl _, fun _ _ _ => rfl⟩
  | some ad =>
    refine wpList_append_own w hgd s x 37 ho base 41 i0 (.agg #[.int .i64 0, .slice none 0 0]) 2 32 Tryz.underlying37 hi hz hsize hby rfl (by omega) v E1.length (E1.flatMap cellsE) hs hown ad E2.length cap (E2.flatMap cellsE) hx (cellsE_len E2) ?_ (cellsE_one hr) (by simp only [maxLen]; omega) (by omega) hbase ?_
    · intro j u hj
      by_cases h0 : E2 = []
      · subst h0; simp at hj
      · obtain ⟨g, off, e, -⟩ := hne h0
        simp only [Option.some.injEq] at e
        subst e
        exact wlCells hr j u hj
    · intro v' w' h1 h2 _
      exact h v' w' (by simpa using h1) h2

/-- While Concat goes over its two lists: how much both have; what has been appended. -/
def upTo2 (E1 E2 : List WE) (k : Nat) : List WE := if k = 0 then [] else if k = 1 then E1 else E1 ++ E2

set_option maxHeartbeats 2000000 in
theorem concat_two (g : Nat) (v1 v2 : Value) (E1 E2 : List WE) (X : Nat → Prop) (w : World) (hg : w.heap[g]? = some (.cells #[v1, v2] 37 (0, 0))) (h1 : WL w v1 E1 X) (h2 : WL w v2 E2 X) (h0 : 0 < E1.length) (hm : E1.length + E2.length ≤ 1048576) :
    Calls Tryz.prog 27 #[.slice (some ⟨g, 0, none⟩) 2 2] w fun e w' => (∃ v, e = .returned v ∧ w'.ownsRow w.heap.size 41 2 v (E1 ++ E2).length ((E1 ++ E2).flatMap cellsE)) ∧ Below w.heap.size w w' := by
  have H1 := Lib.hid h1
  have H2 := Lib.hid h2
  obtain ⟨a1, p1, e1, -⟩ := h1.form
  obtain ⟨a2, p2, e2, -⟩ := h2.form
  subst e1 e2
  have c0 := cell_of_row w g 0 _ _ _ hg
  have c1 := cell_of_row w g 1 _ _ _ hg
  simp only [List.getElem?_toArray, List.getElem?_cons_succ, List.getElem?_cons_zero] at c0 c1
  have hgl := lt_of_heap hg
  clear h1 h2 hg
  obtain ⟨n1, hn1⟩ : ∃ n1, E1.length = n1 := ⟨_, rfl⟩
  obtain ⟨n2, hn2⟩ : ∃ n2, E2.length = n2 := ⟨_, rfl⟩
  rw [hn1] at c0 h0 hm
  rw [hn2] at c1 hm
  have HN := Lib.hid (And.intro hn1 hn2)
  clear hn1 hn2
  go_enter Tryz.func27, Tryz.ntmps27
  go_wp2
  go_loopw [3, 11] (fun z i wr => ∃ k : Nat, k ≤ 2 ∧ z = .int .i64 ((if k = 0 then 0 else if k = 1 then n1 else n1 + n2 : Nat) : Int) ∧ i = .int .i64 k ∧ w = wr) (fun _ i _ => 2 - (intOf i).toNat)
  case atStart => exact ⟨0, by omega, rfl, rfl, rfl⟩
  case round =>
    obtain ⟨k, hk, rfl, rfl, rfl⟩ := hrel
    rcases (show k = 0 ∨ k = 1 ∨ k = 2 by omega) with rfl | rfl | rfl
    · rw [if_pos rfl]
      go_wp2
      go_roundw
      case rel => exact ⟨1, by omega, by simp, rfl, by first | rfl | trivial⟩
      case measure => simp [intOf]
    · rw [if_neg (by decide), if_pos rfl]
      go_wp2
      go_roundw
      case rel => exact ⟨2, by omega, by simp, rfl, by first | rfl | trivial⟩
      case measure => simp [intOf]
    · rw [if_neg (by decide), if_neg (by decide)]
      have GR := Lib.hid (grow_nil (n1 + n2) hm (by omega) w)
      go_wp2_with fail
      refine GR.out.mono ?_
      rintro e w1 ⟨⟨v0, rfl, hown⟩, hb⟩
      have HO := Lib.hid hown
      have HB := Lib.hid hb
      clear hown hb GR
      go_wp2
      go_loopw [6, 27] (fun v i wx => ∃ k : Nat, k ≤ 2 ∧ wx.ownsRow w.heap.size 41 2 v (upTo2 E1 E2 k).length ((upTo2 E1 E2 k).flatMap cellsE) ∧ i = .int .i64 k ∧ Below w.heap.size w wx) (fun _ i _ => 2 - (intOf i).toNat)
      case atStart => exact ⟨0, by omega, HO.out, rfl, HB.out⟩
      case round =>
        obtain ⟨k, hk, hown, rfl, hb⟩ := hrel
        have d0 := (World.cell?_of_block (a := ⟨g, 0, none⟩) (hb.block g hgl)).trans c0
        have d1 := (World.cell?_of_block (a := ⟨g, 1, none⟩) (hb.block g hgl)).trans c1
        have hsz := hb.size
        have HO2 := Lib.hid hown
        have HB2 := Lib.hid hb
        have B1 := Lib.hid (H1.out.below hb)
        have B2 := Lib.hid (H2.out.below hb)
        have hn := HN.out
        rw [hn.1] at B1
        rw [hn.2] at B2
        clear hown hb hn
        rcases (show k = 0 ∨ k = 1 ∨ k = 2 by omega) with rfl | rfl | rfl
        · have hlen : (upTo2 E1 E2 0).length + E1.length ≤ 4294967296 := by
            have := HN.out
            simp only [upTo2]
            simp; omega
          go_wp2_with (at_builtin; refine wpList_append_W rfl _ _ rfl w.heap.size _ (upTo2 E1 E2 0) rfl HO2.out _ E1 X rfl B1.out hlen hsz ?_; intro v' w' hown' hg'; have HO3 := Lib.hid hown'; have HB3 := Lib.hid (HB2.out.grown hg' hsz (fun j hj => (HO2.out.lt j hj).1)); clear hown' hg')
          go_roundw
          case rel => exact ⟨1, by omega, HO3.out, rfl, HB3.out⟩
          case measure => simp [intOf]
        · have hlen : (upTo2 E1 E2 1).length + E2.length ≤ 4294967296 := by
            have := HN.out
            simp only [upTo2]
            simp; omega
          go_wp2_with (at_builtin; refine wpList_append_W rfl _ _ rfl w.heap.size _ (upTo2 E1 E2 1) rfl HO2.out _ E2 X rfl B2.out hlen hsz ?_; intro v' w' hown' hg'; have HO3 := Lib.hid hown'; have HB3 := Lib.hid (HB2.out.grown hg' hsz (fun j hj => (HO2.out.lt j hj).1)); clear hown' hg')
          go_roundw
          case rel => exact ⟨2, by omega, HO3.out, rfl, HB3.out⟩
          case measure => simp [intOf]
        · clear d0 d1
          go_wp2
          go_ret
          exact ⟨⟨_, rfl, HO2.out⟩, HB2.out⟩

end Jn
end Go.Proofs.YthapggobpfcmjaaGreat
