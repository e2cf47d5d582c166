/- New, Clone, Arm. -/
import Derived.Test.YtmedpmhiebcdjaaDoorFlu
namespace Go.Proofs.YtmedpmhiebcdjaaDoor
open Go.RowKit

theorem Tryd.info38 : (Tryd.prog.info? 38).map (fun i => (i.zero, i.size, i.bytes)) = some (some (.slice none 0 0), 1, 24) := by kernel_rfl
theorem Tryd.info3 : (Tryd.prog.info? 3).map (fun i => (i.zero, i.size, i.bytes)) = some (some (.int .i64 0), 1, 8) := by kernel_rfl

def DSt.new (n : Nat) : DSt := { secs := List.replicate n (zerosL 512), waits := [], torn := [], reads := 0, writes := 0, flushes := 0, down := false, armed := false, left := 0, keep := [] }

def nilsA (n : Nat) : Array Value := (List.map secV (List.replicate n none)).toArray
theorem nilsA_rep (n : Nat) : Array.replicate n (Value.slice none 0 0) = nilsA n := by simp [nilsA, secV]

theorem run_makeSecs (w : World) (n : Nat) (h1 : n ≤ 20000) :
    (Instr.makeSlice 45 (.int .i64 (n : Int)) (.int .i64 (n : Int))).run Tryd.prog w = .ok (.slice (some ⟨w.heap.size, 0, none⟩) n n) (w.alloc (.cells (nilsA n) 38)) := by
  obtain ⟨i0, hi, hz0, hz1, hz2⟩ := info_parts Tryd.info38
  have := run_make (P := Tryd.prog) w 45 38 i0 (.slice none 0 0) Tryd.underlying45 hi hz0 .i64 .i64 n n (by omega) (by omega) (by rw [hz2]; omega) (by omega)
  rw [this, hz1]
  simp only [Value.cells, madeCells_one, Nat.mul_one, Int.toNat_natCast, nilsA_rep]

set_option maxHeartbeats 400000 in
theorem new_bad (n : Int) (w : World) (h : n < 1 ∨ 20000 < n) :
    Calls Tryd.prog 5 #[.int .i64 n] w fun e w' => e = .returned (.tuple #[.pointer none, .int .i64 1]) ∧ w = w' := by
  rcases h with h | h
  · go_enter Tryd.func5, Tryd.ntmps5
    go_wp2
    go_ret2
    exact ⟨rfl, rfl⟩
  · have h' : ¬ n < 1 := by omega
    go_enter Tryd.func5, Tryd.ntmps5
    go_wp2
    go_ret2
    exact ⟨rfl, rfl⟩

set_option maxHeartbeats 400000 in
theorem new_walk (n : Nat) (w : World) (h1 : 1 ≤ n) (h2 : n ≤ 20000) :
    Calls Tryd.prog 5 #[.int .i64 (n : Int)] w fun e w' => e = .returned (.tuple #[.pointer (some ⟨w.heap.size + 2, 0, none⟩), .int .i64 0]) ∧
      ((w.alloc (.cells (nilsA n) 38)).alloc (.map #[] 0)).alloc (.cells #[.slice (some ⟨w.heap.size, 0, none⟩) n n, .slice none 0 0, .map (some (w.heap.size + 1)), .int .i64 0, .int .i64 0, .int .i64 0, .bool false, .bool false, .int .i64 0, .slice none 0 0] 49) = w' := by
  have hmk := run_makeSecs w n h2
  have hmm := @run_makeMap Tryd.prog
  go_enter Tryd.func5, Tryd.ntmps5
  go_wp2
  go_ret2
  exact ⟨rfl, rfl⟩

def NewF (w : World) (k : Nat) : Prop := w.heap.size ≤ k ∧ k < w.heap.size + 3

theorem new_any (n : Nat) (w : World) (h1 : 1 ≤ n) (h2 : n ≤ 20000) :
    Calls Tryd.prog 5 #[.int .i64 (n : Int)] w fun e w' => e = .returned (.tuple #[.pointer (some ⟨w.heap.size + 2, 0, none⟩), .int .i64 0]) ∧
      Touch Emp w w' ∧ w'.heap.size = w.heap.size + 3 ∧ Dev w' (NewF w) (w.heap.size + 2) (DSt.new n) := by
  refine (new_walk n w h1 h2).mono ?_
  rintro e w' ⟨he, rfl⟩
  refine ⟨he, (((Touch.refl _ w).alloc _).alloc _).alloc _, by simp, w.heap.size, List.replicate n none, .slice none 0 0, [], w.heap.size + 1, #[], 0, .slice none 0 0, ?_⟩
  have e1 : ∀ (A B C : Obj), (((w.alloc A).alloc B).alloc C).heap[w.heap.size + 2]? = some C := fun A B C => by
    have := heap_alloc_new ((w.alloc A).alloc B) C
    simpa using this
  refine ⟨⟨by omega, by omega⟩, ⟨by omega, by omega⟩, ⟨by omega, by omega⟩, ?_, ?_, by simp [DSt.new], ?_, World.ownsRow_nil _ _ _ _, (by intro k hk; simp [Value.ownBlock] at hk), rfl, (by intro x hx; simp at hx), ?_, ISet_nil, .inr ⟨⟨none, 0, rfl⟩, rfl⟩, (by intro h; cases h), (by show (0 : Int) ≤ _; omega), (by simpa [DSt.new] using h2)⟩
  · rw [e1]; simp [devC, DSt.new]
  · rw [Below.heap_alloc _ _ _ (by simp; omega), Below.heap_alloc _ _ _ (by simp)]
    exact heap_alloc_new w _
  · intro i o l ho hl
    simp only [DSt.new, List.getElem?_replicate] at ho hl
    split at ho
    · rename_i hi
      simp [hi] at ho hl
      subst ho hl
      exact ⟨zerosL_length 512, .inl ⟨rfl, rfl⟩⟩
    · simp at ho
  · rw [Below.heap_alloc _ _ _ (by simp)]
    have := heap_alloc_new (w.alloc (.cells (nilsA n) 38)) (.map #[] 0)
    simpa using this

/-- The blocks that a step has made. -/
def Fresh (w w' : World) (k : Nat) : Prop := w.heap.size ≤ k ∧ k < w'.heap.size

theorem ireads_news {w : World} {g off : Nat} {l : List Int} (hc : ∀ i (h : i < l.length), w.cell? ⟨g, off + i, none⟩ = some (.int .i64 l[i])) :
    ∀ j v, (l.map (Value.int .i64))[j]? = some v → w.cell? ((⟨g, off, none⟩ : Addr).add j) = some v := by
  intro j v hj
  rw [List.getElem?_map] at hj
  obtain ⟨x, hx, rfl⟩ := Option.map_eq_some_iff.1 hj
  obtain ⟨hlt, rfl⟩ := List.getElem?_eq_some_iff.1 hx
  have hadd : (⟨g, off, none⟩ : Addr).add j = ⟨g, off + j, none⟩ := by unfold Addr.add; split <;> simp_all
  rw [hadd]; exact hc j hlt

set_option maxHeartbeats 400000 in
theorem clone_nil (n cap : Nat) (w : World) :
    Calls Tryd.prog 25 #[.slice none n cap] w fun e w' => e = .returned (.slice none 0 0) ∧ w = w' := by
  have hq := fun W => Lib.run_eql_slice_nil (P := Tryd.prog) W 29 3 none n cap 0 0 Tryd.underlying29
  go_enter Tryd.func25, Tryd.ntmps25
  go_wp2
  go_ret
  exact ⟨rfl, rfl⟩

set_option maxHeartbeats 400000 in
theorem clone_some (a : Addr) (cap : Nat) (l : List Int) (w : World) (hc : ∀ j v, (l.map (Value.int .i64))[j]? = some v → w.cell? (a.add j) = some v) (hl : l.length * 8 ≤ 140737488351232) :
    Calls Tryd.prog 25 #[.slice (some a) l.length cap] w fun e w' => ∃ v', e = .returned v' ∧ Touch Emp w w' ∧ Ints w' (Fresh w w') v' l := by
  have hq := fun W => Lib.run_eql_slice_nil (P := Tryd.prog) W 29 3 (some a) l.length cap 0 0 Tryd.underlying29
  have hn : ∀ j v, (l.map (Value.int .i64))[j]? = some v → (w.alloc (.cells #[] 3)).cell? (a.add j) = some v := by
    intro j v hj
    have h1 := hc j v hj
    have h2 := World.block_lt_of_cell? w _ h1
    have e : (a.add j).block = a.block := by unfold Addr.add; split <;> rfl
    rw [World.cell?_alloc_lt _ _ _ h2]; exact h1
  have hown : (w.alloc (.cells #[] 3)).ownsRow w.heap.size 3 1 (.slice (some ⟨w.heap.size, 0, none⟩) 0 0) 0 [] := World.ownsRow_made w #[] 0 (Nat.le_refl _) (Nat.zero_le _) rfl
  have hone : ∀ u ∈ l.map (Value.int .i64), u.oneCell' = true := by intro u hu; obtain ⟨x, _, rfl⟩ := List.mem_map.1 hu; rfl
  have HN := Lib.hid hn
  have HO := Lib.hid hown
  have H1 := Lib.hid hone
  obtain ⟨i0, hi, hz0, hz1, hz2⟩ := info_parts Tryd.info3
  have hmx : 0 + l.length ≤ maxLen := by unfold maxLen; omega
  have hby : (0 + l.length) * 8 ≤ 140737488355328 := by omega
  clear hc hn hown hone
  go_enter Tryd.func25, Tryd.ntmps25
  go_wp2_with (at_builtin; refine wpList_append_own _ rfl (.tmp 5) (.tmp 6) 29 rfl w.heap.size 3 i0 (.int .i64 0) 1 8 Tryd.underlying29 hi hz0 hz1 hz2 rfl (by decide) (.slice (some ⟨w.heap.size, 0, none⟩) 0 0) 0 [] rfl HO.out a l.length cap (l.map (Value.int .i64)) rfl (by simp) HN.out H1.out hmx hby (by simp) ?_; intro v' w1 hown' hgrow hnil; clear hnil; have HO' := Lib.hid hown'; have HG := Lib.hid hgrow; clear hown' hgrow)
  go_ret
  have ht : Touch Emp w w1 := ((Touch.refl Emp w).alloc (.cells #[] 3)).trans (Touch.of_grown (F := fun k => k = w.heap.size) HG.out fun k hk => by simp [Value.ownBlock] at hk; exact hk.symm) fun k hk hlt => by omega
  refine ⟨v', rfl, ht, ?_⟩
  rcases HO'.out.2 with ⟨rfl, hn⟩ | ⟨g', cap', cur, rfl, hb, hgg, _, _, _, htk⟩
  · obtain rfl : l = [] := List.eq_nil_of_length_eq_zero (by omega)
    exact .inr ⟨⟨none, 0, rfl⟩, rfl⟩
  · refine .inl ⟨g', cap', cur, by rw [Nat.zero_add], ⟨hb, lt_of_heap hgg⟩, hgg, ?_⟩
    simpa using htk

theorem clone_any (v : Value) (l : List Int) (g : Nat) (w : World) (h : IReads w v l g) (hl : l.length * 8 ≤ 140737488351232) :
    Calls Tryd.prog 25 #[v] w fun e w' => ∃ v', e = .returned v' ∧ Touch Emp w w' ∧ Ints w' (Fresh w w') v' l := by
  obtain ⟨off, cap, ⟨rfl, hc⟩ | ⟨⟨a, rfl⟩, rfl⟩⟩ := h
  · exact clone_some ⟨g, off, none⟩ cap l w (ireads_news hc) hl
  · cases a with
    | none =>
      refine (clone_nil 0 cap w).mono ?_
      rintro e w' ⟨he, rfl⟩
      exact ⟨_, he, Touch.refl _ _, .inr ⟨⟨none, 0, rfl⟩, rfl⟩⟩
    | some a =>
      exact clone_some a cap [] w (by intro j v hj; simp at hj) (by simp)

theorem Ints.form {w : World} {F : Nat → Prop} {v : Value} {l : List Int} (h : Ints w F v l) : ∃ a cap, v = .slice a l.length cap := by
  rcases h with ⟨g, cap, c, rfl, _⟩ | ⟨⟨a, cap, rfl⟩, rfl⟩
  · exact ⟨_, cap, rfl⟩
  · exact ⟨a, cap, rfl⟩

def DSt.arm (s : DSt) (n : Int) (keep : List Int) : DSt :=
  if 0 ≤ n then { s with armed := true, left := n, keep := keep } else { s with armed := false, left := 0, keep := [] }

set_option maxHeartbeats 400000 in
theorem arm_any {F : Nat → Prop} {w : World} {b : Nat} {s : DSt} (h : Dev w F b s) (n : Int) (hn : n ≤ 9223372036854775807) (v : Value) (l : List Int) (g : Nat) (hr : IReads w v l g) (hg : l ≠ [] → g ≠ b) (hl : l.length * 8 ≤ 140737488351232) :
    Calls Tryd.prog 17 #[.pointer (some ⟨b, 0, none⟩), .int .i64 n, v] w fun e w' => e = .returned (.tuple #[]) ∧ Touch F w w' ∧ Dev w' (Gr F w w') b (s.arm n l) := by
  obtain ⟨gs, S, wv, W, bm, es, clk, kv, h⟩ := h
  have hdis := disarm_any b w _ h.dev (by simp [devC])
  have tb : Touch (fun k => k = b) w (((w.setCell ⟨b, 7, none⟩ (.bool false)).setCell ⟨b, 8, none⟩ (.int .i64 0)).setCell ⟨b, 9, none⟩ (.slice none 0 0)) :=
    (((Touch.refl (fun k => k = b) w).setCell (a := ⟨b, 7, none⟩) (.inl rfl) _).setCell (a := ⟨b, 8, none⟩) (.inl rfl) _).setCell (a := ⟨b, 9, none⟩) (.inl rfl) _
  have hb1 := heap_setCell_same _ b 9 _ _ (.slice none 0 0) (heap_setCell_same _ b 8 _ _ (.int .i64 0) (heap_setCell_same _ b 7 _ _ (.bool false) h.dev))
  have hr1 : IReads (((w.setCell ⟨b, 7, none⟩ (.bool false)).setCell ⟨b, 8, none⟩ (.int .i64 0)).setCell ⟨b, 9, none⟩ (.slice none 0 0)) v l g := by
    by_cases h0 : l = []
    · subst h0
      obtain ⟨off, cap, ⟨rfl, _⟩ | ⟨ha, _⟩⟩ := hr
      · exact ⟨off, cap, .inl ⟨rfl, fun i hi => absurd hi (by simp)⟩⟩
      · exact ⟨off, cap, .inr ⟨ha, rfl⟩⟩
    · exact hr.touch tb (hg h0)
  have HDIS := Lib.hid hdis
  have H := Lib.hid h
  have TB := Lib.hid tb
  generalize ((w.setCell ⟨b, 7, none⟩ (.bool false)).setCell ⟨b, 8, none⟩ (.int .i64 0)).setCell ⟨b, 9, none⟩ (.slice none 0 0) = w1 at *
  have hcl := clone_any v l g w1 hr1 hl
  have HCL := Lib.hid hcl
  have HB1 := Lib.hid hb1
  clear hr hg hdis h tb hb1 hr1 hcl
  by_cases h0 : 0 ≤ n
  · go_enter Tryd.func17, Tryd.ntmps17
    go_wp2_with fail
    refine HDIS.out.mono ?_
    rintro e w1' ⟨rfl, rfl⟩
    go_wp2_with fail
    refine HCL.out.mono ?_
    rintro e w2 ⟨v', rfl, ht2, hi2⟩
    obtain ⟨a', cap', rfl⟩ := hi2.form
    have hb2 := ht2.at HB1.out id
    have d7 := cell_of_row w2 b 7 _ _ _ hb2
    have d8 := cell_of_row w2 b 8 _ _ _ hb2
    have d9 := cell_of_row w2 b 9 _ _ _ hb2
    simp [devC] at d7 d8 d9
    have f7 := frozen_of_row w2 b 7 _ _ hb2
    have f8 := frozen_of_row w2 b 8 _ _ hb2
    have f9 := frozen_of_row w2 b 9 _ _ hb2
    have HT2 := Lib.hid ht2
    have HI2 := Lib.hid hi2
    have HB2 := Lib.hid hb2
    clear ht2 hi2 hb2
    go_wp2
    go_end0
    have tb2 : Touch (fun k => k = b) w2 (((w2.setCell ⟨b, 7, none⟩ (.bool true)).setCell ⟨b, 8, none⟩ (.int .i64 n)).setCell ⟨b, 9, none⟩ (.slice a' l.length cap')) :=
      (((Touch.refl (fun k => k = b) w2).setCell (a := ⟨b, 7, none⟩) (.inl rfl) _).setCell (a := ⟨b, 8, none⟩) (.inl rfl) _).setCell (a := ⟨b, 9, none⟩) (.inl rfl) _
    have hb3 := heap_setCell_same _ b 9 _ _ (.slice a' l.length cap') (heap_setCell_same _ b 8 _ _ (.int .i64 n) (heap_setCell_same _ b 7 _ _ (.bool true) HB2.out))
    have ta : Touch (fun k => k = b) w w2 := TB.out.trans (HT2.out.mono (G := fun _ => False) fun _ _ h => h) fun _ h _ => h.elim
    have tc : Touch (fun k => k = b) w _ := ta.trans tb2 fun _ h _ => h
    refine ⟨rfl, tc.mono fun k _ hk => hk ▸ H.out.ownD, gs, S, wv, W, bm, es, clk, .slice a' l.length cap', ?_⟩
    have hG := H.out.mono (G := Gr F w (((w2.setCell ⟨b, 7, none⟩ (.bool true)).setCell ⟨b, 8, none⟩ (.int .i64 n)).setCell ⟨b, 9, none⟩ (.slice a' l.length cap'))) fun _ => .inl
    rw [DSt.arm, if_pos h0]
    refine hG.put tc (by rw [hb3]; simp [devC]) rfl rfl (ownsRow_touch hG.rowW tc fun k hk => (hG.wv_ne hk).1) hG.ownW hG.waits
      (fun x hx => ⟨(hG.data x hx).1, (hG.data x hx).2.1.touch tc (hG.data_ne (hG.data x hx).2.1).1, (hG.data x hx).2.2⟩) ?_ (fun _ => h0) hn
    have hsz := TB.out.size
    have hI : Ints w2 (Gr F w (((w2.setCell ⟨b, 7, none⟩ (.bool true)).setCell ⟨b, 8, none⟩ (.int .i64 n)).setCell ⟨b, 9, none⟩ (.slice a' l.length cap'))) (.slice a' l.length cap') l :=
      HI2.out.mono fun k hk => .inr ⟨Nat.le_trans hsz hk.1, by simpa using hk.2⟩
    exact hI.touch' tb2 fun k c hc => ne_of_obj hc HB2.out (cells_ne (by decide))
  · have hd1 := TB.out
    have hb1 := HB1.out
    go_enter Tryd.func17, Tryd.ntmps17
    go_wp2_with fail
    refine HDIS.out.mono ?_
    rintro e w1' ⟨rfl, rfl⟩
    clear hd1 hb1
    go_wp2
    go_end0
    have hG := H.out.mono (G := Gr F w w1) fun _ => .inl
    refine ⟨rfl, TB.out.mono fun k _ hk => hk ▸ H.out.ownD, gs, S, wv, W, bm, es, clk, .slice none 0 0, ?_⟩
    rw [DSt.arm, if_neg (by omega)]
    exact hG.put TB.out (by rw [HB1.out]; simp [devC]) rfl rfl (ownsRow_touch hG.rowW TB.out fun k hk => (hG.wv_ne hk).1) hG.ownW hG.waits
      (fun x hx => ⟨(hG.data x hx).1, (hG.data x hx).2.1.touch TB.out (hG.data_ne (hG.data x hx).2.1).1, (hG.data x hx).2.2⟩) (.inr ⟨⟨none, 0, rfl⟩, rfl⟩) (fun h => by cases h) (by show (0 : Int) ≤ _; omega)

end Go.Proofs.YtmedpmhiebcdjaaDoor
