/- Write, Flush, Counts, New of a device. No condition. -/
import Derived.Test.YthapggobpfcmjaaGreatDva
import Derived.Deep.RegionHeld3
import Derived.Deep.AppendLies

set_option maxRecDepth 100000
namespace Go.Proofs.YthapggobpfcmjaaGreat
open Go.RowKit

theorem Tryz.info90 : (Tryz.prog.info? 90).map (fun i => (i.zero, i.size, i.bytes)) = some (some (.agg #[.int .i64 0, .slice none 0 0]), 2, 32) := by kernel_rfl

/-- What Write answers, and leaves. -/
def DSt.bad (s : DSt) (at_ : Int) (n : Nat) : Prop := ¬ (0 ≤ at_ ∧ at_ < s.secs.length) ∨ n ≠ 512
def DSt.writeErr (s : DSt) (at_ : Int) (l : List UInt8) : Int := if ¬ (0 ≤ at_ ∧ at_ < s.secs.length) ∨ l.length ≠ 512 then 1 else s.err
def DSt.write (s : DSt) (at_ : Int) (l : List UInt8) : DSt :=
  if ¬ (0 ≤ at_ ∧ at_ < s.secs.length) ∨ l.length ≠ 512 then s else if s.err = 0 then { s.begin_ with writes := s.begin_.writes + 1, waits := s.begin_.waits ++ [(at_.toNat, l)] } else s.begin_

theorem begin_secs (s : DSt) : s.begin_.secs.length = s.secs.length := by
  have h : s.fired.secs.length = s.secs.length := by
    unfold DSt.fired; split
    · exact crashW_secs _ _ _
    · rfl
  unfold DSt.begin_ DSt.ticked
  split
  · exact h
  · split <;> exact h
theorem begin_waits (s : DSt) : s.begin_.waits.length ≤ s.waits.length := by
  have h : s.fired.waits.length ≤ s.waits.length := by
    unfold DSt.fired; split
    · exact Nat.zero_le _
    · exact Nat.le_refl _
  unfold DSt.begin_ DSt.ticked
  split
  · exact h
  · split <;> exact h
theorem fired_writes (s : DSt) : s.fired.writes = s.writes ∧ s.fired.reads = s.reads ∧ s.fired.flushes = s.flushes := by
  have one : ∀ (s : DSt) x k, (s.one x k).writes = s.writes ∧ (s.one x k).reads = s.reads ∧ (s.one x k).flushes = s.flushes := by
    intro s x k; unfold DSt.one; split
    · exact ⟨rfl, rfl, rfl⟩
    · split <;> exact ⟨rfl, rfl, rfl⟩
  have key : ∀ (xs : List (Nat × List UInt8)) (ks : List Int) (s : DSt), (DSt.crashW xs ks s).writes = s.writes ∧ (DSt.crashW xs ks s).reads = s.reads ∧ (DSt.crashW xs ks s).flushes = s.flushes := by
    intro xs
    induction xs with
    | nil => intro ks s; exact ⟨rfl, rfl, rfl⟩
    | cons x xs ih =>
      intro ks s
      cases ks with
      | nil => exact ⟨rfl, rfl, rfl⟩
      | cons k ks =>
        have h1 := ih ks (s.one x k)
        have h2 := one s x k
        exact ⟨h1.1.trans h2.1, h1.2.1.trans h2.2.1, h1.2.2.trans h2.2.2⟩
  unfold DSt.fired; split
  · exact key _ _ _
  · exact ⟨rfl, rfl, rfl⟩
theorem begin_counts (s : DSt) : s.begin_.writes = s.writes ∧ s.begin_.reads = s.reads ∧ s.begin_.flushes = s.flushes := by
  have h := fired_writes s
  unfold DSt.begin_ DSt.ticked
  split
  · exact h
  · split <;> exact h
theorem err_cases (s : DSt) : s.err = 0 ∨ s.err = 2 := by unfold DSt.err; split <;> simp

set_option maxHeartbeats 400000 in
theorem write_bad {F : Nat → Prop} {w : World} {b : Nat} {s : DSt} (h : Dev w F b s) (at_ : Int) (a : Option Addr) (n cap : Nat) (hb : ¬ (0 ≤ at_ ∧ at_ < s.secs.length) ∨ n ≠ 512) :
    Calls Tryz.prog 18 #[.pointer (some ⟨b, 0, none⟩), .int .i64 at_, .slice a n cap] w fun e w' => e = .returned (.int .i64 1) ∧ w = w' := by
  obtain ⟨gs, S, wv, W, bm, es, clk, kv, h⟩ := h
  have c0 := has_any b gs s.secs.length at_ w (by rw [h.cell]; rfl)
  clear h
  by_cases hat : 0 ≤ at_ ∧ at_ < s.secs.length
  · have hn512 : ((n : Int) == 512) = false := by have := hb.resolve_left (fun h => h hat); simp; omega
    rw [decide_eq_true hat] at c0
    have C0 := Lib.hid c0
    clear c0 hat hb
    go_enter Tryz.func18, Tryz.ntmps18
    go_wp2_with fail
    refine C0.out.mono ?_
    rintro e w1 ⟨rfl, rfl⟩
    go_wp2
    go_ret
    exact ⟨rfl, rfl⟩
  · rw [decide_eq_false hat] at c0
    have C0 := Lib.hid c0
    clear c0 hat hb
    go_enter Tryz.func18, Tryz.ntmps18
    go_wp2_with fail
    refine C0.out.mono ?_
    rintro e w1 ⟨rfl, rfl⟩
    go_wp2
    go_ret
    exact ⟨rfl, rfl⟩

set_option maxHeartbeats 400000 in
theorem write_down {F : Nat → Prop} {w : World} {b : Nat} {s : DSt} (h : Dev w F b s) (hsz : s.waits.length < 4294967296) (at_ : Int) (a : Option Addr) (cap : Nat) (hat : 0 ≤ at_ ∧ at_ < s.secs.length) (he : s.err = 2) :
    Calls Tryz.prog 18 #[.pointer (some ⟨b, 0, none⟩), .int .i64 at_, .slice a 512 cap] w fun e w' => e = .returned (.int .i64 2) ∧ Touch F w w' ∧ Dev w' F b s.begin_ := by
  have hb := begin_any h hsz
  rw [he] at hb
  obtain ⟨gs, S, wv, W, bm, es, clk, kv, h⟩ := h
  have c0 := has_any b gs s.secs.length at_ w (by rw [h.cell]; rfl)
  rw [decide_eq_true hat] at c0
  have C0 := Lib.hid c0
  have HB := Lib.hid hb
  clear c0 hat hb h he hsz
  go_enter Tryz.func18, Tryz.ntmps18
  go_wp2_with fail
  refine C0.out.mono ?_
  rintro e w1 ⟨rfl, rfl⟩
  go_wp2_with fail
  refine HB.out.mono ?_
  rintro e w1 ⟨rfl, ht, hd⟩
  go_wp2
  go_ret
  exact ⟨rfl, ht, hd⟩

theorem ByteRow.of_touch {F : Nat → Prop} {w w1 : World} {g : Nat} {l : List UInt8} (h : ByteRow w g l) (ht : Touch F w w1) (hF : ¬ F g) : ByteRow w1 g l := h.touch ht hF

theorem write_post {F : Nat → Prop} {w w2 w3 : World} {b gs bm clk : Nat} {s : DSt} {S : List (Option Nat)} {wv kv : Value} {W : List (Nat × Nat × List UInt8)} {es : Array MapEntry}
    (h : DevAt w2 F b s gs S wv W bm es clk kv) (ht : Touch F w w2) (at_ : Nat) (l : List UInt8) (hl : l.length = 512) (hat : at_ < s.secs.length) {B : Obj} {gg cap : Nat}
    (hown : w3.ownsRow 0 90 2 (.slice (some ⟨gg, 0, none⟩) (W.length + 1) cap) (W.length + 1) (W.flatMap waitC ++ [.int .i64 (at_ : Int), .slice (some ⟨w2.heap.size, 0, none⟩) 512 512]))
    (hgrow : ((w2.alloc (.cells (rowA (padL l)) 5)).alloc B).drew.grownBy w3 wv.ownBlock) (hg : wv.ownBlock = some gg ∨ gg = w2.heap.size + 2) (hlt : gg < w3.heap.size) (s' : DSt) (hs' : s' = { s with waits := s.waits ++ [(at_, l)] }) :
    Touch F w (w3.setCell ⟨b, 1, none⟩ (.slice (some ⟨gg, 0, none⟩) (W.length + 1) cap)) ∧ Dev (w3.setCell ⟨b, 1, none⟩ (.slice (some ⟨gg, 0, none⟩) (W.length + 1) cap)) (Gr F w (w3.setCell ⟨b, 1, none⟩ (.slice (some ⟨gg, 0, none⟩) (W.length + 1) cap))) b s' := by
  subst hs'
  have t1 : Touch (fun k => wv.ownBlock = some k) w2 (((w2.alloc (.cells (rowA (padL l)) 5)).alloc B).drew) := ((((Touch.refl (fun k => wv.ownBlock = some k) w2).alloc _).alloc _).drew)
  have t2 : Touch (fun k => wv.ownBlock = some k) w2 w3 := t1.trans (Touch.of_grown (F := fun k => wv.ownBlock = some k) hgrow fun k hk => hk) fun _ h _ => h
  have hb3 : w3.heap[b]? = some (.cells (devC s gs wv bm kv) 64 (0, 0)) := t2.at h.dev fun hk => (h.wv_ne hk).1 rfl
  have hgb : gg ≠ b := by
    rcases hg with hg | hg
    · exact (h.wv_ne hg).1
    · have := lt_of_heap h.dev; omega
  have t3 : Touch (fun k => k = b) w3 (w3.setCell ⟨b, 1, none⟩ (.slice (some ⟨gg, 0, none⟩) (W.length + 1) cap)) := (Touch.refl (fun k => k = b) w3).setCell (a := ⟨b, 1, none⟩) (.inl rfl) _
  have T : Touch F w w3 := ht.trans (t2.mono (G := F) fun k _ hk => h.ownW k hk) fun _ h _ => h
  have T' : Touch F w (w3.setCell ⟨b, 1, none⟩ (.slice (some ⟨gg, 0, none⟩) (W.length + 1) cap)) := T.trans (t3.mono (G := F) fun k _ hk => hk ▸ h.ownD) fun _ h _ => h
  refine ⟨T', ?_⟩
  have hsz3 : w2.heap.size + 2 ≤ w3.heap.size := by have := hgrow.size; simpa using this
  have hnew : ByteRow w3 w2.heap.size l := by
    have e1 : w3.heap[w2.heap.size]? = some (.cells (rowA (padL l)) 5 (0, 0)) := by
      rw [hgrow.block w2.heap.size (by simp; omega) (fun e => by obtain ⟨c, hc⟩ := ownsRow_block h.rowW e.symm; have := lt_of_heap hc; omega)]
      exact heap_alloc2_old w2 _ _
    rw [padL_full l hl] at e1
    exact e1
  have hFG : ∀ k, F k → Gr F w (w3.setCell ⟨b, 1, none⟩ (.slice (some ⟨gg, 0, none⟩) (W.length + 1) cap)) k := fun k hk => .inl hk
  have hd3 : DevAt w2 (Gr F w (w3.setCell ⟨b, 1, none⟩ (.slice (some ⟨gg, 0, none⟩) (W.length + 1) cap))) b s gs S wv W bm es clk kv := h.mono hFG
  have hnF : Gr F w (w3.setCell ⟨b, 1, none⟩ (.slice (some ⟨gg, 0, none⟩) (W.length + 1) cap)) w2.heap.size := .inr ⟨ht.size, by simp; omega⟩
  have tb : Touch (fun k => k = b ∨ wv.ownBlock = some k) w2 (w3.setCell ⟨b, 1, none⟩ (.slice (some ⟨gg, 0, none⟩) (W.length + 1) cap)) :=
    (t2.mono (G := fun k => k = b ∨ wv.ownBlock = some k) fun k _ hk => .inr hk).trans (t3.mono (G := fun k => k = b ∨ wv.ownBlock = some k) fun k _ hk => .inl hk) fun _ h _ => h
  have hdat : ∀ k l, ByteRow w2 k l → ¬ (k = b ∨ wv.ownBlock = some k) := fun k l hk hc => hc.elim (h.data_ne hk).1 fun e => by
    obtain ⟨c, hc⟩ := ownsRow_block h.rowW e
    exact ne_of_obj hk hc (cells_ne (by decide)) rfl
  refine ⟨gs, S, .slice (some ⟨gg, 0, none⟩) (W.length + 1) cap, W ++ [(at_, w2.heap.size, l)], bm, es, clk, kv, ?_⟩
  refine ⟨hd3.ownD, hd3.ownS, hd3.ownM, ?_, ?_, h.lenS, ?_, ?_, ?_, ?_, ?_, ?_, h.torn, ?_, h.left, h.left2, h.size⟩
  · rw [heap_setCell_same _ _ _ _ _ _ hb3]; simp [devC]
  · exact tb.at h.rowS fun hc => hc.elim h.b_gs fun e => (h.wv_ne e).2.1 rfl
  · exact fun i o l h1 h2 => (hd3.secs i o l h1 h2).touch' tb hdat
  · have : (W ++ [(at_, w2.heap.size, l)]).flatMap waitC = W.flatMap waitC ++ [.int .i64 (at_ : Int), .slice (some ⟨w2.heap.size, 0, none⟩) 512 512] := by simp [waitC]
    rw [this, List.length_append]
    exact ownsRow_touch hown t3 fun k hk => by simp [Value.ownBlock] at hk; omega
  · intro k hk
    simp [Value.ownBlock] at hk
    subst hk
    rcases hg with hg | hg
    · exact .inl (h.ownW _ hg)
    · exact .inr ⟨by have := ht.size; omega, by simpa using hlt⟩
  · simp [h.waits]
  · intro x hx
    rcases List.mem_append.1 hx with hx | hx
    · have hd := hd3.data x hx
      exact ⟨hd.1, hd.2.1.touch tb (hdat _ _ hd.2.1), hd.2.2⟩
    · obtain rfl := List.mem_singleton.1 hx
      refine ⟨hnF, hnew.touch t3 ?_, hl, hat⟩
      have := lt_of_heap h.dev
      omega
  · exact tb.at h.map fun hc => hc.elim h.b_bm fun e => (h.wv_ne e).2.2 rfl
  · refine hd3.keep.touch' tb fun k c hc hk => hk.elim (h.int_ne hc).1 fun e => ?_
    obtain ⟨c', hc'⟩ := ownsRow_block h.rowW e
    exact ne_of_obj hc hc' (cells_ne (by decide)) rfl

set_option maxHeartbeats 1000000 in
theorem write_ok {F : Nat → Prop} {w : World} {b : Nat} {s : DSt} (h : Dev w F b s) (hsz : s.waits.length < 1048576) (hwr : s.begin_.writes < 4611686018427387904) (at_ : Nat) (v : Value) (l : List UInt8) (g : Nat) (hl : l.length = 512) (hr : Reads w v l g) (hg : ¬ F g)
    (hat : at_ < s.secs.length) (he : s.err = 0) :
    Calls Tryz.prog 18 #[.pointer (some ⟨b, 0, none⟩), .int .i64 (at_ : Int), v] w fun e w' => e = .returned (.int .i64 0) ∧ Touch F w w' ∧
      Dev w' (Gr F w w') b { s.begin_ with writes := s.begin_.writes + 1, waits := s.begin_.waits ++ [(at_, l)] } := by
  have hb := begin_any h (by omega)
  rw [he] at hb
  obtain ⟨gs, S, wv, W, bm, es, clk, kv, h⟩ := h
  have c0 := has_any b gs s.secs.length at_ w (by rw [h.cell]; rfl)
  rw [decide_eq_true (by omega)] at c0
  obtain ⟨a, cap, rfl, -⟩ := hr.form'
  rw [hl] at hr ⊢
  have C0 := Lib.hid c0
  have HB := Lib.hid hb
  have HR := Lib.hid hr
  have HAT := Lib.hid hat
  have HSZ : Hid (s.begin_.waits.length < 1048576) := Nat.lt_of_le_of_lt (begin_waits s) hsz
  clear c0 hat hb h he hsz hr
  go_enter Tryz.func18, Tryz.ntmps18
  go_wp2_with fail
  refine C0.out.mono ?_
  rintro e w1 ⟨rfl, rfl⟩
  go_wp2_with fail
  refine HB.out.mono ?_
  rintro e w1 ⟨rfl, ht, gs, S, wv, W, bm, es, clk, kv, hd⟩
  have d1 := hd.cell 1
  have d4 := hd.cell 4
  have f1 := hd.free 1
  have f4 := hd.free 4
  simp only [devC, List.getElem?_toArray, List.getElem?_cons_succ, List.getElem?_cons_zero] at d1 d4
  have HD := Lib.hid hd
  have hdb := lt_of_heap hd.dev
  clear hd
  go_wp2_with fail
  have ht2 : Touch (fun k => k = b) w1 (w1.setCell ⟨b, 4, none⟩ (.int .i64 ((s.begin_.writes : Int) + 1))) := (Touch.refl (fun k => k = b) w1).setCell (a := ⟨b, 4, none⟩) (.inl rfl) _
  have hd2 : DevAt (w1.setCell ⟨b, 4, none⟩ (.int .i64 ((s.begin_.writes : Int) + 1))) F b { s.begin_ with writes := s.begin_.writes + 1 } gs S wv W bm es clk kv := by
    refine HD.out.put1 ht2 ?_ rfl rfl rfl rfl HD.out.left HD.out.left2
    rw [heap_setCell_same _ _ _ _ _ _ HD.out.dev]
    simp [devC]
  have ht2' : Touch F w (w1.setCell ⟨b, 4, none⟩ (.int .i64 ((s.begin_.writes : Int) + 1))) := ht.trans (ht2.mono fun k _ hk => hk ▸ hd2.ownD) fun _ h _ => h
  clear d1 d4 f1 f4 HD hdb ht2 ht
  generalize w1.setCell ⟨b, 4, none⟩ (.int .i64 ((s.begin_.writes : Int) + 1)) = w2 at hd2 ht2' ⊢
  have d1 : w2.cell? ⟨b, 1, none⟩ = some wv := by rw [hd2.cell]; rfl
  have f1 := hd2.free 1
  have hdb := lt_of_heap hd2.dev
  have hown := hd2.rowW
  have hne : wv.ownBlock ≠ some b := fun hk => (hd2.wv_ne hk).1 rfl
  have hreads : Reads w2.drew (.slice a 512 cap) l g := HR.out.touch ht2'.drew hg
  have hl' : l.length ≤ 512 := by omega
  have hWl : W.length = s.begin_.waits.length := by have := congrArg List.length hd2.waits; simpa using this
  have HWL := Lib.hid hWl
  have hle := HSZ.out
  have hmx : W.length + 1 ≤ maxLen := by unfold maxLen; omega
  have hby : (W.length + 1) * 32 ≤ 140737488355328 := by omega
  clear hWl
  have HD2 := Lib.hid hd2
  have HT2 := Lib.hid ht2'
  clear hd2 ht2'
  obtain ⟨i0, hi0, hz0, hz1, hz2⟩ := info_parts Tryz.info90
  have hat0 : (0 : Int) ≤ (at_ : Int) := Int.natCast_nonneg _
  go_region_law
    ((first
      | (go_simp; go_at_call 48; refine (sectorOf_any _ l g _ hreads hl').mono ?_; rintro e w3 ⟨rfl, rfl⟩)
      | (refine step_append_lies _ (by rfl) _ _ _ (by rfl) 0 90 i0 _ 2 32 Tryz.underlying62 hi0 hz0 hz1 hz2 rfl (by omega) wv W.length (W.flatMap waitC) (by rfl) (((hown.alloc _).alloc _).drew) ⟨w2.heap.size + 1, 0, none⟩ 1 1 [.int .i64 (at_ : Int), .slice (some ⟨w2.heap.size, 0, none⟩) 512 512] (by rfl) (by rfl) (World.news_of_block (cs := #[.int .i64 (at_ : Int), .slice (some ⟨w2.heap.size, 0, none⟩) 512 512]) (t := 90) (fr := (0, 0)) (heap_alloc2_new w2 _ _)) (by simp [Value.oneCell']) (by omega) hmx hby (by omega) (w2.heap.size + 2) (by simp) ?_; intro gg cap' w3 hown3 hgrow hatg hlt; have d3 : w3.cell? ⟨b, 1, none⟩ = some wv := (hgrow.cell_far _ (by simp; omega) (Ne.symm hne)).trans (by simp [World.cell?_alloc_past, hdb, d1, Nat.lt_succ_of_lt hdb]); have f3 : w3.frozen? ⟨b, 1, none⟩ = false := (hgrow.frozen_far _ (by simp; omega) (Ne.symm hne)).trans (by simp [World.frozen?_alloc_past, hdb, f1, Nat.lt_succ_of_lt hdb]))))
  all_goals
    go_wp2
    go_ret
    refine ⟨rfl, ?_⟩
    exact write_post HD2.out HT2.out at_ l hl (by show at_ < s.begin_.secs.length; rw [begin_secs]; exact HAT.out) hown3 hgrow hatg hlt _ rfl

/-- Few writes wait, and few operations were done: what every caller keeps. -/
def DSt.Fit (s : DSt) : Prop := s.waits.length < 1048576 ∧ s.reads < 4611686018427387904 ∧ s.writes < 4611686018427387904 ∧ s.flushes < 4611686018427387904

theorem write_any {F : Nat → Prop} {w : World} {b : Nat} {s : DSt} (h : Dev w F b s) (hf : s.Fit) (at_ : Int) (v : Value) (l : List UInt8) (g : Nat) (hr : Reads w v l g) (hg : ¬ F g) :
    Calls Tryz.prog 18 #[.pointer (some ⟨b, 0, none⟩), .int .i64 at_, v] w fun e w' => e = .returned (.int .i64 (s.writeErr at_ l)) ∧ Touch F w w' ∧ Dev w' (Gr F w w') b (s.write at_ l) := by
  by_cases hb : ¬ (0 ≤ at_ ∧ at_ < s.secs.length) ∨ l.length ≠ 512
  · rw [DSt.writeErr, if_pos hb, DSt.write, if_pos hb]
    obtain ⟨a, cap, rfl, -⟩ := hr.form'
    refine (write_bad h at_ a l.length cap hb).mono ?_
    rintro e w' ⟨he, rfl⟩
    exact ⟨he, Touch.refl _ _, h.mono fun _ => .inl⟩
  · rw [DSt.writeErr, if_neg hb, DSt.write, if_neg hb]
    have hat : 0 ≤ at_ ∧ at_ < s.secs.length := Classical.byContradiction fun hc => hb (.inl hc)
    have hl : l.length = 512 := Classical.byContradiction fun hc => hb (.inr hc)
    rcases err_cases s with he | he
    · rw [he, if_pos rfl]
      obtain ⟨n, rfl⟩ := Int.eq_ofNat_of_zero_le hat.1
      exact write_ok h hf.1 (by rw [(begin_counts s).1]; exact hf.2.2.1) n v l g hl hr hg (by omega) he
    · rw [he, if_neg (by decide)]
      obtain ⟨a, cap, rfl, -⟩ := hr.form'
      rw [hl]
      refine (write_down h (by have := hf.1; omega) at_ a cap hat he).mono ?_
      rintro e w' ⟨he, ht, hd⟩
      exact ⟨he, ht, hd.mono fun _ => .inl⟩

end Go.Proofs.YthapggobpfcmjaaGreat

namespace Go.Proofs.YthapggobpfcmjaaGreat
open Go.RowKit

def DSt.settleAll : List (Nat × List UInt8) → DSt → DSt
  | [], s => s
  | x :: xs, s => settleAll xs (s.settle x.1 x.2)
theorem settleAll_snoc : ∀ (xs : List (Nat × List UInt8)) (s : DSt) (x : Nat × List UInt8), DSt.settleAll (xs ++ [x]) s = (DSt.settleAll xs s).settle x.1 x.2
  | [], _, _ => rfl
  | _ :: xs, _, x => settleAll_snoc xs _ x
theorem settleAll_secs : ∀ (xs : List (Nat × List UInt8)) (s : DSt), (DSt.settleAll xs s).secs.length = s.secs.length
  | [], _ => rfl
  | x :: xs, s => (settleAll_secs xs _).trans (by simp [DSt.settle])
theorem settleAll_waits : ∀ (xs : List (Nat × List UInt8)) (s : DSt), (DSt.settleAll xs s).waits = s.waits
  | [], _ => rfl
  | _ :: xs, _ => settleAll_waits xs _
def DSt.clear (s : DSt) : DSt := { s with waits := [] }
def DSt.incF (s : DSt) : DSt := { s with flushes := s.flushes + 1 }
def DSt.flush (s : DSt) : DSt := if s.err = 0 then (DSt.settleAll s.begin_.waits s.begin_.incF).clear else s.begin_

def FlushInv (w : World) (F : Nat → Prop) (b : Nat) (s : DSt) (gs : Nat) (wv : Value) (W : List (Nat × Nat × List UInt8)) (bm : Nat) (kv : Value) (k : Nat) (wr : World) : Prop :=
  Touch (Two gs bm) w wr ∧ ∃ S es clk, DevAt wr F b (DSt.settleAll (s.waits.take k) s) gs S wv W bm es clk kv

theorem flush_take {W : List (Nat × Nat × List UInt8)} {l : List (Nat × List UInt8)} (hw : W.map (fun x => (x.1, x.2.2)) = l) {k : Nat} (hlt : k < W.length) {x : Nat × Nat × List UInt8} (hx : x = W[k]) :
    l.take (k + 1) = l.take k ++ [(x.1, x.2.2)] := by
  have hlw : k < l.length := by rw [← hw]; simpa using hlt
  rw [List.take_succ_eq_append_getElem hlw]
  congr 2
  have : l[k]? = some (x.1, x.2.2) := by rw [← hw, hx]; simp [hlt]
  exact (List.getElem?_eq_some_iff.1 this).2

set_option maxHeartbeats 400000 in
theorem flush_down {F : Nat → Prop} {w : World} {b : Nat} {s : DSt} (h : Dev w F b s) (hsz : s.waits.length < 4294967296) (he : s.err = 2) :
    Calls Tryz.prog 53 #[.pointer (some ⟨b, 0, none⟩)] w fun e w' => e = .returned (.int .i64 2) ∧ Touch F w w' ∧ Dev w' F b s.begin_ := by
  have hb := begin_any h hsz
  rw [he] at hb
  have HB := Lib.hid hb
  clear hb h he hsz
  go_enter Tryz.func53, Tryz.ntmps53
  go_wp2_with fail
  refine HB.out.mono ?_
  rintro e w1 ⟨rfl, ht, hd⟩
  go_wp2
  go_ret
  exact ⟨rfl, ht, hd⟩

set_option maxHeartbeats 1000000 in
theorem flush_ok {F : Nat → Prop} {w : World} {b : Nat} {s : DSt} (h : Dev w F b s) (hf : s.Fit) (he : s.err = 0) :
    Calls Tryz.prog 53 #[.pointer (some ⟨b, 0, none⟩)] w fun e w' => e = .returned (.int .i64 0) ∧ Touch F w w' ∧ Dev w' F b s.flush := by
  have hb := begin_any h (by have := hf.1; omega)
  rw [he] at hb
  have hw1 : s.begin_.waits.length < 1048576 := Nat.lt_of_le_of_lt (begin_waits s) hf.1
  have hfl : s.begin_.flushes < 4611686018427387904 := by rw [(begin_counts s).2.2]; exact hf.2.2.2
  have HB := Lib.hid hb
  have HE := Lib.hid he
  have HW1 := Lib.hid hw1
  clear hb h he hf hw1
  go_enter Tryz.func53, Tryz.ntmps53
  go_wp2_with fail
  refine HB.out.mono ?_
  rintro e w1 ⟨rfl, ht, gs, S, wv, W, bm, es, clk, kv, hd⟩
  obtain ⟨wa, wcap, hwv, hwa⟩ := hd.wvForm
  have d1 := hd.cell 1
  have d5 := hd.cell 5
  have f5 := hd.free 5
  simp only [devC, List.getElem?_toArray, List.getElem?_cons_succ, List.getElem?_cons_zero, hwv] at d1 d5
  have ht2 : Touch (fun k => k = b) w1 (w1.setCell ⟨b, 5, none⟩ (.int .i64 ((s.begin_.flushes : Int) + 1))) := (Touch.refl (fun k => k = b) w1).setCell (a := ⟨b, 5, none⟩) (.inl rfl) _
  have hd2 : DevAt (w1.setCell ⟨b, 5, none⟩ (.int .i64 ((s.begin_.flushes : Int) + 1))) F b s.begin_.incF gs S wv W bm es clk kv := by
    refine hd.put1 ht2 ?_ rfl rfl rfl rfl hd.left hd.left2
    rw [heap_setCell_same _ _ _ _ _ _ hd.dev]
    simp [devC, DSt.incF]
  have ht2' : Touch F w (w1.setCell ⟨b, 5, none⟩ (.int .i64 ((s.begin_.flushes : Int) + 1))) := ht.trans (ht2.mono fun k _ hk => hk ▸ hd2.ownD) fun _ h _ => h
  have hsz : W.length < 1048576 := by have := congrArg List.length hd.waits; have := HW1.out; simp at *; omega
  have HD2 := Lib.hid hd2
  have HT2 := Lib.hid ht2'
  have HWV := Lib.hid hwv
  have HWA := Lib.hid hwa
  clear hd ht ht2 hd2 ht2' hwv hwa
  go_wp2_with fail
  obtain ⟨w2, hw2⟩ : ∃ w2, w2 = w1.setCell ⟨b, 5, none⟩ (.int .i64 ((s.begin_.flushes : Int) + 1)) := ⟨_, rfl⟩
  rw [← hw2] at HD2 HT2 ⊢
  clear hw2 d1 d5 f5
  go_loopw [25] (fun i wr => ∃ k : Nat, k ≤ W.length ∧ i = .int .i64 k ∧ FlushInv w2 F b s.begin_.incF gs wv W bm kv k wr) (fun i _ => W.length - (intOf i).toNat)
  case atStart => exact ⟨0, Nat.zero_le _, rfl, Touch.refl _ _, S, es, clk, HD2.out⟩
  case round =>
    obtain ⟨k, hkW, rfl, ht, S1, es1, clk1, hd⟩ := hrel
    by_cases hlt : k < W.length
    · obtain ⟨gw, rfl⟩ := HWA.out (by rintro rfl; simp at hlt)
      obtain ⟨hcA, hcB⟩ := hd.waitCell HWV.out hlt
      obtain ⟨x, hx⟩ : ∃ x, x = W[k] := ⟨_, rfl⟩
      have hxm : x ∈ W := by rw [hx]; exact List.getElem_mem hlt
      have HX := Lib.hid hx
      rw [← hx] at hcA hcB
      have hdx := hd.data x hxm
      have hD : ∀ o, DevAt (wr.alloc o) F b _ gs S1 wv W bm es1 clk1 kv := fun o => hd.touch ((Touch.refl Emp wr).alloc o) (fun _ _ h => h)
      have HD := Lib.hid hD
      have HDX := Lib.hid hdx
      clear hd hx hD hxm hdx
      go_wp2_with fail
      refine (settle_any (HD.out _) x.1 x.2.1 x.2.2 HDX.out.2.2.2 HDX.out.1 (HDX.out.2.1.touch ((Touch.refl Emp wr).alloc _) id) HDX.out.2.2.1).mono ?_
      rintro e w3 ⟨rfl, S2, es2, ht3, hd3⟩
      go_wp2
      go_roundw
      case rel =>
        refine ⟨k + 1, by omega, by go_num, ht.trans (((Touch.refl _ wr).alloc _).trans ht3 fun _ h _ => h) fun _ h _ => h, S2, es2, clk1, ?_⟩
        rw [flush_take HD2.out.waits hlt HX.out, settleAll_snoc]
        exact hd3
      case measure => simp [intOf]; omega
    · obtain rfl : k = W.length := by omega
      have d1 := hd.cell 1
      have f1 := hd.free 1
      simp only [devC, List.getElem?_toArray, List.getElem?_cons_succ, List.getElem?_cons_zero] at d1
      have HD0 := Lib.hid hd
      have HT0 := Lib.hid ht
      clear hd ht
      go_wp2
      go_ret
      have tb : Touch (fun k => k = b) wr (wr.setCell ⟨b, 1, none⟩ (.slice none 0 0)) := (Touch.refl (fun k => k = b) wr).setCell (a := ⟨b, 1, none⟩) (.inl rfl) _
      have hlen : W.length = s.begin_.waits.length := by have := congrArg List.length HD2.out.waits; rw [List.length_map] at this; exact this
      refine ⟨rfl, (HT2.out.trans (HT0.out.mono fun k _ hk => hk.elim (fun e => e ▸ HD2.out.ownS) (fun e => e ▸ HD2.out.ownM)) fun _ h _ => h).trans (tb.mono fun k _ hk => hk ▸ HD2.out.ownD) fun _ h _ => h, ?_⟩
      rw [DSt.flush, if_pos HE.out]
      have hd := HD0.out
      rw [hlen, show List.take s.begin_.waits.length s.begin_.incF.waits = s.begin_.waits from List.take_length] at hd
      refine ⟨gs, S1, .slice none 0 0, [], bm, es1, clk1, kv, ?_⟩
      refine hd.put tb ?_ rfl rfl (World.ownsRow_nil _ _ _ _) (by intro k hk; simp [Value.ownBlock] at hk) rfl (by intro x hx; simp at hx) (hd.keep.touch' tb fun k c hc => (hd.int_ne hc).1) hd.left hd.left2
      rw [heap_setCell_same _ _ _ _ _ _ hd.dev]
      simp [devC, DSt.clear]

theorem flush_any {F : Nat → Prop} {w : World} {b : Nat} {s : DSt} (h : Dev w F b s) (hf : s.Fit) :
    Calls Tryz.prog 53 #[.pointer (some ⟨b, 0, none⟩)] w fun e w' => e = .returned (.int .i64 s.err) ∧ Touch F w w' ∧ Dev w' F b s.flush := by
  rcases err_cases s with he | he
  · rw [he]; exact flush_ok h hf he
  · rw [he, DSt.flush, he, if_neg (by decide)]
    exact flush_down h (by have := hf.1; omega) he

def DSt.start (s : DSt) : DSt := { s with down := false }
def DSt.startErr (s : DSt) : Int := if s.down = true then 0 else 12
set_option maxHeartbeats 400000 in
theorem start_any {F : Nat → Prop} {w : World} {b : Nat} {s : DSt} (h : Dev w F b s) :
    Calls Tryz.prog 15 #[.pointer (some ⟨b, 0, none⟩)] w fun e w' => e = .returned (.int .i64 s.startErr) ∧ Touch F w w' ∧ Dev w' F b s.start := by
  have h0 := h
  have H0 := Lib.hid h0
  clear h0
  obtain ⟨gs, S, wv, W, bm, es, clk, kv, h⟩ := h
  have d6 := h.cell 6
  have f6 := h.free 6
  have H := Lib.hid h
  simp only [devC, List.getElem?_toArray, List.getElem?_cons_succ, List.getElem?_cons_zero] at d6
  clear h
  cases hdn : s.down
  · rw [hdn] at d6
    have e1 : s.startErr = 12 := if_neg (by rw [hdn]; simp)
    have e2 : s.start = s := by rw [DSt.start, ← hdn]
    rw [e1, e2]
    clear hdn e1 e2
    go_enter Tryz.func15, Tryz.ntmps15
    go_wp2
    go_ret
    exact ⟨rfl, Touch.refl _ _, H0.out⟩
  · rw [hdn] at d6
    have e1 : s.startErr = 0 := if_pos hdn
    rw [e1]
    clear hdn e1
    go_enter Tryz.func15, Tryz.ntmps15
    go_wp2
    go_ret
    have tb : Touch (fun k => k = b) w (w.setCell ⟨b, 6, none⟩ (.bool false)) := (Touch.refl (fun k => k = b) w).setCell (a := ⟨b, 6, none⟩) (.inl rfl) _
    refine ⟨rfl, tb.mono fun k _ hk => hk ▸ H.out.ownD, gs, S, wv, W, bm, es, clk, kv, H.out.put1 tb ?_ rfl rfl rfl rfl H.out.left H.out.left2⟩
    rw [heap_setCell_same _ _ _ _ _ _ H.out.dev]
    simp [devC, DSt.start]

set_option maxHeartbeats 400000 in
theorem counts_any {F : Nat → Prop} {w : World} {b : Nat} {s : DSt} (h : Dev w F b s) :
    Calls Tryz.prog 13 #[.pointer (some ⟨b, 0, none⟩)] w fun e w' => e = .returned (.agg #[.int .i64 s.reads, .int .i64 s.writes, .int .i64 s.flushes]) ∧ Touch Emp w w' := by
  obtain ⟨gs, S, wv, W, bm, es, clk, kv, h⟩ := h
  have d3 := h.cell 3
  have d4 := h.cell 4
  have d5 := h.cell 5
  have hdb := lt_of_heap h.dev
  simp only [devC, List.getElem?_toArray, List.getElem?_cons_succ, List.getElem?_cons_zero] at d3 d4 d5
  clear h
  go_enter Tryz.func13, Tryz.ntmps13
  go_wp2
  refine bodyPost_ret (v := .agg #[.int .i64 s.reads, .int .i64 s.writes, .int .i64 s.flushes]) (by simp [results, Tryz.results13, go_sem]) rfl ⟨rfl, (Touch.refl _ w).alloc _⟩

end Go.Proofs.YthapggobpfcmjaaGreat

namespace Go.Proofs.YthapggobpfcmjaaGreat
open Go.RowKit

theorem Tryz.info39 : (Tryz.prog.info? 39).map (fun i => (i.zero, i.size, i.bytes)) = some (some (.slice none 0 0), 1, 24) := by kernel_rfl
def DSt.new (n : Nat) : DSt := { secs := List.replicate n (zerosL 512), waits := [], torn := [], reads := 0, writes := 0, flushes := 0, down := false, armed := false, left := 0, keep := [] }

def nilsA (n : Nat) : Array Value := (List.map secV (List.replicate n none)).toArray
theorem nilsA_rep (n : Nat) : Array.replicate n (Value.slice none 0 0) = nilsA n := by simp [nilsA, secV]

theorem run_makeSecs (w : World) (n : Nat) (h1 : n ≤ 20000) :
    (Instr.makeSlice 47 (.int .i64 (n : Int)) (.int .i64 (n : Int))).run Tryz.prog w = .ok (.slice (some ⟨w.heap.size, 0, none⟩) n n) (w.alloc (.cells (nilsA n) 39)) := by
  obtain ⟨i0, hi, hz0, hz1, hz2⟩ := info_parts Tryz.info39
  have := run_make (P := Tryz.prog) w 47 39 i0 (.slice none 0 0) Tryz.underlying47 hi hz0 .i64 .i64 n n (by omega) (by omega) (by rw [hz2]; omega) (by omega)
  rw [this, hz1]
  simp only [Value.cells, madeCells_one, Nat.mul_one, Int.toNat_natCast, nilsA_rep]

set_option maxHeartbeats 400000 in
theorem new_bad (n : Int) (w : World) (h : n < 1 ∨ 20000 < n) :
    Calls Tryz.prog 6 #[.int .i64 n] w fun e w' => e = .returned (.tuple #[.pointer none, .int .i64 1]) ∧ w = w' := by
  rcases h with h | h
  · go_enter Tryz.func6, Tryz.ntmps6
    go_wp2
    go_ret2
    exact ⟨rfl, rfl⟩
  · have h' : ¬ n < 1 := by omega
    go_enter Tryz.func6, Tryz.ntmps6
    go_wp2
    go_ret2
    exact ⟨rfl, rfl⟩

set_option maxHeartbeats 400000 in
theorem new_walk (n : Nat) (w : World) (h1 : 1 ≤ n) (h2 : n ≤ 20000) :
    Calls Tryz.prog 6 #[.int .i64 (n : Int)] w fun e w' => e = .returned (.tuple #[.pointer (some ⟨w.heap.size + 2, 0, none⟩), .int .i64 0]) ∧
      ((w.alloc (.cells (nilsA n) 39)).alloc (.map #[] 0)).alloc (.cells #[.slice (some ⟨w.heap.size, 0, none⟩) n n, .slice none 0 0, .map (some (w.heap.size + 1)), .int .i64 0, .int .i64 0, .int .i64 0, .bool false, .bool false, .int .i64 0, .slice none 0 0] 64) = w' := by
  have hmk := run_makeSecs w n h2
  have hmm := @run_makeMap Tryz.prog
  go_enter Tryz.func6, Tryz.ntmps6
  go_wp2
  go_ret2
  exact ⟨rfl, rfl⟩

def NewF (w : World) (k : Nat) : Prop := w.heap.size ≤ k ∧ k < w.heap.size + 3

theorem new_any (n : Nat) (w : World) (h1 : 1 ≤ n) (h2 : n ≤ 20000) :
    Calls Tryz.prog 6 #[.int .i64 (n : Int)] w fun e w' => e = .returned (.tuple #[.pointer (some ⟨w.heap.size + 2, 0, none⟩), .int .i64 0]) ∧
      Touch Emp w w' ∧ w'.heap.size = w.heap.size + 3 ∧ Dev w' (NewF w) (w.heap.size + 2) (DSt.new n) := by
  refine (new_walk n w h1 h2).mono ?_
  rintro e w' ⟨he, rfl⟩
  refine ⟨he, (((Touch.refl _ w).alloc _).alloc _).alloc _, by simp, w.heap.size, List.replicate n none, .slice none 0 0, [], w.heap.size + 1, #[], 0, .slice none 0 0, ?_⟩
  have e1 : ∀ (A B C : Obj), (((w.alloc A).alloc B).alloc C).heap[w.heap.size + 2]? = some C := fun A B C => by
    have := heap_alloc_new ((w.alloc A).alloc B) C
    simpa using this
  refine ⟨⟨by omega, by omega⟩, ⟨by omega, by omega⟩, ⟨by omega, by omega⟩, ?_, ?_, by simp [DSt.new], ?_, World.ownsRow_nil _ _ _ _, (by intro k hk; simp [Value.ownBlock] at hk), rfl, (by intro x hx; simp at hx), ?_, ISet_nil, .inr ⟨⟨none, 0, rfl⟩, rfl⟩, (by intro h; cases h), (by show (0 : Int) ≤ _; omega), (by simpa [DSt.new] using h2)⟩
  · rw [e1]; simp [devC, DSt.new]
  · rw [Below.heap_alloc _ _ _ (by simp; omega), Below.heap_alloc _ _ _ (by simp)]
    exact heap_alloc_new w _
  · intro i o l ho hl
    simp only [DSt.new, List.getElem?_replicate] at ho hl
    split at ho
    · rename_i hi
      simp [hi] at ho hl
      subst ho hl
      exact ⟨zerosL_length 512, .inl ⟨rfl, rfl⟩⟩
    · simp at ho
  · rw [Below.heap_alloc _ _ _ (by simp)]
    have := heap_alloc_new (w.alloc (.cells (nilsA n) 39)) (.map #[] 0)
    simpa using this

/-- The blocks that a step has made. -/
def Fresh (w w' : World) (k : Nat) : Prop := w.heap.size ≤ k ∧ k < w'.heap.size

end Go.Proofs.YthapggobpfcmjaaGreat
