/- Write. -/
import Derived.Test.YtmedpmhiebcdjaaDoorBeg
import Derived.Deep.RegionHeld3
import Derived.Deep.AppendLies
namespace Go.Proofs.YtmedpmhiebcdjaaDoor
open Go.RowKit

theorem Tryd.info55 : (Tryd.prog.info? 55).map (fun i => (i.zero, i.size, i.bytes)) = some (some (.agg #[.int .i64 0, .slice none 0 0]), 2, 32) := by kernel_rfl

/-- What Write answers, and leaves. -/
def DSt.bad (s : DSt) (at_ : Int) (n : Nat) : Prop := ¬ (0 ≤ at_ ∧ at_ < s.secs.length) ∨ n ≠ 512
def DSt.writeErr (s : DSt) (at_ : Int) (l : List UInt8) : Int := if ¬ (0 ≤ at_ ∧ at_ < s.secs.length) ∨ l.length ≠ 512 then 1 else s.err
def DSt.write (s : DSt) (at_ : Int) (l : List UInt8) : DSt :=
  if ¬ (0 ≤ at_ ∧ at_ < s.secs.length) ∨ l.length ≠ 512 then s else if s.err = 0 then { s.begin_ with writes := s.begin_.writes + 1, waits := s.begin_.waits ++ [(at_.toNat, l)] } else s.begin_

theorem Reads.form {w : World} {v : Value} {l : List UInt8} {g : Nat} (h : Reads w v l g) : ∃ a cap, v = .slice a l.length cap := by
  obtain ⟨off, cap, ⟨rfl, _⟩ | ⟨⟨a, rfl⟩, rfl⟩⟩ := h
  · exact ⟨_, _, rfl⟩
  · exact ⟨a, cap, rfl⟩

theorem begin_secs (s : DSt) : s.begin_.secs.length = s.secs.length := by
  have h : s.fired.secs.length = s.secs.length := by
    unfold DSt.fired; split
    · exact crashW_secs _ _ _
    · rfl
  unfold DSt.begin_ DSt.ticked
  split
  · exact h
  · split <;> exact h
theorem begin_waits (s : DSt) : s.begin_.waits.length ≤ s.waits.length := by
  have h : s.fired.waits.length ≤ s.waits.length := by
    unfold DSt.fired; split
    · exact Nat.zero_le _
    · exact Nat.le_refl _
  unfold DSt.begin_ DSt.ticked
  split
  · exact h
  · split <;> exact h
theorem fired_writes (s : DSt) : s.fired.writes = s.writes ∧ s.fired.reads = s.reads ∧ s.fired.flushes = s.flushes := by
  have one : ∀ (s : DSt) x k, (s.one x k).writes = s.writes ∧ (s.one x k).reads = s.reads ∧ (s.one x k).flushes = s.flushes := by
    intro s x k; unfold DSt.one; split
    · exact ⟨rfl, rfl, rfl⟩
    · split <;> exact ⟨rfl, rfl, rfl⟩
  have key : ∀ (xs : List (Nat × List UInt8)) (ks : List Int) (s : DSt), (DSt.crashW xs ks s).writes = s.writes ∧ (DSt.crashW xs ks s).reads = s.reads ∧ (DSt.crashW xs ks s).flushes = s.flushes := by
    intro xs
    induction xs with
    | nil => intro ks s; exact ⟨rfl, rfl, rfl⟩
    | cons x xs ih =>
      intro ks s
      cases ks with
      | nil => exact ⟨rfl, rfl, rfl⟩
      | cons k ks =>
        have h1 := ih ks (s.one x k)
        have h2 := one s x k
        exact ⟨h1.1.trans h2.1, h1.2.1.trans h2.2.1, h1.2.2.trans h2.2.2⟩
  unfold DSt.fired; split
  · exact key _ _ _
  · exact ⟨rfl, rfl, rfl⟩
theorem begin_counts (s : DSt) : s.begin_.writes = s.writes ∧ s.begin_.reads = s.reads ∧ s.begin_.flushes = s.flushes := by
  have h := fired_writes s
  unfold DSt.begin_ DSt.ticked
  split
  · exact h
  · split <;> exact h
theorem err_cases (s : DSt) : s.err = 0 ∨ s.err = 2 := by unfold DSt.err; split <;> simp

set_option maxHeartbeats 400000 in
theorem write_bad {F : Nat → Prop} {w : World} {b : Nat} {s : DSt} (h : Dev w F b s) (at_ : Int) (a : Option Addr) (n cap : Nat) (hb : ¬ (0 ≤ at_ ∧ at_ < s.secs.length) ∨ n ≠ 512) :
    Calls Tryd.prog 10 #[.pointer (some ⟨b, 0, none⟩), .int .i64 at_, .slice a n cap] w fun e w' => e = .returned (.int .i64 1) ∧ w = w' := by
  obtain ⟨gs, S, wv, W, bm, es, clk, kv, h⟩ := h
  have c0 := has_any b gs s.secs.length at_ w (by rw [h.cell]; rfl)
  clear h
  by_cases hat : 0 ≤ at_ ∧ at_ < s.secs.length
  · have hn512 : ((n : Int) == 512) = false := by have := hb.resolve_left (fun h => h hat); simp; omega
    rw [decide_eq_true hat] at c0
    have C0 := Lib.hid c0
    clear c0 hat hb
    go_enter Tryd.func10, Tryd.ntmps10
    go_wp2_with fail
    refine C0.out.mono ?_
    rintro e w1 ⟨rfl, rfl⟩
    go_wp2
    go_ret
    exact ⟨rfl, rfl⟩
  · rw [decide_eq_false hat] at c0
    have C0 := Lib.hid c0
    clear c0 hat hb
    go_enter Tryd.func10, Tryd.ntmps10
    go_wp2_with fail
    refine C0.out.mono ?_
    rintro e w1 ⟨rfl, rfl⟩
    go_wp2
    go_ret
    exact ⟨rfl, rfl⟩

set_option maxHeartbeats 400000 in
theorem write_down {F : Nat → Prop} {w : World} {b : Nat} {s : DSt} (h : Dev w F b s) (hsz : s.waits.length < 4294967296) (at_ : Int) (a : Option Addr) (cap : Nat) (hat : 0 ≤ at_ ∧ at_ < s.secs.length) (he : s.err = 2) :
    Calls Tryd.prog 10 #[.pointer (some ⟨b, 0, none⟩), .int .i64 at_, .slice a 512 cap] w fun e w' => e = .returned (.int .i64 2) ∧ Touch F w w' ∧ Dev w' F b s.begin_ := by
  have hb := begin_any h hsz
  rw [he] at hb
  obtain ⟨gs, S, wv, W, bm, es, clk, kv, h⟩ := h
  have c0 := has_any b gs s.secs.length at_ w (by rw [h.cell]; rfl)
  rw [decide_eq_true hat] at c0
  have C0 := Lib.hid c0
  have HB := Lib.hid hb
  clear c0 hat hb h he hsz
  go_enter Tryd.func10, Tryd.ntmps10
  go_wp2_with fail
  refine C0.out.mono ?_
  rintro e w1 ⟨rfl, rfl⟩
  go_wp2_with fail
  refine HB.out.mono ?_
  rintro e w1 ⟨rfl, ht, hd⟩
  go_wp2
  go_ret
  exact ⟨rfl, ht, hd⟩

theorem ByteRow.of_touch {F : Nat → Prop} {w w1 : World} {g : Nat} {l : List UInt8} (h : ByteRow w g l) (ht : Touch F w w1) (hF : ¬ F g) : ByteRow w1 g l := h.touch ht hF

theorem write_post {F : Nat → Prop} {w w2 w3 : World} {b gs bm clk : Nat} {s : DSt} {S : List (Option Nat)} {wv kv : Value} {W : List (Nat × Nat × List UInt8)} {es : Array MapEntry}
    (h : DevAt w2 F b s gs S wv W bm es clk kv) (ht : Touch F w w2) (at_ : Nat) (l : List UInt8) (hl : l.length = 512) (hat : at_ < s.secs.length) {B : Obj} {gg cap : Nat}
    (hown : w3.ownsRow 0 55 2 (.slice (some ⟨gg, 0, none⟩) (W.length + 1) cap) (W.length + 1) (W.flatMap waitC ++ [.int .i64 (at_ : Int), .slice (some ⟨w2.heap.size, 0, none⟩) 512 512]))
    (hgrow : ((w2.alloc (.cells (rowA (padL l)) 5)).alloc B).drew.grownBy w3 wv.ownBlock) (hg : wv.ownBlock = some gg ∨ gg = w2.heap.size + 2) (hlt : gg < w3.heap.size) (s' : DSt) (hs' : s' = { s with waits := s.waits ++ [(at_, l)] }) :
    Touch F w (w3.setCell ⟨b, 1, none⟩ (.slice (some ⟨gg, 0, none⟩) (W.length + 1) cap)) ∧ Dev (w3.setCell ⟨b, 1, none⟩ (.slice (some ⟨gg, 0, none⟩) (W.length + 1) cap)) (Gr F w (w3.setCell ⟨b, 1, none⟩ (.slice (some ⟨gg, 0, none⟩) (W.length + 1) cap))) b s' := by
  subst hs'
  have t1 : Touch (fun k => wv.ownBlock = some k) w2 (((w2.alloc (.cells (rowA (padL l)) 5)).alloc B).drew) := ((((Touch.refl (fun k => wv.ownBlock = some k) w2).alloc _).alloc _).drew)
  have t2 : Touch (fun k => wv.ownBlock = some k) w2 w3 := t1.trans (Touch.of_grown (F := fun k => wv.ownBlock = some k) hgrow fun k hk => hk) fun _ h _ => h
  have hb3 : w3.heap[b]? = some (.cells (devC s gs wv bm kv) 49 (0, 0)) := t2.at h.dev fun hk => (h.wv_ne hk).1 rfl
  have hgb : gg ≠ b := by
    rcases hg with hg | hg
    · exact (h.wv_ne hg).1
    · have := lt_of_heap h.dev; omega
  have t3 : Touch (fun k => k = b) w3 (w3.setCell ⟨b, 1, none⟩ (.slice (some ⟨gg, 0, none⟩) (W.length + 1) cap)) := (Touch.refl (fun k => k = b) w3).setCell (a := ⟨b, 1, none⟩) (.inl rfl) _
  have T : Touch F w w3 := ht.trans (t2.mono (G := F) fun k _ hk => h.ownW k hk) fun _ h _ => h
  have T' : Touch F w (w3.setCell ⟨b, 1, none⟩ (.slice (some ⟨gg, 0, none⟩) (W.length + 1) cap)) := T.trans (t3.mono (G := F) fun k _ hk => hk ▸ h.ownD) fun _ h _ => h
  refine ⟨T', ?_⟩
  have hsz3 : w2.heap.size + 2 ≤ w3.heap.size := by have := hgrow.size; simpa using this
  have hnew : ByteRow w3 w2.heap.size l := by
    have e1 : w3.heap[w2.heap.size]? = some (.cells (rowA (padL l)) 5 (0, 0)) := by
      rw [hgrow.block w2.heap.size (by simp; omega) (fun e => by obtain ⟨c, hc⟩ := ownsRow_block h.rowW e.symm; have := lt_of_heap hc; omega)]
      exact heap_alloc2_old w2 _ _
    rw [padL_full l hl] at e1
    exact e1
  have hFG : ∀ k, F k → Gr F w (w3.setCell ⟨b, 1, none⟩ (.slice (some ⟨gg, 0, none⟩) (W.length + 1) cap)) k := fun k hk => .inl hk
  have hd3 : DevAt w2 (Gr F w (w3.setCell ⟨b, 1, none⟩ (.slice (some ⟨gg, 0, none⟩) (W.length + 1) cap))) b s gs S wv W bm es clk kv := h.mono hFG
  have hnF : Gr F w (w3.setCell ⟨b, 1, none⟩ (.slice (some ⟨gg, 0, none⟩) (W.length + 1) cap)) w2.heap.size := .inr ⟨ht.size, by simp; omega⟩
  have tb : Touch (fun k => k = b ∨ wv.ownBlock = some k) w2 (w3.setCell ⟨b, 1, none⟩ (.slice (some ⟨gg, 0, none⟩) (W.length + 1) cap)) :=
    (t2.mono (G := fun k => k = b ∨ wv.ownBlock = some k) fun k _ hk => .inr hk).trans (t3.mono (G := fun k => k = b ∨ wv.ownBlock = some k) fun k _ hk => .inl hk) fun _ h _ => h
  have hdat : ∀ k l, ByteRow w2 k l → ¬ (k = b ∨ wv.ownBlock = some k) := fun k l hk hc => hc.elim (h.data_ne hk).1 fun e => by
    obtain ⟨c, hc⟩ := ownsRow_block h.rowW e
    exact ne_of_obj hk hc (cells_ne (by decide)) rfl
  refine ⟨gs, S, .slice (some ⟨gg, 0, none⟩) (W.length + 1) cap, W ++ [(at_, w2.heap.size, l)], bm, es, clk, kv, ?_⟩
  refine ⟨hd3.ownD, hd3.ownS, hd3.ownM, ?_, ?_, h.lenS, ?_, ?_, ?_, ?_, ?_, ?_, h.torn, ?_, h.left, h.left2, h.size⟩
  · rw [heap_setCell_same _ _ _ _ _ _ hb3]; simp [devC]
  · exact tb.at h.rowS fun hc => hc.elim h.b_gs fun e => (h.wv_ne e).2.1 rfl
  · exact fun i o l h1 h2 => (hd3.secs i o l h1 h2).touch' tb hdat
  · have : (W ++ [(at_, w2.heap.size, l)]).flatMap waitC = W.flatMap waitC ++ [.int .i64 (at_ : Int), .slice (some ⟨w2.heap.size, 0, none⟩) 512 512] := by simp [waitC]
    rw [this, List.length_append]
    exact ownsRow_touch hown t3 fun k hk => by simp [Value.ownBlock] at hk; omega
  · intro k hk
    simp [Value.ownBlock] at hk
    subst hk
    rcases hg with hg | hg
    · exact .inl (h.ownW _ hg)
    · exact .inr ⟨by have := ht.size; omega, by simpa using hlt⟩
  · simp [h.waits]
  · intro x hx
    rcases List.mem_append.1 hx with hx | hx
    · have hd := hd3.data x hx
      exact ⟨hd.1, hd.2.1.touch tb (hdat _ _ hd.2.1), hd.2.2⟩
    · obtain rfl := List.mem_singleton.1 hx
      refine ⟨hnF, hnew.touch t3 ?_, hl, hat⟩
      have := lt_of_heap h.dev
      omega
  · exact tb.at h.map fun hc => hc.elim h.b_bm fun e => (h.wv_ne e).2.2 rfl
  · refine hd3.keep.touch' tb fun k c hc hk => hk.elim (h.int_ne hc).1 fun e => ?_
    obtain ⟨c', hc'⟩ := ownsRow_block h.rowW e
    exact ne_of_obj hc hc' (cells_ne (by decide)) rfl

set_option maxHeartbeats 1000000 in
theorem write_ok {F : Nat → Prop} {w : World} {b : Nat} {s : DSt} (h : Dev w F b s) (hsz : s.waits.length < 1048576) (hwr : s.begin_.writes < 4611686018427387904) (at_ : Nat) (v : Value) (l : List UInt8) (g : Nat) (hl : l.length = 512) (hr : Reads w v l g) (hg : ¬ F g)
    (hat : at_ < s.secs.length) (he : s.err = 0) :
    Calls Tryd.prog 10 #[.pointer (some ⟨b, 0, none⟩), .int .i64 (at_ : Int), v] w fun e w' => e = .returned (.int .i64 0) ∧ Touch F w w' ∧
      Dev w' (Gr F w w') b { s.begin_ with writes := s.begin_.writes + 1, waits := s.begin_.waits ++ [(at_, l)] } := by
  have hb := begin_any h (by omega)
  rw [he] at hb
  obtain ⟨gs, S, wv, W, bm, es, clk, kv, h⟩ := h
  have c0 := has_any b gs s.secs.length at_ w (by rw [h.cell]; rfl)
  rw [decide_eq_true (by omega)] at c0
  obtain ⟨a, cap, rfl⟩ := hr.form
  rw [hl] at hr ⊢
  have C0 := Lib.hid c0
  have HB := Lib.hid hb
  have HR := Lib.hid hr
  have HAT := Lib.hid hat
  have HSZ : Hid (s.begin_.waits.length < 1048576) := Nat.lt_of_le_of_lt (begin_waits s) hsz
  clear c0 hat hb h he hsz hr
  go_enter Tryd.func10, Tryd.ntmps10
  go_wp2_with fail
  refine C0.out.mono ?_
  rintro e w1 ⟨rfl, rfl⟩
  go_wp2_with fail
  refine HB.out.mono ?_
  rintro e w1 ⟨rfl, ht, gs, S, wv, W, bm, es, clk, kv, hd⟩
  have d1 := hd.cell 1
  have d4 := hd.cell 4
  have f1 := hd.free 1
  have f4 := hd.free 4
  simp only [devC, List.getElem?_toArray, List.getElem?_cons_succ, List.getElem?_cons_zero] at d1 d4
  have HD := Lib.hid hd
  have hdb := lt_of_heap hd.dev
  clear hd
  go_wp2_with fail
  have ht2 : Touch (fun k => k = b) w1 (w1.setCell ⟨b, 4, none⟩ (.int .i64 ((s.begin_.writes : Int) + 1))) := (Touch.refl (fun k => k = b) w1).setCell (a := ⟨b, 4, none⟩) (.inl rfl) _
  have hd2 : DevAt (w1.setCell ⟨b, 4, none⟩ (.int .i64 ((s.begin_.writes : Int) + 1))) F b { s.begin_ with writes := s.begin_.writes + 1 } gs S wv W bm es clk kv := by
    refine HD.out.put1 ht2 ?_ rfl rfl rfl rfl HD.out.left HD.out.left2
    rw [heap_setCell_same _ _ _ _ _ _ HD.out.dev]
    simp [devC]
  have ht2' : Touch F w (w1.setCell ⟨b, 4, none⟩ (.int .i64 ((s.begin_.writes : Int) + 1))) := ht.trans (ht2.mono fun k _ hk => hk ▸ hd2.ownD) fun _ h _ => h
  clear d1 d4 f1 f4 HD hdb ht2 ht
  generalize w1.setCell ⟨b, 4, none⟩ (.int .i64 ((s.begin_.writes : Int) + 1)) = w2 at hd2 ht2' ⊢
  have d1 : w2.cell? ⟨b, 1, none⟩ = some wv := by rw [hd2.cell]; rfl
  have f1 := hd2.free 1
  have hdb := lt_of_heap hd2.dev
  have hown := hd2.rowW
  have hne : wv.ownBlock ≠ some b := fun hk => (hd2.wv_ne hk).1 rfl
  have hreads : Reads w2.drew (.slice a 512 cap) l g := HR.out.touch ht2'.drew hg
  have hl' : l.length ≤ 512 := by omega
  have hWl : W.length = s.begin_.waits.length := by have := congrArg List.length hd2.waits; simpa using this
  have HWL := Lib.hid hWl
  have hle := HSZ.out
  have hmx : W.length + 1 ≤ maxLen := by unfold maxLen; omega
  have hby : (W.length + 1) * 32 ≤ 140737488355328 := by omega
  clear hWl
  have HD2 := Lib.hid hd2
  have HT2 := Lib.hid ht2'
  clear hd2 ht2'
  obtain ⟨i0, hi0, hz0, hz1, hz2⟩ := info_parts Tryd.info55
  have hat0 : (0 : Int) ≤ (at_ : Int) := Int.natCast_nonneg _
  go_region_law
    ((first
      | (go_simp; go_at_call 21; refine (sectorOf_any _ l g _ hreads hl').mono ?_; rintro e w3 ⟨rfl, rfl⟩)
      | (refine step_append_lies _ (by rfl) _ _ _ (by rfl) 0 55 i0 _ 2 32 Tryd.underlying47 hi0 hz0 hz1 hz2 rfl (by omega) wv W.length (W.flatMap waitC) (by rfl) (((hown.alloc _).alloc _).drew) ⟨w2.heap.size + 1, 0, none⟩ 1 1 [.int .i64 (at_ : Int), .slice (some ⟨w2.heap.size, 0, none⟩) 512 512] (by rfl) (by rfl) (World.news_of_block (cs := #[.int .i64 (at_ : Int), .slice (some ⟨w2.heap.size, 0, none⟩) 512 512]) (t := 55) (fr := (0, 0)) (heap_alloc2_new w2 _ _)) (by simp [Value.oneCell']) (by omega) hmx hby (by omega) (w2.heap.size + 2) (by simp) ?_; intro gg cap' w3 hown3 hgrow hatg hlt; have d3 : w3.cell? ⟨b, 1, none⟩ = some wv := (hgrow.cell_far _ (by simp; omega) (Ne.symm hne)).trans (by simp [World.cell?_alloc_past, hdb, d1, Nat.lt_succ_of_lt hdb]); have f3 : w3.frozen? ⟨b, 1, none⟩ = false := (hgrow.frozen_far _ (by simp; omega) (Ne.symm hne)).trans (by simp [World.frozen?_alloc_past, hdb, f1, Nat.lt_succ_of_lt hdb]))))
  all_goals
    go_wp2
    go_ret
    refine ⟨rfl, ?_⟩
    exact write_post HD2.out HT2.out at_ l hl (by show at_ < s.begin_.secs.length; rw [begin_secs]; exact HAT.out) hown3 hgrow hatg hlt _ rfl

/-- Few writes wait, and few operations were done: what every caller keeps. -/
def DSt.Fit (s : DSt) : Prop := s.waits.length < 1048576 ∧ s.reads < 4611686018427387904 ∧ s.writes < 4611686018427387904 ∧ s.flushes < 4611686018427387904

theorem write_any {F : Nat → Prop} {w : World} {b : Nat} {s : DSt} (h : Dev w F b s) (hf : s.Fit) (at_ : Int) (v : Value) (l : List UInt8) (g : Nat) (hr : Reads w v l g) (hg : ¬ F g) :
    Calls Tryd.prog 10 #[.pointer (some ⟨b, 0, none⟩), .int .i64 at_, v] w fun e w' => e = .returned (.int .i64 (s.writeErr at_ l)) ∧ Touch F w w' ∧ Dev w' (Gr F w w') b (s.write at_ l) := by
  by_cases hb : ¬ (0 ≤ at_ ∧ at_ < s.secs.length) ∨ l.length ≠ 512
  · rw [DSt.writeErr, if_pos hb, DSt.write, if_pos hb]
    obtain ⟨a, cap, rfl⟩ := hr.form
    refine (write_bad h at_ a l.length cap hb).mono ?_
    rintro e w' ⟨he, rfl⟩
    exact ⟨he, Touch.refl _ _, h.mono fun _ => .inl⟩
  · rw [DSt.writeErr, if_neg hb, DSt.write, if_neg hb]
    have hat : 0 ≤ at_ ∧ at_ < s.secs.length := Classical.byContradiction fun hc => hb (.inl hc)
    have hl : l.length = 512 := Classical.byContradiction fun hc => hb (.inr hc)
    rcases err_cases s with he | he
    · rw [he, if_pos rfl]
      obtain ⟨n, rfl⟩ := Int.eq_ofNat_of_zero_le hat.1
      exact write_ok h hf.1 (by rw [(begin_counts s).1]; exact hf.2.2.1) n v l g hl hr hg (by omega) he
    · rw [he, if_neg (by decide)]
      obtain ⟨a, cap, rfl⟩ := hr.form
      rw [hl]
      refine (write_down h (by have := hf.1; omega) at_ a cap hat he).mono ?_
      rintro e w' ⟨he, ht, hd⟩
      exact ⟨he, ht, hd.mono fun _ => .inl⟩

end Go.Proofs.YtmedpmhiebcdjaaDoor
