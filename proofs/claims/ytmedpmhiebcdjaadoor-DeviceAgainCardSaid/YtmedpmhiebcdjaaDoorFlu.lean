/- Flush, Down, Start, Arm, Counts, New. -/
import Derived.Test.YtmedpmhiebcdjaaDoorWri
namespace Go.Proofs.YtmedpmhiebcdjaaDoor
open Go.RowKit

def DSt.settleAll : List (Nat × List UInt8) → DSt → DSt
  | [], s => s
  | x :: xs, s => settleAll xs (s.settle x.1 x.2)
theorem settleAll_snoc : ∀ (xs : List (Nat × List UInt8)) (s : DSt) (x : Nat × List UInt8), DSt.settleAll (xs ++ [x]) s = (DSt.settleAll xs s).settle x.1 x.2
  | [], _, _ => rfl
  | _ :: xs, _, x => settleAll_snoc xs _ x
theorem settleAll_secs : ∀ (xs : List (Nat × List UInt8)) (s : DSt), (DSt.settleAll xs s).secs.length = s.secs.length
  | [], _ => rfl
  | x :: xs, s => (settleAll_secs xs _).trans (by simp [DSt.settle])
theorem settleAll_waits : ∀ (xs : List (Nat × List UInt8)) (s : DSt), (DSt.settleAll xs s).waits = s.waits
  | [], _ => rfl
  | _ :: xs, _ => settleAll_waits xs _
def DSt.clear (s : DSt) : DSt := { s with waits := [] }
def DSt.incF (s : DSt) : DSt := { s with flushes := s.flushes + 1 }
def DSt.flush (s : DSt) : DSt := if s.err = 0 then (DSt.settleAll s.begin_.waits s.begin_.incF).clear else s.begin_

def FlushInv (w : World) (F : Nat → Prop) (b : Nat) (s : DSt) (gs : Nat) (wv : Value) (W : List (Nat × Nat × List UInt8)) (bm : Nat) (kv : Value) (k : Nat) (wr : World) : Prop :=
  Touch (Two gs bm) w wr ∧ ∃ S es clk, DevAt wr F b (DSt.settleAll (s.waits.take k) s) gs S wv W bm es clk kv

theorem flush_take {W : List (Nat × Nat × List UInt8)} {l : List (Nat × List UInt8)} (hw : W.map (fun x => (x.1, x.2.2)) = l) {k : Nat} (hlt : k < W.length) {x : Nat × Nat × List UInt8} (hx : x = W[k]) :
    l.take (k + 1) = l.take k ++ [(x.1, x.2.2)] := by
  have hlw : k < l.length := by rw [← hw]; simpa using hlt
  rw [List.take_succ_eq_append_getElem hlw]
  congr 2
  have : l[k]? = some (x.1, x.2.2) := by rw [← hw, hx]; simp [hlt]
  exact (List.getElem?_eq_some_iff.1 this).2

set_option maxHeartbeats 400000 in
theorem flush_down {F : Nat → Prop} {w : World} {b : Nat} {s : DSt} (h : Dev w F b s) (hsz : s.waits.length < 4294967296) (he : s.err = 2) :
    Calls Tryd.prog 12 #[.pointer (some ⟨b, 0, none⟩)] w fun e w' => e = .returned (.int .i64 2) ∧ Touch F w w' ∧ Dev w' F b s.begin_ := by
  have hb := begin_any h hsz
  rw [he] at hb
  have HB := Lib.hid hb
  clear hb h he hsz
  go_enter Tryd.func12, Tryd.ntmps12
  go_wp2_with fail
  refine HB.out.mono ?_
  rintro e w1 ⟨rfl, ht, hd⟩
  go_wp2
  go_ret
  exact ⟨rfl, ht, hd⟩

set_option maxHeartbeats 1000000 in
theorem flush_ok {F : Nat → Prop} {w : World} {b : Nat} {s : DSt} (h : Dev w F b s) (hf : s.Fit) (he : s.err = 0) :
    Calls Tryd.prog 12 #[.pointer (some ⟨b, 0, none⟩)] w fun e w' => e = .returned (.int .i64 0) ∧ Touch F w w' ∧ Dev w' F b s.flush := by
  have hb := begin_any h (by have := hf.1; omega)
  rw [he] at hb
  have hw1 : s.begin_.waits.length < 1048576 := Nat.lt_of_le_of_lt (begin_waits s) hf.1
  have hfl : s.begin_.flushes < 4611686018427387904 := by rw [(begin_counts s).2.2]; exact hf.2.2.2
  have HB := Lib.hid hb
  have HE := Lib.hid he
  have HW1 := Lib.hid hw1
  clear hb h he hf hw1
  go_enter Tryd.func12, Tryd.ntmps12
  go_wp2_with fail
  refine HB.out.mono ?_
  rintro e w1 ⟨rfl, ht, gs, S, wv, W, bm, es, clk, kv, hd⟩
  obtain ⟨wa, wcap, hwv, hwa⟩ := hd.wvForm
  have d1 := hd.cell 1
  have d5 := hd.cell 5
  have f5 := hd.free 5
  simp only [devC, List.getElem?_toArray, List.getElem?_cons_succ, List.getElem?_cons_zero, hwv] at d1 d5
  have ht2 : Touch (fun k => k = b) w1 (w1.setCell ⟨b, 5, none⟩ (.int .i64 ((s.begin_.flushes : Int) + 1))) := (Touch.refl (fun k => k = b) w1).setCell (a := ⟨b, 5, none⟩) (.inl rfl) _
  have hd2 : DevAt (w1.setCell ⟨b, 5, none⟩ (.int .i64 ((s.begin_.flushes : Int) + 1))) F b s.begin_.incF gs S wv W bm es clk kv := by
    refine hd.put1 ht2 ?_ rfl rfl rfl rfl hd.left hd.left2
    rw [heap_setCell_same _ _ _ _ _ _ hd.dev]
    simp [devC, DSt.incF]
  have ht2' : Touch F w (w1.setCell ⟨b, 5, none⟩ (.int .i64 ((s.begin_.flushes : Int) + 1))) := ht.trans (ht2.mono fun k _ hk => hk ▸ hd2.ownD) fun _ h _ => h
  have hsz : W.length < 1048576 := by have := congrArg List.length hd.waits; have := HW1.out; simp at *; omega
  have HD2 := Lib.hid hd2
  have HT2 := Lib.hid ht2'
  have HWV := Lib.hid hwv
  have HWA := Lib.hid hwa
  clear hd ht ht2 hd2 ht2' hwv hwa
  go_wp2_with fail
  obtain ⟨w2, hw2⟩ : ∃ w2, w2 = w1.setCell ⟨b, 5, none⟩ (.int .i64 ((s.begin_.flushes : Int) + 1)) := ⟨_, rfl⟩
  rw [← hw2] at HD2 HT2 ⊢
  clear hw2 d1 d5 f5
  go_loopw [25] (fun i wr => ∃ k : Nat, k ≤ W.length ∧ i = .int .i64 k ∧ FlushInv w2 F b s.begin_.incF gs wv W bm kv k wr) (fun i _ => W.length - (intOf i).toNat)
  case atStart => exact ⟨0, Nat.zero_le _, rfl, Touch.refl _ _, S, es, clk, HD2.out⟩
  case round =>
    obtain ⟨k, hkW, rfl, ht, S1, es1, clk1, hd⟩ := hrel
    by_cases hlt : k < W.length
    · obtain ⟨gw, rfl⟩ := HWA.out (by rintro rfl; simp at hlt)
      obtain ⟨hcA, hcB⟩ := hd.waitCell HWV.out hlt
      obtain ⟨x, hx⟩ : ∃ x, x = W[k] := ⟨_, rfl⟩
      have hxm : x ∈ W := by rw [hx]; exact List.getElem_mem hlt
      have HX := Lib.hid hx
      rw [← hx] at hcA hcB
      have hdx := hd.data x hxm
      have hD : ∀ o, DevAt (wr.alloc o) F b _ gs S1 wv W bm es1 clk1 kv := fun o => hd.touch ((Touch.refl Emp wr).alloc o) (fun _ _ h => h)
      have HD := Lib.hid hD
      have HDX := Lib.hid hdx
      clear hd hx hD hxm hdx
      go_wp2_with fail
      refine (settle_any (HD.out _) x.1 x.2.1 x.2.2 HDX.out.2.2.2 HDX.out.1 (HDX.out.2.1.touch ((Touch.refl Emp wr).alloc _) id) HDX.out.2.2.1).mono ?_
      rintro e w3 ⟨rfl, S2, es2, ht3, hd3⟩
      go_wp2
      go_roundw
      case rel =>
        refine ⟨k + 1, by omega, by go_num, ht.trans (((Touch.refl _ wr).alloc _).trans ht3 fun _ h _ => h) fun _ h _ => h, S2, es2, clk1, ?_⟩
        rw [flush_take HD2.out.waits hlt HX.out, settleAll_snoc]
        exact hd3
      case measure => simp [intOf]; omega
    · obtain rfl : k = W.length := by omega
      have d1 := hd.cell 1
      have f1 := hd.free 1
      simp only [devC, List.getElem?_toArray, List.getElem?_cons_succ, List.getElem?_cons_zero] at d1
      have HD0 := Lib.hid hd
      have HT0 := Lib.hid ht
      clear hd ht
      go_wp2
      go_ret
      have tb : Touch (fun k => k = b) wr (wr.setCell ⟨b, 1, none⟩ (.slice none 0 0)) := (Touch.refl (fun k => k = b) wr).setCell (a := ⟨b, 1, none⟩) (.inl rfl) _
      have hlen : W.length = s.begin_.waits.length := by have := congrArg List.length HD2.out.waits; rw [List.length_map] at this; exact this
      refine ⟨rfl, (HT2.out.trans (HT0.out.mono fun k _ hk => hk.elim (fun e => e ▸ HD2.out.ownS) (fun e => e ▸ HD2.out.ownM)) fun _ h _ => h).trans (tb.mono fun k _ hk => hk ▸ HD2.out.ownD) fun _ h _ => h, ?_⟩
      rw [DSt.flush, if_pos HE.out]
      have hd := HD0.out
      rw [hlen, show List.take s.begin_.waits.length s.begin_.incF.waits = s.begin_.waits from List.take_length] at hd
      refine ⟨gs, S1, .slice none 0 0, [], bm, es1, clk1, kv, ?_⟩
      refine hd.put tb ?_ rfl rfl (World.ownsRow_nil _ _ _ _) (by intro k hk; simp [Value.ownBlock] at hk) rfl (by intro x hx; simp at hx) (hd.keep.touch' tb fun k c hc => (hd.int_ne hc).1) hd.left hd.left2
      rw [heap_setCell_same _ _ _ _ _ _ hd.dev]
      simp [devC, DSt.clear]

theorem flush_any {F : Nat → Prop} {w : World} {b : Nat} {s : DSt} (h : Dev w F b s) (hf : s.Fit) :
    Calls Tryd.prog 12 #[.pointer (some ⟨b, 0, none⟩)] w fun e w' => e = .returned (.int .i64 s.err) ∧ Touch F w w' ∧ Dev w' F b s.flush := by
  rcases err_cases s with he | he
  · rw [he]; exact flush_ok h hf he
  · rw [he, DSt.flush, he, if_neg (by decide)]
    exact flush_down h (by have := hf.1; omega) he

set_option maxHeartbeats 400000 in
theorem down_any {F : Nat → Prop} {w : World} {b : Nat} {s : DSt} (h : Dev w F b s) :
    Calls Tryd.prog 8 #[.pointer (some ⟨b, 0, none⟩)] w fun e w' => e = .returned (.bool s.down) ∧ w = w' := by
  obtain ⟨gs, S, wv, W, bm, es, clk, kv, h⟩ := h
  have d6 := h.cell 6
  simp only [devC, List.getElem?_toArray, List.getElem?_cons_succ, List.getElem?_cons_zero] at d6
  clear h
  go_enter Tryd.func8, Tryd.ntmps8
  go_wp2
  go_ret
  exact ⟨rfl, rfl⟩

def DSt.start (s : DSt) : DSt := { s with down := false }
def DSt.startErr (s : DSt) : Int := if s.down = true then 0 else 12
set_option maxHeartbeats 400000 in
theorem start_any {F : Nat → Prop} {w : World} {b : Nat} {s : DSt} (h : Dev w F b s) :
    Calls Tryd.prog 15 #[.pointer (some ⟨b, 0, none⟩)] w fun e w' => e = .returned (.int .i64 s.startErr) ∧ Touch F w w' ∧ Dev w' F b s.start := by
  have h0 := h
  have H0 := Lib.hid h0
  clear h0
  obtain ⟨gs, S, wv, W, bm, es, clk, kv, h⟩ := h
  have d6 := h.cell 6
  have f6 := h.free 6
  have H := Lib.hid h
  simp only [devC, List.getElem?_toArray, List.getElem?_cons_succ, List.getElem?_cons_zero] at d6
  clear h
  cases hdn : s.down
  · rw [hdn] at d6
    have e1 : s.startErr = 12 := if_neg (by rw [hdn]; simp)
    have e2 : s.start = s := by rw [DSt.start, ← hdn]
    rw [e1, e2]
    clear hdn e1 e2
    go_enter Tryd.func15, Tryd.ntmps15
    go_wp2
    go_ret
    exact ⟨rfl, Touch.refl _ _, H0.out⟩
  · rw [hdn] at d6
    have e1 : s.startErr = 0 := if_pos hdn
    rw [e1]
    clear hdn e1
    go_enter Tryd.func15, Tryd.ntmps15
    go_wp2
    go_ret
    have tb : Touch (fun k => k = b) w (w.setCell ⟨b, 6, none⟩ (.bool false)) := (Touch.refl (fun k => k = b) w).setCell (a := ⟨b, 6, none⟩) (.inl rfl) _
    refine ⟨rfl, tb.mono fun k _ hk => hk ▸ H.out.ownD, gs, S, wv, W, bm, es, clk, kv, H.out.put1 tb ?_ rfl rfl rfl rfl H.out.left H.out.left2⟩
    rw [heap_setCell_same _ _ _ _ _ _ H.out.dev]
    simp [devC, DSt.start]

set_option maxHeartbeats 400000 in
theorem counts_any {F : Nat → Prop} {w : World} {b : Nat} {s : DSt} (h : Dev w F b s) :
    Calls Tryd.prog 9 #[.pointer (some ⟨b, 0, none⟩)] w fun e w' => e = .returned (.agg #[.int .i64 s.reads, .int .i64 s.writes, .int .i64 s.flushes]) ∧ Touch Emp w w' := by
  obtain ⟨gs, S, wv, W, bm, es, clk, kv, h⟩ := h
  have d3 := h.cell 3
  have d4 := h.cell 4
  have d5 := h.cell 5
  have hdb := lt_of_heap h.dev
  simp only [devC, List.getElem?_toArray, List.getElem?_cons_succ, List.getElem?_cons_zero] at d3 d4 d5
  clear h
  go_enter Tryd.func9, Tryd.ntmps9
  go_wp2
  refine bodyPost_ret (v := .agg #[.int .i64 s.reads, .int .i64 s.writes, .int .i64 s.flushes]) (by simp [results, Tryd.results9, go_sem]) rfl ⟨rfl, (Touch.refl _ w).alloc _⟩

end Go.Proofs.YtmedpmhiebcdjaaDoor
