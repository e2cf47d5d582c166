/- Crash. -/
import Derived.Test.YtmedpmhiebcdjaaDoorDev
namespace Go.Proofs.YtmedpmhiebcdjaaDoor
open Go.RowKit

def DSt.tear (s : DSt) (at_ : Nat) : DSt := { s with torn := insT at_ s.torn }
def DSt.one (s : DSt) (x : Nat × List UInt8) (k : Int) : DSt := if k = 1 then s.settle x.1 x.2 else if k = 2 then s.tear x.1 else s
def DSt.crashW : List (Nat × List UInt8) → List Int → DSt → DSt
  | x :: xs, k :: ks, s => crashW xs ks (s.one x k)
  | _, _, s => s
def DSt.crash (s : DSt) (keep : List Int) : DSt := { DSt.crashW s.waits keep s with waits := [], down := true, armed := false, left := 0, keep := [] }

theorem crashW_snoc : ∀ (xs : List (Nat × List UInt8)) (ks : List Int) (s : DSt) (x : Nat × List UInt8) (k : Int), xs.length = ks.length →
    DSt.crashW (xs ++ [x]) (ks ++ [k]) s = (DSt.crashW xs ks s).one x k
  | [], [], s, x, k, _ => rfl
  | a :: xs, c :: ks, s, x, k, h => crashW_snoc xs ks _ x k (by simpa using h)
  | [], _ :: _, _, _, _, h => by simp at h
  | _ :: _, [], _, _, _, h => by simp at h
theorem crashW_take : ∀ (xs : List (Nat × List UInt8)) (ks : List Int) (s : DSt) (n : Nat), n = min xs.length ks.length → DSt.crashW (xs.take n) (ks.take n) s = DSt.crashW xs ks s
  | [], ks, s, n, h => by simp [DSt.crashW]
  | x :: xs, [], s, n, h => by simp at h; subst h; simp [DSt.crashW]
  | x :: xs, k :: ks, s, n, h => by
    obtain rfl : n = min xs.length ks.length + 1 := by simp at h; omega
    simp [DSt.crashW, crashW_take xs ks _ _ rfl]
theorem one_secs (s : DSt) (x : Nat × List UInt8) (k : Int) : (s.one x k).secs.length = s.secs.length := by
  unfold DSt.one; split
  · simp [DSt.settle]
  · split <;> rfl
theorem one_waits (s : DSt) (x : Nat × List UInt8) (k : Int) : (s.one x k).waits = s.waits := by
  unfold DSt.one; split
  · rfl
  · split <;> rfl
theorem crashW_secs : ∀ (xs : List (Nat × List UInt8)) (ks : List Int) (s : DSt), (DSt.crashW xs ks s).secs.length = s.secs.length
  | x :: xs, k :: ks, s => (crashW_secs xs ks _).trans (one_secs s x k)
  | [], _, _ => rfl
  | _ :: _, [], _ => rfl

/-- A slice value that reads as ints; its block is g. -/
def IReads (w : World) (v : Value) (l : List Int) (g : Nat) : Prop :=
  ∃ off cap, (v = .slice (some ⟨g, off, none⟩) l.length cap ∧ ∀ i (h : i < l.length), w.cell? ⟨g, off + i, none⟩ = some (.int .i64 l[i])) ∨ ((∃ a, v = .slice a 0 cap) ∧ l = [])
theorem IReads.touch {F : Nat → Prop} {w w1 : World} {v : Value} {g : Nat} {l : List Int} (h : IReads w v l g) (ht : Touch F w w1) (hF : ¬ F g) : IReads w1 v l g := by
  obtain ⟨off, cap, ⟨rfl, hc⟩ | ⟨ha, rfl⟩⟩ := h
  · refine ⟨off, cap, .inl ⟨rfl, fun i hi => ?_⟩⟩
    have := hc i hi
    rw [← this]
    exact World.cell?_of_block (ht.block g (World.block_lt_of_cell? w ⟨g, off + i, none⟩ this) hF)
  · exact ⟨off, cap, .inr ⟨ha, rfl⟩⟩

def Two (gs bm k : Nat) : Prop := k = gs ∨ k = bm
/-- How far Crash has come at its k-th write. -/
def CrashInv (w : World) (F : Nat → Prop) (b : Nat) (s : DSt) (gs : Nat) (wv : Value) (W : List (Nat × Nat × List UInt8)) (bm : Nat) (kv : Value) (keep : List Int) (k : Nat) (wr : World) : Prop :=
  Touch (Two gs bm) w wr ∧ ∃ S es clk, DevAt wr F b (DSt.crashW (s.waits.take k) (keep.take k) s) gs S wv W bm es clk kv

theorem waitC_at : ∀ (W : List (Nat × Nat × List UInt8)) (k : Nat) (h : k < W.length),
    (W.flatMap waitC)[k * 2]? = some (.int .i64 (W[k].1 : Int)) ∧ (W.flatMap waitC)[k * 2 + 1]? = some (.slice (some ⟨W[k].2.1, 0, none⟩) 512 512)
  | [], k, h => by simp at h
  | x :: W, 0, _ => by simp [waitC]
  | x :: W, k + 1, h => by
    have ih := waitC_at W k (by simpa using h)
    rw [show (k + 1) * 2 = k * 2 + 2 by omega]
    simpa [waitC] using ih

theorem add_lit (g j : Nat) : (⟨g, 0, none⟩ : Addr).add j = ⟨g, j, none⟩ := by unfold Addr.add; split <;> simp_all

theorem DevAt.waitCell {F : Nat → Prop} {w : World} {b gs bm clk : Nat} {s : DSt} {S : List (Option Nat)} {wv kv : Value} {W : List (Nat × Nat × List UInt8)} {es : Array MapEntry}
    (h : DevAt w F b s gs S wv W bm es clk kv) {gw n wcap : Nat} (hwv : wv = .slice (some ⟨gw, 0, none⟩) n wcap) {k : Nat} (hk : k < W.length) :
    w.cell? ⟨gw, k * 2, none⟩ = some (.int .i64 (W[k].1 : Int)) ∧ w.cell? ⟨gw, k * 2 + 1, none⟩ = some (.slice (some ⟨W[k].2.1, 0, none⟩) 512 512) := by
  have hc := h.rowW.cells (g := gw) (by rw [hwv]; rfl)
  have ha := waitC_at W k hk
  have h1 := hc _ _ ha.1
  have h2 := hc _ _ ha.2
  rw [add_lit] at h1 h2
  exact ⟨h1, h2⟩

set_option maxHeartbeats 400000 in
theorem disarm_any (b : Nat) (w : World) (c : Array Value) (h : w.heap[b]? = some (.cells c 49 (0, 0))) (hs : c.size = 10) :
    Calls Tryd.prog 23 #[.pointer (some ⟨b, 0, none⟩)] w fun e w' => e = .returned (.tuple #[]) ∧
      ((w.setCell ⟨b, 7, none⟩ (.bool false)).setCell ⟨b, 8, none⟩ (.int .i64 0)).setCell ⟨b, 9, none⟩ (.slice none 0 0) = w' := by
  have h7 : w.cell? ⟨b, 7, none⟩ = some c[7] := by rw [cell_of_row w b 7 _ _ _ h]; simp [hs]
  have h8 : w.cell? ⟨b, 8, none⟩ = some c[8] := by rw [cell_of_row w b 8 _ _ _ h]; simp [hs]
  have h9 : w.cell? ⟨b, 9, none⟩ = some c[9] := by rw [cell_of_row w b 9 _ _ _ h]; simp [hs]
  have f7 := frozen_of_row w b 7 _ _ h
  have f8 := frozen_of_row w b 8 _ _ h
  have f9 := frozen_of_row w b 9 _ _ h
  generalize c[7] = v0 at h7
  generalize c[8] = v1 at h8
  generalize c[9] = v2 at h9
  clear h hs
  go_enter Tryd.func23, Tryd.ntmps23
  go_wp2
  go_end0
  exact ⟨rfl, rfl⟩

theorem inv_step {F : Nat → Prop} {w wr w1 : World} {b gs bm : Nat} {s : DSt} {wv kv : Value} {W : List (Nat × Nat × List UInt8)} {keep : List Int} {k : Nat}
    (hw : W.map (fun x => (x.1, x.2.2)) = s.waits) (hlt : k < W.length) (hlk : k < keep.length) {x : Nat × Nat × List UInt8} (hx : x = W[k]) {q : Int} (hq : q = keep[k])
    (ht : Touch (Two gs bm) w wr) (ht2 : Touch (Two gs bm) wr w1) {S : List (Option Nat)} {es : Array MapEntry} {clk : Nat}
    (hd : DevAt w1 F b ((DSt.crashW (s.waits.take k) (keep.take k) s).one (x.1, x.2.2) q) gs S wv W bm es clk kv) : CrashInv w F b s gs wv W bm kv keep (k + 1) w1 := by
  refine ⟨ht.trans ht2 fun _ h _ => h, S, es, clk, ?_⟩
  have hlw : k < s.waits.length := by rw [← hw]; simpa using hlt
  have e1 : s.waits.take (k + 1) = s.waits.take k ++ [(x.1, x.2.2)] := by
    rw [List.take_succ_eq_append_getElem hlw]
    congr 2
    have : s.waits[k]? = some (x.1, x.2.2) := by rw [← hw, hx]; simp [hlt]
    exact (List.getElem?_eq_some_iff.1 this).2
  have e2 : keep.take (k + 1) = keep.take k ++ [q] := by rw [List.take_succ_eq_append_getElem hlk, hq]
  rw [e1, e2, crashW_snoc _ _ _ _ _ (by simp; omega)]
  exact hd

theorem tear_dev {F : Nat → Prop} {w : World} {b gs bm clk : Nat} {s : DSt} {S : List (Option Nat)} {wv kv : Value} {W : List (Nat × Nat × List UInt8)} {es : Array MapEntry}
    (h : DevAt w F b s gs S wv W bm es clk kv) (at_ : Nat) {es' : Array MapEntry} {clk' : Nat} (he : ISet es' (insT at_ s.torn)) :
    DevAt (ChangeMaps.setBlock w bm (.map es' clk')) F b (s.tear at_) gs S wv W bm es' clk' kv := by
  have ht : Touch (fun k => k = bm) w (ChangeMaps.setBlock w bm (.map es' clk')) := (Touch.refl (fun k => k = bm) w).setBlock (g := bm) (.inl rfl) _
  have hdat : ∀ k l, ByteRow w k l → ¬ (k = bm) := fun k l hk => (h.data_ne hk).2.2
  exact ⟨h.ownD, h.ownS, h.ownM, ht.at h.dev h.b_bm.symm, ht.at h.rowS h.gs_bm, h.lenS, fun i o l h1 h2 => (h.secs i o l h1 h2).touch' ht hdat,
    ownsRow_touch h.rowW ht fun k hk => (h.wv_ne hk).2.2, h.ownW, h.waits, fun x hx => ⟨(h.data x hx).1, (h.data x hx).2.1.touch ht (hdat _ _ (h.data x hx).2.1), (h.data x hx).2.2⟩,
    heap_setBlock_same h.map, he, h.keep.touch' ht fun k c hc => (h.int_ne hc).2.2, h.left, h.left2, h.size⟩

def CrashPost (w : World) (F : Nat → Prop) (b : Nat) (s : DSt) (gs : Nat) (wv : Value) (W : List (Nat × Nat × List UInt8)) (bm : Nat) (kv : Value) (keep : List Int) (k : Nat) (w' : World) : Prop :=
  ∃ wr, CrashInv w F b s gs wv W bm kv keep k wr ∧ Touch (fun k => k = b) wr w' ∧ ∀ c, wr.heap[b]? = some (.cells c 49 (0, 0)) →
    w'.heap[b]? = some (.cells (((((c.setIfInBounds 1 (.slice none 0 0)).setIfInBounds 6 (.bool true)).setIfInBounds 7 (.bool false)).setIfInBounds 8 (.int .i64 0)).setIfInBounds 9 (.slice none 0 0)) 49 (0, 0))

theorem crash_post {w wr : World} {F : Nat → Prop} {b : Nat} {s : DSt} {gs : Nat} {wv : Value} {W : List (Nat × Nat × List UInt8)} {bm : Nat} {kv : Value} {keep : List Int} {k : Nat} (h : CrashInv w F b s gs wv W bm kv keep k wr) :
    CrashPost w F b s gs wv W bm kv keep k (((((wr.setCell ⟨b, 1, none⟩ (.slice none 0 0)).setCell ⟨b, 6, none⟩ (.bool true)).setCell ⟨b, 7, none⟩ (.bool false)).setCell ⟨b, 8, none⟩ (.int .i64 0)).setCell ⟨b, 9, none⟩ (.slice none 0 0)) := by
  refine ⟨wr, h, ?_, fun c hc => ?_⟩
  · exact ((((((Touch.refl (fun k => k = b) wr).setCell (a := ⟨b, 1, none⟩) (.inl rfl) _).setCell (a := ⟨b, 6, none⟩) (.inl rfl) _).setCell (a := ⟨b, 7, none⟩) (.inl rfl) _).setCell (a := ⟨b, 8, none⟩) (.inl rfl) _).setCell (a := ⟨b, 9, none⟩) (.inl rfl) _)
  · exact heap_setCell_same _ _ _ _ _ _ (heap_setCell_same _ _ _ _ _ _ (heap_setCell_same _ _ _ _ _ _ (heap_setCell_same _ _ _ _ _ _ (heap_setCell_same _ _ _ _ _ _ hc))))
theorem CrashPost.alloc {w w1 : World} {F : Nat → Prop} {b : Nat} {s : DSt} {gs : Nat} {wv : Value} {W : List (Nat × Nat × List UInt8)} {bm : Nat} {kv : Value} {keep : List Int} {k : Nat} (h : CrashPost w F b s gs wv W bm kv keep k w1) (o : Obj) :
    CrashPost w F b s gs wv W bm kv keep k (w1.alloc o) := by
  obtain ⟨wr, h1, h2, h3⟩ := h
  exact ⟨wr, h1, h2.alloc o, fun c hc => (Below.heap_alloc _ _ _ (lt_of_heap (h3 c hc))).trans (h3 c hc)⟩

set_option maxHeartbeats 1000000 in
theorem crash_walk {F : Nat → Prop} {w : World} {b gs bm clk : Nat} {s : DSt} {S : List (Option Nat)} {wv kv : Value} {W : List (Nat × Nat × List UInt8)} {es : Array MapEntry}
    (h : DevAt w F b s gs S wv W bm es clk kv) (wa : Option Addr) (wcap : Nat) (hwv : wv = .slice wa W.length wcap) (hwa : W ≠ [] → ∃ gw, wa = some ⟨gw, 0, none⟩) (a : Option Addr) (g : Nat) (keep : List Int) (kcap : Nat)
    (hk : keep ≠ [] → ∃ off, a = some ⟨g, off, none⟩ ∧ ∀ i (h : i < keep.length), w.cell? ⟨g, off + i, none⟩ = some (.int .i64 keep[i])) (hg : g ≠ b ∧ g ≠ gs ∧ g ≠ bm) (hsz : W.length < 4294967296) :
    Calls Tryd.prog 13 #[.pointer (some ⟨b, 0, none⟩), .slice a keep.length kcap] w fun e w' => e = .returned (.tuple #[]) ∧
      CrashPost w F b s gs wv W bm kv keep (min W.length keep.length) w' := by
  have hc1 : w.cell? ⟨b, 1, none⟩ = some (.slice wa W.length wcap) := by rw [h.cell, ← hwv]; rfl
  have HWV := Lib.hid hwv
  clear hwv
  have HK := Lib.hid hk
  clear hk
  have H := Lib.hid h
  clear h
  have HWA := Lib.hid hwa
  clear hwa
  go_enter Tryd.func13, Tryd.ntmps13
  go_wp2
  go_loopw [11] (fun i wr => ∃ k : Nat, k ≤ W.length ∧ k ≤ keep.length ∧ i = .int .i64 k ∧ CrashInv w F b s gs wv W bm kv keep k wr) (fun i _ => W.length - (intOf i).toNat)
  case atStart => exact ⟨0, Nat.zero_le _, Nat.zero_le _, rfl, Touch.refl _ _, S, es, clk, by simpa [DSt.crashW] using H.out⟩
  case round =>
    obtain ⟨k, hkW, hkK, rfl, ht, S1, es1, clk1, hd⟩ := hrel
    have HD := Lib.hid hd
    by_cases hlt : k < W.length
    · obtain ⟨gw, rfl⟩ := HWA.out (by rintro rfl; simp at hlt)
      obtain ⟨hcA, hcB⟩ := hd.waitCell HWV.out hlt
      obtain ⟨x, hx⟩ : ∃ x, x = W[k] := ⟨_, rfl⟩
      have hxm : x ∈ W := by rw [hx]; exact List.getElem_mem hlt
      have HX := Lib.hid hx
      rw [← hx] at hcA hcB
      have hdx := hd.data x hxm
      have hdb := lt_of_heap hd.dev
      have hD : ∀ o, DevAt (wr.alloc o) F b _ gs S1 wv W bm es1 clk1 kv := fun o => hd.touch ((Touch.refl Emp wr).alloc o) (fun _ _ h => h)
      have HD := Lib.hid hD
      have HD0 := Lib.hid hd
      have HDX := Lib.hid hdx
      clear hd hx hD hxm hdx hc1
      by_cases hlk : k < keep.length
      · obtain ⟨off, rfl, hcells⟩ := HK.out (by rintro rfl; simp at hlk)
        have HCS := Lib.hid hcells
        clear hcells
        have hkk : wr.cell? ⟨g, off + k, none⟩ = some (.int .i64 keep[k]) := by
          have := HCS.out k hlk
          rw [← this]
          exact World.cell?_of_block (ht.block g (World.block_lt_of_cell? w ⟨g, off + k, none⟩ this) (by have := hg.2; unfold Two; omega))
        have hgg := World.block_lt_of_cell? wr ⟨g, off + k, none⟩ hkk
        have hgg : g < wr.heap.size := hgg
        obtain ⟨q, hq⟩ : ∃ q, q = keep[k] := ⟨_, rfl⟩
        have HQ := Lib.hid hq
        rw [← hq] at hkk
        clear hq
        by_cases h1 : q = 1
        · subst h1
          go_wp2_with fail
          refine (settle_any (HD.out _) x.1 x.2.1 x.2.2 HDX.out.2.2.2 HDX.out.1 (HDX.out.2.1.touch ((Touch.refl Emp wr).alloc _) id) HDX.out.2.2.1).mono ?_
          rintro e w1 ⟨rfl, S2, es2, ht2, hd2⟩
          go_wp2
          go_roundw
          case rel => exact ⟨k + 1, by omega, by omega, by go_num, inv_step H.out.waits hlt hlk HX.out HQ.out ht ((((Touch.refl _ wr).alloc _).trans ht2 fun _ h _ => h)) hd2⟩
          case measure => simp [intOf]; omega
        · have h1b : (q == 1) = false := by simpa using h1
          by_cases h2 : q = 2
          · subst h2
            obtain ⟨es2, clk2, hes2, hrun⟩ := run_update_iset (P := Tryd.prog) Tryd.underlying46 Tryd.underlying3 (clk := clk1) (HD.out (.map #[] 0)).torn x.1
            have hc2 : wr.cell? ⟨b, 2, none⟩ = some (.map (some bm)) := by
              have := (HD.out (.map #[] 0)).cell 2
              rw [World.cell?_alloc_lt _ _ _ (by exact hdb)] at this
              exact this
            have hupd : (Instr.mapUpdate 46 (.map (some bm)) (.int .i64 (x.1 : Int)) (.agg #[])).run Tryd.prog ((wr.alloc (.cells #[.int .i64 (x.1 : Int), .slice (some ⟨x.2.1, 0, none⟩) 512 512] 55)).drew) =
              .ok () (ChangeMaps.setBlock (wr.alloc (.cells #[.int .i64 (x.1 : Int), .slice (some ⟨x.2.1, 0, none⟩) 512 512] 55)).drew bm (.map es2 clk2)) := by
              refine hrun bm _ (HD.out _).map
            go_wp2
            go_region
            go_wp2
            go_roundw
            case rel =>
              refine ⟨k + 1, by omega, by omega, by go_num, inv_step H.out.waits hlt hlk HX.out HQ.out ht ((((Touch.refl _ wr).alloc _).drew).setBlock (g := bm) (.inl (.inr rfl)) _) (S := S1) (es := es2) (clk := clk2) ?_⟩
              exact tear_dev ((HD.out _).touch (w1 := (wr.alloc (.cells #[.int .i64 (x.1 : Int), .slice (some ⟨x.2.1, 0, none⟩) 512 512] 55)).drew) (Touch.refl Emp _).drew fun _ _ h => h) x.1 hes2
            case measure => simp [intOf]; omega
          · have h2b : (q == 2) = false := by simpa using h2
            have h3 : DSt.one (DSt.crashW (s.waits.take k) (keep.take k) s) (x.1, x.2.2) q = DSt.crashW (s.waits.take k) (keep.take k) s := by unfold DSt.one; rw [if_neg h1, if_neg h2]
            have H3 := Lib.hid h3
            clear h3
            go_wp2
            go_roundw
            case rel => exact ⟨k + 1, by omega, by omega, by go_num, inv_step H.out.waits hlt hlk HX.out HQ.out ht ((Touch.refl _ wr).alloc _) (by rw [H3.out]; exact HD.out _)⟩
            case measure => simp [intOf]; omega
      · have hkk : k = min W.length keep.length := by omega
        have HKK := Lib.hid hkk
        clear hkk
        have hdev := HD0.out.dev
        have d1 := cell_of_row wr b 1 _ _ _ hdev
        have d6 := cell_of_row wr b 6 _ _ _ hdev
        simp only [devC, List.getElem?_toArray, List.getElem?_cons_succ, List.getElem?_cons_zero] at d1 d6
        have f1 := frozen_of_row wr b 1 _ _ hdev
        have f6 := frozen_of_row wr b 6 _ _ hdev
        have hx := fun o => (Below.heap_alloc _ o b (by simpa using hdb)).trans (heap_setCell_same _ b 6 _ _ (.bool true) (heap_setCell_same _ b 1 _ _ (.slice none 0 0) hdev))
        have HXX := Lib.hid hx
        clear hx hdev
        go_wp2_with fail
        refine (disarm_any b _ _ (HXX.out _) (by simp [devC])).mono ?_
        rintro e w1 ⟨rfl, hw1⟩
        have HW1 := Lib.hid hw1
        clear hw1
        go_wp2
        go_end0
        refine ⟨rfl, ?_⟩
        have hp := (crash_post (w := w) (wr := wr) (F := F) (b := b) (s := s) (gs := gs) (wv := wv) (W := W) (bm := bm) (kv := kv) (keep := keep) (k := k) ⟨ht, S1, es1, clk1, HD0.out⟩).alloc (.cells #[.int .i64 (x.1 : Int), .slice (some ⟨x.2.1, 0, none⟩) 512 512] 55)
        rw [← HKK.out, ← HW1.out]
        simpa only [World.setCell_alloc_past, World.size_setCell, hdb] using hp
    · have hkk : k = min W.length keep.length := by omega
      have HKK := Lib.hid hkk
      clear hkk
      have hdev := hd.dev
      have hdb := lt_of_heap hd.dev
      have d1 := cell_of_row wr b 1 _ _ _ hdev
      have d6 := cell_of_row wr b 6 _ _ _ hdev
      simp only [devC, List.getElem?_toArray, List.getElem?_cons_succ, List.getElem?_cons_zero] at d1 d6
      have f1 := frozen_of_row wr b 1 _ _ hdev
      have f6 := frozen_of_row wr b 6 _ _ hdev
      have hx := heap_setCell_same _ b 6 _ _ (.bool true) (heap_setCell_same _ b 1 _ _ (.slice none 0 0) hdev)
      have HXX := Lib.hid hx
      have HD0 := Lib.hid hd
      clear hx hdev hd hc1
      go_wp2_with fail
      refine (disarm_any b _ _ HXX.out (by simp [devC])).mono ?_
      rintro e w1 ⟨rfl, hw1⟩
      have HW1 := Lib.hid hw1
      clear hw1
      go_wp2
      go_end0
      refine ⟨rfl, ?_⟩
      have hp := crash_post (w := w) (wr := wr) (F := F) (b := b) (s := s) (gs := gs) (wv := wv) (W := W) (bm := bm) (kv := kv) (keep := keep) (k := k) ⟨ht, S1, es1, clk1, HD0.out⟩
      rw [← HKK.out, ← HW1.out]
      exact hp

theorem DevAt.wvForm {F : Nat → Prop} {w : World} {b gs bm clk : Nat} {s : DSt} {S : List (Option Nat)} {wv kv : Value} {W : List (Nat × Nat × List UInt8)} {es : Array MapEntry}
    (h : DevAt w F b s gs S wv W bm es clk kv) : ∃ wa wcap, wv = .slice wa W.length wcap ∧ (W ≠ [] → ∃ gw, wa = some ⟨gw, 0, none⟩) := by
  rcases h.rowW.2 with ⟨hv, hn⟩ | ⟨g, cap, cur, hv, _⟩
  · exact ⟨none, 0, by rw [hv, hn], fun hW => absurd (List.eq_nil_of_length_eq_zero hn) hW⟩
  · exact ⟨_, cap, hv, fun _ => ⟨g, rfl⟩⟩

theorem crashW_waits : ∀ (xs : List (Nat × List UInt8)) (ks : List Int) (s : DSt), (DSt.crashW xs ks s).waits = s.waits
  | x :: xs, k :: ks, s => (crashW_waits xs ks _).trans (one_waits s x k)
  | [], _, _ => rfl
  | _ :: _, [], _ => rfl

theorem crash_any {F : Nat → Prop} {w : World} {b gs bm clk : Nat} {s : DSt} {S : List (Option Nat)} {wv kv : Value} {W : List (Nat × Nat × List UInt8)} {es : Array MapEntry}
    (h : DevAt w F b s gs S wv W bm es clk kv) (v : Value) (keep : List Int) (g : Nat) (hk : IReads w v keep g) (hg : keep ≠ [] → g ≠ b ∧ g ≠ gs ∧ g ≠ bm) (hsz : s.waits.length < 4294967296) :
    Calls Tryd.prog 13 #[.pointer (some ⟨b, 0, none⟩), v] w fun e w' => e = .returned (.tuple #[]) ∧ Touch F w w' ∧ Dev w' F b (s.crash keep) := by
  obtain ⟨wa, wcap, hwv, hwa⟩ := h.wvForm
  have hsz' : W.length < 4294967296 := by have := congrArg List.length h.waits; simp at this; omega
  have key : ∃ a kcap g', v = .slice a keep.length kcap ∧ (keep ≠ [] → ∃ off, a = some ⟨g', off, none⟩ ∧ ∀ i (h : i < keep.length), w.cell? ⟨g', off + i, none⟩ = some (.int .i64 keep[i])) ∧ (g' ≠ b ∧ g' ≠ gs ∧ g' ≠ bm) := by
    by_cases h0 : keep = []
    · subst h0
      obtain ⟨off, cap, ⟨rfl, _⟩ | ⟨⟨a, rfl⟩, _⟩⟩ := hk
      · exact ⟨_, cap, b + gs + bm + 1, rfl, fun h => absurd rfl h, by omega⟩
      · exact ⟨a, cap, b + gs + bm + 1, rfl, fun h => absurd rfl h, by omega⟩
    · obtain ⟨off, cap, ⟨rfl, hc⟩ | ⟨_, h1⟩⟩ := hk
      · exact ⟨_, cap, g, rfl, fun _ => ⟨off, rfl, hc⟩, hg h0⟩
      · exact absurd h1 h0
  obtain ⟨a, kcap, g', rfl, hka, hg'⟩ := key
  refine (crash_walk h wa wcap hwv hwa a g' keep kcap hka hg' hsz').mono ?_
  rintro e w' ⟨he, wr, ⟨ht, S1, es1, clk1, hd⟩, ht2, hdev⟩
  have hlen : W.length = s.waits.length := by have := congrArg List.length h.waits; simpa using this
  rw [hlen, crashW_take _ _ _ _ rfl] at hd
  have T1 : Touch F w wr := ht.mono fun k _ hk => hk.elim (fun e => e ▸ h.ownS) (fun e => e ▸ h.ownM)
  have T2 : Touch F wr w' := ht2.mono fun k _ hk => by subst hk; exact h.ownD
  refine ⟨he, T1.trans T2 (fun _ h _ => h), gs, S1, .slice none 0 0, [], bm, es1, clk1, .slice none 0 0, ?_⟩
  refine hd.put ht2 (s' := s.crash keep) ?_ rfl rfl (World.ownsRow_nil _ _ _ _) (by intro k hk; simp [Value.ownBlock] at hk) rfl (by intro x hx; simp at hx) (.inr ⟨⟨none, 0, rfl⟩, rfl⟩) (by intro hf; cases hf) (by show (0 : Int) ≤ _; omega)
  rw [hdev _ hd.dev]
  simp [devC, DSt.crash]

end Go.Proofs.YtmedpmhiebcdjaaDoor
