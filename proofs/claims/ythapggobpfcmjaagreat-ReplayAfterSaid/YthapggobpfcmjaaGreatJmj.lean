/- A whole batch is laid at the head: write. Over a device that is up. -/
import Derived.Test.YthapggobpfcmjaaGreatJmi
import Derived.RegionTactic
import Derived.BigRegion
set_option maxRecDepth 100000
namespace Go.Proofs.YthapggobpfcmjaaGreat
namespace Jn
open Go.RowKit

/-- What is written of a batch: sector and bytes of its i-th block. -/
def tagI (s : JSt) (n i : Nat) (d : Int) : Tg.T := ⟨s.ep, s.st, s.sq + 1, s.sq, i, n, d⟩
def putI (s : JSt) (E : List WE) (i : Nat) : Nat × List UInt8 := match E[i]? with
  | some e => ((s.head + i) % s.P + 1, Tg.enc (tagI s E.length i e.id) e.l)
  | none => (0, [])
def putsU (s : JSt) (E : List WE) (k : Nat) : List (Nat × List UInt8) := (List.range k).map (putI s E)
theorem putsU_succ (s : JSt) (E : List WE) (k : Nat) : putsU s E (k + 1) = putsU s E k ++ [putI s E k] := by simp [putsU, List.range_succ]
theorem putsU_len (s : JSt) (E : List WE) (k : Nat) : (putsU s E k).length = k := by simp [putsU]

/-- May a journal write another batch? -/
structure Next (s : JSt) : Prop where
  nn : s.N ≤ 3840
  ee : 1 ≤ s.ep
  ss : 1 ≤ s.st
  tt : s.st ≤ s.sq + 1
  qq : s.sq < 281474976710655
theorem tagI_right {s : JSt} (h : Next s) {n i : Nat} {d : Int} (hn : n ≤ 72) (hi : i < n) (h0 : 0 ≤ d) (h1 : d < s.N) : Tg.rightB (tagI s n i d) = true := by
  rw [Tg.right_iff]
  have := h.nn
  have := h.ee
  have := h.ss
  have := h.tt
  have := h.qq
  simp only [tagI]
  omega

/-- While write runs: its tag; what has been written. -/
structure WrI (w : World) (A : Ad) (s : JSt) (F : Nat → Prop) (ds : DSt) (v : Value) (E : List WE) (X : Nat → Prop) (q k : Nat) (wr : World) : Prop where
  dev : ∃ G, DevF wr G A.b (ds.puts (putsU s E k)) ∧ (∀ j, j < w.heap.size → G j → F j) ∧ ¬ G q
  jat : JAt wr A s
  wl : WL wr v E X
  tag : ∃ i d : Int, wr.heap[q]? = some (.cells #[.int .u32 (s.ep : Int), .int .u64 (s.st : Int), .int .u64 ((s.sq + 1 : Nat) : Int), .int .u64 (s.sq : Int), .int .i64 i, .int .i64 (E.length : Int), .int .i64 d] 59 (0, 0))
  tch : Touch F w wr
  lo : w.heap.size ≤ q

set_option maxHeartbeats 4000000 in
theorem write_all {w : World} {A : Ad} {s : JSt} {F : Nat → Prop} {ds : DSt} {v : Value} {E : List WE} {X : Nat → Prop} (h : JAt w A s) (hD : DevF w F A.b ds) (hoff : ∀ k, A.own k → ¬ F k) (hu : ds.Up) (hx : Next s)
    (hw : WL w v E X) (hX : ∀ k, X k → k < w.heap.size ∧ ¬ F k) (hlen : E.length ≤ 72) (hE : ∀ e ∈ E, 0 ≤ e.id ∧ e.id < s.N ∧ e.l.length = 480) (hf : (ds.puts (putsU s E E.length)).Fit) (hsec : s.P + 1 ≤ ds.secs.length) :
    Calls Tryz.prog 29 #[.pointer (some ⟨A.J, 0, none⟩), v] w fun e w' => e = .returned (.int .i64 0) ∧
      Touch F w w' ∧ JAt w' A s ∧ WL w' v E X ∧ ∃ G, DevF w' G A.b (ds.puts (putsU s E E.length)) ∧ ∀ j, j < w.heap.size → G j → F j := by
  obtain ⟨c0, c1, -, -, c4, c5, c6, c7, -⟩ := h.cells
  have hq := hx.qq
  obtain ⟨a, cap, rfl, -⟩ := hw.form
  have H := Lib.hid h
  have HD := Lib.hid hD
  have HO := Lib.hid hoff
  have HU := Lib.hid hu
  have HX := Lib.hid hx
  have HW := Lib.hid hw
  have HXF := Lib.hid hX
  have HE := Lib.hid hE
  have HF := Lib.hid hf
  obtain ⟨len, hl⟩ : ∃ len, E.length = len := ⟨_, rfl⟩
  rw [hl]
  have HL := Lib.hid hl
  have hJ : A.J < w.heap.size := h.lt _ (.inl rfl)
  clear h hD hoff hu hx hw hX hE hf
  go_enter Tryz.func29, Tryz.ntmps29
  have hw1 : IntKind.u64.wrap ((s.sq : Int) + 1) = ((s.sq + 1 : Nat) : Int) := by rw [IntKind.wrap_u64]; omega
  clear hl
  go_wp2_with fail
  go_region
  go_wp2
  have hnw : ∀ (V : World), V = (w.alloc (.cells #[.int .u32 (s.ep : Int), .int .u64 (s.st : Int), .int .u64 ((s.sq + 1 : Nat) : Int), .int .u64 (s.sq : Int), .int .i64 0, .int .i64 (len : Int), .int .i64 0] 59)).drew → WrI w A s F ds (.slice a len cap) E X w.heap.size 0 V := by
    rintro V rfl
    refine ⟨⟨F, ?_, fun _ _ h => h, fun h => by have := HD.out.lt _ h; omega⟩, (H.out.alloc _).drew, ?_, ⟨0, 0, ?_⟩, ((Touch.refl F w).alloc _).drew, Nat.le_refl _⟩
    · rw [show ds.puts (putsU s E 0) = ds by simp [putsU, DSt.puts]]
      exact (HD.out.below ((Below.refl _ w).alloc (Nat.le_refl _) _)).drew
    · have := (HW.out.touch (F := Emp) (((Touch.refl Emp w).alloc (.cells #[.int .u32 (s.ep : Int), .int .u64 (s.st : Int), .int .u64 ((s.sq + 1 : Nat) : Int), .int .u64 (s.sq : Int), .int .i64 0, .int .i64 (len : Int), .int .i64 0] 59)).drew) (fun _ _ => id))
      rwa [HL.out] at this
    · rw [HL.out]; exact heap_alloc_new w _
  go_loopw [36] (fun i wr => ∃ k : Nat, k ≤ len ∧ i = .int .i64 k ∧ WrI w A s F ds (.slice a len cap) E X w.heap.size k wr) (fun i _ => len - (intOf i).toNat)
  case atStart => exact ⟨0, Nat.zero_le _, rfl, hnw _ rfl⟩
  case round =>
    clear hnw c0 c1 c4 c5 c6 c7 hJ hw1
    obtain ⟨k, hk, rfl, hI⟩ := hrel
    by_cases hlt : k < len
    · have hltE : k < E.length := by rw [HL.out]; exact hlt
      obtain ⟨g, off, cap', e1, hg, w1, w2⟩ := hI.wl.at hltE
      rw [HL.out] at e1
      obtain ⟨rfl, rfl⟩ : a = some ⟨g, off, none⟩ ∧ cap = cap' := by simpa using e1
      obtain ⟨di, dd, htag⟩ := hI.tag
      obtain ⟨da, dcap, hdv, -⟩ := (hI.wl.data E[k] (List.getElem_mem _)).1.form
      have hbv := hI.wl.data E[k] (List.getElem_mem _)
      have hfin := HE.out E[k] (List.getElem_mem _)
      have hput : putI s E k = ((s.head + k) % s.P + 1, Tg.enc (tagI s E.length k E[k].id) E[k].l) := by simp [putI, hltE]
      generalize hek : E[k] = ek at w1 w2 hdv hbv hfin hput
      obtain ⟨eid, ev, el, eg⟩ := ek
      simp only at hdv w1 w2 hbv hfin hput
      subst hdv
      have hgl : g < wr.heap.size := World.block_lt_of_cell? wr _ w1
      have hql := lt_of_heap htag
      have tc : ∀ i, wr.cell? ⟨w.heap.size, i, none⟩ = (#[.int .u32 (s.ep : Int), .int .u64 (s.st : Int), .int .u64 ((s.sq + 1 : Nat) : Int), .int .u64 (s.sq : Int), .int .i64 di, .int .i64 (E.length : Int), .int .i64 dd] : Array Value)[i]? := fun i => cell_of_row _ _ i _ _ _ htag
      have k0 := tc 0
      have k1 := tc 1
      have k2 := tc 2
      have k3 := tc 3
      have k4 := tc 4
      have k5 := tc 5
      have k6 := tc 6
      simp only [List.getElem?_toArray, List.getElem?_cons_succ, List.getElem?_cons_zero] at k0 k1 k2 k3 k4 k5 k6
      have f4 := frozen_of_row _ _ 4 _ _ htag
      have f6 := frozen_of_row _ _ 6 _ _ htag
      have HI := Lib.hid hI
      have HT := Lib.hid htag
      have HBV := Lib.hid hbv
      have HFN := Lib.hid hfin
      rw [HL.out] at hput
      have HPU := Lib.hid hput
      clear hI htag hbv hfin hput e1 tc hek hg
      obtain ⟨q, hqq⟩ : ∃ q, q = w.heap.size := ⟨_, rfl⟩
      rw [← hqq] at HI HT k0 k1 k2 k3 k4 k5 k6 f4 f6 hql ⊢
      have HQ := Lib.hid hqq
      clear hqq
      go_wp2_with fail
      go_region
      have t4 : Touch (fun j => j = q) wr (((wr.setCell ⟨q, 4, none⟩ (.int .i64 (k : Int))).setCell ⟨q, 6, none⟩ (.int .i64 eid)).alloc (.cells #[.int .i64 eid, .slice da el.length dcap] 41)).drew :=
        ((((Touch.refl (fun j => j = q) wr).setCell (a := ⟨q, 4, none⟩) (.inl rfl) _).setCell (a := ⟨q, 6, none⟩) (.inl rfl) _).alloc _).drew
      have q4 : (((wr.setCell ⟨q, 4, none⟩ (.int .i64 (k : Int))).setCell ⟨q, 6, none⟩ (.int .i64 eid)).alloc (.cells #[.int .i64 eid, .slice da el.length dcap] 41)).drew.heap[q]? =
          some (.cells #[.int .u32 (s.ep : Int), .int .u64 (s.st : Int), .int .u64 ((s.sq : Int) + 1), .int .u64 (s.sq : Int), .int .i64 (k : Int), .int .i64 (len : Int), .int .i64 eid] 59 (0, 0)) := by
        have e1 := heap_setCell_same _ q 6 _ _ (.int .i64 eid) (heap_setCell_same _ q 4 _ _ (.int .i64 (k : Int)) HT.out)
        have e2 := (Below.heap_alloc ((wr.setCell ⟨q, 4, none⟩ (.int .i64 (k : Int))).setCell ⟨q, 6, none⟩ (.int .i64 eid)) (.cells #[.int .i64 eid, .slice da el.length dcap] 41) q (lt_of_heap e1)).trans e1
        rw [HL.out] at e2
        exact e2
      have n4 : (((wr.setCell ⟨q, 4, none⟩ (.int .i64 (k : Int))).setCell ⟨q, 6, none⟩ (.int .i64 eid)).alloc (.cells #[.int .i64 eid, .slice da el.length dcap] 41)).drew.heap[wr.heap.size]? = some (.cells #[.int .i64 eid, .slice da el.length dcap] 41 (0, 0)) := by
        have := heap_alloc_new ((wr.setCell ⟨q, 4, none⟩ (.int .i64 (k : Int))).setCell ⟨q, 6, none⟩ (.int .i64 eid)) (.cells #[.int .i64 eid, .slice da el.length dcap] 41)
        rw [show ((wr.setCell ⟨q, 4, none⟩ (.int .i64 (k : Int))).setCell ⟨q, 6, none⟩ (.int .i64 eid)).heap.size = wr.heap.size by simp] at this
        exact this
      clear k0 k1 k2 k3 k4 k5 k6 f4 f6 w1 w2
      generalize (((wr.setCell ⟨q, 4, none⟩ (.int .i64 (k : Int))).setCell ⟨q, 6, none⟩ (.int .i64 eid)).alloc (.cells #[.int .i64 eid, .slice da el.length dcap] 41)).drew = W4 at t4 q4 n4 ⊢
      have tc : ∀ i, W4.cell? ⟨q, i, none⟩ = (#[.int .u32 (s.ep : Int), .int .u64 (s.st : Int), .int .u64 ((s.sq : Int) + 1), .int .u64 (s.sq : Int), .int .i64 (k : Int), .int .i64 (len : Int), .int .i64 eid] : Array Value)[i]? := fun i => cell_of_row _ _ i _ _ _ q4
      have k0 := tc 0
      have k1 := tc 1
      have k2 := tc 2
      have k3 := tc 3
      have k4 := tc 4
      have k5 := tc 5
      have k6 := tc 6
      have k8 := cell_of_row _ _ 1 _ _ _ n4
      simp only [List.getElem?_toArray, List.getElem?_cons_succ, List.getElem?_cons_zero] at k0 k1 k2 k3 k4 k5 k6 k8
      have hXq : ∀ j, X j → j ≠ q := fun j hj e => by have := (HXF.out j hj).1; have := HQ.out; omega
      have hXg := fun hl => HBV.out.2 hl
      have hb4 := HBV.out.1.touch t4 (fun hl => hXq _ (hXg hl))
      have hrt := tagI_right HX.out (n := len) (i := k) (d := eid) (by have := HL.out; omega) hlt HFN.out.1 HFN.out.2.1
      have EN := encode_ok (tagI s len k eid) (.slice da el.length dcap) el eg W4 hrt (show s.ep < 4294967296 from H.out.ep) hb4 HFN.out.2.2
      rw [show tagV (tagI s len k eid) = .agg #[.int .u32 (s.ep : Int), .int .u64 (s.st : Int), .int .u64 ((s.sq : Int) + 1), .int .u64 (s.sq : Int), .int .i64 (k : Int), .int .i64 (len : Int), .int .i64 eid] by simp [tagI]] at EN
      have EN := Lib.hid EN
      have H4 := Lib.hid (And.intro t4 (And.intro q4 (lt_of_heap n4)))
      clear tc t4 q4 n4 hXq hXg hb4 hrt
      go_wp2_with fail
      refine EN.out.mono ?_
      rintro e W5 ⟨⟨v5, rfl, hv5⟩, hb5⟩
      obtain ⟨g5, cap5, rfl, hc5, hb5g, ho5⟩ := hv5
      have hel : (Tg.enc (tagI s len k eid) el).length = 512 := by rw [Tg.enc_length, HFN.out.2.2]
      rw [hel] at hc5
      rw [hel]
      obtain ⟨t4, q4, n4⟩ := H4.out
      have hbw : Below W4.heap.size W4 W5 := hb5
      obtain ⟨G, hDG, hGF, hGq⟩ := HI.out.dev
      have hD5 : DevF W5 G A.b (ds.puts (putsU s E k)) := (hDG.touch t4 (fun j hj e => hGq (e ▸ hj))).below hbw
      have hJ5 : JAt W5 A s := (HI.out.jat.touch t4 (fun j hj e => by have := H.out.lt j hj; have := HQ.out; omega)).below hbw
      have hW5 : WL W5 (.slice (some ⟨g, off, none⟩) len cap) E X := (HI.out.wl.touch t4 (fun j hj e => by have := (HXF.out j hj).1; have := HQ.out; omega)).below hbw
      have hq5 := (hbw.block q (lt_of_heap q4)).trans q4
      have hbv5 : BV W5 (.slice (some ⟨g5, 0, none⟩) 512 cap5) (Tg.enc (tagI s len k eid) el) g5 := ho5.bv 512 cap5 hel hc5
      have hg5G : ¬ G g5 := fun hg => by
        have h1 := hDG.lt g5 hg
        have h2 := t4.size
        have h3 : W4.heap.size ≤ g5 := hb5g
        omega
      have hsz5 : q < W5.heap.size := lt_of_heap hq5
      have hupk : (ds.puts (putsU s E k)).Up := HU.out.puts (fun x hx => by
        obtain ⟨i, -, rfl⟩ := List.mem_map.1 hx
        have := H.out.p1
        simp only [putI]
        split
        · have := Nat.mod_lt (s.head + i) this; simp only; omega
        · simp only; omega)
      have hsec5 : (ds.puts (putsU s E k)).secs.length = ds.secs.length := rfl
      have hmod := Nat.mod_lt (s.head + k) H.out.p1
      have WR := write_any hD5.drew.dev (by
        have := HF.out
        simp only [DSt.Fit, DSt.puts, putsU_len, List.length_append] at this ⊢
        omega) (((s.head + k) % s.P + 1 : Nat) : Int) (.slice (some ⟨g5, 0, none⟩) 512 cap5) (Tg.enc (tagI s len k eid) el) g5 (hbv5.drew).reads hg5G
      rw [(hupk.write (by rw [hsec5]; omega) hel).1, (hupk.write (by rw [hsec5]; omega) hel).2, DSt.puts_puts, ← HPU.out, ← putsU_succ] at WR
      obtain ⟨c0, c1, -, -, -, -, -, c7, -⟩ := hJ5.cells
      have GO := Lib.hid ((Rg.go_e A.R A.gr s.P s.head k W5.drew hJ5.ring.drew H.out.p1 H.out.pm).mono fun e w' (hh : _ ∧ _) => (⟨by rw [hh.1]; rfl, hh.2.symm⟩ : e = .returned (.int .i64 (((s.head + k) % s.P : Nat) : Int)) ∧ w' = W5.drew))
      have SE := Lib.hid ((sector_any ((s.head + k) % s.P) W5.drew (by have := H.out.pm; omega)).mono fun e w' (hh : _ ∧ _) => (⟨hh.1, hh.2.symm⟩ : e = .returned (.int .i64 (((s.head + k) % s.P + 1 : Nat) : Int)) ∧ w' = W5.drew))
      replace WR := Lib.hid WR
      have H4t := Lib.hid t4
      have H5 := Lib.hid (And.intro hD5 (And.intro hJ5 (And.intro hW5 (And.intro hq5 (And.intro hbw (And.intro hGF hGq))))))
      clear t4 q4 n4 hD5 hJ5 hW5 hq5 hbw hGF hGq hbv5 hg5G hupk hsec5 hDG hb5 hb5g ho5 hel k0 k1 k2 k3 k4 k5 k6 k8 EN H4
      generalize hpl : (s.head + k) % s.P = pl at *
      go_wp2_with fail
      refine wp_region_still_tail 17 (by kernel_rfl) (by kernel_rfl) ?_
      simp only [List.take_succ_cons, List.take_zero, List.drop_succ_cons, List.drop_zero]
      change wpStill _ _ W5.drew _ _ _
      repeat still_step
      still_call GO.out
      repeat still_step
      still_call SE.out
      repeat still_step
      refine wpStill_nil ?_
      change wpList _ _ _ _ _ W5.drew
      go_wp2_with fail
      refine WR.out.mono ?_
      rintro e W6 ⟨rfl, ht6, hd6⟩
      have FIN := Lib.hid (show WrI w A s F ds (.slice (some ⟨g, off, none⟩) len cap) E X w.heap.size (k + 1) W6 by
        obtain ⟨hD5, hJ5, hW5, hq5, hbw, hGF, hGq⟩ := H5.out
        have hqw := HQ.out
        have hs5 : w.heap.size ≤ W5.heap.size := by omega
        have hoG : ∀ j, A.own j → ¬ G j := fun j hj hg => HO.out j hj (hGF j (H.out.lt j hj) hg)
        have hXG : ∀ j, X j → ¬ G j := fun j hj hg => (HXF.out j hj).2 (hGF j (HXF.out j hj).1 hg)
        refine ⟨⟨Gr G W5.drew W6, ⟨hd6, fun j hj => hj.elim (fun h => Nat.lt_of_lt_of_le (hD5.lt j h) ht6.size) fun h => h.2⟩, fun j hj hg => hg.elim (hGF j hj) (fun h => by have h1 : W5.heap.size ≤ j := h.1; omega), fun hg => hg.elim (fun h => hGq (hqw ▸ h)) (fun h => by have h1 : W5.heap.size ≤ w.heap.size := h.1; omega)⟩,
          hJ5.drew.touch ht6 hoG, (hW5.touch (F := Emp) ((Touch.refl Emp W5).drew) (fun _ _ => id)).touch ht6 hXG, ⟨k, eid, ?_⟩, ?_, Nat.le_refl _⟩
        · rw [← hqw, HL.out]
          exact ht6.at hq5 hGq
        · have e1 : Touch F w wr := HI.out.tch
          have e2 : Touch F w W4 := e1.trans H4t.out (fun j hj hlt2 => by omega)
          have e3 : Touch F w W5 := e2.trans (Touch.of_below (F := Emp) hbw) (fun _ h _ => h.elim)
          exact (e3.drew).trans ht6 (fun j hj hlt2 => hGF j hlt2 hj))
      clear WR ht6 hd6 GO SE c0 c1 c7
      go_wp2
      exact ⟨⟨k + 1, by omega, by go_num, by have := HQ.out; rw [this]; exact FIN.out⟩, by simp [intOf]; omega⟩
    · obtain rfl : k = len := by omega
      have HI := Lib.hid hI
      clear hI hk hlt
      go_wp2
      go_ret
      obtain ⟨G, hDG, hGF, -⟩ := HI.out.dev
      refine ⟨rfl, HI.out.tch, HI.out.jat, HI.out.wl, G, ?_, hGF⟩
      exact hDG

end Jn
end Go.Proofs.YthapggobpfcmjaaGreat
