/- What a device tells: Scan. Over a device that is up, and one that is down; in so far as Sort sorts so many epochs. -/
import Derived.Test.YthapggobpfcmjaaRpy
set_option maxRecDepth 100000
namespace Go.Proofs.Ythapggobpfcmjaa
namespace Rp
open Go.RowKit

set_option maxHeartbeats 400000 in
theorem sectors_ok {F : Nat → Prop} {w : World} {b : Nat} {s : DSt} (h : Dev w F b s) :
    Calls Try.prog 26 #[.pointer (some ⟨b, 0, none⟩)] w fun e w' => e = .returned (.int .i64 s.secs.length) ∧ w = w' := by
  obtain ⟨gs, S, wv, W, bm, es, clk, kv, h⟩ := h
  have d0 := h.cell 0
  simp only [devC, List.getElem?_toArray, List.getElem?_cons_succ, List.getElem?_cons_zero] at d0
  clear h
  go_enter Try.func26, Try.ntmps26
  go_wp2
  go_ret
  exact ⟨rfl, rfl⟩

set_option maxHeartbeats 4000000 in
/-- A device that is down tells nothing. -/
theorem tags_down {w : World} {F : Nat → Prop} {b : Nat} {s : DSt} (h : DvF w F b s) (hd : s.err = 2) (hsz : s.Fit) (P N : Nat) (hP : P + 1 ≤ s.secs.length) (hP1 : 1 ≤ P) (hP2 : P ≤ 1048576) :
    Calls Try.prog 27 #[.pointer (some ⟨b, 0, none⟩), .int .i64 (P : Int), .int .i64 (N : Int)] w fun e w' =>
      e = .returned (.tuple #[.slice none 0 0, .int .i64 2]) ∧ Touch F w w' ∧ DvF w' F b s.begin_ := by
  have hb : ¬ ¬ (0 ≤ ((0 + 1 : Nat) : Int) ∧ ((0 + 1 : Nat) : Int) < s.secs.length) := by simp; omega
  have RD := read_any h.dev hsz h.lt ((0 + 1 : Nat) : Int)
  rw [show s.readR ((0 + 1 : Nat) : Int) = (2, []) by unfold DSt.readR; rw [if_neg hb, if_neg (by rw [hd]; decide), hd], show s.read ((0 + 1 : Nat) : Int) = s.begin_ by unfold DSt.read; rw [if_neg hb, if_neg (by rw [hd]; decide)]] at RD
  have RD := Lib.hid RD
  have SC := Lib.hid (sector_ok 0 (by omega) w)
  have H := Lib.hid h
  have hP0 : (0 : Int) < (P : Int) := by omega
  clear h hd hb hsz
  go_enter Try.func27, Try.ntmps27
  go_wp2
  go_loopw [15, 8] (fun i o wr => i = .int .i64 0 ∧ w = wr) (fun _ _ _ => 0)
  case atStart => exact ⟨rfl, rfl⟩
  case round =>
    obtain ⟨rfl, rfl⟩ := hrel
    go_wp2_with fail
    refine SC.out.mono ?_
    rintro e w1 ⟨rfl, rfl⟩
    go_wp2_with fail
    refine RD.out.mono ?_
    rintro e w2 ⟨v, rfl, ht, hdv, hv⟩
    have HD := Lib.hid (And.intro ht hdv)
    clear ht hdv hv
    go_wp2_with fail
    go_ret2
    exact ⟨rfl, HD.out.1, HD.out.2, fun k hk => Nat.lt_of_lt_of_le (H.out.lt k hk) HD.out.1.size⟩

def GoodPN (s : DSt) (P N : Int) : Prop := 1 ≤ P ∧ P ≤ (s.secs.length : Int) - 1 ∧ 1 ≤ N ∧ N ≤ 3840

set_option maxHeartbeats 8000000 in
/-- Places, or blocks, that there are not. -/
theorem scan_bad {w : World} {F : Nat → Prop} {b : Nat} {s : DSt} (h : Dev w F b s) (P N : Int) (hb : ¬ GoodPN s P N) (hs : s.secs.length ≤ 1048576) :
    Calls Try.prog 12 #[.pointer (some ⟨b, 0, none⟩), .int .i64 P, .int .i64 N] w fun e w' => e = .returned (.tuple #[stZ, .int .i64 1]) ∧ Below w.heap.size w w' := by
  have SE := Lib.hid (fun o => sectors_ok (h.touch ((Touch.refl Emp w).alloc o) (fun _ _ => id)))
  have hs1 : (s.secs.length : Int) ≤ 1048576 := by omega
  have hs0 : (0 : Int) ≤ (s.secs.length : Int) := Int.natCast_nonneg _
  have HB := Lib.hid hb
  clear h hb
  by_cases h1 : P < 1
  · go_enter Try.func12, Try.ntmps12
    go_wp2_with fail
    exact bodyPost_ret (v := .tuple #[stZ, .int .i64 1]) (by simp [results, Try.results12, go_sem]) rfl ⟨rfl, (Below.refl _ w).alloc (Nat.le_refl _) _⟩
  · by_cases h2 : P > (s.secs.length : Int) - 1
    · go_enter Try.func12, Try.ntmps12
      go_wp2_with fail
      refine (SE.out _).mono ?_
      rintro e w1 ⟨rfl, rfl⟩
      go_wp2_with fail
      exact bodyPost_ret (v := .tuple #[stZ, .int .i64 1]) (by simp [results, Try.results12, go_sem]) rfl ⟨rfl, (Below.refl _ w).alloc (Nat.le_refl _) _⟩
    · by_cases h3 : N < 1
      · go_enter Try.func12, Try.ntmps12
        go_wp2_with fail
        refine (SE.out _).mono ?_
        rintro e w1 ⟨rfl, rfl⟩
        go_wp2_with fail
        exact bodyPost_ret (v := .tuple #[stZ, .int .i64 1]) (by simp [results, Try.results12, go_sem]) rfl ⟨rfl, (Below.refl _ w).alloc (Nat.le_refl _) _⟩
      · have h4 : N > 3840 := Classical.byContradiction fun h => HB.out ⟨by omega, by omega, by omega, by omega⟩
        go_enter Try.func12, Try.ntmps12
        go_wp2_with fail
        refine (SE.out _).mono ?_
        rintro e w1 ⟨rfl, rfl⟩
        go_wp2_with fail
        exact bodyPost_ret (v := .tuple #[stZ, .int .i64 1]) (by simp [results, Try.results12, go_sem]) rfl ⟨rfl, (Below.refl _ w).alloc (Nat.le_refl _) _⟩

set_option maxHeartbeats 8000000 in
theorem scan_down {w : World} {F : Nat → Prop} {b : Nat} {s : DSt} (h : DvF w F b s) (hd : s.err = 2) (hsz : s.Fit) (P N : Nat) (hb : GoodPN s P N) (hs : s.secs.length ≤ 1048576) :
    Calls Try.prog 12 #[.pointer (some ⟨b, 0, none⟩), .int .i64 (P : Int), .int .i64 (N : Int)] w fun e w' => e = .returned (.tuple #[stZ, .int .i64 2]) ∧ Touch F w w' ∧ DvF w' F b s.begin_ := by
  obtain ⟨p1, p2, p3, p4⟩ := hb
  have hA : ∀ o, DvF (w.alloc o) F b s := fun o => h.touch ((Touch.refl Emp w).alloc o) (fun _ _ => id)
  have SE := Lib.hid (fun o => sectors_ok (hA o).dev)
  have TA := Lib.hid (fun o => tags_down (hA o) hd hsz P N (by omega) (by omega) (by omega))
  have H := Lib.hid h
  have hs1 : (s.secs.length : Int) ≤ 1048576 := by omega
  have hs0 : (0 : Int) ≤ (s.secs.length : Int) := Int.natCast_nonneg _
  have q1 : ¬ (P : Int) < 1 := by omega
  have q2 : ¬ (P : Int) > (s.secs.length : Int) - 1 := by omega
  have q3 : ¬ (N : Int) < 1 := by omega
  have q4 : ¬ (N : Int) > 3840 := by omega
  clear h hd hsz hA p1 p2 p3 p4
  go_enter Try.func12, Try.ntmps12
  go_wp2_with fail
  refine (SE.out _).mono ?_
  rintro e w1 ⟨rfl, rfl⟩
  go_wp2_with fail
  refine (TA.out _).mono ?_
  rintro e w2 ⟨rfl, ht, hd⟩
  have R2 : w2.heap[w.heap.size]? = some (.cells zeroS 48 (0, 0)) := ht.at (heap_alloc_new w _) fun h => by have := H.out.lt _ h; omega
  have hr : ∀ i, w2.cell? ⟨w.heap.size, i, none⟩ = (zeroS)[i]? := fun i => cell_of_row _ _ i _ _ _ R2
  have hf : ∀ i, w2.frozen? ⟨w.heap.size, i, none⟩ = false := fun i => frozen_of_row _ _ i _ _ R2
  have r0 := hr 0
  have r1 := hr 1
  have r2 := hr 2
  have r3 := hr 3
  have r4 := hr 4
  have r5 := hr 5
  have e0 := hf 0
  have e1 := hf 1
  have e2 := hf 2
  have e3 := hf 3
  have e4 := hf 4
  have e5 := hf 5
  simp only [zeroS, List.getElem?_toArray, List.getElem?_cons_succ, List.getElem?_cons_zero] at r0 r1 r2 r3 r4 r5
  have HH := Lib.hid (And.intro ht (And.intro hd R2))
  clear hr hf ht hd R2
  go_wp2
  obtain ⟨ht, hd, R2⟩ := HH.out
  have hX := six_at R2 (.int .u32 0) (.int .u64 0) (.int .u64 0) (.int .i64 0) (.int .i64 0) (.slice none 0 0)
  have hT := six_touch w2 w.heap.size (.int .u32 0) (.int .u64 0) (.int .u64 0) (.int .i64 0) (.int .i64 0) (.slice none 0 0)
  unfold six at hX hT
  generalize (((((w2.setCell ⟨w.heap.size, 0, none⟩ (.int .u32 0)).setCell ⟨w.heap.size, 1, none⟩ (.int .u64 0)).setCell ⟨w.heap.size, 2, none⟩ (.int .u64 0)).setCell ⟨w.heap.size, 3, none⟩ (.int .i64 0)).setCell ⟨w.heap.size, 4, none⟩ (.int .i64 0)).setCell ⟨w.heap.size, 5, none⟩ (.slice none 0 0) = W7 at hX hT ⊢
  obtain ⟨x0, x1, x2, x3, x4, x5⟩ := six_cells hX
  exact bodyPost_ret (v := .tuple #[stZ, .int .i64 2]) (by simp [results, Try.results12, go_sem, x0, x1, x2, x3, x4, x5]) rfl ⟨rfl, ((((Touch.refl F w).alloc _).trans ht (fun _ h _ => h)).trans hT (fun j hj hlt => by omega)), hd.touch hT fun j hj e => by have := H.out.lt j hj; omega⟩

set_option maxHeartbeats 16000000 in
/-- Scan of a device that is up. -/
theorem scan_ok {M : Nat} (hS : SortsU M) {w : World} {F : Nat → Prop} {b : Nat} {s : DSt} (h : DvF w F b s) (hu : s.Up) (P N : Nat) (hb : GoodPN s P N) (hs : s.secs.length ≤ 1048576) (hf : (moreR s P).Fit) (hM : (startsA (foundL s N P)).length ≤ M) :
    Calls Try.prog 12 #[.pointer (some ⟨b, 0, none⟩), .int .i64 (P : Int), .int .i64 (N : Int)] w fun e w' => Told w w' e (foundL s N P) P N ∧ Touch F w w' ∧ DvF w' F b (moreR s P) := by
  obtain ⟨p1, p2, p3, p4⟩ := hb
  have hA : ∀ o, DvF (w.alloc o) F b s := fun o => h.touch ((Touch.refl Emp w).alloc o) (fun _ _ => id)
  have SE := Lib.hid (fun o => sectors_ok (hA o).dev)
  have TA := Lib.hid (fun o => tags_ok (hA o) hu P N (by omega) (by omega) (by omega) hf)
  have HS := Lib.hid hS
  have HM := Lib.hid hM
  have H := Lib.hid h
  have hs1 : (s.secs.length : Int) ≤ 1048576 := by omega
  have hs0 : (0 : Int) ≤ (s.secs.length : Int) := Int.natCast_nonneg _
  have q1 : ¬ (P : Int) < 1 := by omega
  have q2 : ¬ (P : Int) > (s.secs.length : Int) - 1 := by omega
  have q3 : ¬ (N : Int) < 1 := by omega
  have q4 : ¬ (N : Int) > 3840 := by omega
  have Q := Lib.hid (show 1 ≤ P ∧ P ≤ 1048576 ∧ 1 ≤ N ∧ N ≤ 3840 from ⟨by omega, by omega, by omega, by omega⟩)
  clear h hu hA p1 p2 p3 p4 hf hM hS
  go_enter Try.func12, Try.ntmps12
  go_wp2_with fail
  refine (SE.out _).mono ?_
  rintro e w1 ⟨rfl, rfl⟩
  go_wp2_with fail
  refine (TA.out _).mono ?_
  rintro e w2 ⟨⟨o, rfl, how⟩, ht, hd⟩
  obtain ⟨gt, hfv, hgt⟩ := FV.own how
  obtain ⟨oa, oc, rfl, -, -, -⟩ := hfv.form
  obtain ⟨f1, f2, f3, f4⟩ := foundL_right s N P
  have hfl := foundL_len s N P
  have SK := Lib.hid (state_ok HS.out hfv (by have := Q.out; omega) f1 f2 HM.out P N f3 f4 Q.out.1 Q.out.2.1 Q.out.2.2.1 Q.out.2.2.2)
  have R2 : w2.heap[w.heap.size]? = some (.cells zeroS 48 (0, 0)) := ht.at (heap_alloc_new w _) fun h => by have := H.out.lt _ h; omega
  have HH := Lib.hid (And.intro ht (And.intro hd R2))
  clear ht hd R2 how hfv hgt f1 f2 f3 f4
  go_wp2_with fail
  refine SK.out.mono ?_
  rintro e w3 ⟨hto, hb3⟩
  have R3 := (Touch.of_below (F := Emp) hb3).at HH.out.2.2 id
  have T3 : Touch F w w3 := (((Touch.refl F w).alloc _).trans HH.out.1 (fun _ h _ => h)).trans (Touch.of_below (F := Emp) hb3) (fun _ h _ => h.elim)
  have D3 : DvF w3 F b (moreR s P) := HH.out.2.1.below hb3
  have hsz : w.heap.size + 1 ≤ w2.heap.size := lt_of_heap HH.out.2.2
  have H3 := Lib.hid (And.intro R3 (And.intro T3 (And.intro D3 hsz)))
  have hr : ∀ i, w3.cell? ⟨w.heap.size, i, none⟩ = (zeroS)[i]? := fun i => cell_of_row _ _ i _ _ _ R3
  have hf : ∀ i, w3.frozen? ⟨w.heap.size, i, none⟩ = false := fun i => frozen_of_row _ _ i _ _ R3
  have r0 := hr 0
  have r1 := hr 1
  have r2 := hr 2
  have r3 := hr 3
  have r4 := hr 4
  have r5 := hr 5
  have e0 := hf 0
  have e1 := hf 1
  have e2 := hf 2
  have e3 := hf 3
  have e4 := hf 4
  have e5 := hf 5
  simp only [zeroS, List.getElem?_toArray, List.getElem?_cons_succ, List.getElem?_cons_zero] at r0 r1 r2 r3 r4 r5
  clear hr hf R3 T3 D3 hsz hb3 hfl
  obtain ⟨seq, hsq, ⟨hbad, rfl⟩ | ⟨hok, g, rfl, hg, hrow⟩⟩ := hto
  · have HQ := Lib.hid (And.intro hsq hbad)
    clear hsq hbad
    go_wp2
    obtain ⟨R3, T3, D3, hsz⟩ := H3.out
    have hX := six_at R3 (.int .u32 0) (.int .u64 0) (.int .u64 0) (.int .i64 0) (.int .i64 0) (.slice none 0 0)
    have hT := six_touch w3 w.heap.size (.int .u32 0) (.int .u64 0) (.int .u64 0) (.int .i64 0) (.int .i64 0) (.slice none 0 0)
    unfold six at hX hT
    generalize (((((w3.setCell ⟨w.heap.size, 0, none⟩ (.int .u32 0)).setCell ⟨w.heap.size, 1, none⟩ (.int .u64 0)).setCell ⟨w.heap.size, 2, none⟩ (.int .u64 0)).setCell ⟨w.heap.size, 3, none⟩ (.int .i64 0)).setCell ⟨w.heap.size, 4, none⟩ (.int .i64 0)).setCell ⟨w.heap.size, 5, none⟩ (.slice none 0 0) = W7 at hX hT ⊢
    obtain ⟨x0, x1, x2, x3, x4, x5⟩ := six_cells hX
    exact bodyPost_ret (v := .tuple #[stZ, .int .i64 12]) (by simp [results, Try.results12, go_sem, x0, x1, x2, x3, x4, x5]) rfl ⟨⟨seq, HQ.out.1, .inl ⟨HQ.out.2, rfl⟩⟩, T3.trans hT (fun j hj hlt => by omega), D3.touch hT fun j hj e => by have := H.out.lt j hj; omega⟩
  · have HQ := Lib.hid (And.intro hsq (And.intro hok (And.intro hg hrow)))
    clear hsq hok hg hrow
    generalize hhd : headF (trueL (foundL s N P)) seq P = hd at *
    generalize hsp : spanF (atL (trueL (foundL s N P)) seq N) hd.1 P = sp at *
    generalize hep : epochM (foundL s N P) + 1 = ep at *
    have HX := Lib.hid (And.intro hhd (And.intro hsp hep))
    clear hhd hsp hep
    go_wp2
    obtain ⟨R3, T3, D3, hsz⟩ := H3.out
    have hX := six_at R3 (.int .u32 (ep : Int)) (.int .u64 ((seq : Int) + 1)) (.int .u64 (seq : Int)) (.int .i64 hd.1) (.int .i64 sp) (.slice (some ⟨g, 0, none⟩) N N)
    have hT := six_touch w3 w.heap.size (.int .u32 (ep : Int)) (.int .u64 ((seq : Int) + 1)) (.int .u64 (seq : Int)) (.int .i64 hd.1) (.int .i64 sp) (.slice (some ⟨g, 0, none⟩) N N)
    unfold six at hX hT
    generalize (((((w3.setCell ⟨w.heap.size, 0, none⟩ (.int .u32 (ep : Int))).setCell ⟨w.heap.size, 1, none⟩ (.int .u64 ((seq : Int) + 1))).setCell ⟨w.heap.size, 2, none⟩ (.int .u64 (seq : Int))).setCell ⟨w.heap.size, 3, none⟩ (.int .i64 hd.1)).setCell ⟨w.heap.size, 4, none⟩ (.int .i64 sp)).setCell ⟨w.heap.size, 5, none⟩ (.slice (some ⟨g, 0, none⟩) N N) = W7 at hX hT ⊢
    obtain ⟨x0, x1, x2, x3, x4, x5⟩ := six_cells hX
    have hgl := HQ.out.2.2.1
    refine bodyPost_ret (v := .tuple #[stA ep (seq + 1) seq hd.1 sp (.slice (some ⟨g, 0, none⟩) N N), .int .i64 0]) (by simp [results, Try.results12, go_sem, x0, x1, x2, x3, x4, x5]) rfl ⟨⟨seq, HQ.out.1, .inr ⟨HQ.out.2.1, g, ?_, by omega, hT.at HQ.out.2.2.2 (by omega)⟩⟩, T3.trans hT (fun j hj hlt => by omega), D3.touch hT fun j hj e => by have := H.out.lt j hj; omega⟩
    rw [HX.out.1, HX.out.2.1, HX.out.2.2]
end Rp
end Go.Proofs.Ythapggobpfcmjaa
