/- A device that is down tells nothing; neither do places that there are not: ReplayDown's walk. No condition. -/
import Derived.Test.YthapggobpfcmjaaRqc
set_option maxRecDepth 100000
namespace Go.Proofs.Ythapggobpfcmjaa
namespace Rp
open Go.RowKit

set_option maxHeartbeats 16000000 in
theorem down_walk (x p b : Int) (w : World) : Calls Try.prog 4 #[.int .i64 x, .int .i64 p, .int .i64 b] w fun e w' => e = .returned (.bool true) ∧ Below w.heap.size w w' := by
  have SH := Lib.hid (shown_ok w)
  have a1 := and_65535 x
  obtain ⟨z, hz, hzl⟩ : ∃ z : Nat, bits .and .i64 x 65535 = (z : Int) ∧ z < 65536 := ⟨(x % 65536).toNat, by rw [a1]; omega, by omega⟩
  obtain ⟨n, hn⟩ : ∃ n : Nat, 1 + (z : Int) % 100 = (n : Int) := ⟨1 + z % 100, by omega⟩
  have hnb : 1 ≤ n ∧ n ≤ 100 := by omega
  obtain ⟨hn1, hn2⟩ := hnb
  have hnl : (DSt.new n).secs.length ≤ 1048576 := by simp [DSt.new]; omega
  have hnn : (DSt.new n).secs.length = n := by simp [DSt.new]
  have ht1 : (z : Int) % 100 ≤ 99 := by omega
  have ht0 : 0 ≤ (z : Int) % 100 := by omega
  have hni : (n : Int) ≤ 100 := by omega
  have hni1 : (1 : Int) ≤ (n : Int) := by omega
  have HNL := Lib.hid hnl
  clear a1 hzl hnl
  by_cases hg : GoodPN (DSt.new n) p b
  · obtain ⟨h1, h2, h3, h4⟩ := id hg
    rw [hnn] at h2
    obtain ⟨P, rfl⟩ : ∃ P : Nat, p = (P : Int) := ⟨p.toNat, by omega⟩
    obtain ⟨N, rfl⟩ : ∃ N : Nat, b = (N : Int) := ⟨b.toNat, by omega⟩
    have HGOOD := Lib.hid hg
    clear hg hnn
    go_enter Try.func4, Try.ntmps4
    go_wp2_with fail
    refine SH.out.mono ?_
    rintro e w0 ⟨rfl, hb0⟩
    have NE := Lib.hid (new_any n w0 (by omega) (by omega))
    have HB0 := Lib.hid hb0
    clear hb0
    go_wp2_with fail
    refine NE.out.mono ?_
    rintro e w1 ⟨rfl, ht1, hs1, hd1⟩
    have D1 : DvF w1 (NewF w0) (w0.heap.size + 2) (DSt.new n) := ⟨hd1, fun k hk => by have := hk.2; omega⟩
    have hfn : foundL (DSt.new n) N P = [] := found_new n N P (by omega)
    have SC := scan_ok sorts_few D1 (new_up n) P N HGOOD.out HNL.out (by simp [DSt.Fit, moreR, DSt.new]; omega) (by rw [hfn]; exact Nat.zero_le _)
    rw [hfn] at SC
    have SC := Lib.hid SC
    have HD1 := Lib.hid (And.intro D1 (And.intro ht1 hs1))
    clear ht1 hs1 hd1 D1 hfn
    go_wp2_with fail
    refine SC.out.mono ?_
    rintro e w2 ⟨hto, ht2, D2⟩
    obtain ⟨g, rfl, hg, hrow⟩ := told_none hto
    have CR := Lib.hid (crash_dv (D2.below ((Below.refl _ w2).alloc (Nat.le_refl _) (.cells #[.int .u32 1, .int .u64 1, .int .u64 0, .int .i64 0, .int .i64 0, .slice (some ⟨g, 0, none⟩) N N] 48))) (by simp [moreR, DSt.new]))
    have H2 := Lib.hid ht2
    clear D2 ht2 hto hg hrow
    go_wp2_with fail
    refine CR.out.mono ?_
    rintro e w3 ⟨rfl, ht3, D3⟩
    have SC2 := Lib.hid (scan_down D3 (crash_err _) (crash_fit _ (by simp [DSt.Fit, moreR, DSt.new]; omega)) P N (by have := HGOOD.out; unfold GoodPN at this ⊢; rw [crash_len]; exact this) (by rw [crash_len]; exact HNL.out))
    have s3 : StAt w3 w2.heap.size 1 1 0 0 0 (.slice (some ⟨g, 0, none⟩) N N) := ht3.at (heap_alloc_new w2 _) (fun h => by have := HD1.out.1.lt _ h; have := H2.out.size; omega)
    have H3 := Lib.hid (And.intro ht3 s3)
    clear ht3 D3 s3
    go_wp2_with fail
    refine SC2.out.mono ?_
    rintro e w4 ⟨rfl, ht4, D4⟩
    have hl4 : w2.heap.size < w4.heap.size := Nat.lt_of_lt_of_le (lt_of_heap H3.out.2) ht4.size
    have s4 : StAt (w4.alloc (.cells zeroS 48)) w2.heap.size 1 1 0 0 0 (.slice (some ⟨g, 0, none⟩) N N) := (Below.heap_alloc _ _ _ hl4).trans (ht4.at H3.out.2 (fun h => by have := HD1.out.1.lt _ h; have := H2.out.size; omega))
    have s5 : StAt (w4.alloc (.cells zeroS 48)) w4.heap.size 0 0 0 0 0 (.slice none 0 0) := heap_alloc_new w4 _
    have TT : Below w.heap.size w (w4.alloc (.cells zeroS 48)) := down_below2 HB0.out HD1.out.2.1 H2.out H3.out.1 ht4
    obtain ⟨x0, x1, x2, x3, x4, x5⟩ := six_cells s4
    obtain ⟨y0, y1, y2, y3, y4, y5⟩ := six_cells s5
    have EM := Lib.hid (empty_z (w4.alloc (.cells zeroS 48)))
    have HTT := Lib.hid TT
    have l2 := lt_of_heap s4
    have l3 := lt_of_heap s5
    unfold zeroS at *
    clear s4 s5 TT ht4 D4
    go_wp2_with fail
    refine EM.out.mono ?_
    rintro e w5 ⟨rfl, hb5⟩
    have HB5 := Lib.hid hb5
    clear hb5
    go_wp2
    go_ret
    exact ⟨rfl, ((Touch.of_below (F := Emp) HTT.out).trans (Touch.of_below (F := Emp) HB5.out) (fun _ h _ => h)).below⟩
  · have HBAD := Lib.hid hg
    have hor : p < 1 ∨ (1 ≤ p ∧ p > (n : Int) - 1) ∨ (1 ≤ p ∧ p ≤ (n : Int) - 1 ∧ b < 1) ∨ (1 ≤ p ∧ p ≤ (n : Int) - 1 ∧ 1 ≤ b ∧ ¬ b ≤ 3840) := by
      unfold GoodPN at hg
      rw [hnn] at hg
      omega
    clear hg hnn
    rcases hor with h1 | ⟨h1, h2⟩ | ⟨h1, h2, h3⟩ | ⟨h1, h2, h3, h4⟩
    · go_enter Try.func4, Try.ntmps4
      go_wp2_with fail
      refine SH.out.mono ?_
      rintro e w0 ⟨rfl, hb0⟩
      have NE := Lib.hid (new_any n w0 (by omega) (by omega))
      have HB0 := Lib.hid hb0
      clear hb0
      go_wp2_with fail
      refine NE.out.mono ?_
      rintro e w1 ⟨rfl, ht1, hs1, hd1⟩
      have D1 : DvF w1 (NewF w0) (w0.heap.size + 2) (DSt.new n) := ⟨hd1, fun k hk => by have := hk.2; omega⟩
      have SC := Lib.hid (scan_bad D1.dev p b HBAD.out HNL.out)
      have HD1 := Lib.hid (And.intro D1 ht1)
      clear ht1 hs1 hd1 D1
      go_wp2_with fail
      refine SC.out.mono ?_
      rintro e w2 ⟨rfl, hb2⟩
      have D2 := HD1.out.1.below hb2
      have CR := Lib.hid (crash_dv (D2.below ((Below.refl _ w2).alloc (Nat.le_refl _) (.cells zeroS 48))) (by simp [DSt.new]))
      have HB2 := Lib.hid hb2
      unfold zeroS at CR
      clear D2 hb2
      go_wp2_with fail
      refine CR.out.mono ?_
      rintro e w3 ⟨rfl, ht3, D3⟩
      have SC2 := Lib.hid (scan_bad D3.dev p b (by have := HBAD.out; exact fun h => this (by unfold GoodPN at h ⊢; rw [crash_len] at h; exact h)) (by rw [crash_len]; exact HNL.out))
      have s3 : w3.heap[w2.heap.size]? = some (.cells zeroS 48 (0, 0)) := ht3.at (heap_alloc_new w2 _) (fun h => by have := HD1.out.1.lt _ h; have := HB2.out.size; omega)
      have H3 := Lib.hid (And.intro ht3 s3)
      clear ht3 D3 s3
      go_wp2_with fail
      refine SC2.out.mono ?_
      rintro e w4 ⟨rfl, hb4⟩
      have s4 : StAt (w4.alloc (.cells zeroS 48)) w2.heap.size 0 0 0 0 0 (.slice none 0 0) := (Below.heap_alloc _ _ _ (by have := hb4.size; have := lt_of_heap H3.out.2; omega)).trans ((hb4.block _ (lt_of_heap H3.out.2)).trans H3.out.2)
      have s5 : StAt (w4.alloc (.cells zeroS 48)) w4.heap.size 0 0 0 0 0 (.slice none 0 0) := heap_alloc_new w4 _
      have TT : Below w.heap.size w (w4.alloc (.cells zeroS 48)) := down_below HB0.out HD1.out.2 HB2.out H3.out.1 hb4
      obtain ⟨x0, x1, x2, x3, x4, x5⟩ := six_cells s4
      obtain ⟨y0, y1, y2, y3, y4, y5⟩ := six_cells s5
      have EM := Lib.hid (empty_z (w4.alloc (.cells zeroS 48)))
      have EM2 := Lib.hid (fun (W : World) => empty_z W)
      have HTT := Lib.hid TT
      have l2 := lt_of_heap s4
      have l3 := lt_of_heap s5
      unfold zeroS at EM
      clear s4 s5 TT hb4
      unfold zeroS at *
      go_wp2_with fail
      refine EM.out.mono ?_
      rintro e w5 ⟨rfl, hb5⟩
      have z4 : StAt w5 w4.heap.size 0 0 0 0 0 (.slice none 0 0) := (hb5.block _ (by simp)).trans (heap_alloc_new w4 _)
      obtain ⟨y0', y1', y2', y3', y4', y5'⟩ := six_cells z4
      have HB5 := Lib.hid hb5
      clear y0 y1 y2 y3 y4 y5 z4 hb5 x0 x1 x2 x3 x4 x5
      go_wp2_with fail
      refine (EM2.out _).mono ?_
      rintro e w6 ⟨rfl, hb6⟩
      have HB6 := Lib.hid hb6
      clear hb6
      go_wp2
      go_ret
      exact ⟨rfl, ((Touch.of_below (F := Emp) HTT.out).trans (Touch.of_below (F := Emp) HB5.out) (fun _ h _ => h)).trans (Touch.of_below (F := Emp) HB6.out) (fun _ h _ => h) |>.below⟩
    · go_enter Try.func4, Try.ntmps4
      go_wp2_with fail
      refine SH.out.mono ?_
      rintro e w0 ⟨rfl, hb0⟩
      have NE := Lib.hid (new_any n w0 (by omega) (by omega))
      have HB0 := Lib.hid hb0
      clear hb0
      go_wp2_with fail
      refine NE.out.mono ?_
      rintro e w1 ⟨rfl, ht1, hs1, hd1⟩
      have D1 : DvF w1 (NewF w0) (w0.heap.size + 2) (DSt.new n) := ⟨hd1, fun k hk => by have := hk.2; omega⟩
      have SC := Lib.hid (scan_bad D1.dev p b HBAD.out HNL.out)
      have HD1 := Lib.hid (And.intro D1 ht1)
      clear ht1 hs1 hd1 D1
      go_wp2_with fail
      refine SC.out.mono ?_
      rintro e w2 ⟨rfl, hb2⟩
      have D2 := HD1.out.1.below hb2
      have CR := Lib.hid (crash_dv (D2.below ((Below.refl _ w2).alloc (Nat.le_refl _) (.cells zeroS 48))) (by simp [DSt.new]))
      have HB2 := Lib.hid hb2
      unfold zeroS at CR
      clear D2 hb2
      go_wp2_with fail
      refine CR.out.mono ?_
      rintro e w3 ⟨rfl, ht3, D3⟩
      have SC2 := Lib.hid (scan_bad D3.dev p b (by have := HBAD.out; exact fun h => this (by unfold GoodPN at h ⊢; rw [crash_len] at h; exact h)) (by rw [crash_len]; exact HNL.out))
      have s3 : w3.heap[w2.heap.size]? = some (.cells zeroS 48 (0, 0)) := ht3.at (heap_alloc_new w2 _) (fun h => by have := HD1.out.1.lt _ h; have := HB2.out.size; omega)
      have H3 := Lib.hid (And.intro ht3 s3)
      clear ht3 D3 s3
      go_wp2_with fail
      refine SC2.out.mono ?_
      rintro e w4 ⟨rfl, hb4⟩
      have s4 : StAt (w4.alloc (.cells zeroS 48)) w2.heap.size 0 0 0 0 0 (.slice none 0 0) := (Below.heap_alloc _ _ _ (by have := hb4.size; have := lt_of_heap H3.out.2; omega)).trans ((hb4.block _ (lt_of_heap H3.out.2)).trans H3.out.2)
      have s5 : StAt (w4.alloc (.cells zeroS 48)) w4.heap.size 0 0 0 0 0 (.slice none 0 0) := heap_alloc_new w4 _
      have TT : Below w.heap.size w (w4.alloc (.cells zeroS 48)) := down_below HB0.out HD1.out.2 HB2.out H3.out.1 hb4
      obtain ⟨x0, x1, x2, x3, x4, x5⟩ := six_cells s4
      obtain ⟨y0, y1, y2, y3, y4, y5⟩ := six_cells s5
      have EM := Lib.hid (empty_z (w4.alloc (.cells zeroS 48)))
      have EM2 := Lib.hid (fun (W : World) => empty_z W)
      have HTT := Lib.hid TT
      have l2 := lt_of_heap s4
      have l3 := lt_of_heap s5
      unfold zeroS at EM
      clear s4 s5 TT hb4
      unfold zeroS at *
      go_wp2_with fail
      refine EM.out.mono ?_
      rintro e w5 ⟨rfl, hb5⟩
      have z4 : StAt w5 w4.heap.size 0 0 0 0 0 (.slice none 0 0) := (hb5.block _ (by simp)).trans (heap_alloc_new w4 _)
      obtain ⟨y0', y1', y2', y3', y4', y5'⟩ := six_cells z4
      have HB5 := Lib.hid hb5
      clear y0 y1 y2 y3 y4 y5 z4 hb5 x0 x1 x2 x3 x4 x5
      go_wp2_with fail
      refine (EM2.out _).mono ?_
      rintro e w6 ⟨rfl, hb6⟩
      have HB6 := Lib.hid hb6
      clear hb6
      go_wp2
      go_ret
      exact ⟨rfl, ((Touch.of_below (F := Emp) HTT.out).trans (Touch.of_below (F := Emp) HB5.out) (fun _ h _ => h)).trans (Touch.of_below (F := Emp) HB6.out) (fun _ h _ => h) |>.below⟩
    · go_enter Try.func4, Try.ntmps4
      go_wp2_with fail
      refine SH.out.mono ?_
      rintro e w0 ⟨rfl, hb0⟩
      have NE := Lib.hid (new_any n w0 (by omega) (by omega))
      have HB0 := Lib.hid hb0
      clear hb0
      go_wp2_with fail
      refine NE.out.mono ?_
      rintro e w1 ⟨rfl, ht1, hs1, hd1⟩
      have D1 : DvF w1 (NewF w0) (w0.heap.size + 2) (DSt.new n) := ⟨hd1, fun k hk => by have := hk.2; omega⟩
      have SC := Lib.hid (scan_bad D1.dev p b HBAD.out HNL.out)
      have HD1 := Lib.hid (And.intro D1 ht1)
      clear ht1 hs1 hd1 D1
      go_wp2_with fail
      refine SC.out.mono ?_
      rintro e w2 ⟨rfl, hb2⟩
      have D2 := HD1.out.1.below hb2
      have CR := Lib.hid (crash_dv (D2.below ((Below.refl _ w2).alloc (Nat.le_refl _) (.cells zeroS 48))) (by simp [DSt.new]))
      have HB2 := Lib.hid hb2
      unfold zeroS at CR
      clear D2 hb2
      go_wp2_with fail
      refine CR.out.mono ?_
      rintro e w3 ⟨rfl, ht3, D3⟩
      have SC2 := Lib.hid (scan_bad D3.dev p b (by have := HBAD.out; exact fun h => this (by unfold GoodPN at h ⊢; rw [crash_len] at h; exact h)) (by rw [crash_len]; exact HNL.out))
      have s3 : w3.heap[w2.heap.size]? = some (.cells zeroS 48 (0, 0)) := ht3.at (heap_alloc_new w2 _) (fun h => by have := HD1.out.1.lt _ h; have := HB2.out.size; omega)
      have H3 := Lib.hid (And.intro ht3 s3)
      clear ht3 D3 s3
      go_wp2_with fail
      refine SC2.out.mono ?_
      rintro e w4 ⟨rfl, hb4⟩
      have s4 : StAt (w4.alloc (.cells zeroS 48)) w2.heap.size 0 0 0 0 0 (.slice none 0 0) := (Below.heap_alloc _ _ _ (by have := hb4.size; have := lt_of_heap H3.out.2; omega)).trans ((hb4.block _ (lt_of_heap H3.out.2)).trans H3.out.2)
      have s5 : StAt (w4.alloc (.cells zeroS 48)) w4.heap.size 0 0 0 0 0 (.slice none 0 0) := heap_alloc_new w4 _
      have TT : Below w.heap.size w (w4.alloc (.cells zeroS 48)) := down_below HB0.out HD1.out.2 HB2.out H3.out.1 hb4
      obtain ⟨x0, x1, x2, x3, x4, x5⟩ := six_cells s4
      obtain ⟨y0, y1, y2, y3, y4, y5⟩ := six_cells s5
      have EM := Lib.hid (empty_z (w4.alloc (.cells zeroS 48)))
      have EM2 := Lib.hid (fun (W : World) => empty_z W)
      have HTT := Lib.hid TT
      have l2 := lt_of_heap s4
      have l3 := lt_of_heap s5
      unfold zeroS at EM
      clear s4 s5 TT hb4
      unfold zeroS at *
      go_wp2_with fail
      refine EM.out.mono ?_
      rintro e w5 ⟨rfl, hb5⟩
      have z4 : StAt w5 w4.heap.size 0 0 0 0 0 (.slice none 0 0) := (hb5.block _ (by simp)).trans (heap_alloc_new w4 _)
      obtain ⟨y0', y1', y2', y3', y4', y5'⟩ := six_cells z4
      have HB5 := Lib.hid hb5
      clear y0 y1 y2 y3 y4 y5 z4 hb5 x0 x1 x2 x3 x4 x5
      go_wp2_with fail
      refine (EM2.out _).mono ?_
      rintro e w6 ⟨rfl, hb6⟩
      have HB6 := Lib.hid hb6
      clear hb6
      go_wp2
      go_ret
      exact ⟨rfl, ((Touch.of_below (F := Emp) HTT.out).trans (Touch.of_below (F := Emp) HB5.out) (fun _ h _ => h)).trans (Touch.of_below (F := Emp) HB6.out) (fun _ h _ => h) |>.below⟩
    · have h5 : decide (b ≤ 3840) = false := by simp; omega
      go_enter Try.func4, Try.ntmps4
      go_wp2_with fail
      refine SH.out.mono ?_
      rintro e w0 ⟨rfl, hb0⟩
      have NE := Lib.hid (new_any n w0 (by omega) (by omega))
      have HB0 := Lib.hid hb0
      clear hb0
      go_wp2_with fail
      refine NE.out.mono ?_
      rintro e w1 ⟨rfl, ht1, hs1, hd1⟩
      have D1 : DvF w1 (NewF w0) (w0.heap.size + 2) (DSt.new n) := ⟨hd1, fun k hk => by have := hk.2; omega⟩
      have SC := Lib.hid (scan_bad D1.dev p b HBAD.out HNL.out)
      have HD1 := Lib.hid (And.intro D1 ht1)
      clear ht1 hs1 hd1 D1
      go_wp2_with fail
      refine SC.out.mono ?_
      rintro e w2 ⟨rfl, hb2⟩
      have D2 := HD1.out.1.below hb2
      have CR := Lib.hid (crash_dv (D2.below ((Below.refl _ w2).alloc (Nat.le_refl _) (.cells zeroS 48))) (by simp [DSt.new]))
      have HB2 := Lib.hid hb2
      unfold zeroS at CR
      clear D2 hb2
      go_wp2_with fail
      refine CR.out.mono ?_
      rintro e w3 ⟨rfl, ht3, D3⟩
      have SC2 := Lib.hid (scan_bad D3.dev p b (by have := HBAD.out; exact fun h => this (by unfold GoodPN at h ⊢; rw [crash_len] at h; exact h)) (by rw [crash_len]; exact HNL.out))
      have s3 : w3.heap[w2.heap.size]? = some (.cells zeroS 48 (0, 0)) := ht3.at (heap_alloc_new w2 _) (fun h => by have := HD1.out.1.lt _ h; have := HB2.out.size; omega)
      have H3 := Lib.hid (And.intro ht3 s3)
      clear ht3 D3 s3
      go_wp2_with fail
      refine SC2.out.mono ?_
      rintro e w4 ⟨rfl, hb4⟩
      have s4 : StAt (w4.alloc (.cells zeroS 48)) w2.heap.size 0 0 0 0 0 (.slice none 0 0) := (Below.heap_alloc _ _ _ (by have := hb4.size; have := lt_of_heap H3.out.2; omega)).trans ((hb4.block _ (lt_of_heap H3.out.2)).trans H3.out.2)
      have s5 : StAt (w4.alloc (.cells zeroS 48)) w4.heap.size 0 0 0 0 0 (.slice none 0 0) := heap_alloc_new w4 _
      have TT : Below w.heap.size w (w4.alloc (.cells zeroS 48)) := down_below HB0.out HD1.out.2 HB2.out H3.out.1 hb4
      obtain ⟨x0, x1, x2, x3, x4, x5⟩ := six_cells s4
      obtain ⟨y0, y1, y2, y3, y4, y5⟩ := six_cells s5
      have EM := Lib.hid (empty_z (w4.alloc (.cells zeroS 48)))
      have EM2 := Lib.hid (fun (W : World) => empty_z W)
      have HTT := Lib.hid TT
      have l2 := lt_of_heap s4
      have l3 := lt_of_heap s5
      unfold zeroS at EM
      clear s4 s5 TT hb4
      unfold zeroS at *
      go_wp2_with fail
      refine EM.out.mono ?_
      rintro e w5 ⟨rfl, hb5⟩
      have z4 : StAt w5 w4.heap.size 0 0 0 0 0 (.slice none 0 0) := (hb5.block _ (by simp)).trans (heap_alloc_new w4 _)
      obtain ⟨y0', y1', y2', y3', y4', y5'⟩ := six_cells z4
      have HB5 := Lib.hid hb5
      clear y0 y1 y2 y3 y4 y5 z4 hb5 x0 x1 x2 x3 x4 x5
      go_wp2_with fail
      refine (EM2.out _).mono ?_
      rintro e w6 ⟨rfl, hb6⟩
      have HB6 := Lib.hid hb6
      clear hb6
      go_wp2
      go_ret
      exact ⟨rfl, ((Touch.of_below (F := Emp) HTT.out).trans (Touch.of_below (F := Emp) HB5.out) (fun _ h _ => h)).trans (Touch.of_below (F := Emp) HB6.out) (fun _ h _ => h) |>.below⟩
end Rp
end Go.Proofs.Ythapggobpfcmjaa
