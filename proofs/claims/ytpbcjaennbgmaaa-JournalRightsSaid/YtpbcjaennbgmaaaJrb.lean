/- The document's own Right, same, and JournalRights's walk; a journal's state as an argument. No condition. -/
import Derived.Test.YtpbcjaennbgmaaaJra
import Derived.Test.YtpbcjaennbgmaaaJar
import Derived.Test.YtpbcjaennbgmaaaRowB
set_option maxRecDepth 100000
namespace Go.Proofs.Ytpbcjaennbgmaaa
namespace Jn
open Go.RowKit

abbrev refC (p sq hd us : Int) (v : Value) (lag : Int) : Array Value := #[.int .i64 p, .int .u64 sq, .int .i64 hd, .int .i64 us, v, .int .i64 lag]

set_option maxHeartbeats 8000000 in
theorem ref_right {w : World} {P ep st sq hd us p0 lag : Int} {v : Value} {l : List Int} {g : Nat} (hv : NV .i64 w v l g) (hP : P ≤ 300) (hsq : 0 ≤ sq) (hlen : l.length ≤ 4611686018427387904) :
    Calls Try.prog 16 #[.int .i64 P, .int .u32 ep, .int .u64 st, .agg (refC p0 sq hd us v lag)] w fun e w' => RetB e (RightF P ep st sq hd us l) ∧ Below w.heap.size w w' := by
  have HV := Lib.hid hv
  obtain ⟨a, cap, rfl, -⟩ := hv.form
  clear hv
  have HB := Lib.hid ((Below.refl w.heap.size w).alloc (Nat.le_refl _) (.cells (refC P sq hd us (.slice a l.length cap) lag) 54))
  have HG := Lib.hid (heap_alloc_new w (.cells (refC P sq hd us (.slice a l.length cap) lag) 54))
  go_enter Try.func16, Try.ntmps16
  go_upto_region 2 with fail
  generalize w.alloc (.cells (refC P sq hd us (.slice a l.length cap) lag) 54) = W at HB HG ⊢
  have e0 : W.cell? ⟨w.heap.size, 0, none⟩ = some (.int .i64 P) := cell_of_row W w.heap.size 0 _ _ _ HG.out
  have e1 : W.cell? ⟨w.heap.size, 1, none⟩ = some (.int .u64 sq) := cell_of_row W w.heap.size 1 _ _ _ HG.out
  have e2 : W.cell? ⟨w.heap.size, 2, none⟩ = some (.int .i64 hd) := cell_of_row W w.heap.size 2 _ _ _ HG.out
  have e3 : W.cell? ⟨w.heap.size, 3, none⟩ = some (.int .i64 us) := cell_of_row W w.heap.size 3 _ _ _ HG.out
  have e4 : W.cell? ⟨w.heap.size, 4, none⟩ = some (.slice a l.length cap) := cell_of_row W w.heap.size 4 _ _ _ HG.out
  by_cases c1 : P < 1
  · have d1 : decide (P < 1) = true := decide_eq_true c1
    have HN := Lib.hid (show ¬ RightF P ep st sq hd us l from fun h => by have := h.b; omega)
    clear c1
    go_wp2_with fail
    go_ret
    exact ⟨⟨false, rfl, by simp [HN.out]⟩, HB.out⟩
  have d1 : decide (P < 1) = false := decide_eq_false c1
  by_cases c2 : ep < 1
  · have d2 : decide (ep < 1) = true := decide_eq_true c2
    have HN := Lib.hid (show ¬ RightF P ep st sq hd us l from fun h => by have := h.a; omega)
    clear c1 c2
    go_wp2_with fail
    go_ret
    exact ⟨⟨false, rfl, by simp [HN.out]⟩, HB.out⟩
  have d2 : decide (ep < 1) = false := decide_eq_false c2
  by_cases c3 : sq > 281474976710655
  · have d3 : decide (sq > 281474976710655) = true := decide_eq_true c3
    have HN := Lib.hid (show ¬ RightF P ep st sq hd us l from fun h => by have := h.a; omega)
    clear c1 c2 c3
    go_wp2_with fail
    go_ret
    exact ⟨⟨false, rfl, by simp [HN.out]⟩, HB.out⟩
  have d3 : decide (sq > 281474976710655) = false := decide_eq_false c3
  have hq3 : sq ≤ 281474976710655 := by omega
  by_cases c4 : st < 1
  · have d4 : decide (st < 1) = true := decide_eq_true c4
    have HN := Lib.hid (show ¬ RightF P ep st sq hd us l from fun h => by have := h.a; omega)
    clear c1 c2 c3 c4
    go_wp2_with fail
    go_ret
    exact ⟨⟨false, rfl, by simp [HN.out]⟩, HB.out⟩
  have d4 : decide (st < 1) = false := decide_eq_false c4
  by_cases c5 : st > sq + 1
  · have d5 : decide (st > sq + 1) = true := decide_eq_true c5
    have HN := Lib.hid (show ¬ RightF P ep st sq hd us l from fun h => by have := h.a; omega)
    clear c1 c2 c3 c4 c5
    go_wp2_with fail
    go_ret
    exact ⟨⟨false, rfl, by simp [HN.out]⟩, HB.out⟩
  have d5 : decide (st > sq + 1) = false := decide_eq_false c5
  by_cases c6 : hd < 0
  · have d6 : decide (hd < 0) = true := decide_eq_true c6
    have HN := Lib.hid (show ¬ RightF P ep st sq hd us l from fun h => by have := h.b; omega)
    clear c1 c2 c3 c4 c5 c6
    go_wp2_with fail
    go_ret
    exact ⟨⟨false, rfl, by simp [HN.out]⟩, HB.out⟩
  have d6 : decide (hd < 0) = false := decide_eq_false c6
  by_cases c7 : hd ≥ P
  · have d7 : decide (hd ≥ P) = true := decide_eq_true c7
    have HN := Lib.hid (show ¬ RightF P ep st sq hd us l from fun h => by have := h.b; omega)
    clear c1 c2 c3 c4 c5 c6 c7
    go_wp2_with fail
    go_ret
    exact ⟨⟨false, rfl, by simp [HN.out]⟩, HB.out⟩
  have d7 : decide (hd ≥ P) = false := decide_eq_false c7
  by_cases c8 : us < 0
  · have d8 : decide (us < 0) = true := decide_eq_true c8
    have HN := Lib.hid (show ¬ RightF P ep st sq hd us l from fun h => by have := h.b; omega)
    clear c1 c2 c3 c4 c5 c6 c7 c8
    go_wp2_with fail
    go_ret
    exact ⟨⟨false, rfl, by simp [HN.out]⟩, HB.out⟩
  have d8 : decide (us < 0) = false := decide_eq_false c8
  by_cases c9 : us > P
  · have d9 : decide (us > P) = true := decide_eq_true c9
    have HN := Lib.hid (show ¬ RightF P ep st sq hd us l from fun h => by have := h.b; omega)
    clear c1 c2 c3 c4 c5 c6 c7 c8 c9
    go_wp2_with fail
    go_ret
    exact ⟨⟨false, rfl, by simp [HN.out]⟩, HB.out⟩
  have d9 : decide (us > P) = false := decide_eq_false c9
  by_cases c10 : (l.length : Int) < 1
  · have d10 : decide ((l.length : Int) < 1) = true := decide_eq_true c10
    have HN := Lib.hid (show ¬ RightF P ep st sq hd us l from fun h => by have := h.c; omega)
    clear c1 c2 c3 c4 c5 c6 c7 c8 c9 c10
    go_wp2_with fail
    go_ret
    exact ⟨⟨false, rfl, by simp [HN.out]⟩, HB.out⟩
  have d10 : decide ((l.length : Int) < 1) = false := decide_eq_false c10
  by_cases c11 : (l.length : Int) > 3840
  · have d11 : decide ((l.length : Int) > 3840) = true := decide_eq_true c11
    have HN := Lib.hid (show ¬ RightF P ep st sq hd us l from fun h => by have := h.c; omega)
    clear c1 c2 c3 c4 c5 c6 c7 c8 c9 c10 c11
    go_wp2_with fail
    go_ret
    exact ⟨⟨false, rfl, by simp [HN.out]⟩, HB.out⟩
  have d11 : decide ((l.length : Int) > 3840) = false := decide_eq_false c11
  obtain ⟨n, rfl⟩ : ∃ n : Nat, P = (n : Int) := ⟨P.toNat, by omega⟩
  have HA := Lib.hid (show 1 ≤ ep ∧ sq ≤ 281474976710655 ∧ 1 ≤ st ∧ st ≤ sq + 1 by omega)
  have HBD := Lib.hid (show 1 ≤ n ∧ n ≤ 300 ∧ 0 ≤ hd ∧ hd < n ∧ 0 ≤ us ∧ us ≤ n ∧ 1 ≤ l.length ∧ l.length ≤ 3840 by omega)
  have hmk := run_makeV W n (by omega)
  clear c1 c2 c3 c4 c5 c6 c7 c8 c9 c10 c11 e0 hP hlen
  go_wp2_with fail
  clear hsq hq3 hmk d1 d2 d3 d4 d5 d6 d7 d8 d9 d10 d11 e1 e2 e3 e4
  have HT := Lib.hid (heap_alloc_new W (.cells (rowV n (fun _ => false)) 4))
  have HLT := Lib.hid (show w.heap.size ≤ W.heap.size from HB.out.size)
  have HGT := Lib.hid (show W.heap.size ≠ w.heap.size from fun e => by have := lt_of_heap HG.out; omega)
  replace HG := Lib.hid ((Below.heap_alloc W (.cells (rowV n (fun _ => false)) 4) _ (lt_of_heap HG.out)).trans HG.out)
  replace HB := Lib.hid (HB.out.alloc HB.out.size (.cells (rowV n (fun _ => false)) 4))
  generalize hgT : W.heap.size = gT at HT HGT HLT ⊢
  clear hgT
  generalize W.alloc (.cells (rowV n (fun _ => false)) 4) = W5 at HB HG HT ⊢
  go_loopw [10] (fun i wr => ∃ k : Nat, 1 ≤ k ∧ (k : Int) ≤ us + 1 ∧ i = .int .i64 k ∧ wr.heap[gT]? = some (.cells (rowV n (tkn n hd k)) 4 (0, 0)) ∧ Touch (fun j => j = gT) W5 wr) (fun i _ => us.toNat + 1 - (intOf i).toNat)
  case atStart => exact ⟨1, by omega, by have := HBD.out; omega, rfl, by rw [← tkn_start ⟨HBD.out.2.2.1, HBD.out.2.2.2.1⟩]; exact HT.out, Touch.refl _ _⟩
  case round =>
    obtain ⟨k, hk1, hk2, rfl, hR, ht⟩ := hrel
    have HR := Lib.hid (And.intro hR ht)
    have hg := ht.at HG.out (fun e => HGT.out e.symm)
    have c0 : wr.cell? ⟨w.heap.size, 0, none⟩ = some (.int .i64 (n : Int)) := cell_of_row wr w.heap.size 0 _ _ _ hg
    have c2 : wr.cell? ⟨w.heap.size, 2, none⟩ = some (.int .i64 hd) := cell_of_row wr w.heap.size 2 _ _ _ hg
    have c3 : wr.cell? ⟨w.heap.size, 3, none⟩ = some (.int .i64 us) := cell_of_row wr w.heap.size 3 _ _ _ hg
    clear hg ht
    by_cases hlt : (k : Int) ≤ us
    · have d1 : decide ((k : Int) ≤ us) = true := decide_eq_true hlt
      obtain ⟨r, hr, hrn⟩ : ∃ r : Nat, (hd - (k : Int)) % (n : Int) = (r : Int) ∧ r < n := by
        have h0 := HBD.out
        have h1 := Int.emod_nonneg (hd - (k : Int)) (show (n : Int) ≠ 0 by omega)
        have h2 := Int.emod_lt_of_pos (hd - (k : Int)) (show (0 : Int) < (n : Int) by omega)
        exact ⟨((hd - (k : Int)) % (n : Int)).toNat, by omega, by omega⟩
      have PL := place_any w.heap.size n (hd - (k : Int)) wr c0 (by have := HBD.out; omega) (by have := HBD.out; omega) (by have := HBD.out; omega)
      rw [hr] at PL
      have PL := Lib.hid PL
      have HRR := Lib.hid hr
      have cR := rowV_cell hR hrn
      have fR := frozen_of_row wr gT r _ _ hR
      have hb1 := HBD.out
      have hb2 : hd - (k : Int) ≥ -1000 := by omega
      have hb3 : hd - (k : Int) ≤ 1000 := by omega
      have hrn2 : (r : Int) < (n : Int) := by omega
      have hk300 : (k : Int) ≤ 300 := by omega
      clear hR hr hb1
      go_wp2_with fail
      refine PL.out.mono ?_
      rintro e w' ⟨rfl, rfl⟩
      go_wp2_with fail
      refine ⟨⟨k + 1, by omega, by omega, by go_num, ?_, HR.out.2.setCell (a := ⟨gT, r, none⟩) (.inl rfl) _⟩, by simp [intOf]; omega⟩
      have h := rowV_set (i := r) (b := true) HR.out.1
      rw [tkn_step ⟨HBD.out.2.2.1, HBD.out.2.2.2.1⟩ ⟨hk1, by have := HBD.out; omega⟩ HRR.out] at h
      exact h
    · have d1 : decide ((k : Int) ≤ us) = false := decide_eq_false hlt
      have hk3 : (k : Int) = us + 1 := by omega
      have hR2 := HR.out
      rw [tkm_start hk3] at hR2
      replace HR := Lib.hid hR2
      clear hR hR2 hlt hk1 hk2 hk3
      go_wp2_with fail
      clear d1 c0 c2 c3
      go_loopw [11] (fun i wr2 => ∃ q : Nat, q ≤ l.length ∧ i = .int .i64 q ∧ ApF n hd us (l.take q) ∧ wr2.heap[gT]? = some (.cells (rowV n (tkm n hd us (l.take q))) 4 (0, 0)) ∧ Touch (fun j => j = gT) W5 wr2) (fun i _ => l.length - (intOf i).toNat)
      case atStart => exact ⟨0, Nat.zero_le _, rfl, ⟨by simp, by simp [keysA]⟩, by simpa using HR.out.1, HR.out.2⟩
      case round =>
        obtain ⟨q, hq, rfl, hA, hR, ht⟩ := hrel
        have HI := Lib.hid (And.intro hA (And.intro hR ht))
        have hg := ht.at HG.out (fun e => HGT.out e.symm)
        have c0 : wr.cell? ⟨w.heap.size, 0, none⟩ = some (.int .i64 (n : Int)) := cell_of_row wr w.heap.size 0 _ _ _ hg
        have c4 : wr.cell? ⟨w.heap.size, 4, none⟩ = some (.slice a l.length cap) := cell_of_row wr w.heap.size 4 _ _ _ hg
        have HBR := Lib.hid (HB.out.trans (ht.to_below (fun j _ hj => by have := HLT.out; omega) HB.out.size))
        clear hg hA hR ht
        have hq4 : (q : Int) ≤ 3840 := by have := HBD.out; omega
        by_cases hlt : q < l.length
        · have hlt2 : (q : Int) < (l.length : Int) := by omega
          obtain ⟨off, rfl, ck⟩ := (HV.out.below HBR.out).cell_at hlt
          have HLK := Lib.hid (show l.take (q + 1) = l.take q ++ [l[q]] from by rw [List.take_add_one, List.getElem?_eq_getElem hlt]; rfl)
          have HCUT := Lib.hid (fun hf : ApF n hd us l => hf.cut hlt)
          generalize l[q] = p at ck HLK HCUT
          by_cases hpm : p = -1
          · subst hpm
            go_wp2_with fail
            obtain ⟨hA, hR, ht⟩ := HI.out
            exact ⟨⟨q + 1, by omega, by go_num, by rw [HLK.out]; exact hA.skip, by rw [HLK.out, tkm_skip]; exact hR, ht⟩, by simp [intOf]; omega⟩
          · have hpe : (p == -1) = false := by simpa using hpm
            by_cases hp0 : p < 0
            · have d0 : decide (p < 0) = true := decide_eq_true hp0
              have HN := Lib.hid (show ¬ RightF n ep st sq hd us l from fun h => by have := (HCUT.out h.d).1; omega)
              clear hp0 hpm
              go_wp2_with fail
              go_ret
              exact ⟨⟨false, rfl, by simp [HN.out]⟩, HBR.out⟩
            · have d0 : decide (p < 0) = false := decide_eq_false hp0
              by_cases hpn : p ≥ (n : Int)
              · have d1 : decide (p ≥ (n : Int)) = true := decide_eq_true hpn
                have HN := Lib.hid (show ¬ RightF n ep st sq hd us l from fun h => by have := (HCUT.out h.d).1; omega)
                clear hp0 hpm hpn
                go_wp2_with fail
                go_ret
                exact ⟨⟨false, rfl, by simp [HN.out]⟩, HBR.out⟩
              · have d1 : decide (p ≥ (n : Int)) = false := decide_eq_false hpn
                obtain ⟨r, rfl⟩ : ∃ r : Nat, p = (r : Int) := ⟨p.toNat, by omega⟩
                have hrn : r < n := by omega
                have hrn2 : (r : Int) < (n : Int) := by omega
                have cR := rowV_cell HI.out.2.1 hrn
                have fR := frozen_of_row wr gT r _ _ HI.out.2.1
                clear hp0 hpm hpn
                by_cases hin : backI n hd r ≤ us ∧ r ∉ keysA (l.take q)
                · rw [show tkm n hd us (l.take q) r = true from decide_eq_true hin] at cR
                  have HIN := Lib.hid hin
                  clear hin
                  go_wp2_with fail
                  obtain ⟨hA, hR, ht⟩ := HI.out
                  refine ⟨⟨q + 1, by omega, by go_num, by rw [HLK.out]; exact hA.snoc ⟨by omega, by omega, HIN.out.1⟩ HIN.out.2, ?_, ht.setCell (a := ⟨gT, r, none⟩) (.inl rfl) _⟩, by simp [intOf]; omega⟩
                  rw [HLK.out]
                  have h := rowV_set (i := r) (b := false) hR
                  rw [tkm_put] at h
                  exact h
                · rw [show tkm n hd us (l.take q) r = false from decide_eq_false hin] at cR
                  have HN := Lib.hid (show ¬ RightF n ep st sq hd us l from fun h => by
                    have h2 := HCUT.out h.d
                    exact hin ⟨by omega, h2.2 (by omega)⟩)
                  clear hin
                  go_wp2_with fail
                  go_ret
                  exact ⟨⟨false, rfl, by simp [HN.out]⟩, HBR.out⟩
        · obtain rfl : q = l.length := by omega
          have HM := Lib.hid (show RightF n ep st sq hd us l from by
            have h := HI.out.1
            rw [List.take_length] at h
            have b := HBD.out
            exact ⟨HA.out, ⟨b.2.2.1, b.2.2.2.1, b.2.2.2.2.1, b.2.2.2.2.2.1⟩, ⟨b.2.2.2.2.2.2.1, b.2.2.2.2.2.2.2⟩, h⟩)
          go_wp2_with fail
          go_ret
          exact ⟨⟨true, rfl, by simp [HM.out]⟩, HBR.out⟩

end Jn
end Go.Proofs.Ytpbcjaennbgmaaa

set_option maxRecDepth 100000
namespace Go.Proofs.Ytpbcjaennbgmaaa
namespace Jn
open Go.RowKit

set_option maxHeartbeats 4000000 in
theorem same_yes {w : World} {ep st sq hd us p lag : Int} {v v2 : Value} {l : List Int} {g g2 gr : Nat} (hv : NV .i64 w v l g) (hv2 : NV .i64 w v2 l g2) (hr : w.heap[gr]? = some (.cells (refC p sq hd us v2 lag) 54 (0, 0))) (hlen : l.length ≤ 100000) :
    Calls Try.prog 19 #[.agg (stI ep st sq hd us v), .pointer (some ⟨gr, 0, none⟩)] w fun e w' => e = .returned (.bool true) ∧ Below w.heap.size w w' := by
  have HV := Lib.hid hv
  have HV2 := Lib.hid hv2
  obtain ⟨a, cap, rfl, -⟩ := hv.form
  obtain ⟨a2, cap2, rfl, -⟩ := hv2.form
  have HB := Lib.hid ((Below.refl w.heap.size w).alloc (Nat.le_refl _) (.cells (stI ep st sq hd us (.slice a l.length cap)) 35))
  have HG := Lib.hid (heap_alloc_new w (.cells (stI ep st sq hd us (.slice a l.length cap)) 35))
  have HR := Lib.hid ((Below.heap_alloc w (.cells (stI ep st sq hd us (.slice a l.length cap)) 35) gr (lt_of_heap hr)).trans hr)
  have HL := Lib.hid hlen
  clear hv hv2 hr hlen
  go_enter Try.func19, Try.ntmps19
  go_upto_region 1 with fail
  generalize w.alloc (.cells (stI ep st sq hd us (.slice a l.length cap)) 35) = W at HB HG HR ⊢
  have c2 : W.cell? ⟨w.heap.size, 2, none⟩ = some (.int .u64 sq) := cell_of_row W w.heap.size 2 _ _ _ HG.out
  have c3 : W.cell? ⟨w.heap.size, 3, none⟩ = some (.int .i64 hd) := cell_of_row W w.heap.size 3 _ _ _ HG.out
  have c4 : W.cell? ⟨w.heap.size, 4, none⟩ = some (.int .i64 us) := cell_of_row W w.heap.size 4 _ _ _ HG.out
  have c5 : W.cell? ⟨w.heap.size, 5, none⟩ = some (.slice a l.length cap) := cell_of_row W w.heap.size 5 _ _ _ HG.out
  have r1 : W.cell? ⟨gr, 1, none⟩ = some (.int .u64 sq) := cell_of_row W gr 1 _ _ _ HR.out
  have r2 : W.cell? ⟨gr, 2, none⟩ = some (.int .i64 hd) := cell_of_row W gr 2 _ _ _ HR.out
  have r3 : W.cell? ⟨gr, 3, none⟩ = some (.int .i64 us) := cell_of_row W gr 3 _ _ _ HR.out
  have r4 : W.cell? ⟨gr, 4, none⟩ = some (.slice a2 l.length cap2) := cell_of_row W gr 4 _ _ _ HR.out
  go_region
  go_wp2_with fail
  go_loopw [5] (fun i wr => ∃ k : Nat, k ≤ l.length ∧ i = .int .i64 k ∧ Below W.heap.size W wr) (fun i _ => l.length - (intOf i).toNat)
  case atStart => exact ⟨0, Nat.zero_le _, rfl, (Below.refl _ W).drew⟩
  case round =>
    obtain ⟨k, hk, rfl, hb⟩ := hrel
    have HBB := Lib.hid hb
    have hg := (hb.block _ (lt_of_heap HG.out)).trans HG.out
    have hr := (hb.block _ (lt_of_heap HR.out)).trans HR.out
    have c5 : wr.cell? ⟨w.heap.size, 5, none⟩ = some (.slice a l.length cap) := cell_of_row wr w.heap.size 5 _ _ _ hg
    have r4 : wr.cell? ⟨gr, 4, none⟩ = some (.slice a2 l.length cap2) := cell_of_row wr gr 4 _ _ _ hr
    have FIN := Lib.hid (HB.out.trans (hb.mono HB.out.size))
    have hk5 : (k : Int) ≤ 100000 := by have := HL.out; omega
    clear hb hg hr
    by_cases hlt : k < l.length
    · have hlt2 : (k : Int) < (l.length : Int) := by omega
      obtain ⟨off, rfl, ck⟩ := ((HV.out.below HB.out).below HBB.out).cell_at hlt
      obtain ⟨off2, rfl, ck2⟩ := ((HV2.out.below HB.out).below HBB.out).cell_at hlt
      go_wp2_with fail
      go_region
      go_wp2_with fail
      exact ⟨⟨k + 1, by omega, by go_num, HBB.out.drew⟩, by simp [intOf]; omega⟩
    · obtain rfl : k = l.length := by omega
      go_wp2_with fail
      go_ret
      exact ⟨rfl, FIN.out⟩
end Jn
end Go.Proofs.Ytpbcjaennbgmaaa

set_option maxRecDepth 100000
namespace Go.Proofs.Ytpbcjaennbgmaaa
namespace Jn
open Go.RowKit

theorem min_300 (p : Int) : ∃ r : Int, r = min p 300 ∧ ∀ W : World, (Builtin.min_ #[3, 3] 3 #[.int .i64 p, .int .i64 300]).run Try.prog W = .ok (.int .i64 r) W := by
  refine ⟨min p 300, rfl, fun W => ?_⟩
  simp [Builtin.min_, Builtin.min2]
  split <;> omega
theorem min_50 (u : Nat) : ∃ r : Nat, r = min u 50 ∧ ∀ W : World, (Builtin.min_ #[3, 3] 3 #[.int .i64 (u : Int), .int .i64 50]).run Try.prog W = .ok (.int .i64 (r : Int)) W := by
  refine ⟨min u 50, rfl, fun W => ?_⟩
  simp [Builtin.min_, Builtin.min2]
  split <;> omega

theorem nv_rowA {W : World} {g m : Nat} {l : List Int} (hl : l.length = m) (hp : ∀ p ∈ l, -1 ≤ p) (h : W.heap[g]? = some (.cells (Tb.rowT m (aL l)).toArray 3 (0, 0))) : NV .i64 W (.slice (some ⟨g, 0, none⟩) m m) l g := by
  subst hl
  refine ⟨⟨some ⟨g, 0, none⟩, l.length, rfl, Nat.le_refl _, (fun e => by cases e), fun _ => ⟨0, rfl, fun i hi => ?_⟩⟩, fun _ => lt_of_heap h⟩
  rw [Nat.zero_add, row_cell h hi]
  have hpi := hp _ (List.getElem_mem hi)
  congr 2
  unfold aL
  rw [List.getElem?_eq_getElem hi]
  by_cases e : l[i] = -1
  · simp [e, Tb.enc]
  · simp only [e, if_false, Tb.enc]
    omega

set_option maxHeartbeats 8000000 in
theorem rights_walk {w : World} {P0 hd us : Int} {ep st sq : Nat} {v : Value} {l : List Int} {g : Nat} (hv : NV .i64 w v l g) (hep : ep < 4294967296) :
    Calls Try.prog 4 #[.int .i64 P0, .agg (stI ep st sq hd us v)] w fun e w' => e = .returned (.bool true) ∧ Below w.heap.size w w' := by
  have HV := Lib.hid hv
  obtain ⟨a, cap, rfl, hcap, -⟩ := hv.form
  clear hv
  obtain ⟨P, hP, hmin⟩ := min_300 P0
  obtain ⟨m, hm, hmin2⟩ := min_50 l.length
  have HB := Lib.hid ((Below.refl w.heap.size w).alloc (Nat.le_refl _) (.cells (stI ep st sq hd us (.slice a l.length cap)) 35))
  have HG := Lib.hid (heap_alloc_new w (.cells (stI ep st sq hd us (.slice a l.length cap)) 35))
  go_enter Try.func4, Try.ntmps4
  go_upto_region 1 with fail
  generalize w.alloc (.cells (stI ep st sq hd us (.slice a l.length cap)) 35) = W at HB HG ⊢
  have SH := Lib.hid (shown_any W)
  go_wp2_with fail
  refine SH.out.mono ?_
  rintro e wS ⟨rfl, hbS⟩
  replace HG := Lib.hid ((hbS.block _ (lt_of_heap HG.out)).trans HG.out)
  replace HB := Lib.hid (HB.out.trans (hbS.mono HB.out.size))
  clear SH hbS
  have hm50 : m ≤ 50 := by omega
  have hml : m ≤ l.length := by omega
  have hmc : m ≤ cap := by omega
  have hP300 : P ≤ 300 := by omega
  have c5 : wS.cell? ⟨w.heap.size, 5, none⟩ = some (.slice a l.length cap) := cell_of_row wS w.heap.size 5 _ _ _ HG.out
  have f5 := frozen_of_row wS w.heap.size 5 _ _ HG.out
  clear hP hm
  go_upto_region 4 with fail
  have HG1 : (wS.setCell ⟨w.heap.size, 5, none⟩ (.slice a m cap)).heap[w.heap.size]? = some (.cells (stI ep st sq hd us (.slice a m cap)) 35 (0, 0)) := by
    have := heap_setCell_same wS w.heap.size 5 _ _ (.slice a m cap) HG.out
    simpa using this
  have HB1 : Below w.heap.size w (wS.setCell ⟨w.heap.size, 5, none⟩ (.slice a m cap)) := HB.out.trans (((Touch.refl (fun j => j = w.heap.size) wS).setCell (a := ⟨w.heap.size, 5, none⟩) (.inl rfl) _).to_below (fun j _ hj => by omega) HB.out.size)
  obtain ⟨l', hl', HV1⟩ : ∃ l' : List Int, l'.length = m ∧ NV .i64 (wS.setCell ⟨w.heap.size, 5, none⟩ (.slice a m cap)) (.slice a m cap) l' g := ⟨l.take m, by rw [List.length_take]; omega, (HV.out.below HB1).takeN hml⟩
  replace HG := Lib.hid HG1
  replace HB := Lib.hid HB1
  replace HV := Lib.hid HV1
  replace HL := Lib.hid hl'
  clear HG1 HB1 HV1 hl' c5 f5 hmin hmin2 hml hmc hcap
  generalize wS.setCell ⟨w.heap.size, 5, none⟩ (.slice a m cap) = W1 at HG HB HV ⊢
  have c0 : W1.cell? ⟨w.heap.size, 0, none⟩ = some (.int .u32 (ep : Int)) := cell_of_row W1 w.heap.size 0 _ _ _ HG.out
  have c1 : W1.cell? ⟨w.heap.size, 1, none⟩ = some (.int .u64 (st : Int)) := cell_of_row W1 w.heap.size 1 _ _ _ HG.out
  have c2 : W1.cell? ⟨w.heap.size, 2, none⟩ = some (.int .u64 (sq : Int)) := cell_of_row W1 w.heap.size 2 _ _ _ HG.out
  have c3 : W1.cell? ⟨w.heap.size, 3, none⟩ = some (.int .i64 hd) := cell_of_row W1 w.heap.size 3 _ _ _ HG.out
  have c4 : W1.cell? ⟨w.heap.size, 4, none⟩ = some (.int .i64 us) := cell_of_row W1 w.heap.size 4 _ _ _ HG.out
  have c5 : W1.cell? ⟨w.heap.size, 5, none⟩ = some (.slice a m cap) := cell_of_row W1 w.heap.size 5 _ _ _ HG.out
  have RR := Lib.hid (ref_right (P := P) (ep := ep) (st := st) (sq := sq) (hd := hd) (us := us) (p0 := 0) (lag := 0) HV.out hP300 (by omega) (by rw [HL.out]; omega))
  go_wp2_with fail
  refine RR.out.mono ?_
  rintro e w2 ⟨⟨b1, rfl, hb1⟩, hbe⟩
  have B1 := Lib.hid hb1
  replace HG := Lib.hid ((hbe.block _ (lt_of_heap HG.out)).trans HG.out)
  replace HV := Lib.hid (HV.out.below hbe)
  replace HB := Lib.hid (HB.out.trans (hbe.mono HB.out.size))
  clear c0 c1 c2 c3 c4 c5 RR hb1 hbe
  have c0 : w2.cell? ⟨w.heap.size, 0, none⟩ = some (.int .u32 (ep : Int)) := cell_of_row w2 w.heap.size 0 _ _ _ HG.out
  have c1 : w2.cell? ⟨w.heap.size, 1, none⟩ = some (.int .u64 (st : Int)) := cell_of_row w2 w.heap.size 1 _ _ _ HG.out
  have c2 : w2.cell? ⟨w.heap.size, 2, none⟩ = some (.int .u64 (sq : Int)) := cell_of_row w2 w.heap.size 2 _ _ _ HG.out
  have c3 : w2.cell? ⟨w.heap.size, 3, none⟩ = some (.int .i64 hd) := cell_of_row w2 w.heap.size 3 _ _ _ HG.out
  have c4 : w2.cell? ⟨w.heap.size, 4, none⟩ = some (.int .i64 us) := cell_of_row w2 w.heap.size 4 _ _ _ HG.out
  have c5 : w2.cell? ⟨w.heap.size, 5, none⟩ = some (.slice a m cap) := cell_of_row w2 w.heap.size 5 _ _ _ HG.out
  have RA := Lib.hid (right_any (P := P) (ep := ep) (st := st) (sq := sq) (hd := hd) (us := us) HV.out (by omega) (by omega) (by rw [HL.out]; omega))
  go_wp2_with fail
  refine RA.out.mono ?_
  rintro e w3 ⟨⟨b2, rfl, hb2⟩, hbe⟩
  obtain rfl : b1 = b2 := by
    have := B1.out.trans hb2.symm
    cases b1 <;> cases b2 <;> simp_all
  replace HG := Lib.hid ((hbe.block _ (lt_of_heap HG.out)).trans HG.out)
  replace HV := Lib.hid (HV.out.below hbe)
  replace HB := Lib.hid (HB.out.trans (hbe.mono HB.out.size))
  clear c0 c1 c2 c3 c4 c5 RA hb2 hbe
  have ND := new_any 301 w3 (by omega) (by omega)
  rw [show ((301 : Nat) : Int) = 301 from rfl] at ND
  have ND := Lib.hid ND
  go_wp2_with fail
  refine ND.out.mono ?_
  rintro e w4 ⟨rfl, ht4, hs4, hd4⟩
  replace HG := Lib.hid ((ht4.below.block _ (lt_of_heap HG.out)).trans HG.out)
  replace HV := Lib.hid (HV.out.below ht4.below)
  replace HB := Lib.hid (HB.out.trans (ht4.below.mono HB.out.size))
  have D1 := Lib.hid (devF_new hd4 hs4)
  clear ND ht4 hs4 hd4
  obtain ⟨b, hb⟩ : ∃ b, w3.heap.size + 2 = b := ⟨_, rfl⟩
  rw [hb] at D1 ⊢
  clear hb
  have c0 : w4.cell? ⟨w.heap.size, 0, none⟩ = some (.int .u32 (ep : Int)) := cell_of_row w4 w.heap.size 0 _ _ _ HG.out
  have c1 : w4.cell? ⟨w.heap.size, 1, none⟩ = some (.int .u64 (st : Int)) := cell_of_row w4 w.heap.size 1 _ _ _ HG.out
  have c2 : w4.cell? ⟨w.heap.size, 2, none⟩ = some (.int .u64 (sq : Int)) := cell_of_row w4 w.heap.size 2 _ _ _ HG.out
  have c3 : w4.cell? ⟨w.heap.size, 3, none⟩ = some (.int .i64 hd) := cell_of_row w4 w.heap.size 3 _ _ _ HG.out
  have c4 : w4.cell? ⟨w.heap.size, 4, none⟩ = some (.int .i64 us) := cell_of_row w4 w.heap.size 4 _ _ _ HG.out
  have c5 : w4.cell? ⟨w.heap.size, 5, none⟩ = some (.slice a m cap) := cell_of_row w4 w.heap.size 5 _ _ _ HG.out
  cases b1
  · have NN := Lib.hid (new_no (P := P) (ep := ep) (st := st) (sq := sq) (hd := hd) (us := us) D1.out HV.out (by omega) (by rw [HL.out]; omega) (by simp [DSt.new]) (.inr (.inr (fun h => by have := B1.out.2 h; simp at this))))
    go_wp2_with fail
    refine NN.out.mono ?_
    rintro e w5 ⟨rfl, hb5⟩
    have FIN := Lib.hid (HB.out.trans (hb5.mono HB.out.size))
    clear NN hb5 c0 c1 c2 c3 c4 c5
    go_wp2_with fail
    go_ret
    exact ⟨rfl, FIN.out⟩
  · have hR := B1.out.1 rfl
    have hRb := hR.b
    have hRc := hR.c
    obtain ⟨n, rfl⟩ : ∃ n : Nat, P = (n : Int) := ⟨P.toNat, by omega⟩
    obtain ⟨h, rfl⟩ : ∃ h : Nat, hd = (h : Int) := ⟨hd.toNat, by omega⟩
    obtain ⟨u, rfl⟩ : ∃ u : Nat, us = (u : Int) := ⟨us.toNat, by omega⟩
    have NW := new_ok (P := n) (ep := ep) (st := st) (sq := sq) (hd := h) (us := u) D1.out HV.out (by simp [DSt.new]; omega) (by omega) hep (by simp [DSt.new]) hR
    rw [HL.out] at NW
    have NW := Lib.hid NW
    have HR := Lib.hid hR
    clear hR hRb hRc
    go_wp2_with fail
    refine NW.out.mono ?_
    rintro e w5 ⟨A, o, rfl, hab, hlo, hj, hb5⟩
    subst hab
    have HJ := Lib.hid hj
    replace HG := Lib.hid ((hb5.block _ (lt_of_heap HG.out)).trans HG.out)
    replace HV := Lib.hid (HV.out.below hb5)
    replace HB := Lib.hid (HB.out.trans (hb5.mono HB.out.size))
    have ST : Calls Try.prog 18 #[.pointer (some ⟨A.J, 0, none⟩)] w5 fun e w' =>
      (∃ g, e = .returned (.agg #[.int .u32 (ep : Int), .int .u64 (st : Int), .int .u64 (sq : Int), .int .i64 (h : Int), .int .i64 (u : Int), .slice (some ⟨g, 0, none⟩) m m]) ∧ w5.heap.size ≤ g ∧ w'.heap[g]? = some (.cells (Tb.rowT m (aL l')).toArray 3 (0, 0))) ∧ Below w5.heap.size w5 w' := state_any hj
    have ST := Lib.hid ST
    clear NW hb5 hlo hj c0 c1 c2 c3 c4 c5
    go_wp2_with fail
    refine ST.out.mono ?_
    rintro e w6 ⟨⟨g6, rfl, hg6, hr6⟩, hb6⟩
    have HJ6 := Lib.hid (HJ.out.below hb6)
    replace HG := Lib.hid ((hb6.block _ (lt_of_heap HG.out)).trans HG.out)
    replace HV := Lib.hid (HV.out.below hb6)
    replace HB := Lib.hid (HB.out.trans (hb6.mono HB.out.size))
    have N6 := Lib.hid (nv_rowA (l := l') HL.out (fun p hp => by rcases HR.out.d.ins p hp with h1 | h1 <;> omega) hr6)
    clear HJ ST hg6 hr6 hb6
    go_wp2_with fail
    have HT := Lib.hid (heap_alloc_new w6 (.cells #[.int .u32 (ep : Int), .int .u64 (st : Int), .int .u64 (sq : Int), .int .i64 (h : Int), .int .i64 (u : Int), .slice (some ⟨g6, 0, none⟩) m m] 35))
    have N7 := Lib.hid (N6.out.alloc (.cells #[.int .u32 (ep : Int), .int .u64 (st : Int), .int .u64 (sq : Int), .int .i64 (h : Int), .int .i64 (u : Int), .slice (some ⟨g6, 0, none⟩) m m] 35))
    have J7 := Lib.hid (HJ6.out.below ((Below.refl _ w6).alloc (Nat.le_refl _) (.cells #[.int .u32 (ep : Int), .int .u64 (st : Int), .int .u64 (sq : Int), .int .i64 (h : Int), .int .i64 (u : Int), .slice (some ⟨g6, 0, none⟩) m m] 35)))
    replace HV := Lib.hid (HV.out.alloc (.cells #[.int .u32 (ep : Int), .int .u64 (st : Int), .int .u64 (sq : Int), .int .i64 (h : Int), .int .i64 (u : Int), .slice (some ⟨g6, 0, none⟩) m m] 35))
    replace HG := Lib.hid ((Below.heap_alloc w6 (.cells #[.int .u32 (ep : Int), .int .u64 (st : Int), .int .u64 (sq : Int), .int .i64 (h : Int), .int .i64 (u : Int), .slice (some ⟨g6, 0, none⟩) m m] 35) _ (lt_of_heap HG.out)).trans HG.out)
    replace HB := Lib.hid (HB.out.alloc HB.out.size (.cells #[.int .u32 (ep : Int), .int .u64 (st : Int), .int .u64 (sq : Int), .int .i64 (h : Int), .int .i64 (u : Int), .slice (some ⟨g6, 0, none⟩) m m] 35))
    clear N6 HJ6
    generalize hpT : w6.heap.size = pT at HT ⊢
    clear hpT
    generalize w6.alloc (.cells #[.int .u32 (ep : Int), .int .u64 (st : Int), .int .u64 (sq : Int), .int .i64 (h : Int), .int .i64 (u : Int), .slice (some ⟨g6, 0, none⟩) m m] 35) = W at HT N7 J7 HV HG HB ⊢
    have HS := Lib.hid (show ∀ V : World, Below W.heap.size W V → V.cell? ⟨w.heap.size, 0, none⟩ = some (.int .u32 (ep : Int)) ∧ V.cell? ⟨w.heap.size, 1, none⟩ = some (.int .u64 (st : Int)) ∧ V.cell? ⟨w.heap.size, 2, none⟩ = some (.int .u64 (sq : Int)) ∧ V.cell? ⟨w.heap.size, 3, none⟩ = some (.int .i64 (h : Int)) ∧ V.cell? ⟨w.heap.size, 4, none⟩ = some (.int .i64 (u : Int)) ∧ V.cell? ⟨w.heap.size, 5, none⟩ = some (.slice a m cap) ∧ V.cell? ⟨pT, 0, none⟩ = some (.int .u32 (ep : Int)) ∧ V.cell? ⟨pT, 1, none⟩ = some (.int .u64 (st : Int)) ∧ V.cell? ⟨pT, 2, none⟩ = some (.int .u64 (sq : Int)) ∧ V.cell? ⟨pT, 3, none⟩ = some (.int .i64 (h : Int)) ∧ V.cell? ⟨pT, 4, none⟩ = some (.int .i64 (u : Int)) ∧ V.cell? ⟨pT, 5, none⟩ = some (.slice (some ⟨g6, 0, none⟩) m m) from fun V hV => by
      have h1 := (hV.block _ (lt_of_heap HG.out)).trans HG.out
      have h2 := (hV.block _ (lt_of_heap HT.out)).trans HT.out
      exact ⟨cell_of_row V w.heap.size 0 _ _ _ h1, cell_of_row V w.heap.size 1 _ _ _ h1, cell_of_row V w.heap.size 2 _ _ _ h1, cell_of_row V w.heap.size 3 _ _ _ h1, cell_of_row V w.heap.size 4 _ _ _ h1, cell_of_row V w.heap.size 5 _ _ _ h1, cell_of_row V pT 0 _ _ _ h2, cell_of_row V pT 1 _ _ _ h2, cell_of_row V pT 2 _ _ _ h2, cell_of_row V pT 3 _ _ _ h2, cell_of_row V pT 4 _ _ _ h2, cell_of_row V pT 5 _ _ _ h2⟩)
    have bX : Below W.heap.size W (W.drew.alloc (.cells (refC 0 sq h u (.slice a m cap) 0) 54)) := (Below.refl _ W).drew.alloc (Nat.le_refl _) _
    have SA := same_yes (ep := ep) (st := st) (sq := sq) (hd := h) (us := u) (p := 0) (lag := 0) (N7.out.below bX) (HV.out.below bX) (heap_alloc_new W.drew (.cells (refC 0 sq h u (.slice a m cap) 0) 54)) (by rw [HL.out]; omega)
    have RM := Lib.hid (show ∀ V : World, Below W.heap.size W V → Calls Try.prog 20 #[.pointer (some ⟨A.J, 0, none⟩)] V fun e w' => e = .returned (.int .i64 ((n : Int) - u)) ∧ ∃ q, w' = V.drewN q from fun V hV => (room_any (J7.out.below hV)).mono (fun e w' h => ⟨by rw [h.1]; simp [s0], h.2⟩))
    have S0 := HS.out W (Below.refl _ W)
    have hwr : IntKind.i64.wrap ((n : Int) - u) = (n : Int) - u := by rw [IntKind.wrap_i64]; have := HR.out.b; omega
    go_region_held3 (fun V => V.cell? ⟨w.heap.size, 0, none⟩ = some (.int .u32 (ep : Int)) ∧ V.cell? ⟨w.heap.size, 1, none⟩ = some (.int .u64 (st : Int)) ∧ V.cell? ⟨w.heap.size, 2, none⟩ = some (.int .u64 (sq : Int)) ∧ V.cell? ⟨w.heap.size, 3, none⟩ = some (.int .i64 (h : Int)) ∧ V.cell? ⟨w.heap.size, 4, none⟩ = some (.int .i64 (u : Int)) ∧ V.cell? ⟨w.heap.size, 5, none⟩ = some (.slice a m cap) ∧ V.cell? ⟨pT, 0, none⟩ = some (.int .u32 (ep : Int)) ∧ V.cell? ⟨pT, 1, none⟩ = some (.int .u64 (st : Int)) ∧ V.cell? ⟨pT, 2, none⟩ = some (.int .u64 (sq : Int)) ∧ V.cell? ⟨pT, 3, none⟩ = some (.int .i64 (h : Int)) ∧ V.cell? ⟨pT, 4, none⟩ = some (.int .i64 (u : Int)) ∧ V.cell? ⟨pT, 5, none⟩ = some (.slice (some ⟨g6, 0, none⟩) m m)) (first | exact S0 | exact HS.out _ bX | exact HS.out _ (by assumption)) (first
      | (go_at_call 19; refine SA.mono ?_; rintro e w8 ⟨rfl, hb8⟩; have hB8 := bX.trans (hb8.mono bX.size); clear hb8)
      | (go_at_call 20; refine (RM.out _ hB8).mono ?_; rintro e w9 ⟨rfl, q9, rfl⟩; have hB9 := ((Touch.of_below (F := Emp) hB8).drewN q9).below))
    have FIN := Lib.hid (HB.out.trans (hB9.mono HB.out.size))
    clear HS S0 SA RM bX hB8 hB9
    go_wp2_with fail
    go_ret
    exact ⟨rfl, FIN.out⟩
end Jn
end Go.Proofs.Ytpbcjaennbgmaaa

set_option maxRecDepth 100000
namespace Go.Proofs.Ytpbcjaennbgmaaa
namespace Jn
open Go.ChangeShapes Go.WideShapes Go.ChangeAt Go.RowKit

section
variable {H : Type} {enc : TypeId × Value → H} {P : Program} {W : World}
/-- One field of a struct whose cells are numbers. -/
theorem field_num {n : Nat} {t : TypeId} {k : IntKind} {cs : List Value} {off sz : Nat} {x : Option (DataW H × List MemPlace)} (u : Value) (hu : (cs.drop off).take sz = [u]) (ht : P.underlying t = some (.int k)) (h : DataW.trod enc P W 0 (fun _ => true) true n t ((cs.drop off).take sz) = x) (hx : x.isSome = true) : ∃ z, u = .int k z ∧ (Lit.int k z).wf = true := by
  cases x with
  | none => cases hx
  | some y =>
    rw [hu] at h
    obtain ⟨z, h1, _, h3⟩ := DataW.trod_int ht h
    exact ⟨z, by simpa using h1, h3⟩
theorem field_row {n : Nat} {t e : TypeId} {k : IntKind} {cs : List Value} {off sz : Nat} {x : Option (DataW H × List MemPlace)} (u : Value) (hu : (cs.drop off).take sz = [u]) (ht : P.underlying t = some (.slice e)) (he : P.underlying e = some (.int k)) (hc : P.cellsOf e = 1) (h : DataW.trod enc P W 0 (fun _ => true) true n t ((cs.drop off).take sz) = x) (hx : x.isSome = true) : ∃ l g, NV k W u l g := by
  cases x with
  | none => cases hx
  | some y =>
    rw [hu] at h
    obtain ⟨l, g, a, cap, rfl, hnv, -⟩ := cell_nums ht he hc h
    exact ⟨l, g, hnv⟩
end
theorem nat_u32 {z : Int} (h : (Lit.int .u32 z).wf = true) : ∃ n : Nat, n < 4294967296 ∧ z = (n : Int) := by
  have h' : 0 ≤ z ∧ z ≤ 4294967295 := by simpa [Lit.wf, IntKind.min, IntKind.max, IntKind.signed, IntKind.bits] using h
  exact ⟨z.toNat, by omega, by omega⟩
theorem nat_u64 {z : Int} (h : (Lit.int .u64 z).wf = true) : ∃ n : Nat, z = (n : Int) := by
  have h' : 0 ≤ z ∧ z ≤ 18446744073709551615 := by simpa [Lit.wf, IntKind.min, IntKind.max, IntKind.signed, IntKind.bits] using h
  exact ⟨z.toNat, by omega⟩

theorem arg_state {H : Type} {enc : TypeId × Value → H} {W : World} {base : Nat} {v : Value} {d : DataW H} {p : List MemPlace} (hv : Value.okWide Try.prog W .any base 35 v) (h : DataW.Trod enc Try.prog W 0 (fun _ => true) true 35 v d p) :
    ∃ (ep st sq : Nat) (hd us : Int) (u : Value) (l : List Int) (g : Nat), v = .agg (stI ep st sq hd us u) ∧ NV .i64 W u l g ∧ ep < 4294967296 := by
  obtain ⟨cs, rfl, hsz⟩ := okWide_struct Try.underlying35 hv
  obtain ⟨fuel, hf⟩ := h
  obtain ⟨xs, n, rfl, hx, hlen, hxl, hg⟩ := DataW.trod_struct Try.underlying35 hf
  have hsz6 : cs.size = 6 := hsz.trans (by kernel_rfl)
  have hxl6 : xs.length = 6 := hxl.trans (by kernel_rfl)
  obtain ⟨l⟩ := cs
  match l, hsz6 with
  | [c0, c1, c2, c3, c4, c5], _ =>
    have g0 := hg 0 _ rfl
    obtain ⟨z0, rfl, w0⟩ := field_num c0 (by show List.take (Try.prog.cellsOf 31) _ = _; rw [show Try.prog.cellsOf 31 = 1 by kernel_rfl]; rfl) Try.underlying31 g0 (by rw [List.getElem?_eq_getElem (by omega)]; rfl)
    have g1 := hg 1 _ rfl
    obtain ⟨z1, rfl, w1⟩ := field_num c1 (by show List.take (Try.prog.cellsOf 32) _ = _; rw [show Try.prog.cellsOf 32 = 1 by kernel_rfl]; rfl) Try.underlying32 g1 (by rw [List.getElem?_eq_getElem (by omega)]; rfl)
    have g2 := hg 2 _ rfl
    obtain ⟨z2, rfl, w2⟩ := field_num c2 (by show List.take (Try.prog.cellsOf 32) _ = _; rw [show Try.prog.cellsOf 32 = 1 by kernel_rfl]; rfl) Try.underlying32 g2 (by rw [List.getElem?_eq_getElem (by omega)]; rfl)
    have g3 := hg 3 _ rfl
    obtain ⟨z3, rfl, w3⟩ := field_num c3 (by show List.take (Try.prog.cellsOf 3) _ = _; rw [show Try.prog.cellsOf 3 = 1 by kernel_rfl]; rfl) Try.underlying3 g3 (by rw [List.getElem?_eq_getElem (by omega)]; rfl)
    have g4 := hg 4 _ rfl
    obtain ⟨z4, rfl, w4⟩ := field_num c4 (by show List.take (Try.prog.cellsOf 3) _ = _; rw [show Try.prog.cellsOf 3 = 1 by kernel_rfl]; rfl) Try.underlying3 g4 (by rw [List.getElem?_eq_getElem (by omega)]; rfl)
    have g5 := hg 5 _ rfl
    obtain ⟨l5, gb, hnv⟩ := field_row (k := .i64) c5 (by show List.take (Try.prog.cellsOf 33) _ = _; rw [show Try.prog.cellsOf 33 = 1 by kernel_rfl]; rfl) Try.underlying33 Try.underlying3 (by kernel_rfl) g5 (by rw [List.getElem?_eq_getElem (by omega)]; rfl)
    obtain ⟨n0, b0, rfl⟩ := nat_u32 w0
    obtain ⟨n1, rfl⟩ := nat_u64 w1
    obtain ⟨n2, rfl⟩ := nat_u64 w2
    exact ⟨n0, n1, n2, z3, z4, c5, l5, gb, rfl, hnv, b0⟩
end Jn
end Go.Proofs.Ytpbcjaennbgmaaa

