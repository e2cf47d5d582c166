/- 'does': a step, and what it answers. -/
import Derived.Test.YtmedpmhiebcdjaaDoorSho
import Derived.Test.YtmedpmhiebcdjaaDoorErr
import Derived.Deep.RegionLaw
import Derived.BigQuiet
import Derived.Deep.QuietTactic
import Derived.Deep.CutBlock
import Derived.Deep.DeepCutAuto
namespace Go.Proofs.YtmedpmhiebcdjaaDoor
open Go.RowKit

def DSt.does (s : DSt) (kind at_ data : Int) (keep : List Int) : DSt :=
  if kind = 1 then s.read at_ else if kind = 2 then s.read at_ else if kind = 3 then s.write at_ (sectorL data) else if kind = 4 then s.write at_ (sectorL data) else if kind = 5 then s.flush
  else if kind = 6 then s.crash keep else if kind = 7 then s.arm at_ keep else if kind = 8 then s.start else s
def DSt.told (s : DSt) (kind at_ data : Int) : Int × List UInt8 :=
  if kind = 1 then s.readR at_ else if kind = 2 then s.readR at_ else if kind = 3 then (s.writeErr at_ (sectorL data), []) else if kind = 4 then (s.writeErr at_ (sectorL data), []) else if kind = 5 then (s.err, [])
  else if kind = 6 then (0, []) else if kind = 7 then (0, []) else if kind = 8 then (s.startErr, []) else (0, [])
def ErrNo (n : Int) : Prop := n = 0 ∨ n = 1 ∨ n = 2 ∨ n = 3 ∨ n = 12
theorem err_no (s : DSt) : ErrNo s.err := by unfold DSt.err ErrNo; split <;> omega
theorem look_no (s : DSt) (k : Nat) : ErrNo (s.look k).1 := by unfold DSt.look ErrNo; split <;> (try split) <;> simp
theorem readR_no (s : DSt) (a : Int) : ErrNo (s.readR a).1 := by
  unfold DSt.readR
  split
  · exact .inr (.inl rfl)
  · split
    · exact look_no _ _
    · exact err_no s
theorem writeErr_no (s : DSt) (a : Int) (l : List UInt8) : ErrNo (s.writeErr a l) := by
  unfold DSt.writeErr
  split
  · exact .inr (.inl rfl)
  · exact err_no s
theorem startErr_no (s : DSt) : ErrNo s.startErr := by unfold DSt.startErr ErrNo; split <;> omega

def tellS (x : Int × List UInt8) : ByteArray := ⟨x.2.toArray⟩ ++ errS x.1

theorem errS_size (n : Int) : (errS n).size ≤ 8 := by unfold errS; split <;> (try split) <;> (try split) <;> (try split) <;> decide
theorem tell_eq {s : DSt} {kind at_ data n : Int} {l : List UInt8} {S1 : ByteArray} (h : s.told kind at_ data = (n, l)) (hS : S1 = ⟨l.toArray⟩) : Ending.returned (Value.string (S1 ++ errS n)) = Ending.returned (Value.string (tellS (s.told kind at_ data))) := by
  rw [h, hS]; rfl
theorem reads_empty {w : World} {a : Option Addr} {c : Nat} : Reads w (.slice a 0 c) [] 0 := ⟨0, c, .inr ⟨⟨a, rfl⟩, rfl⟩⟩
theorem IReads.keep {w w' : World} {v : Value} {K : List Int} {g : Nat} {X : Nat → Prop} (h : IReads w v K g) (hk : Keep X w w') (hg : K ≠ [] → X g) : IReads w' v K g := by
  by_cases h0 : K = []
  · subst h0
    obtain ⟨off, cap, ⟨rfl, _⟩ | ⟨ha, _⟩⟩ := h
    · exact ⟨off, cap, .inr ⟨⟨_, rfl⟩, rfl⟩⟩
    · exact ⟨off, cap, .inr ⟨ha, rfl⟩⟩
  · exact h.touch hk fun hc => hc (hg h0)
theorem does_else (s : DSt) {kind : Int} (at_ data : Int) (keep : List Int) (k1 : (kind == 1) = false) (k2 : (kind == 2) = false) (k3 : (kind == 3) = false) (k4 : (kind == 4) = false) (k5 : (kind == 5) = false) (k6 : (kind == 6) = false) (k7 : (kind == 7) = false) (k8 : (kind == 8) = false) :
    s.does kind at_ data keep = s ∧ s.told kind at_ data = (0, []) := by
  simp only [beq_eq_false_iff_ne, ne_eq] at *
  unfold DSt.does DSt.told
  simp only [if_neg k1, if_neg k2, if_neg k3, if_neg k4, if_neg k5, if_neg k6, if_neg k7, if_neg k8]
  exact ⟨trivial, trivial⟩
theorem err_q (n : Int) (w : World) (hn : ErrNo n) : Calls Tryd.prog 18 #[.int .i64 n] w fun e w' => e = .returned (.string (errS n)) ∧ w' = w :=
  (err_any n w hn).mono fun _ _ h => ⟨h.1, h.2.symm⟩
theorem conv_q {w : World} {v : Value} {l : List UInt8} {g : Nat} (h : Reads w v l g) (n : Nat) : (convert 38 9 v).run Tryd.prog (w.drewN n) = .ok (.string ⟨l.toArray⟩) (w.drewN n) :=
  run_convBytes (h.touch ((Touch.refl Emp w).drewN n) id)

set_option maxRecDepth 100000 in
set_option maxHeartbeats 4000000 in
theorem does_any {X : Nat → Prop} {w : World} {b : Nat} {s : DSt} (h : Has w b s X) (hf : s.Fit) (kind at_ data size : Int) (odd : Bool) (kv : Value) (keep : List Int) (g : Nat) (hk : IReads w kv keep g) (hg : keep ≠ [] → X g)
    (hl : keep.length * 8 ≤ 140737488351232) (hat : at_ ≤ 9223372036854775807) :
    Calls Tryd.prog 6 #[.pointer (some ⟨b, 0, none⟩), .agg #[.int .i64 kind, .int .i64 at_, .int .i64 data, .int .i64 size, .bool odd, kv]] w fun e w' =>
      e = .returned (.string (tellS (s.told kind at_ data))) ∧ Keep X w w' ∧ Has w' b (s.does kind at_ data keep) X := by
  have h9 : kind = 1 ∨ kind = 2 ∨ kind = 3 ∨ kind = 4 ∨ kind = 5 ∨ kind = 6 ∨ kind = 7 ∨ kind = 8 ∨ ((kind == 1) = false ∧ (kind == 2) = false ∧ (kind == 3) = false ∧ (kind == 4) = false ∧ (kind == 5) = false ∧ (kind == 6) = false ∧ (kind == 7) = false ∧ (kind == 8) = false) := by
    simp only [beq_eq_false_iff_ne, ne_eq]; omega
  have HF := Lib.hid hf
  have HK := Lib.hid hk
  have HG := Lib.hid hg
  have HL := Lib.hid hl
  have HAT := Lib.hid hat
  obtain ⟨o, ho⟩ : ∃ o : Obj, o = .cells #[.int .i64 kind, .int .i64 at_, .int .i64 data, .int .i64 size, .bool odd, kv] 31 := ⟨_, rfl⟩
  have H3 : Hid (Has ((((w.alloc o).alloc (.cells #[] 5)).alloc (.cells (rowA (sectorL data)) 5)).drew) b s (Or1 X (w.heap.size + 2))) := Lib.hid (by
    refine ((((h.alloc o).alloc (.cells #[] 5)).alloc (.cells (rowA (sectorL data)) 5)).mono ?_).own (Touch.refl Emp _ |>.drew) fun _ _ h => h.elim
    rintro k (hk | rfl)
    · exact .inl (.inl (.inl hk))
    · exact .inr (by simp))
  have R3 : Hid (Reads ((((w.alloc o).alloc (.cells #[] 5)).alloc (.cells (rowA (sectorL data)) 5)).drew) (.slice (some ⟨w.heap.size + 2, 0, none⟩) 512 512) (sectorL data) (w.heap.size + 2)) := Lib.hid (by
    have h := (sec_reads ((w.alloc o).alloc (.cells #[] 5)) data).touch (Touch.refl Emp _ |>.drew) id
    simpa using h)
  rw [ho] at H3 R3
  have HI := Lib.hid h
  clear h hf hk hg hl hat ho
  rcases h9 with rfl | rfl | rfl | rfl | rfl | rfl | rfl | rfl | ⟨k1, k2, k3, k4, k5, k6, k7, k8⟩
  · go_enter Tryd.func6, Tryd.ntmps6
    go_wp2_with fail
    refine (read_hasL (((HI.out.alloc _).alloc _).mono fun k hk => .inl (.inl hk)) HF.out at_).mono ?_
    rintro e w1 ⟨v, rfl, hkp, hq, hl5, gv, hr, -⟩
    have HNO := Lib.hid (readR_no s at_)
    generalize hrr : s.readR at_ = rr at hr HNO hl5 ⊢
    have hcv := conv_q hr
    obtain ⟨S1, hS1⟩ : ∃ S1 : ByteArray, S1 = ⟨rr.2.toArray⟩ := ⟨_, rfl⟩
    have hz1 : S1.size ≤ 512 := by rw [hS1]; exact hl5
    have hz2 := errS_size rr.1
    rw [← hS1] at hcv
    have HS := Lib.hid hS1
    have HRR := Lib.hid hrr
    have HKP := Lib.hid (((Keep.refl X w).alloc _ |>.alloc _).trans hkp)
    have HQ := Lib.hid hq
    clear hkp hq hr hrr hS1 hl5
    go_wp2_with fail
    go_quiet ((go_at_call 18; exact Calls.quiet_of_same (err_q _ _ HNO.out)))
    go_wp2
    go_ret
    exact ⟨tell_eq (show s.readR at_ = (rr.1, rr.2) from HRR.out) HS.out, HKP.out.trans (Touch.refl _ _ |>.drewN _), HQ.out.own (Touch.refl Emp _ |>.drewN _) fun _ _ h => h.elim⟩
  · go_enter Tryd.func6, Tryd.ntmps6
    go_wp2_with fail
    refine (read_hasL (((HI.out.alloc _).alloc _).mono fun k hk => .inl (.inl hk)) HF.out at_).mono ?_
    rintro e w1 ⟨v, rfl, hkp, hq, hl5, gv, hr, -⟩
    have HNO := Lib.hid (readR_no s at_)
    generalize hrr : s.readR at_ = rr at hr HNO hl5 ⊢
    have hcv := conv_q hr
    obtain ⟨S1, hS1⟩ : ∃ S1 : ByteArray, S1 = ⟨rr.2.toArray⟩ := ⟨_, rfl⟩
    have hz1 : S1.size ≤ 512 := by rw [hS1]; exact hl5
    have hz2 := errS_size rr.1
    rw [← hS1] at hcv
    have HS := Lib.hid hS1
    have HRR := Lib.hid hrr
    have HKP := Lib.hid (((Keep.refl X w).alloc _ |>.alloc _).trans hkp)
    have HQ := Lib.hid hq
    clear hkp hq hr hrr hS1 hl5
    go_wp2_with fail
    go_quiet ((go_at_call 18; exact Calls.quiet_of_same (err_q _ _ HNO.out)))
    go_wp2
    go_ret
    exact ⟨tell_eq (show s.readR at_ = (rr.1, rr.2) from HRR.out) HS.out, HKP.out.trans (Touch.refl _ _ |>.drewN _), HQ.out.own (Touch.refl Emp _ |>.drewN _) fun _ _ h => h.elim⟩
  · go_enter Tryd.func6, Tryd.ntmps6
    go_wp2_with fail
    go_region_law (first | (go_simp; go_at_call 11; refine (sector_any _ _).mono ?_; rintro e w4 ⟨rfl, rfl⟩) | (go_simp; go_at_call 10; refine (write_has H3.out HF.out at_ _ (sectorL data) (w.heap.size + 2) R3.out fun _ => .inr rfl).mono ?_; rintro e w1 ⟨rfl, hkp, hq⟩))
    all_goals
      have HNO := Lib.hid (writeErr_no s at_ (sectorL data))
      have HKP := Lib.hid ((((Keep.refl X w).alloc _ |>.alloc _).alloc _).drew.trans (hkp.mono fun k hk => .inl hk))
      have HQ := Lib.hid (hq.mono (Y := X) fun k hk => .inl hk)
      clear hkp hq
      generalize hee : s.writeErr at_ (sectorL data) = ee at HNO ⊢
      have HEE := Lib.hid hee
      clear hee
      have hcv := conv_q (w := w1) (reads_empty (a := some ⟨w.heap.size + 1, 0, none⟩) (c := 0))
      obtain ⟨S1, hS1⟩ : ∃ S1 : ByteArray, S1 = ⟨([] : List UInt8).toArray⟩ := ⟨_, rfl⟩
      have hz1 : S1.size ≤ 512 := by rw [hS1]; decide
      have hz2 := errS_size ee
      have hz3 : ¬ 9223372036854775807 < S1.size + (errS ee).size := by omega
      rw [← hS1] at hcv
      have HS := Lib.hid hS1
      clear hS1
      go_wp2_with fail
      go_quiet ((go_at_call 18; exact Calls.quiet_of_same (err_q _ _ HNO.out)))
      go_wp2
      go_ret
      refine ⟨by first | exact tell_eq (show (s.writeErr at_ (sectorL data), _) = (ee, []) by rw [HEE.out]) HS.out | exact tell_eq (l := []) (S1 := ⟨#[]⟩) (show (s.writeErr at_ (sectorL data), _) = (ee, []) by rw [HEE.out]) rfl, HKP.out.trans (Touch.refl _ _ |>.drewN _), HQ.out.own (Touch.refl Emp _ |>.drewN _) fun _ _ h => h.elim⟩
  · go_enter Tryd.func6, Tryd.ntmps6
    go_wp2_with fail
    go_region_law (first | (go_simp; go_at_call 11; refine (sector_any _ _).mono ?_; rintro e w4 ⟨rfl, rfl⟩) | (go_simp; go_at_call 10; refine (write_has H3.out HF.out at_ _ (sectorL data) (w.heap.size + 2) R3.out fun _ => .inr rfl).mono ?_; rintro e w1 ⟨rfl, hkp, hq⟩))
    all_goals
      have HNO := Lib.hid (writeErr_no s at_ (sectorL data))
      have HKP := Lib.hid ((((Keep.refl X w).alloc _ |>.alloc _).alloc _).drew.trans (hkp.mono fun k hk => .inl hk))
      have HQ := Lib.hid (hq.mono (Y := X) fun k hk => .inl hk)
      clear hkp hq
      generalize hee : s.writeErr at_ (sectorL data) = ee at HNO ⊢
      have HEE := Lib.hid hee
      clear hee
      have hcv := conv_q (w := w1) (reads_empty (a := some ⟨w.heap.size + 1, 0, none⟩) (c := 0))
      obtain ⟨S1, hS1⟩ : ∃ S1 : ByteArray, S1 = ⟨([] : List UInt8).toArray⟩ := ⟨_, rfl⟩
      have hz1 : S1.size ≤ 512 := by rw [hS1]; decide
      have hz2 := errS_size ee
      have hz3 : ¬ 9223372036854775807 < S1.size + (errS ee).size := by omega
      rw [← hS1] at hcv
      have HS := Lib.hid hS1
      clear hS1
      go_wp2_with fail
      go_quiet ((go_at_call 18; exact Calls.quiet_of_same (err_q _ _ HNO.out)))
      go_wp2
      go_ret
      refine ⟨by first | exact tell_eq (show (s.writeErr at_ (sectorL data), _) = (ee, []) by rw [HEE.out]) HS.out | exact tell_eq (l := []) (S1 := ⟨#[]⟩) (show (s.writeErr at_ (sectorL data), _) = (ee, []) by rw [HEE.out]) rfl, HKP.out.trans (Touch.refl _ _ |>.drewN _), HQ.out.own (Touch.refl Emp _ |>.drewN _) fun _ _ h => h.elim⟩
  · go_enter Tryd.func6, Tryd.ntmps6
    go_wp2_with fail
    refine (flush_has (((HI.out.alloc _).alloc _).mono fun k hk => .inl (.inl hk)) HF.out).mono ?_
    rintro e w1 ⟨rfl, hkp, hq⟩
    have HNO := Lib.hid (err_no s)
    have HKP := Lib.hid (((Keep.refl X w).alloc _ |>.alloc _).trans hkp)
    have HQ := Lib.hid hq
    clear hkp hq
    generalize hee : s.err = ee at HNO ⊢
    have HEE := Lib.hid hee
    clear hee
    have hcv := conv_q (w := w1) (reads_empty (a := some ⟨w.heap.size + 1, 0, none⟩) (c := 0))
    obtain ⟨S1, hS1⟩ : ∃ S1 : ByteArray, S1 = ⟨([] : List UInt8).toArray⟩ := ⟨_, rfl⟩
    have hz1 : S1.size ≤ 512 := by rw [hS1]; decide
    have hz2 := errS_size ee
    have hz3 : ¬ 9223372036854775807 < S1.size + (errS ee).size := by omega
    rw [← hS1] at hcv
    have HS := Lib.hid hS1
    clear hS1
    go_wp2_with fail
    go_quiet ((go_at_call 18; exact Calls.quiet_of_same (err_q _ _ HNO.out)))
    go_wp2
    go_ret
    refine ⟨by first | exact tell_eq (show (s.err, _) = (ee, []) by rw [HEE.out]) HS.out | exact tell_eq (l := []) (S1 := ⟨#[]⟩) (show (s.err, _) = (ee, []) by rw [HEE.out]) rfl, HKP.out.trans (Touch.refl _ _ |>.drewN _), HQ.out.own (Touch.refl Emp _ |>.drewN _) fun _ _ h => h.elim⟩
  · go_enter Tryd.func6, Tryd.ntmps6
    go_wp2_with fail
    refine (crash_has (((HI.out.alloc _).alloc _).mono fun k hk => .inl (.inl hk)) (Nat.lt_trans HF.out.1 (by omega)) kv keep g (HK.out.keep (((Keep.refl X w).alloc _).alloc _) HG.out) HG.out).mono ?_
    rintro e w1 ⟨rfl, hkp, hq⟩
    have HNO := Lib.hid ((show ErrNo 0 from .inl rfl))
    have HKP := Lib.hid (((Keep.refl X w).alloc _ |>.alloc _).trans hkp)
    have HQ := Lib.hid hq
    clear hkp hq
    have hcv := conv_q (w := w1) (reads_empty (a := some ⟨w.heap.size + 1, 0, none⟩) (c := 0))
    obtain ⟨S1, hS1⟩ : ∃ S1 : ByteArray, S1 = ⟨([] : List UInt8).toArray⟩ := ⟨_, rfl⟩
    have hz1 : S1.size ≤ 512 := by rw [hS1]; decide
    have hz2 := errS_size 0
    have hz3 : ¬ 9223372036854775807 < S1.size + (errS 0).size := by omega
    rw [← hS1] at hcv
    have HS := Lib.hid hS1
    clear hS1
    go_wp2_with fail
    go_quiet ((go_at_call 18; exact Calls.quiet_of_same (err_q _ _ HNO.out)))
    go_wp2
    go_ret
    refine ⟨by first | exact tell_eq rfl HS.out | exact tell_eq (l := []) (S1 := ⟨#[]⟩) rfl rfl, HKP.out.trans (Touch.refl _ _ |>.drewN _), HQ.out.own (Touch.refl Emp _ |>.drewN _) fun _ _ h => h.elim⟩
  · go_enter Tryd.func6, Tryd.ntmps6
    go_wp2_with fail
    refine (arm_has (((HI.out.alloc _).alloc _).mono fun k hk => .inl (.inl hk)) at_ HAT.out kv keep g (HK.out.keep (((Keep.refl X w).alloc _).alloc _) HG.out) HG.out HL.out).mono ?_
    rintro e w1 ⟨rfl, hkp, hq⟩
    have HNO := Lib.hid ((show ErrNo 0 from .inl rfl))
    have HKP := Lib.hid (((Keep.refl X w).alloc _ |>.alloc _).trans hkp)
    have HQ := Lib.hid hq
    clear hkp hq
    have hcv := conv_q (w := w1) (reads_empty (a := some ⟨w.heap.size + 1, 0, none⟩) (c := 0))
    obtain ⟨S1, hS1⟩ : ∃ S1 : ByteArray, S1 = ⟨([] : List UInt8).toArray⟩ := ⟨_, rfl⟩
    have hz1 : S1.size ≤ 512 := by rw [hS1]; decide
    have hz2 := errS_size 0
    have hz3 : ¬ 9223372036854775807 < S1.size + (errS 0).size := by omega
    rw [← hS1] at hcv
    have HS := Lib.hid hS1
    clear hS1
    go_wp2_with fail
    go_quiet ((go_at_call 18; exact Calls.quiet_of_same (err_q _ _ HNO.out)))
    go_wp2
    go_ret
    refine ⟨by first | exact tell_eq rfl HS.out | exact tell_eq (l := []) (S1 := ⟨#[]⟩) rfl rfl, HKP.out.trans (Touch.refl _ _ |>.drewN _), HQ.out.own (Touch.refl Emp _ |>.drewN _) fun _ _ h => h.elim⟩
  · go_enter Tryd.func6, Tryd.ntmps6
    go_wp2_with fail
    refine (start_has (((HI.out.alloc _).alloc _).mono fun k hk => .inl (.inl hk))).mono ?_
    rintro e w1 ⟨rfl, hkp, hq⟩
    have HNO := Lib.hid (startErr_no s)
    have HKP := Lib.hid (((Keep.refl X w).alloc _ |>.alloc _).trans hkp)
    have HQ := Lib.hid hq
    clear hkp hq
    generalize hee : s.startErr = ee at HNO ⊢
    have HEE := Lib.hid hee
    clear hee
    have hcv := conv_q (w := w1) (reads_empty (a := some ⟨w.heap.size + 1, 0, none⟩) (c := 0))
    obtain ⟨S1, hS1⟩ : ∃ S1 : ByteArray, S1 = ⟨([] : List UInt8).toArray⟩ := ⟨_, rfl⟩
    have hz1 : S1.size ≤ 512 := by rw [hS1]; decide
    have hz2 := errS_size ee
    have hz3 : ¬ 9223372036854775807 < S1.size + (errS ee).size := by omega
    rw [← hS1] at hcv
    have HS := Lib.hid hS1
    clear hS1
    go_wp2_with fail
    go_quiet ((go_at_call 18; exact Calls.quiet_of_same (err_q _ _ HNO.out)))
    go_wp2
    go_ret
    refine ⟨by first | exact tell_eq (show (s.startErr, _) = (ee, []) by rw [HEE.out]) HS.out | exact tell_eq (l := []) (S1 := ⟨#[]⟩) (show (s.startErr, _) = (ee, []) by rw [HEE.out]) rfl, HKP.out.trans (Touch.refl _ _ |>.drewN _), HQ.out.own (Touch.refl Emp _ |>.drewN _) fun _ _ h => h.elim⟩
  · go_enter Tryd.func6, Tryd.ntmps6
    go_wp2_with fail
    obtain ⟨w1, hw1⟩ : ∃ w1, w1 = (w.alloc (.cells #[.int .i64 kind, .int .i64 at_, .int .i64 data, .int .i64 size, .bool odd, kv] 31)).alloc (.cells #[] 5) := ⟨_, rfl⟩
    have HNO := Lib.hid (show ErrNo 0 from .inl rfl)
    have HKP : Hid (Keep X w w1) := Lib.hid (by rw [hw1]; exact ((Keep.refl X w).alloc _).alloc _)
    have HQ : Hid (Has w1 b (s.does kind at_ data keep) X) := Lib.hid (by rw [hw1, (does_else s at_ data keep k1 k2 k3 k4 k5 k6 k7 k8).1]; exact ((HI.out.alloc _).alloc _).mono fun k hk => .inl (.inl hk))
    have HTO := Lib.hid (does_else s at_ data keep k1 k2 k3 k4 k5 k6 k7 k8).2
    rw [← hw1]
    clear hw1 k1 k2 k3 k4 k5 k6 k7 k8
    have hcv := conv_q (w := w1) (reads_empty (a := some ⟨w.heap.size + 1, 0, none⟩) (c := 0))
    obtain ⟨S1, hS1⟩ : ∃ S1 : ByteArray, S1 = ⟨([] : List UInt8).toArray⟩ := ⟨_, rfl⟩
    have hz1 : S1.size ≤ 512 := by rw [hS1]; decide
    have hz2 := errS_size 0
    have hz3 : ¬ 9223372036854775807 < S1.size + (errS 0).size := by omega
    rw [← hS1] at hcv
    have HS := Lib.hid hS1
    clear hS1
    go_wp2_with fail
    go_quiet ((go_at_call 18; exact Calls.quiet_of_same (err_q _ _ HNO.out)))
    go_wp2
    go_ret
    refine ⟨by first | exact tell_eq HTO.out HS.out | exact tell_eq (l := []) (S1 := ⟨#[]⟩) HTO.out rfl, HKP.out.trans (Touch.refl _ _ |>.drewN _), HQ.out.own (Touch.refl Emp _ |>.drewN _) fun _ _ h => h.elim⟩

end Go.Proofs.YtmedpmhiebcdjaaDoor
