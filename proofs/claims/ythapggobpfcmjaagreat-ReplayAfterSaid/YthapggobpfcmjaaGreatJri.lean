/- journal.Right. No condition. -/
import Derived.Test.YthapggobpfcmjaaGreatJap
import Derived.Deep.CutBlock
set_option maxRecDepth 100000
namespace Go.Proofs.YthapggobpfcmjaaGreat
namespace Jn
open Go.RowKit

structure RightF (P ep st sq hd us : Int) (l : List Int) : Prop where
  a : 1 ≤ ep ∧ sq ≤ 281474976710655 ∧ 1 ≤ st ∧ st ≤ sq + 1
  b : 0 ≤ hd ∧ hd < P ∧ 0 ≤ us ∧ us ≤ P
  c : 1 ≤ l.length ∧ l.length ≤ 3840
  d : ApF P hd us l

/-- A bool that tells p. -/
def RetB (e : Ending) (p : Prop) : Prop := ∃ b, e = .returned (.bool b) ∧ (b = true ↔ p)

set_option maxHeartbeats 4000000 in
theorem right_any {w : World} {P ep st sq hd us : Int} {v : Value} {l : List Int} {g : Nat} (hv : NV .i64 w v l g) (h2 : P ≤ 4611686018427387904) (hs : 0 ≤ sq) (hlen : l.length ≤ 4611686018427387904) :
    Calls Tryz.prog 20 #[.int .i64 P, .agg (stI ep st sq hd us v)] w fun e w' => RetB e (RightF P ep st sq hd us l) ∧ Below w.heap.size w w' := by
  have HV := Lib.hid hv
  obtain ⟨a, cap, rfl, -⟩ := hv.form
  clear hv
  go_enter Tryz.func20, Tryz.ntmps20
  go_upto_region 1 with fail
  go_cut [5] from 8 to 28 (fun c wx => ∃ b, c = .bool b ∧ (b = true ↔ 1 ≤ ep ∧ sq ≤ 281474976710655 ∧ 1 ≤ st ∧ st ≤ sq + 1) ∧ w.alloc (.cells (stI ep st sq hd us (.slice a l.length cap)) 35) = wx)
  case first =>
    by_cases k1 : ep ≥ 1
    · have d1 : decide (ep ≥ 1) = true := decide_eq_true k1
      by_cases k2 : sq ≤ 281474976710655
      · have d2 : decide (sq ≤ 281474976710655) = true := decide_eq_true k2
        by_cases k3 : st ≥ 1
        · have d3 : decide (st ≥ 1) = true := decide_eq_true k3
          by_cases k4 : st ≤ sq + 1
          · have d4 : decide (st ≤ sq + 1) = true := decide_eq_true k4
            go_wp2_with fail
            all_goals go_meet
            all_goals exact ⟨_, rfl, by simp; omega, rfl⟩
          · have d4 : decide (st ≤ sq + 1) = false := decide_eq_false k4
            go_wp2_with fail
            all_goals go_meet
            all_goals exact ⟨_, rfl, by simp; omega, rfl⟩
        · have d3 : decide (st ≥ 1) = false := decide_eq_false k3
          go_wp2_with fail
          all_goals go_meet
          all_goals exact ⟨_, rfl, by simp; omega, rfl⟩
      · have d2 : decide (sq ≤ 281474976710655) = false := decide_eq_false k2
        go_wp2_with fail
        all_goals go_meet
        all_goals exact ⟨_, rfl, by simp; omega, rfl⟩
    · have d1 : decide (ep ≥ 1) = false := decide_eq_false k1
      go_wp2_with fail
      all_goals go_meet
      all_goals exact ⟨_, rfl, by simp; omega, rfl⟩
  case rest =>
  obtain ⟨b5, rfl, hb5, rfl⟩ := hcut
  have HB5 := Lib.hid hb5
  clear hb5
  have HB := Lib.hid ((Below.refl w.heap.size w).alloc (Nat.le_refl _) (.cells (stI ep st sq hd us (.slice a l.length cap)) 35))
  have HG := Lib.hid (heap_alloc_new w (.cells (stI ep st sq hd us (.slice a l.length cap)) 35))
  have hba := HB.out
  generalize w.alloc (.cells (stI ep st sq hd us (.slice a l.length cap)) 35) = W at HB HG hba ⊢
  have c0 : W.cell? ⟨w.heap.size, 3, none⟩ = some (.int .i64 hd) := cell_of_row W w.heap.size 3 _ _ _ HG.out
  have c4 : W.cell? ⟨w.heap.size, 4, none⟩ = some (.int .i64 us) := cell_of_row W w.heap.size 4 _ _ _ HG.out
  have c5 : W.cell? ⟨w.heap.size, 5, none⟩ = some (.slice a l.length cap) := cell_of_row W w.heap.size 5 _ _ _ HG.out
  clear hba
  go_upto_region 2 with fail
  go_cut [6] from 29 to 48 (fun c wx => ∃ b, c = .bool b ∧ (b = true ↔ 0 ≤ hd ∧ hd < P ∧ 0 ≤ us ∧ us ≤ P) ∧ W = wx)
  case first =>
    by_cases k1 : hd ≥ 0
    · have d1 : decide (hd ≥ 0) = true := decide_eq_true k1
      by_cases k2 : hd < P
      · have d2 : decide (hd < P) = true := decide_eq_true k2
        by_cases k3 : us ≥ 0
        · have d3 : decide (us ≥ 0) = true := decide_eq_true k3
          by_cases k4 : us ≤ P
          · have d4 : decide (us ≤ P) = true := decide_eq_true k4
            go_wp2_with fail
            all_goals go_meet
            all_goals exact ⟨_, rfl, by simp; omega, rfl⟩
          · have d4 : decide (us ≤ P) = false := decide_eq_false k4
            go_wp2_with fail
            all_goals go_meet
            all_goals exact ⟨_, rfl, by simp; omega, rfl⟩
        · have d3 : decide (us ≥ 0) = false := decide_eq_false k3
          go_wp2_with fail
          all_goals go_meet
          all_goals exact ⟨_, rfl, by simp; omega, rfl⟩
      · have d2 : decide (hd < P) = false := decide_eq_false k2
        go_wp2_with fail
        all_goals go_meet
        all_goals exact ⟨_, rfl, by simp; omega, rfl⟩
    · have d1 : decide (hd ≥ 0) = false := decide_eq_false k1
      go_wp2_with fail
      all_goals go_meet
      all_goals exact ⟨_, rfl, by simp; omega, rfl⟩
  case rest =>
  obtain ⟨b6, rfl, hb6, rfl⟩ := hcut
  have HB6 := Lib.hid hb6
  clear hb6
  go_upto_region 3 with fail
  go_cut [7] from 49 to 58 (fun c wx => ∃ b, c = .bool b ∧ (b = true ↔ 1 ≤ l.length ∧ l.length ≤ 3840) ∧ W = wx)
  case first =>
    by_cases k1 : (l.length : Int) ≥ 1
    · have d1 : decide ((l.length : Int) ≥ 1) = true := decide_eq_true k1
      by_cases k2 : (l.length : Int) ≤ 3840
      · have d2 : decide ((l.length : Int) ≤ 3840) = true := decide_eq_true k2
        go_wp2_with fail
        all_goals go_meet
        all_goals exact ⟨_, rfl, by simp; omega, rfl⟩
      · have d2 : decide ((l.length : Int) ≤ 3840) = false := decide_eq_false k2
        go_wp2_with fail
        all_goals go_meet
        all_goals exact ⟨_, rfl, by simp; omega, rfl⟩
    · have d1 : decide ((l.length : Int) ≥ 1) = false := decide_eq_false k1
      go_wp2_with fail
      all_goals go_meet
      all_goals exact ⟨_, rfl, by simp; omega, rfl⟩
  case rest =>
  obtain ⟨b7, rfl, hb7, rfl⟩ := hcut
  have HB7 := Lib.hid hb7
  clear hb7
  cases b5
  · have HN := Lib.hid (show ¬ RightF P ep st sq hd us l from fun hf => by have := HB5.out.2 hf.a; simp at this)
    go_wp2_with fail
    go_ret
    exact ⟨⟨false, rfl, by simp [HN.out]⟩, HB.out⟩
  cases b6
  · have HN := Lib.hid (show ¬ RightF P ep st sq hd us l from fun hf => by have := HB6.out.2 hf.b; simp at this)
    go_wp2_with fail
    go_ret
    exact ⟨⟨false, rfl, by simp [HN.out]⟩, HB.out⟩
  cases b7
  · have HN := Lib.hid (show ¬ RightF P ep st sq hd us l from fun hf => by have := HB7.out.2 hf.c; simp at this)
    go_wp2_with fail
    go_ret
    exact ⟨⟨false, rfl, by simp [HN.out]⟩, HB.out⟩
  have q2 := HB6.out.1 rfl
  have q3 := HB7.out.1 rfl
  have AP := Lib.hid (apart_any (ep := ep) (st := st) (sq := sq) (us := us) (HV.out.below HB.out) q2.1 q2.2.1 h2 (by omega))
  have e0 : W.cell? ⟨w.heap.size, 0, none⟩ = some (.int .u32 ep) := cell_of_row W w.heap.size 0 _ _ _ HG.out
  have e1 : W.cell? ⟨w.heap.size, 1, none⟩ = some (.int .u64 st) := cell_of_row W w.heap.size 1 _ _ _ HG.out
  have e2 : W.cell? ⟨w.heap.size, 2, none⟩ = some (.int .u64 sq) := cell_of_row W w.heap.size 2 _ _ _ HG.out
  clear q2 q3
  go_wp2_with fail
  refine AP.out.mono ?_
  rintro e w' ⟨⟨b, rfl, hb⟩, hb2⟩
  have HBB := Lib.hid hb
  have HB2 := Lib.hid hb2
  clear hb hb2 AP
  go_wp2_with fail
  go_ret
  refine ⟨⟨b, rfl, HBB.out.trans ⟨fun h => ⟨HB5.out.1 trivial, HB6.out.1 trivial, HB7.out.1 trivial, h⟩, fun h => h.d⟩⟩, HB.out.trans (HB2.out.mono HB.out.size)⟩

end Jn
end Go.Proofs.YthapggobpfcmjaaGreat
