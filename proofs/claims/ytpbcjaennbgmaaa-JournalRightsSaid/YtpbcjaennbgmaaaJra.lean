/- Where New refuses; the document's own Place, and which places are taken (mathematics): no condition. -/
import Derived.Test.YtpbcjaennbgmaaaJhs
set_option maxRecDepth 100000
namespace Go.Proofs.Ytpbcjaennbgmaaa
namespace Jn
open Go.RowKit

set_option maxHeartbeats 4000000 in
theorem new_no {w : World} {F : Nat → Prop} {b : Nat} {ds : DSt} {P ep st sq hd us : Int} {v : Value} {l : List Int} {g : Nat} (hD : DevF w F b ds) (hv : NV .i64 w v l g) (hs : 0 ≤ sq) (hlen : l.length ≤ 4611686018427387904) (hsm : ds.secs.length ≤ 20000)
    (hno : P < 1 ∨ P > (ds.secs.length : Int) - 1 ∨ ¬ RightF P ep st sq hd us l) :
    Calls Try.prog 10 #[.pointer (some ⟨b, 0, none⟩), .int .i64 P, .agg (stI ep st sq hd us v)] w fun e w' => e = .returned (.tuple #[.pointer none, .int .i64 1]) ∧ Below w.heap.size w w' := by
  have HV := Lib.hid hv
  have HD := Lib.hid hD
  have HR := Lib.hid hno
  obtain ⟨a, cap, rfl, -⟩ := hv.form
  clear hv hD hno
  have HB := Lib.hid ((Below.refl w.heap.size w).alloc (Nat.le_refl _) (.cells (stI ep st sq hd us (.slice a l.length cap)) 35))
  have HG := Lib.hid (heap_alloc_new w (.cells (stI ep st sq hd us (.slice a l.length cap)) 35))
  by_cases h1 : P < 1
  · have hd1 : decide (P < 1) = true := decide_eq_true h1
    go_enter Try.func10, Try.ntmps10
    go_wp2_with fail
    go_ret2
    exact ⟨rfl, HB.out⟩
  · have hd1 : decide (P < 1) = false := decide_eq_false h1
    by_cases h2 : P > (ds.secs.length : Int) - 1
    · have hd2 : decide (P > (ds.secs.length : Int) - 1) = true := decide_eq_true h2
      go_enter Try.func10, Try.ntmps10
      go_upto_region 1 with fail
      generalize w.alloc (.cells (stI ep st sq hd us (.slice a l.length cap)) 35) = W at HB HG ⊢
      have SE := Lib.hid (sectors_any ((HD.out.below HB.out).dev))
      go_wp2_with fail
      refine SE.out.mono ?_
      rintro e w' ⟨rfl, rfl⟩
      go_wp2_with fail
      go_ret2
      exact ⟨rfl, HB.out⟩
    · have hd2 : decide (P > (ds.secs.length : Int) - 1) = false := decide_eq_false h2
      have hnr := Lib.hid (show ¬ RightF P ep st sq hd us l from by
        rcases HR.out with h | h | h
        · exact absurd h h1
        · exact absurd h h2
        · exact h)
      go_enter Try.func10, Try.ntmps10
      go_upto_region 1 with fail
      generalize w.alloc (.cells (stI ep st sq hd us (.slice a l.length cap)) 35) = W at HB HG ⊢
      have e0 : W.cell? ⟨w.heap.size, 0, none⟩ = some (.int .u32 ep) := cell_of_row W w.heap.size 0 _ _ _ HG.out
      have e1 : W.cell? ⟨w.heap.size, 1, none⟩ = some (.int .u64 st) := cell_of_row W w.heap.size 1 _ _ _ HG.out
      have e2 : W.cell? ⟨w.heap.size, 2, none⟩ = some (.int .u64 sq) := cell_of_row W w.heap.size 2 _ _ _ HG.out
      have e3 : W.cell? ⟨w.heap.size, 3, none⟩ = some (.int .i64 hd) := cell_of_row W w.heap.size 3 _ _ _ HG.out
      have e4 : W.cell? ⟨w.heap.size, 4, none⟩ = some (.int .i64 us) := cell_of_row W w.heap.size 4 _ _ _ HG.out
      have e5 : W.cell? ⟨w.heap.size, 5, none⟩ = some (.slice a l.length cap) := cell_of_row W w.heap.size 5 _ _ _ HG.out
      have SE := Lib.hid (sectors_any ((HD.out.below HB.out).dev))
      have RI := Lib.hid (right_any (P := P) (ep := ep) (st := st) (sq := sq) (hd := hd) (us := us) (HV.out.below HB.out) (by omega) hs hlen)
      go_wp2_with fail
      refine SE.out.mono ?_
      rintro e w' ⟨rfl, rfl⟩
      go_wp2_with fail
      refine RI.out.mono ?_
      rintro e w2 ⟨⟨bb, rfl, hbb⟩, hb2⟩
      obtain rfl : bb = false := by
        cases bb with
        | false => rfl
        | true => exact absurd (hbb.1 rfl) hnr.out
      have FIN := Lib.hid (HB.out.trans (hb2.mono HB.out.size))
      clear hbb RI SE e0 e1 e2 e3 e4 e5 hb2
      go_wp2_with fail
      go_ret2
      exact ⟨rfl, FIN.out⟩
end Jn
end Go.Proofs.Ytpbcjaennbgmaaa

set_option maxRecDepth 100000
namespace Go.Proofs.Ytpbcjaennbgmaaa
namespace Jn
open Go.RowKit

set_option maxHeartbeats 1000000 in
theorem place_any (g P : Nat) (at_ : Int) (w : World) (hc : w.cell? ⟨g, 0, none⟩ = some (.int .i64 (P : Int))) (h1 : 1 ≤ P) (h2 : P ≤ 1048576) (h3 : -4611686018427387904 ≤ at_ ∧ at_ ≤ 4611686018427387904) :
    Calls Try.prog 40 #[.pointer (some ⟨g, 0, none⟩), .int .i64 at_] w fun e w' => e = .returned (.int .i64 (at_ % (P : Int))) ∧ w = w' := by
  have hP0 : (P : Int) ≠ 0 := by omega
  have e1 := Int.emod_nonneg at_ hP0
  have e2 := Int.emod_lt_of_pos at_ (show (0 : Int) < (P : Int) by omega)
  have ht : at_.tmod (P : Int) = at_ % (P : Int) ∨ at_.tmod (P : Int) = at_ % (P : Int) - (P : Int) ∧ at_ % (P : Int) - (P : Int) < 0 := by
    by_cases h : 0 ≤ at_
    · exact .inl (Int.tmod_eq_emod_of_nonneg h)
    · have := Int.tmod_eq_emod (a := at_) (b := (P : Int))
      by_cases hd : (P : Int) ∣ at_
      · left; rw [this, if_pos (.inr hd)]; omega
      · right
        rw [if_neg (by omega)] at this
        omega
  generalize at_ % (P : Int) = r at ht e1 e2
  rcases ht with ht | ⟨ht, hn⟩
  · go_enter Try.func40, Try.ntmps40
    go_wp2
    go_ret
    exact ⟨rfl, rfl⟩
  · have hr : r - (P : Int) + (P : Int) = r := by omega
    go_enter Try.func40, Try.ntmps40
    go_wp2
    go_ret
    exact ⟨by simp, rfl⟩
end Jn
end Go.Proofs.Ytpbcjaennbgmaaa

set_option maxRecDepth 100000
namespace Go.Proofs.Ytpbcjaennbgmaaa
namespace Jn
open Go.RowKit

theorem back_at {P h p : Int} (hh : 0 ≤ h ∧ h < P) (hp : 0 ≤ p ∧ p < P) : 1 ≤ backI P h p ∧ backI P h p ≤ P ∧ (h - backI P h p) % P = p := by
  unfold backI
  by_cases c : p < h
  · rw [if_pos c]
    refine ⟨by omega, by omega, ?_⟩
    rw [show h - (h - p) = p by omega]
    exact Int.emod_eq_of_lt hp.1 hp.2
  · rw [if_neg c]
    refine ⟨by omega, by omega, ?_⟩
    rw [show h - (h - p + P) = p - P by omega, Int.sub_emod_right]
    exact Int.emod_eq_of_lt hp.1 hp.2
theorem back_eq {P h i : Int} (hh : 0 ≤ h ∧ h < P) (hi : 1 ≤ i ∧ i ≤ P) : backI P h ((h - i) % P) = i := by
  unfold backI
  by_cases c : 0 ≤ h - i
  · rw [Int.emod_eq_of_lt c (by omega), if_pos (by omega)]
    omega
  · have e : (h - i) % P = h - i + P := by
      rw [← Int.add_emod_right]
      exact Int.emod_eq_of_lt (by omega) (by omega)
    rw [e]
    by_cases c2 : h - i + P < h
    · rw [if_pos c2]; omega
    · rw [if_neg c2]; omega
/-- Behind the first k places: which are taken. -/
theorem taken_step {P h k : Int} (hh : 0 ≤ h ∧ h < P) (hk : 1 ≤ k ∧ k ≤ P) {p : Int} (hp : 0 ≤ p ∧ p < P) : (backI P h p ≤ k) ↔ (p = (h - k) % P ∨ backI P h p ≤ k - 1) := by
  obtain ⟨b1, b2, b3⟩ := back_at hh hp
  constructor
  · intro hb
    by_cases e : backI P h p = k
    · left; rw [← e]; exact b3.symm
    · right; omega
  · rintro (rfl | hb)
    · rw [back_eq hh hk]; omega
    · omega
end Jn
end Go.Proofs.Ytpbcjaennbgmaaa

set_option maxRecDepth 100000
namespace Go.Proofs.Ytpbcjaennbgmaaa
namespace Jn
open Go.RowKit

/-- A row of bools. -/
def rowV (N : Nat) (f : Nat → Bool) : Array Value := ((List.range N).map fun i => Value.bool (f i)).toArray
theorem rowV_get {N i : Nat} (f : Nat → Bool) (h : i < N) : (rowV N f)[i]? = some (.bool (f i)) := by simp [rowV, h]
theorem rowV_cell {W : World} {g N i : Nat} {f : Nat → Bool} (h : W.heap[g]? = some (.cells (rowV N f) 4 (0, 0))) (hi : i < N) : W.cell? ⟨g, i, none⟩ = some (.bool (f i)) := by
  rw [cell_of_row W g i _ _ _ h]
  exact rowV_get f hi
theorem rowV_set {W : World} {g N i : Nat} {f : Nat → Bool} {b : Bool} (h : W.heap[g]? = some (.cells (rowV N f) 4 (0, 0))) : (W.setCell ⟨g, i, none⟩ (.bool b)).heap[g]? = some (.cells (rowV N (fun j => if j = i then b else f j)) 4 (0, 0)) := by
  rw [heap_setCell_same _ _ i _ _ _ h]
  congr 2
  apply Array.ext
  · simp [rowV]
  · intro j h1 h2
    rw [Array.getElem_setIfInBounds]
    · by_cases e : i = j
      · subst e; simp [rowV]
      · have e' : ¬ j = i := fun h => e h.symm
        simp [rowV, e, e']
    · simpa [rowV] using h2
theorem infoV : (Try.prog.info? 4).map (fun i => (i.zero, i.size, i.bytes)) = some (some (.bool false), 1, 1) := by kernel_rfl
theorem run_makeV (w : World) (n : Nat) (h1 : n ≤ 100000) :
    (Instr.makeSlice 38 (.int .i64 n) (.int .i64 n)).run Try.prog w = .ok (.slice (some ⟨w.heap.size, 0, none⟩) n n) (w.alloc (.cells (rowV n (fun _ => false)) 4)) := by
  obtain ⟨i0, hi, hz0, hz1, hz2⟩ := info_parts infoV
  have := run_make (P := Try.prog) w 38 4 i0 (.bool false) Try.underlying38 hi hz0 .i64 .i64 n n (by omega) (by omega) (by rw [hz2]; omega) (by omega)
  simp only [Int.toNat_natCast] at this
  rw [this, hz1]
  simp only [Value.cells, madeCells_one, Nat.mul_one]
  have e : Array.replicate n (Value.bool false) = rowV n (fun _ => false) := by
    apply Array.ext
    · simp [rowV]
    · intro i h1 h2
      simp [rowV]
  rw [e]
theorem rowV_congr {n : Nat} {f f' : Nat → Bool} (h : ∀ i, i < n → f i = f' i) : rowV n f = rowV n f' := by
  unfold rowV
  congr 1
  apply List.map_congr_left
  intro i hi
  rw [h i (List.mem_range.1 hi)]
/-- The places ahead of the head, as far as k. -/
def tkn (n : Nat) (h : Int) (k : Nat) (j : Nat) : Bool := decide (backI n h j < k)
theorem tkn_start {n : Nat} {h : Int} (hh : 0 ≤ h ∧ h < n) : rowV n (fun _ => false) = rowV n (tkn n h 1) := rowV_congr fun i hi => by
  have := back_at hh (p := (i : Int)) ⟨by omega, by omega⟩
  simp only [tkn]
  exact (decide_eq_false (by omega)).symm
theorem tkn_step {n : Nat} {h : Int} (hh : 0 ≤ h ∧ h < n) {k r : Nat} (hk : 1 ≤ k ∧ k ≤ n) (hr : (h - k) % n = (r : Int)) : rowV n (fun j => if j = r then true else tkn n h k j) = rowV n (tkn n h (k + 1)) := rowV_congr fun i hi => by
  have t := taken_step hh (k := (k : Int)) ⟨by omega, by omega⟩ (p := (i : Int)) ⟨by omega, by omega⟩
  rw [hr] at t
  simp only [tkn]
  by_cases e : i = r
  · subst e
    rw [if_pos rfl]
    refine (decide_eq_true ?_).symm
    have := t.2 (.inl rfl)
    omega
  · rw [if_neg e]
    congr 1
    apply propext
    constructor
    · intro hl; omega
    · intro hl
      rcases t.1 (by omega) with h1 | h1
      · exact absurd (by omega) e
      · omega
/-- The places that are still taken behind the first blocks. -/
def tkm (n : Nat) (h us : Int) (l : List Int) (j : Nat) : Bool := decide (backI n h j ≤ us ∧ j ∉ keysA l)
theorem tkm_start {n : Nat} {h us : Int} {k : Nat} (hk : (k : Int) = us + 1) : rowV n (tkn n h k) = rowV n (tkm n h us []) := rowV_congr fun i _ => by
  simp only [tkn, tkm]
  congr 1
  apply propext
  simp [keysA]
  omega
theorem tkm_skip {n : Nat} {h us : Int} {l : List Int} : tkm n h us (l ++ [-1]) = tkm n h us l := by
  funext j
  simp [tkm, keysA_snoc]
theorem tkm_put {n : Nat} {h us : Int} {l : List Int} {r : Nat} : (fun j => if j = r then false else tkm n h us l j) = tkm n h us (l ++ [(r : Int)]) := by
  funext j
  show (if j = r then false else decide (backI n h j ≤ us ∧ j ∉ keysA l)) = decide (backI n h j ≤ us ∧ j ∉ keysA (l ++ [(r : Int)]))
  rw [keysA_snoc, if_neg (show ¬ (r : Int) = -1 by omega), Int.toNat_natCast]
  by_cases e : j = r
  · subst e; simp
  · rw [if_neg e]; simp [e]
theorem ApF.cut {P h u : Int} {l : List Int} (hf : ApF P h u l) {k : Nat} (hk : k < l.length) : (l[k] = -1 ∨ (0 ≤ l[k] ∧ l[k] < P ∧ backI P h l[k] ≤ u)) ∧ (0 ≤ l[k] → l[k].toNat ∉ keysA (l.take k)) :=
  ⟨hf.ins _ (List.getElem_mem hk), fun h0 hm => hf.twice hk h0 hm⟩
end Jn
end Go.Proofs.Ytpbcjaennbgmaaa

