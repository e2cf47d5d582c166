/- DeviceAgain: the walk. -/
import Derived.Test.YtmedpmhiebcdjaaDoorDoe
import Derived.Test.YtmedpmhiebcdjaaDoorTwo
import Derived.Test.YtmedpmhiebcdjaaDoorBit
namespace Go.Proofs.YtmedpmhiebcdjaaDoor
open Go.RowKit

set_option maxHeartbeats 400000 in
theorem sectors_any {F : Nat → Prop} {w : World} {b : Nat} {s : DSt} (h : Dev w F b s) :
    Calls Tryd.prog 7 #[.pointer (some ⟨b, 0, none⟩)] w fun e w' => e = .returned (.int .i64 s.secs.length) ∧ w = w' := by
  obtain ⟨gs, S, wv, W, bm, es, clk, kv, h⟩ := h
  have d0 := h.cell 0
  simp only [devC, List.getElem?_toArray, List.getElem?_cons_succ, List.getElem?_cons_zero] at d0
  clear h
  go_enter Tryd.func7, Tryd.ntmps7
  go_wp2
  go_ret
  exact ⟨rfl, rfl⟩

/-- Few operations were done. -/
structure DSt.Small (s : DSt) (n c : Nat) : Prop where
  secs : s.secs.length = n
  waits : s.waits.length ≤ c
  reads : s.reads ≤ c
  writes : s.writes ≤ c
  flushes : s.flushes ≤ c
theorem DSt.Small.fit {s : DSt} {n c : Nat} (h : s.Small n c) (hc : c < 1048576) : s.Fit := ⟨by have := h.waits; omega, by have := h.reads; omega, by have := h.writes; omega, by have := h.flushes; omega⟩
theorem DSt.Small.mono {s : DSt} {n c d : Nat} (h : s.Small n c) (hd : c ≤ d) : s.Small n d := ⟨h.secs, Nat.le_trans h.waits hd, Nat.le_trans h.reads hd, Nat.le_trans h.writes hd, Nat.le_trans h.flushes hd⟩
theorem DSt.Small.begin_ {s : DSt} {n c : Nat} (h : s.Small n c) : s.begin_.Small n c := by
  have hc := begin_counts s
  exact ⟨(begin_secs s).trans h.secs, Nat.le_trans (begin_waits s) h.waits, by rw [hc.2.1]; exact h.reads, by rw [hc.1]; exact h.writes, by rw [hc.2.2]; exact h.flushes⟩
theorem crashW_flags : ∀ (xs : List (Nat × List UInt8)) (ks : List Int) (s : DSt), (DSt.crashW xs ks s).reads = s.reads ∧ (DSt.crashW xs ks s).writes = s.writes ∧ (DSt.crashW xs ks s).flushes = s.flushes
  | x :: xs, k :: ks, s => by
    have h := crashW_flags xs ks (s.one x k)
    have h1 : (s.one x k).reads = s.reads ∧ (s.one x k).writes = s.writes ∧ (s.one x k).flushes = s.flushes := by
      unfold DSt.one; split
      · exact ⟨rfl, rfl, rfl⟩
      · split <;> exact ⟨rfl, rfl, rfl⟩
    exact ⟨h.1.trans h1.1, h.2.1.trans h1.2.1, h.2.2.trans h1.2.2⟩
  | [], _, _ => ⟨rfl, rfl, rfl⟩
  | _ :: _, [], _ => ⟨rfl, rfl, rfl⟩
theorem DSt.Small.read {s : DSt} {n c : Nat} (h : s.Small n c) (a : Int) : (s.read a).Small n (c + 1) := by
  unfold DSt.read
  split
  · exact h.mono (by omega)
  · split
    · have hb := h.begin_
      exact ⟨hb.secs, Nat.le_succ_of_le hb.waits, Nat.succ_le_succ hb.reads, Nat.le_succ_of_le hb.writes, Nat.le_succ_of_le hb.flushes⟩
    · exact h.begin_.mono (by omega)
theorem DSt.Small.write {s : DSt} {n c : Nat} (h : s.Small n c) (a : Int) (l : List UInt8) : (s.write a l).Small n (c + 1) := by
  unfold DSt.write
  split
  · exact h.mono (by omega)
  · split
    · have hb := h.begin_
      exact ⟨hb.secs, by have := hb.waits; simp; omega, Nat.le_succ_of_le hb.reads, Nat.succ_le_succ hb.writes, Nat.le_succ_of_le hb.flushes⟩
    · exact h.begin_.mono (by omega)
theorem DSt.Small.flush {s : DSt} {n c : Nat} (h : s.Small n c) : s.flush.Small n (c + 1) := by
  unfold DSt.flush
  split
  · have hb := h.begin_
    have hf := settleAll_flags s.begin_.waits s.begin_.incF
    refine ⟨?_, Nat.zero_le _, ?_, ?_, ?_⟩
    · show (DSt.settleAll s.begin_.waits s.begin_.incF).secs.length = n
      rw [settleAll_secs]; exact hb.secs
    · show (DSt.settleAll s.begin_.waits s.begin_.incF).reads ≤ _
      rw [hf.2.2.1]; exact Nat.le_succ_of_le hb.reads
    · show (DSt.settleAll s.begin_.waits s.begin_.incF).writes ≤ _
      rw [hf.2.2.2.1]; exact Nat.le_succ_of_le hb.writes
    · show (DSt.settleAll s.begin_.waits s.begin_.incF).flushes ≤ _
      rw [hf.2.2.2.2]; exact Nat.succ_le_succ hb.flushes
  · exact h.begin_.mono (by omega)
theorem DSt.Small.crash {s : DSt} {n c : Nat} (h : s.Small n c) (keep : List Int) : (s.crash keep).Small n c := by
  have hf := crashW_flags s.waits keep s
  refine ⟨(crashW_secs _ _ _).trans h.secs, Nat.zero_le _, ?_, ?_, ?_⟩
  · show (DSt.crashW s.waits keep s).reads ≤ c; rw [hf.1]; exact h.reads
  · show (DSt.crashW s.waits keep s).writes ≤ c; rw [hf.2.1]; exact h.writes
  · show (DSt.crashW s.waits keep s).flushes ≤ c; rw [hf.2.2]; exact h.flushes
theorem DSt.Small.arm {s : DSt} {n c : Nat} (h : s.Small n c) (a : Int) (keep : List Int) : (s.arm a keep).Small n c := by
  unfold DSt.arm
  split <;> exact ⟨h.secs, h.waits, h.reads, h.writes, h.flushes⟩
theorem DSt.Small.start {s : DSt} {n c : Nat} (h : s.Small n c) : s.start.Small n c := ⟨h.secs, h.waits, h.reads, h.writes, h.flushes⟩
theorem DSt.Small.does {s : DSt} {n c : Nat} (h : s.Small n c) (kind at_ data : Int) (keep : List Int) : (s.does kind at_ data keep).Small n (c + 1) := by
  unfold DSt.does
  split
  · exact h.read _
  split
  · exact h.read _
  split
  · exact h.write _ _
  split
  · exact h.write _ _
  split
  · exact h.flush
  split
  · exact (h.crash _).mono (by omega)
  split
  · exact (h.arm _ _).mono (by omega)
  split
  · exact h.start.mono (by omega)
  · exact h.mono (by omega)
theorem new_small (n : Nat) : (DSt.new n).Small n 0 := ⟨new_secs n, Nat.le_refl _, Nat.le_refl _, Nat.le_refl _, Nat.le_refl _⟩

/-- Two devices that are alike. -/
structure AInv (w : World) (ba bb n k : Nat) (wr : World) : Prop where
  ex : ∃ s : DSt, Duo wr ba s bb s (fun k => k < w.heap.size) ∧ s.Small n k ∧ Below w.heap.size w wr
/-- One of them is a step ahead. -/
structure AHalf (w : World) (ba bb n k : Nat) (kind at_ data : Int) (keep : List Int) (S : ByteArray) (wr : World) : Prop where
  ex : ∃ s : DSt, Duo wr ba (s.does kind at_ data keep) bb s (fun k => k < w.heap.size) ∧ s.Small n k ∧ Below w.heap.size w wr ∧ S = tellS (s.told kind at_ data)
theorem AInv.below {w wr : World} {ba bb n k : Nat} (h : AInv w ba bb n k wr) : Below w.heap.size w wr := by
  obtain ⟨s, h1, h2, h3⟩ := h
  exact h3
theorem ireads_old {w wr : World} {v : Value} {l : List Int} {g : Nat} (hr : IReads w v l g) (hB : Below w.heap.size w wr) : IReads wr v l g := hr.touch (Touch.of_below (F := Emp) hB) id
theorem AInv.does1 {w wr : World} {ba bb n k : Nat} (h : AInv w ba bb n k wr) (hk : k ≤ 100) (kind at_ data size : Int) (odd : Bool) (kv : Value) (keep : List Int) (g : Nat) (hr : IReads w kv keep g) (hg : keep ≠ [] → g < w.heap.size)
    (hl : keep.length * 8 ≤ 140737488351232) (hat : at_ ≤ 9223372036854775807) :
    Calls Tryd.prog 6 #[.pointer (some ⟨ba, 0, none⟩), .agg #[.int .i64 kind, .int .i64 at_, .int .i64 data, .int .i64 size, .bool odd, kv]] wr fun e w' =>
      ∃ S, e = .returned (.string S) ∧ AHalf w ba bb n k kind at_ data keep S w' := by
  obtain ⟨s, h1, h2, h3⟩ := h
  refine (h1.step (R := fun e _ => e = .returned (.string (tellS (s.told kind at_ data)))) fun Y hY hH => does_any hH (h2.fit (by omega)) kind at_ data size odd kv keep g (ireads_old hr h3) (fun h0 => hY _ (hg h0)) hl hat).mono ?_
  rintro e w' ⟨he, hkp, hD⟩
  exact ⟨_, he, s, hD, h2, h3.trans (hkp.below (fun _ h => h) h3.size), rfl⟩
theorem AHalf.does2 {w wr : World} {ba bb n k : Nat} {kind at_ data : Int} {keep : List Int} {S : ByteArray} (h : AHalf w ba bb n k kind at_ data keep S wr) (hk : k ≤ 100) (size : Int) (odd : Bool) (kv : Value) (g : Nat) (hr : IReads w kv keep g) (hg : keep ≠ [] → g < w.heap.size)
    (hl : keep.length * 8 ≤ 140737488351232) (hat : at_ ≤ 9223372036854775807) :
    Calls Tryd.prog 6 #[.pointer (some ⟨bb, 0, none⟩), .agg #[.int .i64 kind, .int .i64 at_, .int .i64 data, .int .i64 size, .bool odd, kv]] wr fun e w' =>
      e = .returned (.string S) ∧ AInv w ba bb n (k + 1) w' := by
  obtain ⟨s, h1, h2, h3, rfl⟩ := h
  refine (h1.swap.step (R := fun e _ => e = .returned (.string (tellS (s.told kind at_ data)))) fun Y hY hH => does_any hH (h2.fit (by omega)) kind at_ data size odd kv keep g (ireads_old hr h3) (fun h0 => hY _ (hg h0)) hl hat).mono ?_
  rintro e w' ⟨he, hkp, hD⟩
  exact ⟨he, _, hD.swap, h2.does kind at_ data keep, h3.trans (hkp.below (fun _ h => h) h3.size)⟩

end Go.Proofs.YtmedpmhiebcdjaaDoor
