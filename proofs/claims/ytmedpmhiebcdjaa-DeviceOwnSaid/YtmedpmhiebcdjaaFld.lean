/- DeviceFlushed. -/
import Derived.Test.YtmedpmhiebcdjaaHin
import Derived.Deep.RegionLaw
import Derived.Deep.CutBlock
import Derived.Deep.DeepCutAuto
namespace Go.Proofs.Ytmedpmhiebcdjaa
open Go.RowKit

/-- Ints that came in, unpacked for a walk. -/
def Came (w : World) (a : Option Addr) (l : List Int) (g : Nat) : Prop := l ≠ [] → ∃ off, a = some ⟨g, off, none⟩ ∧ ∀ i (h : i < l.length), w.cell? ⟨g, off + i, none⟩ = some (.int .i64 l[i])
theorem Came.at {w wr : World} {a : Option Addr} {l : List Int} {g i : Nat} (h : Came w a l g) (hi : i < l.length) (hB : Below w.heap.size w wr) :
    ∃ off, a = some ⟨g, off, none⟩ ∧ wr.cell? ⟨g, off + i, none⟩ = some (.int .i64 l[i]) := by
  obtain ⟨off, ha, hc⟩ := h (fun h0 => by rw [h0] at hi; simp at hi)
  exact ⟨off, ha, by rw [hB.cell (World.block_lt_of_cell? w _ (hc i hi))]; exact hc i hi⟩

/-- The sector that a number says, of n. -/
def slotN (n : Nat) (x : Int) : Nat := (x % 65536).toNat % n
theorem slotN_lt (n : Nat) (x : Int) (h : 0 < n) : slotN n x < n := Nat.mod_lt _ h
theorem slotN_bits (n : Nat) (ni : Int) (hn : (n : Int) = ni) (x : Int) : bits .and .i64 x 65535 = ((x % 65536).toNat : Int) ∧ (((x % 65536).toNat : Nat) : Int) % ni = (slotN n x : Int) ∧ (x % 65536).toNat < 65536 := by
  subst hn
  refine ⟨by rw [and_65535]; omega, by rw [slotN]; omega, by omega⟩

/-- What waits behind so many writes. -/
def moreW (l : List Int) (m : Nat) : List (Nat × List UInt8) := (List.range m).map fun i => (slotN 10 (l.getD i 0), sectorL ((2000 + i : Nat) : Int))
theorem moreW_succ (l : List Int) (m : Nat) : moreW l (m + 1) = moreW l m ++ [(slotN 10 (l.getD m 0), sectorL ((2000 + m : Nat) : Int))] := by
  unfold moreW; rw [List.range_succ, List.map_append]; rfl
theorem moreW_mem {l : List Int} {m : Nat} {x : Nat × List UInt8} (h : x ∈ moreW l m) : ∃ i < m, x.1 = slotN 10 (l.getD i 0) ∧ x.2 = sectorL ((2000 + i : Nat) : Int) := by
  unfold moreW at h
  obtain ⟨i, hi, rfl⟩ := List.mem_map.1 h
  exact ⟨i, List.mem_range.1 hi, rfl, rfl⟩

/-- Ahead of the flush. -/
structure FPre (w : World) (b L c : Nat) (wr : World) : Prop where
  ex : ∃ (s : DSt) (vals : List Nat), HInv w b L s vals wr ∧ s.Up 10 c ∧ vals.length = 10 ∧ ∀ j (h : j < vals.length), vals[j] ≤ 1040 ∧ s.look j = (0, wantL vals[j])
theorem FPre.mono {w wr : World} {b L c d : Nat} (h : FPre w b L c wr) (hd : c ≤ d) : FPre w b L d wr := by
  obtain ⟨s, vals, h1, h2, h3⟩ := h
  exact ⟨s, vals, h1, h2.mono hd, h3⟩
theorem FPre.lt {w wr : World} {b L c : Nat} (h : FPre w b L c wr) : L < wr.heap.size := by
  obtain ⟨s, vals, h1, h2, h3⟩ := h
  exact h1.lt
theorem FPre.below {w wr : World} {b L c : Nat} (h : FPre w b L c wr) : Below w.heap.size w wr := by
  obtain ⟨s, vals, h1, h2, h3⟩ := h
  exact h1.below
theorem FPre.cell {w wr : World} {b L c m : Nat} (h : FPre w b L c wr) (hm : m < 10) : ∃ x : Nat, wr.cell? ⟨L, m, none⟩ = some (.int .i64 (x : Int)) ∧ wr.frozen? ⟨L, m, none⟩ = false := by
  obtain ⟨s, vals, h1, h2, h3, h4⟩ := h
  exact ⟨_, h1.cell (m := m) (by omega)⟩
theorem FPre.put {w wr : World} {b L c : Nat} (h : FPre w b L c wr) (hc : c < 1000000) {a x : Nat} {xi : Int} (hxi : (x : Int) = xi) (ha : a < 10) (hx : x ≤ 1040) (hx0 : x ≠ 0) (hLw : w.heap.size ≤ L) :
    Calls Try.prog 10 #[.pointer (some ⟨b, 0, none⟩), .int .i64 (a : Int), .slice (some ⟨wr.heap.size, 0, none⟩) 512 512] ((wr.setCell ⟨L, a, none⟩ (.int .i64 xi)).alloc (.cells (rowA (sectorL xi)) 5)) fun e w' =>
      e = .returned (.int .i64 0) ∧ FPre w b L (c + 1) w' := by
  obtain ⟨s, vals, h1, h2, h4, h5⟩ := h
  have hw := h2.calm.write (a := a) (l := sectorL xi) (by rw [h2.secs]; exact ha) (sectorL_length xi)
  have hst := (h1.set hLw a hxi).put (h2.fit (by omega)) (a : Int) xi 0 hw.1
  rw [World.size_setCell] at hst
  refine hst.mono ?_
  rintro e w' ⟨he, hq⟩
  rw [hw.2] at hq
  refine ⟨he, s.wrote a (sectorL xi), vals.set a x, hq, h2.wrote a _, by simpa using h4, fun j hj => ?_⟩
  have hj' : j < vals.length := by simpa using hj
  rw [look_wrote, List.getElem_set]
  by_cases hja : a = j
  · subst hja
    simp only [if_true]
    refine ⟨hx, ?_⟩
    rw [wantL, if_neg hx0, ← hxi]
  · simp only [if_neg hja]
    exact h5 j hj'

/-- Behind the flush. -/
structure FMid (w : World) (b L : Nat) (vals : List Nat) (ml : List Int) (m : Nat) (wr : World) : Prop where
  ex : ∃ (s : DSt), HInv w b L s vals wr ∧ s.Up 10 (41 + m) ∧ vals.length = 10 ∧ (∀ j (h : j < vals.length), vals[j] ≤ 1040 ∧ s.secs.getD j [] = wantL vals[j]) ∧ s.waits = moreW ml m
theorem FPre.flush {w wr : World} {b L : Nat} (h : FPre w b L 40 wr) (ml : List Int) :
    Calls Try.prog 12 #[.pointer (some ⟨b, 0, none⟩)] wr fun e w' => e = .returned (.int .i64 0) ∧ ∃ vals, FMid w b L vals ml 0 w' := by
  obtain ⟨s, vals, h1, h2, h4, h5⟩ := h
  refine (h1.flush (h2.fit (by omega)) 0 h2.calm.err).mono ?_
  rintro e w' ⟨he, hq⟩
  have hw0 : s.flush.waits = [] := List.eq_nil_of_length_eq_zero h2.calm.flush_counts.1
  refine ⟨he, vals, s.flush, hq, h2.flush, h4, fun j hj => ⟨(h5 j hj).1, ?_⟩, hw0⟩
  have h6 := h2.calm.look_flush h2.torn (k := j) (by rw [h2.secs]; omega)
  rw [(h5 j hj).2, look_none (by rw [hw0]; rfl), h2.flush.torn, if_neg (by simp)] at h6
  exact congrArg Prod.snd h6
theorem FMid.below {w wr : World} {b L m : Nat} {vals : List Nat} {ml : List Int} (h : FMid w b L vals ml m wr) : Below w.heap.size w wr := by
  obtain ⟨s, h1, h2⟩ := h
  exact h1.below
theorem FMid.drew {w wr : World} {b L m : Nat} {vals : List Nat} {ml : List Int} (h : FMid w b L vals ml m wr) : FMid w b L vals ml m wr.drew := by
  obtain ⟨s, h1, h2⟩ := h
  exact ⟨s, h1.emp (Touch.refl Emp wr).drew, h2⟩
theorem FMid.put {w wr : World} {b L m : Nat} {vals : List Nat} {ml : List Int} (h : FMid w b L vals ml m wr) (hc : m < 40) {a : Nat} {xi : Int} (hxi : ((2000 + m : Nat) : Int) = xi) (ha : slotN 10 (ml.getD m 0) = a) :
    Calls Try.prog 10 #[.pointer (some ⟨b, 0, none⟩), .int .i64 (a : Int), .slice (some ⟨wr.heap.size, 0, none⟩) 512 512] (wr.alloc (.cells (rowA (sectorL xi)) 5)) fun e w' =>
      e = .returned (.int .i64 0) ∧ FMid w b L vals ml (m + 1) w' := by
  obtain ⟨s, h1, h2, h4, h5, h6⟩ := h
  have ha10 : a < 10 := by rw [← ha]; exact slotN_lt _ _ (by omega)
  have hw := h2.calm.write (a := a) (l := sectorL xi) (by rw [h2.secs]; exact ha10) (sectorL_length xi)
  refine (h1.put (h2.fit (by omega)) (a : Int) xi 0 hw.1).mono ?_
  rintro e w' ⟨he, hq⟩
  rw [hw.2] at hq
  refine ⟨he, s.wrote a (sectorL xi), hq, h2.wrote a _, h4, h5, ?_⟩
  show s.waits ++ [(a, sectorL xi)] = _
  rw [h6, moreW_succ, ha, hxi]
theorem FMid.put_drew {w wr : World} {b L m : Nat} {vals : List Nat} {ml : List Int} (h : FMid w b L vals ml m wr) (hc : m < 40) {a : Nat} {xi : Int} (hxi : ((2000 + m : Nat) : Int) = xi) (ha : slotN 10 (ml.getD m 0) = a) :
    Calls Try.prog 10 #[.pointer (some ⟨b, 0, none⟩), .int .i64 (a : Int), .slice (some ⟨wr.heap.size, 0, none⟩) 512 512] (wr.alloc (.cells (rowA (sectorL xi)) 5)).drew fun e w' =>
      e = .returned (.int .i64 0) ∧ FMid w b L vals ml (m + 1) w' := h.drew.put hc hxi ha

/-- What a sector may be behind the crash. -/
def Fate (vals : List Nat) (ml : List Int) (M j : Nat) (x : Int × List UInt8) : Prop :=
  x = (0, wantL (vals.getD j 0)) ∨ (x = (3, []) ∧ ∃ i < M, slotN 10 (ml.getD i 0) = j) ∨ ∃ i < M, slotN 10 (ml.getD i 0) = j ∧ x = (0, sectorL ((2000 + i : Nat) : Int))
/-- Behind the crash, and so many reads. -/
structure FEnd (w : World) (b L : Nat) (vals : List Nat) (ml : List Int) (M r : Nat) (wr : World) : Prop where
  ex : ∃ (s : DSt), HInv w b L s vals wr ∧ vals.length = 10 ∧ (∀ v ∈ vals, v ≤ 1040) ∧ s.Calm ∧ s.secs.length = 10 ∧ (s.waits.length ≤ 100 + r ∧ s.reads ≤ 100 + r ∧ s.writes ≤ 100 + r ∧ s.flushes ≤ 100 + r) ∧ ∀ j < 10, Fate vals ml M j (s.look j)
structure FDown (w : World) (b L : Nat) (vals : List Nat) (ml : List Int) (M : Nat) (wr : World) : Prop where
  ex : ∃ (s : DSt), HInv w b L s vals wr ∧ vals.length = 10 ∧ (∀ v ∈ vals, v ≤ 1040) ∧ s.down = true ∧ s.armed = false ∧ s.secs.length = 10 ∧ (s.waits.length ≤ 100 ∧ s.reads ≤ 100 ∧ s.writes ≤ 100 ∧ s.flushes ≤ 100) ∧ ∀ j < 10, Fate vals ml M j (s.look j)
theorem crashW_flags : ∀ (xs : List (Nat × List UInt8)) (ks : List Int) (s : DSt), (DSt.crashW xs ks s).reads = s.reads ∧ (DSt.crashW xs ks s).writes = s.writes ∧ (DSt.crashW xs ks s).flushes = s.flushes
  | x :: xs, k :: ks, s => by
    have h := crashW_flags xs ks (s.one x k)
    have h1 : (s.one x k).reads = s.reads ∧ (s.one x k).writes = s.writes ∧ (s.one x k).flushes = s.flushes := by
      unfold DSt.one; split
      · exact ⟨rfl, rfl, rfl⟩
      · split <;> exact ⟨rfl, rfl, rfl⟩
    exact ⟨h.1.trans h1.1, h.2.1.trans h1.2.1, h.2.2.trans h1.2.2⟩
  | [], _, _ => ⟨rfl, rfl, rfl⟩
  | _ :: _, [], _ => ⟨rfl, rfl, rfl⟩
theorem fate_crash {s : DSt} {vals : List Nat} {ml keep : List Int} {M j : Nat} (ht : s.torn = []) (hs : s.secs.length = 10) (hj : j < 10) (hv : s.secs.getD j [] = wantL (vals.getD j 0)) (hw : s.waits = moreW ml M) : Fate vals ml M j ((s.crash keep).look j) := by
  obtain ⟨h1, h2⟩ := crashW_look s.waits keep s j (by omega)
  have hl : (s.crash keep).look j = if j ∈ (DSt.crashW s.waits keep s).torn then (3, []) else (0, (DSt.crashW s.waits keep s).secs.getD j []) := look_none rfl
  rw [hl]
  split
  · rename_i htn
    rcases h2 htn with h | ⟨x, hx, rfl⟩
    · rw [ht] at h; simp at h
    · rw [hw] at hx
      obtain ⟨i, hi, e1, _⟩ := moreW_mem hx
      exact .inr (.inl ⟨rfl, i, hi, e1.symm⟩)
  · rcases h1 with h | ⟨x, hx, rfl, h⟩
    · exact .inl (by rw [h, hv])
    · rw [hw] at hx
      obtain ⟨i, hi, e1, e2⟩ := moreW_mem hx
      exact .inr (.inr ⟨i, hi, e1.symm, by rw [h, e2]⟩)
theorem getD_of_lt {vals : List Nat} {j : Nat} (h : j < vals.length) : vals.getD j 0 = vals[j] := by simp [List.getD, h]
theorem FMid.crash {w wr : World} {b L M : Nat} {vals : List Nat} {ml : List Int} (h : FMid w b L vals ml M wr) (hM : M ≤ 40) {v : Value} {keep : List Int} {g : Nat} (hk : IReads w v keep g) (hg : keep ≠ [] → g < w.heap.size) :
    Calls Try.prog 13 #[.pointer (some ⟨b, 0, none⟩), v] wr fun e w' => e = .returned (.tuple #[]) ∧ FDown w b L vals ml M w' := by
  obtain ⟨s, h1, h2, h3, h4, h5⟩ := h
  refine (h1.crash (h2.fit (by omega)) v keep g (h1.ireads hk hg) hg).mono ?_
  rintro e w' ⟨he, hq⟩
  have hf := crashW_flags s.waits keep s
  refine ⟨he, s.crash keep, hq, h3, fun v hv => ?_, rfl, rfl, (crashW_secs _ _ _).trans h2.secs, ⟨Nat.zero_le _, ?_, ?_, ?_⟩, fun j hj => ?_⟩
  · obtain ⟨i, hi, rfl⟩ := List.getElem_of_mem hv
    exact (h4 i hi).1
  · have := h2.reads; show (DSt.crashW s.waits keep s).reads ≤ 100; omega
  · have := h2.writes; show (DSt.crashW s.waits keep s).writes ≤ 100; omega
  · have := h2.flushes; show (DSt.crashW s.waits keep s).flushes ≤ 100; omega
  · exact fate_crash h2.torn h2.secs hj (by rw [(h4 j (by omega)).2, getD_of_lt]) h5
theorem FDown.down {w wr : World} {b L M : Nat} {vals : List Nat} {ml : List Int} (h : FDown w b L vals ml M wr) :
    Calls Try.prog 14 #[.pointer (some ⟨b, 0, none⟩)] wr fun e w' => e = .returned (.bool true) ∧ wr = w' := by
  obtain ⟨s, h1, h2, h3, h4, h5⟩ := h
  exact h1.down true h4
theorem FDown.start {w wr : World} {b L M : Nat} {vals : List Nat} {ml : List Int} (h : FDown w b L vals ml M wr) :
    Calls Try.prog 15 #[.pointer (some ⟨b, 0, none⟩)] wr fun e w' => e = .returned (.int .i64 0) ∧ FEnd w b L vals ml M 0 w' := by
  obtain ⟨s, h1, h2, h3, h4, h5, h6, h7, h8⟩ := h
  refine (h1.start 0 (by unfold DSt.startErr; rw [if_pos h4])).mono ?_
  rintro e w' ⟨he, hq⟩
  exact ⟨he, s.start, hq, h2, h3, ⟨rfl, h5⟩, h6, h7, h8⟩
theorem FEnd.emp {w wr wq : World} {b L M r : Nat} {vals : List Nat} {ml : List Int} (h : FEnd w b L vals ml M r wr) (ht : Touch Emp wr wq) : FEnd w b L vals ml M r wq := by
  obtain ⟨s, h1, h2⟩ := h
  exact ⟨s, h1.emp ht, h2⟩
theorem FEnd.below {w wr : World} {b L M r : Nat} {vals : List Nat} {ml : List Int} (h : FEnd w b L vals ml M r wr) : Below w.heap.size w wr := by
  obtain ⟨s, h1, h2⟩ := h
  exact h1.below
theorem FEnd.cell {w wr : World} {b L M r j : Nat} {vals : List Nat} {ml : List Int} (h : FEnd w b L vals ml M r wr) (hj : j < 10) :
    L < wr.heap.size ∧ vals.getD j 0 ≤ 1040 ∧ wr.cell? ⟨L, j, none⟩ = some (.int .i64 (vals.getD j 0 : Int)) ∧ wr.frozen? ⟨L, j, none⟩ = false := by
  obtain ⟨s, h1, h2, h3, h4⟩ := h
  have hj' : j < vals.length := by omega
  rw [getD_of_lt hj']
  exact ⟨h1.lt, h3 _ (List.getElem_mem hj'), h1.cell hj'⟩
theorem FEnd.read {w wr : World} {b L M r j : Nat} {vals : List Nat} {ml : List Int} (h : FEnd w b L vals ml M r wr) (hj : j < 10) (hr : r ≤ 10) :
    Calls Try.prog 16 #[.pointer (some ⟨b, 0, none⟩), .int .i64 (j : Int)] wr fun e w' => ∃ v g x, e = .returned (.tuple #[v, .int .i64 x.1]) ∧ Fate vals ml M j x ∧ Reads w' v x.2 g ∧ FEnd w b L vals ml M (r + 1) w' := by
  obtain ⟨s, h1, h2, h3, h4, h5, h6, h7⟩ := h
  have hr := h4.read (a := j) (by omega)
  refine (h1.read ⟨by omega, by omega, by omega, by omega⟩ (j : Int) (s.look j).1 (s.look j).2 hr.1).mono ?_
  rintro e w' ⟨v, g, he, hq, hg⟩
  rw [hr.2] at hq
  refine ⟨v, g, s.look j, he, h7 j hj, hg, s.incR, hq, h2, h3, h4.incR, h5, ?_, h7⟩
  simp only [DSt.incR]
  omega

/-- What the law has found, behind so many of the writes that waited. -/
def okF (v : Nat) (ml : List Int) (j : Nat) (x : Int × List UInt8) : Nat → Bool
  | 0 => x.1 == 0 && x.2 == wantL v
  | i + 1 => if slotN 10 (ml.getD i 0) = j then (okF v ml j x i || x.1 == 3 || (x.1 == 0 && x.2 == sectorL ((2000 + i : Nat) : Int))) else okF v ml j x i
theorem okF_far {v : Nat} {ml : List Int} {j : Nat} {x : Int × List UInt8} {q : Nat} (h : slotN 10 (ml.getD q 0) ≠ j) : okF v ml j x (q + 1) = okF v ml j x q := by rw [okF, if_neg h]
theorem okF_near {v : Nat} {ml : List Int} {j : Nat} {x : Int × List UInt8} {q : Nat} (h : slotN 10 (ml.getD q 0) = j) : okF v ml j x (q + 1) = (okF v ml j x q || x.1 == 3 || (x.1 == 0 && x.2 == sectorL ((2000 + q : Nat) : Int))) := by rw [okF, if_pos h]
theorem okF_mono {v : Nat} {ml : List Int} {j : Nat} {x : Int × List UInt8} {i : Nat} (h : okF v ml j x i = true) : ∀ d, okF v ml j x (i + d) = true
  | 0 => h
  | d + 1 => by
    have ih := okF_mono h d
    show okF v ml j x (i + d + 1) = true
    rw [okF, ih]; simp
theorem okF_end {vals : List Nat} {ml : List Int} {M j : Nat} {x : Int × List UInt8} (h : Fate vals ml M j x) : okF (vals.getD j 0) ml j x M = true := by
  rcases h with rfl | ⟨rfl, i, hi, hs⟩ | ⟨i, hi, hs, rfl⟩
  · have := okF_mono (v := vals.getD j 0) (ml := ml) (j := j) (x := (0, wantL (vals.getD j 0))) (i := 0) (by simp [okF]) M
    rwa [Nat.zero_add] at this
  · have := okF_mono (v := vals.getD j 0) (ml := ml) (j := j) (x := (3, [])) (i := i + 1) (by rw [okF, if_pos hs]; simp) (M - (i + 1))
    rwa [Nat.add_sub_cancel' hi] at this
  · have := okF_mono (v := vals.getD j 0) (ml := ml) (j := j) (x := (0, sectorL ((2000 + i : Nat) : Int))) (i := i + 1) (by rw [okF, if_pos hs]; simp) (M - (i + 1))
    rwa [Nat.add_sub_cancel' hi] at this

set_option maxRecDepth 100000 in
set_option maxHeartbeats 4000000 in
theorem flushed_walk (a1 a2 : Option Addr) (n1 n2 : Nat) (c1 c2 : Nat) (l ml : List Int) (kv : Value) (keep : List Int) (g1 g2 g3 : Nat) (w : World) (hn1 : l.length = n1) (hn2 : ml.length = n2)
    (h1 : Came w a1 l g1) (h2 : Came w a2 ml g2) (h3 : IReads w kv keep g3) (h3' : keep ≠ [] → g3 < w.heap.size) :
    Calls Try.prog 3 #[.slice a1 n1 c1, .slice a2 n2 c2, kv] w fun e w' => e = .returned (.bool true) ∧ Below w.heap.size w w' := by
  have HN1 := Lib.hid hn1
  have HN2 := Lib.hid hn2
  have H1 := Lib.hid h1
  have H2 := Lib.hid h2
  have H3 := Lib.hid h3
  have H3' := Lib.hid h3'
  have hmk : ∀ W, (Instr.makeSlice 22 (.int .i64 10) (.int .i64 10)).run Try.prog W = .ok (.slice (some ⟨W.heap.size, 0, none⟩) 10 10) (W.alloc (.cells (intsA (List.replicate 10 0)) 3)) := fun W => run_makeInts W 10 (by omega)
  generalize hzz : intsA (List.replicate 10 0) = Z0 at hmk
  have HZ := Lib.hid hzz
  clear hzz
  clear hn1 hn2 h1 h2 h3 h3'
  obtain ⟨Z5, hmk5, hz5⟩ : ∃ Z, (∀ W, (Instr.makeSlice 29 (.int .i64 512) (.int .i64 512)).run Try.prog W = .ok (.slice (some ⟨W.heap.size, 0, none⟩) 512 512) (W.alloc (.cells Z 5))) ∧ Z = rowA (zerosL 512) := ⟨_, run_make512, rfl⟩
  have HZ5 := Lib.hid hz5
  clear hz5
  go_enter Try.func3, Try.ntmps3
  go_wp2_with fail
  refine (shown_any w).mono ?_
  rintro e w1 ⟨rfl, hT⟩
  go_wp2_with fail
  refine (new_has 10 w1 (by omega) (by omega)).mono ?_
  rintro e w2 ⟨rfl, ht1, -, hq⟩
  replace hq := hq.mono (Y := fun k => k < w.heap.size) fun k hk => Nat.lt_of_lt_of_le hk hT.size
  replace hT := hT.trans (ht1.below.mono hT.size)
  have hI : FPre w (w1.heap.size + 2) w2.heap.size 0 (w2.alloc (.cells Z0 3)) := by
    rw [← HZ.out]
    refine ⟨DSt.new 10, List.replicate 10 0, ⟨hq.alloc _, heap_alloc_new _ _, hT.alloc hT.size _⟩, new_up 10, by simp, fun j hj => ?_⟩
    have hj5 : j < 10 := by simpa using hj
    rw [List.getElem_replicate]
    exact ⟨Nat.zero_le _, new_look 10 j hj5⟩
  have HI := Lib.hid hI
  have HLW := Lib.hid (show w.heap.size ≤ w2.heap.size from hT.size)
  clear ht1 hq hT hI
  go_upto_block 0 with fail
  generalize w1.heap.size + 2 = b at HI ⊢
  generalize w2.heap.size = L at HI HLW ⊢
  go_cut [11] (fun _ wx => FPre w b L 40 wx)
  case first =>
    go_wp2_with fail
    go_loopw [11] (fun i wr => ∃ k : Nat, k ≤ l.length ∧ k ≤ 40 ∧ i = .int .i64 k ∧ FPre w b L k wr) (fun i _ => l.length - (intOf i).toNat)
    case atStart => exact ⟨0, Nat.zero_le _, Nat.zero_le _, rfl, HI.out⟩
    case round =>
      obtain ⟨k, hk1, hk2, rfl, hI⟩ := hrel
      have HI := Lib.hid hI
      clear hI
      by_cases hlt : k < n1 ∧ k < 40
      · obtain ⟨hlt, hlt2⟩ := hlt
        have hkl : k < l.length := by rw [HN1.out]; exact hlt
        obtain ⟨off, rfl, hcw⟩ := H1.out.at hkl HI.out.below
        obtain ⟨hy, hy2, hy3⟩ := slotN_bits 10 10 rfl l[k]
        have ha10 := slotN_lt 10 l[k] (by omega)
        generalize slotN 10 l[k] = a at hy2 ha10
        generalize (l[k] % 65536).toNat = y at hy hy2 hy3
        generalize l[k] = x at hcw hy
        obtain ⟨x0, hL0, hL1⟩ := HI.out.cell ha10
        have hLs := HI.out.lt
        go_wp2_with fail
        refine (sector_any _ _).mono ?_
        rintro e w3 ⟨rfl, rfl⟩
        go_wp2_with fail
        refine (HI.out.put (by omega) (x := 1000 + k) (xi := 1000 + (k : Int)) (by omega) ha10 (by omega) (by omega) HLW.out).mono ?_
        rintro e w3 ⟨rfl, hI⟩
        replace HI := Lib.hid hI
        clear hI hL0 hL1 hLs hcw
        go_wp2
        go_roundw
        case rel => exact ⟨k + 1, by omega, by omega, by go_num, HI.out⟩
        case measure => simp [intOf]; omega
      · replace HI := Lib.hid (HI.out.mono hk2)
        rcases (show (k = 40 ∧ k < n1) ∨ ¬ k < n1 by omega) with ⟨rfl, h⟩ | h
        all_goals
          clear hlt
          go_wp2_with fail
          go_meet
          exact HI.out
  case rest =>
    clear HI
    have HI := Lib.hid hcut
    clear hcut
    go_wp2_with fail
    refine (HI.out.flush ml).mono ?_
    rintro e w3 ⟨rfl, vals, hM⟩
    have HM := Lib.hid hM
    clear hM HI
    go_upto_block 2 with fail
    have hex : ∃ M, Hid (M ≤ 40 ∧ M ≤ n2 ∧ (M = n2 ∨ M = 40)) := ⟨min n2 40, Lib.hid (by omega)⟩
    obtain ⟨M, HME⟩ := hex
    go_cut [13] (fun _ wx => FMid w b L vals ml M wx)
    case first =>
      go_wp2_with fail
      go_loopw [13] (fun i wr => ∃ m : Nat, m ≤ M ∧ i = .int .i64 m ∧ FMid w b L vals ml m wr) (fun i _ => ml.length - (intOf i).toNat)
      case atStart => exact ⟨0, Nat.zero_le _, rfl, HM.out⟩
      case round =>
        obtain ⟨m, hm1, rfl, hI⟩ := hrel
        replace HM := Lib.hid hI
        clear hI
        have hMe := HME.out
        have hn2 := HN2.out
        by_cases hlt : m < n2 ∧ m < 40
        · obtain ⟨hlt, hlt2⟩ := hlt
          have hml : m < ml.length := by omega
          have HmM := Lib.hid (show m + 1 ≤ M by omega)
          clear hMe hn2
          obtain ⟨off, rfl, hcw⟩ := H2.out.at hml HM.out.below
          obtain ⟨hy, hy2, hy3⟩ := slotN_bits 10 10 rfl ml[m]
          have ha10 := slotN_lt 10 ml[m] (by omega)
          have HS := Lib.hid (show slotN 10 (ml.getD m 0) = slotN 10 ml[m] by rw [List.getD_eq_getElem?_getD, List.getElem?_eq_getElem hml]; rfl)
          generalize slotN 10 ml[m] = a at hy2 ha10 HS
          generalize (ml[m] % 65536).toNat = y at hy hy2 hy3
          generalize ml[m] = x at hcw hy
          have hg2 := World.block_lt_of_cell? _ _ hcw
          simp only at hg2
          go_wp2_with fail
          have hs1 : IntKind.i64.wrap (2000 + (m : Int)) = 2000 + (m : Int) := by exact IntWalk.i64_in _ (by omega)
          have hs2 : ((y : Int)).tmod 10 = (a : Int) := by rw [Int.tmod_eq_emod_of_nonneg (by omega)]; exact hy2
          go_region_law (first | (go_simp; go_at_call 11; refine (sector_any _ _).mono ?_; rintro e w4 ⟨rfl, rfl⟩) | (go_simp; go_at_call 10; refine (HM.out.put_drew hlt2 (by rw [Int.natCast_add]; rfl) HS.out).mono ?_; rintro e w5 ⟨rfl, hI⟩))
          all_goals
            replace HM := Lib.hid hI
            clear hI hs1 hs2
            go_wp2
            go_roundw
            case rel => exact ⟨m + 1, HmM.out, by go_num, HM.out⟩
            case measure => simp [intOf]; omega
        · obtain rfl : m = M := by omega
          rcases (show (m = 40 ∧ m < n2) ∨ ¬ m < n2 by omega) with ⟨rfl, h⟩ | h
          all_goals
            clear hlt hMe hn2
            go_wp2_with fail
            go_meet
            exact HM.out
    case rest =>
      clear HM
      have HM := Lib.hid hcut
      clear hcut
      go_wp2_with fail
      refine (HM.out.crash HME.out.1 H3.out H3'.out).mono ?_
      rintro e w4 ⟨rfl, hD⟩
      have HD := Lib.hid hD
      clear hD
      go_wp2_with fail
      refine HD.out.down.mono ?_
      rintro e w5 ⟨rfl, rfl⟩
      go_wp2_with fail
      refine HD.out.start.mono ?_
      rintro e w5 ⟨rfl, hE⟩
      have HE := Lib.hid hE
      clear hE
      go_wp2_with fail
      go_loopw [14] (fun i wr => ∃ r : Nat, r ≤ 10 ∧ i = .int .i64 r ∧ FEnd w b L vals ml M r wr) (fun i _ => 10 - (intOf i).toNat)
      case atStart => exact ⟨0, Nat.zero_le _, rfl, HE.out⟩
      case round =>
        obtain ⟨r, hr1, rfl, hI⟩ := hrel
        replace HE := Lib.hid hI
        clear hI
        by_cases hr : r < 10
        · go_wp2_with fail
          refine (HE.out.read hr hr1).mono ?_
          rintro e w6 ⟨v, g, x, rfl, hF, hrd, hI⟩
          obtain ⟨hLs, hv0, hL0, hL1⟩ := hI.cell hr
          have HI6 := Lib.hid hI
          have HRD := Lib.hid hrd
          have HOK := Lib.hid (okF_end hF)
          obtain ⟨vv, hvv⟩ : ∃ vv, vals.getD r 0 = vv := ⟨_, rfl⟩
          rw [hvv] at hL0 hv0 HOK
          have hx3 : x.1 = 0 ∨ x.1 = 3 := by rcases hF with rfl | ⟨rfl, _⟩ | ⟨_, _, _, rfl⟩ <;> simp
          obtain ⟨f, B⟩ := x
          simp only at hx3 HRD
          clear hI hrd hF hvv
          rcases hx3 with rfl | rfl
          all_goals rcases (show vv = 0 ∨ (vv ≠ 0 ∧ ((vv : Int) == 0) = false) by by_cases h : vv = 0 <;> simp [h]) with rfl | ⟨hvz, hvb⟩
          all_goals go_upto_block 6 with ((go_at_call 11; refine (sector_any _ _).mono ?_; rintro e w7 ⟨rfl, rfl⟩))
          · refine (same_any _ _ B (wantL 0) _ _ _ (HRD.out.touch (((Touch.refl Emp w6).alloc _).alloc _) id) (wantL_zero HZ5.out (size_alloc_one (heap_alloc_new _ _)))).mono ?_
            rintro e w8 ⟨rfl, rfl⟩
            go_upto_block 6 with fail
            go_cut [18, 19] (fun ok _ wx => ok = .bool true ∧ Touch Emp w6 wx)
            case first =>
              go_wp2_with fail
              go_loopw [18, 19] (fun ok i wr => ∃ q : Nat, q ≤ M ∧ i = .int .i64 q ∧ ok = .bool (okF 0 ml r (0, B) q) ∧ Touch Emp w6 wr) (fun _ i _ => ml.length - (intOf i).toNat)
              case atStart => exact ⟨0, Nat.zero_le _, rfl, by simp [okF], by exact ((Touch.refl Emp w6).alloc _).alloc _⟩
              case round =>
                obtain ⟨q, hq1, rfl, rfl, hT⟩ := hrel
                have HT := Lib.hid hT
                clear hT
                have hMe := HME.out
                have hn2 := HN2.out
                by_cases hlt : q < n2 ∧ q < 40
                · obtain ⟨hlt, hlt2⟩ := hlt
                  have hml : q < ml.length := by omega
                  have HqM := Lib.hid (show q + 1 ≤ M by omega)
                  clear hMe hn2
                  obtain ⟨off, rfl, hcw⟩ := H2.out.at hml (HI6.out.emp HT.out).below
                  obtain ⟨hy, hy2, hy3⟩ := slotN_bits 10 10 rfl ml[q]
                  have HS := Lib.hid (show slotN 10 (ml.getD q 0) = slotN 10 ml[q] by rw [List.getD_eq_getElem?_getD, List.getElem?_eq_getElem hml]; rfl)
                  generalize slotN 10 ml[q] = a at hy2 HS
                  generalize (ml[q] % 65536).toNat = y at hy hy2 hy3
                  generalize ml[q] = x at hcw hy
                  generalize hok : okF 0 ml r (0, B) q = ok
                  replace hok := Lib.hid hok
                  by_cases har : a = r
                  · subst har
                    cases ok
                    · go_wp2_with fail
                      refine (sector_any _ _).mono ?_
                      rintro e w9 ⟨rfl, rfl⟩
                      go_wp2_with fail
                      refine (same_any _ _ B (sectorL (2000 + (q : Int))) _ _ _ (HRD.out.touch (HT.out.alloc _) id) (sec_reads _ _)).mono ?_
                      rintro e w10 ⟨rfl, rfl⟩
                      go_wp2
                      go_roundw
                      case rel => exact ⟨q + 1, HqM.out, by go_num, by rw [okF_near HS.out, hok.out, Int.natCast_add]; rfl, HT.out.alloc _⟩
                      case measure => simp [intOf]; omega
                    · go_wp2
                      go_roundw
                      case rel => exact ⟨q + 1, HqM.out, by go_num, by rw [okF_near HS.out, hok.out]; rfl, HT.out⟩
                      case measure => simp [intOf]; omega
                  · have har' : ((a : Int) == (r : Int)) = false := by simp; omega
                    go_wp2
                    go_roundw
                    case rel => exact ⟨q + 1, HqM.out, by go_num, by rw [okF_far (by rw [HS.out]; exact har), hok.out], HT.out⟩
                    case measure => simp [intOf]; omega
                · obtain rfl : q = M := by omega
                  rcases (show (q = 40 ∧ q < n2) ∨ ¬ q < n2 by omega) with ⟨rfl, h⟩ | h
                  all_goals
                    clear hlt hMe hn2
                    go_wp2_with fail
                    go_meet
                    exact ⟨congrArg Value.bool HOK.out, HT.out⟩
            case rest =>
              obtain ⟨rfl, hT⟩ := hcut
              replace HE := Lib.hid (HI6.out.emp hT)
              clear hT
              go_wp2
              go_roundw
              case rel => exact ⟨r + 1, by omega, by go_num, HE.out⟩
              case measure => simp [intOf]; omega
          · refine (same_any _ _ B (wantL vv) _ _ _ (HRD.out.touch ((Touch.refl Emp w6).alloc _) id) (wantL_pos hvz (heap_alloc_new _ _))).mono ?_
            rintro e w8 ⟨rfl, rfl⟩
            go_upto_block 6 with fail
            go_cut [18, 19] (fun ok _ wx => ok = .bool true ∧ Touch Emp w6 wx)
            case first =>
              go_wp2_with fail
              go_loopw [18, 19] (fun ok i wr => ∃ q : Nat, q ≤ M ∧ i = .int .i64 q ∧ ok = .bool (okF vv ml r (0, B) q) ∧ Touch Emp w6 wr) (fun _ i _ => ml.length - (intOf i).toNat)
              case atStart => exact ⟨0, Nat.zero_le _, rfl, by simp [okF], by exact (Touch.refl Emp w6).alloc _⟩
              case round =>
                obtain ⟨q, hq1, rfl, rfl, hT⟩ := hrel
                have HT := Lib.hid hT
                clear hT
                have hMe := HME.out
                have hn2 := HN2.out
                by_cases hlt : q < n2 ∧ q < 40
                · obtain ⟨hlt, hlt2⟩ := hlt
                  have hml : q < ml.length := by omega
                  have HqM := Lib.hid (show q + 1 ≤ M by omega)
                  clear hMe hn2
                  obtain ⟨off, rfl, hcw⟩ := H2.out.at hml (HI6.out.emp HT.out).below
                  obtain ⟨hy, hy2, hy3⟩ := slotN_bits 10 10 rfl ml[q]
                  have HS := Lib.hid (show slotN 10 (ml.getD q 0) = slotN 10 ml[q] by rw [List.getD_eq_getElem?_getD, List.getElem?_eq_getElem hml]; rfl)
                  generalize slotN 10 ml[q] = a at hy2 HS
                  generalize (ml[q] % 65536).toNat = y at hy hy2 hy3
                  generalize ml[q] = x at hcw hy
                  generalize hok : okF vv ml r (0, B) q = ok
                  replace hok := Lib.hid hok
                  by_cases har : a = r
                  · subst har
                    cases ok
                    · go_wp2_with fail
                      refine (sector_any _ _).mono ?_
                      rintro e w9 ⟨rfl, rfl⟩
                      go_wp2_with fail
                      refine (same_any _ _ B (sectorL (2000 + (q : Int))) _ _ _ (HRD.out.touch (HT.out.alloc _) id) (sec_reads _ _)).mono ?_
                      rintro e w10 ⟨rfl, rfl⟩
                      go_wp2
                      go_roundw
                      case rel => exact ⟨q + 1, HqM.out, by go_num, by rw [okF_near HS.out, hok.out, Int.natCast_add]; rfl, HT.out.alloc _⟩
                      case measure => simp [intOf]; omega
                    · go_wp2
                      go_roundw
                      case rel => exact ⟨q + 1, HqM.out, by go_num, by rw [okF_near HS.out, hok.out]; rfl, HT.out⟩
                      case measure => simp [intOf]; omega
                  · have har' : ((a : Int) == (r : Int)) = false := by simp; omega
                    go_wp2
                    go_roundw
                    case rel => exact ⟨q + 1, HqM.out, by go_num, by rw [okF_far (by rw [HS.out]; exact har), hok.out], HT.out⟩
                    case measure => simp [intOf]; omega
                · obtain rfl : q = M := by omega
                  rcases (show (q = 40 ∧ q < n2) ∨ ¬ q < n2 by omega) with ⟨rfl, h⟩ | h
                  all_goals
                    clear hlt hMe hn2
                    go_wp2_with fail
                    go_meet
                    exact ⟨congrArg Value.bool HOK.out, HT.out⟩
            case rest =>
              obtain ⟨rfl, hT⟩ := hcut
              replace HE := Lib.hid (HI6.out.emp hT)
              clear hT
              go_wp2
              go_roundw
              case rel => exact ⟨r + 1, by omega, by go_num, HE.out⟩
              case measure => simp [intOf]; omega
          · skip
            go_cut [18, 19] (fun ok _ wx => ok = .bool true ∧ Touch Emp w6 wx)
            case first =>
              go_wp2_with fail
              go_loopw [18, 19] (fun ok i wr => ∃ q : Nat, q ≤ M ∧ i = .int .i64 q ∧ ok = .bool (okF 0 ml r (3, B) q) ∧ Touch Emp w6 wr) (fun _ i _ => ml.length - (intOf i).toNat)
              case atStart => exact ⟨0, Nat.zero_le _, rfl, by simp [okF], by exact ((Touch.refl Emp w6).alloc _).alloc _⟩
              case round =>
                obtain ⟨q, hq1, rfl, rfl, hT⟩ := hrel
                have HT := Lib.hid hT
                clear hT
                have hMe := HME.out
                have hn2 := HN2.out
                by_cases hlt : q < n2 ∧ q < 40
                · obtain ⟨hlt, hlt2⟩ := hlt
                  have hml : q < ml.length := by omega
                  have HqM := Lib.hid (show q + 1 ≤ M by omega)
                  clear hMe hn2
                  obtain ⟨off, rfl, hcw⟩ := H2.out.at hml (HI6.out.emp HT.out).below
                  obtain ⟨hy, hy2, hy3⟩ := slotN_bits 10 10 rfl ml[q]
                  have HS := Lib.hid (show slotN 10 (ml.getD q 0) = slotN 10 ml[q] by rw [List.getD_eq_getElem?_getD, List.getElem?_eq_getElem hml]; rfl)
                  generalize slotN 10 ml[q] = a at hy2 HS
                  generalize (ml[q] % 65536).toNat = y at hy hy2 hy3
                  generalize ml[q] = x at hcw hy
                  generalize hok : okF 0 ml r (3, B) q = ok
                  replace hok := Lib.hid hok
                  by_cases har : a = r
                  · subst har
                    cases ok
                    · go_wp2_with fail
                      go_roundw
                      case rel => exact ⟨q + 1, HqM.out, by go_num, by rw [okF_near HS.out, hok.out]; rfl, HT.out⟩
                      case measure => simp [intOf]; omega
                    · go_wp2
                      go_roundw
                      case rel => exact ⟨q + 1, HqM.out, by go_num, by rw [okF_near HS.out, hok.out]; rfl, HT.out⟩
                      case measure => simp [intOf]; omega
                  · have har' : ((a : Int) == (r : Int)) = false := by simp; omega
                    go_wp2
                    go_roundw
                    case rel => exact ⟨q + 1, HqM.out, by go_num, by rw [okF_far (by rw [HS.out]; exact har), hok.out], HT.out⟩
                    case measure => simp [intOf]; omega
                · obtain rfl : q = M := by omega
                  rcases (show (q = 40 ∧ q < n2) ∨ ¬ q < n2 by omega) with ⟨rfl, h⟩ | h
                  all_goals
                    clear hlt hMe hn2
                    go_wp2_with fail
                    go_meet
                    exact ⟨congrArg Value.bool HOK.out, HT.out⟩
            case rest =>
              obtain ⟨rfl, hT⟩ := hcut
              replace HE := Lib.hid (HI6.out.emp hT)
              clear hT
              go_wp2
              go_roundw
              case rel => exact ⟨r + 1, by omega, by go_num, HE.out⟩
              case measure => simp [intOf]; omega
          · skip
            go_cut [18, 19] (fun ok _ wx => ok = .bool true ∧ Touch Emp w6 wx)
            case first =>
              go_wp2_with fail
              go_loopw [18, 19] (fun ok i wr => ∃ q : Nat, q ≤ M ∧ i = .int .i64 q ∧ ok = .bool (okF vv ml r (3, B) q) ∧ Touch Emp w6 wr) (fun _ i _ => ml.length - (intOf i).toNat)
              case atStart => exact ⟨0, Nat.zero_le _, rfl, by simp [okF], by exact (Touch.refl Emp w6).alloc _⟩
              case round =>
                obtain ⟨q, hq1, rfl, rfl, hT⟩ := hrel
                have HT := Lib.hid hT
                clear hT
                have hMe := HME.out
                have hn2 := HN2.out
                by_cases hlt : q < n2 ∧ q < 40
                · obtain ⟨hlt, hlt2⟩ := hlt
                  have hml : q < ml.length := by omega
                  have HqM := Lib.hid (show q + 1 ≤ M by omega)
                  clear hMe hn2
                  obtain ⟨off, rfl, hcw⟩ := H2.out.at hml (HI6.out.emp HT.out).below
                  obtain ⟨hy, hy2, hy3⟩ := slotN_bits 10 10 rfl ml[q]
                  have HS := Lib.hid (show slotN 10 (ml.getD q 0) = slotN 10 ml[q] by rw [List.getD_eq_getElem?_getD, List.getElem?_eq_getElem hml]; rfl)
                  generalize slotN 10 ml[q] = a at hy2 HS
                  generalize (ml[q] % 65536).toNat = y at hy hy2 hy3
                  generalize ml[q] = x at hcw hy
                  generalize hok : okF vv ml r (3, B) q = ok
                  replace hok := Lib.hid hok
                  by_cases har : a = r
                  · subst har
                    cases ok
                    · go_wp2_with fail
                      go_roundw
                      case rel => exact ⟨q + 1, HqM.out, by go_num, by rw [okF_near HS.out, hok.out]; rfl, HT.out⟩
                      case measure => simp [intOf]; omega
                    · go_wp2
                      go_roundw
                      case rel => exact ⟨q + 1, HqM.out, by go_num, by rw [okF_near HS.out, hok.out]; rfl, HT.out⟩
                      case measure => simp [intOf]; omega
                  · have har' : ((a : Int) == (r : Int)) = false := by simp; omega
                    go_wp2
                    go_roundw
                    case rel => exact ⟨q + 1, HqM.out, by go_num, by rw [okF_far (by rw [HS.out]; exact har), hok.out], HT.out⟩
                    case measure => simp [intOf]; omega
                · obtain rfl : q = M := by omega
                  rcases (show (q = 40 ∧ q < n2) ∨ ¬ q < n2 by omega) with ⟨rfl, h⟩ | h
                  all_goals
                    clear hlt hMe hn2
                    go_wp2_with fail
                    go_meet
                    exact ⟨congrArg Value.bool HOK.out, HT.out⟩
            case rest =>
              obtain ⟨rfl, hT⟩ := hcut
              replace HE := Lib.hid (HI6.out.emp hT)
              clear hT
              go_wp2
              go_roundw
              case rel => exact ⟨r + 1, by omega, by go_num, HE.out⟩
              case measure => simp [intOf]; omega
        · obtain rfl : r = 10 := by omega
          go_wp2
          go_ret
          exact ⟨rfl, HE.out.below⟩

end Go.Proofs.Ytmedpmhiebcdjaa
