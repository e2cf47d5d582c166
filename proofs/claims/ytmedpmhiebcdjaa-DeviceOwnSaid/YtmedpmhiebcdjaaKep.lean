/- DeviceKept. -/
import Derived.Test.YtmedpmhiebcdjaaTwo
import Derived.Test.YtmedpmhiebcdjaaFld
import Derived.Test.YtmedpmhiebcdjaaApp
namespace Go.Proofs.Ytmedpmhiebcdjaa
open Go.RowKit

theorem one_far (s : DSt) (x : Nat × List UInt8) (c : Int) (k : Nat) (h : x.1 ≠ k) : (s.one x c).secs.getD k [] = s.secs.getD k [] ∧ (k ∈ (s.one x c).torn ↔ k ∈ s.torn) := by
  unfold DSt.one; split
  · exact ⟨by simp [DSt.settle, List.getElem?_set, h], List.mem_erase_of_ne (fun e => h e.symm)⟩
  · split
    · exact ⟨rfl, by rw [DSt.tear, mem_insT]; exact ⟨fun hc => hc.elim (fun e => absurd e.symm h) id, .inr⟩⟩
    · exact ⟨rfl, Iff.rfl⟩
theorem crashW_far : ∀ (xs : List (Nat × List UInt8)) (ks : List Int) (s : DSt) (k : Nat), (∀ x ∈ xs, x.1 ≠ k) → (DSt.crashW xs ks s).secs.getD k [] = s.secs.getD k [] ∧ (k ∈ (DSt.crashW xs ks s).torn ↔ k ∈ s.torn)
  | [], _, _, _, _ => ⟨rfl, Iff.rfl⟩
  | _ :: _, [], _, _, _ => ⟨rfl, Iff.rfl⟩
  | x :: xs, c :: ks, s, k, h => by
    have ih := crashW_far xs ks (s.one x c) k fun y hy => h y (by simp [hy])
    have h1 := one_far s x c k (h x (by simp))
    exact ⟨ih.1.trans h1.1, ih.2.trans h1.2⟩
theorem crashW_near : ∀ (xs : List (Nat × List UInt8)) (ks : List Int) (s : DSt), (xs.map (·.1)).Nodup → ∀ i (h : i < xs.length), xs[i].1 < s.secs.length → xs[i].1 ∉ s.torn →
    ((DSt.crashW xs ks s).secs.getD xs[i].1 [] = if ks.getD i 0 = 1 then xs[i].2 else s.secs.getD xs[i].1 []) ∧ (xs[i].1 ∈ (DSt.crashW xs ks s).torn ↔ ks.getD i 0 = 2)
  | _ :: _, [], s, _, i, _, _, ht => ⟨by simp [DSt.crashW], by simp [DSt.crashW, ht]⟩
  | x :: xs, c :: ks, s, hn, 0, _, hl, ht => by
    rw [List.map_cons, List.nodup_cons] at hn
    have h1 := crashW_far xs ks (s.one x c) x.1 fun y hy he => hn.1 (by rw [← he]; exact List.mem_map_of_mem hy)
    simp only [List.getElem_cons_zero, List.getD_cons_zero] at hl ht ⊢
    rw [DSt.crashW, h1.1, h1.2]
    unfold DSt.one; split
    · rename_i hc
      subst hc
      refine ⟨by simp [DSt.settle, hl], ?_⟩
      simp only [DSt.settle]
      exact ⟨fun h => absurd (List.mem_of_mem_erase h) ht, fun h => by cases h⟩
    · split
      · rename_i hc; subst hc
        refine ⟨rfl, ?_⟩
        rw [DSt.tear, mem_insT]
        exact ⟨fun _ => rfl, fun _ => .inl rfl⟩
      · rename_i h1 h2
        exact ⟨rfl, fun h => absurd h ht, fun h => absurd h h2⟩
  | x :: xs, c :: ks, s, hn, i + 1, h, hl, ht => by
    rw [List.map_cons, List.nodup_cons] at hn
    have hi : i < xs.length := by simpa using h
    have hx : x.1 ≠ (xs[i]'hi).1 := fun he => hn.1 (by rw [he]; exact List.mem_map_of_mem (List.getElem_mem _))
    have h1 := one_far s x c (xs[i]'hi).1 hx
    have ih := crashW_near xs ks (s.one x c) hn.2 i hi (by rw [one_secs]; exact hl) (fun hc => ht (h1.2.1 hc))
    simp only [List.getElem_cons_succ, List.getD_cons_succ] at hl ht ⊢
    rw [DSt.crashW, ih.1, ih.2, h1.1]
    exact ⟨rfl, Iff.rfl⟩

def keptW (n : Nat) : List (Nat × List UInt8) := (List.range n).map fun i => (i, sectorL ((i + 1 : Nat) : Int))
theorem keptW_succ (n : Nat) : keptW (n + 1) = keptW n ++ [(n, sectorL ((n + 1 : Nat) : Int))] := by unfold keptW; rw [List.range_succ, List.map_append]; rfl
/-- What a sector is behind the crash, by its own number. -/
def keptL (how : Int) (i : Nat) : Int × List UInt8 := if how = 1 then (0, sectorL ((i + 1 : Nat) : Int)) else if how = 2 then (3, []) else (0, zerosL 512)
theorem crash_kept {s : DSt} {n i : Nat} {keep : List Int} (hw : s.waits = keptW n) (hs : s.secs = List.replicate n (zerosL 512)) (ht : s.torn = []) (hi : i < n) : (s.crash keep).look i = keptL (keep.getD i 0) i := by
  have hl : (s.crash keep).look i = if i ∈ (DSt.crashW s.waits keep s).torn then (3, []) else (0, (DSt.crashW s.waits keep s).secs.getD i []) := look_none rfl
  have hnd : ((keptW n).map (·.1)).Nodup := by
    have : (keptW n).map (·.1) = List.range n := by unfold keptW; rw [List.map_map]; exact List.map_id' _
    rw [this]; exact List.nodup_range
  have hi' : i < (keptW n).length := by simp [keptW, hi]
  have hx : (keptW n)[i] = (i, sectorL ((i + 1 : Nat) : Int)) := by simp [keptW]
  have h := crashW_near (keptW n) keep s hnd i hi' (by rw [hx, hs]; simpa using hi) (by rw [hx, ht]; simp)
  rw [hx] at h
  simp only at h
  rw [hl, hw, h.1]
  unfold keptL
  by_cases h1 : keep.getD i 0 = 1
  · rw [if_pos h1, if_pos h1, if_neg (by rw [h.2, h1]; decide)]
  · rw [if_neg h1, if_neg h1]
    by_cases h2 : keep.getD i 0 = 2
    · rw [if_pos (h.2.2 h2), if_pos h2]
    · rw [if_neg (fun hc => h2 (h.2.1 hc)), if_neg h2, hs]
      simp [List.getD, hi]

/-- A device that is up behind the crash. -/
structure Ready (s : DSt) (n r : Nat) (K : List Int) : Prop where
  calm : s.Calm
  secs : s.secs.length = n
  counts : s.waits.length ≤ 100 + r ∧ s.reads ≤ 100 + r ∧ s.writes ≤ 100 + r ∧ s.flushes ≤ 100 + r
  look : ∀ i, i < n → s.look i = keptL (K.getD i 0) i
theorem Ready.incR {s : DSt} {n r : Nat} {K : List Int} (h : Ready s n r K) : Ready s.incR n (r + 1) K :=
  ⟨h.calm.incR, h.secs, by have := h.counts; simp only [DSt.incR]; omega, h.look⟩
theorem Ready.of_crash {s : DSt} {n c : Nat} {keep K : List Int} (hu : s.Up n c) (hc : c ≤ 100) (hw : s.waits = keptW n) (hs : s.secs = List.replicate n (zerosL 512)) (hK : ∀ i, i < n → keep.getD i 0 = K.getD i 0) :
    Ready (s.crash keep).start n 0 K ∧ (s.crash keep).startErr = 0 := by
  have hf := crashW_flags s.waits keep s
  refine ⟨⟨⟨rfl, rfl⟩, (crashW_secs _ _ _).trans hu.secs, ⟨Nat.zero_le _, ?_, ?_, ?_⟩, fun i hi => ?_⟩, if_pos rfl⟩
  · have := hu.reads; show (DSt.crashW s.waits keep s).reads ≤ 100; omega
  · have := hu.writes; show (DSt.crashW s.waits keep s).writes ≤ 100; omega
  · have := hu.flushes; show (DSt.crashW s.waits keep s).flushes ≤ 100; omega
  · have := crash_kept (keep := keep) hw hs hu.torn hi
    rw [hK i hi] at this
    exact this

theorem Came.cut {w : World} {a : Option Addr} {l : List Int} {g : Nat} (h : Came w a l g) (n : Nat) : Came w a (l.take n) g := by
  intro h0
  obtain ⟨off, ha, hc⟩ := h fun e => h0 (by rw [e]; simp)
  exact ⟨off, ha, fun i hi => by rw [List.getElem_take]; exact hc i (by rw [List.length_take] at hi; omega)⟩
theorem Came.add0 {w : World} {a : Option Addr} {l : List Int} {g : Nat} (h : Came w a l g) : Came w (a.map fun x => x.add 0) l g := by
  intro h0
  obtain ⟨off, rfl, hc⟩ := h h0
  exact ⟨off, by simp [Addr.add], hc⟩

theorem Came.ireads {w wr : World} {a : Option Addr} {l : List Int} {g n c : Nat} (h : Came w a l g) (hn : l.length = n) (hB : Below w.heap.size w wr) : IReads wr (.slice a n c) l g ∧ (l ≠ [] → g < w.heap.size) := by
  subst hn
  by_cases h0 : l = []
  · subst h0
    exact ⟨⟨0, c, .inr ⟨⟨a, rfl⟩, rfl⟩⟩, fun h => absurd rfl h⟩
  · have hpos : 0 < l.length := List.length_pos_iff.2 h0
    obtain ⟨off, rfl, hc⟩ := h h0
    have hlt := World.block_lt_of_cell? w _ (hc 0 hpos)
    exact ⟨⟨off, c, .inl ⟨rfl, fun i hi => by rw [hB.cell (p := ⟨g, off + i, none⟩) hlt]; exact hc i hi⟩⟩, fun _ => hlt⟩
theorem Duo.lt0 {w : World} {b1 b2 : Nat} {s1 s2 : DSt} {X : Nat → Prop} (h : Duo w b1 s1 b2 s2 X) : b1 < w.heap.size := by
  obtain ⟨F1, F2, ⟨gs, S, wv, W, bm, es, clk, kv, h⟩, _⟩ := h
  exact lt_of_heap h.dev
/-- Ahead of the crash. -/
structure KPre (w : World) (ba bb n k : Nat) (wr : World) : Prop where
  ex : ∃ s : DSt, Duo wr ba s bb s (fun k => k < w.heap.size) ∧ s.Up n k ∧ s.waits = keptW k ∧ s.secs = List.replicate n (zerosL 512) ∧ Below w.heap.size w wr

/-- Between the two writes of a round. -/
structure KHalf (w : World) (ba bb n k : Nat) (wr : World) : Prop where
  ex : ∃ s : DSt, Duo wr ba (s.wrote k (sectorL ((k + 1 : Nat) : Int))) bb s (fun k => k < w.heap.size) ∧ s.Up n k ∧ s.waits = keptW k ∧ s.secs = List.replicate n (zerosL 512) ∧ Below w.heap.size w wr
theorem KPre.put1 {w wr : World} {ba bb n k : Nat} (h : KPre w ba bb n k wr) (hk : k < n) (hn : n ≤ 30) {xi : Int} (hx : ((k + 1 : Nat) : Int) = xi) :
    Calls Try.prog 10 #[.pointer (some ⟨ba, 0, none⟩), .int .i64 (k : Int), .slice (some ⟨wr.heap.size, 0, none⟩) 512 512] (wr.alloc (.cells (rowA (sectorL xi)) 5)) fun e w' =>
      e = .returned (.int .i64 0) ∧ KHalf w ba bb n k w' := by
  subst hx
  obtain ⟨s, h1, h2, h3, h4, h5⟩ := h
  have hw := h2.calm.write (a := k) (l := sectorL ((k + 1 : Nat) : Int)) (by rw [h2.secs]; exact hk) (sectorL_length _)
  refine (h1.put (h2.fit (by omega)) (k : Int) _ 0 hw.1).mono ?_
  rintro e w' ⟨he, hq, hD⟩
  rw [hw.2] at hD
  exact ⟨he, s, hD, h2, h3, h4, h5.trans (hq.below (fun _ h => h) h5.size)⟩
theorem KHalf.put2 {w wr : World} {ba bb n k : Nat} (h : KHalf w ba bb n k wr) (hk : k < n) (hn : n ≤ 30) {xi : Int} (hx : ((k + 1 : Nat) : Int) = xi) :
    Calls Try.prog 10 #[.pointer (some ⟨bb, 0, none⟩), .int .i64 (k : Int), .slice (some ⟨wr.heap.size, 0, none⟩) 512 512] (wr.alloc (.cells (rowA (sectorL xi)) 5)) fun e w' =>
      e = .returned (.int .i64 0) ∧ KPre w ba bb n (k + 1) w' := by
  subst hx
  obtain ⟨s, h1, h2, h3, h4, h5⟩ := h
  have hw := h2.calm.write (a := k) (l := sectorL ((k + 1 : Nat) : Int)) (by rw [h2.secs]; exact hk) (sectorL_length _)
  refine (h1.swap.put (h2.fit (by omega)) (k : Int) _ 0 hw.1).mono ?_
  rintro e w' ⟨he, hq, hD⟩
  rw [hw.2] at hD
  refine ⟨he, s.wrote k _, hD.swap, h2.wrote k _, ?_, h4, h5.trans (hq.below (fun _ h => h) h5.size)⟩
  show s.waits ++ _ = _
  rw [h3, keptW_succ]
theorem KPre.drew {w wr : World} {ba bb n k : Nat} (h : KPre w ba bb n k wr) : KPre w ba bb n k wr.drew := by
  obtain ⟨s, h1, h2, h3, h4, h5⟩ := h
  exact ⟨s, h1.emp (Touch.refl _ _).drew, h2, h3, h4, h5.drew⟩
theorem KHalf.drew {w wr : World} {ba bb n k : Nat} (h : KHalf w ba bb n k wr) : KHalf w ba bb n k wr.drew := by
  obtain ⟨s, h1, h2, h3, h4, h5⟩ := h
  exact ⟨s, h1.emp (Touch.refl _ _).drew, h2, h3, h4, h5.drew⟩

/-- Behind the first one's crash. -/
structure KMid (w : World) (ba bb n : Nat) (K : List Int) (X : Nat → Prop) (wr : World) : Prop where
  ex : ∃ s : DSt, Duo wr ba (s.crash K) bb s X ∧ s.Up n n ∧ s.waits = keptW n ∧ s.secs = List.replicate n (zerosL 512) ∧ Below w.heap.size w wr ∧ ∀ k, k < w.heap.size → X k
theorem KPre.crash {w wr : World} {ba bb n m0 c0 : Nat} {a0 : Option Addr} {K : List Int} {g : Nat} (h : KPre w ba bb n n wr) (hn : n ≤ 30) (hK : Came w a0 K g) (hl : K.length = m0) :
    Calls Try.prog 13 #[.pointer (some ⟨ba, 0, none⟩), .slice a0 m0 c0] wr fun e w' => e = .returned (.tuple #[]) ∧ KMid w ba bb n K (fun k => k < w.heap.size) w' := by
  obtain ⟨s, h1, h2, h3, h4, h5⟩ := h
  have hr := hK.ireads (c := c0) hl h5
  refine (h1.crash (h2.fit (by omega)) _ K g hr.1 hr.2).mono ?_
  rintro e w' ⟨he, hk, hD⟩
  exact ⟨he, s, hD, h2, h3, h4, h5.trans (hk.below (fun _ h => h) h5.size), fun _ h => h⟩

theorem KMid.below {w wr : World} {ba bb n : Nat} {K : List Int} {X : Nat → Prop} (h : KMid w ba bb n K X wr) : Below w.heap.size w wr := by
  obtain ⟨s, h1, h2, h3, h4, h5, h6⟩ := h
  exact h5
theorem KMid.own {w w5 w7 : World} {ba bb n g : Nat} {K : List Int} {X : Nat → Prop} (h : KMid w ba bb n K X w5) (ht : Touch Emp w5 w7) (hg : w5.heap.size ≤ g) (hg' : g < w7.heap.size) : KMid w ba bb n K (Or1 X g) w7 := by
  obtain ⟨s, h1, h2, h3, h4, h5, h6⟩ := h
  refine ⟨s, h1.grow (ht.mono fun _ _ h => h.elim) ?_, h2, h3, h4, h5.trans (ht.below.mono h5.size), fun k hk => .inl (h6 k hk)⟩
  rintro k (hk | rfl)
  · exact ⟨Nat.lt_of_lt_of_le (h1.lt hk) ht.size, .inl hk⟩
  · exact ⟨hg', .inr hg⟩
theorem ireads_own {w : World} {g cap : Nat} {l : List Int} {c : Array Value} (h : w.heap[g]? = some (.cells c 3 (0, 0))) (hc : c.toList.take l.length = l.map (Value.int .i64)) : IReads w (.slice (some ⟨g, 0, none⟩) l.length cap) l g := by
  refine ⟨0, cap, .inl ⟨rfl, fun i hi => ?_⟩⟩
  rw [cell_of_row w g _ _ _ _ h]
  have h1 : (c.toList.take l.length)[0 + i]? = c[0 + i]? := by rw [List.getElem?_take, if_pos (by omega)]; simp
  rw [← h1, hc]
  simp [hi]

theorem own_block_ge {w : World} {base e size n : Nat} {v : Value} {xs : List Value} (h : w.ownsRow base e size v n xs) {k : Nat} (hk : v.ownBlock = some k) : base ≤ k := by
  rcases h.2 with ⟨rfl, _⟩ | ⟨g, cap, cur, rfl, hb, _⟩
  · simp [Value.ownBlock] at hk
  · simp [Value.ownBlock] at hk; omega
theorem ireads_at {w : World} {a : Option Addr} {n c : Nat} {K : List Int} {g i : Nat} (h : IReads w (.slice a n c) K g) (hi : i < K.length) : n = K.length ∧ ∃ off, a = some ⟨g, off, none⟩ ∧ w.cell? ⟨g, off + i, none⟩ = some (.int .i64 K[i]) := by
  obtain ⟨off, cap, ⟨he, hc⟩ | ⟨_, rfl⟩⟩ := h
  · cases he
    exact ⟨rfl, off, rfl, hc i hi⟩
  · simp at hi
theorem sec_at {w : World} {g : Nat} {a : Int} (h : w.heap[g]? = some (.cells (rowA (sectorL a)) 5)) : Reads w (.slice (some ⟨g, 0, none⟩) 512 512) (sectorL a) g := by
  have h : ByteRow w g (sectorL a) := h
  have := h.reads 512
  rwa [sectorL_length] at this
theorem zero_at {w : World} {g : Nat} {Z : Array Value} (hz : Z = rowA (zerosL 512)) (h : w.heap[g]? = some (.cells Z 5)) : Reads w (.slice (some ⟨g, 0, none⟩) 512 512) (zerosL 512) g := wantL_zero hz h
/-- Behind both crashes, up again, and so many reads of each. -/
structure KEnd (w : World) (ba bb n : Nat) (K K' : List Int) (X : Nat → Prop) (kv : Value) (g : Nat) (r : Nat) (wr : World) : Prop where
  ex : ∃ s1 s2 : DSt, Duo wr ba s1 bb s2 X ∧ Ready s1 n r K ∧ Ready s2 n r K ∧ Below w.heap.size w wr ∧ (∀ k, k < w.heap.size → X k) ∧ IReads wr kv K' g ∧ (K' ≠ [] → X g)
theorem IReads.keep {w w' : World} {v : Value} {K : List Int} {g : Nat} {X : Nat → Prop} (h : IReads w v K g) (hk : Keep X w w') (hg : K ≠ [] → X g) : IReads w' v K g := by
  by_cases h0 : K = []
  · subst h0
    obtain ⟨off, cap, ⟨rfl, _⟩ | ⟨ha, _⟩⟩ := h
    · exact ⟨off, cap, .inr ⟨⟨_, rfl⟩, rfl⟩⟩
    · exact ⟨off, cap, .inr ⟨ha, rfl⟩⟩
  · exact h.touch hk fun hc => hc (hg h0)
theorem Reads.keep {w w' : World} {v : Value} {l : List UInt8} {g : Nat} {X : Nat → Prop} (h : Reads w v l g) (hk : Keep X w w') (hg : l ≠ [] → X g) : Reads w' v l g := by
  by_cases h0 : l = []
  · subst h0
    obtain ⟨off, cap, ⟨rfl, _⟩ | ⟨ha, _⟩⟩ := h
    · exact ⟨off, cap, .inr ⟨⟨_, rfl⟩, rfl⟩⟩
    · exact ⟨off, cap, .inr ⟨ha, rfl⟩⟩
  · exact h.touch hk fun hc => hc (hg h0)
structure KRd (w : World) (ba bb n : Nat) (K K' : List Int) (X : Nat → Prop) (kv : Value) (g : Nat) (r : Nat) (v : Value) (l : List UInt8) (wr : World) : Prop where
  ex : ∃ (s1 s2 : DSt) (X' : Nat → Prop) (gv : Nat), Duo wr ba s1 bb s2 X' ∧ (∀ k, X k → X' k) ∧ Ready s1 n (r + 1) K ∧ Ready s2 n r K ∧ Below w.heap.size w wr ∧ (∀ k, k < w.heap.size → X k) ∧ IReads wr kv K' g ∧ (K' ≠ [] → X g) ∧ Reads wr v l gv ∧ (l ≠ [] → X' gv)
theorem KEnd.read1 {w wr : World} {ba bb n g r i : Nat} {K K' : List Int} {X : Nat → Prop} {kv : Value} {f : Int} {B : List UInt8} (h : KEnd w ba bb n K K' X kv g r wr) (hi : i < n) (hr : r ≤ 40) (hx : keptL (K.getD i 0) i = (f, B)) :
    Calls Try.prog 16 #[.pointer (some ⟨ba, 0, none⟩), .int .i64 (i : Int)] wr fun e w' => ∃ v, e = .returned (.tuple #[v, .int .i64 f]) ∧ KRd w ba bb n K K' X kv g r v B w' := by
  obtain ⟨s1, s2, h1, h2, h3, h4, h5, h6, h7⟩ := h
  have hc := h2.counts
  have hrd := h2.calm.read (a := i) (by rw [h2.secs]; exact hi)
  rw [h2.look i hi, hx] at hrd
  refine (h1.read ⟨by omega, by omega, by omega, by omega⟩ (i : Int) f B hrd.1).mono ?_
  rintro e w' ⟨v, gv, he, hk, hR, hD, hD'⟩
  rw [hrd.2] at hD hD'
  have hB := h4.trans (hk.below h5 h4.size)
  by_cases hl : B = []
  · exact ⟨v, he, s1.incR, s2, X, gv, hD, fun _ h => h, h2.incR, h3, hB, h5, h6.keep hk h7, h7, hR, fun h => absurd hl h⟩
  · exact ⟨v, he, s1.incR, s2, Or1 X gv, gv, hD' hl, fun _ h => .inl h, h2.incR, h3, hB, h5, h6.keep hk h7, h7, hR, fun _ => .inr rfl⟩
theorem KRd.read2 {w wr : World} {ba bb n g r i : Nat} {K K' : List Int} {X : Nat → Prop} {kv v : Value} {l : List UInt8} {f : Int} {B : List UInt8} (h : KRd w ba bb n K K' X kv g r v l wr) (hi : i < n) (hr : r ≤ 40) (hx : keptL (K.getD i 0) i = (f, B)) :
    Calls Try.prog 16 #[.pointer (some ⟨bb, 0, none⟩), .int .i64 (i : Int)] wr fun e w' => ∃ v2 gv g2, e = .returned (.tuple #[v2, .int .i64 f]) ∧ KEnd w ba bb n K K' X kv g (r + 1) w' ∧
      Reads w' v l gv ∧ Reads w' v2 B g2 := by
  obtain ⟨s1, s2, X', gv, h1, hX, h2, h3, h4, h5, h6, h7, h8, h9⟩ := h
  have hc := h3.counts
  have hrd := h3.calm.read (a := i) (by rw [h3.secs]; exact hi)
  rw [h3.look i hi, hx] at hrd
  refine (h1.swap.read ⟨by omega, by omega, by omega, by omega⟩ (i : Int) f B hrd.1).mono ?_
  rintro e w' ⟨v2, g2, he, hk, hR, hD, _⟩
  rw [hrd.2] at hD
  exact ⟨v2, gv, g2, he, ⟨s1, s2.incR, (hD.mono hX).swap, h2, h3.incR, h4.trans (hk.below (fun k hk => hX k (h5 k hk)) h4.size), h5, h6.keep hk fun h => hX _ (h7 h), h7⟩, h8.keep hk h9, hR⟩
theorem KEnd.below {w wr : World} {ba bb n g r : Nat} {K K' : List Int} {X : Nat → Prop} {kv : Value} (h : KEnd w ba bb n K K' X kv g r wr) : Below w.heap.size w wr := by
  obtain ⟨s1, s2, h1, h2, h3, h4, h5, h6, h7⟩ := h
  exact h4
theorem KEnd.reads {w wr : World} {ba bb n g r : Nat} {K K' : List Int} {X : Nat → Prop} {kv : Value} (h : KEnd w ba bb n K K' X kv g r wr) : IReads wr kv K' g := by
  obtain ⟨s1, s2, h1, h2, h3, h4, h5, h6, h7⟩ := h
  exact h6
theorem KEnd.emp {w wr wq : World} {ba bb n g r : Nat} {K K' : List Int} {X : Nat → Prop} {kv : Value} (h : KEnd w ba bb n K K' X kv g r wr) (ht : Touch Emp wr wq) : KEnd w ba bb n K K' X kv g r wq := by
  obtain ⟨s1, s2, h1, h2, h3, h4, h5, h6, h7⟩ := h
  exact ⟨s1, s2, h1.emp ht, h2, h3, h4.trans (ht.below.mono h4.size), h5, h6.touch ht id, h7⟩

set_option maxRecDepth 100000 in
set_option maxHeartbeats 4000000 in
theorem kept_walk (n0 : Int) (a1 a2 : Option Addr) (n1 n2 : Nat) (c1 c2 : Nat) (l ml : List Int) (g1 g2 : Nat) (w : World) (hn1 : l.length = n1) (hn2 : ml.length = n2)
    (hc1 : n1 ≤ c1) (hc2 : ∀ k c, Value.slice a2 n2 c2 = .slice none k c → c = 0) (h1 : Came w a1 l g1) (h2 : Came w a2 ml g2) (hm : ml.length * 8 ≤ 140737488351232) :
    Calls Try.prog 6 #[.int .i64 n0, .slice a1 n1 c1, .slice a2 n2 c2] w fun e w' => e = .returned (.bool true) ∧ Below w.heap.size w w' := by
  have HN1 := Lib.hid hn1
  have HN2 := Lib.hid hn2
  have H1 := Lib.hid h1
  have H2 := Lib.hid h2
  have HM := Lib.hid hm
  have HC2 := Lib.hid hc2
  clear hn1 hn2 h1 h2 hm hc2
  obtain ⟨Z5, hmk5, hz5⟩ : ∃ Z, (∀ W, (Instr.makeSlice 29 (.int .i64 512) (.int .i64 512)).run Try.prog W = .ok (.slice (some ⟨W.heap.size, 0, none⟩) 512 512) (W.alloc (.cells Z 5))) ∧ Z = rowA (zerosL 512) := ⟨_, run_make512, rfl⟩
  have HZ5 := Lib.hid hz5
  clear hz5
  obtain ⟨hy, hy2, hy3⟩ := slotN_bits 30 30 rfl n0
  have ha := slotN_lt 30 n0 (by omega)
  obtain ⟨n, hn⟩ : ∃ n, n = slotN 30 n0 + 1 := ⟨_, rfl⟩
  have hz : 1 + (slotN 30 n0 : Int) = (n : Int) := by omega
  have hn30 : n ≤ 30 := by omega
  have hn1' : 1 ≤ n := by omega
  clear hn
  generalize slotN 30 n0 = z at hy2 ha hz
  generalize (n0 % 65536).toNat = y at hy hy2 hy3
  go_enter Try.func6, Try.ntmps6
  go_wp2_with fail
  refine (shown_any w).mono ?_
  rintro e w1 ⟨rfl, hT⟩
  go_wp2_with fail
  refine (new_has n w1 hn1' (by omega)).mono ?_
  rintro e w2 ⟨rfl, ht1, -, hq1⟩
  go_wp2_with fail
  refine (new_has n w2 hn1' (by omega)).mono ?_
  rintro e w3 ⟨rfl, ht2, -, hq2⟩
  have hD := two_new (w := w2) hq1 hq2 rfl ht2
  replace hD := hD.mono (Y := fun k => k < w.heap.size) fun k hk => Nat.lt_of_lt_of_le hk hT.size
  replace hT := (hT.trans (ht1.below.mono hT.size))
  replace hT := hT.trans (ht2.below.mono hT.size)
  have hK : KPre w (w1.heap.size + 2) (w2.heap.size + 2) n 0 w3 := ⟨DSt.new n, hD, new_up n, rfl, rfl, hT⟩
  have HK := Lib.hid hK
  clear hK hD hT ht1 ht2 hq1 hq2
  generalize w1.heap.size + 2 = ba at HK ⊢
  generalize w2.heap.size + 2 = bb at HK ⊢
  go_upto_region 7 with fail
  go_cut [1] (fun v wx => ∃ a c, v = .slice a (min n1 n) c ∧ Came w a (l.take n) g1 ∧ wx = w3)
  case first =>
    rcases (show (n1 ≤ n ∧ min (n1 : Int) (n : Int) = n1 ∧ min n1 n = n1) ∨ (n < n1 ∧ min (n1 : Int) (n : Int) = n ∧ min n1 n = n) by omega) with ⟨hm0, hm1, hm2⟩ | ⟨hm0, hm1, hm2⟩
    all_goals rcases (show (c1 = 0 ∧ n1 = 0) ∨ 0 < c1 by omega) with ⟨rfl, rfl⟩ | hc0
    all_goals try (exfalso; omega)
    all_goals go_wp2_with fail
    all_goals go_meet
    all_goals exact ⟨_, _, by rw [hm2], by first | exact H1.out.cut n | exact (H1.out.cut n).add0, rfl⟩
  case rest =>
    obtain ⟨a0, c0, rfl, h0, rfl⟩ := hcut
    have H0 := Lib.hid h0
    have HL0 := Lib.hid (show (l.take n).length = min n1 n by rw [List.length_take, HN1.out]; omega)
    generalize l.take n = K at H0 HL0
    clear h0 H1 HN1 hc1
    have hm3 : min n1 n ≤ n := by omega
    generalize min n1 n = m0 at HL0 hm3 ⊢
    go_wp2_with fail
    go_loopw [12] (fun i wr => ∃ k : Nat, k ≤ n ∧ i = .int .i64 k ∧ KPre w ba bb n k wr) (fun i _ => n - (intOf i).toNat)
    case atStart => exact ⟨0, Nat.zero_le _, rfl, HK.out⟩
    case round =>
      obtain ⟨k, hk1, rfl, hI⟩ := hrel
      replace HK := Lib.hid hI
      clear hI
      by_cases hlt : k < n
      · go_wp2_with fail
        refine (sector_any _ _).mono ?_
        rintro e w5 ⟨rfl, rfl⟩
        go_wp2_with fail
        refine (HK.out.put1 hlt hn30 (by rw [Int.natCast_add]; rfl)).mono ?_
        rintro e w5 ⟨rfl, hI⟩
        have HH := Lib.hid hI
        clear hI
        go_wp2_with fail
        refine (sector_any _ _).mono ?_
        rintro e w6 ⟨rfl, rfl⟩
        go_wp2_with fail
        refine (HH.out.put2 hlt hn30 (by rw [Int.natCast_add]; rfl)).mono ?_
        rintro e w6 ⟨rfl, hI⟩
        replace HK := Lib.hid hI
        clear hI HH
        go_wp2
        go_roundw
        case rel => exact ⟨k + 1, by omega, by go_num, HK.out⟩
        case measure => simp [intOf]; omega
      · obtain rfl : k = n := by omega
        go_wp2_with fail
        refine (HK.out.crash hn30 H0.out HL0.out).mono ?_
        rintro e w5 ⟨rfl, hI⟩
        have HMI := Lib.hid hI
        clear hI
        go_upto_if 82 with fail
        go_cut [1] (fun v wx => ∃ (a : Option Addr) (c : Nat) (K' : List Int) (g : Nat) (X : Nat → Prop), v = .slice a K'.length c ∧ IReads wx (.slice a K'.length c) K' g ∧ (K' ≠ [] → X g) ∧ (∀ i, i < k → K'.getD i 0 = K.getD i 0) ∧ KMid w ba bb k K X wx)
        case first =>
          by_cases hmn : m0 = k
          · subst hmn
            have hK0 : K ≠ [] := by intro h; have := HL0.out; rw [h] at this; simp at this; omega
            have HNIL := Lib.hid (show ∀ k c, Value.slice a0 m0 c0 = .slice none k c → c = 0 by obtain ⟨off, rfl, _⟩ := H0.out hK0; intro k c h; cases h)
            have HB := Lib.hid (HMI.out.below.alloc HMI.out.below.size (.cells #[] 3))
            have HKV := Lib.hid (H0.out.ireads (c := c0) HL0.out HB.out).1.vals
            have HO := Lib.hid (show (w5.alloc (.cells #[] 3)).ownsRow w5.heap.size 3 1 (.slice (some ⟨w5.heap.size, 0, none⟩) 0 0) 0 [] from World.ownsRow_made w5 #[] 0 (Nat.le_refl _) (Nat.zero_le _) rfl)
            have HONE := Lib.hid (show ∀ (l : List Int), ∀ u ∈ l.map (Value.int .i64), u.oneCell' = true by intro l u hu; obtain ⟨x, _, rfl⟩ := List.mem_map.1 hu; rfl)
            have HMX := Lib.hid (show 0 + (K.map (Value.int .i64)).length ≤ maxLen ∧ (0 + (K.map (Value.int .i64)).length) * 8 ≤ 140737488355328 by rw [List.length_map, HL0.out]; unfold maxLen; omega)
            have HMY := Lib.hid (show 0 + (K.map (Value.int .i64)).length + (ml.map (Value.int .i64)).length ≤ maxLen ∧ (0 + (K.map (Value.int .i64)).length + (ml.map (Value.int .i64)).length) * 8 ≤ 140737488355328 by
              rw [List.length_map, List.length_map, HL0.out]; have := HM.out; unfold maxLen; omega)
            obtain ⟨i0, hi, hz0, hz1, hz2⟩ := info_parts Try.info3
            go_wp2_with (first
              | (at_builtin; refine wpList_append_v rfl (.tmp 83) (.tmp 84) 22 rfl w5.heap.size 3 i0 (.int .i64 0) 8 Try.underlying22 hi hz0 hz1 hz2 rfl (.slice (some ⟨w5.heap.size, 0, none⟩) 0 0) 0 [] rfl HO.out _ (K.map (Value.int .i64)) g1 rfl HKV.out HNIL.out (HONE.out K) HMX.out.1 HMX.out.2 (by simp) ?_; intro v1 w6 hown hgrow; have HO1 := Lib.hid hown; have HG1 := Lib.hid hgrow; have HB1 := Lib.hid (show Below w.heap.size w w6 from HB.out.grown hgrow HB.out.size (by intro k hk; simp [Value.ownBlock] at hk; have := HMI.out.below.size; omega)); have HKV2 := Lib.hid (H2.out.ireads (c := c2) HN2.out HB1.out).1.vals; clear hown hgrow)
              | (at_builtin; refine wpList_append_v rfl (.tmp 85) (.tmp 86) 22 rfl w5.heap.size 3 i0 (.int .i64 0) 8 Try.underlying22 hi hz0 hz1 hz2 rfl v1 _ _ rfl HO1.out _ (ml.map (Value.int .i64)) g2 rfl HKV2.out HC2.out (HONE.out ml) HMY.out.1 HMY.out.2 (by have := HG1.out.size; simp at this; omega) ?_; intro v2 w7 hown hgrow; have HO2 := Lib.hid hown; have HG2 := Lib.hid hgrow; clear hown hgrow))
            go_meet
            have hown : w7.ownsRow w5.heap.size 3 1 v2 (0 + (K.map (Value.int .i64)).length + (ml.map (Value.int .i64)).length) ((K ++ ml).map (Value.int .i64)) := by
              have := HO2.out; rwa [List.nil_append, ← List.map_append] at this
            obtain ⟨a, cap, rfl, hne⟩ := own_ints hown
            obtain ⟨g, rfl, hg1, hg2, c, hc1, hc2⟩ := hne (by simp [hK0])
            have hT : Touch Emp w5 w7 := Touch.of_below ((((Below.refl w5.heap.size w5).alloc (Nat.le_refl _) _).grown HG1.out (by simp) (by intro k hk; simp [Value.ownBlock] at hk; omega)).grown HG2.out (by have := HG1.out.size; simp at this; omega) fun k hk => own_block_ge HO1.out hk)
            exact ⟨_, cap, K ++ ml, g, Or1 _ g, rfl, ireads_own hc1 hc2, fun _ => .inr rfl, fun i hi => by rw [List.getD, List.getD, List.getElem?_append_left (by rw [HL0.out]; exact hi)], HMI.out.own hT hg1 hg2⟩
          · go_wp2_with fail
            go_meet
            have hr := H0.out.ireads (c := c0) HL0.out HMI.out.below
            have e := HL0.out
            subst e
            exact ⟨a0, c0, K, g1, _, rfl, hr.1, hr.2, fun _ _ => rfl, HMI.out⟩
        case rest =>
          obtain ⟨a3, c3, K', g', X, rfl, hi, hX, hK, s, hD, hU, hW, hS, hB, hX0⟩ := hcut
          have HRA := Lib.hid (Ready.of_crash (keep := K) (K := K) hU (by omega) hW hS fun _ _ => rfl)
          have HRB := Lib.hid (Ready.of_crash (keep := K') (K := K) hU (by omega) hW hS hK)
          have HX := Lib.hid hX
          have HX0 := Lib.hid hX0
          have HI := Lib.hid hi
          have HD := Lib.hid hD
          have HB := Lib.hid hB
          have HU := Lib.hid (hU.fit (by omega))
          have HKK := Lib.hid hK
          clear hX hX0 hi hD hB hU hW hS hK H0 H2 HC2 HM HN2 HL0
          go_wp2_with fail
          refine (HD.out.swap.crash HU.out _ K' g' HI.out HX.out).mono ?_
          rintro e w6 ⟨rfl, hk, hD⟩
          replace HI := Lib.hid (HI.out.keep hk HX.out)
          replace HB := Lib.hid (HB.out.trans (hk.below HX0.out HB.out.size))
          replace HD := Lib.hid hD
          clear hk hD
          go_wp2_with fail
          refine HD.out.swap.start.mono ?_
          rw [HRA.out.2]
          rintro e w7 ⟨rfl, hk, hD⟩
          replace HI := Lib.hid (HI.out.keep hk HX.out)
          replace HB := Lib.hid (HB.out.trans (hk.below HX0.out HB.out.size))
          replace HD := Lib.hid hD
          clear hk hD
          go_wp2_with fail
          refine HD.out.swap.start.mono ?_
          rw [HRB.out.2]
          rintro e w8 ⟨rfl, hk, hD⟩
          have HE : Hid (KEnd w ba bb k K K' X (.slice a3 K'.length c3) g' 0 w8) := Lib.hid ⟨_, _, hD.swap, HRA.out.1, HRB.out.1, HB.out.trans (hk.below HX0.out HB.out.size), HX0.out, HI.out.keep hk HX.out, HX.out⟩
          clear hk hD HD HI HB
          go_wp2_with fail
          go_loopw [13] (fun i wr => ∃ r : Nat, r ≤ k ∧ i = .int .i64 r ∧ KEnd w ba bb k K K' X (.slice a3 K'.length c3) g' r wr) (fun i _ => k - (intOf i).toNat)
          case atStart => exact ⟨0, Nat.zero_le _, rfl, HE.out⟩
          case round =>
            obtain ⟨r, hr1, rfl, hI⟩ := hrel
            replace HE := Lib.hid hI
            clear hI
            by_cases hr : r < k
            · have h4 : (r < K'.length ∧ K'.getD r 0 = 1 ∧ keptL (K.getD r 0) r = (0, sectorL ((r : Int) + 1))) ∨ (r < K'.length ∧ K'.getD r 0 = 2 ∧ keptL (K.getD r 0) r = (3, [])) ∨
                  (r < K'.length ∧ ((K'.getD r 0 == 1) = false ∧ (K'.getD r 0 == 2) = false) ∧ keptL (K.getD r 0) r = (0, zerosL 512)) ∨ (¬ r < K'.length ∧ keptL (K.getD r 0) r = (0, zerosL 512)) := by
                rw [← HKK.out r hr]
                by_cases hl : r < K'.length
                · by_cases h1 : K'.getD r 0 = 1
                  · exact .inl ⟨hl, h1, by rw [keptL, if_pos h1, Int.natCast_add]; rfl⟩
                  · by_cases h2 : K'.getD r 0 = 2
                    · exact .inr (.inl ⟨hl, h2, by rw [keptL, if_neg h1, if_pos h2]⟩)
                    · exact .inr (.inr (.inl ⟨hl, ⟨by simpa using h1, by simpa using h2⟩, by rw [keptL, if_neg h1, if_neg h2]⟩))
                · exact .inr (.inr (.inr ⟨hl, by rw [show K'.getD r 0 = 0 by simp [List.getD, List.getElem?_eq_none (by omega : K'.length ≤ r)]]; rfl⟩))
              rcases h4 with ⟨hl, hv, hx⟩ | ⟨hl, hv, hx⟩ | ⟨hl, hv, hx⟩ | ⟨hl, hx⟩
              all_goals
                have HX5 := Lib.hid hx
                clear hx
                go_wp2_with fail
                refine (HE.out.read1 hr (by omega) HX5.out).mono ?_
                rintro e w9 ⟨v, rfl, hI⟩
                have HR1 := Lib.hid hI
                clear hI
                go_wp2_with fail
                refine (HR1.out.read2 hr (by omega) HX5.out).mono ?_
                rintro e w10 ⟨v2, gv, g2, rfl, hI, hR, hR2⟩
                replace HE := Lib.hid hI
                have HV := Lib.hid hR
                have HV2 := Lib.hid hR2
                clear hI hR hR2 HR1
              · obtain ⟨-, off, rfl, hcw⟩ := ireads_at HE.out.reads hl
                rw [show K'[r] = 1 by rw [← hv]; simp [List.getD, hl]] at hcw
                clear hv
                have hgs := World.block_lt_of_cell? _ _ hcw
                simp only at hgs
                go_wp2_with fail
                refine (sector_any _ _).mono ?_
                rintro e w11 ⟨rfl, rfl⟩
                go_wp2_with fail
                refine (same_true _ _ _ gv g2 _ (HV.out.touch (((Touch.refl Emp w10).alloc _).alloc _) id) (HV2.out.touch (((Touch.refl Emp w10).alloc _).alloc _) id)).mono ?_
                rintro e w12 ⟨rfl, rfl⟩
                go_wp2_with fail
                refine (same_true _ _ _ gv _ _ (HV.out.touch (((Touch.refl Emp w10).alloc _).alloc _) id) (sec_at (size_alloc_one (heap_alloc_new _ _)))).mono ?_
                rintro e w13 ⟨rfl, rfl⟩
                go_wp2
                go_roundw
                case rel => exact ⟨r + 1, by omega, by go_num, HE.out.emp (((Touch.refl Emp w10).alloc _).alloc _)⟩
                case measure => simp [intOf]; omega
              · obtain ⟨-, off, rfl, hcw⟩ := ireads_at HE.out.reads hl
                rw [show K'[r] = 2 by rw [← hv]; simp [List.getD, hl]] at hcw
                clear hv
                have hgs := World.block_lt_of_cell? _ _ hcw
                simp only at hgs
                go_wp2_with fail
                refine (same_true _ _ _ gv g2 _ (HV.out.touch ((Touch.refl Emp w10).alloc _) id) (HV2.out.touch ((Touch.refl Emp w10).alloc _) id)).mono ?_
                rintro e w12 ⟨rfl, rfl⟩
                go_wp2
                go_roundw
                case rel => exact ⟨r + 1, by omega, by go_num, HE.out.emp ((Touch.refl Emp w10).alloc _)⟩
                case measure => simp [intOf]; omega
              · obtain ⟨-, off, rfl, hcw⟩ := ireads_at HE.out.reads hl
                rw [show K'[r] = K'.getD r 0 by simp [List.getD, hl]] at hcw
                obtain ⟨hv1, hv2⟩ := hv
                have hv3 : (K'.getD r 0 != 2) = true := by simpa using hv2
                have hgs := World.block_lt_of_cell? _ _ hcw
                simp only at hgs
                generalize K'.getD r 0 = x at hcw hv1 hv2 hv3
                go_wp2_with fail
                refine (same_true _ _ _ gv g2 _ (HV.out.touch ((Touch.refl Emp w10).alloc _) id) (HV2.out.touch ((Touch.refl Emp w10).alloc _) id)).mono ?_
                rintro e w12 ⟨rfl, rfl⟩
                go_wp2_with fail
                refine (same_true _ _ _ gv _ _ (HV.out.touch ((Touch.refl Emp w10).alloc _) id) (zero_at HZ5.out (heap_alloc_new _ _))).mono ?_
                rintro e w13 ⟨rfl, rfl⟩
                go_wp2
                go_roundw
                case rel => exact ⟨r + 1, by omega, by go_num, HE.out.emp ((Touch.refl Emp w10).alloc _)⟩
                case measure => simp [intOf]; omega
              · go_wp2_with fail
                refine (same_true _ _ _ gv g2 _ (HV.out.touch ((Touch.refl Emp w10).alloc _) id) (HV2.out.touch ((Touch.refl Emp w10).alloc _) id)).mono ?_
                rintro e w12 ⟨rfl, rfl⟩
                go_wp2_with fail
                refine (same_true _ _ _ gv _ _ (HV.out.touch ((Touch.refl Emp w10).alloc _) id) (zero_at HZ5.out (heap_alloc_new _ _))).mono ?_
                rintro e w13 ⟨rfl, rfl⟩
                go_wp2
                go_roundw
                case rel => exact ⟨r + 1, by omega, by go_num, HE.out.emp ((Touch.refl Emp w10).alloc _)⟩
                case measure => simp [intOf]; omega
            · obtain rfl : r = k := by omega
              go_wp2
              go_ret
              exact ⟨rfl, HE.out.below⟩

end Go.Proofs.Ytmedpmhiebcdjaa
