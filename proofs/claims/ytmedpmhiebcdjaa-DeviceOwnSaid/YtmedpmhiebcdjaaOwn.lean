/- DeviceOwn. -/
import Derived.Test.YtmedpmhiebcdjaaKep
namespace Go.Proofs.Ytmedpmhiebcdjaa
open Go.RowKit

/-- One write waits; the device is up, and not armed. -/
def oA (l : List UInt8) (r : Nat) : DSt := { secs := List.replicate 2 (zerosL 512), waits := [(1, l)], torn := [], reads := r, writes := 1, flushes := 0, down := false, armed := false, left := 0, keep := [] }
/-- .. armed, with so many operations left. -/
def oB (l : List UInt8) (r : Nat) (k : Int) (keep : List Int) : DSt := { secs := List.replicate 2 (zerosL 512), waits := [(1, l)], torn := [], reads := r, writes := 1, flushes := 0, down := false, armed := true, left := k, keep := keep }
theorem oA_write (l : List UInt8) (hl : l.length = 512) : (DSt.new 2).writeErr 1 l = 0 ∧ (DSt.new 2).write 1 l = oA l 0 := by
  have h := (new_calm 2).write (a := 1) (l := l) (by rw [new_secs]; omega) hl
  exact ⟨h.1, h.2⟩
theorem oA_calm (l : List UInt8) (r : Nat) : (oA l r).Calm := ⟨rfl, rfl⟩
theorem oA_look (l : List UInt8) (r : Nat) : (oA l r).look 1 = (0, l) := look_some (by simp [oA, lastW])
theorem oA_read (l : List UInt8) (r : Nat) : (oA l r).readR 1 = (0, l) ∧ (oA l r).read 1 = oA l (r + 1) := by
  have h := (oA_calm l r).read (a := 1) (by show 1 < (List.replicate 2 (zerosL 512)).length; rw [List.length_replicate]; omega)
  exact ⟨h.1.trans (oA_look l r), h.2⟩
theorem oB_arm (l : List UInt8) (r : Nat) (keep : List Int) : (oA l r).arm 1 keep = oB l r 1 keep := if_pos (by omega)
theorem oB_in (l : List UInt8) (r : Nat) (k : Int) (keep : List Int) : ¬ ¬ ((0 : Int) ≤ 1 ∧ (1 : Int) < ((oB l r k keep).secs.length : Int)) := by
  have : (oB l r k keep).secs.length = 2 := by show (List.replicate 2 (zerosL 512)).length = 2; rw [List.length_replicate]
  rw [this]; exact fun h => h ⟨by omega, by omega⟩
theorem oB_read (l : List UInt8) (r : Nat) (keep : List Int) : (oB l r 1 keep).readR 1 = (0, l) ∧ (oB l r 1 keep).read 1 = oB l (r + 1) 0 keep := by
  have hf : (oB l r 1 keep).fired = oB l r 1 keep := by unfold DSt.fired; rw [if_neg]; rintro ⟨_, h, _⟩; exact absurd h (by simp [oB])
  have he : (oB l r 1 keep).err = 0 := by unfold DSt.err; rw [hf, if_neg (by simp [oB])]
  have hb : (oB l r 1 keep).begin_ = oB l r 0 keep := by unfold DSt.begin_ DSt.ticked; rw [hf, if_neg (by simp [oB]), if_pos (show (oB l r 1 keep).armed = true from rfl)]; rfl
  unfold DSt.readR DSt.read
  rw [if_neg (oB_in l r 1 keep), if_neg (oB_in l r 1 keep), he, if_pos rfl, if_pos rfl, hb]
  exact ⟨look_some (by simp [oB, lastW]), rfl⟩
theorem oB_fires (l : List UInt8) (r : Nat) (keep : List Int) : (oB l r 0 keep).readR 1 = (2, []) ∧ (oB l r 0 keep).read 1 = (oB l r 0 keep).crash keep := by
  have hf : (oB l r 0 keep).fired = (oB l r 0 keep).crash keep := by unfold DSt.fired; rw [if_pos ⟨rfl, rfl, rfl⟩]; rfl
  have he : (oB l r 0 keep).err = 2 := by unfold DSt.err; rw [hf, if_pos (show ((oB l r 0 keep).crash keep).down = true from rfl)]
  have hb : (oB l r 0 keep).begin_ = (oB l r 0 keep).crash keep := by unfold DSt.begin_; rw [hf, if_pos (show ((oB l r 0 keep).crash keep).down = true from rfl)]
  unfold DSt.readR DSt.read
  rw [if_neg (oB_in l r 0 keep), if_neg (oB_in l r 0 keep), he, if_neg (by decide), if_neg (by decide), hb]
  exact ⟨rfl, rfl⟩
/-- What the sector is behind the crash. -/
def ownL (how : Int) (l : List UInt8) : Int × List UInt8 := if how = 1 then (0, l) else if how = 2 then (3, []) else (0, zerosL 512)
theorem oB_end (l : List UInt8) (r : Nat) (keep : List Int) : ((oB l r 0 keep).crash keep).startErr = 0 ∧ ((oB l r 0 keep).crash keep).start.Calm ∧ ((oB l r 0 keep).crash keep).start.secs.length = 2 ∧ ((oB l r 0 keep).crash keep).start.readR 1 = ownL (keep.getD 0 0) l := by
  have hs : ((oB l r 0 keep).crash keep).start.secs.length = 2 := by
    show (DSt.crashW _ _ _).secs.length = 2
    rw [crashW_secs]; show (List.replicate 2 (zerosL 512)).length = 2; rw [List.length_replicate]
  refine ⟨rfl, ⟨rfl, rfl⟩, hs, ?_⟩
  have hc : ((oB l r 0 keep).crash keep).start.Calm := ⟨rfl, rfl⟩
  have h1 := (hc.read (a := 1) (by rw [hs]; omega)).1
  rw [show ((1 : Nat) : Int) = 1 from rfl] at h1
  rw [h1]
  have hl : ((oB l r 0 keep).crash keep).start.look 1 = if 1 ∈ (DSt.crashW [(1, l)] keep (oB l r 0 keep)).torn then (3, []) else (0, (DSt.crashW [(1, l)] keep (oB l r 0 keep)).secs.getD 1 []) := look_none rfl
  have h := crashW_near [(1, l)] keep (oB l r 0 keep) (by simp) 0 (by simp) (by show 1 < (List.replicate 2 (zerosL 512)).length; rw [List.length_replicate]; omega) (by simp [oB])
  simp only [List.getElem_cons_zero] at h
  rw [hl, h.1]
  unfold ownL
  by_cases h1 : keep.getD 0 0 = 1
  · rw [if_pos h1, if_pos h1, if_neg (by rw [h.2, h1]; decide)]
  · rw [if_neg h1, if_neg h1]
    by_cases h2 : keep.getD 0 0 = 2
    · rw [if_pos (h.2.2 h2), if_pos h2]
    · rw [if_neg (fun hc => h2 (h.2.1 hc)), if_neg h2]; rfl
theorem oA_fit (l : List UInt8) (r : Nat) (hr : r ≤ 10) : (oA l r).Fit := ⟨by simp [oA], by simp only [oA]; omega, by simp [oA], by simp [oA]⟩
theorem oB_fit (l : List UInt8) (r : Nat) (k : Int) (keep : List Int) (hr : r ≤ 10) : (oB l r k keep).Fit := ⟨by simp [oB], by simp only [oB]; omega, by simp [oB], by simp [oB]⟩
theorem oC_fit (l : List UInt8) (r : Nat) (keep : List Int) (hr : r ≤ 10) : ((oB l r 0 keep).crash keep).start.Fit := by
  have hf := crashW_flags (oB l r 0 keep).waits keep (oB l r 0 keep)
  refine ⟨by show 0 < 1048576; omega, ?_, ?_, ?_⟩
  · show (DSt.crashW _ keep _).reads < _; rw [hf.1]; simp only [oB]; omega
  · show (DSt.crashW _ keep _).writes < _; rw [hf.2.1]; simp [oB]
  · show (DSt.crashW _ keep _).flushes < _; rw [hf.2.2]; simp [oB]

/-- A device, and the blocks that the law holds. -/
structure OInv (w : World) (b : Nat) (s : DSt) (X : Nat → Prop) (wr : World) : Prop where
  has : Has wr b s X
  below : Below w.heap.size w wr
  old : ∀ k, k < w.heap.size → X k
section
variable {w wr wq : World} {b : Nat} {s s' : DSt} {X Y : Nat → Prop}
theorem OInv.keep (h : OInv w b s X wr) (hk : Keep X wr wq) (hq : Has wq b s' X) : OInv w b s' X wq := ⟨hq, h.below.trans (hk.below h.old h.below.size), h.old⟩
theorem OInv.alloc (h : OInv w b s X wr) (o : Obj) : OInv w b s (Or1 X wr.heap.size) (wr.alloc o) := ⟨h.has.alloc o, h.below.alloc h.below.size o, fun k hk => .inl (h.old k hk)⟩
theorem OInv.own (h : OInv w b s X wr) {G : Nat → Prop} (ht : Touch G wr wq) (hG : ∀ k, G k → X k ∧ w.heap.size ≤ k) : OInv w b s X wq :=
  ⟨h.has.own ht fun k _ hk => (hG k hk).1, h.below.trans ⟨ht.os, ht.tape, ht.output, ht.size, fun k hk => ht.block k (Nat.lt_of_lt_of_le hk h.below.size) fun hc => by have := (hG k hc).2; omega⟩, h.old⟩
theorem OInv.mono (h : OInv w b s X wr) (hy : ∀ k, Y k → X k) (hold : ∀ k, k < w.heap.size → Y k) : OInv w b s Y wr := ⟨h.has.mono hy, h.below, hold⟩
end

theorem reads_row {w : World} {v : Value} {l : List UInt8} {g : Nat} (h : Reads w v l g) (hr : ByteRow w g l) (hl : l ≠ []) : ∃ cap, v = .slice (some ⟨g, 0, none⟩) l.length cap := by
  obtain ⟨off, cap, ⟨rfl, hc⟩ | ⟨_, h0⟩⟩ := h
  · have hpos : 0 < l.length := List.length_pos_iff.2 hl
    have h1 := hc (l.length - 1) (by omega)
    rw [cell_of_row w g _ _ _ _ hr] at h1
    have h2 := (Array.getElem?_eq_some_iff.1 h1).1
    rw [rowA_size] at h2
    obtain rfl : off = 0 := by omega
    exact ⟨cap, rfl⟩
  · exact absurd h0 hl
/-- A block of bytes, whatever they are. -/
def Bytes (w : World) (g n : Nat) : Prop := ∃ c : Array Value, w.heap[g]? = some (.cells c 5 (0, 0)) ∧ c.size = n ∧ ∀ i, i < n → ∃ z : Nat, z ≤ 255 ∧ c[i]? = some (.int .u8 z)
theorem ByteRow.bytes {w : World} {g : Nat} {l : List UInt8} (h : ByteRow w g l) : Bytes w g l.length :=
  ⟨rowA l, h, rowA_size l, fun i hi => ⟨l[i].toNat, by have := l[i].toNat_lt; omega, by rw [rowA_at]; simp [hi, byteV]⟩⟩
theorem Bytes.cell {w : World} {g n i : Nat} (h : Bytes w g n) (hi : i < n) : ∃ z : Nat, z ≤ 255 ∧ w.cell? ⟨g, i, none⟩ = some (.int .u8 z) ∧ w.frozen? ⟨g, i, none⟩ = false := by
  obtain ⟨c, h1, h2, h3⟩ := h
  obtain ⟨z, hz, hc⟩ := h3 i hi
  exact ⟨z, hz, by rw [cell_of_row w g _ _ _ _ h1, hc], frozen_of_row w g _ _ _ h1⟩
theorem Bytes.set {w : World} {g n : Nat} (h : Bytes w g n) (i : Nat) {z : Nat} (hz : z ≤ 255) {zi : Int} (he : (z : Int) = zi) : Bytes (w.setCell ⟨g, i, none⟩ (.int .u8 zi)) g n := by
  subst he
  obtain ⟨c, h1, h2, h3⟩ := h
  refine ⟨c.setIfInBounds i (.int .u8 z), heap_setCell_same w g i _ _ _ h1, by simpa using h2, fun j hj => ?_⟩
  rw [Array.getElem?_setIfInBounds]
  by_cases hij : i = j
  · subst hij; exact ⟨z, hz, by rw [if_pos rfl, if_pos (by omega)]⟩
  · rw [if_neg hij]; exact h3 j hj
/-- A block of ints, whatever they are. -/
def Ints0 (w : World) (g n : Nat) : Prop := ∃ c : Array Value, w.heap[g]? = some (.cells c 3 (0, 0)) ∧ ∀ i, i < n → ∃ z : Int, c[i]? = some (.int .i64 z)
theorem Ints0.cell {w : World} {g n i : Nat} (h : Ints0 w g n) (hi : i < n) : ∃ z : Int, w.cell? ⟨g, i, none⟩ = some (.int .i64 z) ∧ w.frozen? ⟨g, i, none⟩ = false := by
  obtain ⟨c, h1, h3⟩ := h
  obtain ⟨z, hc⟩ := h3 i hi
  exact ⟨z, by rw [cell_of_row w g _ _ _ _ h1, hc], frozen_of_row w g _ _ _ h1⟩
theorem Ints0.set {w : World} {g n : Nat} (h : Ints0 w g n) (i : Nat) (z : Int) : Ints0 (w.setCell ⟨g, i, none⟩ (.int .i64 z)) g n := by
  obtain ⟨c, h1, h3⟩ := h
  refine ⟨c.setIfInBounds i (.int .i64 z), heap_setCell_same w g i _ _ _ h1, fun j hj => ?_⟩
  rw [Array.getElem?_setIfInBounds]
  by_cases hij : i = j
  · subst hij
    obtain ⟨z0, hc⟩ := h3 i hj
    exact ⟨z, by rw [if_pos rfl, if_pos (by have := (Array.getElem?_eq_some_iff.1 hc).1; omega)]⟩
  · rw [if_neg hij]; exact h3 j hj

end Go.Proofs.Ytmedpmhiebcdjaa
