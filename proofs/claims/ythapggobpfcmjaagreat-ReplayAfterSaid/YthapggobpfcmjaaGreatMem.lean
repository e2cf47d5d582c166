/- Memory words of our own: what a call may touch ('Touch'), what it has touched afterwards ('Gr'), rows of bytes. No condition. -/
import Derived.Test.YthapggobpfcmjaaGreatRows
import Derived.WalkKit
import Derived.WalkSpells
import Derived.WalkLawsBesides
import Derived.ChangeMaps4
namespace Go.Proofs.YthapggobpfcmjaaGreat
open Go.RowKit

/-- Only blocks of F, and new blocks, have turned. -/
structure Touch (F : Nat → Prop) (w w' : World) : Prop where
  os : w'.os = w.os
  tape : w'.tape = w.tape
  output : w'.output = w.output
  size : w.heap.size ≤ w'.heap.size
  block : ∀ k, k < w.heap.size → ¬ F k → w'.heap[k]? = w.heap[k]?

/-- What belongs to a thing after a step: what belonged to it, and the step's new blocks. -/
def Gr (F : Nat → Prop) (w w' : World) (k : Nat) : Prop := F k ∨ (w.heap.size ≤ k ∧ k < w'.heap.size)

def Emp (_ : Nat) : Prop := False

variable {F G : Nat → Prop} {w w1 w2 : World}

theorem Touch.refl (F : Nat → Prop) (w : World) : Touch F w w := ⟨rfl, rfl, rfl, Nat.le_refl _, fun _ _ _ => rfl⟩
theorem Touch.mono (h : Touch F w w1) (hf : ∀ k, k < w.heap.size → F k → G k) : Touch G w w1 := ⟨h.os, h.tape, h.output, h.size, fun k hk hg => h.block k hk fun hF => hg (hf k hk hF)⟩
/-- Two steps: the second may touch what the first has made. -/
theorem Touch.trans (h : Touch F w w1) (h' : Touch G w1 w2) (hg : ∀ k, G k → k < w.heap.size → F k) : Touch F w w2 :=
  ⟨h'.os.trans h.os, h'.tape.trans h.tape, h'.output.trans h.output, Nat.le_trans h.size h'.size,
    fun k hk hF => (h'.block k (Nat.lt_of_lt_of_le hk h.size) fun hG => hF (hg k hG hk)).trans (h.block k hk hF)⟩
theorem Touch.trans_gr (h : Touch F w w1) (h' : Touch (Gr F w w1) w1 w2) : Touch F w w2 :=
  h.trans h' fun _ hG hk => hG.elim id fun h => absurd h.1 (by omega)
theorem Touch.alloc (h : Touch F w w1) (o : Obj) : Touch F w (w1.alloc o) :=
  ⟨h.os, h.tape, h.output, Nat.le_trans h.size (by simp), fun k hk hF => (Below.heap_alloc w1 o k (Nat.lt_of_lt_of_le hk h.size)).trans (h.block k hk hF)⟩
theorem Touch.drew (h : Touch F w w1) : Touch F w w1.drew := ⟨h.os, h.tape, h.output, h.size, h.block⟩
theorem Touch.drewN (h : Touch F w w1) (n : Nat) : Touch F w (w1.drewN n) := ⟨h.os, h.tape, h.output, h.size, h.block⟩
theorem Touch.setCell (h : Touch F w w1) {a : Addr} (ha : F a.block ∨ w.heap.size ≤ a.block) (v : Value) : Touch F w (w1.setCell a v) :=
  ⟨h.os, h.tape, h.output, Nat.le_trans h.size (by simp), fun k hk hF =>
    (Below.heap_setCell w1 a v k (by rintro rfl; exact ha.elim hF (by omega))).trans (h.block k hk hF)⟩
theorem Touch.setRow (h : Touch F w w1) {g : Nat} (ha : F g ∨ w.heap.size ≤ g) (cs : Array Value) : Touch F w (w1.setRow g cs) :=
  ⟨h.os, h.tape, h.output, Nat.le_trans h.size (by simp), fun k hk hF =>
    (setRow_other w1 g k cs (by rintro rfl; exact ha.elim hF (by omega))).trans (h.block k hk hF)⟩
theorem Touch.setBlock (h : Touch F w w1) {g : Nat} (ha : F g ∨ w.heap.size ≤ g) (o : Obj) : Touch F w (ChangeMaps.setBlock w1 g o) :=
  ⟨h.os, h.tape, h.output, Nat.le_trans h.size (by simp [ChangeMaps.setBlock]), fun k hk hF =>
    (by simp only [ChangeMaps.setBlock]; rw [Array.getElem?_setIfInBounds_ne (by rintro rfl; exact ha.elim hF (by omega))]; exact h.block k hk hF)⟩
theorem Touch.below (h : Touch Emp w w1) : Below w.heap.size w w1 := ⟨h.os, h.tape, h.output, h.size, fun k hk => h.block k hk id⟩
theorem Touch.of_below (h : Below w.heap.size w w1) : Touch F w w1 := ⟨h.os, h.tape, h.output, h.size, fun k hk _ => h.block k hk⟩
theorem Touch.of_grown {row : Option Nat} (h : w.grownBy w1 row) (hr : ∀ k, row = some k → F k) : Touch F w w1 :=
  ⟨h.os, h.tape, h.output, h.size, fun k hk hF => h.block k hk fun e => hF (hr k e.symm)⟩
/-- A block that lies outside of what was touched is as it was. -/
theorem Touch.at (h : Touch F w w1) {k : Nat} {o : Obj} (hk : w.heap[k]? = some o) (hF : ¬ F k) : w1.heap[k]? = some o :=
  (h.block k (Array.getElem?_eq_some_iff.1 hk).1 hF).trans hk
theorem lt_of_heap {k : Nat} {o : Obj} (hk : w.heap[k]? = some o) : k < w.heap.size := (Array.getElem?_eq_some_iff.1 hk).1

theorem Gr.old {k : Nat} (h : F k) : Gr F w w1 k := .inl h
theorem Gr.new {k : Nat} (h : w.heap.size ≤ k) (h' : k < w1.heap.size) : Gr F w w1 k := .inr ⟨h, h'⟩

/-- A byte as a cell; a row of bytes as cells. -/
def byteV (x : UInt8) : Value := .int .u8 (x.toNat : Int)
def rowA (l : List UInt8) : Array Value := (l.map byteV).toArray
theorem rowA_size (l : List UInt8) : (rowA l).size = l.length := by simp [rowA]
theorem rowA_at (l : List UInt8) (i : Nat) : (rowA l)[i]? = l[i]?.map byteV := by simp [rowA]
theorem rowA_list (l : List UInt8) : (rowA l).toList = l.map byteV := by simp [rowA]
theorem byteV_one (x : UInt8) : (byteV x).oneCell' = true := rfl

/-- The row that belongs to a slice of bytes: block g is these bytes, and no more. -/
def ByteRow (w : World) (g : Nat) (l : List UInt8) : Prop := w.heap[g]? = some (.cells (rowA l) 5 (0, 0))
/-- A slice value that reads as bytes; its block, if it has one that matters, is g. -/
def Reads (w : World) (v : Value) (l : List UInt8) (g : Nat) : Prop :=
  ∃ off cap, (v = .slice (some ⟨g, off, none⟩) l.length cap ∧ ∀ i (h : i < l.length), w.cell? ⟨g, off + i, none⟩ = some (byteV l[i])) ∨ ((∃ a, v = .slice a 0 cap) ∧ l = [])
theorem ByteRow.reads {g : Nat} {l : List UInt8} (h : ByteRow w g l) (cap : Nat) : Reads w (.slice (some ⟨g, 0, none⟩) l.length cap) l g :=
  ⟨0, cap, .inl ⟨rfl, fun i hi => by rw [cell_of_row w g _ _ _ _ h, rowA_at]; simp [hi]⟩⟩
theorem ByteRow.touch {g : Nat} {l : List UInt8} (h : ByteRow w g l) (ht : Touch F w w1) (hF : ¬ F g) : ByteRow w1 g l := ht.at h hF
theorem Reads.touch {v : Value} {g : Nat} {l : List UInt8} (h : Reads w v l g) (ht : Touch F w w1) (hF : ¬ F g) : Reads w1 v l g := by
  obtain ⟨off, cap, ⟨rfl, hc⟩ | ⟨ha, rfl⟩⟩ := h
  · refine ⟨off, cap, .inl ⟨rfl, fun i hi => ?_⟩⟩
    have := hc i hi
    rw [← this]
    exact World.cell?_of_block (ht.block g (World.block_lt_of_cell? w ⟨g, off + i, none⟩ this) hF)
  · exact ⟨off, cap, .inr ⟨ha, rfl⟩⟩

end Go.Proofs.YthapggobpfcmjaaGreat
