/- The contracts of a device for a caller that holds blocks of its own ('X'): what it holds stays. -/
import Derived.Test.YtmedpmhiebcdjaaDoorRea
namespace Go.Proofs.YtmedpmhiebcdjaaDoor
open Go.RowKit

/-- A device lies in this world, apart from the blocks X, which are there. -/
def Has (w : World) (b : Nat) (s : DSt) (X : Nat → Prop) : Prop := ∃ F, Dev w F b s ∧ (∀ k, F k → k < w.heap.size ∧ ¬ X k) ∧ ∀ k, X k → k < w.heap.size
/-- The blocks X are as they were. -/
def Keep (X : Nat → Prop) (w w' : World) : Prop := Touch (fun k => ¬ X k) w w'
def Or1 (X : Nat → Prop) (n : Nat) (k : Nat) : Prop := X k ∨ k = n

variable {X Y : Nat → Prop} {w w1 w2 : World} {b : Nat} {s : DSt}
theorem Keep.refl (X : Nat → Prop) (w : World) : Keep X w w := Touch.refl _ w
theorem Keep.trans (h : Keep X w w1) (h' : Keep X w1 w2) : Keep X w w2 := Touch.trans h h' fun _ h _ => h
theorem Keep.mono (h : Keep X w w1) (hx : ∀ k, Y k → X k) : Keep Y w w1 := Touch.mono h fun k _ hk hy => hk (hx k hy)
theorem Keep.heap (h : Keep X w w1) {k : Nat} {o : Obj} (hk : w.heap[k]? = some o) (hX : X k) : w1.heap[k]? = some o := Touch.at h hk fun h => h hX
theorem Keep.alloc (h : Keep X w w1) (o : Obj) : Keep X w (w1.alloc o) := Touch.alloc h o
theorem Keep.drew (h : Keep X w w1) : Keep X w w1.drew := Touch.drew h
theorem Keep.of_emp (h : Touch Emp w w1) : Keep X w w1 := h.mono fun _ _ h => h.elim
theorem Keep.below {n : Nat} (h : Keep X w w1) (hX : ∀ k, k < n → X k) (hn : n ≤ w.heap.size) : Below n w w1 :=
  ⟨h.os, h.tape, h.output, h.size, fun k hk => h.block k (Nat.lt_of_lt_of_le hk hn) fun hc => hc (hX k hk)⟩
theorem Keep.size (h : Keep X w w1) : w.heap.size ≤ w1.heap.size := Touch.size h

theorem Has.mono (h : Has w b s X) (hx : ∀ k, Y k → X k) : Has w b s Y := by
  obtain ⟨F, h1, h2, h3⟩ := h
  exact ⟨F, h1, fun k hk => ⟨(h2 k hk).1, fun hy => (h2 k hk).2 (hx k hy)⟩, fun k hk => h3 k (hx k hk)⟩
theorem Has.alloc (h : Has w b s X) (o : Obj) : Has (w.alloc o) b s (Or1 X w.heap.size) := by
  obtain ⟨F, h1, h2, h3⟩ := h
  refine ⟨F, h1.touch ((Touch.refl Emp w).alloc o) fun _ _ h => h, fun k hk => ⟨by have := (h2 k hk).1; simp; omega, ?_⟩, ?_⟩
  · rintro (hx | rfl)
    · exact (h2 k hk).2 hx
    · have := (h2 _ hk).1; omega
  · rintro k (hx | rfl)
    · have := h3 k hx; simp; omega
    · simp
/-- What is done to blocks of X alone, and to new ones, leaves the device as it is. -/
theorem Has.own {G : Nat → Prop} (h : Has w b s X) (ht : Touch G w w1) (hG : ∀ k, k < w.heap.size → G k → X k) : Has w1 b s X := by
  obtain ⟨F, h1, h2, h3⟩ := h
  refine ⟨F, h1.touch (ht.mono (G := fun k => X k) hG) fun k hk hx => (h2 k hk).2 hx, fun k hk => ⟨Nat.lt_of_lt_of_le (h2 k hk).1 ht.size, (h2 k hk).2⟩, fun k hk => Nat.lt_of_lt_of_le (h3 k hk) ht.size⟩
theorem Has.step {s' : DSt} (h : ∃ F, (∀ k, F k → k < w.heap.size ∧ ¬ X k) ∧ Touch F w w1 ∧ Dev w1 (Gr F w w1) b s') (h3 : ∀ k, X k → k < w.heap.size) : Keep X w w1 ∧ Has w1 b s' X := by
  obtain ⟨F, h2, ht, hd⟩ := h
  refine ⟨ht.mono fun k _ hk => (h2 k hk).2, Gr F w w1, hd, ?_, fun k hk => Nat.lt_of_lt_of_le (h3 k hk) ht.size⟩
  rintro k (hk | ⟨hk, hk'⟩)
  · exact ⟨Nat.lt_of_lt_of_le (h2 k hk).1 ht.size, (h2 k hk).2⟩
  · exact ⟨hk', fun hx => by have := h3 k hx; omega⟩

theorem new_has (n : Nat) (w : World) (h1 : 1 ≤ n) (h2 : n ≤ 20000) :
    Calls Tryd.prog 5 #[.int .i64 (n : Int)] w fun e w' => e = .returned (.tuple #[.pointer (some ⟨w.heap.size + 2, 0, none⟩), .int .i64 0]) ∧
      Touch Emp w w' ∧ w'.heap.size = w.heap.size + 3 ∧ Has w' (w.heap.size + 2) (DSt.new n) (fun k => k < w.heap.size) := by
  refine (new_any n w h1 h2).mono ?_
  rintro e w' ⟨he, ht, hs, hd⟩
  exact ⟨he, ht, hs, NewF w, hd, fun k hk => ⟨by rw [hs]; exact hk.2, by have := hk.1; omega⟩, fun k hk => by omega⟩

theorem write_has (h : Has w b s X) (hf : s.Fit) (at_ : Int) (v : Value) (l : List UInt8) (g : Nat) (hr : Reads w v l g) (hg : l ≠ [] → X g) :
    Calls Tryd.prog 10 #[.pointer (some ⟨b, 0, none⟩), .int .i64 at_, v] w fun e w' => e = .returned (.int .i64 (s.writeErr at_ l)) ∧ Keep X w w' ∧ Has w' b (s.write at_ l) X := by
  obtain ⟨F, h1, h2, h3⟩ := h
  have key : ∃ g', Reads w v l g' ∧ ¬ F g' := by
    by_cases h0 : l = []
    · subst h0
      obtain ⟨off, cap, ⟨rfl, _⟩ | ⟨ha, _⟩⟩ := hr
      · exact ⟨w.heap.size, ⟨off, cap, .inr ⟨⟨_, rfl⟩, rfl⟩⟩, fun hk => by have := (h2 _ hk).1; omega⟩
      · exact ⟨w.heap.size, ⟨off, cap, .inr ⟨ha, rfl⟩⟩, fun hk => by have := (h2 _ hk).1; omega⟩
    · exact ⟨g, hr, fun hk => (h2 _ hk).2 (hg h0)⟩
  obtain ⟨g', hr', hg'⟩ := key
  refine (write_any h1 hf at_ v l g' hr' hg').mono ?_
  rintro e w' ⟨he, ht, hd⟩
  exact ⟨he, Has.step ⟨F, h2, ht, hd⟩ h3⟩
theorem flush_has (h : Has w b s X) (hf : s.Fit) :
    Calls Tryd.prog 12 #[.pointer (some ⟨b, 0, none⟩)] w fun e w' => e = .returned (.int .i64 s.err) ∧ Keep X w w' ∧ Has w' b s.flush X := by
  obtain ⟨F, h1, h2, h3⟩ := h
  refine (flush_any h1 hf).mono ?_
  rintro e w' ⟨he, ht, hd⟩
  exact ⟨he, Has.step ⟨F, h2, ht, hd.mono fun _ => .inl⟩ h3⟩
theorem start_has (h : Has w b s X) :
    Calls Tryd.prog 15 #[.pointer (some ⟨b, 0, none⟩)] w fun e w' => e = .returned (.int .i64 s.startErr) ∧ Keep X w w' ∧ Has w' b s.start X := by
  obtain ⟨F, h1, h2, h3⟩ := h
  refine (start_any h1).mono ?_
  rintro e w' ⟨he, ht, hd⟩
  exact ⟨he, Has.step ⟨F, h2, ht, hd.mono fun _ => .inl⟩ h3⟩
theorem down_has (h : Has w b s X) :
    Calls Tryd.prog 8 #[.pointer (some ⟨b, 0, none⟩)] w fun e w' => e = .returned (.bool s.down) ∧ w = w' := by
  obtain ⟨F, h1, h2, h3⟩ := h
  exact down_any h1
theorem counts_has (h : Has w b s X) :
    Calls Tryd.prog 9 #[.pointer (some ⟨b, 0, none⟩)] w fun e w' => e = .returned (.agg #[.int .i64 s.reads, .int .i64 s.writes, .int .i64 s.flushes]) ∧ Keep X w w' ∧ Has w' b s X := by
  obtain ⟨F, h1, h2, h3⟩ := h
  refine (counts_any h1).mono ?_
  rintro e w' ⟨he, ht⟩
  exact ⟨he, Keep.of_emp ht, F, h1.touch ht fun _ _ h => h, fun k hk => ⟨Nat.lt_of_lt_of_le (h2 k hk).1 ht.size, (h2 k hk).2⟩, fun k hk => Nat.lt_of_lt_of_le (h3 k hk) ht.size⟩
theorem read_hasL (h : Has w b s X) (hf : s.Fit) (at_ : Int) :
    Calls Tryd.prog 14 #[.pointer (some ⟨b, 0, none⟩), .int .i64 at_] w fun e w' => ∃ v, e = .returned (.tuple #[v, .int .i64 (s.readR at_).1]) ∧ Keep X w w' ∧
      Has w' b (s.read at_) X ∧ (s.readR at_).2.length ≤ 512 ∧ ∃ g, Reads w' v (s.readR at_).2 g ∧ ((s.readR at_).2 ≠ [] → w.heap.size ≤ g ∧ g < w'.heap.size ∧ ByteRow w' g (s.readR at_).2 ∧ Has w' b (s.read at_) (Or1 X g)) := by
  obtain ⟨F, h1, h2, h3⟩ := h
  refine (read_any h1 hf (fun k hk => (h2 k hk).1) at_).mono ?_
  rintro e w' ⟨v, he, ht, hd, hh⟩
  refine ⟨v, he, (Has.step ⟨F, h2, ht, hd.mono fun _ => .inl⟩ h3).1, (Has.step ⟨F, h2, ht, hd.mono fun _ => .inl⟩ h3).2, by rcases hh with ⟨_, hl⟩ | ⟨_, _, _, _, hl⟩ <;> simp [hl], ?_⟩
  rcases hh with ⟨rfl, hl⟩ | ⟨g, rfl, hg, hrow, hl⟩
  · rw [hl]
    exact ⟨0, ⟨0, 0, .inr ⟨⟨none, rfl⟩, rfl⟩⟩, fun h => absurd rfl h⟩
  · refine ⟨g, by have := hrow.reads 512; rwa [hl] at this, fun _ => ⟨hg, lt_of_heap hrow, hrow, F, hd, fun k hk => ⟨Nat.lt_of_lt_of_le (h2 k hk).1 ht.size, ?_⟩, ?_⟩⟩
    · rintro (hx | rfl)
      · exact (h2 k hk).2 hx
      · have := (h2 _ hk).1; omega
    · rintro k (hx | rfl)
      · exact Nat.lt_of_lt_of_le (h3 k hx) ht.size
      · exact lt_of_heap hrow
theorem read_has (h : Has w b s X) (hf : s.Fit) (at_ : Int) :
    Calls Tryd.prog 14 #[.pointer (some ⟨b, 0, none⟩), .int .i64 at_] w fun e w' => ∃ v, e = .returned (.tuple #[v, .int .i64 (s.readR at_).1]) ∧ Keep X w w' ∧
      Has w' b (s.read at_) X ∧ ∃ g, Reads w' v (s.readR at_).2 g ∧ ((s.readR at_).2 ≠ [] → w.heap.size ≤ g ∧ g < w'.heap.size ∧ ByteRow w' g (s.readR at_).2 ∧ Has w' b (s.read at_) (Or1 X g)) :=
  (read_hasL h hf at_).mono fun _ _ ⟨v, he, hk, hd, _, hg⟩ => ⟨v, he, hk, hd, hg⟩
theorem crash_has (h : Has w b s X) (hsz : s.waits.length < 4294967296) (v : Value) (keep : List Int) (g : Nat) (hk : IReads w v keep g) (hg : keep ≠ [] → X g) :
    Calls Tryd.prog 13 #[.pointer (some ⟨b, 0, none⟩), v] w fun e w' => e = .returned (.tuple #[]) ∧ Keep X w w' ∧ Has w' b (s.crash keep) X := by
  obtain ⟨F, h1, h2, h3⟩ := h
  obtain ⟨gs, S, wv, W, bm, es, clk, kv, h⟩ := h1
  refine (crash_any h v keep g hk (fun h0 => ?_) hsz).mono ?_
  · have hX := hg h0
    refine ⟨?_, ?_, ?_⟩
    · rintro rfl; exact (h2 _ h.ownD).2 hX
    · rintro rfl; exact (h2 _ h.ownS).2 hX
    · rintro rfl; exact (h2 _ h.ownM).2 hX
  · rintro e w' ⟨he, ht, hd⟩
    exact ⟨he, Has.step ⟨F, h2, ht, hd.mono fun _ => .inl⟩ h3⟩
theorem arm_has (h : Has w b s X) (n : Int) (hn : n ≤ 9223372036854775807) (v : Value) (keep : List Int) (g : Nat) (hk : IReads w v keep g) (hg : keep ≠ [] → X g) (hl : keep.length * 8 ≤ 140737488351232) :
    Calls Tryd.prog 17 #[.pointer (some ⟨b, 0, none⟩), .int .i64 n, v] w fun e w' => e = .returned (.tuple #[]) ∧ Keep X w w' ∧ Has w' b (s.arm n keep) X := by
  obtain ⟨F, h1, h2, h3⟩ := h
  have hob : F b := by obtain ⟨gs, S, wv, W, bm, es, clk, kv, h⟩ := h1; exact h.ownD
  refine (arm_any h1 n hn v keep g hk (fun h0 => by rintro rfl; exact (h2 _ hob).2 (hg h0)) hl).mono ?_
  rintro e w' ⟨he, ht, hd⟩
  exact ⟨he, Has.step ⟨F, h2, ht, hd⟩ h3⟩
theorem Has.lt (h : Has w b s X) : b < w.heap.size := by
  obtain ⟨F, ⟨gs, S, wv, W, bm, es, clk, kv, h⟩, _⟩ := h
  exact lt_of_heap h.dev

end Go.Proofs.YtmedpmhiebcdjaaDoor
