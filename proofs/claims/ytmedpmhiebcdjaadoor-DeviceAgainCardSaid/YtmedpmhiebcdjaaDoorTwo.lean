/- Duo devices in one world: what is done to the one leaves the other as it is. -/
import Derived.Test.YtmedpmhiebcdjaaDoorSho
import Derived.Test.YtmedpmhiebcdjaaDoorPur
namespace Go.Proofs.YtmedpmhiebcdjaaDoor
open Go.RowKit

def Duo (w : World) (b1 : Nat) (s1 : DSt) (b2 : Nat) (s2 : DSt) (X : Nat → Prop) : Prop :=
  ∃ F1 F2, Dev w F1 b1 s1 ∧ Dev w F2 b2 s2 ∧ (∀ k, F1 k → k < w.heap.size ∧ ¬ X k ∧ ¬ F2 k) ∧ (∀ k, F2 k → k < w.heap.size ∧ ¬ X k) ∧ ∀ k, X k → k < w.heap.size

section
variable {w w1 : World} {b1 b2 : Nat} {s1 s2 : DSt} {X Y : Nat → Prop}
theorem Duo.swap (h : Duo w b1 s1 b2 s2 X) : Duo w b2 s2 b1 s1 X := by
  obtain ⟨F1, F2, h1, h2, h3, h4, h5⟩ := h
  exact ⟨F2, F1, h2, h1, fun k hk => ⟨(h4 k hk).1, (h4 k hk).2, fun hc => (h3 k hc).2.2 hk⟩, fun k hk => ⟨(h3 k hk).1, (h3 k hk).2.1⟩, h5⟩
theorem Duo.mono (h : Duo w b1 s1 b2 s2 X) (hx : ∀ k, Y k → X k) : Duo w b1 s1 b2 s2 Y := by
  obtain ⟨F1, F2, h1, h2, h3, h4, h5⟩ := h
  exact ⟨F1, F2, h1, h2, fun k hk => ⟨(h3 k hk).1, fun hy => (h3 k hk).2.1 (hx k hy), (h3 k hk).2.2⟩, fun k hk => ⟨(h4 k hk).1, fun hy => (h4 k hk).2 (hx k hy)⟩, fun k hk => h5 k (hx k hk)⟩
/-- What is new, or X's own, may be X's too. -/
theorem Duo.grow (h : Duo w b1 s1 b2 s2 X) (ht : Touch X w w1) (hy : ∀ k, Y k → k < w1.heap.size ∧ (X k ∨ w.heap.size ≤ k)) : Duo w1 b1 s1 b2 s2 Y := by
  obtain ⟨F1, F2, h1, h2, h3, h4, h5⟩ := h
  refine ⟨F1, F2, h1.touch ht fun k hk hx => (h3 k hk).2.1 hx, h2.touch ht fun k hk hx => (h4 k hk).2 hx, fun k hk => ⟨Nat.lt_of_lt_of_le (h3 k hk).1 ht.size, fun hc => ?_, (h3 k hk).2.2⟩,
    fun k hk => ⟨Nat.lt_of_lt_of_le (h4 k hk).1 ht.size, fun hc => ?_⟩, fun k hk => (hy k hk).1⟩
  · rcases (hy k hc).2 with hx | hx
    · exact (h3 k hk).2.1 hx
    · have := (h3 k hk).1; omega
  · rcases (hy k hc).2 with hx | hx
    · exact (h4 k hk).2 hx
    · have := (h4 k hk).1; omega
theorem Duo.lt (h : Duo w b1 s1 b2 s2 X) {k : Nat} (hk : X k) : k < w.heap.size := by
  obtain ⟨F1, F2, h1, h2, h3, h4, h5⟩ := h
  exact h5 k hk
theorem Duo.emp (h : Duo w b1 s1 b2 s2 X) (ht : Touch Emp w w1) : Duo w1 b1 s1 b2 s2 X :=
  h.grow (ht.mono fun _ _ h => h.elim) fun _ hk => ⟨Nat.lt_of_lt_of_le (h.lt hk) ht.size, .inl hk⟩

theorem Duo.step {P : Program} {f : FuncId} {args : Array Value} {R : Ending → World → Prop} {s1' : DSt} (h : Duo w b1 s1 b2 s2 X)
    (H : ∀ Y, (∀ k, X k → Y k) → Has w b1 s1 Y → Calls P f args w fun e w' => R e w' ∧ Keep Y w w' ∧ Has w' b1 s1' Y) :
    Calls P f args w fun e w' => R e w' ∧ Keep X w w' ∧ Duo w' b1 s1' b2 s2 X := by
  obtain ⟨F1, F2, h1, h2, h3, h4, h5⟩ := h
  refine (H (fun k => X k ∨ F2 k) (fun k => .inl) ⟨F1, h1, fun k hk => ⟨(h3 k hk).1, fun hc => hc.elim (h3 k hk).2.1 (h3 k hk).2.2⟩, fun k hk => hk.elim (h5 k) fun h => (h4 k h).1⟩).mono ?_
  rintro e w' ⟨hr, hk, G, g1, g2, g3⟩
  exact ⟨hr, hk.mono fun k => .inl, G, F2, g1, h2.touch hk fun k hf hc => hc (.inr hf), fun k hg => ⟨(g2 k hg).1, fun hx => (g2 k hg).2 (.inl hx), fun hf => (g2 k hg).2 (.inr hf)⟩, fun k hf => ⟨g3 k (.inr hf), (h4 k hf).2⟩, fun k hx => g3 k (.inl hx)⟩
theorem Duo.read (h : Duo w b1 s1 b2 s2 X) (hf : s1.Fit) (at_ n : Int) (l : List UInt8) (he : s1.readR at_ = (n, l)) :
    Calls Tryd.prog 14 #[.pointer (some ⟨b1, 0, none⟩), .int .i64 at_] w fun e w' => ∃ v g, e = .returned (.tuple #[v, .int .i64 n]) ∧ Keep X w w' ∧ Reads w' v l g ∧
      Duo w' b1 (s1.read at_) b2 s2 X ∧ (l ≠ [] → Duo w' b1 (s1.read at_) b2 s2 (Or1 X g)) := by
  obtain ⟨F1, F2, h1, h2, h3, h4, h5⟩ := h
  refine (read_has (X := fun k => X k ∨ F2 k) ⟨F1, h1, fun k hk => ⟨(h3 k hk).1, fun hc => hc.elim (h3 k hk).2.1 (h3 k hk).2.2⟩, fun k hk => hk.elim (h5 k) fun h => (h4 k h).1⟩ hf at_).mono ?_
  rw [he]
  rintro e w' ⟨v, rfl, hk, ⟨G, g1, g2, g3⟩, g, hr, hx⟩
  refine ⟨v, g, rfl, hk.mono fun k => .inl, hr, ?_, fun h0 => ?_⟩
  · exact ⟨G, F2, g1, h2.touch hk fun k hf hc => hc (.inr hf), fun k hg => ⟨(g2 k hg).1, fun hx => (g2 k hg).2 (.inl hx), fun hf => (g2 k hg).2 (.inr hf)⟩, fun k hf => ⟨g3 k (.inr hf), (h4 k hf).2⟩, fun k hx => g3 k (.inl hx)⟩
  · obtain ⟨hg1, hg2, _, G', g1', g2', g3'⟩ := hx h0
    refine ⟨G', F2, g1', h2.touch hk fun k hf hc => hc (.inr hf), fun k hg => ⟨(g2' k hg).1, fun hx => (g2' k hg).2 (hx.elim (fun h => .inl (.inl h)) .inr), fun hf => (g2' k hg).2 (.inl (.inr hf))⟩, fun k hf => ⟨g3 k (.inr hf), ?_⟩, fun k hx => hx.elim (fun h => g3 k (.inl h)) fun h => h ▸ hg2⟩
    rintro (hx | rfl)
    · exact (h4 k hf).2 hx
    · have := (h4 _ hf).1; omega
theorem two_new {w w1 w2 : World} {b1 b2 : Nat} {s1 s2 : DSt} {n : Nat} (h1 : Has w1 b1 s1 X) (h2 : Has w2 b2 s2 (fun k => k < n)) (hn : n = w1.heap.size) (ht : Touch Emp w1 w2) : Duo w2 b1 s1 b2 s2 X := by
  subst hn
  obtain ⟨F1, d1, e1, x1⟩ := h1
  obtain ⟨F2, d2, e2, x2⟩ := h2
  exact ⟨F1, F2, d1.touch ht fun _ _ h => h, d2, fun k hk => ⟨Nat.lt_of_lt_of_le (e1 k hk).1 ht.size, (e1 k hk).2, fun hf => (e2 k hf).2 (e1 k hk).1⟩, fun k hk => ⟨(e2 k hk).1, fun hx => (e2 k hk).2 (x1 k hx)⟩, fun k hx => Nat.lt_of_lt_of_le (x1 k hx) ht.size⟩
end

/-- One write of a sector that was just made. -/
theorem Duo.put {w : World} {b1 b2 : Nat} {s1 s2 : DSt} {X : Nat → Prop} (h : Duo w b1 s1 b2 s2 X) (hf : s1.Fit) (at_ a n : Int) (he : s1.writeErr at_ (sectorL a) = n) :
    Calls Tryd.prog 10 #[.pointer (some ⟨b1, 0, none⟩), .int .i64 at_, .slice (some ⟨w.heap.size, 0, none⟩) 512 512] (w.alloc (.cells (rowA (sectorL a)) 5)) fun e w' =>
      e = .returned (.int .i64 n) ∧ Keep X w w' ∧ Duo w' b1 (s1.write at_ (sectorL a)) b2 s2 X := by
  have h' : Duo (w.alloc (.cells (rowA (sectorL a)) 5)) b1 s1 b2 s2 (Or1 X w.heap.size) :=
    h.grow ((Touch.refl X w).alloc _) fun k hk => by
      rcases hk with hk | rfl
      · have := h.lt hk; exact ⟨by simp; omega, .inl hk⟩
      · exact ⟨by simp, .inr (Nat.le_refl _)⟩
  refine (h'.step (R := fun e _ => e = .returned (.int .i64 n)) (s1' := s1.write at_ (sectorL a)) fun Y hY hH => ?_).mono ?_
  · refine (write_has hH hf at_ _ (sectorL a) _ (sec_reads w a) fun _ => hY _ (.inr rfl)).mono ?_
    rw [he]
    exact fun e w' h => h
  · rintro e w' ⟨he, hk, ht⟩
    exact ⟨he, ((Keep.refl X w).alloc _).trans (hk.mono fun k => .inl), ht.mono fun k => .inl⟩
theorem Duo.start {w : World} {b1 b2 : Nat} {s1 s2 : DSt} {X : Nat → Prop} (h : Duo w b1 s1 b2 s2 X) :
    Calls Tryd.prog 15 #[.pointer (some ⟨b1, 0, none⟩)] w fun e w' => e = .returned (.int .i64 s1.startErr) ∧ Keep X w w' ∧ Duo w' b1 s1.start b2 s2 X :=
  h.step (R := fun e _ => e = .returned (.int .i64 s1.startErr)) fun _ _ hH => start_has hH
theorem Duo.crash {w : World} {b1 b2 : Nat} {s1 s2 : DSt} {X : Nat → Prop} (h : Duo w b1 s1 b2 s2 X) (hf : s1.Fit) (v : Value) (keep : List Int) (g : Nat) (hk : IReads w v keep g) (hg : keep ≠ [] → X g) :
    Calls Tryd.prog 13 #[.pointer (some ⟨b1, 0, none⟩), v] w fun e w' => e = .returned (.tuple #[]) ∧ Keep X w w' ∧ Duo w' b1 (s1.crash keep) b2 s2 X :=
  h.step (R := fun e _ => e = .returned (.tuple #[])) fun _ hY hH => crash_has hH (Nat.lt_trans hf.1 (by omega)) v keep g hk fun h0 => hY _ (hg h0)

end Go.Proofs.YtmedpmhiebcdjaaDoor
