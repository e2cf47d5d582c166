/- A device that is down tells nothing; neither do places that there are not: what its walk needs. No condition. -/
import Derived.Test.YthapggobpfcmjaaRqa
import Derived.Test.YthapggobpfcmjaaBit
set_option maxRecDepth 100000
namespace Go.Proofs.Ythapggobpfcmjaa
namespace Rp
open Go.RowKit

theorem crash_len (s : DSt) (keep : List Int) : (s.crash keep).secs.length = s.secs.length := crashW_secs _ _ _
theorem crash_err {s : DSt} (keep : List Int) : (s.crash keep).err = 2 := by
  have h : (s.crash keep).fired = s.crash keep := by
    unfold DSt.fired
    rw [if_neg (fun h : (s.crash keep).armed = true ∧ _ => absurd h.1 (by show ¬ (false = true); decide))]
  unfold DSt.err
  rw [h]
  rfl
theorem crashW_counts : ∀ (ws : List (Nat × List UInt8)) (ks : List Int) (s : DSt), (DSt.crashW ws ks s).reads = s.reads ∧ (DSt.crashW ws ks s).writes = s.writes ∧ (DSt.crashW ws ks s).flushes = s.flushes
  | [], _, _ => by unfold DSt.crashW; exact ⟨rfl, rfl, rfl⟩
  | _ :: _, [], _ => by unfold DSt.crashW; exact ⟨rfl, rfl, rfl⟩
  | x :: ws, k :: ks, s => by
    have h := crashW_counts ws ks (s.one x k)
    have h2 : (s.one x k).reads = s.reads ∧ (s.one x k).writes = s.writes ∧ (s.one x k).flushes = s.flushes := by
      unfold DSt.one
      split
      · exact ⟨rfl, rfl, rfl⟩
      · split <;> exact ⟨rfl, rfl, rfl⟩
    exact ⟨h.1.trans h2.1, h.2.1.trans h2.2.1, h.2.2.trans h2.2.2⟩
theorem crash_fit {s : DSt} (keep : List Int) (h : s.Fit) : (s.crash keep).Fit := by
  obtain ⟨h1, h2, h3, h4⟩ := h
  obtain ⟨c1, c2, c3⟩ := crashW_counts s.waits keep s
  refine ⟨?_, ?_, ?_, ?_⟩
  · show 0 < _; omega
  · show (DSt.crashW s.waits keep s).reads < _; omega
  · show (DSt.crashW s.waits keep s).writes < _; omega
  · show (DSt.crashW s.waits keep s).flushes < _; omega
theorem crash_dv {w : World} {F : Nat → Prop} {b : Nat} {s : DSt} (h : DvF w F b s) (hsz : s.waits.length < 4294967296) :
    Calls Try.prog 10 #[.pointer (some ⟨b, 0, none⟩), .slice none 0 0] w fun e w' => e = .returned (.tuple #[]) ∧ Touch F w w' ∧ DvF w' F b (s.crash []) := by
  obtain ⟨gs, S, wv, W, bm, es, clk, kv, hd⟩ := h.dev
  refine (crash_any hd (.slice none 0 0) [] 0 ⟨0, 0, .inr ⟨⟨none, rfl⟩, rfl⟩⟩ (fun h => absurd rfl h) hsz).mono ?_
  rintro e w' ⟨he, ht, hd'⟩
  exact ⟨he, ht, hd', fun k hk => Nat.lt_of_lt_of_le (h.lt k hk) ht.size⟩
theorem down_below {w w0 w1 w2 w3 w4 : World} {o o' : Obj} (h0 : Below w.heap.size w w0) (h1 : Touch Emp w0 w1) (h2 : Below w1.heap.size w1 w2) (h3 : Touch (NewF w0) (w2.alloc o) w3) (h4 : Below w3.heap.size w3 w4) : Below w.heap.size w (w4.alloc o') := by
  have n0 := h0.size
  have t : Touch (NewF w0) w w4 := (((((Touch.of_below (F := NewF w0) h0).trans (h1.mono fun _ _ h => h.elim) fun _ h _ => h).trans (Touch.of_below (F := NewF w0) h2) fun _ h _ => h).alloc o).trans h3 fun _ h _ => h).trans (Touch.of_below (F := NewF w0) h4) fun _ h _ => h
  have t2 := t.alloc o'
  exact ⟨t2.os, t2.tape, t2.output, t2.size, fun k hk => t2.block k hk fun h => by have := h.1; omega⟩
theorem down_below2 {w w0 w1 w2 w3 w4 : World} {o o' : Obj} (h0 : Below w.heap.size w w0) (h1 : Touch Emp w0 w1) (h2 : Touch (NewF w0) w1 w2) (h3 : Touch (NewF w0) (w2.alloc o) w3) (h4 : Touch (NewF w0) w3 w4) : Below w.heap.size w (w4.alloc o') := by
  have n0 := h0.size
  have t : Touch (NewF w0) w w4 := (((((Touch.of_below (F := NewF w0) h0).trans (h1.mono fun _ _ h => h.elim) fun _ h _ => h).trans h2 fun _ h _ => h).alloc o).trans h3 fun _ h _ => h).trans h4 fun _ h _ => h
  have t2 := t.alloc o'
  exact ⟨t2.os, t2.tape, t2.output, t2.size, fun k hk => t2.block k hk fun h => by have := h.1; omega⟩

set_option maxHeartbeats 1000000 in
theorem empty_z (w : World) : Calls Try.prog 14 #[stZ] w fun e w' => e = .returned (.bool true) ∧ Below w.heap.size w w' := by
  go_enter Try.func14, Try.ntmps14
  go_wp2
  go_ret
  exact ⟨rfl, (Below.refl _ w).alloc (Nat.le_refl _) _⟩

end Rp
end Go.Proofs.Ythapggobpfcmjaa
