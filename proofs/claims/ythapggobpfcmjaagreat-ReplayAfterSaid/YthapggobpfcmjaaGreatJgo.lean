/- A journal that goes, as the laws hold it: younger than w0, its blocks ahead of B. -/
import Derived.Test.YthapggobpfcmjaaGreatJwl
import Derived.Test.YthapggobpfcmjaaGreatJmo
set_option maxRecDepth 100000
namespace Go.Proofs.YthapggobpfcmjaaGreat
namespace Jn
open Go.RowKit

/-- c: how many batches there were at most. -/
structure Goes (w0 : World) (A : Ad) (B : Nat) (s : JSt) (t : Jou.St) (ds : DSt) (dat : Nat → List UInt8) (c : Nat) (wr : World) : Prop where
  jl : ∃ F, Jl wr A F s t ds dat ∧ ∀ k, F k → w0.heap.size ≤ k ∧ k < B
  own : ∀ k, A.own k → w0.heap.size ≤ k ∧ k < B
  size : B ≤ wr.heap.size
  below : Below w0.heap.size w0 wr
  sq : s.sq ≤ c
  reads : ds.reads ≤ 100 * c
  writes : ds.writes ≤ 100 * c
  flushes : ds.flushes ≤ 100 * c
section
variable {w0 wr w1 : World} {A : Ad} {B : Nat} {s : JSt} {t : Jou.St} {ds : DSt} {dat : Nat → List UInt8} {c : Nat}
theorem Jl.touch {w w1 : World} {A : Ad} {F G : Nat → Prop} {s : JSt} {t : Jou.St} {ds : DSt} {dat : Nat → List UInt8} (h : Jl w A F s t ds dat) (ht : Touch G w w1) (h1 : ∀ k, F k → ¬ G k) (h2 : ∀ k, A.own k → ¬ G k) : Jl w1 A F s t ds dat :=
  ⟨h.jat.touch ht h2, h.dev.touch ht h1, h.off, h.br, h.up, h.sec, h.live, h.rule, h.hold, h.non, h.nn, h.ee, h.ss, h.tt, h.wt⟩
/-- What touches younger blocks alone leaves it as it is. -/
theorem Goes.touch {G : Nat → Prop} (h : Goes w0 A B s t ds dat c wr) (ht : Touch G wr w1) (hG : ∀ k, G k → B ≤ k) : Goes w0 A B s t ds dat c w1 := by
  obtain ⟨F, hj, hF⟩ := h.jl
  have hB : ∀ k, A.own k → w0.heap.size ≤ B := fun k hk => by have := h.own k hk; omega
  have h0 := hB A.J (.inl rfl)
  refine ⟨⟨F, hj.touch ht (fun k hk hg => by have := hF k hk; have := hG k hg; omega) (fun k hk hg => by have := h.own k hk; have := hG k hg; omega), hF⟩, h.own, Nat.le_trans h.size ht.size, ?_, h.sq, h.reads, h.writes, h.flushes⟩
  exact h.below.trans (ht.to_below (fun j _ hj => by have := hG j hj; omega) h.below.size)
theorem Goes.low (h : Goes w0 A B s t ds dat c wr) (hb : Below wr.heap.size wr w1) : Goes w0 A B s t ds dat c w1 := h.touch (Touch.of_below (F := Emp) hb) fun _ h => h.elim
theorem Goes.alloc (h : Goes w0 A B s t ds dat c wr) (o : Obj) : Goes w0 A B s t ds dat c (wr.alloc o) := h.low ((Below.refl _ wr).alloc (Nat.le_refl _) o)

theorem Goes.jat (h : Goes w0 A B s t ds dat c wr) : JAt wr A s := by
  obtain ⟨F, hj, -⟩ := h.jl
  exact hj.jat

theorem Goes.commit (h : Goes w0 A B s t ds dat c wr) (hc : c < 1000000) {v : Value} {E : List WE} {X : Nat → Prop} (hw : WL wr v E X) (hX : ∀ k, X k → B ≤ k ∧ k < wr.heap.size) (hE : MayE s.N E) :
    Calls Tryz.prog 9 #[.pointer (some ⟨A.J, 0, none⟩), v] wr fun e w' => e = .returned (.int .i64 0) ∧ Touch (fun k => w0.heap.size ≤ k ∧ k < B) wr w' ∧
      ∃ s' t' ds', Goes w0 A w'.heap.size s' t' ds' (datB E dat) (c + 1) w' ∧ s'.N = s.N ∧ s'.P = s.P ∧ s'.ep = s.ep ∧ s'.st = s.st ∧ s'.sq = s.sq + 1 ∧
        ds'.reads ≤ ds.reads + 2 * E.length ∧ ds.reads ≤ ds'.reads ∧ ds'.writes ≤ ds.writes + 3 * E.length ∧ ds.writes ≤ ds'.writes ∧ ds'.flushes = ds.flushes + 1 ∧ Nxt t t' (idsN E) := by
  obtain ⟨F, hj, hF⟩ := h.jl
  have hr := h.reads
  have hwr := h.writes
  have hfl := h.flushes
  have hsq := h.sq
  refine (commit_ok hj hw (fun k hk => ⟨(hX k hk).2, fun hf => by have := hF k hf; have := hX k hk; omega, fun hf => by have := h.own k hf; have := hX k hk; omega⟩) hE (by omega) (by omega) (by omega) (by omega)).mono ?_
  rintro e w' ⟨he, ht, G, s', t', ds', hj', hG, q1, q2, q3, q4, q5, r1, r2, r3, r4, r5⟩
  have hl : E.length ≤ 24 := hE.2.1
  have hbo : ∀ k, Both F A k → w0.heap.size ≤ k ∧ k < B := fun k hk => hk.elim (hF k) (h.own k)
  have hs0 : w0.heap.size ≤ wr.heap.size := h.below.size
  refine ⟨he, ht.mono fun k _ hk => hbo k hk, s', t', ds', ⟨⟨G, hj', fun k hk => ⟨?_, hj'.dev.lt k hk⟩⟩, fun k hk => ⟨(h.own k hk).1, hj'.jat.lt k hk⟩, Nat.le_refl _, h.below.trans (ht.to_below (fun j _ hj => (hbo j hj).1) hs0), by omega, by omega, by omega, by omega⟩, q1, q2, q3, q4, q5, r1, r2, r3, r4, r5⟩
  by_cases hk2 : k < wr.heap.size
  · exact (hF k (hG k hk2 hk)).1
  · omega
end
end Jn
end Go.Proofs.YthapggobpfcmjaaGreat
