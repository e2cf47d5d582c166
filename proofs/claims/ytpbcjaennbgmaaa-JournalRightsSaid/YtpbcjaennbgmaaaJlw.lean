/- What the laws of a journal share: where one begins; a step; a batch that may be, or may not. -/
import Derived.Test.YtpbcjaennbgmaaaJwr
import Derived.Test.YtpbcjaennbgmaaaJap
set_option maxRecDepth 100000
namespace Go.Proofs.Ytpbcjaennbgmaaa
namespace Jn
open Go.RowKit

theorem goes_start {w0 w w1 w2 w3 : World} {A : Ad} {n P N : Nat} {o : Nat → Option Nat} (h0 : Below w0.heap.size w0 w) (hab : A.b = w.heap.size + 2) (hd : Dev w1 (NewF w) (w.heap.size + 2) (DSt.new n)) (hs : w1.heap.size = w.heap.size + 3) (hb1 : Below w.heap.size w w1) (hb2 : Below w1.heap.size w1 w2) (hb3 : Below w2.heap.size w2 w3)
    (hlo : ∀ k, A.own k → w2.heap.size ≤ k) (hj : JAt w3 A (s0 P 1 1 0 0 0 N (fun _ => none) o)) (hn : P + 1 ≤ n) (hr : 5 * N + 240 ≤ 2 * P) (hN : N ≤ 3840) :
    Goes w0 A w3.heap.size (s0 P 1 1 0 0 0 N (fun _ => none) o) ⟨0, 0, 0, fun _ => none⟩ (DSt.new n) (fun _ => zerosL 480) 0 w3 := by
  have D1 := devF_new hd hs
  rw [← hab] at D1
  have k0 := h0.size
  have k1 := hb1.size
  have k2 := hb2.size
  have k3 := hb3.size
  have hF3 : ∀ k, A.own k → ¬ NewF w k := fun k hk hf => by
    have h1 := hlo k hk
    have h4 := hf.2
    omega
  refine ⟨⟨_, jl_start hj ((D1.below hb2).below hb3) hF3 hn hr hN, fun k hk => ⟨by have := hk.1; omega, by have := hk.2; omega⟩⟩, fun k hk => ⟨by have := hlo k hk; omega, hj.lt k hk⟩, Nat.le_refl _, ?_, Nat.le_refl _, Nat.le_refl _, Nat.le_refl _, Nat.le_refl _⟩
  exact h0.trans ((hb1.trans ((hb2.mono k1).trans (hb3.mono (by omega)))).mono k0)

section
variable {w0 wr w1 : World} {A : Ad} {B : Nat} {s : JSt} {t : Jou.St} {ds : DSt} {dat : Nat → List UInt8} {c : Nat}
theorem Goes.more (h : Goes w0 A B s t ds dat c wr) {c' : Nat} (hc : c ≤ c') : Goes w0 A B s t ds dat c' wr :=
  ⟨h.jl, h.own, h.size, h.below, by have := h.sq; omega, by have := h.reads; omega, by have := h.writes; omega, by have := h.flushes; omega⟩
theorem Goes.up (h : Goes w0 A B s t ds dat c wr) {B' : Nat} (hb : B ≤ B') (hs : B' ≤ wr.heap.size) : Goes w0 A B' s t ds dat c wr := by
  obtain ⟨F, hj, hF⟩ := h.jl
  exact ⟨⟨F, hj, fun k hk => ⟨(hF k hk).1, by have := (hF k hk).2; omega⟩⟩, fun k hk => ⟨(h.own k hk).1, by have := (h.own k hk).2; omega⟩, hs, h.below, h.sq, h.reads, h.writes, h.flushes⟩
theorem Goes.broken (h : Goes w0 A B s t ds dat c wr) : s.broken = false := by
  obtain ⟨F, hj, -⟩ := h.jl
  exact hj.br
theorem Goes.dev (h : Goes w0 A B s t ds dat c wr) : ∃ F, Dev wr F A.b ds := by
  obtain ⟨F, hj, -⟩ := h.jl
  exact ⟨F, hj.dev.dev⟩
/-- Any batch, one that may be or one that may not. -/
theorem Goes.any_commit (h : Goes w0 A B s t ds dat c wr) (hc : c < 1000000) {v : Value} {E : List WE} {X : Nat → Prop} (hw : WL wr v E X) (hX : ∀ k, X k → B ≤ k ∧ k < wr.heap.size) (hl : E.length ≤ 1000) :
    Calls Try.prog 14 #[.pointer (some ⟨A.J, 0, none⟩), v] wr fun e w' => ∃ x : Int, e = .returned (.int .i64 x) ∧ (MayE s.N E ∧ x = 0 ∨ ¬ MayE s.N E ∧ x = 1) ∧ Touch (fun k => w0.heap.size ≤ k ∧ k < B) wr w' ∧
      ∃ s' t' ds', Goes w0 A w'.heap.size s' t' ds' (if x = 0 then datB E dat else dat) (c + 1) w' ∧ s'.N = s.N ∧ s'.P = s.P ∧ s'.ep = s.ep ∧ s'.st = s.st ∧ s.sq ≤ s'.sq := by
  by_cases hE : MayE s.N E
  · refine (h.commit hc hw hX hE).mono ?_
    rintro e w' ⟨rfl, ht, s', t', ds', hg, q1, q2, q3, q4, q5, -⟩
    exact ⟨0, rfl, .inl ⟨hE, rfl⟩, ht, s', t', ds', hg, q1, q2, q3, q4, by omega⟩
  · refine (commit_bad h.jat hw (fun k hk => (hX k hk).2) (by omega) hE).mono ?_
    rintro e w' ⟨rfl, hb⟩
    exact ⟨1, rfl, .inr ⟨hE, rfl⟩, Touch.of_below hb, s, t, ds, ((h.low hb).more (by omega)).up (Nat.le_trans h.size hb.size) (Nat.le_refl _), rfl, rfl, rfl, rfl, Nat.le_refl _⟩
end

/-- A journal of N blocks and P places that has gone some batches. -/
def Run (w0 : World) (A : Ad) (c N P : Nat) (wr : World) : Prop := ∃ B s t ds dat, Goes w0 A B s t ds dat c wr ∧ s.N = N ∧ s.P = P ∧ s.ep = 1 ∧ s.st = 1

/-- A step of a list that came in. -/
structure StepAt (w : World) (a : Option Addr) (i : Nat) (vids : Value) (ids : List Int) (g : Nat) (d n : Int) : Prop where
  at_ : ∃ b off, a = some ⟨b, off, none⟩ ∧ w.cell? ⟨b, off + i * 3, none⟩ = some vids ∧ w.cell? ⟨b, off + i * 3 + 1, none⟩ = some (.int .i64 d) ∧ w.cell? ⟨b, off + i * 3 + 2, none⟩ = some (.int .i64 n)
  nv : NV .i64 w vids ids g
  len : ids.length ≤ maxLen
def StepIn (w : World) (a : Option Addr) (i : Nat) : Prop := ∃ vids ids g d n, StepAt w a i vids ids g d n
theorem StepAt.below {w w1 : World} {a : Option Addr} {i : Nat} {vids : Value} {ids : List Int} {g : Nat} {d n : Int} (h : StepAt w a i vids ids g d n) (hb : Below w.heap.size w w1) : StepAt w1 a i vids ids g d n := by
  obtain ⟨b, off, rfl, c0, c1, c2⟩ := h.at_
  exact ⟨⟨b, off, rfl, (World.cell?_of_block (hb.block b (World.block_lt_of_cell? w _ c0))).trans c0, (World.cell?_of_block (hb.block b (World.block_lt_of_cell? w _ c1))).trans c1, (World.cell?_of_block (hb.block b (World.block_lt_of_cell? w _ c2))).trans c2⟩, h.nv.below hb, h.len⟩
end Jn
end Go.Proofs.Ytpbcjaennbgmaaa
