/- Read of a journal that goes. -/
import Derived.Test.YthapggobpfcmjaaGreatJgo
import Derived.Test.YthapggobpfcmjaaGreatJmc
set_option maxRecDepth 100000
namespace Go.Proofs.YthapggobpfcmjaaGreat
namespace Jn
open Go.RowKit

theorem Jl.incR {w : World} {A : Ad} {F : Nat → Prop} {s : JSt} {t : Jou.St} {ds : DSt} {dat : Nat → List UInt8} (h : Jl w A F s t ds dat) {w1 : World} {G : Nat → Prop} (ht : Touch G w w1) (h2 : ∀ k, A.own k → ¬ G k) (hd : DevF w1 F A.b ds.incR) : Jl w1 A F s t ds.incR dat :=
  ⟨h.jat.touch ht h2, hd, h.off, h.br, h.up.incR, h.sec, h.live, h.rule, h.hold, h.non, h.nn, h.ee, h.ss, h.tt, h.wt⟩
section
variable {w0 wr w1 : World} {A : Ad} {B : Nat} {s : JSt} {t : Jou.St} {ds : DSt} {dat : Nat → List UInt8} {c : Nat}
theorem Goes.read (h : Goes w0 A B s t ds dat c wr) (hc : c < 1000000) {id : Nat} (hid : id < s.N) :
    Calls Tryz.prog 16 #[.pointer (some ⟨A.J, 0, none⟩), .int .i64 (id : Int)] wr fun e w' => (∃ v g, e = .returned (.tuple #[v, .int .i64 0]) ∧ BV w' v (dat id) g ∧ wr.heap.size ≤ g) ∧ Touch (fun k => w0.heap.size ≤ k ∧ k < B) wr w' ∧
      ∃ ds', Goes w0 A B s t ds' dat (c + 1) w' ∧ ds'.flushes = ds.flushes ∧ ds'.writes = ds.writes ∧ ds'.reads = ds.reads + (if (s.a id).isSome then 1 else 0) := by
  obtain ⟨F, hj, hF⟩ := h.jl
  have hr := h.reads
  have hwr := h.writes
  have hfl := h.flushes
  have hsq := h.sq
  cases ha : s.a id with
  | none =>
    refine (read_never hj.jat hj.br id hid ha).mono ?_
    rintro e w' ⟨rfl, rfl⟩
    refine ⟨⟨_, wr.heap.size, rfl, ?_, Nat.le_refl _⟩, (Touch.refl _ wr).alloc _, ds, ?_, rfl, rfl, rfl⟩
    · rw [hj.non id ha]
      exact BV.lit wr _ _ (zerosL 480) 480 480 rfl (by rw [zerosL_length]) (Nat.le_refl _)
    · have h' := h.alloc (.cells (rowA (zerosL 480)) 5)
      exact ⟨h'.jl, h'.own, h'.size, h'.below, by omega, by omega, by omega, by omega⟩
  | some p =>
    refine (read_has hj.jat hj.dev hj.off hj.br hj.up ⟨by have := hj.wt; omega, by omega, by omega, by omega⟩ hj.sec id p hid ha _ (hj.hold id p ha)).mono ?_
    rintro e w' ⟨⟨v, rfl, hv⟩, ht, hd⟩
    refine ⟨?_, ht.mono fun k _ hk => hF k hk, ds.incR, ?_, rfl, rfl, rfl⟩
    · obtain ⟨g, cap, rfl, hc2, hg, ho⟩ := hv
      exact ⟨_, g, rfl, ho.bv _ cap rfl hc2, hg⟩
    · refine ⟨⟨F, hj.incR ht hj.off hd, hF⟩, h.own, Nat.le_trans h.size ht.size, h.below.trans (ht.to_below (fun j _ hj2 => (hF j hj2).1) h.below.size), by omega, ?_, ?_, ?_⟩
      · show ds.reads + 1 ≤ _
        omega
      · show ds.writes ≤ _
        omega
      · show ds.flushes ≤ _
        omega
end
end Jn
end Go.Proofs.YthapggobpfcmjaaGreat
