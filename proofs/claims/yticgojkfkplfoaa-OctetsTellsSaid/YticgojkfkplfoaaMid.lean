/- A part in the middle; what a reader tells in a region that draws its order. No condition. -/
import Derived.Test.YticgojkfkplfoaaFds
namespace Go.Proofs.Yticgojkfkplfoaa
open Go.RowKit

theorem run_mid (w : World) (a : Option Addr) (n cap p q : Nat) (hp : p ≤ q) (hq : q ≤ cap) (x : Int) (hx : x = (q : Int)) :
    (Instr.sliceAt 22 (.slice a n cap) (some (.int .i64 (p : Int))) (some (.int .i64 x)) none).run Try.prog w = .ok (.slice (if cap = p then a else a.map (·.add p)) (q - p) (cap - p)) w := by
  subst hx
  have hu : Try.prog.underlying 22 = some (.slice (Try.prog.elem 22)) := by rw [elemBytes]; exact Try.underlying22
  rw [run_sliceAt_slice w _ _ _ _ _ hu, run_slice_lh w _ a n cap hu .i64 .i64 p q (by omega) (by omega) (by omega), elemBytes, sizeByte]
  simp [Result.andThen, sliced]
theorem BV.mid {w : World} {l : List UInt8} {g : Nat} {a : Option Addr} {n cap : Nat} (h : BV w (.slice a n cap) l g) (p k : Nat) (hp : p + k ≤ n) : BV w (.slice (if cap = p then a else a.map (·.add p)) k (cap - p)) ((l.drop p).take k) g := by
  have hf : n ≤ cap := by obtain ⟨_, _, e, h1, _⟩ := h.form; cases e; exact h1
  exact (h.drop p (by omega)).take k (by omega) _ (by omega) (Nat.le_refl _)
theorem BV.drewN {w : World} {v : Value} {l : List UInt8} {g : Nat} (h : BV w v l g) (n : Nat) : BV (w.drewN n) v l g := h.touch (F := Emp) ((Touch.refl Emp w).drewN n) fun _ => id
theorem fine_q {b : Nat} {l : List UInt8} {s : Bool} {g : Nat} {w : World} (h : Rdr w b l s g) (n : Nat) :
    Calls Try.prog 16 #[.pointer (some ⟨b, 0, none⟩)] (w.drewN n) fun e w' => e = .returned (.bool !s) ∧ w' = w.drewN n :=
  (fine_any b l s g (w.drewN n) (h.touch (F := Emp) ((Touch.refl Emp w).drewN n) id fun _ => id)).mono fun _ _ ⟨h1, h2⟩ => ⟨h1, h2.symm⟩
theorem left_q {b : Nat} {l : List UInt8} {s : Bool} {g : Nat} {w : World} (h : Rdr w b l s g) (n : Nat) :
    Calls Try.prog 17 #[.pointer (some ⟨b, 0, none⟩)] (w.drewN n) fun e w' => e = .returned (.int .i64 (l.length : Int)) ∧ w' = w.drewN n :=
  (left_any b l s g (w.drewN n) (h.touch (F := Emp) ((Touch.refl Emp w).drewN n) id fun _ => id)).mono fun _ _ ⟨h1, h2⟩ => ⟨h1, h2.symm⟩

end Go.Proofs.Yticgojkfkplfoaa
