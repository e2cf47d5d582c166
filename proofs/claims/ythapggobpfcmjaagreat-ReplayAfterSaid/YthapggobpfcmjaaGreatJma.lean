/- A journal in memory, and its small functions. No condition. -/
import Derived.Test.YthapggobpfcmjaaGreatRgi
import Derived.Test.YthapggobpfcmjaaGreatTba
import Derived.Test.YthapggobpfcmjaaGreatDvc
import Derived.Test.YthapggobpfcmjaaGreatTnb
import Derived.StillTailTactics
import Derived.BigQuiet
import Derived.Deep.QuietTactic
set_option maxRecDepth 100000
namespace Go.Proofs.YthapggobpfcmjaaGreat
namespace Jn
open Go.RowKit

/-- A journal as the document has it: N blocks, P places; a: of each block its place, o: of each place its block. -/
structure JSt where
  N : Nat
  P : Nat
  ep : Nat
  st : Nat
  sq : Nat
  head : Nat
  used : Nat
  freed : Nat
  broken : Bool
  a : Nat → Option Nat
  o : Nat → Option Nat
/-- Where it lies. -/
structure Ad where
  J : Nat
  b : Nat
  R : Nat
  gr : Nat
  T : Nat
  gp : Nat
  go : Nat
def Ad.own (A : Ad) (k : Nat) : Prop := k = A.J ∨ k = A.R ∨ k = A.T ∨ k = A.gp ∨ k = A.go
def jC (s : JSt) (A : Ad) : Array Value := #[.pointer (some ⟨A.b, 0, none⟩), .pointer (some ⟨A.R, 0, none⟩), .pointer (some ⟨A.T, 0, none⟩), .int .i64 (s.N : Int), .int .u32 (s.ep : Int), .int .u64 (s.st : Int), .int .u64 (s.sq : Int), .int .i64 (s.head : Int), .int .i64 (s.used : Int), .slice none 0 0, .int .i64 (s.freed : Int), .bool s.broken]
structure JAt (w : World) (A : Ad) (s : JSt) : Prop where
  head : w.heap[A.J]? = some (.cells (jC s A) 73 (0, 0))
  ring : Rg.RingE w A.R A.gr s.P
  tab : Tb.TabAt w A.T A.gp A.go s.N s.P s.a s.o
  p1 : 1 ≤ s.P
  hd : s.head < s.P
  us : s.used + s.freed ≤ s.P
  sq : s.sq ≤ 281474976710655
  ep : s.ep < 4294967296
  st : s.st ≤ 281474976710656
section
variable {w w1 : World} {A : Ad} {s : JSt} {F : Nat → Prop}
theorem JAt.touch (h : JAt w A s) (ht : Touch F w w1) (hF : ∀ k, A.own k → ¬ F k) : JAt w1 A s :=
  ⟨ht.at h.head (hF _ (.inl rfl)), h.ring.touch ht (hF _ (.inr (.inl rfl))), h.tab.touch ht (hF _ (.inr (.inr (.inl rfl)))) (hF _ (.inr (.inr (.inr (.inl rfl))))) (hF _ (.inr (.inr (.inr (.inr rfl))))), h.p1, h.hd, h.us, h.sq, h.ep, h.st⟩
theorem JAt.below (h : JAt w A s) (hb : Below w.heap.size w w1) : JAt w1 A s := h.touch (F := Emp) (Touch.of_below hb) fun _ _ => id
theorem JAt.drewN (h : JAt w A s) (n : Nat) : JAt (w.drewN n) A s := h.touch (F := Emp) ((Touch.refl Emp w).drewN n) fun _ _ => id
theorem JAt.drew (h : JAt w A s) : JAt w.drew A s := h.touch (F := Emp) ((Touch.refl Emp w).drew) fun _ _ => id
theorem JAt.alloc (h : JAt w A s) (o : Obj) : JAt (w.alloc o) A s := h.below ((Below.refl _ w).alloc (Nat.le_refl _) o)
theorem JAt.lt (h : JAt w A s) : ∀ k, A.own k → k < w.heap.size := by
  rintro k (rfl | rfl | rfl | rfl | rfl)
  · exact lt_of_heap h.head
  · exact h.ring.lt
  · exact h.tab.lt.1
  · exact h.tab.lt.2.1
  · exact h.tab.lt.2.2
theorem JAt.cell (h : JAt w A s) (i : Nat) : w.cell? ⟨A.J, i, none⟩ = (jC s A)[i]? := cell_of_row w A.J i _ _ _ h.head
theorem JAt.free (h : JAt w A s) (i : Nat) : w.frozen? ⟨A.J, i, none⟩ = false := frozen_of_row w A.J i _ _ h.head
theorem JAt.pm (h : JAt w A s) : s.P ≤ 1048576 := h.tab.mS
/-- What the journal's own block holds. -/
theorem JAt.cells (h : JAt w A s) : w.cell? ⟨A.J, 0, none⟩ = some (.pointer (some ⟨A.b, 0, none⟩)) ∧ w.cell? ⟨A.J, 1, none⟩ = some (.pointer (some ⟨A.R, 0, none⟩)) ∧ w.cell? ⟨A.J, 2, none⟩ = some (.pointer (some ⟨A.T, 0, none⟩)) ∧ w.cell? ⟨A.J, 3, none⟩ = some (.int .i64 (s.N : Int)) ∧
    w.cell? ⟨A.J, 4, none⟩ = some (.int .u32 (s.ep : Int)) ∧ w.cell? ⟨A.J, 5, none⟩ = some (.int .u64 (s.st : Int)) ∧ w.cell? ⟨A.J, 6, none⟩ = some (.int .u64 (s.sq : Int)) ∧ w.cell? ⟨A.J, 7, none⟩ = some (.int .i64 (s.head : Int)) ∧ w.cell? ⟨A.J, 8, none⟩ = some (.int .i64 (s.used : Int)) ∧
    w.cell? ⟨A.J, 9, none⟩ = some (.slice none 0 0) ∧ w.cell? ⟨A.J, 10, none⟩ = some (.int .i64 (s.freed : Int)) ∧ w.cell? ⟨A.J, 11, none⟩ = some (.bool s.broken) := by
  refine ⟨?_, ?_, ?_, ?_, ?_, ?_, ?_, ?_, ?_, ?_, ?_, ?_⟩ <;> (rw [h.cell]; rfl)
end

section
variable {w : World} {A : Ad} {s : JSt}
set_option maxHeartbeats 400000 in
theorem has_any (h : JAt w A s) (id : Int) :
    Calls Tryz.prog 37 #[.pointer (some ⟨A.J, 0, none⟩), .int .i64 id] w fun e w' => e = .returned (.bool (decide (0 ≤ id ∧ id < s.N))) ∧ w = w' := by
  obtain ⟨-, -, -, c3, -⟩ := h.cells
  clear h
  by_cases h0 : 0 ≤ id
  · by_cases h1 : id < s.N
    · have h2 : (decide (0 ≤ id ∧ id < s.N)) = true := by simp [h0, h1]
      rw [h2]
      clear h2
      go_enter Tryz.func37, Tryz.ntmps37
      go_wp2
      go_ret
      exact ⟨rfl, rfl⟩
    · have h2 : (decide (0 ≤ id ∧ id < s.N)) = false := by simp [h1]
      rw [h2]
      clear h2
      go_enter Tryz.func37, Tryz.ntmps37
      go_wp2
      go_ret
      exact ⟨rfl, rfl⟩
  · have h2 : (decide (0 ≤ id ∧ id < s.N)) = false := by simp [h0]
    rw [h2]
    clear h2
    go_enter Tryz.func37, Tryz.ntmps37
    go_wp2
    go_ret
    exact ⟨rfl, rfl⟩


set_option maxHeartbeats 400000 in
theorem sector_any (p : Nat) (w : World) (hp : p ≤ 1048576) :
    Calls Tryz.prog 40 #[.int .i64 (p : Int)] w fun e w' => e = .returned (.int .i64 ((p + 1 : Nat) : Int)) ∧ w = w' := by
  go_enter Tryz.func40, Tryz.ntmps40
  go_wp2
  go_ret
  exact ⟨rfl, rfl⟩

set_option maxHeartbeats 1000000 in
theorem room_any (h : JAt w A s) :
    Calls Tryz.prog 28 #[.pointer (some ⟨A.J, 0, none⟩)] w fun e w' => e = .returned (.int .i64 ((s.P : Int) - s.used - s.freed)) ∧ ∃ n, w' = w.drewN n := by
  have LN := Lib.hid (fun n => (Rg.len_e A.R A.gr s.P (w.drewN n) (h.ring.drewN n)).mono fun e w' (hh : _ ∧ _) => (⟨hh.1, hh.2.symm⟩ : e = .returned (.int .i64 (s.P : Int)) ∧ w' = w.drewN n))
  obtain ⟨-, c1, -, -, -, -, -, -, c8, -, c10, -⟩ := h.cells
  have hp := h.pm
  have hu := h.us
  have h2 : ((s.P : Int) - s.used - s.freed) ≤ 1048576 := by omega
  have h3 : 0 ≤ ((s.P : Int) - s.used - s.freed) := by omega
  have h4 : 0 ≤ ((s.P : Int) - s.used) := by omega
  have h5 : ((s.P : Int) - s.used) ≤ 1048576 := by omega
  clear h hu
  go_enter Tryz.func28, Tryz.ntmps28
  go_wp2_with fail
  go_quiet ((go_at_call 56; exact Calls.quiet_of_same (LN.out _)))
  go_wp2
  go_ret
  exact ⟨rfl, _, rfl⟩
end

end Jn
end Go.Proofs.YthapggobpfcmjaaGreat
