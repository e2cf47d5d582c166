/- Which blocks are live at the first places in use: the iterator. No condition. -/
import Derived.Test.YthapggobpfcmjaaGreatJmb
import Derived.Test.YthapggobpfcmjaaGreatJmc
import Derived.Deep.RegionWith
import Derived.Deep.RegionHeld3
set_option maxRecDepth 100000
namespace Go.Proofs.YthapggobpfcmjaaGreat
namespace Jn
open Go.RowKit Go.Shelf

/-- The tail, and the blocks at the first n places from there on. -/
def tl (s : JSt) : Nat := (((s.head : Int) + -(s.used : Int)) % (s.P : Int)).toNat
def liveL (s : JSt) (n : Nat) : List Nat := (List.range n).filterMap fun i => s.o ((tl s + i) % s.P)
theorem tl_int (s : JSt) (h : 1 ≤ s.P) : ((s.head : Int) + -(s.used : Int)) % (s.P : Int) = (tl s : Int) := by
  have := Int.emod_nonneg ((s.head : Int) + -(s.used : Int)) (b := (s.P : Int)) (by omega)
  unfold tl; omega
theorem liveL_succ (s : JSt) (n : Nat) : liveL s (n + 1) = liveL s n ++ (match s.o ((tl s + n) % s.P) with | some x => [x] | none => []) := by
  unfold liveL
  rw [List.range_succ, List.filterMap_append]
  cases h : s.o ((tl s + n) % s.P) <;> simp [h]

theorem cell_alloc_k {W : World} {a : Addr} {v : Value} (o : Obj) (h : W.cell? a = some v) : (W.alloc o).cell? a = some v :=
  (World.cell?_alloc_lt _ _ _ (World.block_lt_of_cell? W a h)).trans h
theorem cell_set_k {W : World} {a b : Addr} {v u : Value} (hab : a.block ≠ b.block) (h : W.cell? a = some v) : (W.setCell b u).cell? a = some v :=
  (World.cell?_of_block (heap_setCell_other W b a.block u hab)).trans h

/-- What the iterator holds: the journal, the tail, how many places. -/
structure LiveAt (w : World) (bj bt bn J n : Nat) (t : Nat) : Prop where
  j : Boxed w bj 28 (.pointer (some ⟨J, 0, none⟩))
  t : Boxed w bt 3 (.int .i64 (t : Int))
  n : Boxed w bn 3 (.int .i64 (n : Int))
theorem LiveAt.touch {F : Nat → Prop} {w w1 : World} {bj bt bn J n t : Nat} (h : LiveAt w bj bt bn J n t) (ht : Touch F w w1) (h1 : ¬ F bj) (h2 : ¬ F bt) (h3 : ¬ F bn) : LiveAt w1 bj bt bn J n t :=
  ⟨ht.at h.j h1, ht.at h.t h2, ht.at h.n h3⟩

set_option maxHeartbeats 1000000 in
theorem live_any {w : World} {A : Ad} {s : JSt} (h : JAt w A s) (n : Nat) :
    Calls Tryz.prog 54 #[.pointer (some ⟨A.J, 0, none⟩), .int .i64 (n : Int)] w fun e w' => ∃ bj bt bn, e = .returned (.func (.func 86) #[] #[.pointer (some ⟨bj, 0, none⟩), .pointer (some ⟨bt, 0, none⟩), .pointer (some ⟨bn, 0, none⟩)]) ∧ LiveAt w' bj bt bn A.J n (tl s) ∧ w.heap.size ≤ bj ∧ w.heap.size ≤ bt ∧ w.heap.size ≤ bn ∧ Below w.heap.size w w' := by
  obtain ⟨p, hp⟩ : ∃ p, p = w.heap.size := ⟨_, rfl⟩
  have hJ : A.J < w.heap.size := h.lt _ (.inl rfl)
  have B1 := (Boxed.new w 28 (.pointer (some ⟨A.J, 0, none⟩))).alloc (.cells #[.int .i64 (n : Int)] 3)
  have B2 := Boxed.new (w.alloc (.cells #[.pointer (some ⟨A.J, 0, none⟩)] 28)) 3 (.int .i64 (n : Int))
  have H2 := (h.alloc (.cells #[.pointer (some ⟨A.J, 0, none⟩)] 28)).alloc (.cells #[.int .i64 (n : Int)] 3)
  have HB := (((Below.refl w.heap.size w).alloc (Nat.le_refl _) (.cells #[.pointer (some ⟨A.J, 0, none⟩)] 28)).alloc (by simp) (.cells #[.int .i64 (n : Int)] 3))
  have hsz : ((w.alloc (.cells #[.pointer (some ⟨A.J, 0, none⟩)] 28)).alloc (.cells #[.int .i64 (n : Int)] 3)).heap.size = w.heap.size + 2 := by simp
  simp only [World.size_alloc] at B2
  rw [← hp] at hJ B1 B2 hsz HB
  have HP := Lib.hid hp
  have HT := Lib.hid (tl_int s h.p1)
  have h1 := h.p1
  have hm := h.pm
  have hu := h.us
  replace B1 := Lib.hid B1
  replace B2 := Lib.hid B2
  replace H2 := Lib.hid H2
  replace HB := Lib.hid HB
  have HS := Lib.hid hsz
  go_enter Tryz.func54, Tryz.ntmps54
  clear h hsz
  go_wp2_with fail
  rw [← hp]
  clear hp
  generalize (w.alloc (.cells #[.pointer (some ⟨A.J, 0, none⟩)] 28)).alloc (.cells #[.int .i64 (n : Int)] 3) = W at B1 B2 H2 HB HS ⊢
  have c1 := B1.out.cell
  obtain ⟨-, d1, -, -, -, -, -, d7, d8, -⟩ := H2.out.cells
  have c2 := H2.out.ring.hcell
  have hJW : A.J ≠ W.heap.size := by have := HS.out; omega
  have hRW : A.R ≠ W.heap.size := by have := H2.out.lt A.R (.inr (.inl rfl)); omega
  have hpW : p ≠ W.heap.size := by have := HS.out; omega
  have GO := Lib.hid (fun V (hc : V.cell? ⟨A.R, 0, none⟩ = some (.slice (some ⟨A.gr, 0, none⟩) s.P s.P)) => (HT.out ▸ Rg.go_c A.R A.gr s.P s.head (-(s.used : Int)) V hc h1 hm : Calls Tryz.prog 57 #[.pointer (some ⟨A.R, 0, none⟩), .int .i64 (s.head : Int), .int .i64 (-(s.used : Int))] V fun e w' => e = .returned (.int .i64 (tl s : Int)) ∧ V = w'))
  have hn1 : IntKind.i64.wrap (-(s.used : Int)) = -(s.used : Int) := by rw [IntKind.wrap_i64]; omega
  go_region_held3 (fun V => V.cell? ⟨p, 0, none⟩ = some (.pointer (some ⟨A.J, 0, none⟩)) ∧ V.cell? ⟨A.J, 1, none⟩ = some (.pointer (some ⟨A.R, 0, none⟩)) ∧ V.cell? ⟨A.J, 7, none⟩ = some (.int .i64 (s.head : Int)) ∧ V.cell? ⟨A.J, 8, none⟩ = some (.int .i64 (s.used : Int)) ∧ V.cell? ⟨A.R, 0, none⟩ = some (.slice (some ⟨A.gr, 0, none⟩) s.P s.P))
    (refine ⟨?_, ?_, ?_, ?_, ?_⟩ <;> first | assumption | exact cell_alloc_k _ (by assumption) | exact cell_set_k (by simpa using hpW) (by assumption) | exact cell_set_k (by simpa using hJW) (by assumption) | exact cell_set_k (by simpa using hRW) (by assumption))
    (first | (go_at_call 57; refine (GO.out _ ?hs).mono ?_; (case hs => first | assumption | simp [*]); rintro e w4 ⟨rfl, rfl⟩))
  all_goals
    go_wp2
    go_ret
    have hs := HS.out
    have hp := HP.out
    refine ⟨p, W.heap.size, p + 1, rfl, ⟨(B1.out.alloc _), Boxed.new W _ _, (B2.out.alloc _)⟩, by omega, by omega, by omega, ?_⟩
    have := (HB.out.alloc (by omega) (.cells #[.int .i64 (tl s : Int)] 3)).drew
    rwa [hp] at this

end Jn
end Go.Proofs.YthapggobpfcmjaaGreat
