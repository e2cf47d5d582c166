/- Rings: From, and its iterator. Rings of 1 to 2^20 places. -/
import Derived.RangeFuncBox
import Derived.RangeFuncLeaves
import Derived.RangeFuncNested
import Derived.Shelf.Abstract
import Derived.Test.YtaldkjlmaajapaaRgs
import Derived.OwnWalkIn
import Derived.TacticsInMore
import Derived.LoopNIn
import Derived.LoopIn
import Derived.Deep.RegionWith
namespace Go.Proofs.Ytaldkjlmaajapaa
open Go.RowKit Go.Shelf

theorem clamp0_run (n : Int) (m N : Nat) (hN : min (max n 0) (m : Int) = (N : Int)) : ∃ x : Int, (∀ W : World, (Builtin.max_ #[3, 3] 3 #[.int .i64 n, .int .i64 0]).run Try.prog W = .ok (.int .i64 x) W) ∧ (∀ W : World, (Builtin.min_ #[3, 3] 3 #[.int .i64 x, .int .i64 (m : Int)]).run Try.prog W = .ok (.int .i64 (N : Int)) W) := by
  refine ⟨max n 0, fun W => ?_, fun W => ?_⟩
  · simp [Builtin.max_, Builtin.max2]
    split <;> omega
  · simp [Builtin.min_, Builtin.min2]
    split <;> omega

/-- What the iterator holds: the ring, the place, how many. -/
structure FromAt (w : World) (br ba bn R N : Nat) (at_ : Int) : Prop where
  r : Boxed w br 29 (.pointer (some ⟨R, 0, none⟩))
  a : Boxed w ba 3 (.int .i64 at_)
  n : Boxed w bn 3 (.int .i64 (N : Int))

set_option maxHeartbeats 1000000 in
theorem from_i (R g n : Nat) (l : List Value) (a k : Int) (N : Nat) (w : World) (h : Ringi w R g n l) (hN : min (max k 0) (n : Int) = (N : Int)) :
    Calls Try.prog 16 #[.pointer (some ⟨R, 0, none⟩), .int .i64 a, .int .i64 k] w fun e w' => (∃ br ba bn, e = .returned (.func (.func 27) #[] #[.pointer (some ⟨bn, 0, none⟩), .pointer (some ⟨br, 0, none⟩), .pointer (some ⟨ba, 0, none⟩)]) ∧ FromAt w' br ba bn R N a ∧ w.heap.size ≤ br ∧ w.heap.size ≤ ba ∧ w.heap.size ≤ bn) ∧ Below w.heap.size w w' := by
  obtain ⟨x, hx, hy⟩ := clamp0_run k n N hN
  have L := Lib.hid (fun W (h : Ringi W R g n l) => len_i R g n l W h)
  have H := Lib.hid h
  have e1 : (w.alloc (.cells #[.pointer (some ⟨R, 0, none⟩)] 29)).heap.size = w.heap.size + 1 := by simp
  have e2 : ((w.alloc (.cells #[.pointer (some ⟨R, 0, none⟩)] 29)).alloc (.cells #[.int .i64 a] 3)).heap.size = w.heap.size + 1 + 1 := by simp
  have HB := Lib.hid ((((Below.refl w.heap.size w).alloc (Nat.le_refl _) (.cells #[.pointer (some ⟨R, 0, none⟩)] 29)).alloc (by simp) (.cells #[.int .i64 a] 3)).alloc (by simp; omega) (.cells #[.int .i64 k] 3))
  have B1 := Lib.hid (((Boxed.new w 29 (.pointer (some ⟨R, 0, none⟩))).alloc (.cells #[.int .i64 a] 3)).alloc (.cells #[.int .i64 k] 3))
  have b2 := ((Boxed.new (w.alloc (.cells #[.pointer (some ⟨R, 0, none⟩)] 29)) 3 (.int .i64 a)).alloc (.cells #[.int .i64 k] 3))
  have b3 := (Boxed.new ((w.alloc (.cells #[.pointer (some ⟨R, 0, none⟩)] 29)).alloc (.cells #[.int .i64 a] 3)) 3 (.int .i64 k))
  rw [e1] at b2
  rw [e2] at b3
  have B2 := Lib.hid b2
  have B3 := Lib.hid b3
  clear h hN b2 b3 e1 e2
  go_enter Try.func16, Try.ntmps16
  go_wp2_with fail
  generalize ((w.alloc (.cells #[.pointer (some ⟨R, 0, none⟩)] 29)).alloc (.cells #[.int .i64 a] 3)).alloc (.cells #[.int .i64 k] 3) = W1 at HB B1 B2 B3 ⊢
  obtain ⟨p, hp⟩ : ∃ p, p = w.heap.size := ⟨_, rfl⟩
  rw [← hp] at B1 B2 B3 ⊢
  have HP := Lib.hid hp
  have L1 := Lib.hid (L.out W1.drew (H.out.below HB.out.drew))
  have hc1 := B1.out.cell
  have hc3 := B3.out.cell
  have hf3 := B3.out.frozen
  clear hp L
  go_region_with ((go_at_call 24; refine L1.out.mono ?_; rintro e w4 ⟨rfl, rfl⟩))
  all_goals
    go_wp2
    go_ret
    exact ⟨⟨p, p + 1, p + 1 + 1, rfl, ⟨B1.out.other (by omega) _, B2.out.other (by omega) _, B3.out.set _⟩, by have := HP.out; omega, by have := HP.out; omega, by have := HP.out; omega⟩, (HB.out.setCell (p := ⟨p + 1 + 1, 0, none⟩) (by have := HP.out; simp; omega) _).drew⟩

end Go.Proofs.Ytaldkjlmaajapaa
