/- slices.Backward over what waits: the iterator's contract. -/
import Derived.RangeFuncNested
import Derived.RangeFuncBound
import Derived.RangeFuncCalls
import Derived.RangeFuncLeaves
import Derived.Shelf.Abstract
import Derived.Shelf.RegionOpen
import Derived.WalkKit
import Derived.OwnWalkIn
import Derived.TacticsInMore
import Derived.LoopNIn
import Derived.LoopIn
import Derived.Test.YtmedpmhiebcdjaaDoorNew
namespace Go.Proofs.YtmedpmhiebcdjaaDoor
open Go.RowKit Go.Shelf

attribute [local go_sem] Oper.semAt_some

abbrev Wait := Nat × Nat × List UInt8
def waitAt (L : List Wait) (j : Nat) : Nat × Wait := (L.length - 1 - j, L.getD (L.length - 1 - j) (0, 0, []))
def upto {α : Type} (f : Nat → α) (k : Nat) : List α := (List.range k).map f
theorem upto_succ {α : Type} (f : Nat → α) (k : Nat) : upto f (k + 1) = upto f k ++ [f k] := by simp [upto, List.range_succ]
theorem upto_length {α : Type} (f : Nat → α) (k : Nat) : (upto f k).length = k := by simp [upto]

/-- The slice value of what waits, in blocks below n₀. -/
def WaitsAt (n₀ : Nat) (W : World) (sv : Value) (L : List Wait) : Prop :=
  ∃ a cap, sv = .slice a L.length cap ∧ (L ≠ [] → ∃ gw, a = some ⟨gw, 0, none⟩ ∧ gw < n₀ ∧ ∀ k (h : k < L.length), W.cell? ⟨gw, k * 2, none⟩ = some (.int .i64 (L[k].1 : Int)) ∧ W.cell? ⟨gw, k * 2 + 1, none⟩ = some (.slice (some ⟨L[k].2.1, 0, none⟩) 512 512))
theorem WaitsAt.below {n₀ : Nat} {A B : World} (h : Below n₀ A B) {sv : Value} {L : List Wait} : WaitsAt n₀ A sv L → WaitsAt n₀ B sv L := by
  rintro ⟨a, cap, e, hc⟩
  refine ⟨a, cap, e, fun hne => ?_⟩
  obtain ⟨gw, ha, hb, hcs⟩ := hc hne
  exact ⟨gw, ha, hb, fun k hk => ⟨(h.cell (p := ⟨gw, k * 2, none⟩) hb).trans (hcs k hk).1, (h.cell (p := ⟨gw, k * 2 + 1, none⟩) hb).trans (hcs k hk).2⟩⟩

def encW (x : Nat × Wait) : Array Value := #[.int .i64 (x.1 : Int), .agg #[.int .i64 (x.2.1 : Int), .slice (some ⟨x.2.2.1, 0, none⟩) 512 512]]

set_option maxRecDepth 100000 in
set_option maxHeartbeats 2000000 in
theorem back1_in (F : Fence) (n : Nat) (h8 : F.fn 27) (hro : F.round = none) (_hn : 1 ≤ n) (l Bs n₀ : Nat) (a : Option Addr) (cap : Nat) (L : List Wait) (hlen : L.length < 4294967296) {α : Type} (encs : α → Array Value) (xs : List α) (hxl : xs.length = L.length) (hxe : ∀ k (h : k < xs.length), encs xs[k] = encW (waitAt L k))
    (J Jx : List α → World → Prop)
    (hY : ∀ pre x W, J pre W → pre.length < L.length → YieldAt F (n - 1) Tryd.prog l (encs x) W fun e W' =>
      (e = .returned (.bool true) ∧ J (pre ++ [x]) W' ∧ Below n₀ W W') ∨ (e = .returned (.bool false) ∧ Jx (pre ++ [x]) W'))
    (W : World) (hBsl : Bs < n₀) (hBs : W.cell? ⟨Bs, 0, none⟩ = some (.slice a L.length cap)) (hW : WaitsAt n₀ W (.slice a L.length cap) L) (h0 : J [] W) :
    CallsIn F n Tryd.prog 27 #[.func (.yield l) #[] #[], .pointer (some ⟨Bs, 0, none⟩)] W fun e W' => (∃ v, e = .returned v) ∧
      ((∃ ys, ys = xs ∧ J ys W') ∨ (∃ pre, (∃ k, k ≤ L.length ∧ pre = xs.take k) ∧ Jx pre W')) := by
  refine callsIn_of_wp Tryd.func27 rfl h8 ?_ hro
  simp only [Tryd.ntmps27, List.size_toArray, List.length_cons, List.length_nil, Nat.reduceAdd, Nat.reduceSub, Array.replicate_succ, Array.replicate_zero, List.push_toArray, List.append_toArray, List.nil_append, List.cons_append]
  gi_wp2
  gi_loopw [3] (fun i wr => ∃ k : Nat, k ≤ L.length ∧ i = .int .i64 ((k : Int) - 1) ∧ J (xs.take (L.length - k)) wr ∧ Below n₀ W wr)
    (fun i _ => (intOf i + 1).toNat)
  case atStart => exact ⟨L.length, Nat.le_refl _, rfl, by rw [Nat.sub_self]; exact h0, Below.refl _ _⟩
  case round =>
    obtain ⟨k, hk, rfl, hJs, hnx⟩ := hrel
    have hbs : wr.cell? ⟨Bs, 0, none⟩ = some (.slice a L.length cap) := (hnx.cell (p := ⟨Bs, 0, none⟩) hBsl).trans hBs
    cases k with
    | zero =>
      gi_wp2
      go_end0
      exact ⟨⟨_, rfl⟩, .inl ⟨_, rfl, by rw [Nat.sub_zero, List.take_of_length_le (by omega)] at hJs; exact hJs⟩⟩
    | succ m =>
      have hsp : ((m + 1 : Nat) : Int) - 1 = (m : Int) := by omega
      rw [hsp]
      clear hsp
      obtain ⟨a', cap', e, hcs⟩ := hW.below hnx
      obtain ⟨rfl, rfl⟩ : a = a' ∧ cap = cap' := by simpa using e
      obtain ⟨gw, rfl, hgw, hcs⟩ := hcs (by rintro rfl; simp at hk)
      obtain ⟨hcA, hcB⟩ := hcs m (by omega)
      have hx : waitAt L (L.length - (m + 1)) = (m, L[m]) := by
        have : L.length - 1 - (L.length - (m + 1)) = m := by omega
        simp only [waitAt, this]
        simp [List.getD, List.getElem?_eq_getElem (show m < L.length by omega)]
      have hlt : L.length - (m + 1) < xs.length := by omega
      have hup : xs.take (L.length - (m + 1)) ++ [xs[L.length - (m + 1)]] = xs.take (L.length - m) := by
        rw [← List.take_succ_eq_append_getElem hlt]; congr 1; omega
      have he2 := hxe _ hlt
      rw [hx] at he2
      have HUP := Lib.hid hup
      obtain ⟨x, hxm⟩ : ∃ x, x = L[m] := ⟨_, rfl⟩
      rw [← hxm] at hcA hcB he2
      have HXE := Lib.hid hxm
      obtain ⟨fn, tmps, assign, body, hy, hR⟩ := hY _ xs[L.length - (m + 1)] wr hJs (by rw [List.length_take]; omega)
      rw [he2] at hy
      simp only [encW] at hy
      clear hcs hx hup hxm e he2
      gi_wp2
      refine hR.mono ?_
      rintro e W3 (⟨rfl, hJ3, hk3⟩ | ⟨rfl, hJx3⟩)
      · gi_wp2
        go_roundw
        case rel => exact ⟨m, by omega, rfl, by rw [← HUP.out]; exact hJ3, hnx.trans hk3⟩
        case measure => simp [intOf]
      · gi_wp2
        refine bodyPost_ret (results_none rfl _ _ _) rfl ?_
        exact ⟨⟨_, rfl⟩, .inr ⟨_, ⟨L.length - m, by omega, HUP.out⟩, hJx3⟩⟩

set_option maxHeartbeats 1000000 in
theorem back_in (F : Fence) (n : Nat) (h5 : F.fn 24) (hro : F.round = none) (a : Option Addr) (len cap : Nat) (w : World) :
    CallsIn F n Tryd.prog 24 #[.slice a len cap] w fun e w' => e = .returned (.func (.func 27) #[] #[.pointer (some ⟨w.heap.size, 0, none⟩)]) ∧ w' = w.alloc (.cells #[.slice a len cap] 47) := by
  refine callsIn_of_wp Tryd.func24 rfl h5 ?_ hro
  simp only [Tryd.ntmps24, List.size_toArray, List.length_cons, List.length_nil, Nat.reduceAdd, Nat.reduceSub, Array.replicate_succ, Array.replicate_zero, List.push_toArray, List.append_toArray, List.nil_append, List.cons_append]
  gi_wp2
  go_ret
  exact ⟨rfl, rfl⟩

theorem back_stops (F : Fence) (n : Nat) (h8 : F.fn 27) (hro : F.round = none) (hn : 1 ≤ n) (Bs n₀ : Nat) (sv : Value) (L : List Wait) (hlen : L.length < 4294967296) (w : World) (hBs : Bs < n₀) (hn₀ : n₀ ≤ w.heap.size)
    (hc : w.cell? ⟨Bs, 0, none⟩ = some sv) (hI : WaitsAt n₀ w sv L) {α : Type} (encs : α → Array Value) (xs : List α) (hxl : xs.length = L.length) (hxe : ∀ k (h : k < xs.length), encs xs[k] = encW (waitAt L k)) :
    SeqStopsK F n Tryd.prog 27 #[.pointer (some ⟨Bs, 0, none⟩)] encs (Below n₀) (fun ys => ys = xs)
      (fun pre => ∃ k, k ≤ L.length ∧ pre = xs.take k) L.length w := fun l J Jx W hW _ _ hY h0 => by
  have hc' := (hW.cell (p := ⟨Bs, 0, none⟩) (Nat.lt_of_lt_of_le hBs hn₀)).trans hc
  have hI' := hI.below (hW.mono hn₀)
  obtain ⟨a, cap, rfl, hcs⟩ := hI
  exact back1_in F n h8 hro hn l Bs n₀ a cap L hlen encs xs hxl hxe J Jx hY W hBs hc' hI' h0

end Go.Proofs.YtmedpmhiebcdjaaDoor
