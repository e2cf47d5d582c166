/- Read of a device; a device and what it leaves alone. No condition. -/
import Derived.Test.YthapggobpfcmjaaGreatDvb
import Derived.RangeFuncNested
import Derived.RangeFuncBound
import Derived.RangeFuncCalls
import Derived.RangeFuncLeaves
import Derived.Shelf.Abstract
import Derived.Shelf.RegionOpen
import Derived.WalkKit
import Derived.OwnWalkIn
import Derived.TacticsInMore
import Derived.LoopNIn
import Derived.LoopIn

set_option maxRecDepth 100000
namespace Go.Proofs.YthapggobpfcmjaaGreat
open Go.RowKit Go.Shelf

attribute [local go_sem] Oper.semAt_some

abbrev Wait := Nat × Nat × List UInt8
def waitAt (L : List Wait) (j : Nat) : Nat × Wait := (L.length - 1 - j, L.getD (L.length - 1 - j) (0, 0, []))
def upto {α : Type} (f : Nat → α) (k : Nat) : List α := (List.range k).map f
theorem upto_succ {α : Type} (f : Nat → α) (k : Nat) : upto f (k + 1) = upto f k ++ [f k] := by simp [upto, List.range_succ]
theorem upto_length {α : Type} (f : Nat → α) (k : Nat) : (upto f k).length = k := by simp [upto]

/-- The slice value of what waits, in blocks below n₀. -/
def WaitsAt (n₀ : Nat) (W : World) (sv : Value) (L : List Wait) : Prop :=
  ∃ a cap, sv = .slice a L.length cap ∧ (L ≠ [] → ∃ gw, a = some ⟨gw, 0, none⟩ ∧ gw < n₀ ∧ ∀ k (h : k < L.length), W.cell? ⟨gw, k * 2, none⟩ = some (.int .i64 (L[k].1 : Int)) ∧ W.cell? ⟨gw, k * 2 + 1, none⟩ = some (.slice (some ⟨L[k].2.1, 0, none⟩) 512 512))
theorem WaitsAt.below {n₀ : Nat} {A B : World} (h : Below n₀ A B) {sv : Value} {L : List Wait} : WaitsAt n₀ A sv L → WaitsAt n₀ B sv L := by
  rintro ⟨a, cap, e, hc⟩
  refine ⟨a, cap, e, fun hne => ?_⟩
  obtain ⟨gw, ha, hb, hcs⟩ := hc hne
  exact ⟨gw, ha, hb, fun k hk => ⟨(h.cell (p := ⟨gw, k * 2, none⟩) hb).trans (hcs k hk).1, (h.cell (p := ⟨gw, k * 2 + 1, none⟩) hb).trans (hcs k hk).2⟩⟩

def encW (x : Nat × Wait) : Array Value := #[.int .i64 (x.1 : Int), .agg #[.int .i64 (x.2.1 : Int), .slice (some ⟨x.2.2.1, 0, none⟩) 512 512]]

set_option maxRecDepth 100000 in
set_option maxHeartbeats 2000000 in
theorem back1_in (F : Fence) (n : Nat) (h8 : F.fn 95) (hro : F.round = none) (_hn : 1 ≤ n) (l Bs n₀ : Nat) (a : Option Addr) (cap : Nat) (L : List Wait) (hlen : L.length < 4294967296) {α : Type} (encs : α → Array Value) (xs : List α) (hxl : xs.length = L.length) (hxe : ∀ k (h : k < xs.length), encs xs[k] = encW (waitAt L k))
    (J Jx : List α → World → Prop)
    (hY : ∀ pre x W, J pre W → pre.length < L.length → YieldAt F (n - 1) Tryz.prog l (encs x) W fun e W' =>
      (e = .returned (.bool true) ∧ J (pre ++ [x]) W' ∧ Below n₀ W W') ∨ (e = .returned (.bool false) ∧ Jx (pre ++ [x]) W'))
    (W : World) (hBsl : Bs < n₀) (hBs : W.cell? ⟨Bs, 0, none⟩ = some (.slice a L.length cap)) (hW : WaitsAt n₀ W (.slice a L.length cap) L) (h0 : J [] W) :
    CallsIn F n Tryz.prog 95 #[.func (.yield l) #[] #[], .pointer (some ⟨Bs, 0, none⟩)] W fun e W' => (∃ v, e = .returned v) ∧
      ((∃ ys, ys = xs ∧ J ys W') ∨ (∃ pre, (∃ k, k ≤ L.length ∧ pre = xs.take k) ∧ Jx pre W')) := by
  refine callsIn_of_wp Tryz.func95 rfl h8 ?_ hro
  simp only [Tryz.ntmps95, List.size_toArray, List.length_cons, List.length_nil, Nat.reduceAdd, Nat.reduceSub, Array.replicate_succ, Array.replicate_zero, List.push_toArray, List.append_toArray, List.nil_append, List.cons_append]
  gi_wp2
  gi_loopw [3] (fun i wr => ∃ k : Nat, k ≤ L.length ∧ i = .int .i64 ((k : Int) - 1) ∧ J (xs.take (L.length - k)) wr ∧ Below n₀ W wr)
    (fun i _ => (intOf i + 1).toNat)
  case atStart => exact ⟨L.length, Nat.le_refl _, rfl, by rw [Nat.sub_self]; exact h0, Below.refl _ _⟩
  case round =>
    obtain ⟨k, hk, rfl, hJs, hnx⟩ := hrel
    have hbs : wr.cell? ⟨Bs, 0, none⟩ = some (.slice a L.length cap) := (hnx.cell (p := ⟨Bs, 0, none⟩) hBsl).trans hBs
    cases k with
    | zero =>
      gi_wp2
      go_end0
      exact ⟨⟨_, rfl⟩, .inl ⟨_, rfl, by rw [Nat.sub_zero, List.take_of_length_le (by omega)] at hJs; exact hJs⟩⟩
    | succ m =>
      have hsp : ((m + 1 : Nat) : Int) - 1 = (m : Int) := by omega
      rw [hsp]
      clear hsp
      obtain ⟨a', cap', e, hcs⟩ := hW.below hnx
      obtain ⟨rfl, rfl⟩ : a = a' ∧ cap = cap' := by simpa using e
      obtain ⟨gw, rfl, hgw, hcs⟩ := hcs (by rintro rfl; simp at hk)
      obtain ⟨hcA, hcB⟩ := hcs m (by omega)
      have hx : waitAt L (L.length - (m + 1)) = (m, L[m]) := by
        have : L.length - 1 - (L.length - (m + 1)) = m := by omega
        simp only [waitAt, this]
        simp [List.getD, List.getElem?_eq_getElem (show m < L.length by omega)]
      have hlt : L.length - (m + 1) < xs.length := by omega
      have hup : xs.take (L.length - (m + 1)) ++ [xs[L.length - (m + 1)]] = xs.take (L.length - m) := by
        rw [← List.take_succ_eq_append_getElem hlt]; congr 1; omega
      have he2 := hxe _ hlt
      rw [hx] at he2
      have HUP := Lib.hid hup
      obtain ⟨x, hxm⟩ : ∃ x, x = L[m] := ⟨_, rfl⟩
      rw [← hxm] at hcA hcB he2
      have HXE := Lib.hid hxm
      obtain ⟨fn, tmps, assign, body, hy, hR⟩ := hY _ xs[L.length - (m + 1)] wr hJs (by rw [List.length_take]; omega)
      rw [he2] at hy
      simp only [encW] at hy
      clear hcs hx hup hxm e he2
      gi_wp2
      refine hR.mono ?_
      rintro e W3 (⟨rfl, hJ3, hk3⟩ | ⟨rfl, hJx3⟩)
      · gi_wp2
        go_roundw
        case rel => exact ⟨m, by omega, rfl, by rw [← HUP.out]; exact hJ3, hnx.trans hk3⟩
        case measure => simp [intOf]
      · gi_wp2
        refine bodyPost_ret (results_none rfl _ _ _) rfl ?_
        exact ⟨⟨_, rfl⟩, .inr ⟨_, ⟨L.length - m, by omega, HUP.out⟩, hJx3⟩⟩

set_option maxHeartbeats 1000000 in
theorem back_in (F : Fence) (n : Nat) (h5 : F.fn 67) (hro : F.round = none) (a : Option Addr) (len cap : Nat) (w : World) :
    CallsIn F n Tryz.prog 67 #[.slice a len cap] w fun e w' => e = .returned (.func (.func 95) #[] #[.pointer (some ⟨w.heap.size, 0, none⟩)]) ∧ w' = w.alloc (.cells #[.slice a len cap] 62) := by
  refine callsIn_of_wp Tryz.func67 rfl h5 ?_ hro
  simp only [Tryz.ntmps67, List.size_toArray, List.length_cons, List.length_nil, Nat.reduceAdd, Nat.reduceSub, Array.replicate_succ, Array.replicate_zero, List.push_toArray, List.append_toArray, List.nil_append, List.cons_append]
  gi_wp2
  go_ret
  exact ⟨rfl, rfl⟩

theorem back_stops (F : Fence) (n : Nat) (h8 : F.fn 95) (hro : F.round = none) (hn : 1 ≤ n) (Bs n₀ : Nat) (sv : Value) (L : List Wait) (hlen : L.length < 4294967296) (w : World) (hBs : Bs < n₀) (hn₀ : n₀ ≤ w.heap.size)
    (hc : w.cell? ⟨Bs, 0, none⟩ = some sv) (hI : WaitsAt n₀ w sv L) {α : Type} (encs : α → Array Value) (xs : List α) (hxl : xs.length = L.length) (hxe : ∀ k (h : k < xs.length), encs xs[k] = encW (waitAt L k)) :
    SeqStopsK F n Tryz.prog 95 #[.pointer (some ⟨Bs, 0, none⟩)] encs (Below n₀) (fun ys => ys = xs)
      (fun pre => ∃ k, k ≤ L.length ∧ pre = xs.take k) L.length w := fun l J Jx W hW _ _ hY h0 => by
  have hc' := (hW.cell (p := ⟨Bs, 0, none⟩) (Nat.lt_of_lt_of_le hBs hn₀)).trans hc
  have hI' := hI.below (hW.mono hn₀)
  obtain ⟨a, cap, rfl, hcs⟩ := hI
  exact back1_in F n h8 hro hn l Bs n₀ a cap L hlen encs xs hxl hxe J Jx hY W hBs hc' hI' h0

end Go.Proofs.YthapggobpfcmjaaGreat

namespace Go.Proofs.YthapggobpfcmjaaGreat
open Go.RowKit Go.Shelf

attribute [local go_sem] Oper.semAt_some

def lastW (ws : List (Nat × List UInt8)) (at_ : Nat) : Option (List UInt8) := (ws.reverse.find? (fun x => x.1 == at_)).map (·.2)
def DSt.incR (s : DSt) : DSt := { s with reads := s.reads + 1 }
def DSt.bad1 (s : DSt) (at_ : Int) : Prop := ¬ (0 ≤ at_ ∧ at_ < s.secs.length)
def DSt.look (s : DSt) (at_ : Nat) : Int × List UInt8 :=
  match lastW s.waits at_ with
  | some l => (0, l)
  | none => if at_ ∈ s.torn then (3, []) else (0, s.secs.getD at_ [])
def DSt.readR (s : DSt) (at_ : Int) : Int × List UInt8 :=
  if ¬ (0 ≤ at_ ∧ at_ < s.secs.length) then (1, []) else if s.err = 0 then s.begin_.look at_.toNat else (s.err, [])
def DSt.read (s : DSt) (at_ : Int) : DSt :=
  if ¬ (0 ≤ at_ ∧ at_ < s.secs.length) then s else if s.err = 0 then s.begin_.incR else s.begin_

/-- What is handed back: nil, or a block of its own. -/
def Handed (w w' : World) (v : Value) (l : List UInt8) : Prop :=
  (v = .slice none 0 0 ∧ l = []) ∨ ∃ g, v = .slice (some ⟨g, 0, none⟩) 512 512 ∧ w.heap.size ≤ g ∧ ByteRow w' g l ∧ l.length = 512

/-- The three boxes that Read lays: the sector's number, and the two results. -/
structure Boxes (w W : World) (at_ : Int) (v e : Value) : Prop where
  big : w.heap.size + 3 ≤ W.heap.size
  b0 : W.heap[w.heap.size]? = some (.cells #[.int .i64 at_] 3 (0, 0))
  b1 : W.heap[w.heap.size + 1]? = some (.cells #[v] 39 (0, 0))
  b2 : W.heap[w.heap.size + 2]? = some (.cells #[e] 25 (0, 0))
theorem Boxes.new (w : World) (at_ : Int) (v e : Value) : Boxes w (((w.alloc (.cells #[.int .i64 at_] 3)).alloc (.cells #[v] 39)).alloc (.cells #[e] 25)) at_ v e := by
  refine ⟨by simp, ?_, ?_, ?_⟩
  · rw [Below.heap_alloc _ _ _ (by simp; omega), Below.heap_alloc _ _ _ (by simp)]
    exact heap_alloc_new w _
  · rw [Below.heap_alloc _ _ _ (by simp)]
    have := heap_alloc_new (w.alloc (.cells #[.int .i64 at_] 3)) (.cells #[v] 39)
    simpa using this
  · have := heap_alloc_new ((w.alloc (.cells #[.int .i64 at_] 3)).alloc (.cells #[v] 39)) (.cells #[e] 25)
    simpa using this
theorem Boxes.touch {w W W' : World} {at_ : Int} {v e : Value} {G : Nat → Prop} (h : Boxes w W at_ v e) (ht : Touch G W W') (hG : ∀ k, G k → k < w.heap.size ∨ w.heap.size + 3 ≤ k) : Boxes w W' at_ v e :=
  ⟨Nat.le_trans h.big ht.size, ht.at h.b0 fun hk => by have := hG _ hk; omega, ht.at h.b1 fun hk => by have := hG _ hk; omega, ht.at h.b2 fun hk => by have := hG _ hk; omega⟩
theorem Boxes.c0 {w W : World} {at_ : Int} {v e : Value} (h : Boxes w W at_ v e) : W.cell? ⟨w.heap.size, 0, none⟩ = some (.int .i64 at_) := by rw [cell_of_row W _ _ _ _ _ h.b0]; rfl
theorem Boxes.c1 {w W : World} {at_ : Int} {v e : Value} (h : Boxes w W at_ v e) : W.cell? ⟨w.heap.size + 1, 0, none⟩ = some v := by rw [cell_of_row W _ _ _ _ _ h.b1]; rfl
theorem Boxes.c2 {w W : World} {at_ : Int} {v e : Value} (h : Boxes w W at_ v e) : W.cell? ⟨w.heap.size + 2, 0, none⟩ = some e := by rw [cell_of_row W _ _ _ _ _ h.b2]; rfl
theorem Boxes.f1 {w W : World} {at_ : Int} {v e : Value} (h : Boxes w W at_ v e) : W.frozen? ⟨w.heap.size + 1, 0, none⟩ = false := frozen_of_row W _ _ _ _ h.b1
theorem Boxes.f2 {w W : World} {at_ : Int} {v e : Value} (h : Boxes w W at_ v e) : W.frozen? ⟨w.heap.size + 2, 0, none⟩ = false := frozen_of_row W _ _ _ _ h.b2
/-- The two results are written. -/
theorem Boxes.set {w W : World} {at_ : Int} {v e : Value} (h : Boxes w W at_ v e) (v' e' : Value) : Boxes w ((W.setCell ⟨w.heap.size + 1, 0, none⟩ v').setCell ⟨w.heap.size + 2, 0, none⟩ e') at_ v' e' := by
  refine ⟨by simpa using h.big, ?_, ?_, ?_⟩
  · rw [heap_setCell_other _ _ _ _ (by simp), heap_setCell_other _ _ _ _ (by simp)]; exact h.b0
  · rw [heap_setCell_other _ _ _ _ (by simp)]
    have := heap_setCell_same W _ 0 _ _ v' h.b1
    simpa using this
  · have h2 : (W.setCell ⟨w.heap.size + 1, 0, none⟩ v').heap[w.heap.size + 2]? = some (.cells #[e] 25 (0, 0)) := by rw [heap_setCell_other _ _ _ _ (by simp)]; exact h.b2
    have := heap_setCell_same _ _ 0 _ _ e' h2
    simpa using this
theorem Boxes.touchSet {w W : World} {F : Nat → Prop} (ht : Touch F w W) (v' e' : Value) : Touch F w ((W.setCell ⟨w.heap.size + 1, 0, none⟩ v').setCell ⟨w.heap.size + 2, 0, none⟩ e') :=
  (ht.setCell (a := ⟨w.heap.size + 1, 0, none⟩) (.inr (by simp)) _).setCell (a := ⟨w.heap.size + 2, 0, none⟩) (.inr (by simp)) _

set_option maxHeartbeats 400000 in
theorem read_bad {F : Nat → Prop} {w : World} {b : Nat} {s : DSt} (h : Dev w F b s) (at_ : Int) (hb : ¬ (0 ≤ at_ ∧ at_ < s.secs.length)) :
    Calls Tryz.prog 39 #[.pointer (some ⟨b, 0, none⟩), .int .i64 at_] w fun e w' => e = .returned (.tuple #[.slice none 0 0, .int .i64 1]) ∧ Touch Emp w w' := by
  obtain ⟨gs, S, wv, W, bm, es, clk, kv, h⟩ := h
  have c0 : ∀ W, Touch Emp w W → Calls Tryz.prog 46 #[.pointer (some ⟨b, 0, none⟩), .int .i64 at_] W fun e w' => e = .returned (.bool false) ∧ W = w' := fun W hW => by
    have := has_any b gs s.secs.length at_ W (by rw [(h.touch hW fun _ _ h => h).cell]; rfl)
    rwa [decide_eq_false hb] at this
  have C0 := Lib.hid c0
  clear c0 h hb
  have hbx := Boxes.new w at_ (.slice none 0 0) (.int .i64 0)
  have ht : Touch Emp w (((w.alloc (.cells #[.int .i64 at_] 3)).alloc (.cells #[.slice none 0 0] 39)).alloc (.cells #[.int .i64 0] 25)) := (((Touch.refl Emp w).alloc _).alloc _).alloc _
  have HBX := Lib.hid hbx
  have HT := Lib.hid ht
  clear hbx ht
  go_enter Tryz.func39, Tryz.ntmps39
  go_wp2_with fail
  generalize ((w.alloc (.cells #[.int .i64 at_] 3)).alloc (.cells #[.slice none 0 0] 39)).alloc (.cells #[.int .i64 0] 25) = W3 at HBX HT ⊢
  refine (C0.out _ HT.out).mono ?_
  rintro e w1 ⟨rfl, rfl⟩
  have c1 := HBX.out.c1
  have c2 := HBX.out.c2
  have f1 := HBX.out.f1
  have f2 := HBX.out.f2
  go_wp2
  have hfin := HBX.out.set (.slice none 0 0) (.int .i64 1)
  refine bodyPost_ret (v := .tuple #[.slice none 0 0, .int .i64 1]) (by simp [results, Tryz.results39, go_sem, hfin.c1, hfin.c2]) rfl ⟨rfl, Boxes.touchSet HT.out _ _⟩

set_option maxHeartbeats 400000 in
theorem read_down {F : Nat → Prop} {w : World} {b : Nat} {s : DSt} (h : Dev w F b s) (hsz : s.waits.length < 4294967296) (hF : ∀ k, F k → k < w.heap.size) (at_ : Int) (hb : 0 ≤ at_ ∧ at_ < s.secs.length) (he : s.err = 2) :
    Calls Tryz.prog 39 #[.pointer (some ⟨b, 0, none⟩), .int .i64 at_] w fun e w' => e = .returned (.tuple #[.slice none 0 0, .int .i64 2]) ∧ Touch F w w' ∧ Dev w' F b s.begin_ := by
  have hbeg : ∀ W, Touch Emp w W → Calls Tryz.prog 47 #[.pointer (some ⟨b, 0, none⟩)] W fun e w' => e = .returned (.int .i64 2) ∧ Touch F W w' ∧ Dev w' F b s.begin_ := fun W hW => by
    have := begin_any (h.touch hW fun _ _ h => h) hsz
    rwa [he] at this
  obtain ⟨gs, S, wv, W, bm, es, clk, kv, h⟩ := h
  have c0 : ∀ W, Touch Emp w W → Calls Tryz.prog 46 #[.pointer (some ⟨b, 0, none⟩), .int .i64 at_] W fun e w' => e = .returned (.bool true) ∧ W = w' := fun W hW => by
    have := has_any b gs s.secs.length at_ W (by rw [(h.touch hW fun _ _ h => h).cell]; rfl)
    rwa [decide_eq_true hb] at this
  have C0 := Lib.hid c0
  have HB := Lib.hid hbeg
  have HF := Lib.hid hF
  clear c0 h hb hbeg he hsz hF
  have hbx := Boxes.new w at_ (.slice none 0 0) (.int .i64 0)
  have ht : Touch Emp w (((w.alloc (.cells #[.int .i64 at_] 3)).alloc (.cells #[.slice none 0 0] 39)).alloc (.cells #[.int .i64 0] 25)) := (((Touch.refl Emp w).alloc _).alloc _).alloc _
  have HBX := Lib.hid hbx
  have HT := Lib.hid ht
  clear hbx ht
  go_enter Tryz.func39, Tryz.ntmps39
  go_wp2_with fail
  generalize ((w.alloc (.cells #[.int .i64 at_] 3)).alloc (.cells #[.slice none 0 0] 39)).alloc (.cells #[.int .i64 0] 25) = W3 at HBX HT ⊢
  refine (C0.out _ HT.out).mono ?_
  rintro e w1 ⟨rfl, rfl⟩
  go_wp2_with fail
  refine (HB.out _ HT.out).mono ?_
  rintro e w2 ⟨rfl, ht2, hd2⟩
  have hbx2 := HBX.out.touch ht2 fun k hk => .inl (HF.out k hk)
  have ht3 : Touch F w w2 := (HT.out.mono (G := F) fun _ _ h => h.elim).trans ht2 fun _ h _ => h
  have c1 := hbx2.c1
  have c2 := hbx2.c2
  have f1 := hbx2.f1
  have f2 := hbx2.f2
  have HBX2 := Lib.hid hbx2
  have HT3 := Lib.hid ht3
  have HD2 := Lib.hid hd2
  clear hbx2 ht3 ht2 hd2
  go_wp2
  have hfin := HBX2.out.set (.slice none 0 0) (.int .i64 2)
  refine bodyPost_ret (v := .tuple #[.slice none 0 0, .int .i64 2]) (by simp [results, Tryz.results39, go_sem, hfin.c1, hfin.c2]) rfl ⟨rfl, Boxes.touchSet HT3.out _ _, ?_⟩
  have tt : Touch (fun k => w.heap.size ≤ k) w2 ((w2.setCell ⟨w.heap.size + 1, 0, none⟩ (.slice none 0 0)).setCell ⟨w.heap.size + 2, 0, none⟩ (.int .i64 2)) :=
    ((Touch.refl (fun k => w.heap.size ≤ k) w2).setCell (a := ⟨w.heap.size + 1, 0, none⟩) (.inl (by simp)) _).setCell (a := ⟨w.heap.size + 2, 0, none⟩) (.inl (by simp)) _
  exact HD2.out.touch tt fun k hk hc => by have := HF.out k hk; omega

/-- What is yet to come of what waits, the last first: each with its place. -/
abbrev Come (L : List Wait) : Type := { x : Nat × Wait // x.2 ∈ L }
theorem comes (L : List Wait) : ∃ xs : List (Come L), xs.length = L.length ∧ (∀ k (h : k < xs.length), xs[k].1 = waitAt L k) ∧ xs.map (fun x => x.1.2) = L.reverse := by
  have hm : ∀ k : Fin L.length, (waitAt L k.1).2 ∈ L := fun k => by
    have : L.length - 1 - k.1 < L.length := by have := k.2; omega
    simp only [waitAt, List.getD, List.getElem?_eq_getElem this]
    exact List.getElem_mem this
  refine ⟨List.ofFn fun k : Fin L.length => ⟨waitAt L k.1, hm k⟩, by simp, by intro k h; simp, ?_⟩
  · apply List.ext_getElem
    · simp
    · intro i h1 h2
      have h3 : i < L.length := by simpa using h1
      have h4 : L.length - 1 - i < L.length := by omega
      simp [waitAt, List.getD, List.getElem?_eq_getElem h4]

theorem lastW_of {L : List Wait} {ws : List (Nat × List UInt8)} (hw : L.map (fun x => (x.1, x.2.2)) = ws) {xs : List (Come L)} (hx : xs.map (fun x => x.1.2) = L.reverse) (at_ : Nat) :
    lastW ws at_ = (xs.find? (fun x => x.1.2.1 == at_)).map (fun x => x.1.2.2.2) := by
  have h : ws.reverse = xs.map (fun x => (x.1.2.1, x.1.2.2.2)) := by
    rw [← hw, ← List.map_reverse, ← hx, List.map_map]; rfl
  rw [lastW, h, List.find?_map, Option.map_map]
  rfl
theorem find_none {L : List Wait} {xs : List (Come L)} {at_ : Nat} (h : ∀ x ∈ xs, x.1.2.1 ≠ at_) : xs.find? (fun x => x.1.2.1 == at_) = none := by
  rw [List.find?_eq_none]; intro x hx; simpa using h x hx
theorem find_some {L : List Wait} {xs ini : List (Come L)} {x : Come L} {at_ k : Nat} (h : xs.take k = ini ++ [x]) (hi : ∀ y ∈ ini, y.1.2.1 ≠ at_) (hx : x.1.2.1 = at_) : xs.find? (fun x => x.1.2.1 == at_) = some x := by
  have e : xs = ini ++ [x] ++ xs.drop k := by rw [← h, List.take_append_drop]
  rw [e, List.append_assoc, List.find?_append, find_none hi]
  simp [hx]

theorem Boxes.own {w : World} {at_ : Int} {v e : Value} {B : Nat} {X Y : World} {row : Option Nat} (h : Boxes w X at_ v e) (hg : X.grownBy Y row) (hr : ∀ r, row = some r → B ≤ r ∧ ∃ o : Obj, X.heap[r]? = some o ∧ o.isCells = false) : Boxes w Y at_ v e := by
  have key : ∀ {k : Nat} {c : Array Value} {t : TypeId}, X.heap[k]? = some (.cells c t (0, 0)) → Y.heap[k]? = some (.cells c t (0, 0)) := fun {k c t} hs =>
    (hg.block k (lt_of_heap hs) (fun e => by obtain ⟨_, o, ho, hc⟩ := hr k e.symm; rw [hs] at ho; cases ho; cases hc)).trans hs
  exact ⟨Nat.le_trans h.big hg.size, key h.b0, key h.b1, key h.b2⟩

theorem ownFrom_touch {β : Type} {G : Nat → Prop} {w₀ : World} {B : Nat} (hB : w₀.heap.size ≤ B) : OwnFrom B (fun (_ : β) W => Touch G w₀ W) :=
  fun _ _ _ _ hs hg hr => hs.trans (Touch.of_grown (F := fun k => B ≤ k) hg fun k hk => (hr k hk).1) fun k hk hlt => by omega
theorem ownFrom_heap {β : Type} {B k : Nat} {c : Array Value} {t : TypeId} {f : Nat × Nat} : OwnFrom B (fun (_ : β) W => W.heap[k]? = some (.cells c t f)) :=
  fun _ X Y row hs hg hr => (hg.block k (lt_of_heap hs) (fun e => by obtain ⟨_, o, ho, hc⟩ := hr k e.symm; rw [hs] at ho; cases ho; cases hc)).trans hs

theorem read_close {F : Nat → Prop} {w W5 W6 : World} {b gs bm clk : Nat} {s : DSt} {S : List (Option Nat)} {wv kv : Value} {W : List (Nat × Nat × List UInt8)} {es : Array MapEntry} {at_ D : Nat} {v : Value} {e : Int} {l : List UInt8}
    (hbig : w.heap.size + 3 ≤ W5.heap.size) (hF : ∀ k, F k → k < w.heap.size) (ht5 : Touch F w W5) (hd5 : DevAt W5 F b s.begin_.incR gs S wv W bm es clk kv) (tT : Touch (fun k => w.heap.size ≤ k) W5 W6) (hD : W5.heap.size ≤ D)
    (hK : W6.heap[D]? = some (.deferred (some []))) (b6 : Boxes w W6 at_ v (.int .i64 e)) (hlook : s.begin_.look at_ = (e, l)) (hh : Handed w W6 v l) :
    Boxes w (W6.putObj D (.deferred none)) at_ v (.int .i64 e) ∧ ∃ v', Ending.returned (.tuple #[v, .int .i64 e]) = .returned (.tuple #[v', .int .i64 (s.begin_.look at_).1]) ∧ Touch F w (W6.putObj D (.deferred none)) ∧ Dev (W6.putObj D (.deferred none)) F b s.begin_.incR ∧ Handed w (W6.putObj D (.deferred none)) v' (s.begin_.look at_).2 := by
  have hg := grownBy_putObj' W6 D (.deferred none)
  have hgr : ∀ r, some D = some r → W5.heap.size ≤ r ∧ ∃ o : Obj, W6.heap[r]? = some o ∧ o.isCells = false := fun r e => by cases e; exact ⟨hD, _, hK, rfl⟩
  have tP : Touch (fun k => W5.heap.size ≤ k) W6 (W6.putObj D (.deferred none)) := Touch.of_grown hg fun k e => by cases e; exact hD
  have tA : Touch (fun k => w.heap.size ≤ k) W5 (W6.putObj D (.deferred none)) := tT.trans (tP.mono (G := fun k => w.heap.size ≤ k) fun k _ hk => by omega) fun _ h _ => h
  refine ⟨b6.own hg hgr, v, by rw [hlook], ht5.trans tA (fun k h1 h2 => by omega), ⟨gs, S, wv, W, bm, es, clk, kv, hd5.touch tA fun k h1 h2 => by have := hF k h1; omega⟩, ?_⟩
  rw [hlook]
  rcases hh with h | ⟨g, h1, h2, h3, h4⟩
  · exact .inl h
  · exact .inr ⟨g, h1, h2, ownFrom_heap (β := Unit) () W6 _ _ h3 hg hgr, h4⟩

set_option maxRecDepth 100000 in
set_option maxHeartbeats 2000000 in
theorem read_ok {F : Nat → Prop} {w : World} {b : Nat} {s : DSt} (h : Dev w F b s) (hf : s.Fit) (hF : ∀ k, F k → k < w.heap.size) (at_ : Nat) (hb : at_ < s.secs.length) (he : s.err = 0) :
    Calls Tryz.prog 39 #[.pointer (some ⟨b, 0, none⟩), .int .i64 (at_ : Int)] w fun e w' => ∃ v, e = .returned (.tuple #[v, .int .i64 (s.begin_.look at_).1]) ∧ Touch F w w' ∧ Dev w' F b s.begin_.incR ∧ Handed w w' v (s.begin_.look at_).2 := by
  have hbeg : ∀ W, Touch Emp w W → Calls Tryz.prog 47 #[.pointer (some ⟨b, 0, none⟩)] W fun e w' => e = .returned (.int .i64 0) ∧ Touch F W w' ∧ Dev w' F b s.begin_ := fun W hW => by
    have := begin_any (h.touch hW fun _ _ h => h) (by have := hf.1; omega)
    rwa [he] at this
  have hrd : s.begin_.reads < 4611686018427387904 := by rw [(begin_counts s).2.1]; exact hf.2.1
  have hwt : s.begin_.waits.length < 1048576 := Nat.lt_of_le_of_lt (begin_waits s) hf.1
  obtain ⟨gs, S, wv, W, bm, es, clk, kv, h⟩ := h
  have c0 : ∀ W, Touch Emp w W → Calls Tryz.prog 46 #[.pointer (some ⟨b, 0, none⟩), .int .i64 (at_ : Int)] W fun e w' => e = .returned (.bool true) ∧ W = w' := fun W hW => by
    have := has_any b gs s.secs.length at_ W (by rw [(h.touch hW fun _ _ h => h).cell]; rfl)
    rwa [decide_eq_true (by omega)] at this
  have C0 := Lib.hid c0
  have HB := Lib.hid hbeg
  have HF := Lib.hid hF
  have HSZ := Lib.hid hwt
  have HAT := Lib.hid hb
  clear c0 h hb hbeg he hF hf hwt
  have hbx := Boxes.new w at_ (.slice none 0 0) (.int .i64 0)
  have ht : Touch Emp w (((w.alloc (.cells #[.int .i64 (at_ : Int)] 3)).alloc (.cells #[.slice none 0 0] 39)).alloc (.cells #[.int .i64 0] 25)) := (((Touch.refl Emp w).alloc _).alloc _).alloc _
  have HBX := Lib.hid hbx
  have HT := Lib.hid ht
  clear hbx ht
  refine (callsIn_wide (n := 9)).1 ?_
  refine callsIn_of_wp_marks Tryz.func39 rfl trivial ?_ rfl
  simp only [Tryz.ntmps39, List.size_toArray, List.length_cons, List.length_nil, Nat.reduceAdd, Nat.reduceSub, Array.replicate_succ, Array.replicate_zero, List.push_toArray, List.append_toArray, List.nil_append, List.cons_append]
  gi_wp2_with fail
  generalize ((w.alloc (.cells #[.int .i64 (at_ : Int)] 3)).alloc (.cells #[.slice none 0 0] 39)).alloc (.cells #[.int .i64 0] 25) = W3 at HBX HT ⊢
  have c0 := HBX.out.c0
  refine ⟨trivial, ?_⟩
  refine (callsIn_wide.2 (C0.out _ HT.out)).mono ?_
  rintro e w1 ⟨rfl, rfl⟩
  gi_wp2_with fail
  refine ⟨trivial, ?_⟩
  refine (callsIn_wide.2 (HB.out _ HT.out)).mono ?_
  rintro e w2 ⟨rfl, ht2, gs, S, wv, W, bm, es, clk, kv, hd2⟩
  have hbx2 := HBX.out.touch ht2 fun k hk => .inl (HF.out k hk)
  have ht3 : Touch F w w2 := (HT.out.mono (G := F) fun _ _ h => h.elim).trans ht2 fun _ h _ => h
  obtain ⟨wa, wcap, hwv, hwa⟩ := hd2.wvForm
  have d1 := hd2.cell 1
  have d3 := hd2.cell 3
  have f3 := hd2.free 3
  simp only [devC, List.getElem?_toArray, List.getElem?_cons_succ, List.getElem?_cons_zero, hwv] at d1 d3
  have tb : Touch (fun k => k = b) w2 (w2.setCell ⟨b, 3, none⟩ (.int .i64 ((s.begin_.reads : Int) + 1))) := (Touch.refl (fun k => k = b) w2).setCell (a := ⟨b, 3, none⟩) (.inl rfl) _
  have hd3 : DevAt (w2.setCell ⟨b, 3, none⟩ (.int .i64 ((s.begin_.reads : Int) + 1))) F b s.begin_.incR gs S wv W bm es clk kv := by
    refine hd2.put1 tb ?_ rfl rfl rfl rfl hd2.left hd2.left2
    rw [heap_setCell_same _ _ _ _ _ _ hd2.dev]
    simp [devC, DSt.incR]
  have ht4 : Touch F w (w2.setCell ⟨b, 3, none⟩ (.int .i64 ((s.begin_.reads : Int) + 1))) := ht3.trans (tb.mono fun k _ hk => hk ▸ hd2.ownD) fun _ h _ => h
  have hbx3 := hbx2.touch tb fun k hk => .inl (hk ▸ HF.out b hd2.ownD)
  have HBX3 := Lib.hid hbx3
  have HT4 := Lib.hid ht4
  have HD3 := Lib.hid hd3
  have HWV := Lib.hid hwv
  have HWA := Lib.hid hwa
  clear c0 hbx2 ht2 ht3 hd2 tb hd3 ht4 hbx3 hwv hwa HBX HT C0 HB
  gi_wp2_with fail
  refine ⟨trivial, ?_⟩
  refine (back_in Fence.wide _ trivial rfl _ _ _ _).mono ?_
  rintro e w5 ⟨rfl, rfl⟩
  generalize w2.setCell ⟨b, 3, none⟩ (.int .i64 ((s.begin_.reads : Int) + 1)) = W4 at HBX3 HT4 HD3 ⊢
  have hsz4 := HBX3.out.big
  have hwl : W.length = s.begin_.waits.length := by have := congrArg List.length HD3.out.waits; rw [List.length_map] at this; exact this
  have hwlt : W.length < 4294967296 := by have := HSZ.out; omega
  have HWL := Lib.hid hwl
  clear hwl
  have hW4 : WaitsAt (W4.alloc (.cells #[.slice wa W.length wcap] 62)).heap.size (W4.alloc (.cells #[.slice wa W.length wcap] 62)) (.slice wa W.length wcap) W := by
    refine ⟨wa, wcap, rfl, fun hne => ?_⟩
    obtain ⟨gw, rfl⟩ := HWA.out hne
    have hwv := HWV.out
    have hlt : gw < W4.heap.size := by
      obtain ⟨c, hc⟩ := ownsRow_block HD3.out.rowW (k := gw) (by rw [hwv]; rfl)
      exact lt_of_heap hc
    refine ⟨gw, rfl, by simp; omega, fun k hk => ?_⟩
    obtain ⟨h1, h2⟩ := HD3.out.waitCell hwv hk
    rw [World.cell?_alloc_lt _ _ _ (by exact hlt), World.cell?_alloc_lt _ _ _ (by exact hlt)]
    exact ⟨h1, h2⟩
  have hbox : (W4.alloc (.cells #[.slice wa W.length wcap] 62)).cell? ⟨W4.heap.size, 0, none⟩ = some (.slice wa W.length wcap) := World.cell?_alloc_new _ _ _ _
  have hb5 := HBX3.out.touch ((Touch.refl Emp W4).alloc (.cells #[.slice wa W.length wcap] 62)) (fun k hk => hk.elim)
  have ht5 := HT4.out.alloc (.cells #[.slice wa W.length wcap] 62)
  have hd5 := HD3.out.touch ((Touch.refl Emp W4).alloc (.cells #[.slice wa W.length wcap] 62)) (fun _ _ h => h)
  have hs5 : (W4.alloc (.cells #[.slice wa W.length wcap] 62)).heap.size = W4.heap.size + 1 := by simp
  gi_wp2_with fail
  generalize W4.alloc (.cells #[.slice wa W.length wcap] 62) = W5 at hW4 hbox hb5 ht5 hd5 hs5 ⊢
  obtain ⟨xs, hxl, hxe, hxm⟩ := comes W
  have HB5 := Lib.hid hb5
  have HT5 := Lib.hid ht5
  have HD5 := Lib.hid hd5
  have HXM := Lib.hid hxm
  have HXE := Lib.hid hxe
  clear hb5 ht5 hd5 hxm hxe
  refine wpIn_rangeFunc_ownH rfl (by omega) (gf := 95) (lb := #[.pointer (some ⟨W4.heap.size, 0, none⟩)]) rfl trivial (enters_of Tryz.func95 (by kernel_rfl) rfl)
    (back_stops Fence.wide 8 trivial rfl (by omega) W4.heap.size W5.heap.size _ W hwlt W5 (by omega) (Nat.le_refl _) hbox hW4 (fun x : Come W => encW x.1) xs hxl (fun k h => by rw [HXE.out k h])) belowK_t (belowK_b (Nat.le_refl _)) (Below.refl _ _) (fun _ => rfl)
    (fun pre W' => (∀ x ∈ pre, x.1.2.1 ≠ at_) ∧ Below W5.heap.size W5 W')
    (fun c pre W' => (c = .ret ∧ ∃ ini x g, pre = ini ++ [x] ∧ (∀ y ∈ ini, y.1.2.1 ≠ at_) ∧ x.1.2.1 = at_ ∧ W5.heap.size ≤ g ∧ ByteRow W' g x.1.2.2.2 ∧ Boxes w W' at_ (.slice (some ⟨g, 0, none⟩) 512 512) (.int .i64 0)) ∧ Touch (fun k => k = w.heap.size + 1 ∨ k = w.heap.size + 2) W5 W')
    ?hI ?hIx ⟨by simp, Below.refl _ _⟩
    (fun x a' W' => ∃ Bx, W5.heap.size ≤ Bx ∧ W'.heap[Bx]? = some (.cells #[.int .i64 (x.1.2.1 : Int), .slice (some ⟨x.1.2.2.1, 0, none⟩) 512 512] 90 (0, 0)) ∧ a' = { tmps := #[.pointer (some ⟨b, 0, none⟩), .int .i64 (at_ : Int), undef, .pointer (some ⟨w.heap.size, 0, none⟩), .pointer (some ⟨w.heap.size + 1, 0, none⟩), .pointer (some ⟨w.heap.size + 1 + 1, 0, none⟩), .int .i64 0, undef, .pointer (some ⟨Bx, 0, none⟩), undef, undef, .pointer (some ⟨b, 0, none⟩), .int .i64 (at_ : Int), .bool true, .bool false, .pointer (some ⟨b, 0, none⟩), .int .i64 0, .int .i64 0, .bool false, undef, .pointer (some ⟨b, 0, none⟩), .pointer (some ⟨b, 0, none⟩), .pointer (some ⟨b, 3, none⟩), .pointer (some ⟨b, 3, none⟩), .int .i64 (s.begin_.reads : Int), .int .i64 ((s.begin_.reads : Int) + 1), .pointer (some ⟨b, 0, none⟩), .pointer (some ⟨b, 3, none⟩), .pointer (some ⟨b, 3, none⟩), .pointer (some ⟨b, 0, none⟩), .pointer (some ⟨b, 0, none⟩), .pointer (some ⟨b, 1, none⟩), .slice wa W.length wcap, .func (.func 95) #[] #[.pointer (some ⟨W4.heap.size, 0, none⟩)], .int .i64 (x.1.1 : Int), .agg #[.int .i64 (x.1.2.1 : Int), .slice (some ⟨x.1.2.2.1, 0, none⟩) 512 512], undef, undef, undef, undef, undef, undef, undef, undef, undef, undef, undef, undef, undef, undef, undef, undef, undef, undef, undef, undef, undef, undef, undef, undef, undef], defers := [] })
    (fun x a' _ X Y row hs hg hr => by obtain ⟨Bx, h1, h2, h3⟩ := hs; exact ⟨Bx, h1, ownFrom_heap (β := Unit) () X Y row h2 hg hr, h3⟩)
    ?assign ?body ?done ?stop
  case hI => exact OwnFrom.and (ownFrom_pure _ _) (ownFrom_below (Nat.le_refl _) (Nat.le_refl _))
  case hIx =>
    intro c
    refine OwnFrom.and (fun pre X Y row hs hg hr => ?_) (ownFrom_touch (Nat.le_refl _))
    obtain ⟨hc, ini, x, g, e1, e2, e3, e4, e5, e6⟩ := hs
    exact ⟨hc, ini, x, g, e1, e2, e3, e4, ownFrom_heap (β := Unit) () X Y row e5 hg hr, e6.own hg hr⟩
  case assign =>
    rintro l pre x W' K ⟨h1, h2⟩ hK
    simp only [encW]
    gi_wp2
    exact hK _ _ ((KeepsOthers.alloc _ _).from _) ((Below.refl _ W').alloc h2.size _) ⟨h1, h2.alloc h2.size _⟩ ⟨W'.heap.size, h2.size, heap_alloc_new _ _, rfl⟩
  case body =>
    rintro l pre x a' W' hl ⟨r, hr⟩ ⟨h1, h2⟩ ⟨Bx, hBx, hbx, rfl⟩ hlt
    have hb6 := HB5.out.touch (Touch.of_below h2 (F := Emp)) (fun k hk => hk.elim)
    have cx0 : W'.cell? ⟨Bx, 0, none⟩ = some (.int .i64 (x.1.2.1 : Int)) := by rw [cell_of_row W' _ _ _ _ _ hbx]; rfl
    have cx1 : W'.cell? ⟨Bx, 1, none⟩ = some (.slice (some ⟨x.1.2.2.1, 0, none⟩) 512 512) := by rw [cell_of_row W' _ _ _ _ _ hbx]; rfl
    have c3 := hb6.c0
    have hdx := HD5.out.data x.1.2 x.2
    have hrow : ByteRow W' x.1.2.2.1 x.1.2.2.2 := hdx.2.1.touch (Touch.of_below h2 (F := Emp)) id
    have hrd : Reads W' (.slice (some ⟨x.1.2.2.1, 0, none⟩) 512 512) x.1.2.2.2 x.1.2.2.1 := by have := hrow.reads 512; rwa [hdx.2.2.1] at this
    have hl512 : x.1.2.2.2.length ≤ 512 := by rw [hdx.2.2.1]; exact Nat.le_refl _
    have hpad := padL_full _ hdx.2.2.1
    have HRD := Lib.hid hrd
    have HPAD := Lib.hid hpad
    have HB6 := Lib.hid hb6
    have HBX := Lib.hid hbx
    have H1 := Lib.hid h1
    have H2 := Lib.hid h2
    clear hdx hrow hrd hpad hb6 hbx h1 h2
    by_cases hm : x.1.2.1 = at_
    · have HM := Lib.hid hm
      rw [hm] at cx0
      clear hm
      gi_wp2_with fail
      refine ⟨trivial, ?_⟩
      refine (CallsIn.inRound l (callsIn_wide.2 (sectorOf_any _ x.1.2.2.2 x.1.2.2.1 _ HRD.out hl512))).mono ?_
      rintro e w' ⟨rfl, rfl⟩
      rw [HPAD.out]
      have hb7 := HB6.out.touch ((Touch.refl Emp W').alloc (.cells (rowA x.1.2.2.2) 5)) (fun k hk => hk.elim)
      have e1 := HB6.out.c1
      have e2 := HB6.out.c2
      have g1 := HB6.out.f1
      have g2 := HB6.out.f2
      have hsW := H2.out.size
      have hlt1 : w.heap.size + 1 < W'.heap.size := by have := HB6.out.big; omega
      have hlt2 : w.heap.size + 2 < W'.heap.size := by have := HB6.out.big; omega
      have HB7 := Lib.hid hb7
      clear hb7
      gi_wp2
      have hfin := HB7.out.set (.slice (some ⟨W'.heap.size, 0, none⟩) 512 512) (.int .i64 0)
      rw [World.setCell_alloc_past _ _ _ _ (by exact hlt1), World.setCell_alloc_past _ _ _ _ (by simpa using hlt2)] at hfin
      have tA : Touch (fun k => k = w.heap.size + 1 ∨ k = w.heap.size + 2) W' ((W'.setCell ⟨w.heap.size + 1, 0, none⟩ (.slice (some ⟨W'.heap.size, 0, none⟩) 512 512)).setCell ⟨w.heap.size + 2, 0, none⟩ (.int .i64 0)) :=
        (((Touch.refl (fun k => k = w.heap.size + 1 ∨ k = w.heap.size + 2) W').setCell (a := ⟨w.heap.size + 1, 0, none⟩) (.inl (.inl rfl)) _).setCell (a := ⟨w.heap.size + 2, 0, none⟩) (.inl (.inr rfl)) _)
      refine ⟨⟨by simp, fun k o hk ho hc => ?_⟩, ⟨rfl, pre, x, W'.heap.size, rfl, H1.out, HM.out, hsW, ?_, hfin⟩, (Touch.of_below H2.out).trans (tA.alloc _) fun _ h _ => h⟩
      · rw [Below.heap_alloc _ _ _ (by have := lt_of_heap ho; simpa using this), heap_setCell_other _ _ _ _ (by simp; omega), heap_setCell_other _ _ _ _ (by simp; omega)]
        exact ho
      · have := heap_alloc_new ((W'.setCell ⟨w.heap.size + 1, 0, none⟩ (.slice (some ⟨W'.heap.size, 0, none⟩) 512 512)).setCell ⟨w.heap.size + 2, 0, none⟩ (.int .i64 0)) (.cells (rowA x.1.2.2.2) 5)
        rwa [World.size_setCell, World.size_setCell] at this
    · have hmb : ((x.1.2.1 : Int) == (at_ : Int)) = false := by simp; omega
      gi_wp2
      refine ⟨KeepsFrom.refl _ _, Below.refl _ _, fun y hy => ?_, H2.out⟩
      rcases List.mem_append.1 hy with hy | hy
      · exact H1.out y hy
      · obtain rfl := List.mem_singleton.1 hy; exact hm
  case done =>
    rintro D ys W' hD rfl ⟨hne, hB⟩ hK
    have tB : Touch Emp W5 W' := Touch.of_below hB
    have hb6 := HB5.out.touch tB (fun k hk => hk.elim)
    have hd6 := HD5.out.touch tB (fun _ _ h => h)
    have hlk : lastW s.begin_.waits at_ = none := by
      rw [lastW_of (show W.map _ = s.begin_.waits from HD5.out.waits) HXM.out, find_none hne]; rfl
    have e1 := hb6.c1
    have e2 := hb6.c2
    have e0 := hb6.c0
    have g1 := hb6.f1
    have g2 := hb6.f2
    have d0 := hd6.cell 0
    have d2 := hd6.cell 2
    simp only [devC, List.getElem?_toArray, List.getElem?_cons_succ, List.getElem?_cons_zero] at d0 d2
    have hdb := lt_of_heap hd6.dev
    have hbig6 := hb6.big
    have hlt0 : w.heap.size < W'.heap.size := by omega
    have hlt1 : w.heap.size + 1 < W'.heap.size := by omega
    have hlt2 : w.heap.size + 1 + 1 < W'.heap.size := by omega
    have hlu := fun X hX => run_lookup_iset (P := Tryz.prog) Tryz.underlying61 Tryz.underlying3 (E := 69) (fun _ => by kernel_rfl) (clk := clk) hd6.torn (bm := bm) at_ X hX
    have hl1 := hlu W'.drew hd6.map
    have hl2 := fun o => hlu (W'.alloc o).drew ((Below.heap_alloc _ _ _ (lt_of_heap hd6.map)).trans hd6.map)
    by_cases hto : at_ ∈ s.begin_.incR.torn
    · simp only [hto, decide_true] at hl1 hl2
      have HB6 := Lib.hid hb6
      have HTB := Lib.hid tB
      have HLK := Lib.hid hlk
      have HTO := Lib.hid hto
      clear hb6 hd6 tB hlk hto hlu hne
      gi_wp2
      gi_region
      gi_wp2
      have hK6 : (((W'.setCell ⟨w.heap.size + 1, 0, none⟩ (.slice none 0 0)).setCell ⟨w.heap.size + 2, 0, none⟩ (.int .i64 3)).alloc (.cells #[] 69)).drew.heap[D]? = some (.deferred (some [])) := by
        show (((W'.setCell ⟨w.heap.size + 1, 0, none⟩ (.slice none 0 0)).setCell ⟨w.heap.size + 2, 0, none⟩ (.int .i64 3)).alloc _).heap[D]? = _
        have := HB5.out.big
        rw [Below.heap_alloc _ _ _ (by simpa using lt_of_heap hK), heap_setCell_other _ _ _ _ (by simp; omega), heap_setCell_other _ _ _ _ (by simp; omega)]
        exact hK
      refine ⟨by simp, .inl ⟨_, _, rfl, run_takeDeferred hK6, ?_⟩⟩
      have hb7 := (HB6.out.set (.slice none 0 0) (.int .i64 3)).touch (((Touch.refl Emp _).alloc (.cells #[] 69)).drew) (fun k hk => hk.elim)
      have t7 : Touch (fun k => w.heap.size ≤ k) W5 (((W'.setCell ⟨w.heap.size + 1, 0, none⟩ (.slice none 0 0)).setCell ⟨w.heap.size + 2, 0, none⟩ (.int .i64 3)).alloc (.cells #[] 69)).drew :=
        (((((HTB.out.mono (G := fun k => w.heap.size ≤ k) fun _ _ h => h.elim)).setCell (a := ⟨w.heap.size + 1, 0, none⟩) (.inl (by simp)) _).setCell (a := ⟨w.heap.size + 2, 0, none⟩) (.inl (by simp)) _).alloc _).drew
      have hc := read_close (v := .slice none 0 0) (e := 3) (l := []) HB5.out.big HF.out HT5.out HD5.out t7 hD hK6 hb7 (by rw [DSt.look, HLK.out]; exact if_pos HTO.out) (.inl ⟨rfl, rfl⟩)
      refine ⟨.tuple #[.slice none 0 0, .int .i64 3], by simp [results, Tryz.f39, go_sem, hc.1.c1, hc.1.c2], hc.2⟩
    · simp only [hto, decide_false] at hl1 hl2
      have hat' : at_ < s.begin_.incR.secs.length := by show at_ < s.begin_.secs.length; rw [begin_secs]; exact HAT.out
      obtain ⟨o, hSo, hcs⟩ := hd6.secCell hat'
      obtain ⟨cl, hcl⟩ : ∃ cl, s.begin_.incR.secs[at_]? = some cl := ⟨_, List.getElem?_eq_getElem hat'⟩
      have hgs : gs < W'.heap.size := lt_of_heap hd6.rowS
      obtain ⟨hcl5, hsec⟩ := hd6.secs at_ o cl hSo hcl
      have hrd : ∃ l0 g0, padL l0 = cl ∧ l0.length ≤ 512 ∧ ∀ X, Touch Emp W' X → Reads X (secV o) l0 g0 := by
        rcases hsec with ⟨rfl, rfl⟩ | ⟨g0, rfl, _, hrow⟩
        · exact ⟨[], 0, padL_nil, by simp, fun X _ => ⟨0, 0, .inr ⟨⟨none, rfl⟩, rfl⟩⟩⟩
        · refine ⟨cl, g0, padL_full _ hcl5, by omega, fun X hX => ?_⟩
          have := (hrow.touch hX id).reads 512
          rwa [hcl5] at this
      obtain ⟨l0, g0, hpad, hl0, hrd⟩ := hrd
      have hlook : s.begin_.look at_ = (0, cl) := by
        rw [DSt.look, hlk]
        refine (if_neg hto).trans ?_
        have : s.begin_.secs[at_]? = some cl := hcl
        simp [List.getD, this]
      generalize secV o = sv at hcs hrd
      have HB6 := Lib.hid hb6
      have HTB := Lib.hid tB
      have HLOOK := Lib.hid hlook
      have HPAD := Lib.hid hpad
      have HRD := Lib.hid hrd
      have HCL5 := Lib.hid hcl5
      have hat0 : (0 : Int) ≤ (at_ : Int) := Int.natCast_nonneg _
      have hat1 : (at_ : Int) < (s.begin_.secs.length : Int) := by have : at_ < s.begin_.secs.length := hat'; omega
      clear hb6 hd6 tB hlk hto hlu hne hSo hsec hrd hpad hlook hcl hcl5
      have hr7 := HRD.out ((W'.alloc (.cells #[] 69)).drew.drew) ((((Touch.refl Emp W').alloc _).drew).drew)
      have HR7 := Lib.hid hr7
      clear hr7
      gi_wp2
      gi_region
      gi_wp2
      refine wpIn_mono (Q := NoPanic _) ?_ NoPanic.imp
      gi_region_with (refine ⟨trivial, ?_⟩; refine (callsIn_wide.2 (sectorOf_any sv l0 g0 _ HR7.out hl0)).mono ?_; rintro e w9 ⟨rfl, rfl⟩)
      all_goals
        refine NoPanic.normal ?_
        gi_wp2
        have hK6 : (((((W'.setCell ⟨w.heap.size + 1, 0, none⟩ (.slice (some ⟨W'.heap.size + 1, 0, none⟩) 512 512)).setCell ⟨w.heap.size + 2, 0, none⟩ (.int .i64 0)).alloc (.cells #[] 69)).alloc (.cells (rowA (padL l0)) 5)).drew.drew).heap[D]? = some (.deferred (some [])) := by
          show ((((W'.setCell ⟨w.heap.size + 1, 0, none⟩ (.slice (some ⟨W'.heap.size + 1, 0, none⟩) 512 512)).setCell ⟨w.heap.size + 2, 0, none⟩ (.int .i64 0)).alloc _).alloc _).heap[D]? = _
          have := HB5.out.big
          have hDlt := lt_of_heap hK
          rw [Below.heap_alloc _ _ _ (by simp; omega), Below.heap_alloc _ _ _ (by simpa using hDlt), heap_setCell_other _ _ _ _ (by simp; omega), heap_setCell_other _ _ _ _ (by simp; omega)]
          exact hK
        refine ⟨by simp, .inl ⟨_, _, rfl, run_takeDeferred hK6, ?_⟩⟩
        have hb7 := (HB6.out.set (.slice (some ⟨W'.heap.size + 1, 0, none⟩) 512 512) (.int .i64 0)).touch (((((Touch.refl Emp _).alloc (.cells #[] 69)).alloc (.cells (rowA (padL l0)) 5)).drew).drew) (fun k hk => hk.elim)
        have t7 : Touch (fun k => w.heap.size ≤ k) W5 (((((W'.setCell ⟨w.heap.size + 1, 0, none⟩ (.slice (some ⟨W'.heap.size + 1, 0, none⟩) 512 512)).setCell ⟨w.heap.size + 2, 0, none⟩ (.int .i64 0)).alloc (.cells #[] 69)).alloc (.cells (rowA (padL l0)) 5)).drew.drew) :=
          (((((((HTB.out.mono (G := fun k => w.heap.size ≤ k) fun _ _ h => h.elim)).setCell (a := ⟨w.heap.size + 1, 0, none⟩) (.inl (by simp)) _).setCell (a := ⟨w.heap.size + 2, 0, none⟩) (.inl (by simp)) _).alloc _).alloc _).drew).drew
        have hrow : ByteRow (((((W'.setCell ⟨w.heap.size + 1, 0, none⟩ (.slice (some ⟨W'.heap.size + 1, 0, none⟩) 512 512)).setCell ⟨w.heap.size + 2, 0, none⟩ (.int .i64 0)).alloc (.cells #[] 69)).alloc (.cells (rowA (padL l0)) 5)).drew.drew) (W'.heap.size + 1) cl := by
          rw [← HPAD.out]
          have := heap_alloc2_new ((W'.setCell ⟨w.heap.size + 1, 0, none⟩ (.slice (some ⟨W'.heap.size + 1, 0, none⟩) 512 512)).setCell ⟨w.heap.size + 2, 0, none⟩ (.int .i64 0)) (.cells #[] 69) (.cells (rowA (padL l0)) 5)
          rwa [World.size_setCell, World.size_setCell] at this
        have hc := read_close (v := .slice (some ⟨W'.heap.size + 1, 0, none⟩) 512 512) (e := 0) (l := cl) HB5.out.big HF.out HT5.out HD5.out t7 hD hK6 hb7 HLOOK.out (.inr ⟨W'.heap.size + 1, rfl, by omega, hrow, HCL5.out⟩)
        refine ⟨.tuple #[.slice (some ⟨W'.heap.size + 1, 0, none⟩) 512 512, .int .i64 0], by simp [results, Tryz.f39, go_sem, hc.1.c1, hc.1.c2], hc.2⟩
  case stop =>
    rintro D c pre W' hD ⟨k, hk, rfl⟩ ⟨⟨rfl, ini, x, g, e1, e2, e3, e4, e5, e6⟩, ht⟩ hK
    gi_wp2
    refine ⟨by simp, .inl ⟨_, _, rfl, run_takeDeferred hK, ?_⟩⟩
    have hg := grownBy_putObj' W' D (.deferred none)
    have hgr : ∀ r, some D = some r → W5.heap.size ≤ r ∧ ∃ o : Obj, W'.heap[r]? = some o ∧ o.isCells = false := fun r e => by cases e; exact ⟨hD, _, hK, rfl⟩
    have b7 := e6.own hg hgr
    have r7 : ByteRow (W'.putObj D (.deferred none)) g x.1.2.2.2 := ownFrom_heap (β := Unit) () W' _ _ e5 hg hgr
    have tP : Touch (fun k => W5.heap.size ≤ k) W' (W'.putObj D (.deferred none)) := Touch.of_grown hg fun k e => by cases e; exact hD
    have hbig := HB5.out.big
    have tT : Touch (fun k => w.heap.size ≤ k) W5 (W'.putObj D (.deferred none)) :=
      (ht.mono (G := fun k => w.heap.size ≤ k) fun k _ hk => by omega).trans (tP.mono (G := fun k => w.heap.size ≤ k) fun k _ hk => by omega) fun _ h _ => h
    have hlk : s.begin_.look at_ = (0, x.1.2.2.2) := by
      rw [DSt.look, lastW_of (show W.map _ = s.begin_.waits from HD5.out.waits) HXM.out, find_some e1 e2 e3]; rfl
    refine ⟨.tuple #[.slice (some ⟨g, 0, none⟩) 512 512, .int .i64 0], by simp [results, Tryz.f39, go_sem, b7.c1, b7.c2], _, by rw [hlk], HT5.out.trans tT (fun k h1 h2 => by omega), ?_, ?_⟩
    · exact ⟨gs, S, wv, W, bm, es, clk, kv, HD5.out.touch tT fun k h1 h2 => by have := HF.out k h1; omega⟩
    · rw [hlk]
      exact .inr ⟨g, rfl, by omega, r7, (HD5.out.data _ x.2).2.2.1⟩

theorem read_any {F : Nat → Prop} {w : World} {b : Nat} {s : DSt} (h : Dev w F b s) (hf : s.Fit) (hF : ∀ k, F k → k < w.heap.size) (at_ : Int) :
    Calls Tryz.prog 39 #[.pointer (some ⟨b, 0, none⟩), .int .i64 at_] w fun e w' => ∃ v, e = .returned (.tuple #[v, .int .i64 (s.readR at_).1]) ∧ Touch F w w' ∧ Dev w' F b (s.read at_) ∧ Handed w w' v (s.readR at_).2 := by
  by_cases hb : ¬ (0 ≤ at_ ∧ at_ < s.secs.length)
  · rw [DSt.readR, if_pos hb, DSt.read, if_pos hb]
    refine (read_bad h at_ hb).mono ?_
    rintro e w' ⟨he, ht⟩
    exact ⟨_, he, ht.mono fun _ _ h => h.elim, h.touch ht fun _ _ h => h, .inl ⟨rfl, rfl⟩⟩
  · rw [DSt.readR, if_neg hb, DSt.read, if_neg hb]
    have hat : 0 ≤ at_ ∧ at_ < s.secs.length := Classical.byContradiction fun hc => hb hc
    rcases err_cases s with he | he
    · rw [he, if_pos rfl, if_pos rfl]
      obtain ⟨n, rfl⟩ := Int.eq_ofNat_of_zero_le hat.1
      exact read_ok h hf hF n (by omega) he
    · rw [he, if_neg (by decide), if_neg (by decide)]
      refine (read_down h (by have := hf.1; omega) hF at_ hat he).mono ?_
      rintro e w' ⟨he, ht, hd⟩
      exact ⟨_, he, ht, hd, .inl ⟨rfl, rfl⟩⟩

end Go.Proofs.YthapggobpfcmjaaGreat

namespace Go.Proofs.YthapggobpfcmjaaGreat
open Go.RowKit

/-- A device lies in this world, apart from the blocks X, which are there. -/
def Has (w : World) (b : Nat) (s : DSt) (X : Nat → Prop) : Prop := ∃ F, Dev w F b s ∧ (∀ k, F k → k < w.heap.size ∧ ¬ X k) ∧ ∀ k, X k → k < w.heap.size
/-- The blocks X are as they were. -/
def Keep (X : Nat → Prop) (w w' : World) : Prop := Touch (fun k => ¬ X k) w w'
def Or1 (X : Nat → Prop) (n : Nat) (k : Nat) : Prop := X k ∨ k = n

variable {X Y : Nat → Prop} {w w1 w2 : World} {b : Nat} {s : DSt}
theorem Keep.refl (X : Nat → Prop) (w : World) : Keep X w w := Touch.refl _ w
theorem Keep.trans (h : Keep X w w1) (h' : Keep X w1 w2) : Keep X w w2 := Touch.trans h h' fun _ h _ => h
theorem Keep.mono (h : Keep X w w1) (hx : ∀ k, Y k → X k) : Keep Y w w1 := Touch.mono h fun k _ hk hy => hk (hx k hy)
theorem Keep.heap (h : Keep X w w1) {k : Nat} {o : Obj} (hk : w.heap[k]? = some o) (hX : X k) : w1.heap[k]? = some o := Touch.at h hk fun h => h hX
theorem Keep.alloc (h : Keep X w w1) (o : Obj) : Keep X w (w1.alloc o) := Touch.alloc h o
theorem Keep.drew (h : Keep X w w1) : Keep X w w1.drew := Touch.drew h
theorem Keep.of_emp (h : Touch Emp w w1) : Keep X w w1 := h.mono fun _ _ h => h.elim
theorem Keep.below {n : Nat} (h : Keep X w w1) (hX : ∀ k, k < n → X k) (hn : n ≤ w.heap.size) : Below n w w1 :=
  ⟨h.os, h.tape, h.output, h.size, fun k hk => h.block k (Nat.lt_of_lt_of_le hk hn) fun hc => hc (hX k hk)⟩
theorem Keep.size (h : Keep X w w1) : w.heap.size ≤ w1.heap.size := Touch.size h

theorem Has.mono (h : Has w b s X) (hx : ∀ k, Y k → X k) : Has w b s Y := by
  obtain ⟨F, h1, h2, h3⟩ := h
  exact ⟨F, h1, fun k hk => ⟨(h2 k hk).1, fun hy => (h2 k hk).2 (hx k hy)⟩, fun k hk => h3 k (hx k hk)⟩
theorem Has.alloc (h : Has w b s X) (o : Obj) : Has (w.alloc o) b s (Or1 X w.heap.size) := by
  obtain ⟨F, h1, h2, h3⟩ := h
  refine ⟨F, h1.touch ((Touch.refl Emp w).alloc o) fun _ _ h => h, fun k hk => ⟨by have := (h2 k hk).1; simp; omega, ?_⟩, ?_⟩
  · rintro (hx | rfl)
    · exact (h2 k hk).2 hx
    · have := (h2 _ hk).1; omega
  · rintro k (hx | rfl)
    · have := h3 k hx; simp; omega
    · simp
/-- What is done to blocks of X alone, and to new ones, leaves the device as it is. -/
theorem Has.own {G : Nat → Prop} (h : Has w b s X) (ht : Touch G w w1) (hG : ∀ k, k < w.heap.size → G k → X k) : Has w1 b s X := by
  obtain ⟨F, h1, h2, h3⟩ := h
  refine ⟨F, h1.touch (ht.mono (G := fun k => X k) hG) fun k hk hx => (h2 k hk).2 hx, fun k hk => ⟨Nat.lt_of_lt_of_le (h2 k hk).1 ht.size, (h2 k hk).2⟩, fun k hk => Nat.lt_of_lt_of_le (h3 k hk) ht.size⟩
theorem Has.step {s' : DSt} (h : ∃ F, (∀ k, F k → k < w.heap.size ∧ ¬ X k) ∧ Touch F w w1 ∧ Dev w1 (Gr F w w1) b s') (h3 : ∀ k, X k → k < w.heap.size) : Keep X w w1 ∧ Has w1 b s' X := by
  obtain ⟨F, h2, ht, hd⟩ := h
  refine ⟨ht.mono fun k _ hk => (h2 k hk).2, Gr F w w1, hd, ?_, fun k hk => Nat.lt_of_lt_of_le (h3 k hk) ht.size⟩
  rintro k (hk | ⟨hk, hk'⟩)
  · exact ⟨Nat.lt_of_lt_of_le (h2 k hk).1 ht.size, (h2 k hk).2⟩
  · exact ⟨hk', fun hx => by have := h3 k hx; omega⟩

theorem new_has (n : Nat) (w : World) (h1 : 1 ≤ n) (h2 : n ≤ 20000) :
    Calls Tryz.prog 6 #[.int .i64 (n : Int)] w fun e w' => e = .returned (.tuple #[.pointer (some ⟨w.heap.size + 2, 0, none⟩), .int .i64 0]) ∧
      Touch Emp w w' ∧ w'.heap.size = w.heap.size + 3 ∧ Has w' (w.heap.size + 2) (DSt.new n) (fun k => k < w.heap.size) := by
  refine (new_any n w h1 h2).mono ?_
  rintro e w' ⟨he, ht, hs, hd⟩
  exact ⟨he, ht, hs, NewF w, hd, fun k hk => ⟨by rw [hs]; exact hk.2, by have := hk.1; omega⟩, fun k hk => by omega⟩

theorem write_has (h : Has w b s X) (hf : s.Fit) (at_ : Int) (v : Value) (l : List UInt8) (g : Nat) (hr : Reads w v l g) (hg : l ≠ [] → X g) :
    Calls Tryz.prog 18 #[.pointer (some ⟨b, 0, none⟩), .int .i64 at_, v] w fun e w' => e = .returned (.int .i64 (s.writeErr at_ l)) ∧ Keep X w w' ∧ Has w' b (s.write at_ l) X := by
  obtain ⟨F, h1, h2, h3⟩ := h
  have key : ∃ g', Reads w v l g' ∧ ¬ F g' := by
    by_cases h0 : l = []
    · subst h0
      obtain ⟨off, cap, ⟨rfl, _⟩ | ⟨ha, _⟩⟩ := hr
      · exact ⟨w.heap.size, ⟨off, cap, .inr ⟨⟨_, rfl⟩, rfl⟩⟩, fun hk => by have := (h2 _ hk).1; omega⟩
      · exact ⟨w.heap.size, ⟨off, cap, .inr ⟨ha, rfl⟩⟩, fun hk => by have := (h2 _ hk).1; omega⟩
    · exact ⟨g, hr, fun hk => (h2 _ hk).2 (hg h0)⟩
  obtain ⟨g', hr', hg'⟩ := key
  refine (write_any h1 hf at_ v l g' hr' hg').mono ?_
  rintro e w' ⟨he, ht, hd⟩
  exact ⟨he, Has.step ⟨F, h2, ht, hd⟩ h3⟩
theorem flush_has (h : Has w b s X) (hf : s.Fit) :
    Calls Tryz.prog 53 #[.pointer (some ⟨b, 0, none⟩)] w fun e w' => e = .returned (.int .i64 s.err) ∧ Keep X w w' ∧ Has w' b s.flush X := by
  obtain ⟨F, h1, h2, h3⟩ := h
  refine (flush_any h1 hf).mono ?_
  rintro e w' ⟨he, ht, hd⟩
  exact ⟨he, Has.step ⟨F, h2, ht, hd.mono fun _ => .inl⟩ h3⟩
theorem start_has (h : Has w b s X) :
    Calls Tryz.prog 15 #[.pointer (some ⟨b, 0, none⟩)] w fun e w' => e = .returned (.int .i64 s.startErr) ∧ Keep X w w' ∧ Has w' b s.start X := by
  obtain ⟨F, h1, h2, h3⟩ := h
  refine (start_any h1).mono ?_
  rintro e w' ⟨he, ht, hd⟩
  exact ⟨he, Has.step ⟨F, h2, ht, hd.mono fun _ => .inl⟩ h3⟩
theorem counts_has (h : Has w b s X) :
    Calls Tryz.prog 13 #[.pointer (some ⟨b, 0, none⟩)] w fun e w' => e = .returned (.agg #[.int .i64 s.reads, .int .i64 s.writes, .int .i64 s.flushes]) ∧ Keep X w w' ∧ Has w' b s X := by
  obtain ⟨F, h1, h2, h3⟩ := h
  refine (counts_any h1).mono ?_
  rintro e w' ⟨he, ht⟩
  exact ⟨he, Keep.of_emp ht, F, h1.touch ht fun _ _ h => h, fun k hk => ⟨Nat.lt_of_lt_of_le (h2 k hk).1 ht.size, (h2 k hk).2⟩, fun k hk => Nat.lt_of_lt_of_le (h3 k hk) ht.size⟩
theorem read_hasL (h : Has w b s X) (hf : s.Fit) (at_ : Int) :
    Calls Tryz.prog 39 #[.pointer (some ⟨b, 0, none⟩), .int .i64 at_] w fun e w' => ∃ v, e = .returned (.tuple #[v, .int .i64 (s.readR at_).1]) ∧ Keep X w w' ∧
      Has w' b (s.read at_) X ∧ (s.readR at_).2.length ≤ 512 ∧ ∃ g, Reads w' v (s.readR at_).2 g ∧ ((s.readR at_).2 ≠ [] → w.heap.size ≤ g ∧ g < w'.heap.size ∧ ByteRow w' g (s.readR at_).2 ∧ Has w' b (s.read at_) (Or1 X g)) := by
  obtain ⟨F, h1, h2, h3⟩ := h
  refine (read_any h1 hf (fun k hk => (h2 k hk).1) at_).mono ?_
  rintro e w' ⟨v, he, ht, hd, hh⟩
  refine ⟨v, he, (Has.step ⟨F, h2, ht, hd.mono fun _ => .inl⟩ h3).1, (Has.step ⟨F, h2, ht, hd.mono fun _ => .inl⟩ h3).2, by rcases hh with ⟨_, hl⟩ | ⟨_, _, _, _, hl⟩ <;> simp [hl], ?_⟩
  rcases hh with ⟨rfl, hl⟩ | ⟨g, rfl, hg, hrow, hl⟩
  · rw [hl]
    exact ⟨0, ⟨0, 0, .inr ⟨⟨none, rfl⟩, rfl⟩⟩, fun h => absurd rfl h⟩
  · refine ⟨g, by have := hrow.reads 512; rwa [hl] at this, fun _ => ⟨hg, lt_of_heap hrow, hrow, F, hd, fun k hk => ⟨Nat.lt_of_lt_of_le (h2 k hk).1 ht.size, ?_⟩, ?_⟩⟩
    · rintro (hx | rfl)
      · exact (h2 k hk).2 hx
      · have := (h2 _ hk).1; omega
    · rintro k (hx | rfl)
      · exact Nat.lt_of_lt_of_le (h3 k hx) ht.size
      · exact lt_of_heap hrow
theorem read_has (h : Has w b s X) (hf : s.Fit) (at_ : Int) :
    Calls Tryz.prog 39 #[.pointer (some ⟨b, 0, none⟩), .int .i64 at_] w fun e w' => ∃ v, e = .returned (.tuple #[v, .int .i64 (s.readR at_).1]) ∧ Keep X w w' ∧
      Has w' b (s.read at_) X ∧ ∃ g, Reads w' v (s.readR at_).2 g ∧ ((s.readR at_).2 ≠ [] → w.heap.size ≤ g ∧ g < w'.heap.size ∧ ByteRow w' g (s.readR at_).2 ∧ Has w' b (s.read at_) (Or1 X g)) :=
  (read_hasL h hf at_).mono fun _ _ ⟨v, he, hk, hd, _, hg⟩ => ⟨v, he, hk, hd, hg⟩
theorem crash_has (h : Has w b s X) (hsz : s.waits.length < 4294967296) (v : Value) (keep : List Int) (g : Nat) (hk : IReads w v keep g) (hg : keep ≠ [] → X g) :
    Calls Tryz.prog 14 #[.pointer (some ⟨b, 0, none⟩), v] w fun e w' => e = .returned (.tuple #[]) ∧ Keep X w w' ∧ Has w' b (s.crash keep) X := by
  obtain ⟨F, h1, h2, h3⟩ := h
  obtain ⟨gs, S, wv, W, bm, es, clk, kv, h⟩ := h1
  refine (crash_any h v keep g hk (fun h0 => ?_) hsz).mono ?_
  · have hX := hg h0
    refine ⟨?_, ?_, ?_⟩
    · rintro rfl; exact (h2 _ h.ownD).2 hX
    · rintro rfl; exact (h2 _ h.ownS).2 hX
    · rintro rfl; exact (h2 _ h.ownM).2 hX
  · rintro e w' ⟨he, ht, hd⟩
    exact ⟨he, Has.step ⟨F, h2, ht, hd.mono fun _ => .inl⟩ h3⟩
theorem Has.lt (h : Has w b s X) : b < w.heap.size := by
  obtain ⟨F, ⟨gs, S, wv, W, bm, es, clk, kv, h⟩, _⟩ := h
  exact lt_of_heap h.dev

end Go.Proofs.YthapggobpfcmjaaGreat
