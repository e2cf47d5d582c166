/- The keys of a map of epochs, collected: maps.Keys, slices.AppendSeq, slices.Collect. No condition. -/
import Derived.Test.YthapggobpfcmjaaRpc
import Derived.Maps.AppendAt
import Derived.Sort.MapsRangeIn
import Derived.Sort.KeysCollected
import Derived.RangeFuncNested
import Derived.RangeFuncBox
import Derived.RangeFuncCalls
import Derived.Shelf.Abstract
import Derived.WalkKit
import Derived.OwnWalkIn
import Derived.TacticsInMore
import Derived.LoopNIn
import Derived.LoopIn
set_option maxRecDepth 100000
namespace Go.Proofs.Ythapggobpfcmjaa
namespace Rp
open Go.RowKit Go.Maps Go.Shelf

attribute [local go_sem] Oper.semAt_some

abbrev encU (x : Int) : Value := .int .u32 x
/-- No key twice; one is on the list just where the map has it, and it comes no more. -/
def Coll (D : DataW Nat) (left : Lit → Bool) (ss : List Int) : Prop := ss.Nodup ∧ ∀ x, x ∈ ss ↔ (has D (.int .u32 x) = true ∧ left (.int .u32 x) = false)
theorem Coll.start (D : DataW Nat) : Coll D (has D) [] := ⟨List.nodup_nil, fun x => by cases has D (.int .u32 x) <;> simp⟩
theorem Coll.step {D : DataW Nat} {left : Lit → Bool} {ss : List Int} (h : Coll D left ss) {x : Int} {y : DataW Nat} (hl : left (.int .u32 x) = true) (hat : ∀ zd, D.atKey (.int .u32 x) zd = y) : Coll D (fun z => left z && !z.sameKey (.int .u32 x)) (ss ++ [x]) := by
  have hh : has D (.int .u32 x) = true := has_true_of_atKey hat
  have hn : x ∉ ss := fun hx => by have := ((h.2 x).1 hx).2; rw [hl] at this; cases this
  refine ⟨List.nodup_append.2 ⟨h.1, by simp, fun a ha b hb e => hn (by rw [← List.mem_singleton.1 hb, ← e]; exact ha)⟩, fun y => ?_⟩
  by_cases hy : y = x
  · subst hy; simp [hh, Lit.sameKey]
  · simp [h.2 y, hy, Lit.sameKey]
theorem keyOf_inv {key : Value} {kl : Lit} (h : keyOf Try.prog 30 key = some kl) : ∃ x : Int, key = encU x ∧ kl = .int .u32 x := by
  cases key <;> simp [keyOf, Try.underlying30, mapKey] at h
  rename_i q a
  obtain ⟨⟨rfl, hw⟩, rfl⟩ := h
  exact ⟨a, rfl, rfl⟩
/-- The keys that there are. -/
def KeysA (D : DataW Nat) (ss : List Int) : Prop := ss.Nodup ∧ ∀ x, x ∈ ss ↔ has D (.int .u32 x) = true

set_option maxHeartbeats 2000000 in
theorem keys1_in (F : Fence) (n : Nat) (h10 : F.fn 78) (hro : F.round = none) (hn : 1 ≤ n) (l Bm b nn : Nat) (D0 : DataW Nat) (J Jx : List Int → World → Prop)
    (hY : ∀ pre x W, J pre W → pre.length < Maps.size D0 → YieldAt F (n - 1) Try.prog l #[encU x] W fun e W' =>
      (e = .returned (.bool true) ∧ J (pre ++ [x]) W' ∧ KeepsWalks W W') ∨ (e = .returned (.bool false) ∧ Jx (pre ++ [x]) W'))
    (W : World) (hJ : AbidesFrom W.heap.size J) (hm : W.cell? ⟨Bm, 0, none⟩ = some (.map (some b))) (hown : OwnM W b nn D0) (h0 : J [] W) :
    CallsIn F n Try.prog 78 #[.func (.yield l) #[] #[], .pointer (some ⟨Bm, 0, none⟩)] W fun e W' => (∃ v, e = .returned v) ∧
      ((∃ ss : List Int, KeysA D0 ss ∧ J ss W') ∨ (∃ pre : List Int, True ∧ Jx pre W')) := by
  refine callsIn_of_wp Try.func78 rfl h10 ?_ hro
  simp only [Try.ntmps78, List.size_toArray, List.length_cons, List.length_nil, Nat.reduceAdd, Nat.reduceSub, Array.replicate_succ, Array.replicate_zero, List.push_toArray, List.append_toArray, List.nil_append, List.cons_append]
  gi_wp2_with (gi_at_range; refine wpListIn_range_own _ rfl _ 111 rfl 30 31 keyU Try.mapU RN b nn D0 rfl hown ?_; intro w0 hrg0 hg0 hs0)
  go_frame
  gi_loopw [3] (fun _ wr => ∃ (left : Lit → Bool) (cnt : Nat) (ss : List Int), wr.ranges Try.prog 30 RN b W.heap.size nn D0 left cnt ∧ ss.length + cnt ≤ Maps.size D0 ∧ Coll D0 left ss ∧ J ss wr)
    (fun _ wr => wr.rangeLeft b W.heap.size)
  case atStart =>
    exact ⟨_, _, [], hrg0, by simp, Coll.start D0, hJ [] W w0 none h0 hg0 (fun r e => by cases e)⟩
  case round =>
    obtain ⟨left, cnt, ss, hrg, hcs, hC, hJs⟩ := hrel
    gi_wp2_with (gi_at_next; refine wpListIn_next_ranges _ rfl _ rfl 30 keyU RN encU id (fun key kl hk => by obtain ⟨x, hx, _⟩ := keyOf_inv hk; exact ⟨x, hx⟩) (fun v _ _ => ⟨v, rfl⟩) b W.heap.size nn _ _ _ rfl hrg ?_ ?_)
    · intro hc0 hl0
      gi_wp2
      go_end0
      exact ⟨⟨_, rfl⟩, .inl ⟨ss, ⟨hC.1, fun x => by rw [hC.2 x, hl0]; simp⟩, hJs⟩⟩
    · intro x c kl yd yp w2 cnt2 hkey hlk hv hat hrg2 hlt hg2 hs2 hen
      obtain ⟨x', ex, rfl⟩ := keyOf_inv hkey
      obtain rfl : x = x' := by simpa [encU] using ex
      have hJ2 : J ss w2 := hJ ss wr w2 (some W.heap.size) hJs hg2 (fun r e => by cases e; exact ⟨Nat.le_refl _, hrg.iter_walk⟩)
      obtain ⟨fn, tmps, assign, body, hy, hR⟩ := hY ss x w2 hJ2 (by omega)
      clear hs2
      gi_wp2
      refine hR.mono ?_
      have hC2 := hC.step hlk hat
      rintro e W3 (⟨rfl, hJ3, hk3⟩ | ⟨rfl, hJx3⟩)
      · gi_wp2
        have hrg3 := hrg2.of_walks hk3
        go_roundw
        case rel => exact ⟨_, cnt2, ss ++ [x], hrg3, by simp; omega, hC2, hJ3⟩
        case measure => rw [hrg3.left_eq, hrg.left_eq]; exact hlt
      · gi_wp2
        refine bodyPost_ret (results_none rfl _ _ _) rfl ?_
        exact ⟨⟨_, rfl⟩, .inr ⟨ss ++ [x], trivial, hJx3⟩⟩

theorem keys_stops (F : Fence) (n : Nat) (h10 : F.fn 78) (hro : F.round = none) (hn : 1 ≤ n) (Bm b nn : Nat) (D0 : DataW Nat) (w : World) (hBm : Bm < w.heap.size)
    (hm : w.cell? ⟨Bm, 0, none⟩ = some (.map (some b))) (hown : OwnM w b nn D0) :
    SeqStopsK F n Try.prog 78 #[.pointer (some ⟨Bm, 0, none⟩)] (fun x : Int => #[encU x]) KeepsWalks (KeysA D0) (fun _ => True) (Maps.size D0) w := fun l J Jx W hW hJ _ hY h0 => by
  have hown' : OwnM W b nn D0 := by
    have hbl := hown.lt
    obtain ⟨es, clock, hb, Ft, hs, hD⟩ := hown
    exact ⟨es, clock, (hW.block b hbl).trans hb, Ft, hs, hD⟩
  exact keys1_in F n h10 hro hn l Bm b nn D0 J Jx hY W hJ ((hW.cell (p := ⟨Bm, 0, none⟩) hBm).trans hm) hown' h0

set_option maxHeartbeats 1000000 in
theorem keys_in (m : Nat) (w : World) :
    Calls Try.prog 72 #[.map (some m)] w fun e w' => e = .returned (.func (.func 78) #[] #[.pointer (some ⟨w.heap.size, 0, none⟩)]) ∧ w' = w.alloc (.cells #[.map (some m)] 111) := by
  go_enter Try.func72, Try.ntmps72
  go_wp2
  go_ret
  exact ⟨rfl, rfl⟩

theorem Try.infoU32 : (Try.prog.info? 30).map (fun i => (i.zero, i.size, i.bytes)) = some (some (.int .u32 0), 1, 4) := by kernel_rfl
/-- The loop's own two blocks are no cells, and no walk. -/
theorem kw_put (w : World) (W : World) (l : Nat) (o o' : Obj) (_ : w.heap.size ≤ l) (hl : W.heap[l]? = some o) (_ : o.isCells = false) (hw : o.isWalk = false) : KeepsWalks W (W.putObj l o') := KeepsWalks.putObj o' hl hw

set_option maxHeartbeats 4000000 in
theorem appendSeq_ok (Bm b nn : Nat) (D0 : DataW Nat) (w : World) (hBm : Bm < w.heap.size) (hm : w.cell? ⟨Bm, 0, none⟩ = some (.map (some b))) (hown : OwnM w b nn D0) (hnn : nn ≤ 4294967296) :
    Calls Try.prog 81 #[.slice none 0 0, .func (.func 78) #[] #[.pointer (some ⟨Bm, 0, none⟩)]] w fun e w' =>
      (∃ v ss, e = .returned v ∧ KeysA D0 ss ∧ w'.ownsRow w.heap.size 30 1 v ss.length (ss.map encU)) ∧ Below w.heap.size w w' := by
  refine (callsIn_wide (n := 5)).1 ?_
  refine callsIn_of_wp_marks Try.func81 rfl trivial ?_ rfl
  simp only [Try.ntmps81, List.size_toArray, List.length_cons, List.length_nil, Nat.reduceAdd, Nat.reduceSub, Array.replicate_succ, Array.replicate_zero, List.push_toArray, List.append_toArray, List.nil_append, List.cons_append]
  gi_wp2_with fail
  have hown1 := hown.alloc (.cells #[.slice none 0 0] 125)
  have hm1 : (w.alloc (.cells #[.slice none 0 0] 125)).cell? ⟨Bm, 0, none⟩ = some (.map (some b)) := (World.cell?_alloc_lt _ _ _ (by exact hBm)).trans hm
  have hsz : (w.alloc (.cells #[.slice none 0 0] 125)).heap.size = w.heap.size + 1 := by simp
  have hbx := Boxed.new w 125 (.slice none 0 0)
  have hbl : Below w.heap.size w (w.alloc (.cells #[.slice none 0 0] 125)) := (Below.refl _ w).alloc (Nat.le_refl _) _
  have hsD : Maps.size D0 ≤ nn := by
    obtain ⟨es, clk, -, -, hs, rfl⟩ := hown
    rw [Maps.size_eq, length_sorted]
    simpa using hs
  have HS := Lib.hid hsD
  have KS := keys_stops Fence.wide 4 trivial rfl (by omega) Bm b nn D0 _ (by rw [hsz]; omega) hm1 hown1
  generalize w.alloc (.cells #[.slice none 0 0] 125) = W1 at *
  have HB := Lib.hid hbl
  have HX := Lib.hid hbx
  clear hown hown1 hm hm1 hsD hbl hbx
  obtain ⟨i0, hi, hz0, hz1, hz2⟩ := info_parts Try.infoU32
  refine wpIn_rangeFunc_ownG (hro := rfl) (h1 := by omega) (gf := 78) (lb := #[.pointer (some ⟨Bm, 0, none⟩)]) rfl trivial (enters_of Try.func78 (by kernel_rfl) rfl)
    KS (fun h1 h2 => h1.trans h2) (fun W l o o' => kw_put W1 W l o o') (Below.refl _ _) (fun _ => rfl)
    (fun ss W' => ∃ v, Boxed W' w.heap.size 125 v ∧ W'.ownsRow w.heap.size 30 1 v ss.length (ss.map encU) ∧ Below w.heap.size w W')
    (fun _ _ _ => False) ?hI (fun c s X Y row h => h.elim) ⟨_, HX.out, World.ownsRow_nil _ _ _ _, HB.out⟩
    ?a1 ?assign ?body ?done ?stop
  case assign =>
    intro l x W K hK
    gi_wp2
    exact hK
  case hI =>
    rintro ss X Y row ⟨v, hb, hr, hbe⟩ hg hrow
    obtain ⟨v', h1, h2, -⟩ := holdsRow_own w.heap.size w.heap.size 125 30 1 List.length (fun s : List Int => s.map encU) (fun _ _ => True) ss X Y row ⟨v, hb, hr, trivial⟩ hg (fun r e => (hrow r e).2)
    exact ⟨v', h1, h2, hbe.grown hg hbe.size fun k e => by have := (hrow k e).1; omega⟩
  case body =>
    rintro l pre x X ⟨v, hb, hr, hbe⟩ hlt
    have hc0 := hb.cell
    have hnew : ∀ j u, ([.int .u32 x] : List Value)[j]? = some u → (X.alloc (.cells #[.int .u32 x] 30)).cell? ((⟨X.heap.size, 0, none⟩ : Addr).add j) = some u := fun j u hj => by
      rw [add_lit, cell_of_row _ _ j _ _ _ (heap_alloc_new X _)]
      simpa using hj
    have HN := Lib.hid hnew
    have HBX := Lib.hid hb
    have HR := Lib.hid hr
    have HBE := Lib.hid hbe
    have hXs : w.heap.size ≤ X.heap.size := hbe.size
    have hn4 : pre.length + 1 ≤ 4294967296 := by have := HS.out; omega
    clear hnew hb hr hbe
    gi_wp2_with (gi_at_builtin; refine wpListIn_append_own _ rfl _ _ 125 rfl w.heap.size 30 i0 (.int .u32 0) 1 4 Try.underlying125 hi hz0 hz1 hz2 rfl (by decide) _ _ _ rfl (HR.out.alloc _) ⟨X.heap.size, 0, none⟩ 1 1 [.int .u32 x] rfl rfl HN.out (by simp [Value.oneCell']) (by simp only [maxLen]; omega) (by omega) (by simp; omega) ?_; intro v' w3 hown' hgrow _; obtain ⟨g4, cap4, rfl⟩ := ownsRow_succ hown'; obtain ⟨a1, a2, a3, a4, a5⟩ := HBX.out.appended (by decide) HR.out hXs (Nat.le_refl _) hown' hgrow; have hc1 := a1.cell; have hf1 := a1.frozen; have HZ := Lib.hid (And.intro a2 (And.intro a3 (And.intro a4 a5))); clear a1 a2 a3 a4 a5 hown' hgrow)
    obtain ⟨z2, z3, z4, z5⟩ := HZ.out
    refine ⟨z4.from _, z4.walks, _, z2, ?_, ((Touch.of_below (F := Emp) HBE.out).trans (G := fun k => w.heap.size ≤ k) ⟨z5.os, z5.tape, z5.output, z5.size, fun k hk hn => z5.block k (by omega)⟩ (fun j hj hlt2 => by omega)).below⟩
    rw [List.length_append, List.map_append]
    exact z3
  case done =>
    rintro D ss X hD hS ⟨v, hb, hr, hbe⟩ hK
    have hc0 := hb.cell
    have HBX := Lib.hid hb
    have HR := Lib.hid hr
    have HBE := Lib.hid hbe
    have HSS := Lib.hid hS
    have HK := Lib.hid hK
    have hf : v = .slice none 0 0 ∧ ss.length = 0 ∨ ∃ g cap, v = .slice (some ⟨g, 0, none⟩) ss.length cap := hr.2.imp id (fun ⟨g, cap, _, e, _⟩ => ⟨g, cap, e⟩)
    have fin : (∃ v' ss', v = v' ∧ KeysA D0 ss' ∧ (X.putObj D (.deferred none)).ownsRow w.heap.size 30 1 v' ss'.length (ss'.map encU)) ∧ Below w.heap.size w (X.putObj D (.deferred none)) :=
      ⟨⟨v, ss, rfl, hS, ownsRow_putObj hr _ hK rfl⟩, hbe.grown (grownBy_putObj' X D _) hbe.size fun k e => by cases e; omega⟩
    have FIN := Lib.hid fin
    clear hb hr hbe hS hK fin
    rcases hf with ⟨rfl, h0⟩ | ⟨g5, cap5, rfl⟩
    · gi_wp2
      refine ⟨by simp, .inl ⟨_, _, rfl, run_takeDeferred HK.out, ?_⟩⟩
      obtain ⟨⟨v', ss', e, h2⟩, h3⟩ := FIN.out
      refine ⟨.slice none 0 0, by simp [results, Try.results81, go_sem], ⟨_, ss', rfl, by rw [e]; exact h2⟩, h3⟩
    · gi_wp2
      refine ⟨by simp, .inl ⟨_, _, rfl, run_takeDeferred HK.out, ?_⟩⟩
      obtain ⟨⟨v', ss', e, h2⟩, h3⟩ := FIN.out
      refine ⟨.slice (some ⟨g5, 0, none⟩) ss.length cap5, by simp [results, Try.results81, go_sem], ⟨_, ss', rfl, by rw [e]; exact h2⟩, h3⟩
  case stop =>
    rintro D c pre X hD _ h
    exact h.elim
end Rp
end Go.Proofs.Ythapggobpfcmjaa
