/- replay.Scan: keys, ends, head, span, tags read. -/
import Derived.Test.YthapggobpfcmjaaGreatRscA
import Derived.Maps.AppendAt
import Derived.Sort.MapsRangeIn
import Derived.Sort.KeysCollected
import Derived.RangeFuncNested
import Derived.RangeFuncBox
import Derived.RangeFuncCalls
import Derived.Shelf.Abstract
import Derived.WalkKit
import Derived.OwnWalkIn
import Derived.TacticsInMore
import Derived.LoopNIn
import Derived.LoopIn
import Derived.Test.YthapggobpfcmjaaGreatSeq
import Derived.Test.YthapggobpfcmjaaGreatNum
import Derived.Test.YthapggobpfcmjaaGreatRge
import Derived.Test.YthapggobpfcmjaaGreatDvm
set_option maxRecDepth 100000
namespace Go.Proofs.YthapggobpfcmjaaGreat
namespace Rp
open Go.RowKit Go.Maps Go.Shelf

attribute [local go_sem] Oper.semAt_some

abbrev encU (x : Int) : Value := .int .u32 x
/-- No key twice; one is on the list just where the map has it, and it comes no more. -/
def Coll (D : DataW Nat) (left : Lit → Bool) (ss : List Int) : Prop := ss.Nodup ∧ ∀ x, x ∈ ss ↔ (has D (.int .u32 x) = true ∧ left (.int .u32 x) = false)
theorem Coll.start (D : DataW Nat) : Coll D (has D) [] := ⟨List.nodup_nil, fun x => by cases has D (.int .u32 x) <;> simp⟩
theorem Coll.step {D : DataW Nat} {left : Lit → Bool} {ss : List Int} (h : Coll D left ss) {x : Int} {y : DataW Nat} (hl : left (.int .u32 x) = true) (hat : ∀ zd, D.atKey (.int .u32 x) zd = y) : Coll D (fun z => left z && !z.sameKey (.int .u32 x)) (ss ++ [x]) := by
  have hh : has D (.int .u32 x) = true := has_true_of_atKey hat
  have hn : x ∉ ss := fun hx => by have := ((h.2 x).1 hx).2; rw [hl] at this; cases this
  refine ⟨List.nodup_append.2 ⟨h.1, by simp, fun a ha b hb e => hn (by rw [← List.mem_singleton.1 hb, ← e]; exact ha)⟩, fun y => ?_⟩
  by_cases hy : y = x
  · subst hy; simp [hh, Lit.sameKey]
  · simp [h.2 y, hy, Lit.sameKey]
theorem keyOf_inv {key : Value} {kl : Lit} (h : keyOf Tryz.prog 31 key = some kl) : ∃ x : Int, key = encU x ∧ kl = .int .u32 x := by
  cases key <;> simp [keyOf, Tryz.underlying31, mapKey] at h
  rename_i q a
  obtain ⟨⟨rfl, hw⟩, rfl⟩ := h
  exact ⟨a, rfl, rfl⟩
/-- The keys that there are. -/
def KeysA (D : DataW Nat) (ss : List Int) : Prop := ss.Nodup ∧ ∀ x, x ∈ ss ↔ has D (.int .u32 x) = true

set_option maxHeartbeats 2000000 in
theorem keys1_in (F : Fence) (n : Nat) (h10 : F.fn 104) (hro : F.round = none) (hn : 1 ≤ n) (l Bm b nn : Nat) (D0 : DataW Nat) (J Jx : List Int → World → Prop)
    (hY : ∀ pre x W, J pre W → pre.length < Maps.size D0 → YieldAt F (n - 1) Tryz.prog l #[encU x] W fun e W' =>
      (e = .returned (.bool true) ∧ J (pre ++ [x]) W' ∧ KeepsWalks W W') ∨ (e = .returned (.bool false) ∧ Jx (pre ++ [x]) W'))
    (W : World) (hJ : AbidesFrom W.heap.size J) (hm : W.cell? ⟨Bm, 0, none⟩ = some (.map (some b))) (hown : OwnM W b nn D0) (h0 : J [] W) :
    CallsIn F n Tryz.prog 104 #[.func (.yield l) #[] #[], .pointer (some ⟨Bm, 0, none⟩)] W fun e W' => (∃ v, e = .returned v) ∧
      ((∃ ss : List Int, KeysA D0 ss ∧ J ss W') ∨ (∃ pre : List Int, True ∧ Jx pre W')) := by
  refine callsIn_of_wp Tryz.func104 rfl h10 ?_ hro
  simp only [Tryz.ntmps104, List.size_toArray, List.length_cons, List.length_nil, Nat.reduceAdd, Nat.reduceSub, Array.replicate_succ, Array.replicate_zero, List.push_toArray, List.append_toArray, List.nil_append, List.cons_append]
  gi_wp2_with (gi_at_range; refine wpListIn_range_own _ rfl _ 142 rfl 31 32 keyU Tryz.mapU RN b nn D0 rfl hown ?_; intro w0 hrg0 hg0 hs0)
  go_frame
  gi_loopw [3] (fun _ wr => ∃ (left : Lit → Bool) (cnt : Nat) (ss : List Int), wr.ranges Tryz.prog 31 RN b W.heap.size nn D0 left cnt ∧ ss.length + cnt ≤ Maps.size D0 ∧ Coll D0 left ss ∧ J ss wr)
    (fun _ wr => wr.rangeLeft b W.heap.size)
  case atStart =>
    exact ⟨_, _, [], hrg0, by simp, Coll.start D0, hJ [] W w0 none h0 hg0 (fun r e => by cases e)⟩
  case round =>
    obtain ⟨left, cnt, ss, hrg, hcs, hC, hJs⟩ := hrel
    gi_wp2_with (gi_at_next; refine wpListIn_next_ranges _ rfl _ rfl 31 keyU RN encU id (fun key kl hk => by obtain ⟨x, hx, _⟩ := keyOf_inv hk; exact ⟨x, hx⟩) (fun v _ _ => ⟨v, rfl⟩) b W.heap.size nn _ _ _ rfl hrg ?_ ?_)
    · intro hc0 hl0
      gi_wp2
      go_end0
      exact ⟨⟨_, rfl⟩, .inl ⟨ss, ⟨hC.1, fun x => by rw [hC.2 x, hl0]; simp⟩, hJs⟩⟩
    · intro x c kl yd yp w2 cnt2 hkey hlk hv hat hrg2 hlt hg2 hs2 hen
      obtain ⟨x', ex, rfl⟩ := keyOf_inv hkey
      obtain rfl : x = x' := by simpa [encU] using ex
      have hJ2 : J ss w2 := hJ ss wr w2 (some W.heap.size) hJs hg2 (fun r e => by cases e; exact ⟨Nat.le_refl _, hrg.iter_walk⟩)
      obtain ⟨fn, tmps, assign, body, hy, hR⟩ := hY ss x w2 hJ2 (by omega)
      clear hs2
      gi_wp2
      refine hR.mono ?_
      have hC2 := hC.step hlk hat
      rintro e W3 (⟨rfl, hJ3, hk3⟩ | ⟨rfl, hJx3⟩)
      · gi_wp2
        have hrg3 := hrg2.of_walks hk3
        go_roundw
        case rel => exact ⟨_, cnt2, ss ++ [x], hrg3, by simp; omega, hC2, hJ3⟩
        case measure => rw [hrg3.left_eq, hrg.left_eq]; exact hlt
      · gi_wp2
        refine bodyPost_ret (results_none rfl _ _ _) rfl ?_
        exact ⟨⟨_, rfl⟩, .inr ⟨ss ++ [x], trivial, hJx3⟩⟩

theorem keys_stops (F : Fence) (n : Nat) (h10 : F.fn 104) (hro : F.round = none) (hn : 1 ≤ n) (Bm b nn : Nat) (D0 : DataW Nat) (w : World) (hBm : Bm < w.heap.size)
    (hm : w.cell? ⟨Bm, 0, none⟩ = some (.map (some b))) (hown : OwnM w b nn D0) :
    SeqStopsK F n Tryz.prog 104 #[.pointer (some ⟨Bm, 0, none⟩)] (fun x : Int => #[encU x]) KeepsWalks (KeysA D0) (fun _ => True) (Maps.size D0) w := fun l J Jx W hW hJ _ hY h0 => by
  have hown' : OwnM W b nn D0 := by
    have hbl := hown.lt
    obtain ⟨es, clock, hb, Ft, hs, hD⟩ := hown
    exact ⟨es, clock, (hW.block b hbl).trans hb, Ft, hs, hD⟩
  exact keys1_in F n h10 hro hn l Bm b nn D0 J Jx hY W hJ ((hW.cell (p := ⟨Bm, 0, none⟩) hBm).trans hm) hown' h0

set_option maxHeartbeats 1000000 in
theorem keys_in (m : Nat) (w : World) :
    Calls Tryz.prog 100 #[.map (some m)] w fun e w' => e = .returned (.func (.func 104) #[] #[.pointer (some ⟨w.heap.size, 0, none⟩)]) ∧ w' = w.alloc (.cells #[.map (some m)] 142) := by
  go_enter Tryz.func100, Tryz.ntmps100
  go_wp2
  go_ret
  exact ⟨rfl, rfl⟩

theorem Tryz.infoU32 : (Tryz.prog.info? 31).map (fun i => (i.zero, i.size, i.bytes)) = some (some (.int .u32 0), 1, 4) := by kernel_rfl
/-- The loop's own two blocks are no cells, and no walk. -/
theorem kw_put (w : World) (W : World) (l : Nat) (o o' : Obj) (_ : w.heap.size ≤ l) (hl : W.heap[l]? = some o) (_ : o.isCells = false) (hw : o.isWalk = false) : KeepsWalks W (W.putObj l o') := KeepsWalks.putObj o' hl hw

set_option maxHeartbeats 4000000 in
theorem appendSeq_ok (Bm b nn : Nat) (D0 : DataW Nat) (w : World) (hBm : Bm < w.heap.size) (hm : w.cell? ⟨Bm, 0, none⟩ = some (.map (some b))) (hown : OwnM w b nn D0) (hnn : nn ≤ 4294967296) :
    Calls Tryz.prog 105 #[.slice none 0 0, .func (.func 104) #[] #[.pointer (some ⟨Bm, 0, none⟩)]] w fun e w' =>
      (∃ v ss, e = .returned v ∧ KeysA D0 ss ∧ w'.ownsRow w.heap.size 31 1 v ss.length (ss.map encU)) ∧ Below w.heap.size w w' := by
  refine (callsIn_wide (n := 5)).1 ?_
  refine callsIn_of_wp_marks Tryz.func105 rfl trivial ?_ rfl
  simp only [Tryz.ntmps105, List.size_toArray, List.length_cons, List.length_nil, Nat.reduceAdd, Nat.reduceSub, Array.replicate_succ, Array.replicate_zero, List.push_toArray, List.append_toArray, List.nil_append, List.cons_append]
  gi_wp2_with fail
  have hown1 := hown.alloc (.cells #[.slice none 0 0] 156)
  have hm1 : (w.alloc (.cells #[.slice none 0 0] 156)).cell? ⟨Bm, 0, none⟩ = some (.map (some b)) := (World.cell?_alloc_lt _ _ _ (by exact hBm)).trans hm
  have hsz : (w.alloc (.cells #[.slice none 0 0] 156)).heap.size = w.heap.size + 1 := by simp
  have hbx := Boxed.new w 156 (.slice none 0 0)
  have hbl : Below w.heap.size w (w.alloc (.cells #[.slice none 0 0] 156)) := (Below.refl _ w).alloc (Nat.le_refl _) _
  have hsD : Maps.size D0 ≤ nn := by
    obtain ⟨es, clk, -, -, hs, rfl⟩ := hown
    rw [Maps.size_eq, length_sorted]
    simpa using hs
  have HS := Lib.hid hsD
  have KS := keys_stops Fence.wide 4 trivial rfl (by omega) Bm b nn D0 _ (by rw [hsz]; omega) hm1 hown1
  generalize w.alloc (.cells #[.slice none 0 0] 156) = W1 at *
  have HB := Lib.hid hbl
  have HX := Lib.hid hbx
  clear hown hown1 hm hm1 hsD hbl hbx
  obtain ⟨i0, hi, hz0, hz1, hz2⟩ := info_parts Tryz.infoU32
  refine wpIn_rangeFunc_ownG (hro := rfl) (h1 := by omega) (gf := 104) (lb := #[.pointer (some ⟨Bm, 0, none⟩)]) rfl trivial (enters_of Tryz.func104 (by kernel_rfl) rfl)
    KS (fun h1 h2 => h1.trans h2) (fun W l o o' => kw_put W1 W l o o') (Below.refl _ _) (fun _ => rfl)
    (fun ss W' => ∃ v, Boxed W' w.heap.size 156 v ∧ W'.ownsRow w.heap.size 31 1 v ss.length (ss.map encU) ∧ Below w.heap.size w W')
    (fun _ _ _ => False) ?hI (fun c s X Y row h => h.elim) ⟨_, HX.out, World.ownsRow_nil _ _ _ _, HB.out⟩
    ?a1 ?assign ?body ?done ?stop
  case assign =>
    intro l x W K hK
    gi_wp2
    exact hK
  case hI =>
    rintro ss X Y row ⟨v, hb, hr, hbe⟩ hg hrow
    obtain ⟨v', h1, h2, -⟩ := holdsRow_own w.heap.size w.heap.size 156 31 1 List.length (fun s : List Int => s.map encU) (fun _ _ => True) ss X Y row ⟨v, hb, hr, trivial⟩ hg (fun r e => (hrow r e).2)
    exact ⟨v', h1, h2, hbe.grown hg hbe.size fun k e => by have := (hrow k e).1; omega⟩
  case body =>
    rintro l pre x X ⟨v, hb, hr, hbe⟩ hlt
    have hc0 := hb.cell
    have hnew : ∀ j u, ([.int .u32 x] : List Value)[j]? = some u → (X.alloc (.cells #[.int .u32 x] 31)).cell? ((⟨X.heap.size, 0, none⟩ : Addr).add j) = some u := fun j u hj => by
      rw [add_lit, cell_of_row _ _ j _ _ _ (heap_alloc_new X _)]
      simpa using hj
    have HN := Lib.hid hnew
    have HBX := Lib.hid hb
    have HR := Lib.hid hr
    have HBE := Lib.hid hbe
    have hXs : w.heap.size ≤ X.heap.size := hbe.size
    have hn4 : pre.length + 1 ≤ 4294967296 := by have := HS.out; omega
    clear hnew hb hr hbe
    gi_wp2_with (gi_at_builtin; refine wpListIn_append_own _ rfl _ _ 156 rfl w.heap.size 31 i0 (.int .u32 0) 1 4 Tryz.underlying156 hi hz0 hz1 hz2 rfl (by decide) _ _ _ rfl (HR.out.alloc _) ⟨X.heap.size, 0, none⟩ 1 1 [.int .u32 x] rfl rfl HN.out (by simp [Value.oneCell']) (by simp only [maxLen]; omega) (by omega) (by simp; omega) ?_; intro v' w3 hown' hgrow _; obtain ⟨g4, cap4, rfl⟩ := ownsRow_succ hown'; obtain ⟨a1, a2, a3, a4, a5⟩ := HBX.out.appended (by decide) HR.out hXs (Nat.le_refl _) hown' hgrow; have hc1 := a1.cell; have hf1 := a1.frozen; have HZ := Lib.hid (And.intro a2 (And.intro a3 (And.intro a4 a5))); clear a1 a2 a3 a4 a5 hown' hgrow)
    obtain ⟨z2, z3, z4, z5⟩ := HZ.out
    refine ⟨z4.from _, z4.walks, _, z2, ?_, ((Touch.of_below (F := Emp) HBE.out).trans (G := fun k => w.heap.size ≤ k) ⟨z5.os, z5.tape, z5.output, z5.size, fun k hk hn => z5.block k (by omega)⟩ (fun j hj hlt2 => by omega)).below⟩
    rw [List.length_append, List.map_append]
    exact z3
  case done =>
    rintro D ss X hD hS ⟨v, hb, hr, hbe⟩ hK
    have hc0 := hb.cell
    have HBX := Lib.hid hb
    have HR := Lib.hid hr
    have HBE := Lib.hid hbe
    have HSS := Lib.hid hS
    have HK := Lib.hid hK
    have hf : v = .slice none 0 0 ∧ ss.length = 0 ∨ ∃ g cap, v = .slice (some ⟨g, 0, none⟩) ss.length cap := hr.2.imp id (fun ⟨g, cap, _, e, _⟩ => ⟨g, cap, e⟩)
    have fin : (∃ v' ss', v = v' ∧ KeysA D0 ss' ∧ (X.putObj D (.deferred none)).ownsRow w.heap.size 31 1 v' ss'.length (ss'.map encU)) ∧ Below w.heap.size w (X.putObj D (.deferred none)) :=
      ⟨⟨v, ss, rfl, hS, ownsRow_putObj hr _ hK rfl⟩, hbe.grown (grownBy_putObj' X D _) hbe.size fun k e => by cases e; omega⟩
    have FIN := Lib.hid fin
    clear hb hr hbe hS hK fin
    rcases hf with ⟨rfl, h0⟩ | ⟨g5, cap5, rfl⟩
    · gi_wp2
      refine ⟨by simp, .inl ⟨_, _, rfl, run_takeDeferred HK.out, ?_⟩⟩
      obtain ⟨⟨v', ss', e, h2⟩, h3⟩ := FIN.out
      refine ⟨.slice none 0 0, by simp [results, Tryz.results105, go_sem], ⟨_, ss', rfl, by rw [e]; exact h2⟩, h3⟩
    · gi_wp2
      refine ⟨by simp, .inl ⟨_, _, rfl, run_takeDeferred HK.out, ?_⟩⟩
      obtain ⟨⟨v', ss', e, h2⟩, h3⟩ := FIN.out
      refine ⟨.slice (some ⟨g5, 0, none⟩) ss.length cap5, by simp [results, Tryz.results105, go_sem], ⟨_, ss', rfl, by rw [e]; exact h2⟩, h3⟩
  case stop =>
    rintro D c pre X hD _ h
    exact h.elim
end Rp
end Go.Proofs.YthapggobpfcmjaaGreat

set_option maxRecDepth 100000
namespace Go.Proofs.YthapggobpfcmjaaGreat
namespace Rp
open Go.RowKit Go.Maps Go.Shelf

attribute [local go_sem] Oper.semAt_some

/-- Sort sorts so many numbers. -/
def SortsU (N : Nat) : Prop := ∀ (ss : List Int) (base : Nat) (v : Value) (w : World), ss.length ≤ N → (∀ x ∈ ss, 0 ≤ x ∧ x < 4294967296) → w.ownsRow base 31 1 v ss.length (ss.map encU) →
  Calls Tryz.prog 103 #[v] w fun e w' => (∃ x, e = .returned x) ∧ ∃ ts : List Int, ts.Perm ss ∧ ts.Pairwise (· ≤ ·) ∧ w'.ownsRow base 31 1 v ts.length (ts.map encU) ∧ Touch (fun k => v.ownBlock = some k) w w'

set_option maxHeartbeats 1000000 in
theorem len_few (n : Nat) (hn : n ≤ 1) (w : World) : Calls Tryz.prog 107 #[.int .u64 (n : Int)] w fun e w' => (∃ r, e = .returned (.int .i64 r)) ∧ w = w' := by
  have h : ∀ w, Calls Tryz.prog 118 #[.int .u64 (n : Int)] w fun e w' => (∃ r, e = .returned (.int .i64 r)) ∧ w = w' := fun w => by
    obtain rfl | rfl : n = 0 ∨ n = 1 := by omega
    · go_enter Tryz.func118, Tryz.ntmps118
      go_wp2
      go_ret
      exact ⟨⟨_, rfl⟩, rfl⟩
    · go_enter Tryz.func118, Tryz.ntmps118
      go_wp2
      go_ret
      exact ⟨⟨_, rfl⟩, rfl⟩
  have H := Lib.hid (h w)
  clear h
  have hn1 : (n : Int) ≤ 1 := by omega
  go_enter Tryz.func107, Tryz.ntmps107
  go_wp2_with fail
  refine H.out.mono ?_
  rintro e w' ⟨⟨r, rfl⟩, rfl⟩
  go_wp2
  go_ret
  exact ⟨⟨_, rfl⟩, rfl⟩

set_option maxHeartbeats 1000000 in
theorem insert_few (a : Option Addr) (n cap : Nat) (hn : n ≤ 1) (w : World) : Calls Tryz.prog 108 #[.slice a n cap, .int .i64 0, .int .i64 (n : Int)] w fun e w' => (∃ x, e = .returned x) ∧ w = w' := by
  have hn1 : ¬ (1 : Int) < (n : Int) := by omega
  go_enter Tryz.func108, Tryz.ntmps108
  go_wp2
  go_loopw [6] (fun i wr => i = .int .i64 1 ∧ w = wr) (fun _ _ => 0)
  case atStart => exact ⟨rfl, rfl⟩
  case round =>
    obtain ⟨rfl, rfl⟩ := hrel
    go_wp2
    go_end0
    exact ⟨⟨_, rfl⟩, rfl⟩

set_option maxHeartbeats 2000000 in
theorem pdq_few (a : Option Addr) (n cap : Nat) (hn : n ≤ 1) (lim : Int) (w : World) : Calls Tryz.prog 106 #[.slice a n cap, .int .i64 0, .int .i64 (n : Int), .int .i64 lim] w fun e w' => (∃ x, e = .returned x) ∧ w = w' := by
  have H := Lib.hid (insert_few a n cap hn w)
  have hn1 : (n : Int) ≤ 12 := by omega
  go_enter Tryz.func106, Tryz.ntmps106
  go_wp2
  go_loopw [1, 2, 3, 8, 9] (fun i j k p q wr => i = .int .i64 0 ∧ j = .int .i64 (n : Int) ∧ w = wr) (fun _ _ _ _ _ _ => 0)
  case atStart => exact ⟨rfl, rfl, rfl⟩
  case round =>
    obtain ⟨rfl, rfl, rfl⟩ := hrel
    go_wp2_with fail
    refine H.out.mono ?_
    rintro e w' ⟨⟨x, rfl⟩, rfl⟩
    go_wp2
    refine bodyPost_ret (results_none rfl _ _ _) rfl ?_
    exact ⟨⟨_, rfl⟩, rfl⟩

theorem pair_few : ∀ ss : List Int, ss.length ≤ 1 → ss.Pairwise (· ≤ ·)
  | [], _ => List.Pairwise.nil
  | [x], _ => List.pairwise_singleton _ _
  | _ :: _ :: _, h => by simp at h
set_option maxHeartbeats 1000000 in
theorem sorts_few : SortsU 1 := by
  intro ss base v w hl hx hr
  have hform : ∃ a cap, v = .slice a ss.length cap := by
    rcases hr.2 with ⟨rfl, h0⟩ | ⟨g, cap, cur, rfl, -⟩
    · exact ⟨none, 0, by rw [h0]⟩
    · exact ⟨_, cap, rfl⟩
  obtain ⟨a, cap, rfl⟩ := hform
  have H1 := Lib.hid (len_few ss.length hl w)
  have H2 := Lib.hid (fun r => pdq_few a ss.length cap hl r w)
  have HR := Lib.hid hr
  have hp := pair_few ss hl
  have HP := Lib.hid hp
  have hl1 : (ss.length : Int) ≤ 1 := by omega
  clear hr hx hp
  go_enter Tryz.func103, Tryz.ntmps103
  go_wp2_with fail
  refine H1.out.mono ?_
  rintro e w' ⟨⟨r, rfl⟩, rfl⟩
  go_wp2_with fail
  refine (H2.out r).mono ?_
  rintro e w' ⟨⟨x, rfl⟩, rfl⟩
  go_wp2
  go_end0
  exact ⟨⟨_, rfl⟩, ss, List.Perm.refl _, HP.out, HR.out, Touch.refl _ _⟩
end Rp
end Go.Proofs.YthapggobpfcmjaaGreat

set_option maxRecDepth 100000
namespace Go.Proofs.YthapggobpfcmjaaGreat
namespace Rp
open Go.RowKit Go.Maps Go.Shelf

attribute [local go_sem] Oper.semAt_some

/-- Which keys a map has. -/
theorem has_keys {w : World} {b n : Nat} {D : DataW Nat} {es : Array MapEntry} {clk : Nat} {m : UM} (hown : OwnM w b n D) (hb : w.heap[b]? = some (.map es clk)) (hs : UMap es m) (x : Int) : has D (.int .u32 x) = true ↔ ∃ k : Nat, k ∈ m.map (·.1) ∧ x = (k : Int) := by
  obtain ⟨es', clk', hb', F, -, rfl⟩ := hown
  rw [hb] at hb'
  obtain ⟨rfl, rfl⟩ : es = es' ∧ clk = clk' := by simpa using hb'
  have hkey : ∀ e ∈ es.toList, ∃ k : Nat, k ∈ m.map (·.1) ∧ e.key = .int .u32 (k : Int) := fun e he => by
    have : (e.key, e.val) ∈ m.map kvU := by rw [← show es.toList.map (fun e => (e.key, e.val)) = m.map kvU from hs]; exact List.mem_map.2 ⟨e, he, rfl⟩
    obtain ⟨p, hp, e1⟩ := List.mem_map.1 this
    simp only [kvU, Prod.mk.injEq] at e1
    exact ⟨p.1, List.mem_map.2 ⟨p, hp, rfl⟩, e1.1.symm⟩
  have hrg : ∀ e ∈ es.toList, ∀ k : Nat, e.key = .int .u32 (k : Int) → (WideElems.rg Tryz.prog 31 RN e).1 = .int .u32 (k : Int) := fun e he k hk => by
    obtain ⟨y, hy⟩ := F.reads e he
    have h1 := WideElems.rd_key hy
    obtain ⟨x', e1, e2⟩ := keyOf_inv h1
    rw [hk] at e1
    have : (k : Int) = x' := by simpa using e1
    rw [WideElems.rg_of hy, e2, this]
  rw [has_eq, List.any_eq_true]
  constructor
  · rintro ⟨p, hp, hsk⟩
    obtain ⟨e, he, rfl⟩ := List.mem_map.1 (mem_sorted.1 hp)
    obtain ⟨k, hk, hke⟩ := hkey e he
    rw [hrg e he k hke] at hsk
    exact ⟨k, hk, by simp [Lit.sameKey] at hsk; omega⟩
  · rintro ⟨k, hk, rfl⟩
    obtain ⟨p, hp, rfl⟩ := List.mem_map.1 hk
    have : kvU p ∈ es.toList.map (fun e => (e.key, e.val)) := by rw [show es.toList.map (fun e => (e.key, e.val)) = m.map kvU from hs]; exact List.mem_map.2 ⟨p, hp, rfl⟩
    obtain ⟨e, he, e1⟩ := List.mem_map.1 this
    simp only [kvU, Prod.mk.injEq] at e1
    refine ⟨_, mem_sorted.2 (List.mem_map.2 ⟨e, he, rfl⟩), ?_⟩
    rw [hrg e he p.1 e1.1]
    simp [Lit.sameKey]

theorem collect_ok (Bm b nn : Nat) (D0 : DataW Nat) (w : World) (hBm : Bm < w.heap.size) (hm : w.cell? ⟨Bm, 0, none⟩ = some (.map (some b))) (hown : OwnM w b nn D0) (hnn : nn ≤ 4294967296) :
    Calls Tryz.prog 102 #[.func (.func 104) #[] #[.pointer (some ⟨Bm, 0, none⟩)]] w fun e w' =>
      (∃ v ss, e = .returned v ∧ KeysA D0 ss ∧ w'.ownsRow w.heap.size 31 1 v ss.length (ss.map encU)) ∧ Below w.heap.size w w' := by
  have H := Lib.hid (appendSeq_ok Bm b nn D0 w hBm hm hown hnn)
  clear hm hown
  go_enter Tryz.func102, Tryz.ntmps102
  go_wp2_with fail
  refine H.out.mono ?_
  rintro e w' ⟨⟨v, ss, rfl, h1, h2⟩, h3⟩
  have HH := Lib.hid (And.intro h1 (And.intro h2 h3))
  clear h1 h2 h3
  go_wp2
  go_ret
  exact ⟨⟨_, ss, rfl, HH.out.1, HH.out.2.1⟩, HH.out.2.2⟩

theorem sorted_ok {N : Nat} (hS : SortsU N) (Bm b nn : Nat) (D0 : DataW Nat) (w : World) (hBm : Bm < w.heap.size) (hm : w.cell? ⟨Bm, 0, none⟩ = some (.map (some b))) (hown : OwnM w b nn D0) (hnn : nn ≤ 4294967296)
    (hlen : ∀ ss, KeysA D0 ss → ss.length ≤ N) (hx : ∀ x, has D0 (.int .u32 x) = true → 0 ≤ x ∧ x < 4294967296) :
    Calls Tryz.prog 99 #[.func (.func 104) #[] #[.pointer (some ⟨Bm, 0, none⟩)]] w fun e w' =>
      (∃ v ts, e = .returned v ∧ KeysA D0 ts ∧ ts.Pairwise (· ≤ ·) ∧ w'.ownsRow w.heap.size 31 1 v ts.length (ts.map encU)) ∧ Below w.heap.size w w' := by
  have H := Lib.hid (collect_ok Bm b nn D0 w hBm hm hown hnn)
  have HS := Lib.hid hS
  have HL := Lib.hid hlen
  have HX := Lib.hid hx
  clear hm hown hlen hx hS
  go_enter Tryz.func99, Tryz.ntmps99
  go_wp2_with fail
  refine H.out.mono ?_
  rintro e w1 ⟨⟨v, ss, rfl, h1, h2⟩, h3⟩
  have SO := Lib.hid (HS.out ss w.heap.size v w1 (HL.out ss h1) (fun x hx => HX.out x ((h1.2 x).1 hx)) h2)
  have HH := Lib.hid (And.intro h1 (And.intro h2 h3))
  clear h1 h2 h3
  go_wp2_with fail
  refine SO.out.mono ?_
  rintro e w2 ⟨⟨x, rfl⟩, ts, p1, p2, p3, p4⟩
  have HT := Lib.hid (And.intro p1 (And.intro p2 (And.intro p3 p4)))
  clear p1 p2 p3 p4
  go_wp2
  go_ret
  obtain ⟨p1, p2, p3, p4⟩ := HT.out
  obtain ⟨h1, h2, h3⟩ := HH.out
  refine ⟨⟨_, ts, rfl, ⟨p1.symm.nodup h1.1, fun x => by rw [p1.mem_iff]; exact h1.2 x⟩, p2, p3⟩, ((Touch.of_below (F := Emp) h3).trans p4 fun j hj hlt => ?_).below⟩
  have := (h2.lt j hj).1
  omega

/-- What a slice of numbers owns reads as these. -/
theorem nv_own {base : Nat} {w : World} {v : Value} {ts : List Int} (h : w.ownsRow base 31 1 v ts.length (ts.map encU)) : ∃ g, NV .u32 w v ts g ∧ (ts ≠ [] → base ≤ g) := by
  rcases h.2 with ⟨rfl, h0⟩ | ⟨g, cap, cur, rfl, hb, hg, hc, -, -, htk⟩
  · obtain rfl : ts = [] := List.eq_nil_of_length_eq_zero h0
    exact ⟨0, ⟨⟨none, 0, rfl, Nat.le_refl _, fun _ => rfl, fun h => absurd rfl h⟩, fun h => absurd rfl h⟩, fun h => absurd rfl h⟩
  · refine ⟨g, ⟨⟨_, cap, rfl, hc, (fun e => by cases e), fun _ => ⟨0, rfl, fun i hi => ?_⟩⟩, fun _ => lt_of_heap hg⟩, fun _ => hb⟩
    have := h.cells (g := g) rfl i (encU ts[i]) (by rw [List.getElem?_map, List.getElem?_eq_getElem hi]; rfl)
    rw [add_lit] at this
    simpa using this

set_option maxHeartbeats 1000000 in
theorem bwd_in (a : Option Addr) (n cap : Nat) (w : World) :
    Calls Tryz.prog 98 #[.slice a n cap] w fun e w' => e = .returned (.func (.func 101) #[] #[.pointer (some ⟨w.heap.size, 0, none⟩)]) ∧ w' = w.alloc (.cells #[.slice a n cap] 156) := by
  go_enter Tryz.func98, Tryz.ntmps98
  go_wp2
  go_ret
  exact ⟨rfl, rfl⟩

set_option maxHeartbeats 2000000 in
theorem bwd1_on (d : Nat) (hd : 1 ≤ d) (G : Nat → Prop) (Bs g cap : Nat) (a : Option Addr) (ts : List Int) (w0 : World) (hlen : ts.length ≤ 4294967296) (hB : Boxed w0 Bs 156 (.slice a ts.length cap)) (hN : NV .u32 w0 (.slice a ts.length cap) ts g) (hG : ¬ G Bs ∧ (ts ≠ [] → ¬ G g)) :
    SeqOn Fence.wide d Tryz.prog 101 #[.pointer (some ⟨Bs, 0, none⟩)]
      (fun k : Nat => #[.int .i64 ((ts.length : Int) - 1 - k), .int .u32 (ts.getD (ts.length - 1 - k) 0)]) (List.range ts.length) (Touch G) w0 := by
  intro l J W hW _ hJo hY h0
  have hB1 : Boxed W Bs 156 (.slice a ts.length cap) := (Touch.of_below (F := Emp) hW).at hB id
  have hN1 : NV .u32 W (.slice a ts.length cap) ts g := hN.touch (Touch.of_below (F := Emp) hW) fun _ => id
  have hrl : (List.range ts.length).length = ts.length := by simp
  rw [hrl]
  rw [show (#[.func (.yield l) #[] #[]] ++ #[.pointer (some ⟨Bs, 0, none⟩)] : Array Value) = #[.func (.yield l) #[] #[], .pointer (some ⟨Bs, 0, none⟩)] from rfl]
  have hc0 := hB1.cell
  refine callsIn_of_wp Tryz.func101 rfl trivial ?_ rfl
  simp only [Tryz.ntmps101, List.size_toArray, List.length_cons, List.length_nil, Nat.reduceAdd, Nat.reduceSub, Array.replicate_succ, Array.replicate_zero, List.push_toArray, List.append_toArray, List.nil_append, List.cons_append]
  have HB := Lib.hid hB1
  have HN := Lib.hid hN1
  have HY := Lib.hid hY
  have H0 := Lib.hid h0
  have HG := Lib.hid hG
  have HL := Lib.hid hrl
  clear hB hN hB1 hN1 hY h0 hG hJo hW hrl
  gi_wp2
  gi_loopw [3] (fun i wr => ∃ k : Nat, k ≤ ts.length ∧ i = .int .i64 ((ts.length : Int) - 1 - k) ∧ J k wr ∧ Boxed wr Bs 156 (.slice a ts.length cap) ∧ NV .u32 wr (.slice a ts.length cap) ts g)
    (fun i _ => (intOf i + 1).toNat)
  case atStart => exact ⟨0, Nat.zero_le _, by simp, H0.out, HB.out, HN.out⟩
  case round =>
    obtain ⟨k, hk, rfl, hJ, hB, hN⟩ := hrel
    by_cases hlt : k < ts.length
    · obtain ⟨a', cap', e1, -, -, hcs⟩ := hN.form
      obtain ⟨rfl, rfl⟩ : a = a' ∧ cap = cap' := by simpa using e1
      obtain ⟨off, rfl, hcc⟩ := hcs (by intro e; subst e; simp at hlt)
      obtain ⟨m, hm⟩ : ∃ m : Nat, ts.length - 1 - k = m := ⟨_, rfl⟩
      have hmi : (ts.length : Int) - 1 - (k : Int) = (m : Int) := by omega
      have hml : m < ts.length := by omega
      have hcx := hcc m hml
      have hbc := hB.cell
      have hm0 : (0 : Int) ≤ (m : Int) := Int.natCast_nonneg _
      have hm1 : (m : Int) < (ts.length : Int) := by omega
      have hyk := HY.out k (by rw [HL.out]; exact hlt) wr hJ
      rw [List.getElem_range, hm, hmi, show ts.getD m 0 = ts[m] from by simp [List.getD, List.getElem?_eq_getElem hml]] at hyk
      rw [hmi]
      obtain ⟨fn, tmps, assign, body, hy, hRd⟩ := hyk
      generalize ts[m] = x at hcx hy
      have RD := Lib.hid hRd
      have HB2 := Lib.hid hB
      have HN2 := Lib.hid hN
      have HM := Lib.hid (And.intro hm hmi)
      clear hB hN hJ H0 hRd hcs hcc e1 hm hmi HY
      gi_wp2
      refine RD.out.mono ?_
      rintro e W3 ⟨rfl, hJ3, hk3⟩
      have J3 := Lib.hid hJ3
      have HB3 := Lib.hid (show Boxed W3 Bs _ _ from hk3.at HB2.out HG.out.1)
      have HN3 := Lib.hid (HN2.out.touch hk3 HG.out.2)
      clear hJ3 hk3
      gi_wp2
      go_roundw
      case rel => exact ⟨k + 1, by omega, by have := HM.out.2; rw [show (ts.length : Int) - 1 - ((k + 1 : Nat) : Int) = (m : Int) - 1 by omega], J3.out, HB3.out, HN3.out⟩
      case measure => simp [intOf]
    · obtain rfl : k = ts.length := by omega
      have J3 := Lib.hid hJ
      have hng : ¬ ((ts.length : Int) - 1 - (ts.length : Int)) ≥ 0 := by omega
      clear hJ hB hN H0 HY
      gi_wp2
      go_end0
      exact ⟨⟨_, rfl⟩, J3.out⟩
end Rp
end Go.Proofs.YthapggobpfcmjaaGreat

set_option maxRecDepth 100000
namespace Go.Proofs.YthapggobpfcmjaaGreat
namespace Rp
open Go.RowKit

set_option maxHeartbeats 400000 in
theorem far_c (R g n : Nat) (a b : Int) (w : World) (hc : w.cell? ⟨R, 0, none⟩ = some (.slice (some ⟨g, 0, none⟩) n n)) (hn : 1 ≤ n) (hm : n ≤ 1048576) :
    Calls Tryz.prog 92 #[.pointer (some ⟨R, 0, none⟩), .int .i64 a, .int .i64 b] w fun e w' => e = .returned (.int .i64 ((b - a) % n)) ∧ w = w' := by
  have P1 := Lib.hid (Rg.place_c R g n b w hc hn hm)
  have P2 := Lib.hid (Rg.place_c R g n a w hc hn hm)
  have P3 := Lib.hid (Rg.place_c R g n (b % n - a % n) w hc hn hm)
  have HP := Lib.hid (far_place a b n)
  obtain ⟨a1, a2⟩ := place_bd a n hn
  obtain ⟨b1, b2⟩ := place_bd b n hn
  clear hc
  go_enter Tryz.func92, Tryz.ntmps92
  go_wp2_with fail
  refine P1.out.mono ?_
  rintro e w' ⟨rfl, rfl⟩
  go_wp2_with fail
  refine P2.out.mono ?_
  rintro e w' ⟨rfl, rfl⟩
  go_wp2_with fail
  refine P3.out.mono ?_
  rintro e w' ⟨rfl, rfl⟩
  go_wp2
  go_ret
  exact ⟨rfl, rfl⟩

/-- Behind the tag of the greatest index of a batch, and that index; -1: none. -/
def headF (l : List Fo) (seq P : Nat) : Int × Int := l.foldl (fun p x => if x.1.q = seq ∧ p.2 < x.1.i then (((x.2 : Int) + (x.1.c - x.1.i)) % (P : Int), x.1.i) else p) (0, -1)
theorem head_snoc (l : List Fo) (x : Fo) (seq P : Nat) : headF (l ++ [x]) seq P = if x.1.q = seq ∧ (headF l seq P).2 < x.1.i then (((x.2 : Int) + (x.1.c - x.1.i)) % (P : Int), x.1.i) else headF l seq P := by
  unfold headF; rw [List.foldl_append]; rfl
theorem head_in (l : List Fo) (seq P : Nat) (hP : 1 ≤ P) : 0 ≤ (headF l seq P).1 ∧ (headF l seq P).1 < P := by
  induction l using snoc_ind with
  | nil => exact ⟨Int.le_refl _, by show (0 : Int) < P; omega⟩
  | snoc l x ih =>
    rw [head_snoc]
    split
    · exact place_bd _ P hP
    · exact ih
/-- How many places ahead of a head have these in them. -/
def spanF (A : List Int) (head : Int) (P : Nat) : Int := A.foldl (fun u p => if p = -1 then u else max u ((head - 1 - p) % (P : Int) + 1)) 0
theorem span_snoc (A : List Int) (p head : Int) (P : Nat) : spanF (A ++ [p]) head P = if p = -1 then spanF A head P else max (spanF A head P) ((head - 1 - p) % (P : Int) + 1) := by
  unfold spanF; rw [List.foldl_append]; rfl
theorem span_in (A : List Int) (head : Int) (P : Nat) (hP : 1 ≤ P) : 0 ≤ spanF A head P ∧ spanF A head P ≤ P := by
  induction A using snoc_ind with
  | nil => exact ⟨Int.le_refl _, by show (0 : Int) ≤ P; omega⟩
  | snoc A p ih =>
    rw [span_snoc]
    split
    · exact ih
    · have := place_bd (head - 1 - p) P hP; omega

/-- While behind runs. -/
structure BhI (w : World) (v : Value) (l : List Fo) (g R gr P : Nat) (wr : World) : Prop where
  fv : FV wr v l g
  ring : Rg.RingE wr R gr P
  below : Below w.heap.size w wr
theorem BhI.next {w wr wr' : World} {v : Value} {l : List Fo} {g R gr P : Nat} (h : BhI w v l g R gr P wr) (hb : Below wr.heap.size wr wr') : BhI w v l g R gr P wr' :=
  ⟨h.fv.below hb, h.ring.below hb, ((Touch.of_below (F := Emp) h.below).trans (Touch.of_below (F := Emp) hb) (fun _ h _ => h)).below⟩

set_option maxHeartbeats 4000000 in
theorem behind_ok {w : World} {v : Value} {l : List Fo} {g R gr P : Nat} (h : FV w v l g) (hlen : l.length ≤ 4294967296) (hr : RightL l) (seq : Nat) (hR : Rg.RingE w R gr P) (hP : 1 ≤ P) (hP2 : P ≤ 1048576) :
    Calls Tryz.prog 62 #[v, .int .u64 (seq : Int), .pointer (some ⟨R, 0, none⟩)] w fun e w' => e = .returned (.int .i64 (headF l seq P).1) ∧ Below w.heap.size w w' := by
  have H := Lib.hid h
  have HR := Lib.hid hr
  have HRg := Lib.hid hR
  obtain ⟨a, cap, rfl, hcap, hnil, hne⟩ := h.form
  clear h hne hnil hcap hr hR
  go_enter Tryz.func62, Tryz.ntmps62
  go_wp2
  go_loopw [13, 7, 8] (fun i p q wr => ∃ k : Nat, k ≤ l.length ∧ i = .int .i64 k ∧ p = .int .i64 (headF (l.take k) seq P).1 ∧ q = .int .i64 (headF (l.take k) seq P).2 ∧ BhI w (.slice a l.length cap) l g R gr P wr) (fun i _ _ _ => l.length - (intOf i).toNat)
  case atStart => exact ⟨0, Nat.zero_le _, rfl, rfl, rfl, ⟨H.out, HRg.out, Below.refl _ _⟩⟩
  case round =>
    obtain ⟨k, hk, rfl, rfl, rfl, hI⟩ := hrel
    by_cases hlt : k < l.length
    · obtain ⟨cap', e1, -, w0, w1, w2, w3, w4, w5, w6, w7⟩ := hI.fv.at hlt
      obtain ⟨rfl, rfl⟩ : a = some ⟨g, 0, none⟩ ∧ cap = cap' := by simpa using e1
      have hgs : g < wr.heap.size := World.block_lt_of_cell? wr _ w0
      have hk' : (k : Int) < (l.length : Int) := by omega
      have hin := (Tg.right_iff _).1 (HR.out _ (List.getElem_mem hlt))
      generalize hek : l[k] = ek at w0 w1 w2 w3 w4 w5 w6 w7 hin
      have htk : l.take (k + 1) = l.take k ++ [ek] := by rw [List.take_add_one, List.getElem?_eq_getElem hlt, hek]; rfl
      have hs := head_snoc (l.take k) ek seq P
      rw [← htk] at hs
      have hd1 : ek.1.c - ek.1.i ≤ 72 := by omega
      have hd0 : 0 ≤ ek.1.c - ek.1.i := by omega
      have hcell : (wr.alloc (.cells (foV ek) 122)).cell? ⟨R, 0, none⟩ = some (.slice (some ⟨gr, 0, none⟩) P P) := (hI.ring.below ((Below.refl _ _).alloc (Nat.le_refl _) _)).hcell
      have GO := Lib.hid (fun nn => Rg.go_c R gr P (ek.2 : Int) (ek.1.c - ek.1.i) ((wr.alloc (.cells (foV ek) 122)).drewN nn) hcell hP hP2)
      have NX := Lib.hid (fun nn => hI.next (((Touch.refl Emp wr).alloc (.cells (foV ek) 122)).drewN nn).below)
      generalize headF (l.take k) seq P = hp at hs
      obtain ⟨h1, h2⟩ := hp
      clear e1 htk hin hcell hI
      by_cases hq : ek.1.q = seq
      · have hq1 : ((ek.1.q : Int) == (seq : Int)) = true := by simp [hq]
        by_cases hi : h2 < ek.1.i
        · have hi1 : ek.1.i > h2 := hi
          rw [if_pos ⟨hq, hi⟩] at hs
          have HS := Lib.hid hs
          clear hs hq hi
          unfold foV at *
          go_wp2_with fail
          go_quiet ((go_at_call 57; exact Calls.quiet_of_same ((GO.out _).mono fun e w' (hh : _ ∧ _) => (⟨hh.1, hh.2.symm⟩ : _ ∧ _))))
          go_wp2
          exact ⟨⟨k + 1, by omega, by go_num, by rw [HS.out], by rw [HS.out], NX.out _⟩, by simp [intOf]; omega⟩
        · have hi1 : ¬ ek.1.i > h2 := hi
          rw [if_neg fun hc => hi hc.2] at hs
          have HS := Lib.hid hs
          clear hs hq hi GO
          unfold foV at *
          go_wp2_with fail
          exact ⟨⟨k + 1, by omega, by go_num, by rw [HS.out], by rw [HS.out], NX.out 0⟩, by simp [intOf]; omega⟩
      · have hq1 : ((ek.1.q : Int) == (seq : Int)) = false := by simp; omega
        rw [if_neg fun hc => hq hc.1] at hs
        have HS := Lib.hid hs
        clear hs hq GO
        unfold foV at *
        go_wp2_with fail
        exact ⟨⟨k + 1, by omega, by go_num, by rw [HS.out], by rw [HS.out], NX.out 0⟩, by simp [intOf]; omega⟩
    · obtain rfl : k = l.length := by omega
      have HI := Lib.hid hI
      clear hI hk
      go_wp2
      go_ret
      exact ⟨by rw [List.take_length]; rfl, HI.out.below⟩

theorem max_run (a b : Int) (t : TypeId) : ∃ r : Int, r = max a b ∧ ∀ W : World, (Builtin.max_ #[3, 3] t #[.int .i64 a, .int .i64 b]).run Tryz.prog W = .ok (.int .i64 r) W := by
  refine ⟨max a b, rfl, fun W => ?_⟩
  simp [Builtin.max_, Builtin.max2]
  split <;> omega

set_option maxHeartbeats 4000000 in
theorem span_ok {w : World} {v : Value} {A : List Int} {g R gr P : Nat} (h : NV .i64 w v A g) (hlen : A.length ≤ 4294967296) (hA : ∀ p ∈ A, -1 ≤ p ∧ p < P) (head : Int) (hh : 0 ≤ head ∧ head < P) (hR : Rg.RingE w R gr P) (hP : 1 ≤ P) (hP2 : P ≤ 1048576) :
    Calls Tryz.prog 63 #[v, .int .i64 head, .pointer (some ⟨R, 0, none⟩)] w fun e w' => e = .returned (.int .i64 (spanF A head P)) ∧ w = w' := by
  obtain ⟨a, cap, rfl, hcap, hnil, hne⟩ := h.form
  have HA := Lib.hid hA
  have hcell := hR.hcell
  obtain ⟨hh0, hh1⟩ := hh
  have hh2 : head ≤ 1048576 := by omega
  clear hnil hcap hA hR
  go_enter Tryz.func63, Tryz.ntmps63
  go_wp2
  go_loopw [12, 7] (fun i u wr => ∃ k : Nat, k ≤ A.length ∧ i = .int .i64 k ∧ u = .int .i64 (spanF (A.take k) head P) ∧ w = wr) (fun i _ _ => A.length - (intOf i).toNat)
  case atStart => exact ⟨0, Nat.zero_le _, rfl, rfl, rfl⟩
  case round =>
    obtain ⟨k, hk, rfl, rfl, rfl⟩ := hrel
    by_cases hlt : k < A.length
    · obtain ⟨off, rfl, hc⟩ := hne (by intro e; subst e; simp at hlt)
      have w0 := hc k hlt
      have hk' : (k : Int) < (A.length : Int) := by omega
      have hpa := HA.out _ (List.getElem_mem hlt)
      generalize hek : A[k] = p at w0 hpa
      have htk : A.take (k + 1) = A.take k ++ [p] := by rw [List.take_add_one, List.getElem?_eq_getElem hlt, hek]; rfl
      have hs := span_snoc (A.take k) p head P
      rw [← htk] at hs
      have hsp := span_in (A.take k) head P hP
      generalize spanF (A.take k) head P = u at hs hsp
      have hpb := place_bd (head - 1 - p) P hP
      have FA := Lib.hid (far_c R gr P p (head - 1) w hcell hP hP2)
      obtain ⟨r, hr, hmx⟩ := max_run u ((head - 1 - p) % (P : Int) + 1) 3
      rw [← hr] at hs
      have hfb : (head - 1 - p) % (P : Int) + 1 ≤ 1048576 := by omega
      have hfb0 : 0 ≤ (head - 1 - p) % (P : Int) := by omega
      clear hc hne htk hek hpb hr
      by_cases hn : p = -1
      · rw [if_pos hn] at hs
        have hn1 : (p == -1) = true := by simp [hn]
        have hn2 : (p != -1) = false := by simp [hn]
        have HS := Lib.hid hs
        clear hs hn hpa
        go_wp2_with fail
        exact ⟨⟨k + 1, by omega, by go_num, by rw [HS.out], trivial⟩, by simp [intOf]; omega⟩
      · rw [if_neg hn] at hs
        have hn1 : (p == -1) = false := by simp [hn]
        have hn2 : (p != -1) = true := by simp [hn]
        have HS := Lib.hid hs
        clear hs hn hpa
        go_wp2_with fail
        refine FA.out.mono ?_
        rintro e w' ⟨rfl, rfl⟩
        go_wp2_with fail
        exact ⟨⟨k + 1, by omega, by go_num, by rw [HS.out], trivial⟩, by simp [intOf]; omega⟩
    · obtain rfl : k = A.length := by omega
      clear hk
      go_wp2
      go_ret
      exact ⟨by rw [List.take_length]; rfl, rfl⟩
end Rp
end Go.Proofs.YthapggobpfcmjaaGreat

set_option maxRecDepth 100000
namespace Go.Proofs.YthapggobpfcmjaaGreat
namespace Rp
open Go.RowKit Go.Maps Go.Shelf

/-- While ends goes through the epochs: its boxes, and its two maps. -/
structure EnI (w : World) (p m0 : Nat) (S : UM) (q : UM × Nat) (W : World) : Prop where
  b1 : Boxed W p 142 (.map (some m0))
  b3 : Boxed W (p + 2) 142 (.map (some (p + 1)))
  b4 : Boxed W (p + 3) 32 (.int .u64 (q.2 : Int))
  mu : ∃ es clk, W.heap[p + 1]? = some (.map es clk) ∧ UMap es q.1
  mo : ∃ es clk, W.heap[m0]? = some (.map es clk) ∧ UMap es S
  lt : m0 < p
  base : w.heap.size = p
  below : Below w.heap.size w W
theorem EnI.touch {w W W1 : World} {p m0 : Nat} {S : UM} {q : UM × Nat} {G : Nat → Prop} (h : EnI w p m0 S q W) (ht : Touch G W W1) (hG : ∀ j, G j → p + 4 ≤ j) : EnI w p m0 S q W1 := by
  obtain ⟨es, clk, e1, e2⟩ := h.mu
  obtain ⟨es0, clk0, f1, f2⟩ := h.mo
  have hlt := h.lt
  have n : ∀ j, j < p + 4 → ¬ G j := fun j hj hg => by have := hG j hg; omega
  exact ⟨ht.at h.b1 (n _ (by omega)), ht.at h.b3 (n _ (by omega)), ht.at h.b4 (n _ (by omega)), ⟨es, clk, ht.at e1 (n _ (by omega)), e2⟩, ⟨es0, clk0, ht.at f1 (n _ (by omega)), f2⟩, h.lt, h.base,
    ((Touch.of_below (F := Emp) h.below).trans ht fun j hj hlt => by have := hG j hj; have := h.base; omega).below⟩
theorem EnI.step {w W : World} {p m0 : Nat} {S : UM} {q : UM × Nat} (h : EnI w p m0 S q W) (k r : Nat) (hr : r = min q.2 ((getA S k).getD 0)) {es' : Array MapEntry} {clk' : Nat} (hs : UMap es' (putA q.1 k q.2)) :
    EnI w p m0 S (endStep S q k) ((ChangeMaps.setBlock W (p + 1) (.map es' clk')).setCell ⟨p + 3, 0, none⟩ (.int .u64 (r : Int))) ∧ KeepsFrom (p + 4) W ((ChangeMaps.setBlock W (p + 1) (.map es' clk')).setCell ⟨p + 3, 0, none⟩ (.int .u64 (r : Int))) ∧
      Touch (fun j => j = p + 1 ∨ j = p + 3) W ((ChangeMaps.setBlock W (p + 1) (.map es' clk')).setCell ⟨p + 3, 0, none⟩ (.int .u64 (r : Int))) := by
  obtain ⟨es, clk, e1, e2⟩ := h.mu
  obtain ⟨es0, clk0, f1, f2⟩ := h.mo
  have hlt := h.lt
  have t1 : Touch (fun j => j = p + 1) W (ChangeMaps.setBlock W (p + 1) (.map es' clk')) := (Touch.refl (fun j => j = p + 1) W).setBlock (g := p + 1) (.inl rfl) _
  have t2 : Touch (fun j => j = p + 1 ∨ j = p + 3) W ((ChangeMaps.setBlock W (p + 1) (.map es' clk')).setCell ⟨p + 3, 0, none⟩ (.int .u64 (r : Int))) := (t1.mono fun k _ hk => .inl hk).setCell (a := ⟨p + 3, 0, none⟩) (.inl (.inr rfl)) _
  have c4 : Boxed (ChangeMaps.setBlock W (p + 1) (.map es' clk')) (p + 3) 32 (.int .u64 (q.2 : Int)) := t1.at h.b4 (by omega)
  have cm : (ChangeMaps.setBlock W (p + 1) (.map es' clk')).heap[p + 1]? = some (.map es' clk') := heap_setBlock_same e1
  refine ⟨⟨t2.at h.b1 (by omega), t2.at h.b3 (by omega), ?_, ⟨es', clk', ?_, hs⟩, ⟨es0, clk0, t2.at f1 (by omega), f2⟩, h.lt, h.base, ((Touch.of_below (F := Emp) h.below).trans t2 fun j hj hlt => by have := h.base; omega).below⟩, ⟨t2.size, fun j o hj ho hc => ?_⟩, t2⟩
  · have := c4.set (.int .u64 (r : Int))
    simpa only [endStep, ← hr] using this
  · rw [heap_setCell_other _ _ _ _ (by show p + 1 ≠ p + 3; omega)]; exact cm
  · exact t2.at ho (by omega)
theorem min_u (a b : Nat) (t : TypeId) : ∃ r : Nat, r = min a b ∧ ∀ W : World, (Builtin.min_ #[32, 32] t #[.int .u64 (a : Int), .int .u64 (b : Int)]).run Tryz.prog W = .ok (.int .u64 (r : Int)) W := by
  refine ⟨min a b, rfl, fun W => ?_⟩
  simp [Builtin.min_, Builtin.min2]
  split <;> omega
/-- Numbers as they were told, and as they are. -/
def natsR (ts : List Int) : List Nat := ts.reverse.map Int.toNat
theorem natsR_take {ts : List Int} {k : Nat} (hk : k < ts.length) : (natsR ts).take (k + 1) = (natsR ts).take k ++ [(ts.getD (ts.length - 1 - k) 0).toNat] := by
  have hl : k < (natsR ts).length := by simpa [natsR] using hk
  rw [List.take_succ_eq_append_getElem hl]
  congr 2
  simp only [natsR, List.getElem_map, List.getElem_reverse]
  rw [List.getD, List.getElem?_eq_getElem (by omega)]; rfl

attribute [local go_sem] Oper.semAt_some

set_option maxHeartbeats 4000000 in
theorem ends_ok {N : Nat} (hS : SortsU N) {w : World} {m0 n : Nat} {D : DataW Nat} {es0 : Array MapEntry} {clk0 : Nat} {S : UM} (hm : w.heap[m0]? = some (.map es0 clk0)) (hs : UMap es0 S) (hown : OwnM w m0 n D) (hn : n ≤ 4294967296)
    (hnd : (S.map (·.1)).Nodup) (hlen : S.length ≤ N) (hlenS : S.length ≤ 4294967296) (hk : ∀ p ∈ S, p.1 < 4294967296) :
    Calls Tryz.prog 90 #[.map (some m0)] w fun e w' => (∃ ks : List Nat, e = .returned (.map (some (w.heap.size + 1))) ∧ ks.Pairwise (· > ·) ∧ (∀ x, x ∈ ks ↔ x ∈ S.map (·.1)) ∧
      ∃ es clk, w'.heap[w.heap.size + 1]? = some (.map es clk) ∧ UMap es (endsA S ks).1) ∧ Below w.heap.size w w' := by
  have hml := lt_of_heap hm
  have HKY := Lib.hid (has_keys hown hm hs)
  refine (callsIn_wide (n := 8)).1 ?_
  refine callsIn_of_wp_marks Tryz.func90 rfl trivial ?_ rfl
  simp only [Tryz.ntmps90, List.size_toArray, List.length_cons, List.length_nil, Nat.reduceAdd, Nat.reduceSub, Array.replicate_succ, Array.replicate_zero, List.push_toArray, List.append_toArray, List.nil_append, List.cons_append]
  have hmm := @run_makeMap Tryz.prog
  gi_wp2_with fail
  have hp1 : (w.alloc (.cells #[.map (some m0)] 142)).heap.size = w.heap.size + 1 := by simp
  have hp2 : ((w.alloc (.cells #[.map (some m0)] 142)).alloc (.map #[] 0)).heap.size = w.heap.size + 2 := by simp
  have hp3 : (((w.alloc (.cells #[.map (some m0)] 142)).alloc (.map #[] 0)).alloc (.cells #[.map (some (w.heap.size + 1))] 142)).heap.size = w.heap.size + 3 := by simp
  have b1 := (((Boxed.new w 142 (.map (some m0))).alloc (.map #[] 0)).alloc (.cells #[.map (some (w.heap.size + 1))] 142)).alloc (.cells #[.int .u64 281474976710656] 32)
  have b3 := (Boxed.new ((w.alloc (.cells #[.map (some m0)] 142)).alloc (.map #[] 0)) 142 (.map (some (w.heap.size + 1)))).alloc (.cells #[.int .u64 281474976710656] 32)
  have b4 := Boxed.new (((w.alloc (.cells #[.map (some m0)] 142)).alloc (.map #[] 0)).alloc (.cells #[.map (some (w.heap.size + 1))] 142)) 32 (.int .u64 281474976710656)
  have bm : ((((w.alloc (.cells #[.map (some m0)] 142)).alloc (.map #[] 0)).alloc (.cells #[.map (some (w.heap.size + 1))] 142)).alloc (.cells #[.int .u64 281474976710656] 32)).heap[w.heap.size + 1]? = some (.map #[] 0) := by
    rw [Below.heap_alloc _ _ _ (by rw [hp3]; omega), Below.heap_alloc _ _ _ (by rw [hp2]; omega), ← hp1]
    exact heap_alloc_new _ _
  have bb : Below w.heap.size w ((((w.alloc (.cells #[.map (some m0)] 142)).alloc (.map #[] 0)).alloc (.cells #[.map (some (w.heap.size + 1))] 142)).alloc (.cells #[.int .u64 281474976710656] 32)) :=
    ((((Below.refl _ w).alloc (Nat.le_refl _) _).alloc (by simp) _).alloc (by simp; omega) _).alloc (by simp; omega) _
  have bo := (((hown.alloc (.cells #[.map (some m0)] 142)).alloc (.map #[] 0)).alloc (.cells #[.map (some (w.heap.size + 1))] 142)).alloc (.cells #[.int .u64 281474976710656] 32)
  have bs : ((((w.alloc (.cells #[.map (some m0)] 142)).alloc (.map #[] 0)).alloc (.cells #[.map (some (w.heap.size + 1))] 142)).alloc (.cells #[.int .u64 281474976710656] 32)).heap.size = w.heap.size + 4 := by simp
  rw [hp2] at b3
  rw [hp3] at b4
  generalize (((w.alloc (.cells #[.map (some m0)] 142)).alloc (.map #[] 0)).alloc (.cells #[.map (some (w.heap.size + 1))] 142)).alloc (.cells #[.int .u64 281474976710656] 32) = W4 at *
  simp only [show w.heap.size + 1 + 1 = w.heap.size + 2 from rfl, show w.heap.size + 1 + 1 + 1 = w.heap.size + 3 from rfl]
  have I0 : EnI w w.heap.size m0 S ([], top) W4 := ⟨b1, b3, b4, ⟨#[], 0, bm, UMap_nil⟩, ⟨es0, clk0, (bb.block _ hml).trans hm, hs⟩, hml, rfl, bb⟩
  have HI0 := Lib.hid I0
  have HBO := Lib.hid bo
  have HSU := Lib.hid hS
  have BS := Lib.hid bs
  clear bs hp1 hp2 hp3 b1 b3 b4 bm bb I0 bo hm hs hown hS
  refine ⟨trivial, ?_⟩
  gi_at_call 100
  refine (callsIn_wide.2 (keys_in m0 W4)).mono ?_
  rintro e w5 ⟨rfl, rfl⟩
  have s5 : (W4.alloc (.cells #[.map (some m0)] 142)).heap.size = w.heap.size + 5 := by simp [BS.out]
  have I5 := HI0.out.touch ((Touch.refl Emp W4).alloc (.cells #[.map (some m0)] 142)) (fun j h => h.elim)
  have SO := Lib.hid (sorted_ok HSU.out W4.heap.size m0 n D (W4.alloc (.cells #[.map (some m0)] 142)) (by simp) (by simp [World.cell?_alloc_new]) (HBO.out.alloc _) hn
    (fun ss hss => by
      have : (ss.map Int.toNat).length ≤ (S.map (·.1)).length := by
        refine len_sub _ _ ?_ fun x hx => ?_
        · refine List.pairwise_map.2 (hss.1.imp_of_mem fun {a b} ha hb hne e => hne ?_)
          obtain ⟨k1, -, e1⟩ := (HKY.out a).1 ((hss.2 a).1 ha)
          obtain ⟨k2, -, e2⟩ := (HKY.out b).1 ((hss.2 b).1 hb)
          omega
        · obtain ⟨y, hy, rfl⟩ := List.mem_map.1 hx
          obtain ⟨k1, h1, e1⟩ := (HKY.out y).1 ((hss.2 y).1 hy)
          rw [e1]; exact h1
      simp only [List.length_map] at this
      omega)
    (fun x hx => by
      obtain ⟨k1, h1, e1⟩ := (HKY.out x).1 hx
      obtain ⟨q, hq, rfl⟩ := List.mem_map.1 h1
      have := hk q hq
      omega))
  have HI5 := Lib.hid I5
  have S5 := Lib.hid s5
  generalize W4.alloc (.cells #[.map (some m0)] 142) = W5 at *
  clear I5 s5
  gi_wp2_with fail
  refine ⟨trivial, ?_⟩
  gi_at_call 99
  refine (callsIn_wide.2 SO.out).mono ?_
  rintro e w6 ⟨⟨v, ts, rfl, ka, ksort, kown⟩, hb6⟩
  obtain ⟨gt, hnv, hgt⟩ := nv_own kown
  obtain ⟨a, cap, rfl, -, -, -⟩ := hnv.form
  have HI6 := Lib.hid (HI5.out.touch (Touch.of_below (F := Emp) hb6) (fun j h => h.elim))
  have HKA := Lib.hid (And.intro ka ksort)
  have HNV := Lib.hid (hnv.below ((Below.refl _ w6).alloc (Nat.le_refl _) (.cells #[.slice a ts.length cap] 156)))
  have s6 : w.heap.size + 5 ≤ w6.heap.size := by have := hb6.size; have := S5.out; omega
  have hgt5 := hgt
  rw [S5.out] at hgt5
  have hts : ts.length ≤ 4294967296 := by
    have := kown.2
    have h2 := hnv.form
    have h3 : ∀ ss, KeysA D ss → ss.length ≤ S.length := fun ss hss => by
      have : (ss.map Int.toNat).length ≤ (S.map (·.1)).length := by
        refine len_sub _ _ ?_ fun x hx => ?_
        · refine List.pairwise_map.2 (hss.1.imp_of_mem fun {a b} ha hb hne e => hne ?_)
          obtain ⟨k1, -, e1⟩ := (HKY.out a).1 ((hss.2 a).1 ha)
          obtain ⟨k2, -, e2⟩ := (HKY.out b).1 ((hss.2 b).1 hb)
          omega
        · obtain ⟨y, hy, rfl⟩ := List.mem_map.1 hx
          obtain ⟨k1, h1, e1⟩ := (HKY.out y).1 ((hss.2 y).1 hy)
          rw [e1]; exact h1
      simpa using this
    have := h3 ts ka
    have := hlenS
    omega
  clear ka ksort kown hnv hgt hb6 SO
  gi_wp2_with fail
  refine ⟨trivial, ?_⟩
  gi_at_call 98
  refine (callsIn_wide.2 (bwd_in a ts.length cap w6)).mono ?_
  rintro e w7 ⟨rfl, rfl⟩
  have hbx := Boxed.new w6 156 (.slice a ts.length cap)
  have HI7 := Lib.hid (HI6.out.touch ((Touch.refl Emp w6).alloc (.cells #[.slice a ts.length cap] 156)) (fun j h => h.elim))
  have s7 : (w6.alloc (.cells #[.slice a ts.length cap] 156)).heap.size = w6.heap.size + 1 := by simp
  generalize w6.alloc (.cells #[.slice a ts.length cap] 156) = W7 at *
  have BW := Lib.hid (bwd1_on 7 (by omega) (fun j => j = w.heap.size + 1 ∨ j = w.heap.size + 3 ∨ j = W7.heap.size + 1) w6.heap.size gt cap a ts W7 hts hbx HNV.out ⟨by omega, fun hne h => by
    have h1 := hgt5 hne
    have h2 := HNV.out.lt hne
    omega⟩)
  have S7 := Lib.hid s7
  clear hbx s7
  gi_wp2_with fail
  refine wpIn_range_on (hro := rfl) (h1 := by omega) (gf := 101) (lb := #[.pointer (some ⟨w6.heap.size, 0, none⟩)]) rfl trivial (enters_of Tryz.func101 (by kernel_rfl) rfl)
    BW.out (fun h1 h2 => h1.trans h2 fun _ h _ => h) (fun W o => Touch.of_grown (grownBy_putObj' W _ o) (fun k e => by cases e; exact .inr (.inr rfl))) (Below.refl _ _) (fun _ => rfl)
    (fun k W' => EnI w w.heap.size m0 S (endsA S ((natsR ts).take k)) W')
    (fun k X X' row hI hg hr => hI.touch (G := fun j => row = some j) (Touch.of_grown hg fun k e => e) fun j hj => by have := (hr j hj).1; have := S7.out; omega)
    HI7.out ?a1 ?assign ?body ?done
  case assign =>
    intro l x W K hK
    gi_wp2
    exact hK
  case body =>
    rintro l k x X hx hbig hI
    obtain ⟨hkl, rfl⟩ : k < ts.length ∧ k = x := by
      obtain ⟨h1, h2⟩ := List.getElem?_eq_some_iff.1 hx
      simp at h1 h2
      exact ⟨h1, h2⟩
    have htk := natsR_take hkl
    obtain ⟨en, hen⟩ : ∃ en : Nat, ts.getD (ts.length - 1 - k) 0 = (en : Int) := by
      have hm : ts.length - 1 - k < ts.length := by omega
      have hmem : ts.getD (ts.length - 1 - k) 0 ∈ ts := by
        rw [List.getD, List.getElem?_eq_getElem hm]; exact List.getElem_mem _
      obtain ⟨k1, -, e1⟩ := (HKY.out _).1 ((HKA.out.1.2 _).1 hmem)
      exact ⟨k1, e1⟩
    rw [hen, Int.toNat_natCast] at htk
    have c1 := hI.b1.cell
    have c3 := hI.b3.cell
    have c4 := hI.b4.cell
    have f4 := hI.b4.frozen
    obtain ⟨es, clk, e1, e2⟩ := hI.mu
    obtain ⟨es1, clk1, g1, g2⟩ := hI.mo
    obtain ⟨es', clk', hs', hup⟩ := run_update_u (clk := clk) e2 (ends_nodup S ((natsR ts).take k)) en (endsA S ((natsR ts).take k)).2
    have hup2 := hup _ X e1
    have g3 : (ChangeMaps.setBlock X (w.heap.size + 1) (.map es' clk')).heap[m0]? = some (.map es1 clk1) :=
      ((Touch.refl (fun j => j = w.heap.size + 1) X).setBlock (g := w.heap.size + 1) (.inl rfl) _).at g1 (by omega)
    have hlu := run_lookup_u g2 en _ g3
    obtain ⟨r, hr, hmin⟩ := min_u (endsA S ((natsR ts).take k)).2 ((getA S en).getD 0) 32
    have hsp := hI.step (clk' := clk') en r hr hs'
    have cc1 : (ChangeMaps.setBlock X (w.heap.size + 1) (.map es' clk')).cell? ⟨w.heap.size, 0, none⟩ = some (.map (some m0)) := Boxed.cell (((Touch.refl (fun j => j = w.heap.size + 1) X).setBlock (g := w.heap.size + 1) (.inl rfl) _).at hI.b1 (by omega))
    have hb4 : Boxed (ChangeMaps.setBlock X (w.heap.size + 1) (.map es' clk')) (w.heap.size + 3) 32 (.int .u64 ((endsA S ((natsR ts).take k)).2 : Int)) := ((Touch.refl (fun j => j = w.heap.size + 1) X).setBlock (g := w.heap.size + 1) (.inl rfl) _).at hI.b4 (by omega)
    have cc4 := hb4.cell
    have ff4 := hb4.frozen
    have HSP := Lib.hid hsp
    have HTK := Lib.hid htk
    simp only [List.getD_eq_getElem?_getD] at hen ⊢
    try rw [hen]
    clear hI hx e1 e2 g1 g2 hs' hup hr hsp htk hen g3 hb4
    gi_wp2
    refine ⟨⟨HSP.out.2.1.size, fun j o hj ho hc => HSP.out.2.1.same j o (by have := S7.out; omega) ho hc⟩, HSP.out.2.2.mono fun j _ h => h.imp id .inl, ?_⟩
    show EnI w w.heap.size m0 S (endsA S ((natsR ts).take (k + 1))) _
    rw [HTK.out, ends_snoc]
    exact HSP.out.1
  case done =>
    rintro D2 X hD hI hK
    rw [List.length_range, show (natsR ts).take ts.length = natsR ts from List.take_of_length_le (by simp [natsR])] at hI
    have c3 := hI.b3.cell
    have HI := Lib.hid hI
    have HK := Lib.hid hK
    clear hI hK
    gi_wp2
    refine ⟨by simp, .inl ⟨_, _, rfl, run_takeDeferred HK.out, ?_⟩⟩
    have I9 := HI.out.touch (Touch.of_grown (F := fun j => j = D2) (grownBy_putObj' X D2 (.deferred none)) fun j e => by cases e; rfl) fun j hj => by have := S7.out; omega
    refine ⟨.map (some (w.heap.size + 1)), by simp [results, Tryz.results90, go_sem], ⟨natsR ts, rfl, ?_, ?_, I9.mu⟩, I9.below⟩
    · obtain ⟨⟨hnd', hmem⟩, hpw⟩ := HKA.out
      have hpos : ∀ x ∈ ts, 0 ≤ x := fun x hx => by obtain ⟨k1, -, e1⟩ := (HKY.out x).1 ((hmem x).1 hx); omega
      unfold natsR
      rw [List.pairwise_map, List.pairwise_reverse]
      refine (hpw.and hnd').imp_of_mem fun {a b} ha hb hab => ?_
      have := hpos a ha
      have := hpos b hb
      obtain ⟨h1, h2⟩ := hab
      show b.toNat > a.toNat
      omega
    · intro x
      obtain ⟨⟨hnd', hmem⟩, hpw⟩ := HKA.out
      unfold natsR
      rw [List.mem_map]
      constructor
      · rintro ⟨y, hy, rfl⟩
        obtain ⟨k1, h1, e1⟩ := (HKY.out y).1 ((hmem y).1 (List.mem_reverse.1 hy))
        rw [e1]; exact h1
      · intro hx
        exact ⟨(x : Int), List.mem_reverse.2 ((hmem _).2 ((HKY.out _).2 ⟨x, hx, rfl⟩)), by simp⟩
end Rp
end Go.Proofs.YthapggobpfcmjaaGreat

set_option maxRecDepth 100000
namespace Go.Proofs.YthapggobpfcmjaaGreat
namespace Rp
open Go.RowKit

theorem Tryz.infoFo : (Tryz.prog.info? 122).map (fun i => (i.zero, i.size, i.bytes)) = some (some (.agg #[.int .u32 0, .int .u64 0, .int .u64 0, .int .u64 0, .int .i64 0, .int .i64 0, .int .i64 0, .int .i64 0]), 8, 64) := by kernel_rfl
def EpL (l : List Fo) : Prop := ∀ x ∈ l, x.1.e < 4294967296
theorem foC_len (l : List Fo) : (l.flatMap foC).length = l.length * 8 := by
  induction l with
  | nil => rfl
  | cons x l ih => rw [List.flatMap_cons, List.length_append, ih, List.length_cons]; simp [foC]; omega

/-- While fresh runs: what it has taken so far. -/
structure FrI (w : World) (v : Value) (l : List Fo) (g m1 : Nat) (U : UM) (k : Nat) (o : Value) (wr : World) : Prop where
  own : wr.ownsRow w.heap.size 122 8 o ((l.take k).filter fun x => !staleB l x.1).length (((l.take k).filter fun x => !staleB l x.1).flatMap foC)
  map : ∃ es clk, wr.heap[m1]? = some (.map es clk) ∧ UMap es U
  fv : FV wr v l g
  below : Below w.heap.size w wr
theorem own_form {w : World} {base n size : Nat} {e : TypeId} {v : Value} {xs : List Value} (h : w.ownsRow base e size v n xs) : ∃ a cap, v = .slice a n cap := by
  rcases h.2 with ⟨rfl, h0⟩ | ⟨g, cap, cur, rfl, -⟩
  · exact ⟨none, 0, by rw [h0]⟩
  · exact ⟨_, cap, rfl⟩

set_option maxHeartbeats 4000000 in
theorem fresh_ok {N : Nat} (hS : SortsU N) {w : World} {v : Value} {l : List Fo} {g : Nat} (h : FV w v l g) (hlen : l.length ≤ 1048576) (hr : RightL l) (he : EpL l) (hN : (startsA l).length ≤ N) :
    Calls Tryz.prog 59 #[v] w fun e w' => (∃ o, e = .returned o ∧ w'.ownsRow w.heap.size 122 8 o (trueL l).length ((trueL l).flatMap foC)) ∧ Below w.heap.size w w' := by
  have H := Lib.hid h
  have HR := Lib.hid hr
  have HE := Lib.hid he
  have HS := Lib.hid hS
  have HN := Lib.hid hN
  obtain ⟨a, cap, rfl, hcap, hnil, hne⟩ := h.form
  obtain ⟨i0, hi, hz0, hz1, hz2⟩ := info_parts Tryz.infoFo
  have ST := Lib.hid (starts_ok h (by omega) he)
  clear h hne hnil hcap hr he hS hN
  go_enter Tryz.func59, Tryz.ntmps59
  go_wp2_with fail
  refine ST.out.mono ?_
  rintro e w1 ⟨⟨es1, clk1, rfl, hm1, hs1⟩, ⟨n1, D1, hn1, hown1⟩, hb1⟩
  have hkeys : ∀ p ∈ startsA l, p.1 < 4294967296 := fun p hp => by
    obtain ⟨x, hx, hxe⟩ := (starts_mem l p.1).1 (List.mem_map.2 ⟨p, hp, rfl⟩)
    have := HE.out x hx
    omega
  have EN := Lib.hid (ends_ok HS.out hm1 hs1 hown1 (by omega) (starts_nodup l) HN.out (by have := starts_len l; omega) hkeys)
  have HB1 := Lib.hid hb1
  clear hm1 hs1 hown1 hb1 hkeys
  go_wp2_with fail
  refine EN.out.mono ?_
  rintro e w2 ⟨⟨ks, rfl, hd, hks, es2, clk2, hm2, hs2⟩, hb2⟩
  have hbb : Below w.heap.size w w2 := ((Touch.of_below (F := Emp) HB1.out).trans (Touch.of_below (F := Emp) hb2) (fun _ h _ => h)).below
  have hw1 : w.heap.size ≤ w1.heap.size := HB1.out.size
  have I0 : FrI w (.slice a l.length cap) l g (w1.heap.size + 1) (endsA (startsA l) ks).1 0 (.slice none 0 0) w2 :=
    ⟨World.ownsRow_nil _ _ _ _, ⟨es2, clk2, hm2, hs2⟩, H.out.below hbb, hbb⟩
  have HI0 := Lib.hid I0
  have HKS := Lib.hid (And.intro hd hks)
  clear hm2 hs2 hb2 hbb I0 hd hks
  go_wp2
  go_loopw [12, 4] (fun i o wr => ∃ (k : Nat) (o' : Value), k ≤ l.length ∧ i = .int .i64 k ∧ o = o' ∧ FrI w (.slice a l.length cap) l g (w1.heap.size + 1) (endsA (startsA l) ks).1 k o' wr) (fun i _ _ => l.length - (intOf i).toNat)
  case atStart => exact ⟨0, _, Nat.zero_le _, rfl, rfl, HI0.out⟩
  case round =>
    obtain ⟨k, o', hk, rfl, rfl, hI⟩ := hrel
    by_cases hlt : k < l.length
    · obtain ⟨cap', e1, -, c0, c1, c2, c3, c4, c5, c6, c7⟩ := hI.fv.at hlt
      obtain ⟨rfl, rfl⟩ : a = some ⟨g, 0, none⟩ ∧ cap = cap' := by simpa using e1
      obtain ⟨es, clk, hm, hs⟩ := hI.map
      have hgs : g < wr.heap.size := World.block_lt_of_cell? wr _ c0
      have hml := lt_of_heap hm
      have hk' : (k : Int) < (l.length : Int) := by omega
      have hin := (Tg.right_iff _).1 (HR.out _ (List.getElem_mem hlt))
      have hte := true_ends HKS.out.1 (fun e => (HKS.out.2 e).trans (starts_mem l e)) (List.getElem_mem hlt) (by unfold top; omega)
      have hsz := hI.below.size
      generalize hek : l[k] = ek at c0 c1 c2 c3 c4 c5 c6 c7 hte
      have htk : l.take (k + 1) = l.take k ++ [ek] := by rw [List.take_add_one, List.getElem?_eq_getElem hlt, hek]; rfl
      obtain ⟨vv, hv1, hv2⟩ := hte
      have hm2 : (wr.alloc (.cells (foV ek) 122)).heap[w1.heap.size + 1]? = some (.map es clk) := (Below.heap_alloc _ _ _ hml).trans hm
      have hlu := run_lookup_u hs ek.1.e _ hm2
      rw [hv1] at hlu
      simp only [Option.getD_some] at hlu
      have HI := Lib.hid hI
      have HTK := Lib.hid htk
      have hfl : ((l.take (k + 1)).filter fun x => !staleB l x.1) = if staleB l ek.1 = false then ((l.take k).filter fun x => !staleB l x.1) ++ [ek] else (l.take k).filter fun x => !staleB l x.1 := by
        rw [htk, List.filter_append]
        by_cases hst : staleB l ek.1 = false
        · rw [if_pos hst]; simp [hst]
        · rw [if_neg hst]; simp at hst; simp [hst]
      clear hI e1 hm hs hm2 htk hv1
      by_cases hq : ek.1.q < vv
      · have hq1 : (ek.1.q : Int) < (vv : Int) := by omega
        rw [if_pos (hv2.1 hq)] at hfl
        have HFL := Lib.hid hfl
        obtain ⟨oa, oc, hof⟩ := own_form HI.out.own
        have hle : ((l.take k).filter fun x => !staleB l x.1).length ≤ 1048576 := by
          have h1 := List.length_filter_le (fun x => !staleB l x.1) (l.take k)
          rw [List.length_take] at h1
          omega
        have HOF := Lib.hid hof
        have hmx : ((l.take k).filter fun x => !staleB l x.1).length + 1 ≤ maxLen := by unfold maxLen; omega
        have hby : (((l.take k).filter fun x => !staleB l x.1).length + 1) * 64 ≤ 140737488355328 := by omega
        have ho2 := Lib.hid ((HI.out.own.alloc (.cells (foV ek) 122)).alloc (.cells (foV ek) 122))
        have hx : ∀ j u, (foC ek)[j]? = some u → ((wr.alloc (.cells (foV ek) 122)).alloc (.cells (foV ek) 122)).cell? ((⟨wr.heap.size + 1, 0, none⟩ : Addr).add j) = some u := fun j u hj => by
          have hh := heap_alloc_new (wr.alloc (.cells (foV ek) 122)) (.cells (foV ek) 122)
          rw [World.size_alloc] at hh
          rw [add_lit, cell_of_row _ _ j _ _ _ hh]
          simpa [foV, foC] using hj
        have HX := Lib.hid hx
        have hszw : w.heap.size ≤ ((wr.alloc (.cells (foV ek) 122)).alloc (.cells (foV ek) 122)).heap.size := by simp; omega
        have HSZ := Lib.hid hszw
        subst hof
        clear hfl hv2 hq hx hszw hle
        unfold foV at *
        go_wp2_with (at_builtin; refine wpList_append_own _ rfl (.tmp 25) (.tmp 27) 81 rfl w.heap.size 122 i0 (.agg #[.int .u32 0, .int .u64 0, .int .u64 0, .int .u64 0, .int .i64 0, .int .i64 0, .int .i64 0, .int .i64 0]) 8 64 Tryz.underlying81 hi hz0 hz1 hz2 rfl (by decide) _ _ _ rfl ho2.out ⟨wr.heap.size + 1, 0, none⟩ 1 1 (foC ek) rfl (by simp [foC]) HX.out (fun u hu => by simp only [foC, List.mem_cons, List.not_mem_nil, or_false] at hu; rcases hu with rfl | rfl | rfl | rfl | rfl | rfl | rfl | rfl <;> rfl) hmx hby HSZ.out ?_; intro v' w3 hown' hgrow _; have HO' := Lib.hid hown'; have HG := Lib.hid hgrow; clear hown' hgrow)
        refine ⟨⟨k + 1, _, by omega, by go_num, rfl, ?_⟩, by simp [intOf]; omega⟩
        have hI := HI.out
        have t1 : Touch (fun j => (Value.slice oa ((l.take k).filter fun x => !staleB l x.1).length oc).ownBlock = some j) wr w3 :=
          (((Touch.refl Emp wr).alloc _).alloc _).mono (fun _ _ h => h.elim) |>.trans (Touch.of_grown HG.out fun j e => e) (fun _ h _ => h)
        have hob : ∀ j, (Value.slice oa ((l.take k).filter fun x => !staleB l x.1).length oc).ownBlock = some j → w.heap.size ≤ j ∧ ∃ cur, wr.heap[j]? = some (.cells cur 122 (0, 0)) := fun j hj => ⟨(hI.own.lt j hj).1, ownsRow_block hI.own hj⟩
        obtain ⟨es, clk, hm, hs⟩ := hI.map
        refine ⟨?_, ⟨es, clk, t1.at hm (fun hj => by obtain ⟨-, cur, hc⟩ := hob _ hj; rw [hm] at hc; cases hc), hs⟩, hI.fv.touch t1 (fun hl hj => by have := (hob _ hj).1; have := H.out.lt hl; omega), ((Touch.of_below (F := Emp) hI.below).trans t1 fun j hj hlt => by have := (hob j hj).1; omega).below⟩
        rw [HFL.out, List.length_append, List.flatMap_append]
        simpa using HO'.out
      · have hq1 : ¬ (ek.1.q : Int) < (vv : Int) := by omega
        rw [if_neg fun h => hq (hv2.2 h)] at hfl
        have HFL := Lib.hid hfl
        clear hfl hv2 hq
        unfold foV at *
        go_wp2_with fail
        refine ⟨⟨k + 1, _, by omega, by go_num, rfl, ?_⟩, by simp [intOf]; omega⟩
        have hI := HI.out
        obtain ⟨es, clk, hm, hs⟩ := hI.map
        refine ⟨?_, ⟨es, clk, (Below.heap_alloc _ _ _ (lt_of_heap hm)).trans hm, hs⟩, hI.fv.below ((Below.refl _ _).alloc (Nat.le_refl _) _), hI.below.alloc hI.below.size _⟩
        rw [HFL.out]
        exact hI.own.alloc _
    · obtain rfl : k = l.length := by omega
      have HI := Lib.hid hI
      clear hI hk
      go_wp2
      go_ret
      refine ⟨⟨_, rfl, ?_⟩, HI.out.below⟩
      have := HI.out.own
      rw [List.take_length] at this
      exact this
end Rp
end Go.Proofs.YthapggobpfcmjaaGreat

set_option maxRecDepth 100000
namespace Go.Proofs.YthapggobpfcmjaaGreat
namespace Rp
open Go.RowKit

/-- A device in memory, in blocks that there are. -/
structure DvF (w : World) (F : Nat → Prop) (b : Nat) (s : DSt) : Prop where
  dev : Dev w F b s
  lt : ∀ k, F k → k < w.heap.size
theorem DvF.touch {w w1 : World} {F G : Nat → Prop} {b : Nat} {s : DSt} (h : DvF w F b s) (ht : Touch G w w1) (hd : ∀ k, F k → ¬ G k) : DvF w1 F b s :=
  ⟨h.dev.touch ht hd, fun k hk => Nat.lt_of_lt_of_le (h.lt k hk) ht.size⟩
theorem DvF.below {w w1 : World} {F : Nat → Prop} {b : Nat} {s : DSt} (h : DvF w F b s) (hb : Below w.heap.size w w1) : DvF w1 F b s := h.touch (Touch.of_below (F := Emp) hb) fun _ _ => id
def moreR (s : DSt) (n : Nat) : DSt := { s with reads := s.reads + n }
theorem moreR_zero (s : DSt) : moreR s 0 = s := rfl
theorem moreR_up {s : DSt} (h : s.Up) (n : Nat) : (moreR s n).Up := ⟨h.down, h.armed, h.nod, h.fits⟩
/-- What a place tells. -/
def foundAt (s : DSt) (N : Nat) (p : Nat) : Option Fo := if (s.look (p + 1)).1 = 0 ∧ Tg.decB (s.look (p + 1)).2 = true ∧ (Tg.told (s.look (p + 1)).2).d < (N : Int) then some (Tg.told (s.look (p + 1)).2, p) else none
def foundL (s : DSt) (N k : Nat) : List Fo := (List.range k).filterMap (foundAt s N)
theorem foundL_succ (s : DSt) (N k : Nat) : foundL s N (k + 1) = foundL s N k ++ (foundAt s N k).toList := by
  unfold foundL
  rw [List.range_succ, List.filterMap_append]
  cases h : foundAt s N k <;> simp [h]
theorem foundL_len (s : DSt) (N k : Nat) : (foundL s N k).length ≤ k := by
  have := List.length_filterMap_le (foundAt s N) (List.range k)
  simpa [foundL] using this
theorem foundL_right (s : DSt) (N k : Nat) : RightL (foundL s N k) ∧ EpL (foundL s N k) ∧ (∀ x ∈ foundL s N k, x.1.d < (N : Int)) ∧ ∀ x ∈ foundL s N k, x.2 < k := by
  have h : ∀ x ∈ foundL s N k, ∃ p, p < k ∧ foundAt s N p = some x := fun x hx => by
    obtain ⟨p, hp, e⟩ := List.mem_filterMap.1 hx
    exact ⟨p, by simpa using hp, e⟩
  refine ⟨fun x hx => ?_, fun x hx => ?_, fun x hx => ?_, fun x hx => ?_⟩ <;>
  · obtain ⟨p, hp, e⟩ := h x hx
    unfold foundAt at e
    split at e
    · rename_i hc
      simp only [Option.some.injEq] at e
      subst e
      first
        | exact ((Tg.dec_iff _).1 hc.2.1).1
        | exact Tg.told_e _
        | exact hc.2.2
        | exact hp
    · cases e

set_option maxHeartbeats 400000 in
theorem sector_ok (p : Nat) (hp : p ≤ 1048576) (w : World) : Calls Tryz.prog 58 #[.int .i64 (p : Int)] w fun e w' => e = .returned (.int .i64 ((p + 1 : Nat) : Int)) ∧ w = w' := by
  have hp1 : (p : Int) ≤ 1048576 := by omega
  go_enter Tryz.func58, Tryz.ntmps58
  go_wp2
  go_ret
  exact ⟨by simp, rfl⟩

/-- While tags runs. -/
structure TaI (w : World) (F : Nat → Prop) (b : Nat) (s : DSt) (N k : Nat) (o : Value) (wr : World) : Prop where
  own : wr.ownsRow w.heap.size 122 8 o (foundL s N k).length ((foundL s N k).flatMap foC)
  dev : DvF wr F b (moreR s k)
  tch : Touch F w wr

set_option maxHeartbeats 8000000 in
theorem tags_ok {w : World} {F : Nat → Prop} {b : Nat} {s : DSt} (h : DvF w F b s) (hu : s.Up) (P N : Nat) (hP : P + 1 ≤ s.secs.length) (hP2 : P ≤ 1048576) (hN : N ≤ 3840) (hf : (moreR s P).Fit) :
    Calls Tryz.prog 31 #[.pointer (some ⟨b, 0, none⟩), .int .i64 (P : Int), .int .i64 (N : Int)] w fun e w' =>
      (∃ o, e = .returned (.tuple #[o, .int .i64 0]) ∧ w'.ownsRow w.heap.size 122 8 o (foundL s N P).length ((foundL s N P).flatMap foC)) ∧ Touch F w w' ∧ DvF w' F b (moreR s P) := by
  have H := Lib.hid h
  have HU := Lib.hid hu
  have HF := Lib.hid hf
  have hN0 : (N : Int) ≤ 3840 := by omega
  obtain ⟨i0, hi, hz0, hz1, hz2⟩ := info_parts Tryz.infoFo
  have I0 : TaI w F b s N 0 (.slice none 0 0) w := ⟨World.ownsRow_nil _ _ _ _, h, Touch.refl _ _⟩
  have HI0 := Lib.hid I0
  clear h hu hf I0
  go_enter Tryz.func31, Tryz.ntmps31
  go_wp2
  go_loopw [15, 8] (fun i o wr => ∃ (k : Nat) (o' : Value), k ≤ P ∧ i = .int .i64 k ∧ o = o' ∧ TaI w F b s N k o' wr) (fun i _ _ => P - (intOf i).toNat)
  case atStart => exact ⟨0, _, Nat.zero_le _, rfl, rfl, HI0.out⟩
  case round =>
    obtain ⟨k, o', hk, rfl, ho, hI⟩ := hrel
    replace ho := ho.symm
    subst ho
    by_cases hlt : k < P
    · have hk' : (k : Int) < (P : Int) := by omega
      have SC := Lib.hid (sector_ok k (by omega) wr)
      have hup := moreR_up HU.out k
      have hrd := hup.readR (at_ := k + 1) (by show k + 1 < s.secs.length; omega)
      have RD := read_any hI.dev.dev (by have := HF.out; simp only [DSt.Fit, moreR] at this ⊢; omega) hI.dev.lt ((k + 1 : Nat) : Int)
      rw [hrd.1, hrd.2, show (moreR s k).look (k + 1) = s.look (k + 1) from rfl, show (moreR s k).incR = moreR s (k + 1) from rfl] at RD
      have hfs := foundL_succ s N k
      have hfa : foundAt s N k = if (s.look (k + 1)).1 = 0 ∧ Tg.decB (s.look (k + 1)).2 = true ∧ (Tg.told (s.look (k + 1)).2).d < (N : Int) then some (Tg.told (s.look (k + 1)).2, k) else none := rfl
      have hlk : (s.look (k + 1)).1 = 0 ∨ (s.look (k + 1)).1 = 3 := by
        unfold DSt.look
        split
        · exact .inl rfl
        · split
          · exact .inr rfl
          · exact .inl rfl
      generalize s.look (k + 1) = lk at RD hfa hlk
      obtain ⟨er, data⟩ := lk
      simp only at RD hfa hlk
      have RD := Lib.hid RD
      have HI := Lib.hid hI
      have HFS := Lib.hid hfs
      have HFA := Lib.hid hfa
      clear hI hup hrd hfs hfa
      rcases hlk with rfl | rfl
      · have STEP : ∀ (W : World) (o2 : Value), Touch F wr W → DvF W F b (moreR s (k + 1)) → W.ownsRow w.heap.size 122 8 o2 (foundL s N (k + 1)).length ((foundL s N (k + 1)).flatMap foC) → TaI w F b s N (k + 1) o2 W := fun W o2 h1 h2 h3 => ⟨h3, h2, HI.out.tch.trans h1 fun _ h _ => h⟩
        have HST := Lib.hid STEP
        clear STEP
        go_wp2_with fail
        refine SC.out.mono ?_
        rintro e w1 ⟨rfl, rfl⟩
        go_wp2_with fail
        refine RD.out.mono ?_
        rintro e w2 ⟨v, rfl, ht, hd, hv⟩
        have hdv : DvF w2 F b (moreR s (k + 1)) := ⟨hd, fun j hj => Nat.lt_of_lt_of_le (HI.out.dev.lt j hj) ht.size⟩
        have how : w2.ownsRow w.heap.size 122 8 o' (foundL s N k).length ((foundL s N k).flatMap foC) := ownsRow_touch HI.out.own ht fun j hj hF => by have := (HI.out.own.lt j hj).1; have := H.out.lt j hF; omega
        have HD := Lib.hid (And.intro ht (And.intro hdv how))
        have hnone : foundAt s N k = none → foundL s N (k + 1) = foundL s N k := fun e => by rw [HFS.out, e]; simp
        have HNO := Lib.hid hnone
        clear ht hd hdv how hnone
        have NO : ∀ (W : World), foundAt s N k = none → Below w2.heap.size w2 W → TaI w F b s N (k + 1) o' W := fun W e hb => by
          obtain ⟨h1, h2, h3⟩ := HD.out
          refine HST.out W o' (h1.trans (Touch.of_below (F := Emp) hb) fun _ h _ => h.elim) (h2.below hb) ?_
          rw [HNO.out e]
          exact ownsRow_touch h3 (Touch.of_below (F := Emp) hb) fun _ _ => id
        have HNN := Lib.hid NO
        clear NO
        rcases hv with ⟨rfl, hd0⟩ | ⟨gb, rfl, -, hrow, hl512⟩
        · have DE := Lib.hid (decode_short none 0 0 w2 (by omega))
          have HN0 := Lib.hid (show foundAt s N k = none by
            rw [HFA.out, if_neg]
            rintro ⟨-, h, -⟩
            rw [hd0] at h
            exact absurd h (by decide))
          clear hd0
          go_wp2_with fail
          refine DE.out.mono ?_
          rintro e w3 ⟨rfl, hb3⟩
          have HB3 := Lib.hid hb3
          clear hb3
          go_wp2_with fail
          exact ⟨⟨k + 1, _, by omega, by go_num, rfl, HNN.out _ HN0.out (HB3.out.alloc HB3.out.size _)⟩, by simp [intOf]; omega⟩
        · have hbv : BV w2 (.slice (some ⟨gb, 0, none⟩) 512 512) data gb := by
            have hr := hrow.reads 512
            rw [hl512] at hr
            exact ⟨hr, ⟨_, 512, by rw [hl512], by omega, fun e => by cases e⟩, fun _ => lt_of_heap hrow⟩
          have DE := Lib.hid (decode_full (some ⟨gb, 0, none⟩) 512 data gb w2 hbv hl512)
          clear hrow hbv
          go_wp2_with fail
          refine DE.out.mono ?_
          rintro e w3 ⟨⟨hdb, v', rfl, -⟩ | ⟨hdb, rfl⟩, hb3⟩
          · generalize htd : Tg.told data = t at *
            have HB3 := Lib.hid hb3
            have HTD := Lib.hid (And.intro htd hdb)
            clear hb3 htd hdb
            by_cases hd : t.d < (N : Int)
            · have hof := own_form HI.out.own
              obtain ⟨oa, oc, rfl⟩ := hof
              have hle := foundL_len s N k
              have hmx : (foundL s N k).length + 1 ≤ maxLen := by unfold maxLen; omega
              have hby : ((foundL s N k).length + 1) * 64 ≤ 140737488355328 := by omega
              have how3 := ownsRow_touch HD.out.2.2 (Touch.of_below (F := Emp) HB3.out) fun _ _ => id
              have ho2 := Lib.hid ((how3.alloc (.cells (tagC t) 59)).alloc (.cells (foV (t, k)) 122))
              have hx : ∀ j u, (foC (t, k))[j]? = some u → ((w3.alloc (.cells (tagC t) 59)).alloc (.cells (foV (t, k)) 122)).cell? ((⟨w3.heap.size + 1, 0, none⟩ : Addr).add j) = some u := fun j u hj => by
                have hh := heap_alloc_new (w3.alloc (.cells (tagC t) 59)) (.cells (foV (t, k)) 122)
                rw [World.size_alloc] at hh
                rw [add_lit, cell_of_row _ _ j _ _ _ hh]
                simpa [foV, foC] using hj
              have HX := Lib.hid hx
              have hszw : w.heap.size ≤ ((w3.alloc (.cells (tagC t) 59)).alloc (.cells (foV (t, k)) 122)).heap.size := by
                have h1 := HI.out.tch.size
                have h2 := HD.out.1.size
                have h3 := HB3.out.size
                simp; omega
              have HSZ := Lib.hid hszw
              have HDN := Lib.hid hd
              have hd1 : t.d < (N : Int) := hd
              clear how3 hx hszw hle hd
              unfold foV tagC at *
              go_wp2_with (at_builtin; refine wpList_append_own _ rfl (.tmp 43) (.tmp 47) 81 rfl w.heap.size 122 i0 (.agg #[.int .u32 0, .int .u64 0, .int .u64 0, .int .u64 0, .int .i64 0, .int .i64 0, .int .i64 0, .int .i64 0]) 8 64 Tryz.underlying81 hi hz0 hz1 hz2 rfl (by decide) _ _ _ rfl ho2.out ⟨w3.heap.size + 1, 0, none⟩ 1 1 (foC (t, k)) rfl (by simp [foC]) HX.out (fun u hu => by simp only [foC, List.mem_cons, List.not_mem_nil, or_false] at hu; rcases hu with rfl | rfl | rfl | rfl | rfl | rfl | rfl | rfl <;> rfl) hmx hby HSZ.out ?_; intro v' w4 hown' hgrow _; have HO' := Lib.hid hown'; have HG := Lib.hid hgrow; clear hown' hgrow)
              have hfl : foundL s N (k + 1) = foundL s N k ++ [(t, k)] := by
                rw [HFS.out, HFA.out, if_pos ⟨trivial, HTD.out.2, HDN.out⟩]; rfl
              have how := HD.out.2.2
              have hob : ∀ j, (Value.slice oa (foundL s N k).length oc).ownBlock = some j → w.heap.size ≤ j := fun j hj => (how.lt j hj).1
              have t1 : Touch (fun j => (Value.slice oa (foundL s N k).length oc).ownBlock = some j) w2 w4 :=
                (((Touch.of_below (F := Emp) HB3.out).alloc _).alloc _).mono (fun _ _ h => h.elim) |>.trans (Touch.of_grown HG.out fun j e => e) (fun _ h _ => h)
              refine ⟨⟨k + 1, _, by omega, by go_num, rfl, ?_, HD.out.2.1.touch t1 fun j hj hj2 => by have := hob j hj2; have := H.out.lt j hj; omega, (HI.out.tch.trans HD.out.1 fun _ h _ => h).trans t1 fun j hj hlt => by have := hob j hj; omega⟩, by simp [intOf]; omega⟩
              rw [hfl, List.length_append, List.flatMap_append]
              simpa using HO'.out
            · have HN0 := Lib.hid (show foundAt s N k = none by rw [HFA.out, if_neg]; exact fun h => hd h.2.2)
              have hd1 : ¬ t.d < (N : Int) := hd
              clear hd
              unfold tagC at *
              go_wp2_with fail
              exact ⟨⟨k + 1, _, by omega, by go_num, rfl, HNN.out _ HN0.out (HB3.out.alloc HB3.out.size _)⟩, by simp [intOf]; omega⟩
          · have HN0 := Lib.hid (show foundAt s N k = none by rw [HFA.out, if_neg]; rintro ⟨-, h, -⟩; rw [hdb] at h; cases h)
            have HB3 := Lib.hid hb3
            clear hb3 hdb
            go_wp2_with fail
            exact ⟨⟨k + 1, _, by omega, by go_num, rfl, HNN.out _ HN0.out (HB3.out.alloc HB3.out.size _)⟩, by simp [intOf]; omega⟩
      · go_wp2_with fail
        refine SC.out.mono ?_
        rintro e w1 ⟨rfl, rfl⟩
        go_wp2_with fail
        refine RD.out.mono ?_
        rintro e w2 ⟨v, rfl, ht, hd, hv⟩
        have HD := Lib.hid (And.intro ht hd)
        clear ht hd hv
        go_wp2_with fail
        refine ⟨⟨k + 1, _, by omega, by go_num, rfl, ?_⟩, by simp [intOf]; omega⟩
        have hI := HI.out
        obtain ⟨ht, hd⟩ := HD.out
        have hlt2 : ∀ j, F j → j < w.heap.size := H.out.lt
        rw [show foundAt s N k = none by rw [HFA.out]; simp] at HFS
        refine ⟨?_, ⟨hd, fun j hj => Nat.lt_of_lt_of_le (hI.dev.lt j hj) ht.size⟩, hI.tch.trans ht fun _ h _ => h⟩
        rw [HFS.out, Option.toList_none, List.append_nil]
        exact ownsRow_touch hI.own ht fun j hj hF => by have := (hI.own.lt j hj).1; have := hlt2 j hF; omega
    · obtain rfl : k = P := by omega
      obtain ⟨oa, oc, rfl⟩ := own_form hI.own
      have HI := Lib.hid hI
      clear hI hk
      go_wp2
      go_ret2
      exact ⟨⟨_, rfl, HI.out.own⟩, HI.out.tch, HI.out.dev⟩
end Rp
end Go.Proofs.YthapggobpfcmjaaGreat

