/- Rings of nothing: From, and the iterator that it hands out. Rings of 1 to 2^20 places. -/
import Derived.RangeFuncBox
import Derived.RangeFuncLeaves
import Derived.RangeFuncNested
import Derived.Shelf.Abstract
import Derived.Test.YthapggobpfcmjaaGreatRge
import Derived.Test.YthapggobpfcmjaaGreatSeq
import Derived.OwnWalkIn
import Derived.TacticsInMore
import Derived.LoopNIn
import Derived.LoopIn
import Derived.Deep.RegionWith
set_option maxRecDepth 100000
namespace Go.Proofs.YthapggobpfcmjaaGreat
namespace Rg
open Go.RowKit Go.Shelf

theorem clamp0_run (n : Int) (m N : Nat) (hN : min (max n 0) (m : Int) = (N : Int)) : ∃ x : Int, (∀ W : World, (Builtin.max_ #[3, 3] 3 #[.int .i64 n, .int .i64 0]).run Tryz.prog W = .ok (.int .i64 x) W) ∧ (∀ W : World, (Builtin.min_ #[3, 3] 3 #[.int .i64 x, .int .i64 (m : Int)]).run Tryz.prog W = .ok (.int .i64 (N : Int)) W) := by
  refine ⟨max n 0, fun W => ?_, fun W => ?_⟩
  · simp [Builtin.max_, Builtin.max2]
    split <;> omega
  · simp [Builtin.min_, Builtin.min2]
    split <;> omega

/-- What the iterator holds: the ring, the place, how many. -/
structure FromAt (w : World) (br ba bn R N : Nat) (at_ : Int) : Prop where
  r : Boxed w br 67 (.pointer (some ⟨R, 0, none⟩))
  a : Boxed w ba 3 (.int .i64 at_)
  n : Boxed w bn 3 (.int .i64 (N : Int))

set_option maxHeartbeats 1000000 in
theorem from_e (R g n : Nat) (a k : Int) (N : Nat) (w : World) (h : RingE w R g n) (hN : min (max k 0) (n : Int) = (N : Int)) :
    Calls Tryz.prog 87 #[.pointer (some ⟨R, 0, none⟩), .int .i64 a, .int .i64 k] w fun e w' => (∃ br ba bn, e = .returned (.func (.func 97) #[] #[.pointer (some ⟨bn, 0, none⟩), .pointer (some ⟨br, 0, none⟩), .pointer (some ⟨ba, 0, none⟩)]) ∧ FromAt w' br ba bn R N a ∧ w.heap.size ≤ br ∧ w.heap.size ≤ ba ∧ w.heap.size ≤ bn) ∧ Below w.heap.size w w' := by
  obtain ⟨x, hx, hy⟩ := clamp0_run k n N hN
  have L := Lib.hid (fun W (h : RingE W R g n) => len_e R g n W h)
  have H := Lib.hid h
  have e1 : (w.alloc (.cells #[.pointer (some ⟨R, 0, none⟩)] 67)).heap.size = w.heap.size + 1 := by simp
  have e2 : ((w.alloc (.cells #[.pointer (some ⟨R, 0, none⟩)] 67)).alloc (.cells #[.int .i64 a] 3)).heap.size = w.heap.size + 1 + 1 := by simp
  have HB := Lib.hid ((((Below.refl w.heap.size w).alloc (Nat.le_refl _) (.cells #[.pointer (some ⟨R, 0, none⟩)] 67)).alloc (by simp) (.cells #[.int .i64 a] 3)).alloc (by simp; omega) (.cells #[.int .i64 k] 3))
  have B1 := Lib.hid (((Boxed.new w 67 (.pointer (some ⟨R, 0, none⟩))).alloc (.cells #[.int .i64 a] 3)).alloc (.cells #[.int .i64 k] 3))
  have b2 := ((Boxed.new (w.alloc (.cells #[.pointer (some ⟨R, 0, none⟩)] 67)) 3 (.int .i64 a)).alloc (.cells #[.int .i64 k] 3))
  have b3 := (Boxed.new ((w.alloc (.cells #[.pointer (some ⟨R, 0, none⟩)] 67)).alloc (.cells #[.int .i64 a] 3)) 3 (.int .i64 k))
  rw [e1] at b2
  rw [e2] at b3
  have B2 := Lib.hid b2
  have B3 := Lib.hid b3
  clear h hN b2 b3 e1 e2
  go_enter Tryz.func87, Tryz.ntmps87
  go_wp2_with fail
  generalize ((w.alloc (.cells #[.pointer (some ⟨R, 0, none⟩)] 67)).alloc (.cells #[.int .i64 a] 3)).alloc (.cells #[.int .i64 k] 3) = W1 at HB B1 B2 B3 ⊢
  obtain ⟨p, hp⟩ : ∃ p, p = w.heap.size := ⟨_, rfl⟩
  rw [← hp] at B1 B2 B3 ⊢
  have HP := Lib.hid hp
  have L1 := Lib.hid (L.out W1.drew (H.out.below HB.out.drew))
  have hc1 := B1.out.cell
  have hc3 := B3.out.cell
  have hf3 := B3.out.frozen
  clear hp L
  go_region_with ((go_at_call 56; refine L1.out.mono ?_; rintro e w4 ⟨rfl, rfl⟩))
  all_goals
    go_wp2
    go_ret
    exact ⟨⟨p, p + 1, p + 1 + 1, rfl, ⟨B1.out.other (by omega) _, B2.out.other (by omega) _, B3.out.set _⟩, by have := HP.out; omega, by have := HP.out; omega, by have := HP.out; omega⟩, (HB.out.setCell (p := ⟨p + 1 + 1, 0, none⟩) (by have := HP.out; simp; omega) _).drew⟩

/-- The iterator's blocks: none of them is touched by the body of a round. -/
structure FromFree (F : Nat → Prop) (br ba bn R : Nat) : Prop where
  r : ¬ F br
  a : ¬ F ba
  n : ¬ F bn
  R : ¬ F R
theorem FromAt.touch {F : Nat → Prop} {w w1 : World} {br ba bn R N : Nat} {a : Int} (h : FromAt w br ba bn R N a) (ht : Touch F w w1) (h1 : ¬ F br) (h2 : ¬ F ba) (h3 : ¬ F bn) : FromAt w1 br ba bn R N a :=
  ⟨ht.at h.r h1, ht.at h.a h2, ht.at h.n h3⟩
theorem goq_e (R g n p : Nat) (a b : Int) (w : World) (h : RingE w R g n) (hn : 1 ≤ n) (hm : n ≤ 1048576) (hp : (a + b) % n = (p : Int)) :
    Calls Tryz.prog 57 #[.pointer (some ⟨R, 0, none⟩), .int .i64 a, .int .i64 b] w fun e w' => e = .returned (.int .i64 (p : Int)) ∧ w = w' := hp ▸ go_e R g n a b w h hn hm

attribute [local go_sem] Oper.semAt_some

set_option maxHeartbeats 2000000 in
/-- The iterator: for every body that touches G alone. pl: the places. -/
theorem from1_on (d : Nat) (hd : 1 ≤ d) (G : Nat → Prop) (T : TypeId) (hT : 67 ≠ T ∧ 3 ≠ T ∧ 109 ≠ T) (br ba bn R g n N : Nat) (a : Int) (hn : 1 ≤ n) (hm : n ≤ 1048576) (hN : N ≤ n) (pl : Nat → Nat) (hpl : ∀ i, (a + i) % n = (pl i : Int))
    (hF : FromFree G br ba bn R) (w0 : World) (hA : FromAt w0 br ba bn R N a) (hR : RingE w0 R g n) :
    SeqOn Fence.wide d Tryz.prog 97 #[.pointer (some ⟨bn, 0, none⟩), .pointer (some ⟨br, 0, none⟩), .pointer (some ⟨ba, 0, none⟩)]
      (fun p : Nat => #[.int .i64 (p : Int), .agg #[]]) ((List.range N).map pl) (Kee G T) w0 := by
  intro l J W hW _ hJo hY h0
  replace hA : FromAt W br ba bn R N a := hA.touch (Touch.of_below (F := Emp) hW) id id id
  replace hR : RingE W R g n := hR.below hW
  have hlen : ((List.range N).map pl).length = N := by simp
  rw [hlen]
  rw [show (#[.func (.yield l) #[] #[]] ++ #[.pointer (some ⟨bn, 0, none⟩), .pointer (some ⟨br, 0, none⟩), .pointer (some ⟨ba, 0, none⟩)] : Array Value) = #[.func (.yield l) #[] #[], .pointer (some ⟨bn, 0, none⟩), .pointer (some ⟨br, 0, none⟩), .pointer (some ⟨ba, 0, none⟩)] from rfl]
  have hcn := hA.n.cell
  refine callsIn_of_wp Tryz.func97 rfl trivial ?_ rfl
  simp only [Tryz.ntmps97, List.size_toArray, List.length_cons, List.length_nil, Nat.reduceAdd, Nat.reduceSub, Array.replicate_succ, Array.replicate_zero, List.push_toArray, List.append_toArray, List.nil_append, List.cons_append]
  have HA := Lib.hid hA
  have HR := Lib.hid hR
  have HY := Lib.hid hY
  have H0 := Lib.hid h0
  have HP := Lib.hid hpl
  have HF := Lib.hid hF
  have HL := Lib.hid hlen
  have HTT := Lib.hid hT
  clear hA hR hY h0 hpl hF hJo hW hlen hT
  gi_wp2
  gi_loopw [8] (fun i wr => ∃ k : Nat, k ≤ N ∧ i = .int .i64 k ∧ J k wr ∧ FromAt wr br ba bn R N a ∧ RingE wr R g n)
    (fun i _ => N - (intOf i).toNat)
  case atStart => exact ⟨0, Nat.zero_le _, rfl, H0.out, HA.out, HR.out⟩
  case round =>
    obtain ⟨k, hk, rfl, hJ, hA, hR⟩ := hrel
    by_cases hlt : k < N
    · have G1 := Lib.hid (goq_e R g n (pl k) a k wr hR hn hm (HP.out k))
      have hc1 := hA.r.cell
      have hc2 := hA.a.cell
      have hc3 := hR.hcell
      have hpk : ((pl k : Nat) : Int) < (n : Int) := by have := HP.out k; have := place_bd (a + k) n hn; omega
      have hyk := HY.out k (by rw [HL.out]; exact hlt) wr hJ
      rw [List.getElem_map, List.getElem_range] at hyk
      obtain ⟨fn, tmps, assign, body, hy, hRd⟩ := hyk
      replace HA := Lib.hid hA
      replace HR := Lib.hid hR
      have RD := Lib.hid hRd
      clear hA hR hJ H0 hRd
      gi_wp2_with (refine ⟨trivial, ?_⟩; gi_at_call 57; refine (callsIn_wide.2 G1.out).mono ?_; rintro e w' ⟨rfl, rfl⟩)
      refine RD.out.mono ?_
      rintro e W3 ⟨rfl, hJ3, hk3⟩
      have J3 := Lib.hid hJ3
      have HA3 := Lib.hid (HA.out.touch hk3 (not_kee HF.out.r HA.out.r HTT.out.1) (not_kee HF.out.a HA.out.a HTT.out.2.1) (not_kee HF.out.n HA.out.n HTT.out.2.1))
      have HR3 := Lib.hid (HR.out.touch hk3 (not_kee HF.out.R HR.out HTT.out.2.2))
      clear hJ3 hk3
      gi_wp2
      go_roundw
      case rel => exact ⟨k + 1, by omega, by go_num, J3.out, HA3.out, HR3.out⟩
      case measure => simp [intOf]; omega
    · obtain rfl : k = N := by omega
      have J3 := Lib.hid hJ
      clear hJ hA hR H0
      gi_wp2
      go_end0
      exact ⟨⟨_, rfl⟩, J3.out⟩

end Rg
end Go.Proofs.YthapggobpfcmjaaGreat
