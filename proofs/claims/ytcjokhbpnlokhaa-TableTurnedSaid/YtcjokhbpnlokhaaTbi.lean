/- Tables: All, and its iterator. Tables of at most 2^20 blocks and places. -/
import Derived.RangeFuncBox
import Derived.RangeFuncLeaves
import Derived.RangeFuncNested
import Derived.Shelf.Abstract
import Derived.Test.YtcjokhbpnlokhaaTbs
import Derived.OwnWalkIn
import Derived.TacticsInMore
import Derived.LoopNIn
import Derived.LoopIn
namespace Go.Proofs.Ytcjokhbpnlokhaa
open Go.RowKit Go.Shelf

/-- The blocks that are anywhere, of the first n, rising. -/
def tells (a : Nat → Option Nat) : Nat → List (Nat × Nat)
  | 0 => []
  | n + 1 => tells a n ++ (match a n with | some p => [(n, p)] | none => [])
theorem tells_none {a : Nat → Option Nat} {n : Nat} (h : a n = none) : tells a (n + 1) = tells a n := by simp [tells, h]
theorem tells_some {a : Nat → Option Nat} {n p : Nat} (h : a n = some p) : tells a (n + 1) = tells a n ++ [(n, p)] := by simp [tells, h]
theorem tells_length (a : Nat → Option Nat) (n : Nat) : (tells a n).length = cnt a n := by
  induction n with
  | zero => rfl
  | succ n ih => cases h : a n <;> simp [tells, cnt, h, ih]
theorem tells_lt {a : Nat → Option Nat} {n : Nat} {z : Nat × Nat} (h : z ∈ tells a n) : z.1 < n := by
  induction n with
  | zero => simp [tells] at h
  | succ n ih =>
    cases e : a n with
    | none => rw [tells_none e] at h; have := ih h; omega
    | some p =>
      rw [tells_some e, List.mem_append, List.mem_singleton] at h
      rcases h with h | rfl
      · have := ih h; omega
      · simp
def lastI (pre : List (Nat × Nat)) : Int := match pre.getLast? with | some z => z.1 | none => -1
theorem lastI_append (pre : List (Nat × Nat)) (z : Nat × Nat) : lastI (pre ++ [z]) = z.1 := by simp [lastI]
theorem lastI_bd (pre : List (Nat × Nat)) : -1 ≤ lastI pre := by
  unfold lastI; split <;> omega
def Told (a : Nat → Option Nat) (B : Nat) (pre : List (Nat × Nat)) : Prop := ∃ k, k ≤ B ∧ pre = tells a k
theorem told_last {a : Nat → Option Nat} {pre : List (Nat × Nat)} {y : Nat × Nat} : ∀ {k : Nat}, pre ++ [y] = tells a k → a y.1 = some y.2 ∧ lastI pre < (y.1 : Int)
  | 0, h => by simp [tells] at h
  | k + 1, h => by
    cases e : a k with
    | none => rw [tells_none e] at h; exact told_last h
    | some p =>
      rw [tells_some e] at h
      obtain ⟨rfl, h2⟩ := List.append_inj' h rfl
      obtain rfl : y = (k, p) := by simpa using h2
      refine ⟨e, ?_⟩
      unfold lastI
      cases g : (tells a k).getLast? with
      | none => simp; omega
      | some z =>
        have := tells_lt (List.mem_of_getLast? g)
        simp; exact this

set_option maxHeartbeats 1000000 in
theorem all_i (T : Nat) (w : World) :
    Calls Try.prog 13 #[.pointer (some ⟨T, 0, none⟩)] w fun e w' => e = .returned (.func (.func 18) #[] #[.pointer (some ⟨w.heap.size, 0, none⟩)]) ∧ w.alloc (.cells #[.pointer (some ⟨T, 0, none⟩)] 24) = w' := by
  go_enter Try.func13, Try.ntmps13
  go_wp2
  go_ret
  exact ⟨rfl, rfl⟩

attribute [local go_sem] Oper.semAt_some

/-- The iterator's blocks: none of them is touched by the body of a round. -/
structure AllFree (F : Nat → Prop) (br T gp go : Nat) : Prop where
  r : ¬ F br
  T : ¬ F T
  p : ¬ F gp
  o : ¬ F go

set_option maxRecDepth 100000 in
set_option maxHeartbeats 2000000 in
/-- The iterator: for every body that touches F alone. -/
theorem all1_in (d : Nat) (hd : 1 ≤ d) (l : Nat) (F : Nat → Prop) (br T gp go B S : Nat) (a o : Nat → Option Nat) (hF : AllFree F br T gp go) (J Jx : List (Nat × Nat) → World → Prop)
    (hY : ∀ pre y W, J pre W → pre.length < B → YieldAt Fence.wide (d - 1) Try.prog l #[.int .i64 (y.1 : Int), .int .i64 (y.2 : Int)] W fun e W' =>
      (e = .returned (.bool true) ∧ J (pre ++ [y]) W' ∧ Touch F W W') ∨ (e = .returned (.bool false) ∧ Jx (pre ++ [y]) W'))
    (W : World) (hA : Boxed W br 24 (.pointer (some ⟨T, 0, none⟩))) (hR : TabAt W T gp go B S a o) (h0 : J [] W) :
    CallsIn Fence.wide d Try.prog 18 #[.func (.yield l) #[] #[], .pointer (some ⟨br, 0, none⟩)] W fun e W' => (∃ v, e = .returned v) ∧
      ((∃ ys, ys = tells a B ∧ J ys W') ∨ (∃ pre, Told a B pre ∧ Jx pre W')) := by
  have hc0 := hA.cell
  have hc1 := hR.c0
  have hmB := hR.mB
  refine callsIn_of_wp Try.func18 rfl trivial ?_ rfl
  simp only [Try.ntmps18, List.size_toArray, List.length_cons, List.length_nil, Nat.reduceAdd, Nat.reduceSub, Array.replicate_succ, Array.replicate_zero, List.push_toArray, List.append_toArray, List.nil_append, List.cons_append]
  have HA := Lib.hid hA
  have HR := Lib.hid hR
  have HY := Lib.hid hY
  have H0 := Lib.hid h0
  have HF := Lib.hid hF
  clear hA hR hY h0 hF
  gi_wp2
  gi_loopw [10] (fun i wr => ∃ k : Nat, k ≤ B ∧ i = .int .i64 k ∧ J (tells a k) wr ∧ TabAt wr T gp go B S a o)
    (fun i _ => B - (intOf i).toNat)
  case atStart => exact ⟨0, Nat.zero_le _, rfl, H0.out, HR.out⟩
  case round =>
    obtain ⟨k, hk, rfl, hJ, hR⟩ := hrel
    by_cases hlt : k < B
    · have hc4 := hR.cp hlt
      have hcl : (tells a k).length < B := by rw [tells_length]; have := cnt_le a k; omega
      cases e : a k with
      | none =>
        have J3 := Lib.hid hJ
        replace HR := Lib.hid hR
        rw [e] at hc4
        simp only [enc] at hc4
        clear hJ hR H0
        gi_wp2
        refine ⟨(fun _ h => by cases h), ?_⟩
        gi_wp2
        go_roundw
        case rel => exact ⟨k + 1, by omega, by go_num, by rw [tells_none e]; exact J3.out, HR.out⟩
        case measure => simp [intOf]; omega
      | some p =>
        rw [e] at hc4
        simp only [enc] at hc4
        have hb : ((p : Int) != -1) = true := by rw [bne_iff_ne]; omega
        obtain ⟨fn, tmps, assign, body, hy, hRd⟩ := HY.out _ (k, p) wr hJ hcl
        dsimp only at hy
        replace HR := Lib.hid hR
        have RD := Lib.hid hRd
        clear hR hJ H0 hRd hcl
        gi_wp2_with fail
        refine RD.out.mono ?_
        rintro e' W3 (⟨rfl, hJ3, hk3⟩ | ⟨rfl, hJx3⟩)
        · have J3 := Lib.hid hJ3
          have HR3 := Lib.hid (HR.out.touch hk3 HF.out.T HF.out.p HF.out.o)
          clear hJ3 hk3
          gi_wp2
          go_roundw
          case rel => exact ⟨k + 1, by omega, by go_num, by rw [tells_some e]; exact J3.out, HR3.out⟩
          case measure => simp [intOf]; omega
        · have J3 := Lib.hid hJx3
          clear hJx3
          gi_wp2
          refine bodyPost_ret (results_none rfl _ _ _) rfl ?_
          exact ⟨⟨_, rfl⟩, .inr ⟨_, ⟨k + 1, by omega, (tells_some e).symm⟩, J3.out⟩⟩
    · obtain rfl : k = B := by omega
      have J3 := Lib.hid hJ
      clear hJ hR H0
      gi_wp2
      go_end0
      exact ⟨⟨_, rfl⟩, .inl ⟨_, rfl, J3.out⟩⟩

end Go.Proofs.Ytcjokhbpnlokhaa
