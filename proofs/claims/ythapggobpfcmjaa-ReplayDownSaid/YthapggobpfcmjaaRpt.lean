/- slices.Sort of at most one number; slices.Sorted of a map's keys, in so far as Sort sorts them; slices.Backward of numbers. -/
import Derived.Test.YthapggobpfcmjaaRps
set_option maxRecDepth 100000
namespace Go.Proofs.Ythapggobpfcmjaa
namespace Rp
open Go.RowKit Go.Maps Go.Shelf

attribute [local go_sem] Oper.semAt_some

/-- Sort sorts so many numbers. -/
def SortsU (N : Nat) : Prop := ∀ (ss : List Int) (base : Nat) (v : Value) (w : World), ss.length ≤ N → (∀ x ∈ ss, 0 ≤ x ∧ x < 4294967296) → w.ownsRow base 30 1 v ss.length (ss.map encU) →
  Calls Try.prog 77 #[v] w fun e w' => (∃ x, e = .returned x) ∧ ∃ ts : List Int, ts.Perm ss ∧ ts.Pairwise (· ≤ ·) ∧ w'.ownsRow base 30 1 v ts.length (ts.map encU) ∧ Touch (fun k => v.ownBlock = some k) w w'

set_option maxHeartbeats 1000000 in
theorem len_few (n : Nat) (hn : n ≤ 1) (w : World) : Calls Try.prog 83 #[.int .u64 (n : Int)] w fun e w' => (∃ r, e = .returned (.int .i64 r)) ∧ w = w' := by
  have h : ∀ w, Calls Try.prog 94 #[.int .u64 (n : Int)] w fun e w' => (∃ r, e = .returned (.int .i64 r)) ∧ w = w' := fun w => by
    obtain rfl | rfl : n = 0 ∨ n = 1 := by omega
    · go_enter Try.func94, Try.ntmps94
      go_wp2
      go_ret
      exact ⟨⟨_, rfl⟩, rfl⟩
    · go_enter Try.func94, Try.ntmps94
      go_wp2
      go_ret
      exact ⟨⟨_, rfl⟩, rfl⟩
  have H := Lib.hid (h w)
  clear h
  have hn1 : (n : Int) ≤ 1 := by omega
  go_enter Try.func83, Try.ntmps83
  go_wp2_with fail
  refine H.out.mono ?_
  rintro e w' ⟨⟨r, rfl⟩, rfl⟩
  go_wp2
  go_ret
  exact ⟨⟨_, rfl⟩, rfl⟩

set_option maxHeartbeats 1000000 in
theorem insert_few (a : Option Addr) (n cap : Nat) (hn : n ≤ 1) (w : World) : Calls Try.prog 84 #[.slice a n cap, .int .i64 0, .int .i64 (n : Int)] w fun e w' => (∃ x, e = .returned x) ∧ w = w' := by
  have hn1 : ¬ (1 : Int) < (n : Int) := by omega
  go_enter Try.func84, Try.ntmps84
  go_wp2
  go_loopw [6] (fun i wr => i = .int .i64 1 ∧ w = wr) (fun _ _ => 0)
  case atStart => exact ⟨rfl, rfl⟩
  case round =>
    obtain ⟨rfl, rfl⟩ := hrel
    go_wp2
    go_end0
    exact ⟨⟨_, rfl⟩, rfl⟩

set_option maxHeartbeats 2000000 in
theorem pdq_few (a : Option Addr) (n cap : Nat) (hn : n ≤ 1) (lim : Int) (w : World) : Calls Try.prog 82 #[.slice a n cap, .int .i64 0, .int .i64 (n : Int), .int .i64 lim] w fun e w' => (∃ x, e = .returned x) ∧ w = w' := by
  have H := Lib.hid (insert_few a n cap hn w)
  have hn1 : (n : Int) ≤ 12 := by omega
  go_enter Try.func82, Try.ntmps82
  go_wp2
  go_loopw [1, 2, 3, 8, 9] (fun i j k p q wr => i = .int .i64 0 ∧ j = .int .i64 (n : Int) ∧ w = wr) (fun _ _ _ _ _ _ => 0)
  case atStart => exact ⟨rfl, rfl, rfl⟩
  case round =>
    obtain ⟨rfl, rfl, rfl⟩ := hrel
    go_wp2_with fail
    refine H.out.mono ?_
    rintro e w' ⟨⟨x, rfl⟩, rfl⟩
    go_wp2
    refine bodyPost_ret (results_none rfl _ _ _) rfl ?_
    exact ⟨⟨_, rfl⟩, rfl⟩

theorem pair_few : ∀ ss : List Int, ss.length ≤ 1 → ss.Pairwise (· ≤ ·)
  | [], _ => List.Pairwise.nil
  | [x], _ => List.pairwise_singleton _ _
  | _ :: _ :: _, h => by simp at h
set_option maxHeartbeats 1000000 in
theorem sorts_few : SortsU 1 := by
  intro ss base v w hl hx hr
  have hform : ∃ a cap, v = .slice a ss.length cap := by
    rcases hr.2 with ⟨rfl, h0⟩ | ⟨g, cap, cur, rfl, -⟩
    · exact ⟨none, 0, by rw [h0]⟩
    · exact ⟨_, cap, rfl⟩
  obtain ⟨a, cap, rfl⟩ := hform
  have H1 := Lib.hid (len_few ss.length hl w)
  have H2 := Lib.hid (fun r => pdq_few a ss.length cap hl r w)
  have HR := Lib.hid hr
  have hp := pair_few ss hl
  have HP := Lib.hid hp
  have hl1 : (ss.length : Int) ≤ 1 := by omega
  clear hr hx hp
  go_enter Try.func77, Try.ntmps77
  go_wp2_with fail
  refine H1.out.mono ?_
  rintro e w' ⟨⟨r, rfl⟩, rfl⟩
  go_wp2_with fail
  refine (H2.out r).mono ?_
  rintro e w' ⟨⟨x, rfl⟩, rfl⟩
  go_wp2
  go_end0
  exact ⟨⟨_, rfl⟩, ss, List.Perm.refl _, HP.out, HR.out, Touch.refl _ _⟩
end Rp
end Go.Proofs.Ythapggobpfcmjaa
