/- TableNone: what there is not is nowhere, and nothing may be put there. -/
import Derived.Test.YtcjokhbpnlokhaaTbs
namespace Go.Proofs.Ytcjokhbpnlokhaa
open Go.RowKit

theorem min50_run (n : Int) : ∃ m : Int, m ≤ 50 ∧ m = min n 50 ∧ ∀ W : World, (Builtin.min_ #[3, 3] 3 #[.int .i64 n, .int .i64 50]).run Try.prog W = .ok (.int .i64 m) W := by
  refine ⟨min n 50, by omega, rfl, fun W => ?_⟩
  simp [Builtin.min_, Builtin.min2]
  split <;> omega
set_option maxRecDepth 100000 in
set_option maxHeartbeats 2000000 in
theorem none_walk (n k id p : Int) (w : World) :
    Calls Try.prog 4 #[.int .i64 n, .int .i64 k, .int .i64 id, .int .i64 p] w fun e w' => e = .returned (.bool true) ∧ Below w.heap.size w w' := by
  obtain ⟨b, hb, -, hbr⟩ := min50_run n
  obtain ⟨s, hs, -, hsr⟩ := min50_run k
  obtain ⟨B, hB⟩ : ∃ B : Nat, min (max b 0) 1048576 = (B : Int) := ⟨(min (max b 0) 1048576).toNat, by omega⟩
  obtain ⟨S, hS⟩ : ∃ S : Nat, min (max s 0) 1048576 = (S : Int) := ⟨(min (max s 0) 1048576).toNat, by omega⟩
  have hBb : ∀ x : Int, 0 ≤ x → (x < b ↔ x < (B : Int)) := fun x hx => by omega
  have hSs : ∀ x : Int, 0 ≤ x → (x < s ↔ x < (S : Int)) := fun x hx => by omega
  have NW := Lib.hid (fun W => new_any b s B S W hB hS)
  have HBb := Lib.hid hBb
  have HSs := Lib.hid hSs
  clear hB hS hBb hSs
  go_enter Try.func4, Try.ntmps4
  go_wp2_with fail
  refine (shown_any w).mono ?_
  rintro e w0 ⟨rfl, hb0⟩
  have B0 := Lib.hid hb0
  clear hb0
  go_wp2_with fail
  refine (NW.out w0).mono ?_
  rintro e w1 ⟨⟨T, gp, go, rfl, h1, hT, hp, ho⟩, hb1⟩
  have H := Lib.hid h1
  have B1 := Lib.hid hb1
  have HT := Lib.hid (And.intro hT (And.intro hp ho))
  clear h1 hb1 hT hp ho
  have END := Lib.hid (show ∀ w2, Touch (Own3 T gp go) w1 w2 → Below w.heap.size w w2 from fun w2 ht => by
    obtain ⟨x1, x2, x3⟩ := HT.out
    have hs0 := B0.out.size
    have hb := B0.out.trans (B1.out.mono hs0)
    exact ((Touch.of_below (F := Emp) hb).trans ht (by rintro k (rfl | rfl | rfl) hk <;> omega)).below)
  by_cases hin : 0 ≤ id ∧ id < b ∧ 0 ≤ p ∧ p < s
  · obtain ⟨i1, i2, i3, i4⟩ := hin
    have j2 := (HBb.out id i1).1 i2
    have j4 := (HSs.out p i3).1 i4
    obtain ⟨i, rfl⟩ : ∃ i : Nat, id = (i : Int) := ⟨id.toNat, by omega⟩
    obtain ⟨q, rfl⟩ : ∃ q : Nat, p = (q : Int) := ⟨p.toNat, by omega⟩
    have hi : i < B := by omega
    have hq : q < S := by omega
    clear j2 j4
    go_wp2_with fail
    refine (put_ok H.out hi hq (.inl rfl)).mono ?_
    rintro e w2 ⟨rfl, h2, ht2⟩
    have H2 := Lib.hid h2
    have T2 := Lib.hid ht2
    clear h2 ht2
    go_wp2_with fail
    refine (lenq H2.out 1 (by rw [cnt_put hi, upd_nil, cnt_nil])).mono ?_
    rintro e w' ⟨rfl, rfl⟩
    go_wp2
    go_ret
    exact ⟨rfl, END.out _ T2.out⟩
  · have hno : ¬ (0 ≤ id ∧ id < B ∧ 0 ≤ p ∧ p < S ∧ (nil0 p.toNat = none ∨ nil0 p.toNat = some id.toNat)) := by
      rintro ⟨a1, a2, a3, a4, -⟩
      exact hin ⟨a1, (HBb.out id a1).2 a2, a3, (HSs.out p a3).2 a4⟩
    have hcase : id < 0 ∨ (0 ≤ id ∧ b ≤ id) ∨ (0 ≤ id ∧ id < b ∧ p < 0) ∨ (0 ≤ id ∧ id < b ∧ 0 ≤ p ∧ s ≤ p) := by omega
    have PN := Lib.hid (put_no H.out id p hno)
    clear hin hno
    have DN := Lib.hid (drop_nil H.out id)
    rcases hcase with q1 | ⟨q1, q2⟩ | ⟨q1, q2, q3⟩ | ⟨q1, q2, q3, q4⟩
    all_goals
      go_wp2_with fail
      refine PN.out.mono ?_
      rintro e w' ⟨rfl, rfl⟩
      go_wp2_with fail
      refine DN.out.mono ?_
      rintro e w2 ⟨rfl, h2, ht2⟩
      have H2 := Lib.hid h2
      have T2 := Lib.hid ht2
      clear h2 ht2
      go_wp2_with fail
      refine (atq H2.out id none (look_nil id)).mono ?_
      rintro e w' ⟨rfl, rfl⟩
      simp only [ans, Option.isSome]
      go_wp2_with fail
      refine (ownerq H2.out p none (look_nil p)).mono ?_
      rintro e w' ⟨rfl, rfl⟩
      simp only [ans, Option.isSome]
      go_wp2_with fail
      refine (lenq H2.out 0 (cnt_nil B)).mono ?_
      rintro e w' ⟨rfl, rfl⟩
      go_wp2
      go_ret
      exact ⟨rfl, END.out _ T2.out⟩

end Go.Proofs.Ytcjokhbpnlokhaa
