/- TableFull: as many blocks may be as there are places. -/
import Derived.Test.YtcjokhbpnlokhaaTbs
namespace Go.Proofs.Ytcjokhbpnlokhaa
open Go.RowKit

/-- The first m blocks, each at its own place. -/
def dia (m : Nat) : Nat → Option Nat := fun i => if i < m then some i else none
theorem dia_zero : dia 0 = nil0 := by funext i; simp [dia]
theorem dia_put (k : Nat) : upd (dia k) k (some k) = dia (k + 1) ∧ putO (dia k) (dia k) k k = dia (k + 1) := by
  have h : upd (dia k) k (some k) = dia (k + 1) := by
    funext i
    by_cases h1 : i = k
    · subst h1; simp [upd, dia]
    · simp only [upd, dia, h1, if_false]
      by_cases h2 : i < k
      · rw [if_pos h2, if_pos (by omega)]
      · rw [if_neg h2, if_neg (by omega)]
  exact ⟨h, by unfold putO dropO; rw [show dia k k = none by simp [dia]]; exact h⟩
theorem dia_drop (m i : Nat) : dropO (dia m) (dia m) i = upd (dia m) i none := by
  unfold dropO
  by_cases h : i < m
  · rw [show dia m i = some i by simp [dia, h]]
  · have : dia m i = none := by simp [dia, h]
    have hu := upd_self (dia m) i
    rw [this] at hu ⊢
    exact hu.symm
theorem cnt_dia (m : Nat) : ∀ n, cnt (dia m) n = min m n
  | 0 => by simp [cnt]
  | n + 1 => by
    simp only [cnt]; rw [cnt_dia m n]
    by_cases h : n < m
    · simp [dia, h]; omega
    · simp [dia, h]; omega
theorem cnt_dia_drop (m i n : Nat) (hn : m ≤ n) : cnt (upd (dia m) i none) n = if i < m then m - 1 else m := by
  by_cases h : i < m
  · have := cnt_upd (dia m) i none n (by omega)
    rw [cnt_dia, show dia m i = some i by simp [dia, h]] at this
    simp at this
    simp only [h, if_true]
    omega
  · have e : dia m i = none := by simp [dia, h]
    rw [← e, upd_self, cnt_dia, if_neg h]
    omega
theorem mod51 (n : Int) : ∃ m : Nat, (n % 65536).tmod 51 = (m : Int) ∧ m ≤ 50 := ⟨((n % 65536).tmod 51).toNat, by
  have h := Int.emod_nonneg n (show (65536 : Int) ≠ 0 by decide)
  rw [Int.tmod_eq_emod_of_nonneg h]; omega, by
  have h := Int.emod_nonneg n (show (65536 : Int) ≠ 0 by decide)
  rw [Int.tmod_eq_emod_of_nonneg h]; omega⟩
theorem min_run2 (a b : Nat) : ∀ W : World, (Builtin.min_ #[3, 3] 3 #[.int .i64 (a : Int), .int .i64 (b : Int)]).run Try.prog W = .ok (.int .i64 ((min a b : Nat) : Int)) W := by
  intro W
  simp [Builtin.min_, Builtin.min2]
  split <;> omega
set_option maxRecDepth 100000 in
set_option maxHeartbeats 2000000 in
theorem full_walk (n k by_ : Int) (w : World) :
    Calls Try.prog 6 #[.int .i64 n, .int .i64 k, .int .i64 by_] w fun e w' => e = .returned (.bool true) ∧ Below w.heap.size w w' := by
  have a1 := and_65535 n
  have a2 := and_65535 k
  have a3 := and_65535 by_
  obtain ⟨B, hB, hB5⟩ := mod51 n
  obtain ⟨S, hS, hS5⟩ := mod51 k
  obtain ⟨D, hD, hD5⟩ := mod51 by_
  have r1 : 0 ≤ n % 65536 ∧ n % 65536 < 65536 := by omega
  have r2 : 0 ≤ k % 65536 ∧ k % 65536 < 65536 := by omega
  have r3 : 0 ≤ by_ % 65536 ∧ by_ % 65536 < 65536 := by omega
  obtain ⟨r1, s1⟩ := r1
  obtain ⟨r2, s2⟩ := r2
  obtain ⟨r3, s3⟩ := r3
  generalize n % 65536 = n' at *
  generalize k % 65536 = k' at *
  generalize by_ % 65536 = d' at *
  have NW := Lib.hid (fun W => new_any (B : Int) S B S W (by omega) (by omega))
  have MN := min_run2 B S
  obtain ⟨m, hm⟩ : ∃ m : Nat, min B S = m := ⟨_, rfl⟩
  rw [hm] at MN
  have HM := Lib.hid hm
  clear hm
  go_enter Try.func6, Try.ntmps6
  go_wp2_with fail
  refine (shown_any w).mono ?_
  rintro e w0 ⟨rfl, hb0⟩
  have B0 := Lib.hid hb0
  clear hb0
  go_wp2_with fail
  refine (NW.out w0).mono ?_
  rintro e w1 ⟨⟨T, gp, go, rfl, h1, hT, hp, ho⟩, hb1⟩
  have H := Lib.hid h1
  have B1 := Lib.hid hb1
  have HT := Lib.hid (And.intro hT (And.intro hp ho))
  clear h1 hb1 hT hp ho NW
  have END := Lib.hid (show ∀ w2, Touch (Own3 T gp go) w1 w2 → Below w.heap.size w w2 from fun w2 ht => by
    obtain ⟨x1, x2, x3⟩ := HT.out
    have hs0 := B0.out.size
    have hb := B0.out.trans (B1.out.mono hs0)
    exact ((Touch.of_below (F := Emp) hb).trans ht (by rintro k (rfl | rfl | rfl) hk <;> omega)).below)
  go_wp2
  go_loopw [9, 10] (fun i _ wr => ∃ j : Nat, j ≤ B ∧ i = .int .i64 j ∧ TabAt wr T gp go B S (dia (min j S)) (dia (min j S)) ∧ Touch (Own3 T gp go) w1 wr) (fun i _ _ => B - (intOf i).toNat)
  case atStart => exact ⟨0, Nat.zero_le _, rfl, by rw [Nat.zero_min, dia_zero]; exact H.out, Touch.refl _ _⟩
  case round =>
    obtain ⟨j, hj, rfl, hF, hT⟩ := hrel
    have HF := Lib.hid hF
    have TF := Lib.hid hT
    clear hF hT
    by_cases hlt : j < B
    · by_cases hs : j < S
      · have PO := Lib.hid (put_ok (i := j) (p := j) HF.out hlt hs (.inl (by simp [dia]; omega)))
        go_wp2_with fail
        refine PO.out.mono ?_
        rintro e w2 ⟨rfl, h2, ht2⟩
        rw [show min j S = j by omega, (dia_put j).1, (dia_put j).2] at h2
        have H2 := Lib.hid h2
        have T2 := Lib.hid (TF.out.trans ht2 fun k hk _ => hk)
        clear h2 ht2
        go_wp2
        go_roundw
        case rel => exact ⟨j + 1, by omega, by go_num, by rw [show min (j + 1) S = j + 1 by omega]; exact H2.out, T2.out⟩
        case measure => simp [intOf]; omega
      · have PN := Lib.hid (put_no HF.out (j : Int) (j : Int) (by omega))
        go_wp2_with fail
        refine PN.out.mono ?_
        rintro e w' ⟨rfl, rfl⟩
        go_wp2
        go_roundw
        case rel => exact ⟨j + 1, by omega, by go_num, by rw [show min (j + 1) S = min j S by omega]; exact HF.out, TF.out⟩
        case measure => simp [intOf]; omega
    · obtain rfl : j = B := by omega
      rw [HM.out] at HF
      clear hlt hj
      have LN := Lib.hid (lenq HF.out m (by rw [cnt_dia]; have := HM.out; omega))
      go_wp2_with fail
      refine LN.out.mono ?_
      rintro e w' ⟨rfl, rfl⟩
      have hd := drop_any HF.out (D : Int)
      rw [lookI_nat] at hd
      have hdb : (dia m D).isSome = decide (D < m) := by
        by_cases h : D < m <;> simp [dia, h]
      rw [hdb] at hd
      have DR := Lib.hid hd
      clear hd hdb
      obtain ⟨K, hK⟩ : ∃ K : Nat, (if D < m then m - 1 else m) = K := ⟨_, rfl⟩
      have hmj : m ≤ j ∧ m ≤ S := by have := HM.out; omega
      have KB := Lib.hid ((cnt_dia_drop m D j hmj.1).trans hK)
      have KS := Lib.hid ((cnt_dia_drop m D S hmj.2).trans hK)
      have SW := Lib.hid TF.out
      by_cases hDm : D < m
      · have hdt : decide (D < m) = true := by simp [hDm]
        rw [hdt] at DR
        have hK1 : K + 1 = m := by rw [if_pos hDm] at hK; omega
        have hK2 : ((K : Int) == (m : Int) - 1) = true := by rw [beq_iff_eq]; omega
        clear hmj hK hdt
        go_wp2_with fail
        refine DR.out.mono ?_
        rintro e w2 ⟨rfl, ⟨a', o', h2, hx, -⟩, ht2⟩
        obtain ⟨rfl, rfl⟩ := hx (by omega)
        rw [Int.toNat_natCast, dia_drop] at h2
        have H2 := Lib.hid h2
        have T2 := Lib.hid (TF.out.trans ht2 fun k hk _ => hk)
        clear h2 ht2 hx HF TF DR
        have LN := Lib.hid (lenq H2.out K KB.out)
        generalize upd (dia m) D none = f at *
        go_wp2
        go_loopw [13, 14] (fun c i wr => ∃ q : Nat, q ≤ S ∧ c = .int .i64 (cnt f q : Nat) ∧ i = .int .i64 q ∧ wr = w2) (fun _ i _ => S - (intOf i).toNat)
        case atStart => exact ⟨0, Nat.zero_le _, rfl, rfl, rfl⟩
        case round =>
          obtain ⟨q, hq, rfl, rfl, rfl⟩ := hrel
          have hcle := cnt_le f q
          by_cases hqs : q < S
          · have OW := Lib.hid (ownerq H2.out (q : Int) (f q) (lookI_nat f q))
            have hcs : cnt f (q + 1) = cnt f q + if (f q).isSome then 1 else 0 := rfl
            have HCS := Lib.hid hcs
            clear hcs
            generalize cnt f q = C at *
            cases e : f q with
            | none =>
              rw [e] at OW HCS
              go_wp2_with fail
              refine OW.out.mono ?_
              rintro e w' ⟨rfl, rfl⟩
              simp only [ans, Option.isSome]
              go_wp2
              go_roundw
              case rel => exact ⟨q + 1, by omega, by rw [HCS.out]; rfl, by go_num, by first | rfl | trivial⟩
              case measure => simp [intOf]; omega
            | some z =>
              rw [e] at OW HCS
              go_wp2_with fail
              refine OW.out.mono ?_
              rintro e w' ⟨rfl, rfl⟩
              simp only [ans, Option.isSome]
              go_wp2
              go_roundw
              case rel => exact ⟨q + 1, by omega, by rw [HCS.out]; rfl, by go_num, by first | rfl | trivial⟩
              case measure => simp [intOf]; omega
          · obtain rfl : q = S := by omega
            rw [KS.out]
            have hm50 : m ≤ 50 := by have := HM.out; omega
            clear hcle hq hqs
            go_wp2_with fail
            refine LN.out.mono ?_
            rintro e w' ⟨rfl, rfl⟩
            go_wp2
            go_ret
            exact ⟨rfl, END.out _ T2.out⟩
      · have hdt : decide (D < m) = false := by simp [hDm]
        rw [hdt] at DR
        have hK1 : K = m := by rw [if_neg hDm] at hK; omega
        have hK2 : ((K : Int) == (m : Int)) = true := by rw [beq_iff_eq]; omega
        clear hmj hK hdt
        go_wp2_with fail
        refine DR.out.mono ?_
        rintro e w2 ⟨rfl, ⟨a', o', h2, hx, -⟩, ht2⟩
        obtain ⟨rfl, rfl⟩ := hx (by omega)
        rw [Int.toNat_natCast, dia_drop] at h2
        have H2 := Lib.hid h2
        have T2 := Lib.hid (TF.out.trans ht2 fun k hk _ => hk)
        clear h2 ht2 hx HF TF DR
        have LN := Lib.hid (lenq H2.out K KB.out)
        generalize upd (dia m) D none = f at *
        go_wp2
        go_loopw [13, 14] (fun c i wr => ∃ q : Nat, q ≤ S ∧ c = .int .i64 (cnt f q : Nat) ∧ i = .int .i64 q ∧ wr = w2) (fun _ i _ => S - (intOf i).toNat)
        case atStart => exact ⟨0, Nat.zero_le _, rfl, rfl, rfl⟩
        case round =>
          obtain ⟨q, hq, rfl, rfl, rfl⟩ := hrel
          have hcle := cnt_le f q
          by_cases hqs : q < S
          · have OW := Lib.hid (ownerq H2.out (q : Int) (f q) (lookI_nat f q))
            have hcs : cnt f (q + 1) = cnt f q + if (f q).isSome then 1 else 0 := rfl
            have HCS := Lib.hid hcs
            clear hcs
            generalize cnt f q = C at *
            cases e : f q with
            | none =>
              rw [e] at OW HCS
              go_wp2_with fail
              refine OW.out.mono ?_
              rintro e w' ⟨rfl, rfl⟩
              simp only [ans, Option.isSome]
              go_wp2
              go_roundw
              case rel => exact ⟨q + 1, by omega, by rw [HCS.out]; rfl, by go_num, by first | rfl | trivial⟩
              case measure => simp [intOf]; omega
            | some z =>
              rw [e] at OW HCS
              go_wp2_with fail
              refine OW.out.mono ?_
              rintro e w' ⟨rfl, rfl⟩
              simp only [ans, Option.isSome]
              go_wp2
              go_roundw
              case rel => exact ⟨q + 1, by omega, by rw [HCS.out]; rfl, by go_num, by first | rfl | trivial⟩
              case measure => simp [intOf]; omega
          · obtain rfl : q = S := by omega
            rw [KS.out]
            have hm50 : m ≤ 50 := by have := HM.out; omega
            clear hcle hq hqs
            go_wp2_with fail
            refine LN.out.mono ?_
            rintro e w' ⟨rfl, rfl⟩
            go_wp2
            go_ret
            exact ⟨rfl, END.out _ T2.out⟩

end Go.Proofs.Ytcjokhbpnlokhaa
