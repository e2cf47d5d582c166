/- TableMoves: a block that moves leaves its place to others. -/
import Derived.Test.YtcjokhbpnlokhaaTbs
import Derived.Test.YtcjokhbpnlokhaaNum
namespace Go.Proofs.Ytcjokhbpnlokhaa
open Go.RowKit

/-- The table, block 1 being where 'last' says; block 0 is nowhere. -/
def Mv (w1 : World) (T gp go : Nat) (last : Option Nat) (wr : World) : Prop :=
  ∃ a o, TabAt wr T gp go 3 30 a o ∧ a 0 = none ∧ a 1 = last ∧ Touch (Own3 T gp go) w1 wr
theorem mod30 (n : Int) : ∃ m : Nat, (n % 65536).tmod 30 = (m : Int) ∧ m < 30 := ⟨((n % 65536).tmod 30).toNat, by
  have h := Int.emod_nonneg n (show (65536 : Int) ≠ 0 by decide)
  rw [Int.tmod_eq_emod_of_nonneg h]; omega, by
  have h := Int.emod_nonneg n (show (65536 : Int) ≠ 0 by decide)
  rw [Int.tmod_eq_emod_of_nonneg h]; omega⟩
theorem put_left {a o : Nat → Option Nat} {i p q : Nat} (ha : a i = some q) (hq : q ≠ p) : putO a o i p q = none := by
  simp [putO, dropO, ha, upd, hq]
set_option maxRecDepth 100000 in
set_option maxHeartbeats 4000000 in
theorem moves_walk (ad : Option Addr) (l : List Int) (cap ga : Nat) (w : World) (hl : NV .i64 w (.slice ad l.length cap) l ga) (hw : l.length * 8 ≤ 140737488351232) :
    Calls Try.prog 5 #[.slice ad l.length cap] w fun e w' => e = .returned (.bool true) ∧ Below w.heap.size w w' := by
  have NL := Lib.hid hl
  have hll : l.length ≤ 17592186043904 := by omega
  clear hw hl
  go_enter Try.func5, Try.ntmps5
  go_wp2_with fail
  refine (shown_any w).mono ?_
  rintro e w0 ⟨rfl, hb0⟩
  have B0 := Lib.hid hb0
  clear hb0
  go_wp2_with fail
  refine (new_any 3 30 3 30 w0 (by decide) (by decide)).mono ?_
  rintro e w1 ⟨⟨T, gp, go, rfl, h1, hT, hp, ho⟩, hb1⟩
  have H := Lib.hid h1
  have B1 := Lib.hid hb1
  have HT := Lib.hid (And.intro hT (And.intro hp ho))
  clear h1 hb1 hT hp ho
  have END := Lib.hid (show ∀ w2, Touch (Own3 T gp go) w1 w2 → Below w.heap.size w w2 from fun w2 ht => by
    obtain ⟨x1, x2, x3⟩ := HT.out
    have hs0 := B0.out.size
    have hb := B0.out.trans (B1.out.mono hs0)
    exact ((Touch.of_below (F := Emp) hb).trans ht (by rintro k (rfl | rfl | rfl) hk <;> omega)).below)
  go_wp2
  go_loopw [5, 6] (fun la i wr => ∃ (j : Nat) (last : Option Nat), j ≤ l.length ∧ j ≤ 40 ∧ i = .int .i64 j ∧ la = .int .i64 (enc last) ∧ Mv w1 T gp go last wr) (fun _ i _ => l.length - (intOf i).toNat)
  case atStart => exact ⟨0, none, Nat.zero_le _, Nat.zero_le _, rfl, rfl, nil0, nil0, H.out, rfl, rfl, Touch.refl _ _⟩
  case round =>
    obtain ⟨j, last, hj1, hj2, rfl, rfl, a, o, hF, ha0, ha1, hTc⟩ := hrel
    have HF := Lib.hid hF
    have TF := Lib.hid hTc
    have A0 := Lib.hid ha0
    have A1 := Lib.hid ha1
    clear hF hTc ha0 ha1
    by_cases hlt : j < l.length ∧ j < 40
    · obtain ⟨hlt1, hlt2⟩ := hlt
      obtain ⟨off, rfl, hc⟩ := (NL.out.low (END.out _ TF.out) NL.out.lt).cell_at hlt1
      have an := and_65535 l[j]
      obtain ⟨p, hp, hp30⟩ := mod30 l[j]
      have r1 : 0 ≤ l[j] % 65536 ∧ l[j] % 65536 < 65536 := by omega
      obtain ⟨r1, r2⟩ := r1
      generalize l[j] % 65536 = y at *
      generalize l[j] = x at *
      have OW := Lib.hid (ownerq HF.out (p : Int) (o p) (lookI_nat o p))
      by_cases hfree : o p = none ∨ o p = some 1
      · have PO := Lib.hid (put_ok (i := 1) (p := p) HF.out (by decide) hp30 hfree)
        rcases hfree with e | e
        all_goals
          rw [e] at OW
          clear e
          go_wp2_with fail
          refine OW.out.mono ?_
          rintro e w' ⟨rfl, rfl⟩
          simp only [ans, Option.isSome]
          go_wp2_with fail
          refine PO.out.mono ?_
          rintro e w2 ⟨rfl, h2, ht2⟩
          have H2 := Lib.hid h2
          have T2 := Lib.hid (TF.out.trans ht2 fun k hk _ => hk)
          clear h2 ht2
          go_wp2_with fail
          refine (atq H2.out 1 (some p) (upd_same a 1 (some p))).mono ?_
          rintro e w' ⟨rfl, rfl⟩
          simp only [ans, Option.isSome]
          have M2 := Lib.hid (show Mv w1 T gp go (some p) w2 from ⟨_, _, H2.out, by rw [upd_other _ _ (by decide)]; exact A0.out, upd_same _ _ _, T2.out⟩)
          cases hla : last with
          | none =>
            simp only [enc]
            go_wp2
            go_roundw
            case rel => exact ⟨j + 1, some p, by omega, by omega, by go_num, rfl, M2.out⟩
            case measure => simp [intOf]; omega
          | some q =>
            simp only [enc]
            rw [hla] at A1
            by_cases hqp : q = p
            · subst hqp
              go_wp2
              go_roundw
              case rel => exact ⟨j + 1, some q, by omega, by omega, by go_num, rfl, M2.out⟩
              case measure => simp [intOf]; omega
            · have b1 : ((q : Int) != (p : Int)) = true := by rw [bne_iff_ne]; omega
              have b2 : ((q : Int) == (p : Int)) = false := by rw [beq_eq_false_iff_ne]; omega
              have hq30 := (HF.out.good.lt 1 q A1.out).2
              have hleft : putO a o 1 p q = none := put_left A1.out hqp
              have OW2 := Lib.hid (ownerq H2.out (q : Int) none (by rw [lookI_nat, hleft]))
              have PO2 := Lib.hid (put_ok (i := 2) (p := q) H2.out (by decide) hq30 (.inl hleft))
              clear hleft hla
              go_wp2_with fail
              refine OW2.out.mono ?_
              rintro e w' ⟨rfl, rfl⟩
              simp only [ans, Option.isSome]
              go_wp2_with fail
              refine PO2.out.mono ?_
              rintro e w3 ⟨rfl, h3, ht3⟩
              have M3 := Lib.hid (show Mv w1 T gp go (some p) w3 from ⟨_, _, h3, by rw [upd_other _ _ (by decide), upd_other _ _ (by decide)]; exact A0.out, by rw [upd_other _ _ (by decide)]; exact upd_same _ _ _, T2.out.trans ht3 fun k hk _ => hk⟩)
              clear h3 ht3
              go_wp2
              go_roundw
              case rel => exact ⟨j + 1, some p, by omega, by omega, by go_num, rfl, M3.out⟩
              case measure => simp [intOf]; omega
      · have PN := Lib.hid (put_no HF.out 1 (p : Int) (by
          rintro ⟨-, -, -, -, h⟩
          exact hfree (by simpa using h)))
        cases hop : o p with
        | none => exact (hfree (.inl hop)).elim
        | some z =>
          rw [hop] at OW
          have hz : z ≠ 1 := fun e => hfree (.inr (by rw [hop, e]))
          have b1 : ((z : Int) != 1) = true := by rw [bne_iff_ne]; omega
          have b2 : ((z : Int) == 1) = false := by rw [beq_eq_false_iff_ne]; omega
          clear hop hfree
          go_wp2_with fail
          refine OW.out.mono ?_
          rintro e w' ⟨rfl, rfl⟩
          simp only [ans, Option.isSome]
          go_wp2_with fail
          refine PN.out.mono ?_
          rintro e w' ⟨rfl, rfl⟩
          go_wp2
          go_roundw
          case rel => exact ⟨j + 1, last, by omega, by omega, by go_num, rfl, _, _, HF.out, A0.out, A1.out, TF.out⟩
          case measure => simp [intOf]; omega
    · have hend : j = l.length ∨ (j < l.length ∧ 40 ≤ j) := by omega
      obtain ⟨n, hn⟩ : ∃ n, cnt a 3 = n := ⟨_, rfl⟩
      have hn2 : n ≤ 2 := by
        rw [← hn]
        have h3 : ∀ x : Option Nat, (if x.isSome then 1 else 0) ≤ 1 := fun x => by cases x <;> simp
        have e1 := h3 (a 1)
        have e2 := h3 (a 2)
        simp only [cnt]
        rw [A0.out]
        simp only [Option.isSome_none, Bool.false_eq_true, if_false]
        omega
      have LN := Lib.hid (lenq HF.out n hn)
      clear hlt hn
      rcases hend with e | ⟨e, e2⟩
      all_goals
        go_wp2_with fail
        refine LN.out.mono ?_
        rintro e w' ⟨rfl, rfl⟩
        go_wp2
        go_ret
        exact ⟨congrArg (fun b => Ending.returned (.bool b)) (decide_eq_true (by omega : (n : Int) ≤ 2)), END.out _ TF.out⟩

end Go.Proofs.Ytcjokhbpnlokhaa
