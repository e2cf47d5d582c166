/- OctetsOrder: a number is as large as its bytes say, the last one first. -/
import Derived.Test.YticgojkfkplfoaaFds
namespace Go.Proofs.Yticgojkfkplfoaa
open Go.RowKit

theorem of_u64 {x : Int} (h : (Lit.int .u64 x).wf = true) : ∃ X : Nat, X < 18446744073709551616 ∧ x = (X : Int) := by
  have h' : 0 ≤ x ∧ x ≤ 18446744073709551615 := by simpa [Lit.wf, IntKind.min, IntKind.max, IntKind.signed, IntKind.bits] using h
  exact ⟨x.toNat, by omega, by omega⟩
theorem and_7 (x : Int) : ∃ k : Nat, k ≤ 7 ∧ bits .and .i64 x 7 = (k : Int) := by
  have := and_mask_i64 x 3 (by omega)
  simp only [Nat.reducePow, Nat.reduceSub] at this
  rw [show ((7 : Nat) : Int) = 7 from rfl] at this
  exact ⟨_, by omega, this⟩
/-- What the round at i wants: unlike there, alike behind. -/
theorem order_at (X Y : List UInt8) (i : Nat) (hi : i < X.length) (hj : i < Y.length) (hd : X.drop (i + 1) = Y.drop (i + 1)) (hne : X[i] ≠ Y[i]) : (Oct.unle X < Oct.unle Y ↔ X[i].toNat < Y[i].toNat) ∧ Oct.unle X ≠ Oct.unle Y := by
  have hlen : (X.take i).length = (Y.take i).length := by simp; omega
  have e : ∀ (Z : List UInt8) (h : i < Z.length), Z = Z.take i ++ [Z[i]] ++ Z.drop (i + 1) := fun Z h => by
    rw [← List.take_succ_eq_append_getElem h, List.take_append_drop]
  have h := Oct.order (X.take i) (Y.take i) (Y.drop (i + 1)) X[i] Y[i] hlen hne
  rw [UInt8.lt_iff_toNat_lt] at h
  rwa [← hd, ← e X hi, hd, ← e Y hj] at h
theorem drop_eq_at (X Y : List UInt8) (i : Nat) (hi : i < X.length) (hj : i < Y.length) (hd : X.drop (i + 1) = Y.drop (i + 1)) (he : X[i] = Y[i]) : X.drop i = Y.drop i := by
  rw [List.drop_eq_getElem_cons hi, List.drop_eq_getElem_cons hj, he, hd]

set_option maxRecDepth 100000 in
set_option maxHeartbeats 2000000 in
theorem order_walk (A B : Nat) (n0 : Int) (w : World) (hA : A < 18446744073709551616) (hB : B < 18446744073709551616) :
    Calls Try.prog 6 #[.int .u64 (A : Int), .int .u64 (B : Int), .int .i64 n0] w fun e w' => e = .returned (.bool true) ∧ Below w.heap.size w w' := by
  obtain ⟨s0, hs0, hand⟩ := and_7 n0
  obtain ⟨s, hs, hs1, hs8⟩ : ∃ s : Nat, (1 : Int) + (s0 : Int) = (s : Int) ∧ 1 ≤ s ∧ s ≤ 8 := ⟨1 + s0, by omega, by omega, by omega⟩
  have S := Lib.hid (shown_any w)
  go_enter Try.func6, Try.ntmps6
  go_wp2_with fail
  refine S.out.mono ?_
  rintro e w1 ⟨rfl, hT⟩
  have HT := Lib.hid hT
  clear hT S
  go_wp2_with fail
  refine (put_any _ [] 0 (s : Int) s A w1 (BV.nil w1 0) (by decide) (by omega) hA).mono ?_
  rintro e w2 ⟨⟨vx, rfl, gx, hx, -⟩, hb⟩
  rw [List.nil_append] at hx
  obtain ⟨ax, cx, ex, -⟩ := hx.form
  rw [Oct.le_length] at ex
  subst ex
  have X := Lib.hid hx
  replace HT := Lib.hid (HT.out.trans (hb.mono HT.out.size))
  clear hx hb
  go_wp2_with fail
  refine (put_any _ [] 0 (s : Int) s B w2 (BV.nil w2 0) (by decide) (by omega) hB).mono ?_
  rintro e w3 ⟨⟨vy, rfl, gy, hy, -⟩, hb⟩
  rw [List.nil_append] at hy
  obtain ⟨ay, cy, ey, -⟩ := hy.form
  rw [Oct.le_length] at ey
  subst ey
  have Y := Lib.hid hy
  replace X := Lib.hid (X.out.below hb)
  replace HT := Lib.hid (HT.out.trans (hb.mono HT.out.size))
  clear hy hb
  have hlx : (Oct.le s A).length = s := Oct.le_length s A
  have hly : (Oct.le s B).length = s := Oct.le_length s B
  generalize Oct.le s A = XL at X hlx
  generalize Oct.le s B = YL at Y hly
  have hl1 : XL.length ≤ 4294967296 := by omega
  have hl2 : YL.length ≤ 4294967296 := by omega
  go_wp2_with fail
  refine (read_any _ XL gx w3 X.out hl1).mono ?_
  rintro e w4 ⟨⟨bx, gx', rfl, hr, hbb, hgg⟩, hb⟩
  have R := Lib.hid hr
  have NX := Lib.hid (show XL ≠ [] → ¬ gx = bx from fun h => by have := X.out.lt h; omega)
  have NY := Lib.hid (show YL ≠ [] → ¬ gy = bx from fun h => by have := Y.out.lt h; omega)
  have HBX := Lib.hid (Nat.le_trans HT.out.size hbb)
  replace X := Lib.hid (X.out.below hb)
  replace Y := Lib.hid (Y.out.below hb)
  have HT4 := Lib.hid (HT.out.trans (hb.mono HT.out.size))
  clear hr hb hgg
  go_wp2_with fail
  refine (number_ok (s : Int) s bx XL false gx' w4 R.out (by omega) (by omega)).mono ?_
  rintro e w5 ⟨rfl, ht, -⟩
  replace X := Lib.hid (X.out.touch ht NX.out)
  replace Y := Lib.hid (Y.out.touch ht NY.out)
  replace HT := Lib.hid (below_touch1 HT4.out ht HBX.out (Nat.le_refl _))
  rw [List.take_of_length_le (show XL.length ≤ s by omega)]
  clear ht R NX NY HBX HT4 hbb
  go_wp2_with fail
  refine (read_any _ YL gy w5 Y.out hl2).mono ?_
  rintro e w6 ⟨⟨b2, gy', rfl, hr, hbb, hgg⟩, hb⟩
  have R := Lib.hid hr
  have NX := Lib.hid (show XL ≠ [] → ¬ gx = b2 from fun h => by have := X.out.lt h; omega)
  have NY := Lib.hid (show YL ≠ [] → ¬ gy = b2 from fun h => by have := Y.out.lt h; omega)
  have HBX := Lib.hid (Nat.le_trans HT.out.size hbb)
  replace X := Lib.hid (X.out.below hb)
  replace Y := Lib.hid (Y.out.below hb)
  have HT4 := Lib.hid (HT.out.trans (hb.mono HT.out.size))
  clear hr hb hgg
  go_wp2_with fail
  refine (number_ok (s : Int) s b2 YL false gy' w6 R.out (by omega) (by omega)).mono ?_
  rintro e w7 ⟨rfl, ht, -⟩
  replace X := Lib.hid (X.out.touch ht NX.out)
  replace Y := Lib.hid (Y.out.touch ht NY.out)
  replace HT := Lib.hid (below_touch1 HT4.out ht HBX.out (Nat.le_refl _))
  rw [List.take_of_length_le (show YL.length ≤ s by omega)]
  clear ht R NX NY HBX HT4 hbb
  have hu1 : Oct.unle XL < 18446744073709551616 := Nat.lt_of_lt_of_le (Oct.unle_lt XL) (by rw [hlx]; exact Nat.le_trans (Nat.pow_le_pow_right (by omega) hs8) (by decide))
  have hu2 : Oct.unle YL < 18446744073709551616 := Nat.lt_of_lt_of_le (Oct.unle_lt YL) (by rw [hly]; exact Nat.le_trans (Nat.pow_le_pow_right (by omega) hs8) (by decide))
  have HAT := Lib.hid (order_at XL YL)
  have HDR := Lib.hid (drop_eq_at XL YL)
  have HLX := Lib.hid hlx
  have HLY := Lib.hid hly
  clear hlx hly
  have hfin : XL.drop 0 = YL.drop 0 → Oct.unle XL = Oct.unle YL := fun h => by simp only [List.drop_zero] at h; rw [h]
  have HFIN := Lib.hid hfin
  clear hfin hl1 hl2
  generalize Oct.unle XL = m at HAT HFIN hu1 ⊢
  generalize Oct.unle YL = n at HAT HFIN hu2 ⊢
  go_wp2
  go_loopw [12] (fun i wr => ∃ k : Nat, k ≤ s ∧ i = .int .i64 k ∧ XL.drop k = YL.drop k ∧ Below w7.heap.size w7 wr) (fun i _ => (intOf i).toNat)
  case atStart => exact ⟨s, Nat.le_refl _, rfl, by rw [List.drop_eq_nil_of_le (by rw [HLX.out]; exact Nat.le_refl _), List.drop_eq_nil_of_le (by rw [HLY.out]; exact Nat.le_refl _)], Below.refl _ _⟩
  case round =>
    obtain ⟨k, hk, rfl, hd, hb⟩ := hrel
    cases k with
    | zero =>
      have hmn := HFIN.out hd
      subst hmn
      clear hd
      go_wp2
      go_ret
      exact ⟨rfl, HT.out.trans (hb.mono HT.out.size)⟩
    | succ i =>
      have h1 : i < XL.length := by rw [HLX.out]; omega
      have h2 : i < YL.length := by rw [HLY.out]; omega
      obtain ⟨ox, _, _, ex, hx⟩ := (X.out.below hb).cellk h1
      cases ex
      obtain ⟨oy, _, _, ey, hy⟩ := (Y.out.below hb).cellk h2
      cases ey
      have hdr := HDR.out i h1 h2 hd
      have hat := HAT.out i h1 h2 hd
      have HB := Lib.hid hb
      have b1 : (0 : Int) ≤ (i : Int) := by omega
      have b3 : (i : Int) < (s : Int) := by omega
      rw [show ((i + 1 : Nat) : Int) = (i : Int) + 1 by omega]
      by_cases he : XL[i] = YL[i]
      · have HD := Lib.hid (hdr he)
        rw [he] at hx
        generalize YL[i] = c at hx hy
        clear hdr hat hd hb he
        go_wp2
        go_quiet (fail)
        go_wp2
        go_roundw
        case rel => exact ⟨i, by omega, rfl, HD.out, Below_drewN HB.out _⟩
        case measure => simp [intOf]
      · have ⟨hlt, hne⟩ := hat he
        have hne2 : ((XL[i].toNat : Int) != (YL[i].toNat : Int)) = true := by
          simp only [bne_iff_ne, ne_eq]; intro h; exact he (UInt8.toNat_inj.1 (by omega))
        have hne3 : ((m : Int) != (n : Int)) = true := by simp only [bne_iff_ne, ne_eq]; omega
        generalize XL[i].toNat = p at hx hne2 hlt
        generalize YL[i].toNat = q at hy hne2 hlt
        clear hdr hat hd hb he
        obtain ⟨t, d1, d2⟩ : ∃ t : Bool, decide (m < n) = t ∧ decide (p < q) = t := ⟨decide (p < q), by rw [decide_eq_decide]; exact hlt, rfl⟩
        clear hlt hne
        cases t
        all_goals
          go_wp2
          go_quiet (fail)
          go_wp2
          go_quiet (fail)
          go_wp2
          go_ret
          exact ⟨rfl, HT.out.trans ((Below_drewN (Below_drewN HB.out _) _).mono HT.out.size)⟩

end Go.Proofs.Yticgojkfkplfoaa
