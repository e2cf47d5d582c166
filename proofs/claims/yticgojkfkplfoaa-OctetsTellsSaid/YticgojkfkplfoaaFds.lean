/- OctetsFields: a field is as long as it is asked for; what is cut is cut. -/
import Derived.Test.YticgojkfkplfoaaShn
import Derived.Test.YticgojkfkplfoaaBit
import Derived.Deep.QuietTactic
import Derived.BigQuiet
namespace Go.Proofs.Yticgojkfkplfoaa
open Go.RowKit

/-- An int that is cut to a length of three hundred. -/
theorem cut301 (x : Int) : ∃ p : Nat, p ≤ 300 ∧ (bits .and .i64 x 65535).tmod 301 = (p : Int) := by
  refine ⟨(x % 65536 % 301).toNat, by omega, ?_⟩
  rw [and_65535, Int.tmod_eq_emod_of_nonneg (by omega)]
  omega
theorem Below_drewN {B : Nat} {w w1 : World} (h : Below B w w1) (n : Nat) : Below B w (w1.drewN n) := ⟨h.os, h.tape, h.output, h.size, h.block⟩
theorem getD_take (l : List UInt8) (m i : Nat) (h : i < m) : (l.take m).getD i 0 = l.getD i 0 := by
  simp [List.getD, List.getElem?_take, h]
theorem BV.cellk {w : World} {v : Value} {l : List UInt8} {g : Nat} (h : BV w v l g) {k : Nat} (hk : k < l.length) : ∃ off n cap, v = .slice (some ⟨g, off, none⟩) n cap ∧ w.cell? ⟨g, off + k, none⟩ = some (.int .u8 (l[k].toNat : Int)) := by
  obtain ⟨a, cap, rfl, -⟩ := h.form
  obtain ⟨off, rfl, hc⟩ := h.reads.cellk hk
  exact ⟨off, _, cap, rfl, hc⟩

set_option maxRecDepth 100000 in
set_option maxHeartbeats 1000000 in
theorem fields_walk (a : Option Addr) (l : List UInt8) (cap g : Nat) (n0 m0 : Int) (w : World) (h : BV w (.slice a l.length cap) l g) :
    Calls Try.prog 5 #[.slice a l.length cap, .int .i64 n0, .int .i64 m0] w fun e w' => e = .returned (.bool true) ∧ Below w.heap.size w w' := by
  obtain ⟨k, hk1, hk2, hmin⟩ : ∃ n : Nat, n ≤ 200 ∧ n ≤ l.length ∧ (if (200 : Int) < (l.length : Int) then (200 : Int) else (l.length : Int)) = (n : Int) := ⟨min l.length 200, by omega, by omega, min_nat l.length 200⟩
  obtain ⟨n, hn, hn1⟩ := cut301 n0
  obtain ⟨m, hm, hm1⟩ := cut301 m0
  obtain ⟨q, hq, hq1, hq2⟩ : ∃ q : Nat, q = min n m ∧ q ≤ 300 ∧ (if m < n then (m : Int) else (n : Int)) = (q : Int) := ⟨min n m, rfl, by omega, by split <;> omega⟩
  have hcap : k ≤ cap := by obtain ⟨_, c, e, h1, _⟩ := h.form; cases e; omega
  have S := Lib.hid (shown_any w)
  have H := Lib.hid h
  have HQ := Lib.hid hq
  clear h hq
  go_enter Try.func5, Try.ntmps5
  go_wp2_with fail
  refine S.out.mono ?_
  rintro e w1 ⟨rfl, hT⟩
  replace H := Lib.hid ((H.out.below hT).take k hk2 cap hcap (Nat.le_refl _))
  have HT := Lib.hid hT
  clear hT
  have hlk : (l.take k).length = k := by rw [List.length_take]; omega
  generalize l.take k = L at H hlk
  go_wp2_with fail
  refine (field_any _ L g (n : Int) n w1 H.out (by omega)).mono ?_
  rintro e w2 ⟨rfl, hw⟩
  have X := Lib.hid (field_fresh w1 L n)
  replace H := Lib.hid (H.out.alloc (.cells (rowA (Oct.fieldL L n)) 5))
  replace HT := Lib.hid (HT.out.alloc HT.out.size (.cells (rowA (Oct.fieldL L n)) 5))
  rw [hw] at X H HT
  clear hw
  generalize w1.heap.size = gx at X ⊢
  go_wp2_with fail
  refine (field_any _ (Oct.fieldL L n) gx (m : Int) m w2 X.out (by omega)).mono ?_
  rintro e w3 ⟨rfl, hw⟩
  have Y := Lib.hid (field_fresh w2 (Oct.fieldL L n) m)
  replace X := Lib.hid (X.out.alloc (.cells (rowA (Oct.fieldL (Oct.fieldL L n) m)) 5))
  replace H := Lib.hid (H.out.alloc (.cells (rowA (Oct.fieldL (Oct.fieldL L n) m)) 5))
  replace HT := Lib.hid (HT.out.alloc HT.out.size (.cells (rowA (Oct.fieldL (Oct.fieldL L n) m)) 5))
  rw [hw] at X Y H HT
  clear hw
  generalize w2.heap.size = gy at Y ⊢
  go_wp2_with fail
  refine (field_any _ L g (q : Int) q w3 H.out (by omega)).mono ?_
  rintro e w4 ⟨rfl, hw⟩
  have Z := Lib.hid (field_fresh w3 L q)
  replace X := Lib.hid (X.out.alloc (.cells (rowA (Oct.fieldL L q)) 5))
  replace Y := Lib.hid (Y.out.alloc (.cells (rowA (Oct.fieldL L q)) 5))
  replace H := Lib.hid (H.out.alloc (.cells (rowA (Oct.fieldL L q)) 5))
  replace HT := Lib.hid (HT.out.alloc HT.out.size (.cells (rowA (Oct.fieldL L q)) 5))
  rw [hw] at X Y Z H HT
  clear hw
  generalize w3.heap.size = gz at Z ⊢
  go_wp2_with fail
  refine (field_any _ (Oct.fieldL L q) gz (m : Int) m w4 Z.out (by omega)).mono ?_
  rintro e w5 ⟨rfl, hw⟩
  have V := Lib.hid (field_fresh w4 (Oct.fieldL L q) m)
  replace X := Lib.hid (X.out.alloc (.cells (rowA (Oct.fieldL (Oct.fieldL L q) m)) 5))
  replace Y := Lib.hid (Y.out.alloc (.cells (rowA (Oct.fieldL (Oct.fieldL L q) m)) 5))
  replace H := Lib.hid (H.out.alloc (.cells (rowA (Oct.fieldL (Oct.fieldL L q) m)) 5))
  replace HT := Lib.hid (HT.out.alloc HT.out.size (.cells (rowA (Oct.fieldL (Oct.fieldL L q) m)) 5))
  rw [hw] at X Y V H HT
  clear hw Z
  have ky := run_convBytes Y.out.reads
  have kv := run_convBytes V.out.reads
  rw [Oct.field_field, ← HQ.out] at ky
  generalize w4.heap.size = gv at kv ⊢
  clear Y V HQ
  generalize Oct.fieldL (Oct.fieldL L q) m = T at ky kv
  go_wp2
  go_loopw [11] (fun i wr => ∃ k : Nat, k ≤ n ∧ i = .int .i64 k ∧ Below w5.heap.size w5 wr) (fun i _ => n - (intOf i).toNat)
  case atStart => exact ⟨0, Nat.zero_le _, rfl, Below.refl _ _⟩
  case round =>
    obtain ⟨i, hi, rfl, hb⟩ := hrel
    by_cases hlt : i < n
    · obtain ⟨ox, _, _, ex, hx⟩ := (X.out.below hb).cellk (k := i) (by rw [Oct.fieldL_length]; exact hlt)
      cases ex
      rw [Nat.zero_add] at hx
      have hxi : (Oct.fieldL L n)[i]'(by rw [Oct.fieldL_length]; exact hlt) = L.getD i 0 := by
        have := Oct.fieldL_at L n i hlt
        rw [List.getElem?_eq_getElem (by rw [Oct.fieldL_length]; exact hlt)] at this
        exact Option.some.inj this
      rw [hxi] at hx
      clear hxi
      by_cases hil : i < k
      · obtain ⟨ob, _, _, eb, hbb⟩ := (H.out.below hb).cellk (k := i) (by rw [hlk]; exact hil)
        cases eb
        rw [show L[i]'(by rw [hlk]; exact hil) = L.getD i 0 by simp [List.getD, hlk, hil]] at hbb
        have HB := Lib.hid hb
        generalize L.getD i 0 = c at hx hbb
        clear hb
        have b1 : (0 : Int) ≤ (i : Int) := by omega
        have b2 : (i : Int) < (k : Int) := by omega
        have b5 : decide (k ≤ i) = false := by simpa using hil
        have b3 : (i : Int) < (n : Int) := by omega
        go_wp2
        go_quiet (fail)
        go_wp2
        go_roundw
        case rel => exact ⟨i + 1, by omega, by go_num, Below_drewN HB.out _⟩
        case measure => simp [intOf]; omega
      · have HB := Lib.hid hb
        rw [show L.getD i 0 = 0 by simp [List.getD, List.getElem?_eq_none (show L.length ≤ i by omega)]] at hx
        clear hb
        have b0 : decide (i < k) = false := by simpa using hil
        have b1 : (0 : Int) ≤ (i : Int) := by omega
        have b2 : (k : Int) ≤ (i : Int) := by omega
        have b3 : (i : Int) < (n : Int) := by omega
        go_wp2
        go_quiet (fail)
        go_wp2
        go_roundw
        case rel => exact ⟨i + 1, by omega, by go_num, Below_drewN HB.out _⟩
        case measure => simp [intOf]; omega
    · go_wp2
      go_ret
      exact ⟨rfl, HT.out.trans (hb.mono HT.out.size)⟩

end Go.Proofs.Yticgojkfkplfoaa
