/- The document's own answers: Put, Field. -/
import Derived.Test.YticgojkfkplfoaaPut
namespace Go.Proofs.Yticgojkfkplfoaa
open Go.RowKit

set_option maxHeartbeats 1000000 in
theorem refPut_any (v : Value) (l : List UInt8) (g : Nat) (size : Int) (s : Nat) (x : Nat) (w : World) (h : BV w v l g) (hl : l.length + 8 ≤ 4294967296) (hs : min (max size 0) 8 = (s : Int)) (hx : x < 18446744073709551616) :
    Calls Try.prog 12 #[v, .int .i64 size, .int .u64 (x : Int)] w fun e w' => (∃ v', e = .returned v' ∧ Fresh w w' v' (l ++ Oct.le s x)) ∧ Below w.heap.size w w' := by
  obtain ⟨a, cap, rfl, hc, hn⟩ := h.form
  have hs8 : s ≤ 8 := by omega
  have hsz : ∀ k : Nat, k ≤ s → (k < s ↔ ((k : Int) < size ∧ (k : Int) < 8)) := by omega
  have HSZ := Lib.hid hsz
  have H := Lib.hid h
  have HA := Lib.hid (H.out.alloc (.cells #[] 5))
  clear h hs hn hsz
  go_enter Try.func12, Try.ntmps12
  go_wp2_with (at_builtin; refine wpList_append_b rfl (.tmp 9) (.tmp 10) rfl w.heap.size (.slice (some ⟨w.heap.size, 0, none⟩) 0 0) [] rfl (own_none w) _ l g rfl HA.out.reads HA.out.nilc (by simp; omega) (by simp) ?_; intro v1 w2 hown hgrow; have HO := Lib.hid hown; have HG := Lib.hid hgrow; clear hown hgrow)
  have HB := Lib.hid (((Below.refl w.heap.size w).alloc (Nat.le_refl _) (.cells #[] 5)).grown HG.out (by simp) (by intro k hk; simp [Value.ownBlock] at hk; omega))
  clear HG HA
  rw [List.nil_append] at HO
  go_loopw [2, 7, 8] (fun n out i wr => ∃ k : Nat, k ≤ s ∧ i = .int .i64 k ∧ n = .int .u64 ((x / 256 ^ k : Nat) : Int) ∧ wr.ownsRow w.heap.size 5 1 out (l ++ Oct.le k x).length ((l ++ Oct.le k x).map byteV) ∧ Below w.heap.size w wr) (fun _ _ i _ => s - (intOf i).toNat)
  case atStart => exact ⟨0, Nat.zero_le _, rfl, by simp, by simpa [Oct.le] using HO.out, HB.out⟩
  case round =>
    obtain ⟨k, hk, rfl, rfl, hown, hb⟩ := hrel
    by_cases hlt : k < s
    · have hbn := hb.size
      have hbc := byte_at x k
      have hdv := div_next x k
      have hle := Oct.le_succ k x
      have hxx : x / 256 ^ k < 18446744073709551616 := Nat.lt_of_le_of_lt (Nat.div_le_self _ _) hx
      have ⟨hz1, hz2⟩ := (HSZ.out k hk).1 hlt
      generalize x / 256 ^ k = y at hbc hdv hle hxx ⊢
      generalize hz : x / 256 ^ (k + 1) = z at hdv
      have HZ := Lib.hid hz
      clear hz
      generalize UInt8.ofNat (y % 256) = c at hbc hle
      have HLE := Lib.hid hle
      have HOW := Lib.hid hown
      have HBW := Lib.hid hb
      have HL8 := Lib.hid (show (l ++ Oct.le k x).length + [c].length ≤ 4294967296 by simp [Oct.le_length]; omega)
      have HLT := Lib.hid (lit_reads wr #[.int .u8 (c.toNat : Int)] (0, 0) [c] 1 1 (one_row c) rfl)
      clear hle hown hb
      go_wp2_with (at_builtin; refine wpList_append_b rfl (.tmp 21) (.tmp 25) rfl w.heap.size _ (l ++ Oct.le k x) rfl (HOW.out.alloc _) _ [c] wr.heap.size rfl HLT.out (by intro k c h; cases h) HL8.out (by simp; omega) ?_; intro v2 w3 hown hgrow; have HO2 := Lib.hid hown; have HG2 := Lib.hid hgrow; clear hown hgrow)
      have HB2 := Lib.hid ((HBW.out.alloc hbn (.cells #[.int .u8 (c.toNat : Int)] 5)).grown HG2.out (Nat.le_trans hbn (by simp)) fun k hk => (HOW.out.lt k hk).1)
      clear HG2
      go_roundw
      case rel => exact ⟨k + 1, by omega, by go_num, by rw [HZ.out], by have := HO2.out; rw [List.append_assoc, ← HLE.out] at this; exact this, HB2.out⟩
      case measure => simp [intOf]; omega
    · obtain rfl : k = s := by omega
      have hn : ¬ ((k : Int) < size ∧ (k : Int) < 8) := fun hc => hlt ((HSZ.out k hk).2 hc)
      have HOW := Lib.hid hown
      have HBW := Lib.hid hb
      clear hown hb
      by_cases h1 : (k : Int) < size
      · have h2 : ¬ (k : Int) < 8 := fun hc => hn ⟨h1, hc⟩
        go_wp2
        go_ret
        obtain ⟨g', hv, hg'⟩ := BV.of_own HOW.out
        exact ⟨⟨_, rfl, g', hv, hg'⟩, HBW.out⟩
      · go_wp2
        go_ret
        obtain ⟨g', hv, hg'⟩ := BV.of_own HOW.out
        exact ⟨⟨_, rfl, g', hv, hg'⟩, HBW.out⟩

set_option maxHeartbeats 1000000 in
theorem refField_any (v : Value) (l : List UInt8) (g : Nat) (n : Int) (s : Nat) (w : World) (h : BV w v l g) (hs : min (max n 0) 4096 = (s : Int)) :
    Calls Try.prog 13 #[v, .int .i64 n] w fun e w' => (∃ v', e = .returned v' ∧ Fresh w w' v' (Oct.fieldL l s)) ∧ Below w.heap.size w w' := by
  obtain ⟨a, cap, rfl, hc, hn⟩ := h.form
  have hs8 : s ≤ 4096 := by omega
  have hsz : ∀ k : Nat, k ≤ s → (k < s ↔ ((k : Int) < n ∧ (k : Int) < 4096)) := by omega
  have HSZ := Lib.hid hsz
  have H := Lib.hid h
  have HO := Lib.hid (own_none w)
  have HB := Lib.hid ((Below.refl w.heap.size w).alloc (Nat.le_refl _) (.cells #[] 5))
  clear h hs hn hsz
  go_enter Try.func13, Try.ntmps13
  go_wp2
  go_loopw [5, 6, 7] (fun out i c wr => ∃ k : Nat, k ≤ s ∧ i = .int .i64 k ∧ wr.ownsRow w.heap.size 5 1 out (Oct.fieldL l k).length ((Oct.fieldL l k).map byteV) ∧ Below w.heap.size w wr) (fun _ i _ _ => s - (intOf i).toNat)
  case atStart => exact ⟨0, Nat.zero_le _, rfl, by simpa [Oct.fieldL] using HO.out, HB.out⟩
  case round =>
    obtain ⟨k, hk, rfl, hown, hb⟩ := hrel
    by_cases hlt : k < s
    · have hbn := hb.size
      have hle := Oct.fieldL_succ l k
      have ⟨hz1, hz2⟩ := (HSZ.out k hk).1 hlt
      have HOW := Lib.hid hown
      have HBW := Lib.hid hb
      by_cases hkl : k < l.length
      · obtain ⟨off, rfl, hck⟩ := (H.out.below hb).reads.cellk hkl
        have e1 : l.getD k 0 = l[k] := by simp [List.getD, hkl]
        rw [e1] at hle
        generalize l[k] = c at hle hck
        have HLE := Lib.hid hle
        have HL8 := Lib.hid (show (Oct.fieldL l k).length + [c].length ≤ 4294967296 by rw [Oct.fieldL_length]; simp; omega)
        have HLT := Lib.hid (lit_reads wr #[.int .u8 (c.toNat : Int)] (0, 0) [c] 1 1 (one_row c) rfl)
        clear hle hown hb e1
        go_wp2_with (at_builtin; refine wpList_append_b rfl (.tmp 26) (.tmp 28) rfl w.heap.size _ (Oct.fieldL l k) rfl (HOW.out.alloc _) _ [c] wr.heap.size rfl HLT.out (by intro k c h; cases h) HL8.out (by simp; omega) ?_; intro v2 w3 hown hgrow; have HO2 := Lib.hid hown; have HG2 := Lib.hid hgrow; clear hown hgrow)
        have HB2 := Lib.hid ((HBW.out.alloc hbn (.cells #[.int .u8 (c.toNat : Int)] 5)).grown HG2.out (Nat.le_trans hbn (by simp)) fun k hk => (HOW.out.lt k hk).1)
        clear HG2
        go_roundw
        case rel => exact ⟨k + 1, by omega, by go_num, by have := HO2.out; rw [← HLE.out] at this; exact this, HB2.out⟩
        case measure => simp [intOf]; omega
      · have e1 : l.getD k 0 = 0 := by simp [List.getD, List.getElem?_eq_none (show l.length ≤ k by omega)]
        rw [e1] at hle
        have HLE := Lib.hid hle
        have HL8 := Lib.hid (show (Oct.fieldL l k).length + [(0 : UInt8)].length ≤ 4294967296 by rw [Oct.fieldL_length]; simp; omega)
        have HLT := Lib.hid (lit_reads wr #[.int .u8 0] (0, 0) [0] 1 1 rfl rfl)
        clear hle hown hb e1
        go_wp2_with (at_builtin; refine wpList_append_b rfl (.tmp 26) (.tmp 28) rfl w.heap.size _ (Oct.fieldL l k) rfl (HOW.out.alloc _) _ [0] wr.heap.size rfl HLT.out (by intro k c h; cases h) HL8.out (by simp; omega) ?_; intro v2 w3 hown hgrow; have HO2 := Lib.hid hown; have HG2 := Lib.hid hgrow; clear hown hgrow)
        have HB2 := Lib.hid ((HBW.out.alloc hbn (.cells #[.int .u8 0] 5)).grown HG2.out (Nat.le_trans hbn (by simp)) fun k hk => (HOW.out.lt k hk).1)
        clear HG2
        go_roundw
        case rel => exact ⟨k + 1, by omega, by go_num, by have := HO2.out; rw [← HLE.out] at this; exact this, HB2.out⟩
        case measure => simp [intOf]; omega
    · obtain rfl : k = s := by omega
      have hn : ¬ ((k : Int) < n ∧ (k : Int) < 4096) := fun hc => hlt ((HSZ.out k hk).2 hc)
      have HOW := Lib.hid hown
      have HBW := Lib.hid hb
      clear hown hb
      by_cases h1 : (k : Int) < n
      · have h2 : ¬ (k : Int) < 4096 := fun hc => hn ⟨h1, hc⟩
        go_wp2
        go_ret
        obtain ⟨g', hv, hg'⟩ := BV.of_own HOW.out
        exact ⟨⟨_, rfl, g', hv, hg'⟩, HBW.out⟩
      · go_wp2
        go_ret
        obtain ⟨g', hv, hg'⟩ := BV.of_own HOW.out
        exact ⟨⟨_, rfl, g', hv, hg'⟩, HBW.out⟩

end Go.Proofs.Yticgojkfkplfoaa
