/- RingKeeps: a place has what was set there last. -/
import Derived.Test.YtaldkjlmaajapaaRgs
import Derived.Test.YtaldkjlmaajapaaNum
namespace Go.Proofs.Ytaldkjlmaajapaa
open Go.RowKit

def intL (ls : List Int) : List Value := ls.map (Value.int .i64)
theorem intL_set (ls : List Int) (i : Nat) (x : Int) : (intL ls).set i (.int .i64 x) = intL (ls.set i x) := by simp [intL]
theorem intL_length (ls : List Int) : (intL ls).length = ls.length := by simp [intL]
theorem intL_at (ls : List Int) (i : Nat) (h : i < ls.length) : (intL ls)[i]? = some (.int .i64 ls[i]) := by simp [intL, h]
theorem intL_rep (x : Int) (m : Nat) : List.replicate m (Value.int .i64 x) = intL (List.replicate m x) := by simp [intL]

/-- The ring, and the own row, have the same numbers. -/
structure Kp (w : World) (R g o m : Nat) (ls : List Int) (wr : World) : Prop where
  ring : Ringi wr R g m (intL ls)
  own : wr.heap[o]? = some (.cells (intL ls).toArray 3 (0, 0))
  below : Below w.heap.size w wr
/-- Three blocks, unlike, that are new. -/
structure Three (B R g o : Nat) : Prop where
  lr : B ≤ R
  lg : B ≤ g
  lo : B ≤ o
  ro : R ≠ o
  go : g ≠ o
section
variable {w wr w1 : World} {R g o m : Nat} {ls : List Int}
theorem Kp.len (h : Kp w R g o m ls wr) : ls.length = m := by have := h.ring.len; rwa [intL_length] at this
theorem Kp.step (h : Kp w R g o m ls wr) (t : Three w.heap.size R g o) {i : Nat} {x : Int} (hr : Ringi w1 R g m ((intL ls).set i (.int .i64 x))) (ht : Touch (fun k => k = g) wr w1) : Kp w R g o m (ls.set i x) (w1.setCell ⟨o, i, none⟩ (.int .i64 x)) := by
  refine ⟨?_, ?_, ?_⟩
  · rw [intL_set] at hr
    exact hr.touch (F := fun k => k = o) ((Touch.refl (fun k => k = o) w1).setCell (a := ⟨o, i, none⟩) (.inl rfl) _) t.ro t.go
  · rw [heap_setCell_same w1 o i _ _ _ (ht.at h.own (fun e => t.go e.symm)), ← intL_set]; simp
  · exact (((Touch.of_below (F := Emp) h.below).trans (G := fun k => k = g) ht (by rintro k rfl hk; have := t.lg; omega)).setCell (a := ⟨o, i, none⟩) (.inr t.lo) _).below
theorem Kp.ownCell (h : Kp w R g o m ls wr) {i : Nat} (hi : i < m) : wr.cell? ⟨o, i, none⟩ = some (.int .i64 (ls[i]'(by rw [h.len]; exact hi))) := by
  rw [cell_of_row wr o i _ _ _ h.own, List.getElem?_toArray, intL_at]
theorem Kp.drewN (h : Kp w R g o m ls wr) (n : Nat) : Kp w R g o m ls (wr.drewN n) := ⟨h.ring.drewN n, h.own, ((Touch.of_below (F := Emp) h.below).drewN n).below⟩
end

theorem place_at (z k : Nat) (h : z < k) : (z : Int) % k = (z : Int) ∧ ((z : Int) - k) % k = (z : Int) ∧ ((z : Int) + 3 * k) % k = (z : Int) := by
  have h0 : (z : Int) % k = (z : Int) := Int.emod_eq_of_lt (by omega) (by omega)
  refine ⟨h0, ?_, ?_⟩
  · rw [Int.sub_emod_right]; exact h0
  · rw [Int.add_mul_emod_self_right]; exact h0

set_option maxRecDepth 100000 in
set_option maxHeartbeats 2000000 in
theorem keeps_walk (n : Int) (a : Option Addr) (l : List Int) (cap ga : Nat) (w : World) (hl : NV .i64 w (.slice a l.length cap) l ga) (hw : l.length * 8 ≤ 140737488351232) :
    Calls Try.prog 4 #[.int .i64 n, .slice a l.length cap] w fun e w' => e = .returned (.bool true) ∧ Below w.heap.size w w' := by
  obtain ⟨m, hm, hm1, hm2⟩ := few_bd n
  have HM := Lib.hid hm
  have NL := Lib.hid hl
  clear hm hl
  have hmm : m ≤ 1048576 := by omega
  have hll : l.length ≤ 17592186043904 := by omega
  clear hw
  have hmk := fun W => make_i W m hmm
  go_enter Try.func4, Try.ntmps4
  go_wp2_with fail
  refine (shown_any w).mono ?_
  rintro e w0 ⟨rfl, hb0⟩
  have HB0 := Lib.hid hb0
  clear hb0
  go_wp2_with fail
  refine (few_any n m w0 HM.out).mono ?_
  rintro e w' ⟨rfl, rfl⟩
  go_wp2_with fail
  refine (new_i m m (-1) w0 (by omega)).mono ?_
  rintro e w1 ⟨⟨R, g, rfl, hr, hR, hg⟩, hb⟩
  have H := Lib.hid hr
  have HB := Lib.hid (HB0.out.trans (hb.mono HB0.out.size))
  have HT := Lib.hid (show Three w.heap.size R g w1.heap.size from ⟨Nat.le_trans HB0.out.size hR, Nat.le_trans HB0.out.size hg, HB.out.size, Nat.ne_of_lt hr.lt.1, Nat.ne_of_lt hr.lt.2⟩)
  clear hr hb HB0 hR hg
  go_wp2_with fail
  go_loopw [8] (fun i wr => ∃ k : Nat, k ≤ m ∧ i = .int .i64 k ∧ FillR w1 (.int .i64 (-1)) (.int .i64 0) 3 m k wr) (fun i _ => m - (intOf i).toNat)
  case atStart => exact ⟨0, Nat.zero_le _, rfl, (Below.refl _ w1).alloc (Nat.le_refl _) _, by rw [fillR_zero', ← fillR_zero' (.int .i64 0)]; exact heap_alloc_new w1 _⟩
  case round =>
    obtain ⟨k, hk, rfl, hF⟩ := hrel
    have HF := Lib.hid hF
    clear hF
    by_cases hlt : k < m
    · obtain ⟨⟨u, hu⟩, hfz⟩ := HF.out.cell hlt
      go_wp2
      go_roundw
      case rel => exact ⟨k + 1, by omega, by go_num, HF.out.step hlt⟩
      case measure => simp [intOf]; omega
    · obtain rfl : k = m := by omega
      have K := Lib.hid (show Kp w R g w1.heap.size k (List.replicate k (-1)) wr from ⟨by rw [← intL_rep]; exact H.out.below HF.out.below, by rw [HF.out.row, fillR_full, intL_rep], HB.out.trans (HF.out.below.mono HB.out.size)⟩)
      clear hk hmk H HF HB
      generalize w1.heap.size = o at K HT ⊢
      go_wp2_with fail
      go_loopw [9] (fun i wx => ∃ (j : Nat) (ls : List Int), j ≤ l.length ∧ j ≤ 200 ∧ i = .int .i64 j ∧ Kp w R g o k ls wx) (fun i _ => l.length - (intOf i).toNat)
      case atStart => exact ⟨0, _, Nat.zero_le _, Nat.zero_le _, rfl, K.out⟩
      case round =>
        clear K
        obtain ⟨j, ls, hj1, hj2, rfl, hK⟩ := hrel
        have K := Lib.hid hK
        clear hK
        by_cases hlt : j < l.length ∧ j < 200
        · obtain ⟨hlt1, hlt2⟩ := hlt
          obtain ⟨off, rfl, hc⟩ := (NL.out.low K.out.below NL.out.lt).cell_at hlt1
          obtain ⟨i, hi, him⟩ := place_nat l[j] k hm1
          have S1 := Lib.hid (set_i R g k i _ l[j] j wr K.out.ring hm1 hmm hi)
          have HC := Lib.hid hc
          have HI := Lib.hid hi
          go_wp2_with fail
          refine S1.out.mono ?_
          rintro e w2 ⟨rfl, hr, ht⟩
          have KS := Lib.hid (K.out.step HT.out hr ht)
          have hc2 := (World.cell?_of_block (ht.block ga (World.block_lt_of_cell? wr ⟨ga, off + j, none⟩ hc) (by
            rintro rfl
            have := NL.out.lt (by rintro h; rw [h] at hlt1; simp at hlt1)
            have := HT.out.lg
            omega))).trans hc
          have hown := ht.at K.out.own (fun e => HT.out.go e.symm)
          have hf0 := frozen_of_row w2 o i _ _ hown
          obtain ⟨u, hu⟩ : ∃ u, w2.cell? ⟨o, i, none⟩ = some u := ⟨_, by rw [cell_of_row w2 o i _ _ _ hown, List.getElem?_toArray, intL_at _ _ (by rw [K.out.len]; exact him)]⟩
          clear hc hr ht hown S1 hi
          generalize l[j] = x at *
          by_cases h0 : 0 ≤ x
          · have hi := HI.out
            obtain ⟨b1, b2⟩ := place_bd x k hm1
            go_wp2
            go_roundw
            case rel => exact ⟨j + 1, _, by omega, by omega, by go_num, KS.out⟩
            case measure => simp [intOf]; omega
          · obtain ⟨b1, b2, b3, b4⟩ := tmod_neg x k (by omega) hm1
            by_cases hlt3 : x.tmod k < 0
            · have hi := (b3 hlt3).trans HI.out
              clear b3 b4
              go_wp2
              go_roundw
              case rel => exact ⟨j + 1, _, by omega, by omega, by go_num, KS.out⟩
              case measure => simp [intOf]; omega
            · have hi := (b4 hlt3).trans HI.out
              clear b3 b4
              go_wp2
              go_roundw
              case rel => exact ⟨j + 1, _, by omega, by omega, by go_num, KS.out⟩
              case measure => simp [intOf]; omega
        · have hend : j = l.length ∨ (j < l.length ∧ 200 ≤ j) := by omega
          clear hlt
          have HLL := Lib.hid K.out.len
          have HKB := Lib.hid (fun z (hz : z < k) => (place_at z k hz))
          have hx1 : IntKind.i64.wrap (3 * (k : Int)) = 3 * (k : Int) := by rw [IntKind.wrap_i64]; omega
          rcases hend with rfl | ⟨he1, he2⟩
          all_goals
            go_wp2_with fail
            go_loopw [11] (fun i wr => ∃ z : Nat, z ≤ k ∧ i = .int .i64 z ∧ Kp w R g o k ls wr) (fun i _ => k - (intOf i).toNat)
            case atStart => exact ⟨0, Nat.zero_le _, rfl, K.out⟩
            case round =>
              clear K
              obtain ⟨z, hz, rfl, hK⟩ := hrel
              have K := Lib.hid hK
              clear hK
              by_cases hlt : z < k
              · obtain ⟨p1, p2, p3⟩ := HKB.out z hlt
                have P1 := Lib.hid p1
                have P2 := Lib.hid p2
                have P3 := Lib.hid p3
                have hcz := K.out.ownCell hlt
                have hzl : z < ls.length := by rw [HLL.out]; exact hlt
                have GQ := Lib.hid (fun m b (hb : b % k = (z : Int)) => get_i R g k z (intL ls) b ls[z] (wr.drewN m) (K.out.ring.drewN m) hm1 hmm hb (intL_at ls z hzl))
                clear p1 p2 p3
                generalize ls[z] = y at hcz GQ
                clear hzl
                have hx2 : IntKind.i64.wrap ((z : Int) - k) = (z : Int) - k := by rw [IntKind.wrap_i64]; omega
                have hx3 : IntKind.i64.wrap ((z : Int) + 3 * k) = (z : Int) + 3 * k := by rw [IntKind.wrap_i64]; omega
                have hlt' : (z : Int) < (k : Int) := by omega
                go_wp2_with fail
                go_quiet ((go_at_call 15; first | exact Calls.quiet_of (GQ.out _ _ P1.out) | exact Calls.quiet_of (GQ.out _ _ P2.out) | exact Calls.quiet_of (GQ.out _ _ P3.out)))
                go_wp2
                go_roundw
                case rel => exact ⟨z + 1, by omega, by go_num, K.out.drewN _⟩
                case measure => simp [intOf]; omega
              · obtain rfl : z = k := by omega
                go_wp2
                go_ret
                exact ⟨rfl, K.out.below⟩

end Go.Proofs.Ytaldkjlmaajapaa
