/- OctetsParts: what is read in parts is what is read at once. -/
import Derived.Test.YticgojkfkplfoaaMid
namespace Go.Proofs.Yticgojkfkplfoaa
open Go.RowKit

/-- What holds at a round's head. -/
structure ParI (w : World) (a : Option Addr) (k cap : Nat) (L : List UInt8) (g b : Nat) (g' : Nat) (vs : Value) (M : List UInt8) (gs : Nat) (p : Nat) (wr : World) : Prop where
  row : BV wr (.slice a k cap) L g
  sizes : BV wr vs M gs
  rdr : Rdr wr b (L.drop p) false g'
  tot : Below w.heap.size w wr
  le : p ≤ k
  nb : L ≠ [] → g ≠ b
  ns : M ≠ [] → gs ≠ b
  high : w.heap.size ≤ b

theorem ParI.drewN {w : World} {a : Option Addr} {k cap : Nat} {L : List UInt8} {g b g' : Nat} {vs : Value} {M : List UInt8} {gs p : Nat} {wr : World} (h : ParI w a k cap L g b g' vs M gs p wr) (n : Nat) : ParI w a k cap L g b g' vs M gs p (wr.drewN n) :=
  ⟨h.row.drewN n, h.sizes.drewN n, h.rdr.touch (F := Emp) ((Touch.refl Emp wr).drewN n) id fun _ => id, Below_drewN h.tot n, h.le, h.nb, h.ns, h.high⟩
set_option maxRecDepth 100000 in
set_option maxHeartbeats 2000000 in
theorem parts_walk (a : Option Addr) (l : List UInt8) (cap g : Nat) (a1 : Option Addr) (M : List UInt8) (c1 g1 : Nat) (w : World) (h : BV w (.slice a l.length cap) l g) (h1 : BV w (.slice a1 M.length c1) M g1) (hM : M.length ≤ 140737488351232) :
    Calls Try.prog 7 #[.slice a l.length cap, .slice a1 M.length c1] w fun e w' => e = .returned (.bool true) ∧ Below w.heap.size w w' := by
  obtain ⟨k, hk1, hk2, hmin⟩ : ∃ n : Nat, n ≤ 200 ∧ n ≤ l.length ∧ (if (200 : Int) < (l.length : Int) then (200 : Int) else (l.length : Int)) = (n : Int) := ⟨min l.length 200, by omega, by omega, min_nat l.length 200⟩
  have hcap : k ≤ cap := by obtain ⟨_, c, e, h1, _⟩ := h.form; cases e; omega
  have S := Lib.hid (shown_any w)
  have H := Lib.hid h
  have H1 := Lib.hid h1
  clear h h1
  go_enter Try.func7, Try.ntmps7
  go_wp2_with fail
  refine S.out.mono ?_
  rintro e w1 ⟨rfl, hT⟩
  replace H := Lib.hid ((H.out.below hT).take k hk2 cap hcap (Nat.le_refl _))
  replace H1 := Lib.hid (H1.out.below hT)
  have HT := Lib.hid hT
  clear hT S
  have hlk : (l.take k).length = k := by rw [List.length_take]; omega
  generalize l.take k = L at H hlk
  have HLK := Lib.hid hlk
  have hl5 : L.length ≤ 4294967296 := by omega
  clear hlk
  go_wp2_with fail
  refine (read_any _ L g w1 H.out hl5).mono ?_
  rintro e w2 ⟨⟨b, g', rfl, hr, hbb, hgg⟩, hb⟩
  have I := Lib.hid (show ParI w a k cap L g b g' (.slice a1 M.length c1) M g1 0 w2 from ⟨H.out.below hb, H1.out.below hb, by rw [List.drop_zero]; exact hr, HT.out.trans (hb.mono HT.out.size), Nat.zero_le _, fun h => by have := H.out.lt h; omega, fun h => by have := H1.out.lt h; omega, Nat.le_trans HT.out.size hbb⟩)
  clear hr hbb hgg hb H H1 HT hl5
  go_wp2
  go_loopw [7, 8, 9, 10] (fun at_ i n x wr => ∃ p q : Nat, q ≤ M.length ∧ q ≤ 100 ∧ at_ = .int .i64 p ∧ i = .int .i64 q ∧ ParI w a k cap L g b g' (.slice a1 M.length c1) M g1 p wr) (fun _ i _ _ _ => M.length - (intOf i).toNat)
  case atStart => exact ⟨0, 0, Nat.zero_le _, by omega, rfl, rfl, I.out⟩
  case round =>
    obtain ⟨p, q, hq1, hq2, rfl, rfl, hI⟩ := hrel
    have hp := hI.le
    replace I := Lib.hid hI
    clear hI
    by_cases hlt : q < M.length ∧ q < 100
    · obtain ⟨hx1, hx2⟩ := hlt
      obtain ⟨os, rfl, hcs⟩ := I.out.sizes.reads.cellk hx1
      have hz0 : (0 : Int) ≤ (M[q].toNat : Int) := by omega
      have hz1 : (M[q].toNat : Int) ≤ 255 := by have := M[q].toNat_lt; omega
      obtain ⟨n, hn, hn16⟩ : ∃ n : Nat, ((M[q].toNat : Int) % 16) = (n : Int) ∧ n < 16 := ⟨M[q].toNat % 16, by omega, by omega⟩
      generalize (M[q].toNat : Int) = z at hcs hn hz0 hz1
      have hq3 : (q : Int) < 100 := by omega
      have hq4 : (q : Int) < (M.length : Int) := by omega
      have hlen : (L.drop p).length = k - p := by rw [List.length_drop, HLK.out]
      by_cases hnp : n ≤ k - p
      · have HBY := Lib.hid (bytes_ok (n : Int) n b (L.drop p) false g' wr I.out.rdr (by omega) (by omega) (by omega))
        go_wp2_with fail
        refine HBY.out.mono ?_
        rintro e w3 ⟨⟨vx, rfl, gx, hx, hgx⟩, ht, hr⟩
        have I3 := Lib.hid (show ParI w a k cap L g b g' _ M g1 (p + n) w3 from
          ⟨I.out.row.touch ht I.out.nb, I.out.sizes.touch ht I.out.ns, by rw [← List.drop_drop]; exact hr, below_touch1 I.out.tot ht I.out.high (Nat.le_refl _), by omega, I.out.nb, I.out.ns, I.out.high⟩)
        have kx := fun j => run_convBytes (hx.drewN j).reads
        have km := fun j => run_convBytes ((I3.out.row.mid p n (by omega)).drewN j).reads
        have hm := fun W => run_mid W a k cap p (p + n) (by omega) (by omega) ((p : Int) + (n : Int)) (by omega)
        rw [show p + n - p = n by omega] at hm
        generalize (if cap = p then a else a.map (·.add p)) = A at hm km
        have hc1 : (n : Int) ≤ (k : Int) - (p : Int) := by omega
        clear hx hgx ht hr HBY I
        go_wp2_with fail
        go_quiet ((go_at_call 16; exact Calls.quiet_of_same (fine_q I3.out.rdr _)))
        go_wp2
        go_roundw
        case rel => exact ⟨p + n, q + 1, by omega, by omega, by go_num, by go_num, I3.out.drewN _⟩
        case measure => simp [intOf]; omega
      · have HBY := Lib.hid (bytes_short n b (L.drop p) false g' wr I.out.rdr (by omega))
        go_wp2_with fail
        refine HBY.out.mono ?_
        rintro e w3 ⟨⟨vx, rfl, gx, hx, hgx⟩, ht, hr⟩
        obtain ⟨ax, cx, rfl, -⟩ := hx.form
        have HT3 := Lib.hid (below_touch1 I.out.tot ht I.out.high (Nat.le_refl _))
        have HL := Lib.hid (left_any b [] true g' w3 hr)
        have HF := Lib.hid (fine_any b [] true g' w3 hr)
        have hc1 : (k : Int) - (p : Int) < (n : Int) := by omega
        clear hx hgx ht hr HBY I
        go_wp2_with fail
        refine HL.out.mono ?_
        rintro e w4 ⟨rfl, rfl⟩
        go_wp2_with fail
        refine HF.out.mono ?_
        rintro e w4 ⟨rfl, rfl⟩
        go_wp2
        go_ret
        exact ⟨rfl, HT3.out⟩
    · have HL := Lib.hid (left_any b (L.drop p) false g' wr I.out.rdr)
      rw [List.length_drop, HLK.out, show ((k - p : Nat) : Int) = (k : Int) - (p : Int) by omega] at HL
      by_cases h1 : q < M.length
      · have h2 : decide ((q : Int) < 100) = false := by simp; omega
        have h3 : ¬ (q : Int) < 100 := by omega
        go_wp2_with fail
        refine HL.out.mono ?_
        rintro e w4 ⟨rfl, rfl⟩
        go_wp2
        go_ret
        exact ⟨rfl, I.out.tot⟩
      · go_wp2_with fail
        refine HL.out.mono ?_
        rintro e w4 ⟨rfl, rfl⟩
        go_wp2
        go_ret
        exact ⟨rfl, I.out.tot⟩

end Go.Proofs.Yticgojkfkplfoaa
