/- DeviceOwn: the walk. -/
import Derived.Test.YtmedpmhiebcdjaaOwn
namespace Go.Proofs.Ytmedpmhiebcdjaa
open Go.RowKit

set_option maxRecDepth 100000 in
set_option maxHeartbeats 4000000 in
theorem own_walk (n : Int) (a1 : Option Addr) (n1 c1 : Nat) (l : List Int) (g1 : Nat) (w : World) (hn1 : l.length = n1) (hc1 : ∀ k c, Value.slice a1 n1 c1 = .slice none k c → c = 0) (h1 : Came w a1 l g1) (hm : l.length * 8 ≤ 140737488351232) :
    Calls Try.prog 7 #[.int .i64 n, .slice a1 n1 c1] w fun e w' => e = .returned (.bool true) ∧ Below w.heap.size w w' := by
  have HN1 := Lib.hid hn1
  have H1 := Lib.hid h1
  have HC1 := Lib.hid hc1
  have HM := Lib.hid hm
  clear hn1 h1 hc1 hm
  obtain ⟨Z5, hmk5, hz5⟩ : ∃ Z, (∀ W, (Instr.makeSlice 29 (.int .i64 512) (.int .i64 512)).run Try.prog W = .ok (.slice (some ⟨W.heap.size, 0, none⟩) 512 512) (W.alloc (.cells Z 5))) ∧ Z = rowA (zerosL 512) := ⟨_, run_make512, rfl⟩
  have HZ5 := Lib.hid hz5
  clear hz5
  go_enter Try.func7, Try.ntmps7
  go_wp2_with fail
  refine (shown_any w).mono ?_
  rintro e w1 ⟨rfl, hT⟩
  go_wp2_with fail
  refine (new_has 2 w1 (by omega) (by omega)).mono ?_
  rintro e w2 ⟨rfl, ht1, -, hq⟩
  have hI : OInv w (w1.heap.size + 2) (DSt.new 2) (fun k => k < w.heap.size) w2 := ⟨hq.mono fun k hk => Nat.lt_of_lt_of_le hk hT.size, hT.trans (ht1.below.mono hT.size), fun _ h => h⟩
  have HI := Lib.hid hI
  clear hI hq ht1 hT
  generalize w1.heap.size + 2 = b at HI ⊢
  go_wp2_with fail
  refine (sector_any _ _).mono ?_
  rintro e w3 ⟨rfl, rfl⟩
  go_wp2_with fail
  have hw := oA_write (sectorL n) (sectorL_length n)
  refine (write_has (HI.out.alloc _).has ((new_up 2).fit (by omega)) 1 _ (sectorL n) _ (sec_reads w2 n) fun _ => .inr rfl).mono ?_
  rw [hw.1, hw.2]
  rintro e w3 ⟨rfl, hk, hq⟩
  have HIB := Lib.hid (show w.heap.size ≤ w2.heap.size from HI.out.below.size)
  replace HI := Lib.hid ((HI.out.alloc (.cells (rowA (sectorL n)) 5)).keep hk hq)
  have HBY : Hid (Bytes w3 w2.heap.size 512) := Lib.hid (by
    have h : ByteRow (w2.alloc (.cells (rowA (sectorL n)) 5)) w2.heap.size (sectorL n) := heap_alloc_new _ _
    have h : ByteRow w3 w2.heap.size (sectorL n) := hk.heap h (.inr rfl)
    have := h.bytes; rwa [sectorL_length] at this)
  clear hk hq hw
  generalize w2.heap.size = gb at HI HBY HIB ⊢
  go_wp2_with fail
  go_loopw [9] (fun i wr => ∃ k : Nat, k ≤ 512 ∧ i = .int .i64 k ∧ OInv w b (oA (sectorL n) 0) (Or1 (fun k => k < w.heap.size) gb) wr ∧ Bytes wr gb 512) (fun i _ => 512 - (intOf i).toNat)
  case atStart => exact ⟨0, Nat.zero_le _, rfl, HI.out, HBY.out⟩
  case round =>
    obtain ⟨k, hk1, rfl, hI, hBy⟩ := hrel
    replace HI := Lib.hid hI
    replace HBY := Lib.hid hBy
    clear hI hBy
    by_cases hlt : k < 512
    · obtain ⟨z, hz, hcell, hfr⟩ := HBY.out.cell hlt
      go_wp2
      go_roundw
      case rel =>
        refine ⟨k + 1, by omega, by go_num, HI.out.own (((Touch.refl (fun k => k = gb) _)).setCell (a := ⟨gb, k, none⟩) (.inl rfl) _) (by rintro k rfl; exact ⟨.inr rfl, HIB.out⟩), HBY.out.set k (z := 255 - z) (by omega) (by omega)⟩
      case measure => simp [intOf]; omega
    · obtain rfl : k = 512 := by omega
      replace HI := Lib.hid (HI.out.mono (Y := fun k => k < w.heap.size) (fun k hk => .inl hk) fun _ h => h)
      clear HBY HIB
      go_wp2_with fail
      have hrd := oA_read (sectorL n) 0
      refine (read_has HI.out.has (oA_fit _ _ (by omega)) 1).mono ?_
      rw [hrd.1, hrd.2]
      clear hrd
      rintro e w4 ⟨v, rfl, hk, hq, gx, hr, hx⟩
      obtain ⟨hgx1, hgx2, hrow, hq'⟩ := hx (sectorL_ne n)
      obtain ⟨cx, rfl⟩ := reads_row hr hrow (sectorL_ne n)
      replace hq' := Lib.hid (show OInv w b (oA (sectorL n) (0 + 1)) (Or1 (fun k => k < w.heap.size) gx) w4 from ⟨hq', (HI.out.keep hk hq).below, fun k hk => .inl hk⟩)
      rw [sectorL_length] at hr
      have HIX := Lib.hid (show w.heap.size ≤ gx from Nat.le_trans HI.out.below.size hgx1)
      have HR := Lib.hid hr
      have HBY := Lib.hid (show Bytes w4 gx 512 by have := hrow.bytes; rwa [sectorL_length] at this)
      replace HI := hq'
      clear hq' hq hk hr hrow hx
      go_wp2_with fail
      refine (sector_any _ _).mono ?_
      rintro e w5 ⟨rfl, rfl⟩
      go_wp2_with fail
      refine (same_true _ _ _ gx _ _ (HR.out.touch ((Touch.refl Emp w4).alloc _) id) (sec_reads w4 n)).mono ?_
      rintro e w5 ⟨rfl, rfl⟩
      replace HBY : Hid (Bytes (w4.alloc (.cells (rowA (sectorL n)) 5)) gx 512) := Lib.hid (by obtain ⟨c, h1, h2⟩ := HBY.out; exact ⟨c, cell_heap_past h1 _, h2⟩)
      replace HI := Lib.hid ((HI.out.alloc (.cells (rowA (sectorL n)) 5)).mono (fun k => .inl) HI.out.old)
      generalize w4.alloc (.cells (rowA (sectorL n)) 5) = w5 at HI HBY ⊢
      rw [sectorL_length] at *
      clear HR hgx1 hgx2
      go_wp2_with fail
      go_loopw [12] (fun i wr => ∃ k : Nat, k ≤ 512 ∧ i = .int .i64 k ∧ OInv w b (oA (sectorL n) (0 + 1)) (Or1 (fun k => k < w.heap.size) gx) wr ∧ Bytes wr gx 512) (fun i _ => 512 - (intOf i).toNat)
      case atStart => exact ⟨0, Nat.zero_le _, rfl, HI.out, HBY.out⟩
      case round =>
        obtain ⟨k, hk1, rfl, hI, hBy⟩ := hrel
        replace HI := Lib.hid hI
        replace HBY := Lib.hid hBy
        clear hI hBy
        by_cases hlt : k < 512
        · obtain ⟨z, hz, hcell, hfr⟩ := HBY.out.cell hlt
          go_wp2
          go_roundw
          case rel => exact ⟨k + 1, by omega, by go_num, HI.out.own (((Touch.refl (fun k => k = gx) _)).setCell (a := ⟨gx, k, none⟩) (.inl rfl) _) (by rintro k rfl; exact ⟨.inr rfl, HIX.out⟩), HBY.out.set k (z := 77) (by omega) (by omega)⟩
          case measure => simp [intOf]; omega
        · obtain rfl : k = 512 := by omega
          replace HI := Lib.hid (HI.out.mono (Y := fun k => k < w.heap.size) (fun k hk => .inl hk) fun _ h => h)
          clear HBY HIX
          have HB := Lib.hid (HI.out.below.alloc HI.out.below.size (.cells #[] 3))
          have HKV := Lib.hid (H1.out.ireads (c := c1) HN1.out HB.out).1.vals
          have HO := Lib.hid (show (wr.alloc (.cells #[] 3)).ownsRow wr.heap.size 3 1 (.slice (some ⟨wr.heap.size, 0, none⟩) 0 0) 0 [] from World.ownsRow_made wr #[] 0 (Nat.le_refl _) (Nat.zero_le _) rfl)
          have HONE := Lib.hid (show ∀ (l : List Int), ∀ u ∈ l.map (Value.int .i64), u.oneCell' = true by intro l u hu; obtain ⟨x, _, rfl⟩ := List.mem_map.1 hu; rfl)
          have HMX := Lib.hid (show 0 + (l.map (Value.int .i64)).length ≤ maxLen ∧ (0 + (l.map (Value.int .i64)).length) * 8 ≤ 140737488355328 by rw [List.length_map]; have := HM.out; unfold maxLen; omega)
          obtain ⟨i0, hi, hz0, hz1, hz2⟩ := info_parts Try.info3
          go_wp2_with (at_builtin; refine wpList_append_v rfl (.tmp 75) (.tmp 76) 22 rfl wr.heap.size 3 i0 (.int .i64 0) 8 Try.underlying22 hi hz0 hz1 hz2 rfl (.slice (some ⟨wr.heap.size, 0, none⟩) 0 0) 0 [] rfl HO.out _ (l.map (Value.int .i64)) g1 rfl HKV.out HC1.out (HONE.out l) HMX.out.1 HMX.out.2 (by simp) ?_; intro v1 w6 hown hgrow; have HO1 := Lib.hid hown; have HG1 := Lib.hid hgrow; clear hown hgrow)
          have hex : ∃ (a : Option Addr) (cap go : Nat) (X : Nat → Prop), v1 = .slice a l.length cap ∧ OInv w b (oA (sectorL n) (0 + 1)) X w6 ∧ IReads w6 (.slice a l.length cap) l go ∧
              (l ≠ [] → X go ∧ w.heap.size ≤ go ∧ Ints0 w6 go l.length ∧ a = some ⟨go, 0, none⟩) := by
            have hown : w6.ownsRow wr.heap.size 3 1 v1 (0 + (l.map (Value.int .i64)).length) (l.map (Value.int .i64)) := by have := HO1.out; rwa [List.nil_append] at this
            obtain ⟨a, cap, rfl, hne⟩ := own_ints hown
            have hT : Touch Emp wr w6 := Touch.of_below (((Below.refl wr.heap.size wr).alloc (Nat.le_refl _) _).grown HG1.out (by simp) (by intro k hk; simp [Value.ownBlock] at hk; omega))
            have hI : OInv w b (oA (sectorL n) (0 + 1)) (fun k => k < w.heap.size) w6 := HI.out.own hT fun _ h => h.elim
            by_cases h0 : l = []
            · exact ⟨a, cap, 0, _, rfl, hI, ⟨0, cap, .inr ⟨⟨a, by rw [h0]; rfl⟩, h0⟩⟩, fun h => absurd h0 h⟩
            · obtain ⟨g, rfl, hg1, hg2, c, hc1, hc2⟩ := hne h0
              refine ⟨_, cap, g, Or1 (fun k => k < w.heap.size) g, rfl, ⟨?_, hI.below, fun k hk => .inl hk⟩, ireads_own hc1 hc2, fun _ => ⟨.inr rfl, Nat.le_trans HI.out.below.size hg1, ⟨c, hc1, fun i hi => ?_⟩, rfl⟩⟩
              · obtain ⟨F, d1, d2, d3⟩ := HI.out.has
                refine ⟨F, d1.touch hT fun _ _ h => h, fun k hk => ⟨Nat.lt_of_lt_of_le (d2 k hk).1 hT.size, ?_⟩, ?_⟩
                · rintro (hx | rfl)
                  · exact (d2 k hk).2 hx
                  · have := (d2 _ hk).1; omega
                · rintro k (hx | rfl)
                  · exact Nat.lt_of_lt_of_le (d3 k hx) hT.size
                  · exact hg2
              · have h1 : (c.toList.take l.length)[i]? = c[i]? := by rw [List.getElem?_take, if_pos hi]; simp
                exact ⟨l[i], by rw [← h1, hc2]; simp [hi]⟩
          obtain ⟨ao, co, go, X, rfl, hI, hR, hX⟩ := hex
          replace HI := Lib.hid hI
          have HR := Lib.hid hR
          have HX := Lib.hid hX
          clear hI hR hX HO1 HG1 HO HMX HONE HKV HB
          go_wp2_with fail
          refine (arm_has HI.out.has 1 (by omega) _ l go HR.out (fun h => (HX.out h).1) HM.out).mono ?_
          rw [oB_arm]
          rintro e w7 ⟨rfl, hk, hq⟩
          replace HX : Hid (l ≠ [] → X go ∧ w.heap.size ≤ go ∧ Ints0 w7 go l.length ∧ ao = some ⟨go, 0, none⟩) := Lib.hid fun h => by
            obtain ⟨x1, x2, ⟨c, x3, x4⟩, x5⟩ := HX.out h
            exact ⟨x1, x2, ⟨c, hk.heap x3 x1, x4⟩, x5⟩
          replace HI := Lib.hid (HI.out.keep hk hq)
          clear hk hq HR
          go_wp2_with fail
          go_loopw [14] (fun i wr => ∃ k : Nat, k ≤ l.length ∧ i = .int .i64 k ∧ OInv w b (oB (sectorL n) (0 + 1) 1 l) X wr ∧ (l ≠ [] → Ints0 wr go l.length)) (fun i _ => l.length - (intOf i).toNat)
          case atStart => exact ⟨0, Nat.zero_le _, rfl, HI.out, fun h => (HX.out h).2.2.1⟩
          case round =>
            obtain ⟨k, hk1, rfl, hI, hBy⟩ := hrel
            replace HI := Lib.hid hI
            have HBY := Lib.hid hBy
            clear hI hBy
            by_cases hlt : k < l.length
            · have hne : l ≠ [] := fun h => by rw [h] at hlt; simp at hlt
              obtain ⟨z, hcell, hfr⟩ := (HBY.out hne).cell hlt
              obtain ⟨x1, x2, -, rfl⟩ := HX.out hne
              have X1 := Lib.hid x1
              have X2 := Lib.hid x2
              clear x1 x2
              have hk63 : k < 9000000000000000000 := by have := HM.out; omega
              go_wp2
              go_roundw
              case rel => exact ⟨k + 1, by omega, by go_num, HI.out.own (((Touch.refl (fun k => k = go) _)).setCell (a := ⟨go, k, none⟩) (.inl rfl) _) (by rintro k rfl; exact ⟨X1.out, X2.out⟩), fun _ => (HBY.out hne).set k _⟩
              case measure => simp [intOf]; omega
            · obtain rfl : k = l.length := by omega
              replace HI := Lib.hid (HI.out.mono (Y := fun k => k < w.heap.size) (fun k hk => HI.out.old k hk) fun _ h => h)
              clear HX HBY
              go_wp2_with fail
              refine (read_has HI.out.has (oB_fit _ _ _ _ (by omega)) 1).mono ?_
              rw [(oB_read (sectorL n) (0 + 1) l).1, (oB_read (sectorL n) (0 + 1) l).2]
              rintro e w8 ⟨vy, rfl, hk, hq, gy, hr, hx⟩
              obtain ⟨-, -, -, hq'⟩ := hx (sectorL_ne n)
              have HY := Lib.hid hr
              replace hq' := Lib.hid (show OInv w b (oB (sectorL n) (0 + 1 + 1) 0 l) (Or1 (fun k => k < w.heap.size) gy) w8 from ⟨hq', (HI.out.keep hk hq).below, fun k hk => .inl hk⟩)
              replace HI := hq'
              clear hq' hq hk hr hx
              go_wp2_with fail
              refine (read_has HI.out.has (oB_fit _ _ _ _ (by omega)) 1).mono ?_
              rw [(oB_fires (sectorL n) (0 + 1 + 1) l).1, (oB_fires (sectorL n) (0 + 1 + 1) l).2]
              rintro e w9 ⟨vh, rfl, hk, hq, -⟩
              replace HY := Lib.hid (HY.out.keep hk fun _ => .inr rfl)
              replace HI := Lib.hid (HI.out.keep hk hq)
              clear hk hq
              go_wp2_with fail
              refine (start_has HI.out.has).mono ?_
              rw [(oB_end (sectorL n) (0 + 1 + 1) l).1]
              rintro e w10 ⟨rfl, hk, hq⟩
              replace HY := Lib.hid (HY.out.keep hk fun _ => .inr rfl)
              replace HI := Lib.hid (HI.out.keep hk hq)
              clear hk hq
              go_wp2_with fail
              refine (read_has HI.out.has (oC_fit _ _ _ (by omega)) 1).mono ?_
              rw [(oB_end (sectorL n) (0 + 1 + 1) l).2.2.2]
              rintro e w11 ⟨vz, rfl, hk, hq, gz, hr, -⟩
              replace HY := Lib.hid (HY.out.keep hk fun _ => .inr rfl)
              have HB := Lib.hid (HI.out.keep hk hq).below
              have HZ := Lib.hid hr
              clear hk hq hr HI
              have h4 : (0 < n1 ∧ l.getD 0 0 = 1 ∧ ownL (l.getD 0 0) (sectorL n) = (0, sectorL n)) ∨ (0 < n1 ∧ l.getD 0 0 = 2 ∧ ownL (l.getD 0 0) (sectorL n) = (3, [])) ∨
                  (0 < n1 ∧ ((l.getD 0 0 == 1) = false ∧ (l.getD 0 0 == 2) = false) ∧ ownL (l.getD 0 0) (sectorL n) = (0, zerosL 512)) ∨ (n1 = 0 ∧ ownL (l.getD 0 0) (sectorL n) = (0, zerosL 512)) := by
                have hn := HN1.out
                by_cases hl : 0 < n1
                · by_cases h1 : l.getD 0 0 = 1
                  · exact .inl ⟨hl, h1, by rw [ownL, if_pos h1]⟩
                  · by_cases h2 : l.getD 0 0 = 2
                    · exact .inr (.inl ⟨hl, h2, by rw [ownL, if_neg h1, if_pos h2]⟩)
                    · exact .inr (.inr (.inl ⟨hl, ⟨by simpa using h1, by simpa using h2⟩, by rw [ownL, if_neg h1, if_neg h2]⟩))
                · obtain rfl : l = [] := List.eq_nil_of_length_eq_zero (by omega)
                  exact .inr (.inr (.inr ⟨by omega, rfl⟩))
              rcases h4 with ⟨hl, hv, hx⟩ | ⟨hl, hv, hx⟩ | ⟨hl, hv, hx⟩ | ⟨rfl, hx⟩
              all_goals
                rw [hx] at HZ ⊢
                simp only at HZ
                clear hx
              · have hl' : 0 < l.length := by rw [HN1.out]; exact hl
                obtain ⟨off, rfl, hcw⟩ := H1.out.at (i := 0) hl' HB.out
                rw [show l[0] = 1 by rw [← hv]; simp [List.getD, hl'], Nat.add_zero] at hcw
                clear hv
                go_wp2_with fail
                refine (sector_any _ _).mono ?_
                rintro e w12 ⟨rfl, rfl⟩
                go_wp2_with fail
                refine (sector_any _ _).mono ?_
                rintro e w12 ⟨rfl, rfl⟩
                go_wp2_with fail
                refine (same_true _ _ _ _ _ _ (HY.out.touch ((((Touch.refl Emp w11).alloc _).alloc _).alloc _) id) (sec_at (by simpa using heap_alloc_new ((w11.alloc (.cells Z5 5)).alloc (.cells (rowA (sectorL n)) 5)) (.cells (rowA (sectorL n)) 5)))).mono ?_
                rintro e w13 ⟨rfl, rfl⟩
                go_wp2_with fail
                refine (same_true _ _ _ _ _ _ (HZ.out.touch ((((Touch.refl Emp w11).alloc _).alloc _).alloc _) id) (sec_at (cell_heap_past (size_alloc_one (heap_alloc_new _ _)) _))).mono ?_
                rintro e w13 ⟨rfl, rfl⟩
                go_wp2
                go_ret
                exact ⟨rfl, (((HB.out.alloc HB.out.size _).alloc (by have := HB.out.size; simp; omega) _).alloc (by have := HB.out.size; simp; omega) _)⟩
              · have hl' : 0 < l.length := by rw [HN1.out]; exact hl
                obtain ⟨off, rfl, hcw⟩ := H1.out.at (i := 0) hl' HB.out
                rw [show l[0] = 2 by rw [← hv]; simp [List.getD, hl'], Nat.add_zero] at hcw
                clear hv
                go_wp2_with fail
                refine (sector_any _ _).mono ?_
                rintro e w12 ⟨rfl, rfl⟩
                go_wp2_with fail
                refine (same_true _ _ _ _ _ _ (HY.out.touch (((Touch.refl Emp w11).alloc _).alloc _) id) (sec_at (size_alloc_one (heap_alloc_new _ _)))).mono ?_
                rintro e w13 ⟨rfl, rfl⟩
                go_wp2
                go_ret
                exact ⟨rfl, ((HB.out.alloc HB.out.size _).alloc (by have := HB.out.size; simp; omega) _)⟩
              · have hl' : 0 < l.length := by rw [HN1.out]; exact hl
                obtain ⟨off, rfl, hcw⟩ := H1.out.at (i := 0) hl' HB.out
                rw [show l[0] = l.getD 0 0 by simp [List.getD, hl'], Nat.add_zero] at hcw
                obtain ⟨hv1, hv2⟩ := hv
                have hv3 : (l.getD 0 0 != 2) = true := by simpa using hv2
                generalize l.getD 0 0 = x at hcw hv1 hv2 hv3
                go_wp2_with fail
                refine (sector_any _ _).mono ?_
                rintro e w12 ⟨rfl, rfl⟩
                go_wp2_with fail
                refine (same_true _ _ _ _ _ _ (HY.out.touch (((Touch.refl Emp w11).alloc _).alloc _) id) (sec_at (size_alloc_one (heap_alloc_new _ _)))).mono ?_
                rintro e w13 ⟨rfl, rfl⟩
                go_wp2_with fail
                refine (same_true _ _ _ _ _ _ (HZ.out.touch (((Touch.refl Emp w11).alloc _).alloc _) id) (zero_at HZ5.out (cell_heap_past (heap_alloc_new _ _) _))).mono ?_
                rintro e w13 ⟨rfl, rfl⟩
                go_wp2
                go_ret
                exact ⟨rfl, ((HB.out.alloc HB.out.size _).alloc (by have := HB.out.size; simp; omega) _)⟩
              · go_wp2_with fail
                refine (sector_any _ _).mono ?_
                rintro e w12 ⟨rfl, rfl⟩
                go_wp2_with fail
                refine (same_true _ _ _ _ _ _ (HY.out.touch (((Touch.refl Emp w11).alloc _).alloc _) id) (sec_at (size_alloc_one (heap_alloc_new _ _)))).mono ?_
                rintro e w13 ⟨rfl, rfl⟩
                go_wp2_with fail
                refine (same_true _ _ _ _ _ _ (HZ.out.touch (((Touch.refl Emp w11).alloc _).alloc _) id) (zero_at HZ5.out (cell_heap_past (heap_alloc_new _ _) _))).mono ?_
                rintro e w13 ⟨rfl, rfl⟩
                go_wp2
                go_ret
                exact ⟨rfl, ((HB.out.alloc HB.out.size _).alloc (by have := HB.out.size; simp; omega) _)⟩

end Go.Proofs.Ytmedpmhiebcdjaa
