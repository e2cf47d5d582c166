/- OctetsGrows: what was there stays ahead of what is put. -/
import Derived.Test.YticgojkfkplfoaaMid
import Derived.Test.YticgojkfkplfoaaNum
namespace Go.Proofs.Yticgojkfkplfoaa
open Go.RowKit

/-- What holds at a round's head. -/
structure GroI (w : World) (vb : Value) (L : List UInt8) (g : Nat) (vk : Value) (K : List Int) (g1 : Nat) (wr : World) : Prop where
  row : BV wr vb L g
  nums : NV .u64 wr vk K g1
  tot : Below w.heap.size w wr
theorem number_as {size : Int} {k b : Nat} {l m : List UInt8} {s : Bool} {g : Nat} {w : World} (h : Rdr w b l s g) (hk : min (max size 0) 8 = (k : Int)) (hm : l.take k = m) (hl : m.length = k) :
    Calls Try.prog 15 #[.pointer (some ⟨b, 0, none⟩), .int .i64 size] w fun e w' => e = .returned (.int .u64 (Oct.unle m : Int)) ∧ Touch (fun k => k = b) w w' := by
  subst hm
  refine (number_ok size k b l s g w h hk (by rw [List.length_take] at hl; omega)).mono ?_
  rintro e w' ⟨h1, h2, -⟩
  exact ⟨h1, h2⟩
/-- What a region asks of the worlds that it passes through. -/
theorem gro_keep {w3 : World} {v1 v2 : Value} {l1 l2 : List UInt8} {g1 g2 gk q off : Nat} {X : Int} (hc : w3.cell? ⟨gk, off + q, none⟩ = some (.int .u64 X)) (h1 : BV w3 v1 l1 g1) (h2 : BV w3 v2 l2 g2) {W : World} (hb : Below w3.heap.size w3 W) :
    W.cell? ⟨gk, off + q, none⟩ = some (.int .u64 X) ∧ (convert 22 9 v1).run Try.prog W = .ok (.string ⟨l1.toArray⟩) W ∧ (convert 22 9 v2).run Try.prog W = .ok (.string ⟨l2.toArray⟩) W :=
  ⟨by rw [← hc]; exact hb.cell (p := ⟨gk, off + q, none⟩) (World.block_lt_of_cell? w3 _ hc), run_convBytes (h1.below hb).reads, run_convBytes (h2.below hb).reads⟩

set_option maxRecDepth 100000 in
set_option maxHeartbeats 2000000 in
theorem grows_walk (a : Option Addr) (l : List UInt8) (cap g : Nat) (a1 : Option Addr) (K : List Int) (c1 g1 : Nat) (n0 : Int) (w : World) (h : BV w (.slice a l.length cap) l g) (h1 : NV .u64 w (.slice a1 K.length c1) K g1) (hK : K.length * 8 ≤ 140737488351232) (hwf : ∀ x ∈ K, (Lit.int .u64 x).wf = true) :
    Calls Try.prog 8 #[.slice a l.length cap, .slice a1 K.length c1, .int .i64 n0] w fun e w' => e = .returned (.bool true) ∧ Below w.heap.size w w' := by
  obtain ⟨k, hk1, hk2, hmin⟩ : ∃ n : Nat, n ≤ 200 ∧ n ≤ l.length ∧ (if (200 : Int) < (l.length : Int) then (200 : Int) else (l.length : Int)) = (n : Int) := ⟨min l.length 200, by omega, by omega, min_nat l.length 200⟩
  obtain ⟨s, m, hs8, hs, hs1, hs2⟩ : ∃ (s : Nat) (m : Int), s ≤ 8 ∧ min (max n0 0) 8 = (s : Int) ∧ (if n0 < 0 then (0 : Int) else n0) = m ∧ (if 8 < m then (8 : Int) else m) = (s : Int) :=
    ⟨(min (max n0 0) 8).toNat, _, by omega, by omega, rfl, by split <;> split at * <;> omega⟩
  have hcap : k ≤ cap := by obtain ⟨_, c, e, h1, _⟩ := h.form; cases e; omega
  have S := Lib.hid (shown_any w)
  have H := Lib.hid h
  have H1 := Lib.hid h1
  have HWF := Lib.hid hwf
  clear h h1 hwf
  go_enter Try.func8, Try.ntmps8
  go_wp2_with fail
  refine S.out.mono ?_
  rintro e w1 ⟨rfl, hT⟩
  replace H := Lib.hid ((H.out.below hT).take k hk2 cap hcap (Nat.le_refl _))
  replace H1 := Lib.hid (H1.out.below hT)
  have HT := Lib.hid hT
  clear hT S
  have hlk : (l.take k).length = k := by rw [List.length_take]; omega
  generalize l.take k = L at H hlk
  have HA := Lib.hid (H.out.alloc (.cells #[] 5))
  have HS := Lib.hid hs
  clear hs
  go_wp2_with (at_builtin; refine wpList_append_b rfl (.tmp 12) (.tmp 17) rfl w1.heap.size (.slice (some ⟨w1.heap.size, 0, none⟩) 0 0) [] rfl (own_none w1) _ L g rfl HA.out.reads HA.out.nilc (by simp; omega) (by simp) ?_; intro v1 w2 hown hgrow; have HO := Lib.hid hown; have HG := Lib.hid hgrow; clear hown hgrow)
  have hB0 := ((Below.refl w1.heap.size w1).alloc (Nat.le_refl _) (.cells #[] 5)).grown HG.out (by simp) (by intro k hk; simp [Value.ownBlock] at hk; omega)
  have ho := HO.out
  rw [List.nil_append] at ho
  obtain ⟨gb, hvb, -⟩ := BV.of_own ho
  obtain ⟨ab, cb, rfl, -⟩ := hvb.form
  have I := Lib.hid (show GroI w (.slice ab L.length cb) L gb (.slice a1 K.length c1) K g1 w2 from ⟨hvb, H1.out.below hB0, HT.out.trans (hB0.mono HT.out.size)⟩)
  clear hvb ho hB0 HO HG HA H H1 HT
  have HLK := Lib.hid hlk
  clear hlk
  go_loopw [0, 9, 10] (fun vb i c wr => ∃ (q : Nat) (ab : Option Addr) (LL : List UInt8) (cb gb : Nat), q ≤ K.length ∧ q ≤ 40 ∧ LL.length ≤ 200 + 8 * q ∧ vb = .slice ab LL.length cb ∧ i = .int .i64 q ∧ GroI w (.slice ab LL.length cb) LL gb (.slice a1 K.length c1) K g1 wr) (fun _ i _ _ => K.length - (intOf i).toNat)
  case atStart => exact ⟨0, ab, L, cb, gb, Nat.zero_le _, by omega, by rw [HLK.out]; omega, rfl, rfl, I.out⟩
  case round =>
    obtain ⟨q, ab', LL, cb', gb', hq1, hq2, hll, rfl, rfl, hI⟩ := hrel
    replace I := Lib.hid hI
    clear hI
    by_cases hlt : q < K.length ∧ q < 40
    · obtain ⟨hx1, hx2⟩ := hlt
      have hq3 : (q : Int) < 40 := by omega
      have hq4 : (q : Int) < (K.length : Int) := by omega
      obtain ⟨ok, rfl, hck⟩ := I.out.nums.cell_at hx1
      obtain ⟨hX1, hX2⟩ := nat_of_u64 (HWF.out _ (List.getElem_mem hx1))
      generalize hXX : K[q].toNat = X at hX1 hX2
      rw [hX1] at hck
      have HP := Lib.hid (put_any _ LL gb' n0 s X wr I.out.row (by omega) HS.out hX2)
      clear hX1 hXX
      go_wp2_with fail
      refine HP.out.mono ?_
      rintro e w3 ⟨⟨vc, rfl, gc, hc, hgc⟩, hb⟩
      obtain ⟨ac, cc, ec, hcc, -⟩ := hc.form
      obtain ⟨N, hN1, hN2⟩ : ∃ N : Nat, N = LL.length + s ∧ (LL.length : Int) + (s : Int) = (N : Int) := ⟨_, rfl, by omega⟩
      rw [List.length_append, Oct.le_length, ← hN1] at ec hcc
      subst ec
      have hcL : BV w3 (.slice ac LL.length cc) LL gc := by
        have := hc.take LL.length (by omega) cc (by omega) (Nat.le_refl _)
        rwa [List.take_left] at this
      have hcR := hc.drop LL.length (by omega)
      rw [List.drop_left] at hcR
      have hu := fun W => run_upto W ac N cc LL.length (by omega)
      have hf := fun W => run_from W ac N cc LL.length (by omega)
      rw [show N - LL.length = s by omega] at hcR hf
      generalize (if cc = LL.length then ac else ac.map (·.add LL.length)) = A at hf hcR
      have hls : (Oct.le s X).length = s := Oct.le_length s X
      have ht8 : (Oct.le 8 X).take s = Oct.le s X := Oct.le_take 8 s X hs8
      have hl8 : (Oct.le 8 X).length = 8 := Oct.le_length 8 X
      have HB3 := Lib.hid hb
      have I3 := Lib.hid (show GroI w (.slice ac N cc) (LL ++ Oct.le s X) gc (.slice (some ⟨g1, ok, none⟩) K.length c1) K g1 w3 from ⟨hc, I.out.nums.below hb, I.out.tot.trans (hb.mono I.out.tot.size)⟩)
      have KF := fun (W : World) (h : Below w3.heap.size w3 W) => gro_keep (show w3.cell? ⟨g1, ok + q, none⟩ = some (.int .u64 (X : Int)) by rw [← hck]; exact hb.cell (p := ⟨g1, ok + q, none⟩) (World.block_lt_of_cell? wr _ hck)) hcL (I.out.row.below hb) h
      have HKF := Lib.hid KF
      have HCR := Lib.hid (hcR.drew)
      have HC := Lib.hid hc
      have HLS := Lib.hid hls
      have HT8 := Lib.hid ht8
      have HL8 := Lib.hid hl8
      have HN1 := Lib.hid hN1
      have hw9 : IntKind.i64.wrap (N : Int) = (N : Int) := by rw [IntKind.wrap_i64]; omega
      have hB0 : Below w3.heap.size w3 w3.drew := (Below.refl _ w3).drew
      have hls5 : (Oct.le s X).length ≤ 4294967296 := by omega
      have hl85 : (Oct.le 8 X).length ≤ 4294967296 := by omega
      clear hcL hcR KF hls ht8 hl8 hN1 hb hc hck hcc I HP hgc
      go_wp2_with fail
      have ht1 := Lib.hid (show (Oct.le s X).take s = Oct.le s X from List.take_of_length_le (by rw [HLS.out]; exact Nat.le_refl _))
      have ht2 := Lib.hid (show ([] ++ Oct.le 8 X).take s = Oct.le s X from HT8.out)
      have hss := Lib.hid (show min (max (s : Int) 0) 8 = (s : Int) by omega)
      go_region_held3 (fun w' => w'.cell? ⟨g1, ok + q, none⟩ = some (.int .u64 (X : Int)) ∧ (convert 22 9 (.slice ac LL.length cc)).run Try.prog w' = .ok (.string ⟨LL.toArray⟩) w' ∧ (convert 22 9 (.slice ab' LL.length cb')).run Try.prog w' = .ok (.string ⟨LL.toArray⟩) w') (exact HKF.out _ (by assumption)) (first
        | (go_at_call_of 14 (Value.slice A s (cc - LL.length)); refine (read_any _ (Oct.le s X) gc _ HCR.out hls5).mono ?_; rintro e w4 ⟨⟨b4, g4, rfl, hr4, hb4, -⟩, hb⟩; have hB4 := hB0.trans hb; clear hb)
        | (go_at_call_of 15 (Value.pointer (some ⟨b4, 0, none⟩)); refine (number_as hr4 hss.out ht1.out HLS.out).mono ?_; rintro e w5 ⟨rfl, ht⟩; have hB5 : Below w3.heap.size w3 w5 := below_touch1 hB4 ht hb4 (Nat.le_refl _); clear ht)
        | (go_at_call 10; refine (put_any _ [] 0 8 8 X _ (BV.nil _ 0) (by decide) (by decide) hX2).mono ?_; rintro e w6 ⟨⟨v6, rfl, g6, hv6, -⟩, hb⟩; have hB6 : Below w3.heap.size w3 w6 := hB5.trans (hb.mono hB5.size); clear hb)
        | (go_at_call_of 14 v6; refine (read_any _ _ g6 _ hv6 hl85).mono ?_; rintro e w7 ⟨⟨b7, g7, rfl, hr7, hb7, -⟩, hb⟩; have hB7 : Below w3.heap.size w3 w7 := hB6.trans (hb.mono hB6.size); have hb7 := Nat.le_trans hB6.size hb7; clear hb)
        | (go_at_call_of 15 (Value.pointer (some ⟨b7, 0, none⟩)); refine (number_as hr7 hss.out ht2.out HLS.out).mono ?_; rintro e w8 ⟨rfl, ht⟩; have hB8 : Below w3.heap.size w3 w8 := below_touch1 hB7 ht hb7 (Nat.le_refl _); clear ht))
      have HB8 := Lib.hid hB8
      clear hB4 hB5 hB6 hB7 hB8 hr4 hv6 hr7
      go_wp2
      go_roundw
      case rel =>
        have e : (LL ++ Oct.le s X).length = N := by rw [List.length_append, HLS.out, HN1.out]
        refine ⟨q + 1, ac, LL ++ Oct.le s X, cc, gc, by omega, by omega, by rw [e, HN1.out]; omega, by rw [e], by go_num, ?_⟩
        rw [e]
        exact ⟨I3.out.row.below HB8.out, I3.out.nums.below HB8.out, I3.out.tot.trans (HB8.out.mono I3.out.tot.size)⟩
      case measure => simp [intOf]; omega
    · by_cases h1 : q < K.length
      · have h2 : decide ((q : Int) < 40) = false := by simp; omega
        have h3 : ¬ (q : Int) < 40 := by omega
        go_wp2
        go_ret
        exact ⟨rfl, I.out.tot⟩
      · go_wp2
        go_ret
        exact ⟨rfl, I.out.tot⟩

end Go.Proofs.Yticgojkfkplfoaa
