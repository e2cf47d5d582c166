/- Clone, Equal, Decode. No condition. -/
import Derived.Test.YtijkgihgpchcfaaTgt
namespace Go.Proofs.Ytijkgihgpchcfaa
open Go.RowKit

set_option maxHeartbeats 400000 in
theorem clone_own (v : Value) (l : List UInt8) (g : Nat) (w : World) (h : BV w v l g) (hl : l.length ≤ 4294967296) (hne : l ≠ []) :
    Calls Try.prog 19 #[v] w fun e w' => (∃ v', e = .returned v' ∧ OwnB w.heap.size w' v' l) ∧ Below w.heap.size w w' := by
  obtain ⟨a, cap, rfl, hc, hn⟩ := h.form
  have H := Lib.hid h
  clear h
  cases a with
  | none =>
    obtain rfl := hn rfl
    exact absurd (List.eq_nil_of_length_eq_zero (by omega)) hne
  | some ad =>
    clear hn
    have HNE := Lib.hid hne
    have HA := Lib.hid (H.out.alloc (.cells #[] 5))
    have hq := fun W => Lib.run_eql_slice_nil (P := Try.prog) W 26 5 (some ad) l.length cap 0 0 Try.underlying26
    clear hne
    go_enter Try.func19, Try.ntmps19
    go_wp2_with (at_builtin; refine wpList_append_b rfl (.tmp 5) (.tmp 6) rfl w.heap.size (.slice (some ⟨w.heap.size, 0, none⟩) 0 0) [] rfl (own_none w) _ l g rfl HA.out.reads HA.out.nilc (by simp; omega) (by simp) ?_; intro v1 w2 hown hgrow; have HO := Lib.hid hown; have HG := Lib.hid hgrow; clear hown hgrow)
    go_ret
    exact ⟨⟨_, rfl, OwnB.of_own HO.out HNE.out⟩, ((Below.refl w.heap.size w).alloc (Nat.le_refl _) _).grown HG.out (by simp) (by intro k hk; simp [Value.ownBlock] at hk; omega)⟩

theorem equal_any (v1 v2 : Value) (l1 l2 : List UInt8) (g1 g2 : Nat) (w : World) (h1 : BV w v1 l1 g1) (h2 : BV w v2 l2 g2) :
    Calls Try.prog 20 #[v1, v2] w fun e w' => e = .returned (.bool (decide (l1 = l2))) ∧ w = w' := by
  have k1 := run_convBytes h1.reads
  have k2 := run_convBytes h2.reads
  go_enter Try.func20, Try.ntmps20
  go_wp2
  go_ret
  exact ⟨by rw [show decide (l1 = l2) = (l1 == l2) by rw [Bool.eq_iff_iff]; simp]; rfl, rfl⟩

theorem bcell {W w1 : World} (hb : Below W.heap.size W w1) : (∀ b o, b < W.heap.size → w1.cell? ⟨b, o, none⟩ = W.cell? ⟨b, o, none⟩) ∧ (∀ b o, b < W.heap.size → w1.frozen? ⟨b, o, none⟩ = W.frozen? ⟨b, o, none⟩) :=
  ⟨fun b o h => hb.cell (p := ⟨b, o, none⟩) h, fun b o h => hb.frozen (p := ⟨b, o, none⟩) h⟩
theorem run_from32 (w : World) (a : Option Addr) (cap : Nat) : (Instr.sliceAt 26 (.slice a 512 cap) (some (.int .i64 32)) none none).run Try.prog w = .ok (.slice (if cap = 32 then a else a.map (·.add 32)) 480 (cap - 32)) w :=
  run_from w a 512 cap 32 (by decide)

theorem tag_new (w : World) : TagAt (w.alloc (.cells #[.int .u32 0, .int .u64 0, .int .u64 0, .int .u64 0, .int .i64 0, .int .i64 0, .int .i64 0] 25)) w.heap.size (Tg.part [] 0) := by
  unfold TagAt; rw [tagC_zero]; exact heap_alloc_new w _
theorem tag_drew (w : World) : TagAt (w.drew.alloc (.cells #[.int .u32 0, .int .u64 0, .int .u64 0, .int .u64 0, .int .i64 0, .int .i64 0, .int .i64 0] 25)) w.heap.size (Tg.part [] 0) := tag_new w.drew
theorem TagAt.below {w w1 : World} {b : Nat} {t : Tg.T} (h : TagAt w b t) (hb : Below w.heap.size w w1) : TagAt w1 b t := h.touch (Touch.of_below (F := Emp) hb) id
theorem TagAt.lt {w : World} {b : Nat} {t : Tg.T} (h : TagAt w b t) : b < w.heap.size := lt_of_heap h
theorem TagAt.frozen {w : World} {b : Nat} {t : Tg.T} (h : TagAt w b t) (j : Nat) : w.frozen? ⟨b, j, none⟩ = false := frozen_of_row w b j _ _ h
/-- A tag that is stored. -/
def stored (w : World) (b : Nat) (t : Tg.T) : World := ((((((w.setCell ⟨b, 0, none⟩ (.int .u32 (t.e : Int))).setCell ⟨b, 1, none⟩ (.int .u64 (t.s : Int))).setCell ⟨b, 2, none⟩ (.int .u64 (t.q : Int))).setCell ⟨b, 3, none⟩ (.int .u64 (t.f : Int))).setCell ⟨b, 4, none⟩ (.int .i64 t.i)).setCell ⟨b, 5, none⟩ (.int .i64 t.c)).setCell ⟨b, 6, none⟩ (.int .i64 t.d)
theorem stored_at {w : World} {b : Nat} {t0 : Tg.T} (t : Tg.T) (h : TagAt w b t0) : TagAt (stored w b t) b t := by
  unfold stored TagAt
  have h0 := heap_setCell_same w b 0 _ _ (.int .u32 (t.e : Int)) h
  have h1 := heap_setCell_same _ b 1 _ _ (.int .u64 (t.s : Int)) h0
  have h2 := heap_setCell_same _ b 2 _ _ (.int .u64 (t.q : Int)) h1
  have h3 := heap_setCell_same _ b 3 _ _ (.int .u64 (t.f : Int)) h2
  have h4 := heap_setCell_same _ b 4 _ _ (.int .i64 t.i) h3
  have h5 := heap_setCell_same _ b 5 _ _ (.int .i64 t.c) h4
  have h6 := heap_setCell_same _ b 6 _ _ (.int .i64 t.d) h5
  rw [h6]; rfl
theorem stored_touch (w : World) (b : Nat) (t : Tg.T) : Touch (fun k => k = b) w (stored w b t) := by
  unfold stored
  exact ((((((((Touch.refl (fun k => k = b) w).setCell (a := ⟨b, 0, none⟩) (.inl rfl) _).setCell (a := ⟨b, 1, none⟩) (.inl rfl) _).setCell (a := ⟨b, 2, none⟩) (.inl rfl) _).setCell (a := ⟨b, 3, none⟩) (.inl rfl) _).setCell (a := ⟨b, 4, none⟩) (.inl rfl) _).setCell (a := ⟨b, 5, none⟩) (.inl rfl) _).setCell (a := ⟨b, 6, none⟩) (.inl rfl) _)
theorem first_bv {w W : World} {v : Value} {l : List UInt8} {g : Nat} (h : BV w v l g) (hb : Below w.heap.size w W) : BV W v l g := h.below hb

/-- The empty tag. -/
def zeroT : Tg.T := ⟨0, 0, 0, 0, 0, 0, 0⟩
abbrev zeroV : Value := .agg #[.int .u32 0, .int .u64 0, .int .u64 0, .int .u64 0, .int .i64 0, .int .i64 0, .int .i64 0]
theorem zero_cells {w : World} {b : Nat} (h : TagAt w b zeroT) : w.cell? ⟨b, 0, none⟩ = some (.int .u32 0) ∧ w.cell? ⟨b, 1, none⟩ = some (.int .u64 0) ∧ w.cell? ⟨b, 2, none⟩ = some (.int .u64 0) ∧
    w.cell? ⟨b, 3, none⟩ = some (.int .u64 0) ∧ w.cell? ⟨b, 4, none⟩ = some (.int .i64 0) ∧ w.cell? ⟨b, 5, none⟩ = some (.int .i64 0) ∧ w.cell? ⟨b, 6, none⟩ = some (.int .i64 0) := h.cells

/-- What Decode goes on from. -/
structure DecI (w wx : World) (T : Nat) (t : Tg.T) (b : List UInt8) (v v5 : Value) (g : Nat) : Prop where
  tag : TagAt wx T t
  res : TagAt wx w.heap.size (Tg.part [] 0)
  bv : BV wx v b g
  own : OwnB (w.heap.size + 1) wx v5 (b.drop 32)
  lo : w.heap.size < T
  below : Below w.heap.size w wx
theorem OwnB.touch {base : Nat} {w w1 : World} {v : Value} {l : List UInt8} {F : Nat → Prop} (h : OwnB base w v l) (ht : Touch F w w1) (hF : ∀ k, F k → k < base ∨ w.heap.size ≤ k) : OwnB base w1 v l := by
  obtain ⟨g, cap, h1, h2, h3, h4⟩ := h
  refine ⟨g, cap, h1, h2, h3, h4.touch ht fun hf => ?_⟩
  have := h4.lt
  rcases hF g hf with h | h <;> omega
theorem OwnB.below {base : Nat} {w w1 : World} {v : Value} {l : List UInt8} (h : OwnB base w v l) (hb : Below w.heap.size w w1) : OwnB base w1 v l :=
  h.touch (Touch.of_below (F := Emp) hb) fun _ hf => hf.elim
theorem DecI.next {w wx w1 : World} {T : Nat} {t : Tg.T} {b : List UInt8} {v v5 : Value} {g : Nat} (h : DecI w wx T t b v v5 g) (hb : Below wx.heap.size wx w1) : DecI w w1 T t b v v5 g :=
  ⟨h.tag.below hb, h.res.below hb, h.bv.below hb, h.own.below hb, h.lo, h.below.trans (hb.mono h.below.size)⟩

section
variable {w w1 w5 : World} {b : List UInt8} {v v5 : Value} {g base T : Nat} {t0 t : Tg.T} (hx : Below w1.heap.size w1 w5) (hv : OwnB base w5 v5 (b.drop 32)) (hz : TagAt w1 w.heap.size (Tg.part [] 0)) (h1 : BV w1 v b g) (hB : Below w.heap.size w w1) (hs : w1.heap.size = w.heap.size + 1) (hb : w1.heap.size ≤ base)
include hx hv hz h1 hB hs hb
theorem DecI.last : DecI w (w5.alloc (.cells (tagC t) 25)) w5.heap.size t b v v5 g :=
  DecI.mk (heap_alloc_new w5 _) ((hz.below hx).below ((Below.refl _ w5).alloc (Nat.le_refl _) _)) ((h1.below hx).alloc _) ((hv.below ((Below.refl _ w5).alloc (Nat.le_refl _) _)).mono (by omega)) (by have := hx.size; omega) ((hB.trans (hx.mono hB.size)).alloc (hB.trans (hx.mono hB.size)).size _)
theorem DecI.late (tg : TagAt w5 T t0) (hT : w1.heap.size ≤ T) (hTb : T < base) (hg : b ≠ [] → g < w1.heap.size) : DecI w (stored w5 T t) T t b v v5 g := by
  have ht := stored_touch w5 T t
  have hbx := hB.trans (hx.mono hB.size)
  exact ⟨stored_at _ tg, (hz.below hx).touch ht (by omega), (h1.below hx).touch ht (fun hl => by have := hg hl; omega), (hv.touch ht (by rintro k rfl; left; exact hTb)).mono (by omega), by omega, hbx.trans (ht.to_below (by rintro k _ rfl; omega) hbx.size)⟩
end

set_option maxRecDepth 100000 in
set_option maxHeartbeats 2000000 in
theorem decode_full (a : Option Addr) (cap : Nat) (b : List UInt8) (g : Nat) (w : World) (h : BV w (.slice a 512 cap) b g) (hl : b.length = 512) :
    Calls Try.prog 13 #[.slice a 512 cap] w fun e w' => (Tg.decB b = true ∧ (∃ v', e = .returned (.tuple #[tagV (Tg.told b), v', .int .i64 0]) ∧ OwnB w.heap.size w' v' (b.drop 32)) ∨ Tg.decB b = false ∧ e = .returned (.tuple #[zeroV, .slice none 0 0, .int .i64 4])) ∧ Below w.heap.size w w' := by
  have hfr := fun W => run_from32 W a cap
  have hv := h.drop 32 (by omega)
  have hz : TagAt (w.alloc (.cells #[.int .u32 0, .int .u64 0, .int .u64 0, .int .u64 0, .int .i64 0, .int .i64 0, .int .i64 0] 25)) w.heap.size (Tg.part [] 0) := by
    unfold TagAt; rw [tagC_zero]; exact heap_alloc_new w _
  have HZ := Lib.hid hz
  have hs1 : (w.alloc (.cells #[.int .u32 0, .int .u64 0, .int .u64 0, .int .u64 0, .int .i64 0, .int .i64 0, .int .i64 0] 25)).heap.size = w.heap.size + 1 := by simp
  have HS1 := Lib.hid hs1
  have H1 := Lib.hid (h.alloc (.cells #[.int .u32 0, .int .u64 0, .int .u64 0, .int .u64 0, .int .i64 0, .int .i64 0, .int .i64 0] 25))
  have HB := Lib.hid ((Below.refl w.heap.size w).alloc (Nat.le_refl _) (.cells #[.int .u32 0, .int .u64 0, .int .u64 0, .int .u64 0, .int .i64 0, .int .i64 0, .int .i64 0] 25))
  have HL := Lib.hid hl
  have hdl : (b.drop 32).length = 480 := by rw [List.length_drop, hl]
  have HDL := Lib.hid hdl
  have HNE := Lib.hid (show b.drop 32 ≠ [] from fun e => by rw [e] at hdl; cases hdl)
  have htd := fun (W : World) (hW : BV W (.slice a 512 cap) b g) => told_any a cap b g W hW hl
  have hdb : Tg.decB b = (Tg.rightB (Tg.told b) && (Tg.enc (Tg.told b) (b.drop 32) == b)) := rfl
  have hte := Tg.told_e b
  generalize Tg.told b = tt at htd hdb hte ⊢
  have HTD := Lib.hid htd
  have HDB := Lib.hid hdb
  have HTE := Lib.hid hte
  clear h hz hs1 hl hv hdl htd hdb hte
  go_enter Try.func13, Try.ntmps13
  go_upto_region 3 with fail
  generalize w.alloc (.cells #[.int .u32 0, .int .u64 0, .int .u64 0, .int .u64 0, .int .i64 0, .int .i64 0, .int .i64 0] 25) = w1 at HZ HS1 H1 HB ⊢
  have hb0 : Below w1.heap.size w1 w1.drew := (Below.refl _ w1).drew
  have hbz : Below w1.heap.size w1 (w1.drew.alloc (.cells #[.int .u32 0, .int .u64 0, .int .u64 0, .int .u64 0, .int .i64 0, .int .i64 0, .int .i64 0] 25)) := hb0.alloc (Nat.le_refl _) _
  have HB0 := Lib.hid hb0
  have HBZ := Lib.hid hbz
  clear hb0 hbz
  generalize hm : (if cap = 32 then a else a.map (·.add 32)) = am at hfr
  have HM := Lib.hid hm
  clear hm
  go_cut [5, 6] (fun p5 v6 wx => ∃ T, p5 = .pointer (some ⟨T, 0, none⟩) ∧ DecI w wx T tt b (.slice a 512 cap) v6 g)
  case first =>
    go_region_held3 (fun _ => True) (trivial) (first
      | (go_at_call 18; refine (HTD.out _ (first_bv H1.out (by first | exact HB0.out | exact HBZ.out))).mono ?_; rintro e w4 ⟨rfl, hb4⟩; (try have tg4 := (tag_drew w1).below hb4); have X4 : Below w1.heap.size w1 w4 := (by first | exact HB0.out.trans (hb4.mono HB0.out.size) | exact HBZ.out.trans (hb4.mono HBZ.out.size)); have H4 := Lib.hid (((first_bv H1.out (by first | exact HB0.out | exact HBZ.out)).below hb4).drop 32 (by decide)); rw [HM.out] at H4)
      | (go_at_call 19; refine (clone_own _ (b.drop 32) g _ (by first | exact H4.out | exact H4.out.alloc _) (by rw [HDL.out]; decide) HNE.out).mono ?_; rintro e w5 ⟨⟨v5, rfl, hv5⟩, hb5⟩; have X5 : Below w1.heap.size w1 w5 := (by first | exact X4.trans (hb5.mono X4.size) | exact (X4.alloc X4.size _).trans (hb5.mono (X4.alloc X4.size _).size)); (first | (have tg5 := tg4.below hb5; obtain ⟨d0, d1, d2, d3, d4, d5, d6⟩ := tg5.cells; have fz := tg5.frozen) | (have tg5 := (tag_new w4).below hb5; obtain ⟨d0, d1, d2, d3, d4, d5, d6⟩ := tg5.cells; have fz := tg5.frozen) | skip)))
    · go_wp2_with fail
      go_meet
      exact ⟨_, rfl, DecI.last X5 hv5 HZ.out H1.out HB.out HS1.out X4.size⟩
    · go_wp2_with fail
      go_meet
      exact ⟨_, rfl, DecI.late X5 hv5 HZ.out H1.out HB.out HS1.out (Nat.le_trans X4.size (by simp)) tg5 X4.size (by simp) H1.out.lt⟩
    · go_wp2_with fail
      go_meet
      exact ⟨_, rfl, DecI.late X5 hv5 HZ.out H1.out HB.out HS1.out X4.size tg5 (Nat.le_refl _) tg4.lt H1.out.lt⟩
  case rest =>
    obtain ⟨T, rfl, hI⟩ := hcut
    have I := Lib.hid hI
    obtain ⟨c0, c1, c2, c3, c4, c5, c6⟩ := hI.tag.cells
    obtain ⟨g5, hv5, hg5⟩ := hI.own.bv
    obtain ⟨a5, cap5, rfl, -⟩ := hv5.form
    have V5 := Lib.hid hv5
    clear hI hv5 H1 HB HB0 HBZ HTD HM HS1 HZ hfr hg5
    by_cases hr : Tg.rightB tt = true
    · have E := Lib.hid (encode_ok tt _ (b.drop 32) g5 wc hr HTE.out V5.out HDL.out)
      have HR := Lib.hid hr
      clear hr
      rw [HDL.out] at E I ⊢
      go_wp2_with fail
      refine E.out.mono ?_
      rintro e w6 ⟨⟨v6, rfl, ho6⟩, hb6⟩
      replace I := Lib.hid (I.out.next hb6)
      obtain ⟨g6, hv6, -⟩ := ho6.bv
      have Q := Lib.hid (equal_any v6 (.slice a 512 cap) _ b g6 g w6 hv6 I.out.bv)
      clear E ho6 hb6 hv6 V5 c0 c1 c2 c3 c4 c5 c6
      generalize Tg.enc tt (b.drop 32) = en at Q HDB
      go_wp2_with fail
      refine Q.out.mono ?_
      rintro e w7 ⟨rfl, rfl⟩
      clear Q
      obtain ⟨c0, c1, c2, c3, c4, c5, c6⟩ := I.out.tag.cells
      obtain ⟨d0, d1, d2, d3, d4, d5, d6⟩ := I.out.res.cells
      have fz := I.out.res.frozen
      by_cases he : en = b
      · have HE := Lib.hid he
        have hde : decide (en = b) = true := by simpa using he
        clear he
        go_wp2
        have hst := stored_at tt I.out.res
        have htc := stored_touch w6 w.heap.size tt
        have hown := I.out.own.touch htc (by rintro k rfl; left; omega)
        have hbl := I.out.below.trans (htc.to_below (by rintro k _ rfl; exact Nat.le_refl _) I.out.below.size)
        change bodyPost _ _ _ _ _ (stored w6 w.heap.size tt)
        generalize stored w6 w.heap.size tt = w8 at hst hown hbl ⊢
        obtain ⟨s0, s1, s2, s3, s4, s5, s6⟩ := hst.cells
        refine bodyPost_ret (v := .tuple #[tagV tt, .slice a5 480 cap5, .int .i64 0]) (by simp [results, Try.results13, go_sem, s0, s1, s2, s3, s4, s5, s6]) rfl ⟨.inl ⟨by rw [HDB.out, HR.out, HE.out]; simp, _, rfl, hown.mono (by omega)⟩, hbl⟩
      · have HE := Lib.hid he
        have hde : decide (en = b) = false := by simpa using he
        clear he
        go_wp2
        have hst := stored_at zeroT I.out.res
        have htc := stored_touch w6 w.heap.size zeroT
        have hbl := I.out.below.trans (htc.to_below (by rintro k _ rfl; exact Nat.le_refl _) I.out.below.size)
        change bodyPost _ _ _ _ _ (stored w6 w.heap.size zeroT)
        generalize stored w6 w.heap.size zeroT = w8 at hst hbl ⊢
        obtain ⟨s0, s1, s2, s3, s4, s5, s6⟩ := zero_cells hst
        refine bodyPost_ret (v := .tuple #[zeroV, .slice none 0 0, .int .i64 4]) (by simp [results, Try.results13, go_sem, s0, s1, s2, s3, s4, s5, s6]) rfl ⟨.inr ⟨by rw [HDB.out]; simp [HE.out], rfl⟩, hbl⟩
    · rw [Bool.not_eq_true] at hr
      have E := Lib.hid (encode_no tt a5 (b.drop 32).length cap5 wc (.inl hr))
      have HR := Lib.hid hr
      clear hr
      rw [HDL.out] at E I ⊢
      go_wp2_with fail
      refine E.out.mono ?_
      rintro e w6 ⟨rfl, hb6⟩
      replace I := Lib.hid (I.out.next hb6)
      have Q := Lib.hid (equal_any (.slice none 0 0) (.slice a 512 cap) _ b 0 g w6 (BV.nil w6 0) I.out.bv)
      have hnb : decide ([] = b) = false := by
        simp only [decide_eq_false_iff_not]
        intro h; have := HL.out; rw [← h] at this; cases this
      rw [hnb] at Q
      clear E hb6 V5 c0 c1 c2 c3 c4 c5 c6 hnb
      go_wp2_with fail
      refine Q.out.mono ?_
      rintro e w7 ⟨rfl, rfl⟩
      clear Q
      obtain ⟨d0, d1, d2, d3, d4, d5, d6⟩ := I.out.res.cells
      have fz := I.out.res.frozen
      go_wp2
      have hst := stored_at zeroT I.out.res
      have htc := stored_touch w6 w.heap.size zeroT
      have hbl := I.out.below.trans (htc.to_below (by rintro k _ rfl; exact Nat.le_refl _) I.out.below.size)
      change bodyPost _ _ _ _ _ (stored w6 w.heap.size zeroT)
      generalize stored w6 w.heap.size zeroT = w8 at hst hbl ⊢
      obtain ⟨s0, s1, s2, s3, s4, s5, s6⟩ := zero_cells hst
      refine bodyPost_ret (v := .tuple #[zeroV, .slice none 0 0, .int .i64 4]) (by simp [results, Try.results13, go_sem, s0, s1, s2, s3, s4, s5, s6]) rfl ⟨.inr ⟨by rw [HDB.out, HR.out]; rfl, rfl⟩, hbl⟩

theorem decode_short (a : Option Addr) (n cap : Nat) (w : World) (hn : n ≠ 512) :
    Calls Try.prog 13 #[.slice a n cap] w fun e w' => e = .returned (.tuple #[zeroV, .slice none 0 0, .int .i64 4]) ∧ Below w.heap.size w w' := by
  go_enter Try.func13, Try.ntmps13
  go_wp2
  exact bodyPost_ret (v := .tuple #[zeroV, .slice none 0 0, .int .i64 4]) (by simp [results, Try.results13, go_sem]) rfl ⟨rfl, (Below.refl _ _).alloc (Nat.le_refl _) _⟩

end Go.Proofs.Ytijkgihgpchcfaa
