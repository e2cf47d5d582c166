/- The document's own Decode. No condition. -/
import Derived.Test.YtijkgihgpchcfaaTgn
import Derived.Laws.Strings2
import Derived.Deep.QuietTactic
import Derived.BigQuiet
namespace Go.Proofs.Ytijkgihgpchcfaa
open Go.RowKit

theorem str_part (b : List UInt8) (p q : Nat) : (⟨b.toArray⟩ : ByteArray).extract p q = ⟨((b.drop p).take (q - p)).toArray⟩ := by
  apply ByteArray.ext
  rw [ByteArray.data_extract]
  simp
theorem run_part (w : World) (b : List UInt8) (p q : Nat) (hp : p ≤ q) (hq : q ≤ b.length) :
    (Instr.sliceAt 9 (.string ⟨b.toArray⟩) (some (.int .i64 (p : Int))) (some (.int .i64 (q : Int))) none).run Try.prog w = .ok (.string ⟨((b.drop p).take (q - p)).toArray⟩) w := by
  rw [run_sliceAt_string w _ _ _ _ _ Try.underlying9, run_slice_string w _ _ _ _ _ _ Try.underlying9 (by omega) (by omega) (by rw [show (⟨b.toArray⟩ : ByteArray).size = b.length by simp [ByteArray.size]]; omega), Int.toNat_natCast, Int.toNat_natCast, str_part]
theorem run_rest (w : World) (b : List UInt8) (p : Nat) (hp : p ≤ b.length) :
    (Instr.sliceAt 9 (.string ⟨b.toArray⟩) (some (.int .i64 (p : Int))) none none).run Try.prog w = .ok (.string ⟨(b.drop p).toArray⟩) w := by
  have hsz : (⟨b.toArray⟩ : ByteArray).size = b.length := by simp [ByteArray.size]
  rw [run_sliceAt_string w _ _ _ _ _ Try.underlying9, run_slice_string_l w _ _ Try.underlying9 .i64 p (by omega) (by rw [hsz]; omega), hsz, Int.toNat_natCast, str_part]
  rw [List.take_of_length_le (by rw [List.length_drop]; omega)]

theorem refDecode_short (b : List UInt8) (w : World) (hn : b.length ≠ 512) :
    Calls Try.prog 14 #[.string ⟨b.toArray⟩] w fun e w' => e = .returned (.tuple #[zeroV, .string ⟨#[]⟩, .bool false]) ∧ Below w.heap.size w w' := by
  have hn' : ¬ ((b.length : Int) = 512) := by omega
  go_enter Try.func14, Try.ntmps14
  go_wp2
  exact bodyPost_ret (v := .tuple #[zeroV, .string ⟨#[]⟩, .bool false]) (by simp [results, Try.results14, go_sem]) rfl ⟨rfl, (Below.refl _ _).alloc (Nat.le_refl _) _⟩

theorem part_fld (b : List UInt8) (k p q : Nat) (hp : Tg.place k = p) (hq : Tg.size k = q - p) : Oct.unle ((b.drop p).take (q - p)) = Tg.fld b k := by
  subst hp; rw [← hq]; rfl
theorem num_part (b : List UInt8) (k p q : Nat) (hp : Tg.place k = p) (hq : Tg.size k = q - p) (h8 : q - p ≤ 8) (w : World) :
    Calls Try.prog 21 #[.string ⟨((b.drop p).take (q - p)).toArray⟩] w fun e w' => e = .returned (.int .u64 (Tg.fld b k : Int)) ∧ w = w' := by
  have := refNumber_any ((b.drop p).take (q - p)) w (by rw [List.length_take]; omega)
  rwa [part_fld b k p q hp hq] at this

theorem byte_fld (b : List UInt8) (k p : Nat) (hp : Tg.place k = p) (hs : Tg.size k = 1) (h : p < b.length) : wrap64 (b[p].toNat : Int) = (Tg.fld b k : Int) := by
  subst hp
  have hb := b[Tg.place k].toNat_lt
  have e : Tg.fld b k = b[Tg.place k].toNat := by
    rw [Tg.fld, hs, List.drop_eq_getElem_cons h, List.take_succ_cons, List.take_zero, Oct.unle, Oct.unle]; omega
  rw [e]
  unfold wrap64; omega
theorem wrap_fld6 (b : List UInt8) : wrap64 (Tg.fld b 6 : Int) = (Tg.fld b 6 : Int) := by
  have h : Tg.fld b 6 < 65536 := Tg.fld_lt b 6
  unfold wrap64; omega
theorem ref_stored_at {w : World} {b : Nat} {t0 : Tg.T} (t : Tg.T) (h : RefAt w b t0) : RefAt (stored w b t) b t := by
  unfold stored RefAt
  have h0 := heap_setCell_same w b 0 _ _ (.int .u32 (t.e : Int)) h
  have h1 := heap_setCell_same _ b 1 _ _ (.int .u64 (t.s : Int)) h0
  have h2 := heap_setCell_same _ b 2 _ _ (.int .u64 (t.q : Int)) h1
  have h3 := heap_setCell_same _ b 3 _ _ (.int .u64 (t.f : Int)) h2
  have h4 := heap_setCell_same _ b 4 _ _ (.int .i64 t.i) h3
  have h5 := heap_setCell_same _ b 5 _ _ (.int .i64 t.c) h4
  have h6 := heap_setCell_same _ b 6 _ _ (.int .i64 t.d) h5
  rw [h6]; rfl

theorem ref_zero_cells {w : World} {b : Nat} (h : RefAt w b zeroT) : w.cell? ⟨b, 0, none⟩ = some (.int .u32 0) ∧ w.cell? ⟨b, 1, none⟩ = some (.int .u64 0) ∧ w.cell? ⟨b, 2, none⟩ = some (.int .u64 0) ∧
    w.cell? ⟨b, 3, none⟩ = some (.int .u64 0) ∧ w.cell? ⟨b, 4, none⟩ = some (.int .i64 0) ∧ w.cell? ⟨b, 5, none⟩ = some (.int .i64 0) ∧ w.cell? ⟨b, 6, none⟩ = some (.int .i64 0) := h.cells

/-- What the document's Decode goes on from. -/
structure RefI (w wx : World) (T : Nat) (t : Tg.T) : Prop where
  tag : RefAt wx T t
  res : RefAt wx w.heap.size zeroT
  lo : w.heap.size < T
  below : Below w.heap.size w wx
theorem RefI.start {w w1 : World} (hz : RefAt w1 w.heap.size zeroT) (hb : Below w.heap.size w w1) (hs : w1.heap.size = w.heap.size + 1) (t : Tg.T) : RefI w (w1.alloc (.cells (tagC t) 28)).drew w1.heap.size t :=
  ⟨heap_alloc_new w1 _, hz.touch ((Touch.refl Emp w1).alloc _).drew id, by omega, (hb.alloc hb.size _).drew⟩
theorem RefAt.drew {w : World} {b : Nat} {t : Tg.T} (h : RefAt w b t) : RefAt w.drew b t := h
theorem RefAt.frozen {w : World} {b : Nat} {t : Tg.T} (h : RefAt w b t) (j : Nat) : w.frozen? ⟨b, j, none⟩ = false := frozen_of_row w b j _ _ h

theorem RefI.three {w wx : World} {T f0 f1 f2 f3 : Nat} (h : RefI w wx T ⟨f0, f3, f1, f2, 0, 0, 0⟩) (f4 f5 f6 : Int) : RefI w (((wx.setCell ⟨T, 4, none⟩ (.int .i64 f4)).setCell ⟨T, 5, none⟩ (.int .i64 f5)).setCell ⟨T, 6, none⟩ (.int .i64 f6)) T ⟨f0, f3, f1, f2, f4, f5, f6⟩ := by
  have hl := h.lo
  have h0 := heap_setCell_same wx T 4 _ _ (.int .i64 f4) h.tag
  have h1 := heap_setCell_same _ T 5 _ _ (.int .i64 f5) h0
  have h2 := heap_setCell_same _ T 6 _ _ (.int .i64 f6) h1
  have ht : Touch (fun k => k = T) wx (((wx.setCell ⟨T, 4, none⟩ (.int .i64 f4)).setCell ⟨T, 5, none⟩ (.int .i64 f5)).setCell ⟨T, 6, none⟩ (.int .i64 f6)) := (((Touch.refl (fun k => k = T) wx).setCell (a := ⟨T, 4, none⟩) (.inl rfl) _).setCell (a := ⟨T, 5, none⟩) (.inl rfl) _).setCell (a := ⟨T, 6, none⟩) (.inl rfl) _
  refine ⟨?_, h.res.touch ht (by omega), hl, h.below.trans (ht.to_below (by rintro k _ rfl; omega) h.below.size)⟩
  unfold RefAt
  rw [h2]; rfl
theorem RefI.next {w wx w1 : World} {T : Nat} {t : Tg.T} (h : RefI w wx T t) (hb : Below wx.heap.size wx w1) : RefI w w1 T t :=
  ⟨h.tag.below hb, h.res.below hb, h.lo, h.below.trans (hb.mono h.below.size)⟩
theorem told_parts (b : List UInt8) : Tg.told b = ⟨Tg.fld b 0, Tg.fld b 3, Tg.fld b 1, Tg.fld b 2, Tg.fld b 4, Tg.fld b 5, Tg.fld b 6⟩ := rfl

set_option maxRecDepth 100000 in
set_option maxHeartbeats 2000000 in
theorem refDecode_full (b : List UInt8) (w : World) (hl : b.length = 512) :
    Calls Try.prog 14 #[.string ⟨b.toArray⟩] w fun e w' => (Tg.decB b = true ∧ e = .returned (.tuple #[tagV (Tg.told b), .string ⟨(b.drop 32).toArray⟩, .bool true]) ∨ Tg.decB b = false ∧ e = .returned (.tuple #[zeroV, .string ⟨#[]⟩, .bool false])) ∧ Below w.heap.size w w' := by
  have s0 := str_part b 4 8
  have s1 := str_part b 8 14
  have s2 := str_part b 14 20
  have s3 := str_part b 20 26
  have s6 := str_part b 28 30
  have s7 : (⟨b.toArray⟩ : ByteArray).extract 32 512 = ⟨(b.drop 32).toArray⟩ := by rw [str_part, List.take_of_length_le (by rw [List.length_drop]; omega)]
  have n0 := Lib.hid (fun W => num_part b 0 4 8 rfl rfl (by omega) W)
  have n1 := Lib.hid (fun W => num_part b 1 8 14 rfl rfl (by omega) W)
  have n2 := Lib.hid (fun W => num_part b 2 14 20 rfl rfl (by omega) W)
  have n3 := Lib.hid (fun W => num_part b 3 20 26 rfl rfl (by omega) W)
  have n6 := Lib.hid (fun W => num_part b 6 28 30 rfl rfl (by omega) W)
  generalize (b.drop 4).take (8 - 4) = M0 at s0 n0
  generalize (b.drop 8).take (14 - 8) = M1 at s1 n1
  generalize (b.drop 14).take (20 - 14) = M2 at s2 n2
  generalize (b.drop 20).take (26 - 20) = M3 at s3 n3
  generalize (b.drop 28).take (30 - 28) = M6 at s6 n6
  have hw : IntKind.u32.wrap (Tg.fld b 0 : Int) = (Tg.fld b 0 : Int) := by have := Tg.fld_lt b 0; rw [IntKind.wrap_u32]; have h2 : Tg.fld b 0 < 4294967296 := this; omega
  have hl' : (b.length : Int) = 512 := by omega
  have e26 : ∀ h, (⟨b.toArray⟩ : ByteArray)[26]'h = b[26]'(by omega) := fun _ => rfl
  have e27 : ∀ h, (⟨b.toArray⟩ : ByteArray)[27]'h = b[27]'(by omega) := fun _ => rfl
  have w26 := byte_fld b 4 26 rfl rfl (by omega)
  have w27 := byte_fld b 5 27 rfl rfl (by omega)
  generalize b[26]'(by omega) = x26 at e26 w26
  generalize b[27]'(by omega) = x27 at e27 w27
  have w6 := wrap_fld6 b
  have hdb : Tg.decB b = (Tg.rightB (Tg.told b) && (Tg.enc (Tg.told b) (b.drop 32) == b)) := rfl
  have hte := Tg.told_e b
  have hdl : (b.drop 32).length ≤ 4294967296 := by rw [List.length_drop]; omega
  have HRR := Lib.hid (fun W => refRight_any (Tg.told b) W)
  have HRE := Lib.hid (fun W hr => refEncode_any (Tg.told b) (b.drop 32) W hr hte hdl)
  have HTP := Lib.hid (told_parts b)
  generalize Tg.told b = tt at hdb HRR HRE HTP ⊢
  have HDB := Lib.hid hdb
  clear hdb hte hdl
  go_enter Try.func14, Try.ntmps14
  go_upto_region 3 with fail
  have HZ := Lib.hid (show RefAt (w.alloc (.cells #[.int .u32 0, .int .u64 0, .int .u64 0, .int .u64 0, .int .i64 0, .int .i64 0, .int .i64 0] 28)) w.heap.size zeroT from heap_alloc_new w _)
  have HB := Lib.hid ((Below.refl w.heap.size w).alloc (Nat.le_refl _) (.cells #[.int .u32 0, .int .u64 0, .int .u64 0, .int .u64 0, .int .i64 0, .int .i64 0, .int .i64 0] 28))
  have HS1 := Lib.hid (show (w.alloc (.cells #[.int .u32 0, .int .u64 0, .int .u64 0, .int .u64 0, .int .i64 0, .int .i64 0, .int .i64 0] 28)).heap.size = w.heap.size + 1 by simp)
  generalize w.alloc (.cells #[.int .u32 0, .int .u64 0, .int .u64 0, .int .u64 0, .int .i64 0, .int .i64 0, .int .i64 0] 28) = w1 at HZ HB HS1 ⊢
  go_cut [5] (fun p5 wx => ∃ T, p5 = .pointer (some ⟨T, 0, none⟩) ∧ RefI w wx T ⟨Tg.fld b 0, Tg.fld b 3, Tg.fld b 1, Tg.fld b 2, 0, 0, 0⟩)
  case first =>
    have RI := Lib.hid (RefI.start HZ.out HB.out HS1.out ⟨Tg.fld b 0, Tg.fld b 3, Tg.fld b 1, Tg.fld b 2, 0, 0, 0⟩)
    generalize Tg.fld b 0 = f0 at *
    generalize Tg.fld b 1 = f1 at *
    generalize Tg.fld b 2 = f2 at *
    generalize Tg.fld b 3 = f3 at *
    clear n6 s6 s7
    go_region_held3 (fun _ => True) (trivial) (first
      | (go_at_call_of 21 (Value.string ⟨M0.toArray⟩); refine (n0.out _).mono ?_; rintro e x1 ⟨rfl, rfl⟩)
      | (go_at_call_of 21 (Value.string ⟨M1.toArray⟩); refine (n1.out _).mono ?_; rintro e x1 ⟨rfl, rfl⟩)
      | (go_at_call_of 21 (Value.string ⟨M2.toArray⟩); refine (n2.out _).mono ?_; rintro e x1 ⟨rfl, rfl⟩)
      | (go_at_call_of 21 (Value.string ⟨M3.toArray⟩); refine (n3.out _).mono ?_; rintro e x1 ⟨rfl, rfl⟩))
    all_goals
      go_wp2_with fail
      go_meet
    all_goals exact ⟨_, rfl, RI.out⟩
  case rest =>
    obtain ⟨T, rfl, hI⟩ := hcut
    have I := Lib.hid hI
    obtain ⟨c0, c1, c2, c3, c4, c5, c6⟩ := hI.tag.cells
    have fz := hI.tag.frozen
    clear hI n0 n1 n2 n3 s0 s1 s2 s3 hw HZ HB HS1
    simp only at c0 c1 c2 c3 c4 c5 c6
    generalize Tg.fld b 0 = f0 at *
    generalize Tg.fld b 1 = f1 at *
    generalize Tg.fld b 2 = f2 at *
    generalize Tg.fld b 3 = f3 at *
    generalize Tg.fld b 4 = f4 at *
    generalize Tg.fld b 5 = f5 at *
    generalize Tg.fld b 6 = f6 at *
    go_wp2_with fail
    refine (n6.out _).mono ?_
    rintro e x1 ⟨rfl, rfl⟩
    replace I := Lib.hid (I.out.three f4 f5 f6)
    rw [← HTP.out] at I
    clear n6 s6
    go_wp2_with fail
    have HRR' := HRR.out (((wc.setCell ⟨T, 4, none⟩ (.int .i64 f4)).setCell ⟨T, 5, none⟩ (.int .i64 f5)).setCell ⟨T, 6, none⟩ (.int .i64 f6))
    rw [HTP.out] at HRR'
    refine HRR'.mono ?_
    rintro e x2 ⟨rfl, hb⟩
    rw [← HTP.out]
    replace I := Lib.hid (I.out.next hb)
    clear hb HRR HRR' c0 c1 c2 c3 c4 c5 c6 fz w6 e26 e27 w26 w27
    by_cases hr : Tg.rightB tt = true
    · go_wp2_with fail
      have HKF := Lib.hid (fun (W : World) (hb : Below x2.heap.size x2 W) => (I.out.next hb).tag.cells)
      have hB0 : Below x2.heap.size x2 x2.drew := (Below.refl _ x2).drew
      have s8 : (⟨b.toArray⟩ : ByteArray).extract 32 b.length = ⟨(b.drop 32).toArray⟩ := by rw [hl]; exact s7
      have HR := Lib.hid hr
      go_region_held3 ( fun W => W.cell? ⟨T, 0, none⟩ = some (.int .u32 (tt.e : Int)) ∧ W.cell? ⟨T, 1, none⟩ = some (.int .u64 (tt.s : Int)) ∧ W.cell? ⟨T, 2, none⟩ = some (.int .u64 (tt.q : Int)) ∧
      W.cell? ⟨T, 3, none⟩ = some (.int .u64 (tt.f : Int)) ∧ W.cell? ⟨T, 4, none⟩ = some (.int .i64 tt.i) ∧ W.cell? ⟨T, 5, none⟩ = some (.int .i64 tt.c) ∧ W.cell? ⟨T, 6, none⟩ = some (.int .i64 tt.d)) (exact HKF.out _ (by assumption)) (first
        | (go_at_call 12; refine (HRE.out _ HR.out).mono ?_; rintro e x3 ⟨rfl, hb⟩; have hB3 : Below x2.heap.size x2 x3 := hB0.trans (hb.mono hB0.size)))
      replace I := Lib.hid (I.out.next hB3)
      clear hB0 hB3 HKF hb
      generalize Tg.enc tt (b.drop 32) = en at HDB ⊢
      by_cases he : en = b
      · rw [show (!(en == b)) = false by simp [he]]
        have HE := Lib.hid he
        clear he
        go_wp2_with fail
        have hB0 : Below x3.heap.size x3 x3.drew := (Below.refl _ x3).drew
        have HKF := Lib.hid (fun (W : World) (hb : Below x3.heap.size x3 W) => (I.out.next hb).tag.cells)
        obtain ⟨d0, d1, d2, d3, d4, d5, d6⟩ := I.out.res.cells
        have fz := I.out.res.frozen
        have hlo := I.out.lo
        have htc := stored_touch x3 w.heap.size tt
        have ks := (I.out.tag.touch htc (by omega)).drew.cells
        have hst := (ref_stored_at tt I.out.res).drew
        have hbl := (I.out.below.trans (htc.to_below (by rintro k _ rfl; exact Nat.le_refl _) I.out.below.size)).drew
        unfold stored at ks
        have KS := Lib.hid ks
        have K0 := Lib.hid (HKF.out _ hB0)
        have HST := Lib.hid hst
        have HBL := Lib.hid hbl
        clear hlo ks HKF hB0 hst hbl htc
        go_region_held3 (fun W => W.cell? ⟨T, 0, none⟩ = some (.int .u32 (tt.e : Int)) ∧ W.cell? ⟨T, 1, none⟩ = some (.int .u64 (tt.s : Int)) ∧ W.cell? ⟨T, 2, none⟩ = some (.int .u64 (tt.q : Int)) ∧
      W.cell? ⟨T, 3, none⟩ = some (.int .u64 (tt.f : Int)) ∧ W.cell? ⟨T, 4, none⟩ = some (.int .i64 tt.i) ∧ W.cell? ⟨T, 5, none⟩ = some (.int .i64 tt.c) ∧ W.cell? ⟨T, 6, none⟩ = some (.int .i64 tt.d)) (with_reducible first | exact K0.out | exact KS.out) (fail)
        go_wp2_with fail
        change bodyPost _ _ _ _ _ (stored x3 w.heap.size tt).drew
        clear KS K0
        generalize (stored x3 w.heap.size tt).drew = w8 at HST HBL ⊢
        obtain ⟨s0, s1, s2, s3, s4, s5, s6⟩ := HST.out.cells
        refine bodyPost_ret (v := .tuple #[tagV tt, .string ⟨(b.drop 32).toArray⟩, .bool true]) (by simp [results, Try.results14, go_sem, s0, s1, s2, s3, s4, s5, s6]) rfl ⟨.inl ⟨by rw [HDB.out, HR.out, HE.out]; simp, rfl⟩, HBL.out⟩
      · rw [show (!(en == b)) = true by simp [he]]
        have HE := Lib.hid he
        clear he
        obtain ⟨d0, d1, d2, d3, d4, d5, d6⟩ := I.out.res.cells
        have fz := I.out.res.frozen
        go_wp2_with fail
        have hst := ref_stored_at zeroT I.out.res
        have htc := stored_touch x3 w.heap.size zeroT
        have hbl := I.out.below.trans (htc.to_below (by rintro k _ rfl; exact Nat.le_refl _) I.out.below.size)
        change bodyPost _ _ _ _ _ (stored x3 w.heap.size zeroT)
        generalize stored x3 w.heap.size zeroT = w8 at hst hbl ⊢
        obtain ⟨s0, s1, s2, s3, s4, s5, s6⟩ := ref_zero_cells hst
        refine bodyPost_ret (v := .tuple #[zeroV, .string ⟨#[]⟩, .bool false]) (by simp [results, Try.results14, go_sem, s0, s1, s2, s3, s4, s5, s6]) rfl ⟨.inr ⟨by rw [HDB.out]; simp [HE.out], rfl⟩, hbl⟩
    · rw [Bool.not_eq_true] at hr
      rw [hr]
      have HR := Lib.hid hr
      clear hr HRE
      go_wp2_with fail
      go_quiet (fail)
      have I4 := Lib.hid (I.out.next ((Touch.refl Emp x2).drewN nq).below)
      generalize x2.drewN nq = x4 at I4 ⊢
      clear I
      obtain ⟨d0, d1, d2, d3, d4, d5, d6⟩ := I4.out.res.cells
      have fz := I4.out.res.frozen
      go_wp2_with fail
      have hst := ref_stored_at zeroT I4.out.res
      have htc := stored_touch x4 w.heap.size zeroT
      have hbl := I4.out.below.trans (htc.to_below (by rintro k _ rfl; exact Nat.le_refl _) I4.out.below.size)
      change bodyPost _ _ _ _ _ (stored x4 w.heap.size zeroT)
      generalize stored x4 w.heap.size zeroT = w8 at hst hbl ⊢
      obtain ⟨s0, s1, s2, s3, s4, s5, s6⟩ := ref_zero_cells hst
      refine bodyPost_ret (v := .tuple #[zeroV, .string ⟨#[]⟩, .bool false]) (by simp [results, Try.results14, go_sem, s0, s1, s2, s3, s4, s5, s6]) rfl ⟨.inr ⟨by rw [HDB.out, HR.out]; rfl, rfl⟩, hbl⟩

end Go.Proofs.Ytijkgihgpchcfaa
