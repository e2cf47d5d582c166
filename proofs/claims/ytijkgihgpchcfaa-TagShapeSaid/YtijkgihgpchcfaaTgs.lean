/- TagShape: a sector is its mark, six numbers, two noughts, and the block. -/
import Derived.Test.YtijkgihgpchcfaaTgq
import Derived.Deep.QuietTactic
import Derived.BigQuiet
namespace Go.Proofs.Ytijkgihgpchcfaa
open Go.RowKit

/-- What the law goes on from: the tag's box, the block, the sector b. -/
structure ShpI (w wx : World) (t : Tg.T) (vb : Value) (L : List UInt8) (g gb : Nat) (B : List UInt8) : Prop where
  tag : TagAt wx w.heap.size t
  block : BV wx vb L g
  own : OwnAt wx gb B
  below : Below w.heap.size w wx
theorem ShpI.next {w wx w1 : World} {t : Tg.T} {vb : Value} {L : List UInt8} {g gb : Nat} {B : List UInt8} (h : ShpI w wx t vb L g gb B) (hb : Below wx.heap.size wx w1) : ShpI w w1 t vb L g gb B :=
  ⟨h.tag.below hb, h.block.below hb, h.own.below hb, h.below.trans (hb.mono h.below.size)⟩
theorem ShpI.drewN {w wx : World} {t : Tg.T} {vb : Value} {L : List UInt8} {g gb : Nat} {B : List UInt8} (h : ShpI w wx t vb L g gb B) (n : Nat) : ShpI w (wx.drewN n) t vb L g gb B := h.next ((Touch.refl Emp wx).drewN n).below

theorem enc_at (t : Tg.T) (b : List UInt8) (k i : Nat) (hk : k < 7) (hi : i < Tg.size k) : (Tg.enc t b)[Tg.place k + i]? = (Oct.le (Tg.size k) (Tg.val t k))[i]? := by
  obtain ⟨R, h⟩ := Tg.pre_more t (6 - k) k
  rw [show k + 1 + (6 - k) = 7 by omega] at h
  rw [Tg.enc, Tg.head, h, List.append_assoc, List.append_assoc, List.append_assoc, ← Tg.pre_length t k (by omega), List.getElem?_append_right (by omega), Nat.add_sub_cancel_left, List.getElem?_append_left (by rw [Oct.le_length]; exact hi)]
theorem enc_take4 (t : Tg.T) (b : List UInt8) : (Tg.enc t b).take 4 = [72, 82, 82, 87] := rfl
theorem enc_drop30 (t : Tg.T) (b : List UInt8) : (Tg.enc t b).drop 30 = [0, 0] ++ b := by
  have h := Tg.pre_length t 7 (Nat.le_refl _)
  rw [Tg.enc, Tg.head, List.append_assoc]
  exact List.drop_left' h

theorem byte_cell {w : World} {gb : Nat} {en : List UInt8} (h : OwnAt w gb en) {p s n i : Nat} (e : en[p]? = (Oct.le s n)[i]?) (hi : i < s) : w.cell? ⟨gb, p, none⟩ = some (.int .u8 ((n / 256 ^ i % 256 : Nat) : Int)) := by
  rw [Oct.le_at s n i hi] at e
  have := (h.cell p _ e).1
  rwa [Oct.of_toNat] at this
/-- The bytes of an epoch, and what their sum goes through. -/
theorem epoch_sum (e : Nat) (h : e < 4294967296) : ∃ n0 n1 n2 n3 g1 g2 g3 h1 h2 : Nat, n0 < 256 ∧ n1 < 256 ∧ n2 < 256 ∧ n3 < 256 ∧ (e / 256 ^ 0 % 256 = n0 ∧ e / 256 ^ 1 % 256 = n1 ∧ e / 256 ^ 2 % 256 = n2 ∧ e / 256 ^ 3 % 256 = n3) ∧
    (IntKind.u32.wrap (n0 : Int) = (n0 : Int) ∧ IntKind.u32.wrap (n1 : Int) = (n1 : Int) ∧ IntKind.u32.wrap (n2 : Int) = (n2 : Int) ∧ IntKind.u32.wrap (n3 : Int) = (n3 : Int)) ∧
    (IntKind.u32.wrap ((n1 : Int) * 256) = (g1 : Int) ∧ IntKind.u32.wrap ((n2 : Int) * 65536) = (g2 : Int) ∧ IntKind.u32.wrap ((n3 : Int) * 16777216) = (g3 : Int)) ∧
    IntKind.u32.wrap ((n0 : Int) + (g1 : Int)) = (h1 : Int) ∧ IntKind.u32.wrap ((h1 : Int) + (g2 : Int)) = (h2 : Int) ∧ IntKind.u32.wrap ((h2 : Int) + (g3 : Int)) = (e : Int) := by
  refine ⟨e % 256, e / 256 % 256, e / 65536 % 256, e / 16777216 % 256, e / 256 % 256 * 256, e / 65536 % 256 * 65536, e / 16777216 % 256 * 16777216, e % 65536, e % 16777216, by omega, by omega, by omega, by omega, ⟨by simp, by simp, by simp, by simp⟩, ⟨?_, ?_, ?_, ?_⟩, ⟨?_, ?_, ?_⟩, ?_, ?_, ?_⟩ <;> rw [IntKind.wrap_u32] <;> omega

set_option maxRecDepth 100000 in
set_option maxHeartbeats 4000000 in
theorem shape_walk (t : Tg.T) (a : Option Addr) (l : List UInt8) (cap g : Nat) (w : World) (he : t.e < 4294967296) (h : BV w (.slice a l.length cap) l g) :
    Calls Try.prog 7 #[tagV t, .slice a l.length cap] w fun e w' => e = .returned (.bool true) ∧ Below w.heap.size w w' := by
  have HTG := Lib.hid (show TagAt (w.alloc (.cells (tagC t) 25)) w.heap.size t from heap_alloc_new w _)
  have H := Lib.hid (h.alloc (.cells (tagC t) 25))
  have HB := Lib.hid ((Below.refl w.heap.size w).alloc (Nat.le_refl _) (.cells (tagC t) 25))
  have HE := Lib.hid he
  clear h he
  go_enter Try.func7, Try.ntmps7
  go_wp2_with fail
  refine (shown_any _).mono ?_
  rintro e w1 ⟨rfl, hb⟩
  replace HTG := Lib.hid (HTG.out.below hb)
  replace H := Lib.hid (H.out.below hb)
  replace HB := Lib.hid (HB.out.trans (hb.mono (by simp)))
  clear hb
  obtain ⟨c0, c1, c2, c3, c4, c5, c6⟩ := HTG.out.cells
  by_cases hok : Tg.rightB t = true ∧ l.length = 480
  · obtain ⟨hr, hl⟩ := hok
    have E := Lib.hid (encode_ok t _ l g w1 hr HE.out H.out hl)
    have HL := Lib.hid hl
    have HR := Lib.hid hr
    rw [hl] at H E ⊢
    clear hr hl
    go_wp2_with fail
    refine E.out.mono ?_
    rintro e w2 ⟨⟨v6, rfl, gb, cb, rfl, hcb, hgb, ho⟩, hb⟩
    have I := Lib.hid (show ShpI w w2 t (.slice a 480 cap) l g gb (Tg.enc t l) from ⟨HTG.out.below hb, H.out.below hb, ho, HB.out.trans (hb.mono HB.out.size)⟩)
    have hen : (Tg.enc t l).length = 512 := by rw [Tg.enc_length, HL.out]
    have HEN := Lib.hid hen
    have HT4 := Lib.hid (enc_take4 t l)
    have HD30 := Lib.hid (enc_drop30 t l)
    have HAT := Lib.hid (fun k i hk hi => enc_at t l k i hk hi)
    rw [hen] at hcb ⊢
    clear E H HTG HB ho hb hgb hen c0 c1 c2 c3 c4 c5 c6
    generalize Tg.enc t l = en at *
    have hs : ((⟨#[0, 0]⟩ : ByteArray) ++ ⟨l.toArray⟩) = ⟨([0, 0] ++ l).toArray⟩ := by
      rw [show (⟨#[0, 0]⟩ : ByteArray) = ⟨([0, 0] : List UInt8).toArray⟩ from rfl, str_app]
    generalize hZ : [0, 0] ++ l = Z at hs HD30
    have HZ := Lib.hid hZ
    have hll : l.length ≤ 480 := by rw [HL.out]; exact Nat.le_refl _
    have hu4 : ∀ W, (Instr.sliceAt 26 (.slice (some ⟨gb, 0, none⟩) 512 cb) none (some (.int .i64 4)) none).run Try.prog W = .ok (.slice (some ⟨gb, 0, none⟩) 4 cb) W := fun W => run_upto W (some ⟨gb, 0, none⟩) 512 cb 4 (by omega)
    have hu30 : ∀ W, (Instr.sliceAt 26 (.slice (some ⟨gb, 0, none⟩) 512 cb) (some (.int .i64 30)) none none).run Try.prog W = .ok (.slice (if cb = 30 then some ⟨gb, 0, none⟩ else Option.map (fun x : Addr => x.add 30) (some ⟨gb, 0, none⟩)) 482 (cb - 30)) W := fun W => run_from W (some ⟨gb, 0, none⟩) 512 cb 30 (by omega)
    have bd := fun n => (((I.out.drewN n).own.bv 512 cb HEN.out hcb).drop 30 (by omega)).reads
    rw [HD30.out] at bd
    have k30 := fun n => run_convBytes (bd n)
    have k4 := fun n => run_convBytes ((((I.out.drewN n).own.bv 512 cb HEN.out hcb).take 4 (by omega) cb (by omega) (Nat.le_refl _))).reads
    rw [HT4.out] at k4
    have kb := fun n => run_convBytes (I.out.drewN n).block.reads
    generalize (if cb = 30 then some ⟨gb, 0, none⟩ else Option.map (fun x : Addr => x.add 30) (some ⟨gb, 0, none⟩)) = a30 at hu30 k30
    clear bd hZ
    go_wp2_with fail
    go_quiet (fail)
    replace I := Lib.hid (I.out.drewN nq)
    clear k30 k4 kb hu4 hu30 hs HD30 HT4 HZ
    generalize w2.drewN nq = w3 at I ⊢
    have hq1 := Oct.unle_le 6 t.q
    have hf1 := Oct.unle_le 6 t.f
    have hs1 := Oct.unle_le 6 t.s
    obtain ⟨r1, r2, r3, r4, r5, r6, r7, r8, r9, r10, r11⟩ := (Tg.right_iff t).1 HR.out
    have p6 : (256 : Nat) ^ 6 = 281474976710656 := by decide
    rw [p6, Nat.mod_eq_of_lt (by omega)] at hq1 hf1 hs1
    have Q := Lib.hid hq1
    have F := Lib.hid hf1
    have S0 := Lib.hid hs1
    have A1 := Lib.hid (fun i (hi : i < 6) => (show en[8 + i]? = (Oct.le 6 t.q)[i]? from HAT.out 1 i (by omega) hi))
    have A2 := Lib.hid (fun i (hi : i < 6) => (show en[14 + i]? = (Oct.le 6 t.f)[i]? from HAT.out 2 i (by omega) hi))
    have A3 := Lib.hid (fun i (hi : i < 6) => (show en[20 + i]? = (Oct.le 6 t.s)[i]? from HAT.out 3 i (by omega) hi))
    have lq := Oct.le_length 6 t.q
    have lf := Oct.le_length 6 t.f
    have ls := Oct.le_length 6 t.s
    have LQ := Lib.hid lq
    have LF := Lib.hid lf
    have LS := Lib.hid ls
    clear hq1 hf1 hs1 p6 lq lf ls
    generalize Oct.le 6 t.q = M1 at Q A1 LQ
    generalize Oct.le 6 t.f = M2 at F A2 LF
    generalize Oct.le 6 t.s = M3 at S0 A3 LS
    go_wp2_with fail
    go_loop [8, 9, 10, 11] (fun x1 x2 x3 i => ∃ k : Nat, k ≤ 6 ∧ i = .int .i64 ((k : Int) - 1) ∧ x1 = .int .u64 ((Oct.unle (M1.drop k) : Nat) : Int) ∧ x2 = .int .u64 ((Oct.unle (M2.drop k) : Nat) : Int) ∧ x3 = .int .u64 ((Oct.unle (M3.drop k) : Nat) : Int)) (fun _ _ _ i => (intOf i + 1).toNat)
    case atStart => exact ⟨6, Nat.le_refl _, rfl, by rw [List.drop_of_length_le (by rw [LQ.out]; exact Nat.le_refl _)]; rfl, by rw [List.drop_of_length_le (by rw [LF.out]; exact Nat.le_refl _)]; rfl, by rw [List.drop_of_length_le (by rw [LS.out]; exact Nat.le_refl _)]; rfl⟩
    case round =>
      obtain ⟨k, hk, rfl, rfl, rfl, rfl⟩ := hrel
      by_cases hlt : 0 < k
      · obtain ⟨j, rfl⟩ : ∃ j, k = j + 1 := ⟨k - 1, by omega⟩
        have hj : j < 6 := by omega
        have e1 := (A1.out j hj).trans (List.getElem?_eq_getElem (show j < M1.length by rw [LQ.out]; exact hj))
        have e2 := (A2.out j hj).trans (List.getElem?_eq_getElem (show j < M2.length by rw [LF.out]; exact hj))
        have e3 := (A3.out j hj).trans (List.getElem?_eq_getElem (show j < M3.length by rw [LS.out]; exact hj))
        obtain ⟨d1, -⟩ := I.out.own.cell _ _ e1
        obtain ⟨d2, -⟩ := I.out.own.cell _ _ e2
        obtain ⟨d3, -⟩ := I.out.own.cell _ _ e3
        have a1 := refAdd M1 j (by rw [LQ.out]; exact hj) (by rw [LQ.out]; decide)
        have a2 := refAdd M2 j (by rw [LF.out]; exact hj) (by rw [LF.out]; decide)
        have a3 := refAdd M3 j (by rw [LS.out]; exact hj) (by rw [LS.out]; decide)
        generalize hz1 : Oct.unle (M1.drop j) = z1 at a1
        generalize hz2 : Oct.unle (M2.drop j) = z2 at a2
        generalize hz3 : Oct.unle (M3.drop j) = z3 at a3
        have HZ1 := Lib.hid hz1
        have HZ2 := Lib.hid hz2
        have HZ3 := Lib.hid hz3
        generalize Oct.unle (M1.drop (j + 1)) = y1 at a1 ⊢
        generalize Oct.unle (M2.drop (j + 1)) = y2 at a2 ⊢
        generalize Oct.unle (M3.drop (j + 1)) = y3 at a3 ⊢
        generalize M1[j]'(by rw [LQ.out]; exact hj) = b1 at a1 d1
        generalize M2[j]'(by rw [LF.out]; exact hj) = b2 at a2 d2
        generalize M3[j]'(by rw [LS.out]; exact hj) = b3 at a3 d3
        have hj1 : (((j + 1 : Nat) : Int) - 1) = (j : Int) := by omega
        rw [hj1]
        clear hz1 hz2 hz3 e1 e2 e3 hj1
        go_wp2
        go_round
        case rel => exact ⟨j, by omega, rfl, by rw [HZ1.out], by rw [HZ2.out], by rw [HZ3.out]⟩
        case measure => simp [intOf]
      · obtain rfl : k = 0 := by omega
        rw [List.drop_zero, List.drop_zero, List.drop_zero, Q.out, F.out, S0.out]
        have B0 := Lib.hid (fun k i hk hi => byte_cell I.out.own (HAT.out k i hk hi) hi)
        obtain ⟨n0, n1, n2, n3, g1, g2, g3, h1, h2, hn0, hn1, hn2, hn3, ⟨q0, q1, q2, q3⟩, ⟨v0, v1, v2, v3⟩, ⟨u1, u2, u3⟩, s1, s2, s3⟩ := epoch_sum t.e HE.out
        have d4 := B0.out 0 0 (by omega) (by decide)
        have d5 := B0.out 0 1 (by omega) (by decide)
        have d6 := B0.out 0 2 (by omega) (by decide)
        have d7 := B0.out 0 3 (by omega) (by decide)
        have d26 := B0.out 4 0 (by omega) (by decide)
        have d27 := B0.out 5 0 (by omega) (by decide)
        have d28 := B0.out 6 0 (by omega) (by decide)
        have d29 := B0.out 6 1 (by omega) (by decide)
        simp only [Tg.place, Tg.val, Nat.add_zero, Nat.reduceAdd] at d4 d5 d6 d7 d26 d27 d28 d29
        rw [q0] at d4
        rw [q1] at d5
        rw [q2] at d6
        rw [q3] at d7
        rw [show ((t.i.toNat / 256 ^ 0 % 256 : Nat) : Int) = t.i by omega] at d26
        rw [show ((t.c.toNat / 256 ^ 0 % 256 : Nat) : Int) = t.c by omega] at d27
        obtain ⟨m0, m1, hm0, hm1, hmd, hd0, hd1⟩ : ∃ m0 m1 : Nat, m0 < 256 ∧ m1 < 256 ∧ t.d = (m0 : Int) + 256 * (m1 : Int) ∧ t.d.toNat / 256 ^ 0 % 256 = m0 ∧ t.d.toNat / 256 ^ 1 % 256 = m1 := ⟨t.d.toNat / 256 ^ 0 % 256, t.d.toNat / 256 ^ 1 % 256, by omega, by omega, by omega, rfl, rfl⟩
        rw [hd0] at d28
        rw [hd1] at d29
        have HMD := Lib.hid hmd
        have HDD := Lib.hid (And.intro hd0 hd1)
        obtain ⟨c0, c1, c2, c3, c4, c5, c6⟩ := I.out.tag.cells
        clear hmd hd0 hd1 q0 q1 q2 q3
        go_wp2_with fail
        go_quiet (fail)
        replace I := Lib.hid (I.out.drewN nq)
        clear c0 c1 c2 c3 c4 c5 c6 d4 d5 d6 d7 d26 d27 d28 d29 v0 v1 v2 v3 u1 u2 u3 s1 s2 s3 hn0 hn1 hn2 hn3 B0
        generalize w3.drewN nq = w4 at I ⊢
        have B0 := Lib.hid (fun k i hk hi => byte_cell I.out.own (HAT.out k i hk hi) hi)
        have d26 := B0.out 4 0 (by omega) (by decide)
        have d27 := B0.out 5 0 (by omega) (by decide)
        have d28 := B0.out 6 0 (by omega) (by decide)
        have d29 := B0.out 6 1 (by omega) (by decide)
        simp only [Tg.place, Tg.val, Nat.add_zero, Nat.reduceAdd] at d26 d27 d28 d29
        rw [show ((t.i.toNat / 256 ^ 0 % 256 : Nat) : Int) = t.i by omega] at d26
        rw [show ((t.c.toNat / 256 ^ 0 % 256 : Nat) : Int) = t.c by omega] at d27
        rw [HDD.out.1] at d28
        rw [HDD.out.2] at d29
        obtain ⟨c0, c1, c2, c3, c4, c5, c6⟩ := I.out.tag.cells
        have x26 : IntKind.i64.wrap t.i = t.i := by rw [IntKind.wrap_i64]; omega
        have x27 : IntKind.i64.wrap t.c = t.c := by rw [IntKind.wrap_i64]; omega
        have x28 : IntKind.i64.wrap (m0 : Int) = (m0 : Int) := by rw [IntKind.wrap_i64]; omega
        have x29 : IntKind.i64.wrap (m1 : Int) = (m1 : Int) := by rw [IntKind.wrap_i64]; omega
        obtain ⟨k1, hk1, y1, y2⟩ : ∃ k1 : Nat, k1 ≤ 65280 ∧ IntKind.i64.wrap (256 * (m1 : Int)) = (k1 : Int) ∧ IntKind.i64.wrap ((m0 : Int) + (k1 : Int)) = t.d := ⟨256 * m1, by omega, by rw [IntKind.wrap_i64]; omega, by rw [IntKind.wrap_i64, HMD.out]; omega⟩
        clear B0
        go_wp2_with fail
        go_quiet (fail)
        replace I := Lib.hid (I.out.drewN nq)
        clear c0 c1 c2 c3 c4 c5 c6 d26 d27 d28 d29 x26 x27 x28 x29 y1 y2 r1 r2 r3 r4 r5 r6 r7 r8 r9 r10 r11
        go_wp2
        go_ret
        exact ⟨rfl, I.out.below⟩
  · have hno : Tg.rightB t = false ∨ l.length ≠ 480 := by
      by_cases hr : Tg.rightB t = true
      · exact .inr fun hl => hok ⟨hr, hl⟩
      · exact .inl (by simpa using hr)
    have E := Lib.hid (encode_no t a l.length cap w1 hno)
    clear hok hno
    go_wp2_with fail
    refine E.out.mono ?_
    rintro e w2 ⟨rfl, hb⟩
    replace HB := Lib.hid (HB.out.trans (hb.mono HB.out.size))
    clear E hb H HTG c0 c1 c2 c3 c4 c5 c6
    go_wp2
    go_ret
    exact ⟨rfl, HB.out⟩

end Go.Proofs.Ytijkgihgpchcfaa
