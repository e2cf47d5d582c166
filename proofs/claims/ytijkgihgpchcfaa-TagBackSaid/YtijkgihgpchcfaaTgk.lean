/- TagBack: what is written is read as it is. -/
import Derived.Test.YtijkgihgpchcfaaTgq
import Derived.Test.YtijkgihgpchcfaaBit
namespace Go.Proofs.Ytijkgihgpchcfaa
open Go.RowKit

theorem and_31 (x : Int) : ∃ k : Nat, k ≤ 31 ∧ bits .and .i64 x 31 = (k : Int) := by
  have := and_mask_i64 x 5 (by omega)
  simp only [Nat.reducePow, Nat.reduceSub] at this
  rw [show ((31 : Nat) : Int) = 31 from rfl] at this
  exact ⟨_, by omega, this⟩
theorem add8 (y c : UInt8) : IntKind.u8.wrap ((y.toNat : Int) + (c.toNat : Int)) = ((y + c).toNat : Int) := by
  rw [IntKind.wrap_u8, UInt8.toNat_add]; omega
theorem add8_ne (y c : UInt8) (h : y + c = y) : c = 0 := by
  have h1 := congrArg UInt8.toNat h
  rw [UInt8.toNat_add] at h1
  have := y.toNat_lt
  have := c.toNat_lt
  exact UInt8.toNat_inj.1 (by show c.toNat = 0; omega)

/-- What the law goes on from: the tag's box, the block, the sector b. -/
structure BakI (w wx : World) (t : Tg.T) (vb : Value) (L : List UInt8) (g gb : Nat) (B : List UInt8) : Prop where
  tag : TagAt wx w.heap.size t
  block : BV wx vb L g
  lt : g < w.heap.size
  own : OwnAt wx gb B
  lo : w.heap.size < gb
  below : Below w.heap.size w wx
theorem BakI.next {w wx w1 : World} {t : Tg.T} {vb : Value} {L : List UInt8} {g gb : Nat} {B : List UInt8} (h : BakI w wx t vb L g gb B) (hb : Below wx.heap.size wx w1) : BakI w w1 t vb L g gb B :=
  ⟨h.tag.below hb, h.block.below hb, h.lt, h.own.below hb, h.lo, h.below.trans (hb.mono h.below.size)⟩
theorem BakI.touch {w wx w1 : World} {t : Tg.T} {vb : Value} {L : List UInt8} {g gb gc : Nat} {B : List UInt8} (h : BakI w wx t vb L g gb B) (ht : Touch (fun k => k = gc) wx w1) (hc : gb < gc) : BakI w w1 t vb L g gb B :=
  ⟨h.tag.touch ht (by have := h.lo; omega), h.block.touch ht (fun _ => by have := h.lt; have := h.lo; omega), h.lt, h.own.touch ht (by omega), h.lo, h.below.trans (ht.to_below (by rintro k _ rfl; have := h.lo; omega) h.below.size)⟩
theorem BakI.set {w wx : World} {t : Tg.T} {vb : Value} {L : List UInt8} {g gb : Nat} {B : List UInt8} (h : BakI w wx t vb L g gb B) (j : Nat) (x : UInt8) : BakI w (wx.setCell ⟨gb, j, none⟩ (.int .u8 (x.toNat : Int))) t vb L g gb (B.set j x) := by
  have ht : Touch (fun k => k = gb) wx (wx.setCell ⟨gb, j, none⟩ (.int .u8 (x.toNat : Int))) := (Touch.refl (fun k => k = gb) wx).setCell (a := ⟨gb, j, none⟩) (.inl rfl) _
  have hlo := h.lo
  have hlt := h.lt
  exact ⟨h.tag.touch ht (by omega), h.block.touch ht (fun _ => by omega), h.lt, h.own.set j x, h.lo, h.below.trans (ht.to_below (by rintro k _ rfl; omega) h.below.size)⟩

/-- Decode of the sector as it was made. -/
theorem back_decode {w W : World} {t : Tg.T} {vb : Value} {L : List UInt8} {g gb : Nat} {en : List UInt8} {cb : Nat} (h : BakI w W t vb L g gb en) (hl : en.length = 512) (hcb : 512 ≤ cb) (hd : Tg.decB en = true) (ht : Tg.told en = t) (hdr : en.drop 32 = L) :
    Calls Try.prog 13 #[.slice (some ⟨gb, 0, none⟩) 512 cb] W fun e w' => (∃ gc cc, e = .returned (.tuple #[tagV t, .slice (some ⟨gc, 0, none⟩) 480 cc, .int .i64 0]) ∧ 480 ≤ cc ∧ gb < gc ∧ OwnAt w' gc L) ∧ Below W.heap.size W w' := by
  refine (decode_full (some ⟨gb, 0, none⟩) cb en gb W (h.own.bv 512 cb hl hcb) hl).mono ?_
  rintro e w' ⟨⟨-, v', rfl, gc, cc, rfl, hcc, hgc, ho⟩ | ⟨hd', -⟩, hb⟩
  · have hlL : L.length = 480 := by rw [← hdr, List.length_drop, hl]
    rw [hdr] at hcc ho ⊢
    rw [hlL] at hcc ⊢
    rw [ht]
    exact ⟨⟨gc, cc, rfl, hcc, Nat.lt_of_lt_of_le h.own.lt hgc, ho⟩, hb⟩
  · rw [hd] at hd'; cases hd'

theorem hot_of (t : Tg.T) (en : List UInt8) (j : Nat) (z : UInt8) (hj : j ≤ 31) (h : ∀ (k : Nat) (x : UInt8), k < 32 → Tg.decB (en.set k x) = true → Tg.told (en.set k x) = t → en[k]? = some x) : Tg.decB (en.set j z) = true → Tg.told (en.set j z) = t → en[j]? = some z := h j z (by omega)

set_option maxRecDepth 100000 in
set_option maxHeartbeats 4000000 in
theorem back_walk (t : Tg.T) (a : Option Addr) (l : List UInt8) (cap g : Nat) (at_ : Int) (c : UInt8) (w : World) (he : t.e < 4294967296) (h : BV w (.slice a l.length cap) l g) :
    Calls Try.prog 5 #[tagV t, .slice a l.length cap, .int .i64 at_, .int .u8 (c.toNat : Int)] w fun e w' => e = .returned (.bool true) ∧ Below w.heap.size w w' := by
  have HTG := Lib.hid (show TagAt (w.alloc (.cells (tagC t) 25)) w.heap.size t from heap_alloc_new w _)
  have H := Lib.hid (h.alloc (.cells (tagC t) 25))
  have HB := Lib.hid ((Below.refl w.heap.size w).alloc (Nat.le_refl _) (.cells (tagC t) 25))
  have HE := Lib.hid he
  have HLT := Lib.hid h.lt
  have hs1 : w.heap.size < (w.alloc (.cells (tagC t) 25)).heap.size := by simp
  have HS1 := Lib.hid hs1
  clear h he hs1
  go_enter Try.func5, Try.ntmps5
  go_wp2_with fail
  refine (shown_any _).mono ?_
  rintro e w1 ⟨rfl, hb⟩
  replace HTG := Lib.hid (HTG.out.below hb)
  replace H := Lib.hid (H.out.below hb)
  replace HB := Lib.hid (HB.out.trans (hb.mono (by simp)))
  replace HS1 := Lib.hid (Nat.lt_of_lt_of_le HS1.out hb.size)
  clear hb
  obtain ⟨c0, c1, c2, c3, c4, c5, c6⟩ := HTG.out.cells
  by_cases hok : Tg.rightB t = true ∧ l.length = 480
  · obtain ⟨hr, hl⟩ := hok
    have E := Lib.hid (encode_ok t _ l g w1 hr HE.out H.out hl)
    have hne : l ≠ [] := by rintro rfl; cases hl
    have HG := Lib.hid (HLT.out hne)
    have HL := Lib.hid hl
    have HR := Lib.hid hr
    rw [hl] at H E ⊢
    clear hr hl hne HLT
    go_wp2_with fail
    refine E.out.mono ?_
    rintro e w2 ⟨⟨v10, rfl, gb, cb, rfl, hcb, hgb, ho⟩, hb⟩
    have I := Lib.hid (show BakI w w2 t (.slice a 480 cap) l g gb (Tg.enc t l) from ⟨HTG.out.below hb, H.out.below hb, HG.out, ho, Nat.lt_of_lt_of_le HS1.out hgb, HB.out.trans (hb.mono HB.out.size)⟩)
    have hen : (Tg.enc t l).length = 512 := by rw [Tg.enc_length, HL.out]
    have HEN := Lib.hid hen
    have HDC := Lib.hid (Tg.dec_enc t l HR.out HE.out)
    have HTD := Lib.hid (Tg.told_enc t l HR.out HE.out)
    have HDR := Lib.hid (Tg.enc_drop t l)
    have HOT := Lib.hid (fun k x => Tg.dec_other t l k x)
    rw [hen] at hcb ⊢
    clear E H HTG HB HS1 ho hb hgb hen c0 c1 c2 c3 c4 c5 c6
    generalize Tg.enc t l = en at *
    have D := Lib.hid (fun (W : World) (h : BakI w W t (.slice a 480 cap) l g gb en) => back_decode h HEN.out hcb HDC.out HTD.out HDR.out)
    go_wp2_with fail
    refine (D.out w2 I.out).mono ?_
    rintro e w3 ⟨⟨gc, cc, rfl, hcc, hgc, hoc⟩, hb⟩
    replace I := Lib.hid (I.out.next hb)
    have HC := Lib.hid hoc
    have heq := neq_tags t t
    rw [show (!decide (t = t)) = false by simp] at heq
    have hgd := fun x y => guard_tag' x y t t
    clear hoc hb
    have hAl : Below w3.heap.size w3 (w3.alloc (.cells (tagC t) 25)) := (Below.refl _ w3).alloc (Nat.le_refl _) _
    have kc := run_convBytes ((HC.out.below hAl).bv 480 cc HL.out hcc).reads
    have kb := run_convBytes (I.out.next hAl).block.reads
    obtain ⟨c0, c1, c2, c3, c4, c5, c6⟩ := (I.out.next hAl).tag.cells
    have HI4 := Lib.hid (I.out.next hAl)
    have HC4 := Lib.hid (HC.out.below hAl)
    clear hAl
    unfold tagC at kc kb c0 c1 c2 c3 c4 c5 c6
    go_wp2_with fail
    change Code.wp _ _ _ _ (w3.alloc (.cells (tagC t) 25))
    clear kc kb c0 c1 c2 c3 c4 c5 c6 I HC heq hgd
    generalize w3.alloc (.cells (tagC t) 25) = w4 at HI4 HC4 ⊢
    generalize w3.heap.size = T12
    go_loopw [15] (fun i wr => ∃ (q : Nat) (M : List UInt8), q ≤ 480 ∧ i = .int .i64 q ∧ M.length = 480 ∧ OwnAt wr gc M ∧ BakI w wr t (.slice a 480 cap) l g gb en) (fun i _ => 480 - (intOf i).toNat)
    case atStart => exact ⟨0, l, Nat.zero_le _, rfl, HL.out, HC4.out, HI4.out⟩
    case round =>
      obtain ⟨q, M, hq, rfl, hM, hoc, hI⟩ := hrel
      by_cases hlt : q < 480
      · obtain ⟨x, hx⟩ : ∃ x, M[q]? = some x := ⟨M[q]'(by omega), List.getElem?_eq_getElem (by omega)⟩
        obtain ⟨hc, hfz⟩ := hoc.cell q x hx
        have hq1 : (q : Int) < 480 := by omega
        have HN := Lib.hid (show OwnAt (wr.setCell ⟨gc, q, none⟩ (.int .u8 7)) gc (M.set q 7) from hoc.set q 7)
        have HIN := Lib.hid (hI.touch ((Touch.refl (fun k => k = gc) wr).setCell (a := ⟨gc, q, none⟩) (.inl rfl) (.int .u8 7)) hgc)
        have HM := Lib.hid hM
        clear hoc hI hx hM
        go_wp2
        go_roundw
        case rel => exact ⟨q + 1, M.set q 7, by omega, by go_num, by rw [List.length_set]; exact HM.out, HN.out, HIN.out⟩
        case measure => simp [intOf]; omega
      · obtain rfl : q = 480 := by omega
        have I := Lib.hid hI
        clear hoc hI hM HI4 HC4
        go_wp2_with fail
        refine (D.out wr I.out).mono ?_
        rintro e w5 ⟨⟨gd, cd, rfl, hcd, hgd, hod⟩, hb⟩
        replace I := Lib.hid (I.out.next hb)
        have HD := Lib.hid hod
        clear hod hb D
        have hAl : Below w5.heap.size w5 (w5.alloc (.cells (tagC t) 25)) := (Below.refl _ w5).alloc (Nat.le_refl _) _
        have kd := run_convBytes ((HD.out.below hAl).bv 480 cd HL.out hcd).reads
        have kb := run_convBytes (I.out.next hAl).block.reads
        have HI6 := Lib.hid (I.out.next hAl)
        obtain ⟨j, hj, hj1⟩ := and_31 at_
        obtain ⟨y, hy⟩ : ∃ y, en[j]? = some y := ⟨en[j]'(by rw [HEN.out]; omega), List.getElem?_eq_getElem (by rw [HEN.out]; omega)⟩
        obtain ⟨cy, cfz⟩ := HI6.out.own.cell j y hy
        have had := add8 y c
        have HY := Lib.hid hy
        generalize hz : y + c = z at had
        have HZ := Lib.hid hz
        clear hAl hy hz
        unfold tagC at kd kb cy cfz
        go_wp2_with fail
        have I8 := Lib.hid (HI6.out.set j z)
        change Calls _ _ _ ((w5.alloc (.cells (tagC t) 25)).setCell ⟨gb, j, none⟩ (.int .u8 (z.toNat : Int))) _
        clear kd kb cy cfz had HD I HI6
        generalize (w5.alloc (.cells (tagC t) 25)).setCell ⟨gb, j, none⟩ (.int .u8 (z.toNat : Int)) = w8 at I8 ⊢
        generalize w5.heap.size = T16
        have hel : (en.set j z).length = 512 := by rw [List.length_set]; exact HEN.out
        refine (decode_full (some ⟨gb, 0, none⟩) cb (en.set j z) gb w8 (I8.out.own.bv 512 cb hel hcb) hel).mono ?_
        rintro e w9 ⟨he9, hb⟩
        replace I8 := Lib.hid (I8.out.next hb)
        have HO9 := Lib.hid (hot_of t en j z hj HOT.out)
        clear hb
        by_cases hc : c = 0
        · subst hc
          obtain ⟨hd, v', rfl, -⟩ | ⟨hd, rfl⟩ := he9
          · replace I8 := Lib.hid (I8.out.next ((Below.refl _ w9).alloc (Nat.le_refl _) (.cells (tagC (Tg.told (en.set j z))) 25)))
            unfold tagC at I8
            go_wp2
            go_ret
            exact ⟨rfl, I8.out.below⟩
          · replace I8 := Lib.hid (I8.out.next ((Below.refl _ w9).alloc (Nat.le_refl _) (.cells #[.int .u32 0, .int .u64 0, .int .u64 0, .int .u64 0, .int .i64 0, .int .i64 0, .int .i64 0] 25)))
            go_wp2
            go_ret
            exact ⟨rfl, I8.out.below⟩
        · have hcn : ¬ ((c.toNat : Int) = 0) := fun h => hc (UInt8.toNat_inj.1 (by show c.toNat = 0; omega))
          obtain ⟨hd, v', rfl, -⟩ | ⟨hd, rfl⟩ := he9
          · have hne : Tg.told (en.set j z) ≠ t := fun h => hc (add8_ne y c (by
              have h1 := HO9.out hd h
              rw [HY.out] at h1
              rw [HZ.out]
              exact (Option.some.inj h1).symm))
            have heq := neq_tags (Tg.told (en.set j z)) t
            rw [show (!decide (Tg.told (en.set j z) = t)) = true by simp [hne]] at heq
            have hgd := fun x y => guard_tag' x y (Tg.told (en.set j z)) t
            obtain ⟨c0, c1, c2, c3, c4, c5, c6⟩ := (I8.out.next ((Below.refl _ w9).alloc (Nat.le_refl _) (.cells (tagC (Tg.told (en.set j z))) 25))).tag.cells
            replace I8 := Lib.hid (I8.out.next ((Below.refl _ w9).alloc (Nat.le_refl _) (.cells (tagC (Tg.told (en.set j z))) 25)))
            clear hd hne hc HO9
            generalize Tg.told (en.set j z) = tt at *
            unfold tagC at I8 c0 c1 c2 c3 c4 c5 c6
            go_wp2
            go_ret
            exact ⟨rfl, I8.out.below⟩
          · replace I8 := Lib.hid (I8.out.next ((Below.refl _ w9).alloc (Nat.le_refl _) (.cells #[.int .u32 0, .int .u64 0, .int .u64 0, .int .u64 0, .int .i64 0, .int .i64 0, .int .i64 0] 25)))
            clear hc HO9
            go_wp2
            go_ret
            exact ⟨rfl, I8.out.below⟩
  · have hno : Tg.rightB t = false ∨ l.length ≠ 480 := by
      by_cases hr : Tg.rightB t = true
      · exact .inr fun hl => hok ⟨hr, hl⟩
      · exact .inl (by simpa using hr)
    have E := Lib.hid (encode_no t a l.length cap w1 hno)
    clear hok hno
    go_wp2_with fail
    refine E.out.mono ?_
    rintro e w2 ⟨rfl, hb⟩
    replace HB := Lib.hid (HB.out.trans (hb.mono HB.out.size))
    clear E hb H HTG c0 c1 c2 c3 c4 c5 c6
    go_wp2
    go_ret
    exact ⟨rfl, HB.out⟩

end Go.Proofs.Ytijkgihgpchcfaa
