/- 'shown' of tag: what must be in any case. -/
import Derived.Test.YtijkgihgpchcfaaTgd
namespace Go.Proofs.Ytijkgihgpchcfaa
open Go.RowKit

/-- The tag of 'shown'. -/
def tagS : Tg.T := ⟨1, 1, 2, 1, 1, 3, 258⟩
abbrev tagSV : Value := .agg #[.int .u32 1, .int .u64 1, .int .u64 2, .int .u64 1, .int .i64 1, .int .i64 3, .int .i64 258]
theorem tagS_right : Tg.rightB tagS = true := by decide
theorem zeroT_right : Tg.rightB zeroT = false := by decide
theorem zeros_dec : Tg.decB (zerosL 512) = false := by
  have he : (Tg.told (zerosL 512)).e = 0 := by
    show Oct.unle (((List.replicate 512 0).drop 4).take 4) = 0
    rw [List.drop_replicate, List.take_replicate, Oct.unle_zeros]
  have : Tg.rightB (Tg.told (zerosL 512)) = false := by
    rw [Bool.eq_false_iff]
    intro h
    have := ((Tg.right_iff _).1 h).1
    omega
  rw [Tg.decB, this]; rfl
theorem encodeS (v : Value) (L : List UInt8) (g : Nat) (w : World) (h : BV w v L g) (hl : L.length = 480) :
    Calls Try.prog 10 #[tagSV, v] w fun e w' => (∃ v', e = .returned (.tuple #[v', .int .i64 0]) ∧ OwnB w.heap.size w' v' (Tg.enc tagS L)) ∧ Below w.heap.size w w' :=
  encode_ok tagS v L g w tagS_right (by decide) h hl
theorem encodeZ (a : Option Addr) (n cap : Nat) (w : World) :
    Calls Try.prog 10 #[zeroV, .slice a n cap] w fun e w' => e = .returned (.tuple #[.slice none 0 0, .int .i64 1]) ∧ Below w.heap.size w w' :=
  encode_no zeroT a n cap w (.inl zeroT_right)
theorem decodeZ (w : World) : Calls Try.prog 13 #[.slice (some ⟨w.heap.size, 0, none⟩) 512 512] (w.alloc (.cells (rowA (zerosL 512)) 5)) fun e w' => e = .returned (.tuple #[zeroV, .slice none 0 0, .int .i64 4]) ∧ Below w.heap.size w w' := by
  refine (decode_full _ _ (zerosL 512) w.heap.size _ (BV.lit w _ (0, 0) (zerosL 512) 512 512 rfl (zerosL_length 512).symm (Nat.le_refl _)) (zerosL_length 512)).mono ?_
  rintro e w' ⟨⟨h, -⟩ | ⟨-, rfl⟩, hb⟩
  · rw [zeros_dec] at h; cases h
  · exact ⟨rfl, ((Below.refl _ _).alloc (Nat.le_refl _) _).trans (hb.mono (by simp))⟩
/-- What is asked of the sector of 'shown'. -/
theorem encS_len (L : List UInt8) (hl : L.length = 480) : (Tg.enc tagS L).length = 512 := by rw [Tg.enc_length, hl]
theorem encS_take (L : List UInt8) : (Tg.enc tagS L).take 4 = [72, 82, 82, 87] := rfl
theorem encS_at4 (L : List UInt8) : (Tg.enc tagS L)[4]? = some 1 := rfl
theorem encS_at28 (L : List UInt8) : (Tg.enc tagS L)[28]? = some 2 := rfl
theorem encS_at29 (L : List UInt8) : (Tg.enc tagS L)[29]? = some 1 := rfl
theorem z480 (W : World) : BV (W.alloc (.cells (rowA (zerosL 480)) 5)) (.slice (some ⟨W.heap.size, 0, none⟩) 480 480) (zerosL 480) W.heap.size :=
  BV.lit W _ (0, 0) (zerosL 480) 480 480 rfl (zerosL_length 480).symm (Nat.le_refl _)

theorem tagS_cells {w : World} {b : Nat} (h : TagAt w b tagS) : w.cell? ⟨b, 0, none⟩ = some (.int .u32 1) ∧ w.cell? ⟨b, 1, none⟩ = some (.int .u64 1) ∧ w.cell? ⟨b, 2, none⟩ = some (.int .u64 2) ∧
    w.cell? ⟨b, 3, none⟩ = some (.int .u64 1) ∧ w.cell? ⟨b, 4, none⟩ = some (.int .i64 1) ∧ w.cell? ⟨b, 5, none⟩ = some (.int .i64 3) ∧ w.cell? ⟨b, 6, none⟩ = some (.int .i64 258) := h.cells

set_option maxRecDepth 100000 in
set_option maxHeartbeats 4000000 in
theorem shown_any (w : World) : Calls Try.prog 8 #[] w fun e w' => e = .returned (.bool true) ∧ Below w.heap.size w w' := by
  have hmk := fun W => run_makeBytes W 480 (by omega) (by omega)
  rw [show (480 : Int).toNat = 480 from rfl] at hmk
  have hmk5 := fun W => run_makeBytes W 512 (by omega) (by omega)
  rw [show (512 : Int).toNat = 512 from rfl] at hmk5
  have HT := Lib.hid ((Below.refl w.heap.size w).alloc (Nat.le_refl _) (.cells (tagC tagS) 25))
  have HG := Lib.hid (show TagAt (w.alloc (.cells (tagC tagS) 25)) w.heap.size tagS from heap_alloc_new w _)
  go_enter Try.func8, Try.ntmps8
  go_wp2_with fail
  change Code.wp _ _ _ _ (w.alloc (.cells (tagC tagS) 25))
  generalize w.alloc (.cells (tagC tagS) 25) = w1 at HT HG ⊢
  have HKF := Lib.hid (fun (W : World) (hb : Below w1.heap.size w1 W) => tagS_cells (HG.out.below hb))
  have hB0 : Below w1.heap.size w1 w1.drew := (Below.refl _ w1).drew
  have hBA : Below w1.heap.size w1 (w1.drew.alloc (.cells (rowA (zerosL 480)) 5)) := hB0.alloc (Nat.le_refl _) _
  have HS := Lib.hid (encodeS _ _ _ _ (z480 w1.drew) (zerosL_length 480))
  generalize rowA (zerosL 480) = Z480 at hmk HS hBA
  have HLZ := Lib.hid (zerosL_length 480)
  generalize zerosL 480 = L480 at HS HLZ
  have K0 := Lib.hid (HKF.out _ hB0)
  have KA := Lib.hid (HKF.out _ hBA)
  go_region_held3 (fun W => W.cell? ⟨w.heap.size, 0, none⟩ = some (.int .u32 1) ∧ W.cell? ⟨w.heap.size, 1, none⟩ = some (.int .u64 1) ∧ W.cell? ⟨w.heap.size, 2, none⟩ = some (.int .u64 2) ∧
    W.cell? ⟨w.heap.size, 3, none⟩ = some (.int .u64 1) ∧ W.cell? ⟨w.heap.size, 4, none⟩ = some (.int .i64 1) ∧ W.cell? ⟨w.heap.size, 5, none⟩ = some (.int .i64 3) ∧ W.cell? ⟨w.heap.size, 6, none⟩ = some (.int .i64 258)) (first | with_reducible exact K0.out | with_reducible exact KA.out | exact HKF.out _ (by assumption)) (first
    | (go_at_call 10; refine HS.out.mono ?_; rintro e w2 ⟨⟨v2, rfl, ho2⟩, hb2⟩; have hB2 := hBA.trans (hb2.mono hBA.size)))
  have HT2 := Lib.hid (HT.out.trans (hB2.mono HT.out.size))
  obtain ⟨g, cap, e2, hc2, hg2, ho2⟩ := ho2
  rw [encS_len L480 HLZ.out] at e2 hc2
  subst e2
  have HO := Lib.hid ho2
  clear hb2 hB2 hBA hB0 hg2 ho2 HKF K0 KA HS HG
  have hu := fun W => run_upto W (some ⟨g, 0, none⟩) 512 cap 4 (by omega)
  go_wp2_with fail
  refine (encodeZ _ _ _ _).mono ?_
  rintro e w3 ⟨rfl, hb⟩
  replace HO := Lib.hid ((HO.out.below ((Below.refl _ w2).alloc (Nat.le_refl _) _)).below hb)
  replace HT2 := Lib.hid ((HT2.out.alloc HT2.out.size _).trans (hb.mono (HT2.out.alloc HT2.out.size _).size))
  clear hb
  go_wp2_with fail
  refine (decodeZ _).mono ?_
  rintro e w4 ⟨rfl, hb⟩
  replace HO := Lib.hid (HO.out.below hb)
  replace HT2 := Lib.hid (HT2.out.trans (hb.mono HT2.out.size))
  clear hb
  replace HT2 := Lib.hid (HT2.out.alloc HT2.out.size (.cells #[.int .u32 0, .int .u64 0, .int .u64 0, .int .u64 0, .int .i64 0, .int .i64 0, .int .i64 0] 25))
  replace HO := Lib.hid (HO.out.below ((Below.refl _ w4).alloc (Nat.le_refl _) (.cells #[.int .u32 0, .int .u64 0, .int .u64 0, .int .u64 0, .int .i64 0, .int .i64 0, .int .i64 0] 25)))
  have kc := run_convBytes ((HO.out.bv 512 cap (encS_len L480 HLZ.out) hc2).take 4 (by omega) cap (by omega) (Nat.le_refl _)).reads
  rw [encS_take] at kc
  obtain ⟨c4, -⟩ := HO.out.cell 4 1 (encS_at4 _)
  obtain ⟨c28, -⟩ := HO.out.cell 28 2 (encS_at28 _)
  obtain ⟨c29, -⟩ := HO.out.cell 29 1 (encS_at29 _)
  go_wp2_with fail
  go_ret
  exact ⟨rfl, HT2.out⟩

end Go.Proofs.Ytijkgihgpchcfaa
