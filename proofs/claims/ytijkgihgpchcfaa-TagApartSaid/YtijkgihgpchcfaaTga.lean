/- TagApart: unlike tags have unlike sectors. -/
import Derived.Test.YtijkgihgpchcfaaTgq
import Derived.Deep.QuietTactic
import Derived.BigQuiet
namespace Go.Proofs.Ytijkgihgpchcfaa
open Go.RowKit

/-- What the law goes on from. -/
structure AprI (w wx : World) (a b : Tg.T) : Prop where
  ta : TagAt wx w.heap.size a
  tb : TagAt wx (w.heap.size + 1) b
  below : Below w.heap.size w wx
theorem AprI.start (w : World) (a b : Tg.T) : AprI w ((w.alloc (.cells (tagC a) 25)).alloc (.cells (tagC b) 25)) a b := by
  have h1 : TagAt (w.alloc (.cells (tagC a) 25)) w.heap.size a := heap_alloc_new w _
  have hs : (w.alloc (.cells (tagC a) 25)).heap.size = w.heap.size + 1 := by simp
  have h2 := (Below.refl w.heap.size w).alloc (Nat.le_refl _) (.cells (tagC a) 25)
  generalize w.alloc (.cells (tagC a) 25) = w1 at h1 hs h2 ⊢
  refine ⟨h1.touch ((Touch.refl Emp w1).alloc _) id, ?_, h2.alloc h2.size _⟩
  rw [← hs]
  exact heap_alloc_new w1 _
theorem AprI.next {w wx w1 : World} {a b : Tg.T} (h : AprI w wx a b) (hb : Below wx.heap.size wx w1) : AprI w w1 a b := ⟨h.ta.below hb, h.tb.below hb, h.below.trans (hb.mono h.below.size)⟩

set_option maxRecDepth 100000 in
set_option maxHeartbeats 4000000 in
theorem apart_walk (a b : Tg.T) (w : World) (hea : a.e < 4294967296) (heb : b.e < 4294967296) :
    Calls Try.prog 6 #[tagV a, tagV b] w fun e w' => e = .returned (.bool true) ∧ Below w.heap.size w w' := by
  have hmk := fun W => run_makeBytes W 480 (by omega) (by omega)
  rw [show (480 : Int).toNat = 480 from rfl] at hmk
  have I := Lib.hid (AprI.start w a b)
  have HEA := Lib.hid hea
  have HEB := Lib.hid heb
  clear hea heb
  go_enter Try.func6, Try.ntmps6
  go_wp2_with fail
  refine (shown_any _).mono ?_
  rintro e w1 ⟨rfl, hb⟩
  replace I := Lib.hid (I.out.next hb)
  clear hb
  go_wp2_with fail
  have HKF := Lib.hid (fun (W : World) (hb : Below w1.heap.size w1 W) => (I.out.next hb).ta.cells)
  have hB0 : Below w1.heap.size w1 w1.drew := (Below.refl _ w1).drew
  have hBA : Below w1.heap.size w1 (w1.drew.alloc (.cells (rowA (zerosL 480)) 5)) := hB0.alloc (Nat.le_refl _) _
  have HS := Lib.hid (encode_zeros a w1.drew HEA.out)
  have K0 := Lib.hid (HKF.out _ hB0)
  have KA := Lib.hid (HKF.out _ hBA)
  go_region_held3 (fun W => W.cell? ⟨w.heap.size, 0, none⟩ = some (.int .u32 (a.e : Int)) ∧ W.cell? ⟨w.heap.size, 1, none⟩ = some (.int .u64 (a.s : Int)) ∧ W.cell? ⟨w.heap.size, 2, none⟩ = some (.int .u64 (a.q : Int)) ∧
    W.cell? ⟨w.heap.size, 3, none⟩ = some (.int .u64 (a.f : Int)) ∧ W.cell? ⟨w.heap.size, 4, none⟩ = some (.int .i64 a.i) ∧ W.cell? ⟨w.heap.size, 5, none⟩ = some (.int .i64 a.c) ∧ W.cell? ⟨w.heap.size, 6, none⟩ = some (.int .i64 a.d)) (first | with_reducible exact K0.out | with_reducible exact KA.out | exact HKF.out _ (by assumption)) (first
    | (go_at_call 10; refine HS.out.mono ?_; rintro e w2 ⟨⟨v2, ec, rfl, ho2⟩, hb2⟩; have HO2 := Lib.hid ho2; clear ho2; have hB2 := hB0.trans (hb2.mono hB0.size)))
  replace I := Lib.hid (I.out.next hB2)
  clear hB2 hb2 hBA hB0 HKF HS K0 KA
  go_wp2_with fail
  have HKF := Lib.hid (fun (W : World) (hb : Below w2.heap.size w2 W) => (I.out.next hb).tb.cells)
  have hB0 : Below w2.heap.size w2 w2.drew := (Below.refl _ w2).drew
  have hBA : Below w2.heap.size w2 (w2.drew.alloc (.cells (rowA (zerosL 480)) 5)) := hB0.alloc (Nat.le_refl _) _
  have HS := Lib.hid (encode_zeros b w2.drew HEB.out)
  have K0 := Lib.hid (HKF.out _ hB0)
  have KA := Lib.hid (HKF.out _ hBA)
  go_region_held3 (fun W => W.cell? ⟨w.heap.size + 1, 0, none⟩ = some (.int .u32 (b.e : Int)) ∧ W.cell? ⟨w.heap.size + 1, 1, none⟩ = some (.int .u64 (b.s : Int)) ∧ W.cell? ⟨w.heap.size + 1, 2, none⟩ = some (.int .u64 (b.q : Int)) ∧
    W.cell? ⟨w.heap.size + 1, 3, none⟩ = some (.int .u64 (b.f : Int)) ∧ W.cell? ⟨w.heap.size + 1, 4, none⟩ = some (.int .i64 b.i) ∧ W.cell? ⟨w.heap.size + 1, 5, none⟩ = some (.int .i64 b.c) ∧ W.cell? ⟨w.heap.size + 1, 6, none⟩ = some (.int .i64 b.d)) (first | with_reducible exact K0.out | with_reducible exact KA.out | exact HKF.out _ (by assumption)) (first
    | (go_at_call 10; refine HS.out.mono ?_; rintro e w3 ⟨⟨v3, ec3, rfl, ho3⟩, hb3⟩; have HO3 := Lib.hid ho3; clear ho3; have hB3 := hB0.trans (hb3.mono hB0.size)))
  replace I := Lib.hid (I.out.next hB3)
  have HB3 := Lib.hid hB3
  clear hB3 hb3 hBA hB0 HKF HS K0 KA
  obtain ⟨hra, rfl, ho2⟩ | ⟨hra, rfl⟩ := HO2.out
  · clear HO2
    obtain ⟨hrb, rfl, ho3⟩ | ⟨hrb, rfl⟩ := HO3.out
    · clear HO3
      have hin := Tg.enc_inj a b (zerosL 480) hra HEA.out hrb HEB.out
      replace ho2 := ho2.below HB3.out
      obtain ⟨g2, bv2, -⟩ := ho2.bv
      obtain ⟨g3, bv3, -⟩ := ho3.bv
      have k2 := fun n => run_convBytes (bv2.touch (F := Emp) ((Touch.refl Emp w3).drewN n) fun _ => id).reads
      have k3 := fun n => run_convBytes (bv3.touch (F := Emp) ((Touch.refl Emp w3).drewN n) fun _ => id).reads
      obtain ⟨c0, c1, c2, c3, c4, c5, c6⟩ := I.out.ta.cells
      obtain ⟨d0, d1, d2, d3, d4, d5, d6⟩ := I.out.tb.cells
      have heq := eq_tags a b
      have hgd := fun x y => guard_tag x y a b
      have HIN := Lib.hid hin
      clear hin hra hrb ho2 ho3 bv2 bv3 hmk
      generalize Tg.enc a (zerosL 480) = ea at k2 HIN
      generalize Tg.enc b (zerosL 480) = eb at k3 HIN
      go_wp2_with fail
      go_quiet (fail)
      rw [show ((ea == eb) == decide (a = b)) = true by rw [beq_iff_eq, Bool.eq_iff_iff]; simpa using HIN.out]
      have hbl := I.out.below.trans (((Touch.refl Emp w3).drewN nq).below.mono I.out.below.size)
      have HBL := Lib.hid hbl
      clear hbl
      go_wp2
      go_ret
      exact ⟨rfl, HBL.out⟩
    · clear HO3
      go_wp2_with fail
      go_ret
      exact ⟨rfl, I.out.below⟩
  · clear HO2 HO3
    go_wp2_with fail
    go_ret
    exact ⟨rfl, I.out.below⟩

end Go.Proofs.Ytijkgihgpchcfaa
