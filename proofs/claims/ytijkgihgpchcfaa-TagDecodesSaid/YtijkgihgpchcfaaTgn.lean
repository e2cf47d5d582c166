/- The document's own Encode. No condition. -/
import Derived.Test.YtijkgihgpchcfaaTgd
namespace Go.Proofs.Ytijkgihgpchcfaa
open Go.RowKit

/-- A tag of the document's that lies in memory. -/
def RefAt (w : World) (b : Nat) (t : Tg.T) : Prop := w.heap[b]? = some (.cells (tagC t) 28 (0, 0))
theorem RefAt.cells {w : World} {b : Nat} {t : Tg.T} (h : RefAt w b t) : w.cell? ⟨b, 0, none⟩ = some (.int .u32 (t.e : Int)) ∧ w.cell? ⟨b, 1, none⟩ = some (.int .u64 (t.s : Int)) ∧ w.cell? ⟨b, 2, none⟩ = some (.int .u64 (t.q : Int)) ∧
    w.cell? ⟨b, 3, none⟩ = some (.int .u64 (t.f : Int)) ∧ w.cell? ⟨b, 4, none⟩ = some (.int .i64 t.i) ∧ w.cell? ⟨b, 5, none⟩ = some (.int .i64 t.c) ∧ w.cell? ⟨b, 6, none⟩ = some (.int .i64 t.d) := by
  refine ⟨?_, ?_, ?_, ?_, ?_, ?_, ?_⟩ <;> rw [cell_of_row w b _ _ _ _ h] <;> rfl
theorem RefAt.touch {F : Nat → Prop} {w w1 : World} {b : Nat} {t : Tg.T} (h : RefAt w b t) (ht : Touch F w w1) (hF : ¬ F b) : RefAt w1 b t := ht.at h hF
theorem RefAt.below {w w1 : World} {b : Nat} {t : Tg.T} (h : RefAt w b t) (hb : Below w.heap.size w w1) : RefAt w1 b t := h.touch (Touch.of_below (F := Emp) hb) id
theorem enc_spelt (t : Tg.T) (L : List UInt8) : Tg.enc t L = [72, 82, 82, 87] ++ Oct.le 4 t.e ++ Oct.le 6 t.q ++ Oct.le 6 t.f ++ Oct.le 6 t.s ++ Oct.le 1 t.i.toNat ++ Oct.le 1 t.c.toNat ++ Oct.le 2 t.d.toNat ++ [0, 0] ++ L := rfl

set_option maxRecDepth 100000 in
set_option maxHeartbeats 4000000 in
theorem refEncode_any (t : Tg.T) (L : List UInt8) (w : World) (hr : Tg.rightB t = true) (he : t.e < 4294967296) (hL : L.length ≤ 4294967296) :
    Calls Try.prog 12 #[tagV t, .string ⟨L.toArray⟩] w fun e w' => e = .returned (.string ⟨(Tg.enc t L).toArray⟩) ∧ Below w.heap.size w w' := by
  obtain ⟨r1, r2, r3, r4, r5, r6, r7, r8, r9, r10, r11⟩ := (Tg.right_iff t).1 hr
  rw [enc_spelt]
  have he1 : IntKind.u64.wrap (t.e : Int) = (t.e : Int) := by rw [IntKind.wrap_u64]; omega
  have hi1 : IntKind.u64.wrap t.i = (t.i.toNat : Int) := by rw [IntKind.wrap_u64]; omega
  have hc1 : IntKind.u64.wrap t.c = (t.c.toNat : Int) := by rw [IntKind.wrap_u64]; omega
  have hd1 : IntKind.u64.wrap t.d = (t.d.toNat : Int) := by rw [IntKind.wrap_u64]; omega
  have L1 := Lib.hid (fun W => low_any 4 t.e W (by omega) (by omega))
  have L2 := Lib.hid (fun W => low_any 6 t.q W (by omega) (by omega))
  have L3 := Lib.hid (fun W => low_any 6 t.f W (by omega) (by omega))
  have L4 := Lib.hid (fun W => low_any 6 t.s W (by omega) (by omega))
  have L5 := Lib.hid (fun W => low_any 1 t.i.toNat W (by omega) (by omega))
  have L6 := Lib.hid (fun W => low_any 1 t.c.toNat W (by omega) (by omega))
  have L7 := Lib.hid (fun W => low_any 2 t.d.toNat W (by omega) (by omega))
  have l1 : (Oct.le 4 t.e).length = 4 := Oct.le_length _ _
  have l2 : (Oct.le 6 t.q).length = 6 := Oct.le_length _ _
  have l3 : (Oct.le 6 t.f).length = 6 := Oct.le_length _ _
  have l4 : (Oct.le 6 t.s).length = 6 := Oct.le_length _ _
  have l5 : (Oct.le 1 t.i.toNat).length = 1 := Oct.le_length _ _
  have l6 : (Oct.le 1 t.c.toNat).length = 1 := Oct.le_length _ _
  have l7 : (Oct.le 2 t.d.toNat).length = 2 := Oct.le_length _ _
  generalize Oct.le 4 t.e = A1 at L1 l1 ⊢
  generalize Oct.le 6 t.q = A2 at L2 l2 ⊢
  generalize Oct.le 6 t.f = A3 at L3 l3 ⊢
  generalize Oct.le 6 t.s = A4 at L4 l4 ⊢
  generalize Oct.le 1 t.i.toNat = A5 at L5 l5 ⊢
  generalize Oct.le 1 t.c.toNat = A6 at L6 l6 ⊢
  generalize Oct.le 2 t.d.toNat = A7 at L7 l7 ⊢
  generalize t.i.toNat = ni at hi1 L5
  generalize t.c.toNat = nc at hc1 L6
  generalize t.d.toNat = nd at hd1 L7
  generalize hRR : [72, 82, 82, 87] ++ A1 ++ A2 ++ A3 ++ A4 ++ A5 ++ A6 ++ A7 ++ [0, 0] ++ L = RR
  have HRR := Lib.hid hRR
  clear hRR
  have hLs : (9223372036854775807 < 32 + L.length) = False := by simp; omega
  have R := Lib.hid (show RefAt (w.alloc (.cells (tagC t) 28)) w.heap.size t from heap_alloc_new w _)
  have HB := Lib.hid ((Below.refl w.heap.size w).alloc (Nat.le_refl _) (.cells (tagC t) 28))
  clear r1 r2 r3 r4 r5 r6 r7 r8 r9 r10 r11 hr he
  go_enter Try.func12, Try.ntmps12
  go_wp2_with fail
  change Code.wp _ _ _ _ (w.alloc (.cells (tagC t) 28))
  generalize w.alloc (.cells (tagC t) 28) = w1 at R HB ⊢
  have KF := fun (W : World) (hb : Below w1.heap.size w1 W) => (R.out.below hb).cells
  have HKF := Lib.hid KF
  have hB0 : Below w1.heap.size w1 w1.drew := (Below.refl _ w1).drew
  clear KF
  go_region_held3 (fun W => W.cell? ⟨w.heap.size, 0, none⟩ = some (.int .u32 (t.e : Int)) ∧ W.cell? ⟨w.heap.size, 1, none⟩ = some (.int .u64 (t.s : Int)) ∧ W.cell? ⟨w.heap.size, 2, none⟩ = some (.int .u64 (t.q : Int)) ∧
    W.cell? ⟨w.heap.size, 3, none⟩ = some (.int .u64 (t.f : Int)) ∧ W.cell? ⟨w.heap.size, 4, none⟩ = some (.int .i64 t.i) ∧ W.cell? ⟨w.heap.size, 5, none⟩ = some (.int .i64 t.c) ∧ W.cell? ⟨w.heap.size, 6, none⟩ = some (.int .i64 t.d)) (exact HKF.out _ (by assumption)) (first
    | (go_at_call_of 17 (Value.int .u64 (t.e : Int)); refine (L1.out _).mono ?_; rintro e x1 ⟨rfl, hb⟩; have hB1 : Below w1.heap.size w1 x1 := hB0.trans (hb.mono hB0.size); clear hb)
    | (go_at_call_of 17 (Value.int .u64 (t.q : Int)); refine (L2.out _).mono ?_; rintro e x2 ⟨rfl, hb⟩; have hB2 : Below w1.heap.size w1 x2 := hB1.trans (hb.mono hB1.size); clear hb)
    | (go_at_call_of 17 (Value.int .u64 (t.f : Int)); refine (L3.out _).mono ?_; rintro e x3 ⟨rfl, hb⟩; have hB3 : Below w1.heap.size w1 x3 := hB2.trans (hb.mono hB2.size); clear hb)
    | (go_at_call_of 17 (Value.int .u64 (t.s : Int)); refine (L4.out _).mono ?_; rintro e x4 ⟨rfl, hb⟩; have hB4 : Below w1.heap.size w1 x4 := hB3.trans (hb.mono hB3.size); clear hb))
  have hs4 : ((⟨#[72, 82, 82, 87]⟩ : ByteArray) ++ ⟨A1.toArray⟩ ++ ⟨A2.toArray⟩ ++ ⟨A3.toArray⟩ ++ ⟨A4.toArray⟩) = ⟨([72, 82, 82, 87] ++ A1 ++ A2 ++ A3 ++ A4).toArray⟩ := by
    rw [show (⟨#[72, 82, 82, 87]⟩ : ByteArray) = ⟨([72, 82, 82, 87] : List UInt8).toArray⟩ from rfl, str_app, str_app, str_app, str_app]
  have hl4 : ([72, 82, 82, 87] ++ A1 ++ A2 ++ A3 ++ A4).length = 26 := by simp only [List.length_append, l1, l2, l3, l4]; rfl
  rw [hs4]
  generalize hP4 : [72, 82, 82, 87] ++ A1 ++ A2 ++ A3 ++ A4 = P4 at hl4 ⊢
  have HP4 := Lib.hid hP4
  clear hP4
  have HKF4 := Lib.hid (fun (W : World) (hb : Below x4.heap.size x4 W) => HKF.out W (hB4.trans (hb.mono hB4.size)))
  have HB4 := Lib.hid (HB.out.trans (hB4.mono HB.out.size))
  have hC0 : Below x4.heap.size x4 x4.drew := (Below.refl _ x4).drew
  clear hB0 hB1 hB2 hB3 hB4 hs4 HKF HB R l1 l2 l3 l4 he1
  go_wp2_with fail
  go_region_held3 (fun W => W.cell? ⟨w.heap.size, 0, none⟩ = some (.int .u32 (t.e : Int)) ∧ W.cell? ⟨w.heap.size, 1, none⟩ = some (.int .u64 (t.s : Int)) ∧ W.cell? ⟨w.heap.size, 2, none⟩ = some (.int .u64 (t.q : Int)) ∧
    W.cell? ⟨w.heap.size, 3, none⟩ = some (.int .u64 (t.f : Int)) ∧ W.cell? ⟨w.heap.size, 4, none⟩ = some (.int .i64 t.i) ∧ W.cell? ⟨w.heap.size, 5, none⟩ = some (.int .i64 t.c) ∧ W.cell? ⟨w.heap.size, 6, none⟩ = some (.int .i64 t.d)) (exact HKF4.out _ (by assumption)) (first
    | (go_at_call_of 17 (Value.int .u64 (ni : Int)); refine (L5.out _).mono ?_; rintro e x5 ⟨rfl, hb⟩; have hC1 : Below x4.heap.size x4 x5 := hC0.trans (hb.mono hC0.size); clear hb)
    | (go_at_call_of 17 (Value.int .u64 (nc : Int)); refine (L6.out _).mono ?_; rintro e x6 ⟨rfl, hb⟩; have hC2 : Below x4.heap.size x4 x6 := hC1.trans (hb.mono hC1.size); clear hb)
    | (go_at_call_of 17 (Value.int .u64 (nd : Int)); refine (L7.out _).mono ?_; rintro e x7 ⟨rfl, hb⟩; have hC3 : Below x4.heap.size x4 x7 := hC2.trans (hb.mono hC2.size); clear hb))
  have hs7 : ((⟨P4.toArray⟩ : ByteArray) ++ ⟨A5.toArray⟩ ++ ⟨A6.toArray⟩ ++ ⟨A7.toArray⟩ ++ ⟨#[0, 0]⟩ ++ ⟨L.toArray⟩) = ⟨(P4 ++ A5 ++ A6 ++ A7 ++ [0, 0] ++ L).toArray⟩ := by
    rw [show (⟨#[0, 0]⟩ : ByteArray) = ⟨([0, 0] : List UInt8).toArray⟩ from rfl, str_app, str_app, str_app, str_app, str_app]
  rw [show P4 ++ A5 ++ A6 ++ A7 ++ [0, 0] ++ L = RR by rw [← HRR.out, ← HP4.out]] at hs7
  rw [hs7]
  have HB7 := Lib.hid (HB4.out.trans (hC3.mono HB4.out.size))
  clear hC0 hC1 hC2 hC3 hs7
  go_wp2
  go_ret
  exact ⟨rfl, HB7.out⟩

end Go.Proofs.Ytijkgihgpchcfaa
