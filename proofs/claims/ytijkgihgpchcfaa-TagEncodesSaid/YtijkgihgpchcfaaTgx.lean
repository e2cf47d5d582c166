/- TagEncodes: a sector is what the document says. -/
import Derived.Test.YtijkgihgpchcfaaTgn
import Derived.Test.YtijkgihgpchcfaaTgq
namespace Go.Proofs.Ytijkgihgpchcfaa
open Go.RowKit

/-- What the law goes on from. -/
structure EncL (w wx : World) (R : Nat) (t : Tg.T) (v : Value) (L : List UInt8) (g : Nat) : Prop where
  tag : TagAt wx w.heap.size t
  ref : RefAt wx R t
  bv : BV wx v L g
  below : Below w.heap.size w wx
theorem EncL.next {w wx w1 : World} {R : Nat} {t : Tg.T} {v : Value} {L : List UInt8} {g : Nat} (h : EncL w wx R t v L g) (hb : Below wx.heap.size wx w1) : EncL w w1 R t v L g :=
  ⟨h.tag.below hb, h.ref.below hb, h.bv.below hb, h.below.trans (hb.mono h.below.size)⟩
theorem EncL.start {w w1 : World} {t : Tg.T} {v : Value} {L : List UInt8} {g : Nat} (h : TagAt w1 w.heap.size t) (hv : BV w1 v L g) (hb : Below w.heap.size w w1) : EncL w (w1.alloc (.cells (tagC t) 28)) w1.heap.size t v L g :=
  ⟨h.below ((Below.refl _ w1).alloc (Nat.le_refl _) _), heap_alloc_new w1 _, hv.alloc _, hb.alloc hb.size _⟩

/-- What the last statement reads. -/
theorem enc_reads {w W : World} {R : Nat} {t : Tg.T} {v v8 : Value} {L en : List UInt8} {g g8 : Nat} (h : EncL w W R t v L g) (h8 : BV W v8 en g8) :
    W.cell? ⟨R, 0, none⟩ = some (.int .u32 (t.e : Int)) ∧ W.cell? ⟨R, 1, none⟩ = some (.int .u64 (t.s : Int)) ∧ W.cell? ⟨R, 2, none⟩ = some (.int .u64 (t.q : Int)) ∧
    W.cell? ⟨R, 3, none⟩ = some (.int .u64 (t.f : Int)) ∧ W.cell? ⟨R, 4, none⟩ = some (.int .i64 t.i) ∧ W.cell? ⟨R, 5, none⟩ = some (.int .i64 t.c) ∧ W.cell? ⟨R, 6, none⟩ = some (.int .i64 t.d) ∧ (convert 26 9 v).run Try.prog W = .ok (.string ⟨L.toArray⟩) W ∧ (convert 26 9 v8).run Try.prog W = .ok (.string ⟨en.toArray⟩) W := by
  obtain ⟨c0, c1, c2, c3, c4, c5, c6⟩ := h.ref.cells
  exact ⟨c0, c1, c2, c3, c4, c5, c6, run_convBytes h.bv.reads, run_convBytes h8.reads⟩

set_option maxRecDepth 100000 in
set_option maxHeartbeats 4000000 in
theorem encodes_walk (t : Tg.T) (a : Option Addr) (l : List UInt8) (cap g : Nat) (w : World) (he : t.e < 4294967296) (h : BV w (.slice a l.length cap) l g) :
    Calls Try.prog 3 #[tagV t, .slice a l.length cap] w fun e w' => e = .returned (.bool true) ∧ Below w.heap.size w w' := by
  obtain ⟨k, hk1, hk2, hmin⟩ : ∃ n : Nat, n ≤ 600 ∧ n ≤ l.length ∧ (if (600 : Int) < (l.length : Int) then (600 : Int) else (l.length : Int)) = (n : Int) := ⟨min l.length 600, by omega, by omega, min_nat l.length 600⟩
  have hcap : k ≤ cap := by obtain ⟨_, c, e, h1, _⟩ := h.form; cases e; omega
  have HTG := Lib.hid (show TagAt (w.alloc (.cells (tagC t) 25)) w.heap.size t from heap_alloc_new w _)
  have H := Lib.hid (h.alloc (.cells (tagC t) 25))
  have HB := Lib.hid ((Below.refl w.heap.size w).alloc (Nat.le_refl _) (.cells (tagC t) 25))
  have HE := Lib.hid he
  have hu := fun W => run_upto W a l.length cap k (by omega)
  clear h he
  go_enter Try.func3, Try.ntmps3
  go_wp2_with fail
  refine (shown_any _).mono ?_
  rintro e w1 ⟨rfl, hb⟩
  replace HTG := Lib.hid (HTG.out.below hb)
  replace H := Lib.hid ((H.out.below hb).take k hk2 cap hcap (Nat.le_refl _))
  replace HB := Lib.hid (HB.out.trans (hb.mono (by simp)))
  have hlk : (l.take k).length = k := by rw [List.length_take]; omega
  generalize l.take k = L at H hlk
  have HLK := Lib.hid hlk
  clear hb hlk
  obtain ⟨c0, c1, c2, c3, c4, c5, c6⟩ := HTG.out.cells
  go_wp2_with fail
  have hI := EncL.start HTG.out H.out HB.out
  change Calls _ _ _ (w1.alloc (.cells (tagC t) 28)) _
  have I := Lib.hid hI
  clear hI H HTG HB c0 c1 c2 c3 c4 c5 c6
  generalize w1.alloc (.cells (tagC t) 28) = w2 at I ⊢
  generalize w1.heap.size = R at I ⊢
  refine (refRight_any t w2).mono ?_
  rintro e w3 ⟨rfl, hb⟩
  replace I := Lib.hid (I.out.next hb)
  clear hb
  obtain ⟨c0, c1, c2, c3, c4, c5, c6⟩ := I.out.tag.cells
  by_cases hr : Tg.rightB t = true
  · rw [hr]
    by_cases h4 : k = 480
    · subst h4
      have E := Lib.hid (encode_ok t _ L g w3 hr HE.out I.out.bv HLK.out)
      have HR := Lib.hid hr
      clear hr
      go_wp2_with fail
      refine E.out.mono ?_
      rintro e w4 ⟨⟨v8, rfl, ho8⟩, hb⟩
      obtain ⟨g8, hv8, -⟩ := ho8.bv
      replace I := Lib.hid (I.out.next hb)
      have V8 := Lib.hid hv8
      clear E ho8 hv8 hb c0 c1 c2 c3 c4 c5 c6
      obtain ⟨c0, c1, c2, c3, c4, c5, c6⟩ := I.out.tag.cells
      go_wp2_with fail
      have RR := right_any t w4
      rw [HR.out] at RR
      refine RR.mono ?_
      rintro e w5 ⟨rfl, hb⟩
      replace I := Lib.hid (I.out.next hb)
      replace V8 := Lib.hid (V8.out.below hb)
      have HRE := Lib.hid (fun W => refEncode_any t L W HR.out HE.out (by rw [HLK.out]; decide))
      clear hb RR c0 c1 c2 c3 c4 c5 c6
      generalize Tg.enc t L = en at V8 HRE
      go_wp2_with fail
      have HKF := Lib.hid (fun (W : World) (hb : Below w5.heap.size w5 W) => enc_reads (I.out.next hb) (V8.out.below hb))
      have hB0 : Below w5.heap.size w5 w5.drew := (Below.refl _ w5).drew
      go_region_held3 (fun W => W.cell? ⟨R, 0, none⟩ = some (.int .u32 (t.e : Int)) ∧ W.cell? ⟨R, 1, none⟩ = some (.int .u64 (t.s : Int)) ∧ W.cell? ⟨R, 2, none⟩ = some (.int .u64 (t.q : Int)) ∧
        W.cell? ⟨R, 3, none⟩ = some (.int .u64 (t.f : Int)) ∧ W.cell? ⟨R, 4, none⟩ = some (.int .i64 t.i) ∧ W.cell? ⟨R, 5, none⟩ = some (.int .i64 t.c) ∧ W.cell? ⟨R, 6, none⟩ = some (.int .i64 t.d) ∧ (convert 26 9 (.slice a 480 cap)).run Try.prog W = .ok (.string ⟨L.toArray⟩) W ∧ (convert 26 9 v8).run Try.prog W = .ok (.string ⟨en.toArray⟩) W) (exact HKF.out _ (by assumption)) (first
        | (go_at_call 12; refine (HRE.out _).mono ?_; rintro e w6 ⟨rfl, hb⟩; have hB6 : Below w5.heap.size w5 w6 := hB0.trans (hb.mono hB0.size); clear hb))
      have HBL := Lib.hid (I.out.below.trans (hB6.mono I.out.below.size))
      clear hB0 hB6 HKF HRE V8 I
      go_wp2
      go_ret
      exact ⟨rfl, HBL.out⟩
    · have E := Lib.hid (encode_no t a k cap w3 (.inr h4))
      have h4' : ¬ ((k : Int) = 480) := by omega
      have HR := Lib.hid hr
      clear hr
      go_wp2_with fail
      refine E.out.mono ?_
      rintro e w4 ⟨rfl, hb⟩
      replace I := Lib.hid (I.out.next hb)
      clear E hb c0 c1 c2 c3 c4 c5 c6
      obtain ⟨c0, c1, c2, c3, c4, c5, c6⟩ := I.out.tag.cells
      go_wp2_with fail
      have RR := right_any t w4
      rw [HR.out] at RR
      refine RR.mono ?_
      rintro e w5 ⟨rfl, hb⟩
      replace I := Lib.hid (I.out.next hb)
      clear hb RR c0 c1 c2 c3 c4 c5 c6
      go_wp2
      go_ret
      exact ⟨rfl, I.out.below⟩
  · rw [Bool.not_eq_true] at hr
    rw [hr]
    have E := Lib.hid (encode_no t a k cap w3 (.inl hr))
    have HR := Lib.hid hr
    clear hr
    go_wp2_with fail
    refine E.out.mono ?_
    rintro e w4 ⟨rfl, hb⟩
    replace I := Lib.hid (I.out.next hb)
    clear E hb c0 c1 c2 c3 c4 c5 c6
    obtain ⟨c0, c1, c2, c3, c4, c5, c6⟩ := I.out.tag.cells
    go_wp2_with fail
    have RR := right_any t w4
    rw [HR.out] at RR
    refine RR.mono ?_
    rintro e w5 ⟨rfl, hb⟩
    replace I := Lib.hid (I.out.next hb)
    clear hb RR c0 c1 c2 c3 c4 c5 c6
    go_wp2
    go_ret
    exact ⟨rfl, I.out.below⟩

end Go.Proofs.Ytijkgihgpchcfaa
