/- TagDecodes: what a sector has is what the document says. -/
import Derived.Test.YtijkgihgpchcfaaTgc
import Derived.Test.YtijkgihgpchcfaaTgq
namespace Go.Proofs.Ytijkgihgpchcfaa
open Go.RowKit

theorem eq_zero (w : World) : (binOp .eql 25 zeroV zeroV).run Try.prog w = .ok (.bool true) w := by
  have := eq_tags zeroT zeroT w
  rw [show decide (zeroT = zeroT) = true by simp] at this
  exact this
theorem guard_zero (x y : Operand) (w : World) : (eqGuard .eql 25 x y zeroV zeroV).run Try.prog w = .ok () w := guard_tag x y zeroT zeroT w

/-- What Decode tells, and the document's answer: the same. -/
def Told (b : List UInt8) (t : Tg.T) (v : Value) (L : List UInt8) (e : Int) (ok : Bool) (w : World) : Prop :=
  (∃ g, BV w v L g) ∧ (ok = true ∧ t = Tg.told b ∧ L = b.drop 32 ∧ e = 0 ∨ ok = false ∧ t = zeroT ∧ v = .slice none 0 0 ∧ L = [] ∧ e = 4)

set_option maxRecDepth 100000 in
set_option maxHeartbeats 4000000 in
theorem decodes_walk (a : Option Addr) (l : List UInt8) (cap g : Nat) (w : World) (h : BV w (.slice a l.length cap) l g) :
    Calls Try.prog 4 #[.slice a l.length cap] w fun e w' => e = .returned (.bool true) ∧ Below w.heap.size w w' := by
  obtain ⟨k, hk1, hk2, hmin⟩ : ∃ n : Nat, n ≤ 600 ∧ n ≤ l.length ∧ (if (600 : Int) < (l.length : Int) then (600 : Int) else (l.length : Int)) = (n : Int) := ⟨min l.length 600, by omega, by omega, min_nat l.length 600⟩
  have hcap : k ≤ cap := by obtain ⟨_, c, e, h1, _⟩ := h.form; cases e; omega
  have H := Lib.hid h
  have hu := fun W => run_upto W a l.length cap k (by omega)
  clear h
  go_enter Try.func4, Try.ntmps4
  go_wp2_with fail
  refine (shown_any _).mono ?_
  rintro e w1 ⟨rfl, hb⟩
  replace H := Lib.hid ((H.out.below hb).take k hk2 cap hcap (Nat.le_refl _))
  have HB := Lib.hid hb
  have hlk : (l.take k).length = k := by rw [List.length_take]; omega
  generalize l.take k = L at H hlk
  have HLK := Lib.hid hlk
  clear hb hlk
  go_wp2_with fail
  clear hmin hu
  by_cases h5 : k = 512 ∧ Tg.decB L = true
  · obtain ⟨rfl, hdb⟩ := h5
    refine (decode_full a cap L g w1 H.out HLK.out).mono ?_
    rintro e w2 ⟨he, hb⟩
    obtain ⟨hdec, v', rfl, ho⟩ | ⟨hdec, -⟩ := he
    · obtain ⟨g', hv, -⟩ := ho.bv
      replace H := Lib.hid (H.out.below hb)
      replace HB := Lib.hid (HB.out.trans (hb.mono HB.out.size))
      have HV := Lib.hid hv
      have HD := Lib.hid hdec
      have HLT := Lib.hid (Tg.told_e L)
      clear hb ho hv hdec
      have RD := Lib.hid (fun W => refDecode_full L W HLK.out)
      generalize Tg.told L = tt at *
      have kc1 := run_convBytes (H.out.alloc (.cells (tagC tt) 25)).reads
      unfold tagC at kc1
      go_wp2_with fail
      have HTA := Lib.hid (show TagAt (w2.alloc (.cells (tagC tt) 25)) w2.heap.size tt from heap_alloc_new w2 _)
      replace HV := Lib.hid (HV.out.alloc (.cells (tagC tt) 25))
      replace HB := Lib.hid (HB.out.alloc HB.out.size (.cells (tagC tt) 25))
      change Calls _ _ _ (w2.alloc (.cells (tagC tt) 25)) _
      clear kc1 H
      generalize w2.alloc (.cells (tagC tt) 25) = w3 at HTA HV HB ⊢
      refine (RD.out w3).mono ?_
      rintro e w4 ⟨he, hb⟩
      obtain ⟨-, rfl⟩ | ⟨hd, -⟩ := he
      · replace HTA := Lib.hid (HTA.out.below hb)
        replace HV := Lib.hid (HV.out.below hb)
        replace HB := Lib.hid (HB.out.trans (hb.mono HB.out.size))
        clear hb RD
        generalize w2.heap.size = T at *
        obtain ⟨c0, c1, c2, c3, c4, c5, c6⟩ := (HTA.out.below ((Below.refl _ w4).alloc (Nat.le_refl _) (.cells (tagC tt) 28))).cells
        have kc2 := run_convBytes (HV.out.alloc (.cells (tagC tt) 28)).reads
        have heq := eq_refs tt tt
        rw [show decide (tt = tt) = true by simp] at heq
        have hgd := fun x y => guard_ref x y tt tt
        replace HB := Lib.hid (HB.out.alloc HB.out.size (.cells (tagC tt) 28))
        unfold tagC at kc2 c0 c1 c2 c3 c4 c5 c6 HB
        go_wp2_with fail
        go_ret
        exact ⟨rfl, HB.out⟩
      · rw [HD.out] at hd; cases hd
    · rw [hdb] at hdec; cases hdec
  · have D : Calls Try.prog 13 #[.slice a k cap] w1 fun e w' => e = .returned (.tuple #[zeroV, .slice none 0 0, .int .i64 4]) ∧ Below w1.heap.size w1 w' := by
      by_cases h6 : k = 512
      · subst h6
        refine (decode_full a cap L g w1 H.out HLK.out).mono ?_
        rintro e w' ⟨⟨hd, -⟩ | ⟨-, rfl⟩, hb⟩
        · exact absurd ⟨rfl, hd⟩ h5
        · exact ⟨rfl, hb⟩
      · exact decode_short a k cap w1 h6
    have RD := Lib.hid (show ∀ W, Calls Try.prog 14 #[.string ⟨L.toArray⟩] W fun e w' => e = .returned (.tuple #[zeroV, .string ⟨#[]⟩, .bool false]) ∧ Below W.heap.size W w' by
      intro W
      by_cases h6 : k = 512
      · subst h6
        refine (refDecode_full L W HLK.out).mono ?_
        rintro e w' ⟨⟨hd, -⟩ | ⟨-, rfl⟩, hb⟩
        · exact absurd ⟨rfl, hd⟩ h5
        · exact ⟨rfl, hb⟩
      · exact refDecode_short L W (by rw [HLK.out]; exact h6))
    refine D.mono ?_
    rintro e w2 ⟨rfl, hb⟩
    replace H := Lib.hid (H.out.below hb)
    replace HB := Lib.hid (HB.out.trans (hb.mono HB.out.size))
    clear hb D h5
    have kc1 := run_convBytes (H.out.alloc (.cells (tagC zeroT) 25)).reads
    have kc0 : (convert 26 9 (.slice a k cap)).run Try.prog (w2.alloc (.cells #[.int .u32 0, .int .u64 0, .int .u64 0, .int .u64 0, .int .i64 0, .int .i64 0, .int .i64 0] 25)) = .ok (.string ⟨L.toArray⟩) (w2.alloc (.cells #[.int .u32 0, .int .u64 0, .int .u64 0, .int .u64 0, .int .i64 0, .int .i64 0, .int .i64 0] 25)) := kc1
    clear kc1
    go_wp2_with fail
    have HTA := Lib.hid (tag_new w2)
    replace HB := Lib.hid (HB.out.alloc HB.out.size (.cells #[.int .u32 0, .int .u64 0, .int .u64 0, .int .u64 0, .int .i64 0, .int .i64 0, .int .i64 0] 25))
    clear kc0 H
    generalize w2.alloc (.cells #[.int .u32 0, .int .u64 0, .int .u64 0, .int .u64 0, .int .i64 0, .int .i64 0, .int .i64 0] 25) = w3 at HTA HB ⊢
    refine (RD.out w3).mono ?_
    rintro e w4 ⟨rfl, hb⟩
    replace HTA := Lib.hid (HTA.out.below hb)
    replace HB := Lib.hid (HB.out.trans (hb.mono HB.out.size))
    clear hb RD
    generalize w2.heap.size = T at *
    obtain ⟨c0, c1, c2, c3, c4, c5, c6⟩ := zero_cells (HTA.out.below ((Below.refl _ w4).alloc (Nat.le_refl _) (.cells #[.int .u32 0, .int .u64 0, .int .u64 0, .int .u64 0, .int .i64 0, .int .i64 0, .int .i64 0] 28)))
    have heq := eq_zero
    have hgd := guard_zero
    replace HB := Lib.hid (HB.out.alloc HB.out.size (.cells #[.int .u32 0, .int .u64 0, .int .u64 0, .int .u64 0, .int .i64 0, .int .i64 0, .int .i64 0] 28))
    go_wp2_with fail
    go_ret
    exact ⟨rfl, HB.out⟩

end Go.Proofs.Ytijkgihgpchcfaa
