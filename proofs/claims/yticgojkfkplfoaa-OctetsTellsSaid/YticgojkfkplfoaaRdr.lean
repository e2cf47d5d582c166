/- The reader: Read, Number, Bytes, Left, Fine. -/
import Derived.Test.YticgojkfkplfoaaTak
namespace Go.Proofs.Yticgojkfkplfoaa
open Go.RowKit

section
variable {F : Nat → Prop} {w w1 : World} {b g : Nat} {l : List UInt8} {s : Bool}
theorem Rdr.touch (h : Rdr w b l s g) (ht : Touch F w w1) (hb : ¬ F b) (hg : l ≠ [] → ¬ F g) : Rdr w1 b l s g := by
  obtain ⟨v, hv, hbv⟩ := h.val
  exact ⟨⟨v, ht.at hv hb, hbv.touch ht hg⟩, h.ne⟩
theorem Rdr.lt (h : Rdr w b l s g) : b < w.heap.size := by
  obtain ⟨v, hv, _⟩ := h.val
  exact lt_of_heap hv
theorem Rdr.rlt (h : Rdr w b l s g) : l ≠ [] → g < w.heap.size := by
  obtain ⟨v, _, hv⟩ := h.val
  exact hv.lt
theorem Rdr.below (h : Rdr w b l s g) (hb : Below w.heap.size w w1) : Rdr w1 b l s g :=
  h.touch (F := Emp) (Touch.of_below hb) id fun _ => id
theorem Rdr.drew (h : Rdr w b l s g) : Rdr w.drew b l s g := ⟨h.val.imp fun _ h => ⟨h.1, h.2.drew⟩, h.ne⟩
end

set_option maxHeartbeats 400000 in
theorem read_any (v : Value) (l : List UInt8) (g : Nat) (w : World) (h : BV w v l g) (hl : l.length ≤ 4294967296) :
    Calls Try.prog 14 #[v] w fun e w' => (∃ b g', e = .returned (.pointer (some ⟨b, 0, none⟩)) ∧ Rdr w' b l false g' ∧ w.heap.size ≤ b ∧ (l ≠ [] → w.heap.size ≤ g')) ∧ Below w.heap.size w w' := by
  have H := Lib.hid (clone_any v l g w h hl)
  clear h hl
  go_enter Try.func14, Try.ntmps14
  go_wp2_with fail
  refine H.out.mono ?_
  rintro e w1 ⟨⟨v', rfl, g', hv, hg'⟩, hb⟩
  obtain ⟨a, cap, rfl, -⟩ := hv.form
  have HV := Lib.hid hv
  have HB := Lib.hid hb
  have HG := Lib.hid hg'
  clear hv hb hg'
  go_wp2
  go_ret
  refine ⟨⟨w1.heap.size, g', rfl, ⟨⟨_, heap_alloc_new w1 _, HV.out.alloc _⟩, fun hl => by have := HV.out.lt hl; omega⟩, HB.out.size, HG.out⟩, HB.out.alloc HB.out.size _⟩

set_option maxHeartbeats 400000 in
theorem number_ok (size : Int) (k b : Nat) (l : List UInt8) (s : Bool) (g : Nat) (w : World) (h : Rdr w b l s g) (hk : min (max size 0) 8 = (k : Int)) (hn : k ≤ l.length) :
    Calls Try.prog 15 #[.pointer (some ⟨b, 0, none⟩), .int .i64 size] w fun e w' => e = .returned (.int .u64 (Oct.unle (l.take k) : Int)) ∧ Touch (fun k => k = b) w w' ∧ Rdr w' b (l.drop k) s g := by
  have B := Lib.hid (fun W => between_any size 8 k W (by omega) hk)
  have N := Lib.hid (next_ok b l s g k w h hn)
  have hk8 : k ≤ 8 := by omega
  have H := Lib.hid h
  clear h hk
  go_enter Try.func15, Try.ntmps15
  go_wp2_with fail
  refine (B.out _).mono ?_
  rintro e w1 ⟨rfl, rfl⟩
  go_wp2_with fail
  refine N.out.mono ?_
  rintro e w1 ⟨⟨v, rfl, hv⟩, ht, hr, hz⟩
  have HT := Lib.hid ht
  have HR := Lib.hid hr
  have T := Lib.hid (taken_any v (l.take k) g w1 hv (by rw [List.length_take]; omega))
  clear ht hr hv hz
  go_wp2_with fail
  refine T.out.mono ?_
  rintro e w2 ⟨rfl, hb⟩
  have HB := Lib.hid hb
  clear hb
  go_wp2
  go_ret
  exact ⟨rfl, HT.out.trans (G := Emp) (Touch.of_below HB.out) (fun _ h => h.elim), HR.out.below HB.out⟩

set_option maxHeartbeats 400000 in
theorem number_short (size : Int) (k b : Nat) (l : List UInt8) (s : Bool) (g : Nat) (w : World) (h : Rdr w b l s g) (hk : min (max size 0) 8 = (k : Int)) (hn : l.length < k) :
    Calls Try.prog 15 #[.pointer (some ⟨b, 0, none⟩), .int .i64 size] w fun e w' => e = .returned (.int .u64 0) ∧ Touch (fun k => k = b) w w' ∧ Rdr w' b [] true g := by
  have B := Lib.hid (fun W => between_any size 8 k W (by omega) hk)
  have N := Lib.hid (next_short b l s g k w h hn)
  have hk8 : k ≤ 8 := by omega
  have H := Lib.hid h
  clear h hk
  go_enter Try.func15, Try.ntmps15
  go_wp2_with fail
  refine (B.out _).mono ?_
  rintro e w1 ⟨rfl, rfl⟩
  go_wp2_with fail
  refine N.out.mono ?_
  rintro e w1 ⟨rfl, ht, hr, hz⟩
  have HT := Lib.hid ht
  have HR := Lib.hid hr
  have T := Lib.hid (taken_any _ [] 0 w1 (BV.nil w1 0) (by simp))
  clear ht hr hz
  go_wp2_with fail
  refine T.out.mono ?_
  rintro e w2 ⟨rfl, hb⟩
  have HB := Lib.hid hb
  clear hb
  go_wp2
  go_ret
  exact ⟨rfl, HT.out.trans (G := Emp) (Touch.of_below HB.out) (fun _ h => h.elim), HR.out.below HB.out⟩

theorem Fresh.old {w w1 w2 : World} {v : Value} {l : List UInt8} (h : Fresh w1 w2 v l) (hs : w.heap.size ≤ w1.heap.size) : Fresh w w2 v l := h.imp fun _ h => ⟨h.1, fun hl => Nat.le_trans hs (h.2 hl)⟩

set_option maxHeartbeats 400000 in
theorem bytes_ok (n : Int) (k b : Nat) (l : List UInt8) (s : Bool) (g : Nat) (w : World) (h : Rdr w b l s g) (hk : max n 0 = (k : Int)) (hn : k ≤ l.length) (hl : l.length ≤ 4294967296) :
    Calls Try.prog 18 #[.pointer (some ⟨b, 0, none⟩), .int .i64 n] w fun e w' => (∃ v, e = .returned v ∧ Fresh w w' v (l.take k)) ∧ Touch (fun k => k = b) w w' ∧ Rdr w' b (l.drop k) s g := by
  have N := Lib.hid (next_ok b l s g k w h hn)
  by_cases h0 : n < 0
  · have hk0 : (k : Int) = 0 := by omega
    rw [hk0] at N
    have H := Lib.hid h
    clear h hk hk0
    go_enter Try.func18, Try.ntmps18
    go_wp2_with fail
    refine N.out.mono ?_
    rintro e w1 ⟨⟨v, rfl, hv⟩, ht, hr, hz⟩
    have HT := Lib.hid ht
    have HR := Lib.hid hr
    have HZ := Lib.hid hz
    have T := Lib.hid (clone_any v (l.take k) g w1 hv (by rw [List.length_take]; omega))
    clear ht hr hv hz
    go_wp2_with fail
    refine T.out.mono ?_
    rintro e w2 ⟨⟨v', rfl, hf⟩, hb⟩
    have HB := Lib.hid hb
    have HF := Lib.hid hf
    clear hb hf
    go_wp2
    go_ret
    exact ⟨⟨_, rfl, HF.out.old (by rw [HZ.out]; exact Nat.le_refl _)⟩, HT.out.trans (G := Emp) (Touch.of_below HB.out) (fun _ h => h.elim), HR.out.below HB.out⟩
  · have hk0 : (k : Int) = n := by omega
    rw [hk0] at N
    have H := Lib.hid h
    clear h hk hk0
    go_enter Try.func18, Try.ntmps18
    go_wp2_with fail
    refine N.out.mono ?_
    rintro e w1 ⟨⟨v, rfl, hv⟩, ht, hr, hz⟩
    have HT := Lib.hid ht
    have HR := Lib.hid hr
    have HZ := Lib.hid hz
    have T := Lib.hid (clone_any v (l.take k) g w1 hv (by rw [List.length_take]; omega))
    clear ht hr hv hz
    go_wp2_with fail
    refine T.out.mono ?_
    rintro e w2 ⟨⟨v', rfl, hf⟩, hb⟩
    have HB := Lib.hid hb
    have HF := Lib.hid hf
    clear hb hf
    go_wp2
    go_ret
    exact ⟨⟨_, rfl, HF.out.old (by rw [HZ.out]; exact Nat.le_refl _)⟩, HT.out.trans (G := Emp) (Touch.of_below HB.out) (fun _ h => h.elim), HR.out.below HB.out⟩

set_option maxHeartbeats 400000 in
theorem bytes_short (k b : Nat) (l : List UInt8) (s : Bool) (g : Nat) (w : World) (h : Rdr w b l s g) (hn : l.length < k) :
    Calls Try.prog 18 #[.pointer (some ⟨b, 0, none⟩), .int .i64 (k : Int)] w fun e w' => (∃ v, e = .returned v ∧ Fresh w w' v []) ∧ Touch (fun k => k = b) w w' ∧ Rdr w' b [] true g := by
  have N := Lib.hid (next_short b l s g k w h hn)
  have h0 : ¬ (k : Int) < 0 := by omega
  have H := Lib.hid h
  clear h
  go_enter Try.func18, Try.ntmps18
  go_wp2_with fail
  refine N.out.mono ?_
  rintro e w1 ⟨rfl, ht, hr, hz⟩
  have HT := Lib.hid ht
  have HR := Lib.hid hr
  have HZ := Lib.hid hz
  have T := Lib.hid (clone_any _ [] 0 w1 (BV.nil w1 0) (by simp))
  clear ht hr hz
  go_wp2_with fail
  refine T.out.mono ?_
  rintro e w2 ⟨⟨v', rfl, hf⟩, hb⟩
  have HB := Lib.hid hb
  have HF := Lib.hid hf
  clear hb hf
  go_wp2
  go_ret
  exact ⟨⟨_, rfl, HF.out.old (by rw [HZ.out]; exact Nat.le_refl _)⟩, HT.out.trans (G := Emp) (Touch.of_below HB.out) (fun _ h => h.elim), HR.out.below HB.out⟩

set_option maxHeartbeats 400000 in
theorem left_any (b : Nat) (l : List UInt8) (s : Bool) (g : Nat) (w : World) (h : Rdr w b l s g) :
    Calls Try.prog 17 #[.pointer (some ⟨b, 0, none⟩)] w fun e w' => e = .returned (.int .i64 (l.length : Int)) ∧ w = w' := by
  obtain ⟨v, hb, hv⟩ := h.val
  obtain ⟨a, cap, rfl, -⟩ := hv.form
  have hc0 := cell_of_row w b 0 _ _ _ hb
  simp only [List.getElem?_toArray, List.getElem?_cons_succ, List.getElem?_cons_zero] at hc0
  clear h hb hv
  go_enter Try.func17, Try.ntmps17
  go_wp2
  go_ret
  exact ⟨rfl, rfl⟩

set_option maxHeartbeats 400000 in
theorem fine_any (b : Nat) (l : List UInt8) (s : Bool) (g : Nat) (w : World) (h : Rdr w b l s g) :
    Calls Try.prog 16 #[.pointer (some ⟨b, 0, none⟩)] w fun e w' => e = .returned (.bool !s) ∧ w = w' := by
  obtain ⟨v, hb, hv⟩ := h.val
  have hc1 := cell_of_row w b 1 _ _ _ hb
  simp only [List.getElem?_toArray, List.getElem?_cons_succ, List.getElem?_cons_zero] at hc1
  clear h hb hv
  go_enter Try.func16, Try.ntmps16
  go_wp2
  go_ret
  exact ⟨rfl, rfl⟩

end Go.Proofs.Yticgojkfkplfoaa
