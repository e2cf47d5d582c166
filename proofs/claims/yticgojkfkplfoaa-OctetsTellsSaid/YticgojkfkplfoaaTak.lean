/- taken, next, Clone. -/
import Derived.Test.YticgojkfkplfoaaSma
namespace Go.Proofs.Yticgojkfkplfoaa
open Go.RowKit

theorem unle_snoc (l : List UInt8) (k : Nat) (h : k < l.length) : Oct.unle (l.take (k + 1)) = Oct.unle (l.take k) + 256 ^ k * l[k].toNat := by
  rw [List.take_succ_eq_append_getElem h, Oct.unle_append, List.length_take, Nat.min_eq_left (Nat.le_of_lt h)]; simp [Oct.unle]
theorem unle_take_lt (l : List UInt8) (k : Nat) (h : k ≤ l.length) : Oct.unle (l.take k) < 256 ^ k := by
  have := Oct.unle_lt (l.take k)
  rwa [List.length_take, Nat.min_eq_left h] at this

set_option maxHeartbeats 400000 in
theorem taken_any (v : Value) (l : List UInt8) (g : Nat) (w : World) (h : BV w v l g) (hl : l.length ≤ 8) :
    Calls Try.prog 21 #[v] w fun e w' => e = .returned (.int .u64 (Oct.unle l : Int)) ∧ Below w.heap.size w w' := by
  obtain ⟨a, cap, rfl, hc, hn⟩ := h.form
  have H := Lib.hid h
  clear h hn
  go_enter Try.func21, Try.ntmps21
  go_wp2
  go_loopw [5, 8] (fun x i wr => ∃ k : Nat, k ≤ l.length ∧ i = .int .i64 k ∧ Below w.heap.size w wr ∧ WordAt wr w.heap.size (Oct.unle (l.take k)) k) (fun _ i _ => l.length - (intOf i).toNat)
  case atStart => exact ⟨0, Nat.zero_le _, rfl, (Below.refl _ w).alloc (Nat.le_refl _) _, heap_alloc_new w _⟩
  case round =>
    obtain ⟨k, hk, rfl, hb, hw⟩ := hrel
    by_cases hlt : k < l.length
    · have hr := (H.out.below hb).reads
      obtain ⟨off, rfl, hck⟩ := hr.cellk hlt
      have HA := Lib.hid (add_any w.heap.size (Oct.unle (l.take k)) k l[k] wr hw (by omega) (unle_take_lt l k hk))
      have HU := Lib.hid (unle_snoc l k hlt)
      have HB := Lib.hid hb
      clear hr hb hw
      go_wp2_with fail
      refine HA.out.mono ?_
      rintro e w1 ⟨rfl, ht, hw1⟩
      have HB1 := Lib.hid (show Below w.heap.size w w1 from HB.out.trans ((ht.to_below (B := w.heap.size) (by rintro k _ rfl; exact Nat.le_refl _) HB.out.size)))
      have HW1 := Lib.hid hw1
      clear ht hw1
      go_wp2
      go_roundw
      case rel => exact ⟨k + 1, by omega, by go_num, HB1.out, by rw [HU.out]; exact HW1.out⟩
      case measure => simp [intOf]; omega
    · obtain rfl : k = l.length := by omega
      have hc0 := cell_of_row wr w.heap.size 0 _ _ _ hw
      simp only [List.getElem?_toArray, List.getElem?_cons_succ, List.getElem?_cons_zero] at hc0
      rw [List.take_length] at hc0
      have HB := Lib.hid hb
      clear hb hw
      go_wp2
      go_ret
      exact ⟨rfl, HB.out⟩

/-- A reader of bytes: block b; the bytes that are left lie in block g. -/
structure Rdr (w : World) (b : Nat) (l : List UInt8) (short : Bool) (g : Nat) : Prop where
  val : ∃ v, w.heap[b]? = some (.cells #[v, .bool short] 43 (0, 0)) ∧ BV w v l g
  ne : l ≠ [] → g ≠ b

set_option maxHeartbeats 400000 in
theorem next_ok (b : Nat) (l : List UInt8) (s : Bool) (g n : Nat) (w : World) (h : Rdr w b l s g) (hn : n ≤ l.length) :
    Calls Try.prog 22 #[.pointer (some ⟨b, 0, none⟩), .int .i64 (n : Int)] w fun e w' => (∃ v, e = .returned v ∧ BV w' v (l.take n) g) ∧ Touch (fun k => k = b) w w' ∧ Rdr w' b (l.drop n) s g ∧ w'.heap.size = w.heap.size := by
  obtain ⟨v, hb, hv⟩ := h.val
  obtain ⟨a, cap, rfl, hc, hna⟩ := hv.form
  have hc0 := cell_of_row w b 0 _ _ _ hb
  have hf0 := frozen_of_row w b 0 _ _ hb
  simp only [List.getElem?_toArray, List.getElem?_cons_succ, List.getElem?_cons_zero] at hc0
  have hu := run_from w a l.length cap n hn
  have H := Lib.hid h
  have HV := Lib.hid hv
  have HBK := Lib.hid hb
  clear h hb hv hna
  generalize hA : (if cap = n then a else a.map (·.add n)) = A at hu
  have HA := Lib.hid hA
  clear hA
  go_enter Try.func22, Try.ntmps22
  go_wp2
  go_ret
  have ht : Touch (fun k => k = b) w (w.setCell ⟨b, 0, none⟩ (.slice A (l.length - n) (cap - n))) := (Touch.refl (fun k => k = b) w).setCell (a := ⟨b, 0, none⟩) (.inl rfl) _
  refine ⟨⟨_, rfl, (HV.out.take n hn n (Nat.le_refl _) (by omega)).touch ht fun hl => H.out.ne (by rintro rfl; simp at hl)⟩, ht, ⟨⟨.slice A (l.length - n) (cap - n), ?_, ?_⟩, fun hl => H.out.ne (by rintro rfl; simp at hl)⟩, by simp⟩
  · rw [heap_setCell_same w b 0 _ _ _ HBK.out]; rfl
  · have hd := HV.out.drop n hn
    rw [HA.out] at hd
    exact hd.touch ht fun hl => H.out.ne (by rintro rfl; simp at hl)

set_option maxHeartbeats 400000 in
theorem next_short (b : Nat) (l : List UInt8) (s : Bool) (g n : Nat) (w : World) (h : Rdr w b l s g) (hn : l.length < n) :
    Calls Try.prog 22 #[.pointer (some ⟨b, 0, none⟩), .int .i64 (n : Int)] w fun e w' => e = .returned (.slice none 0 0) ∧ Touch (fun k => k = b) w w' ∧ Rdr w' b [] true g ∧ w'.heap.size = w.heap.size := by
  obtain ⟨v, hb, hv⟩ := h.val
  obtain ⟨a, cap, rfl, hc, hna⟩ := hv.form
  have hc0 := cell_of_row w b 0 _ _ _ hb
  have hc1 := cell_of_row w b 1 _ _ _ hb
  have hf0 := frozen_of_row w b 0 _ _ hb
  have hf1 := frozen_of_row w b 1 _ _ hb
  simp only [List.getElem?_toArray, List.getElem?_cons_succ, List.getElem?_cons_zero] at hc0 hc1
  have HBK := Lib.hid hb
  clear h hb hv hna
  go_enter Try.func22, Try.ntmps22
  go_wp2
  go_ret
  refine ⟨rfl, ((Touch.refl (fun k => k = b) w).setCell (a := ⟨b, 0, none⟩) (.inl rfl) _).setCell (a := ⟨b, 1, none⟩) (.inl rfl) _, ⟨⟨.slice none 0 0, ?_, BV.nil _ g⟩, fun hl => absurd rfl hl⟩, by simp⟩
  rw [heap_setCell_same _ b 1 _ _ _ (heap_setCell_same w b 0 _ _ _ HBK.out)]; rfl

/-- What a call hands out that is the caller's: it reads as bytes; its row is new. -/
def Fresh (w w' : World) (v : Value) (l : List UInt8) : Prop := ∃ g, BV w' v l g ∧ (l ≠ [] → w.heap.size ≤ g)

set_option maxHeartbeats 400000 in
theorem clone_any (v : Value) (l : List UInt8) (g : Nat) (w : World) (h : BV w v l g) (hl : l.length ≤ 4294967296) :
    Calls Try.prog 20 #[v] w fun e w' => (∃ v', e = .returned v' ∧ Fresh w w' v' l) ∧ Below w.heap.size w w' := by
  obtain ⟨a, cap, rfl, hc, hn⟩ := h.form
  have H := Lib.hid h
  clear h
  cases a with
  | none =>
    obtain rfl := hn rfl
    obtain rfl : l = [] := List.eq_nil_of_length_eq_zero (by omega)
    clear hn hc
    have hq := fun W => Lib.run_eql_slice_nil (P := Try.prog) W 22 5 none 0 0 0 0 Try.underlying22
    go_enter Try.func20, Try.ntmps20
    go_wp2
    go_ret
    exact ⟨⟨_, rfl, 0, BV.nil _ 0, fun h => absurd rfl h⟩, Below.refl _ _⟩
  | some ad =>
    clear hn
    have HA := Lib.hid (H.out.alloc (.cells #[] 5))
    have hq := fun W => Lib.run_eql_slice_nil (P := Try.prog) W 22 5 (some ad) l.length cap 0 0 Try.underlying22
    go_enter Try.func20, Try.ntmps20
    go_wp2_with (at_builtin; refine wpList_append_b rfl (.tmp 5) (.tmp 6) rfl w.heap.size (.slice (some ⟨w.heap.size, 0, none⟩) 0 0) [] rfl (own_none w) _ l g rfl HA.out.reads HA.out.nilc (by simp; omega) (by simp) ?_; intro v1 w2 hown hgrow; have HO := Lib.hid hown; have HG := Lib.hid hgrow; clear hown hgrow)
    go_ret
    obtain ⟨g', hv, hg'⟩ := BV.of_own HO.out
    exact ⟨⟨_, rfl, g', hv, hg'⟩, ((Below.refl w.heap.size w).alloc (Nat.le_refl _) _).grown HG.out (by simp) (by intro k hk; simp [Value.ownBlock] at hk; omega)⟩

end Go.Proofs.Yticgojkfkplfoaa
