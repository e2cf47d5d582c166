/- 'shown': what must be in any case. -/
import Derived.Test.YtmedpmhiebcdjaaDoorHas
import Derived.KernelRfl
namespace Go.Proofs.YtmedpmhiebcdjaaDoor
open Go.RowKit

def q0 : DSt := DSt.new 2
def q1 : DSt := q0.write 0 (sectorL 1)
def q2 : DSt := q1.flush
def q3 : DSt := q2.write 0 (sectorL 2)
def q4 : DSt := q3.write 1 (sectorL 3)
def q5 : DSt := q4.crash [2, 1]
def q6 : DSt := q5.read 0
def q7 : DSt := q6.start
def q8 : DSt := q7.read 0
def q9 : DSt := q8.read 1
def q10 : DSt := q9.write 0 (sectorL 4)
def q11 : DSt := q10.read 0
def q12 : DSt := q11.write 2 (sectorL 4)
def q13 : DSt := q12.write 0 []

theorem fit_of {s : DSt} (h : (decide (s.waits.length < 1048576) && decide (s.reads < 4611686018427387904) && decide (s.writes < 4611686018427387904) && decide (s.flushes < 4611686018427387904)) = true) : s.Fit := by
  simp only [Bool.and_eq_true, decide_eq_true_eq] at h
  exact ⟨h.1.1.1, h.1.1.2, h.1.2, h.2⟩

theorem sectorL_ne (a : Int) : sectorL a ≠ [] := fun h => by have := congrArg List.length h; rw [sectorL_length] at this; cases this

/-- One step of a caller: it makes a sector, and has it written. -/
theorem sec_reads (w : World) (a : Int) : Reads (w.alloc (.cells (rowA (sectorL a)) 5)) (.slice (some ⟨w.heap.size, 0, none⟩) 512 512) (sectorL a) w.heap.size := by
  have h : ByteRow (w.alloc (.cells (rowA (sectorL a)) 5)) w.heap.size (sectorL a) := heap_alloc_new w _
  have := h.reads 512
  rwa [sectorL_length] at this

theorem wr_step {X : Nat → Prop} {w : World} {b : Nat} {s : DSt} (h : Has w b s X) (hf : s.Fit) (at_ a n : Int) (he : s.writeErr at_ (sectorL a) = n) :
    Calls Tryd.prog 10 #[.pointer (some ⟨b, 0, none⟩), .int .i64 at_, .slice (some ⟨w.heap.size, 0, none⟩) 512 512] (w.alloc (.cells (rowA (sectorL a)) 5)) fun e w' => e = .returned (.int .i64 n) ∧ Keep X w w' ∧ Has w' b (s.write at_ (sectorL a)) X := by
  refine (write_has (h.alloc _) hf at_ _ (sectorL a) _ (sec_reads w a) fun _ => .inr rfl).mono ?_
  rintro e w' ⟨he', hk, hd⟩
  rw [he] at he'
  exact ⟨he', ((Keep.refl X w).alloc _).trans (hk.mono fun k hk => .inl hk), hd.mono fun k hk => .inl hk⟩
theorem rd_step {X : Nat → Prop} {w : World} {b : Nat} {s : DSt} (h : Has w b s X) (hf : s.Fit) (at_ n : Int) (l : List UInt8) (he : (s.readR at_).1 = n) (hl : (s.readR at_).2 = l) :
    Calls Tryd.prog 14 #[.pointer (some ⟨b, 0, none⟩), .int .i64 at_] w fun e w' => ∃ v, e = .returned (.tuple #[v, .int .i64 n]) ∧ Keep X w w' ∧
      Has w' b (s.read at_) X ∧ ∃ g, Reads w' v l g ∧ (l ≠ [] → Has w' b (s.read at_) (Or1 X g)) := by
  refine (read_has h hf at_).mono ?_
  rw [he, hl]
  rintro e w' ⟨v, he', hk, hd, g, hr, hx⟩
  exact ⟨v, he', hk, hd, g, hr, fun h => (hx h).2.2.2⟩

theorem same_true (v1 v2 : Value) (l : List UInt8) (g1 g2 : Nat) (w : World) (h1 : Reads w v1 l g1) (h2 : Reads w v2 l g2) :
    Calls Tryd.prog 16 #[v1, v2] w fun e w' => e = .returned (.bool true) ∧ w = w' := by
  have := same_any v1 v2 l l g1 g2 w h1 h2
  rwa [show (l == l) = true by simp] at this
theorem nil_step {X : Nat → Prop} {w : World} {b : Nat} {s : DSt} (h : Has w b s X) (hf : s.Fit) (at_ n : Int) (he : s.writeErr at_ [] = n) :
    Calls Tryd.prog 10 #[.pointer (some ⟨b, 0, none⟩), .int .i64 at_, .slice none 0 0] w fun e w' => e = .returned (.int .i64 n) ∧ Keep X w w' ∧ Has w' b (s.write at_ []) X := by
  refine (write_has h hf at_ _ [] 0 ⟨0, 0, .inr ⟨⟨none, rfl⟩, rfl⟩⟩ fun h => absurd rfl h).mono ?_
  rw [he]
  rintro e w' h
  exact h
theorem cnt_step {X : Nat → Prop} {w : World} {b : Nat} {s : DSt} (h : Has w b s X) (r wr f : Nat) (h1 : s.reads = r) (h2 : s.writes = wr) (h3 : s.flushes = f) :
    Calls Tryd.prog 9 #[.pointer (some ⟨b, 0, none⟩)] w fun e w' => e = .returned (.agg #[.int .i64 r, .int .i64 wr, .int .i64 f]) ∧ Keep X w w' ∧ Has w' b s X := by
  subst h1 h2 h3
  exact counts_has h

theorem crashL_reads (w : World) : IReads (w.alloc (.cells #[.int .i64 2, .int .i64 1] 3)) (.slice (some ⟨w.heap.size, 0, none⟩) 2 2) [2, 1] w.heap.size := by
  refine ⟨0, 2, .inl ⟨rfl, fun i hi => ?_⟩⟩
  rw [cell_of_row _ _ _ _ _ _ (heap_alloc_new w _)]
  match i, hi with
  | 0, _ => rfl
  | 1, _ => rfl

set_option maxRecDepth 100000 in
set_option maxHeartbeats 4000000 in
theorem shown_any (w : World) : Calls Tryd.prog 4 #[] w fun e w' => e = .returned (.bool true) ∧ Below w.heap.size w w' := by
  go_enter Tryd.func4, Tryd.ntmps4
  go_wp2_with fail
  refine (new_has 2 w (by omega) (by omega)).mono ?_
  rintro e w1 ⟨rfl, ht1, -, hq⟩
  have hT : Below w.heap.size w w1 := ht1.below
  clear ht1
  go_wp2_with fail
  refine (new_bad 0 w1 (by omega)).mono ?_
  rintro e w2 ⟨rfl, rfl⟩
  go_wp2_with fail
  refine (sector_any 1 _).mono ?_
  rintro e w2 ⟨rfl, rfl⟩
  go_wp2_with fail
  refine (wr_step hq (fit_of (by kernel_rfl)) 0 1 0 (by kernel_rfl)).mono ?_
  rintro e w2 ⟨rfl, hk, hq1⟩
  replace hT := hT.trans (hk.below (fun _ h => h) hT.size)
  clear hk hq
  go_wp2_with fail
  refine (flush_has hq1 (fit_of (by kernel_rfl))).mono ?_
  rintro e w3 ⟨rfl, hk, hq⟩
  rw [show DSt.err (DSt.write (DSt.new 2) 0 (sectorL 1)) = 0 from by kernel_rfl]
  replace hT := hT.trans (hk.below (fun _ h => h) hT.size)
  clear hk hq1
  go_wp2_with fail
  refine (sector_any 2 _).mono ?_
  rintro e w4 ⟨rfl, rfl⟩
  go_wp2_with fail
  refine (wr_step hq (fit_of (by kernel_rfl)) 0 2 0 (by kernel_rfl)).mono ?_
  rintro e w4 ⟨rfl, hk, hq1⟩
  replace hT := hT.trans (hk.below (fun _ h => h) hT.size)
  clear hk hq
  go_wp2_with fail
  refine (sector_any 3 _).mono ?_
  rintro e w5 ⟨rfl, rfl⟩
  go_wp2_with fail
  refine (wr_step hq1 (fit_of (by kernel_rfl)) 1 3 0 (by kernel_rfl)).mono ?_
  rintro e w5 ⟨rfl, hk, hq⟩
  replace hT := hT.trans (hk.below (fun _ h => h) hT.size)
  clear hk hq1
  go_wp2_with fail
  refine (crash_has (hq.alloc _) (Nat.lt_trans (fit_of (by kernel_rfl)).1 (by omega)) _ [2, 1] _ (crashL_reads w5) (fun _ => .inr rfl)).mono ?_
  rintro e w6 ⟨rfl, hk, hq1⟩
  replace hT := (hT.alloc hT.size _).trans ((hk.mono fun k hk => .inl hk).below (fun _ h => h) (by simp; have := hT.size; omega))
  replace hq1 := hq1.mono (Y := fun k => k < w.heap.size) fun k hk => .inl hk
  clear hk hq
  go_wp2_with fail
  refine (rd_step hq1 (fit_of (by kernel_rfl)) 0 2 [] (by kernel_rfl) (by kernel_rfl)).mono ?_
  rintro e w7 ⟨v1, rfl, hk, hq, -⟩
  replace hT := hT.trans (hk.below (fun _ h => h) hT.size)
  clear hk hq1
  go_wp2_with fail
  refine (start_has hq).mono ?_
  rintro e w8 ⟨rfl, hk, hq1⟩
  replace hT := hT.trans (hk.below (fun _ h => h) hT.size)
  clear hk hq
  rw [show DSt.startErr _ = 0 from by kernel_rfl]
  go_wp2_with fail
  refine (rd_step hq1 (fit_of (by kernel_rfl)) 0 3 [] (by kernel_rfl) (by kernel_rfl)).mono ?_
  rintro e w9 ⟨v2, rfl, hk, hq, -⟩
  replace hT := hT.trans (hk.below (fun _ h => h) hT.size)
  clear hk hq1
  go_wp2_with fail
  refine (rd_step hq (fit_of (by kernel_rfl)) 1 0 (sectorL 3) (by kernel_rfl) (by kernel_rfl)).mono ?_
  rintro e w10 ⟨v3, rfl, hk, -, g3, hr3, hq1⟩
  replace hq1 := hq1 (sectorL_ne 3)
  replace hT := hT.trans (hk.below (fun _ h => h) hT.size)
  clear hk hq
  go_wp2_with fail
  refine (sector_any 4 _).mono ?_
  rintro e w11 ⟨rfl, rfl⟩
  go_wp2_with fail
  refine (wr_step hq1 (fit_of (by kernel_rfl)) 0 4 0 (by kernel_rfl)).mono ?_
  rintro e w11 ⟨rfl, hk, hq⟩
  replace hT := hT.trans (hk.below (fun _ h => .inl h) hT.size)
  replace hr3 := hr3.touch hk fun h => h (.inr rfl)
  clear hk hq1
  go_wp2_with fail
  refine (rd_step hq (fit_of (by kernel_rfl)) 0 0 (sectorL 4) (by kernel_rfl) (by kernel_rfl)).mono ?_
  rintro e w12 ⟨v4, rfl, hk, -, g4, hr4, hq1⟩
  replace hq1 := hq1 (sectorL_ne 4)
  replace hT := hT.trans (hk.below (fun _ h => .inl h) hT.size)
  replace hr3 := hr3.touch hk fun h => h (.inr rfl)
  clear hk hq
  go_wp2_with fail
  refine (sector_any 4 _).mono ?_
  rintro e w13 ⟨rfl, rfl⟩
  go_wp2_with fail
  refine (wr_step hq1 (fit_of (by kernel_rfl)) 2 4 1 (by kernel_rfl)).mono ?_
  rintro e w13 ⟨rfl, hk, hq⟩
  replace hT := hT.trans (hk.below (fun _ h => .inl (.inl h)) hT.size)
  replace hr3 := hr3.touch hk fun h => h (.inl (.inr rfl))
  replace hr4 := hr4.touch hk fun h => h (.inr rfl)
  clear hk hq1
  go_wp2_with fail
  refine (nil_step hq (fit_of (by kernel_rfl)) 0 1 (by kernel_rfl)).mono ?_
  rintro e w14 ⟨rfl, hk, hq1⟩
  replace hT := hT.trans (hk.below (fun _ h => .inl (.inl h)) hT.size)
  replace hr3 := hr3.touch hk fun h => h (.inl (.inr rfl))
  replace hr4 := hr4.touch hk fun h => h (.inr rfl)
  clear hk hq
  go_wp2_with fail
  refine (cnt_step hq1 3 4 1 (by kernel_rfl) (by kernel_rfl) (by kernel_rfl)).mono ?_
  rintro e w15 ⟨rfl, hk, hq⟩
  replace hT := hT.trans (hk.below (fun _ h => .inl (.inl h)) hT.size)
  replace hr3 := hr3.touch hk fun h => h (.inl (.inr rfl))
  replace hr4 := hr4.touch hk fun h => h (.inr rfl)
  clear hk hq1 hq
  go_wp2_with fail
  have hr3' : Reads (w15.alloc (.cells #[.int .i64 3, .int .i64 4, .int .i64 1] 34)) v3 (sectorL 3) g3 := hr3.touch ((Touch.refl Emp w15).alloc _) id
  have hr4' : Reads (w15.alloc (.cells #[.int .i64 3, .int .i64 4, .int .i64 1] 34)) v4 (sectorL 4) g4 := hr4.touch ((Touch.refl Emp w15).alloc _) id
  have hT' := hT.alloc hT.size (.cells #[.int .i64 3, .int .i64 4, .int .i64 1] 34)
  have k0 : (w15.alloc (.cells #[.int .i64 3, .int .i64 4, .int .i64 1] 34)).cell? ⟨w15.heap.size, 0, none⟩ = some (.int .i64 3) := World.cell?_alloc_new _ _ _ _
  have k1 : (w15.alloc (.cells #[.int .i64 3, .int .i64 4, .int .i64 1] 34)).cell? ⟨w15.heap.size, 1, none⟩ = some (.int .i64 4) := World.cell?_alloc_new _ _ _ _
  have k2 : (w15.alloc (.cells #[.int .i64 3, .int .i64 4, .int .i64 1] 34)).cell? ⟨w15.heap.size, 2, none⟩ = some (.int .i64 1) := World.cell?_alloc_new _ _ _ _
  have k3 : w15.heap.size < (w15.alloc (.cells #[.int .i64 3, .int .i64 4, .int .i64 1] 34)).heap.size := by simp
  clear hr3 hr4 hT
  have HR3 := Lib.hid hr3'
  have HR4 := Lib.hid hr4'
  have HT := Lib.hid hT'
  clear hr3' hr4' hT'
  generalize w15.alloc (.cells #[.int .i64 3, .int .i64 4, .int .i64 1] 34) = w16 at HR3 HR4 HT k0 k1 k2 k3 ⊢
  refine (sector_any 3 _).mono ?_
  rintro e w17 ⟨rfl, rfl⟩
  go_wp2_with fail
  refine (same_true _ _ (sectorL 3) g3 w16.heap.size _ (HR3.out.touch ((Touch.refl Emp w16).alloc _) id) (sec_reads w16 3)).mono ?_
  rintro e w17 ⟨rfl, rfl⟩
  go_wp2_with fail
  refine (sector_any 4 _).mono ?_
  rintro e w17 ⟨rfl, rfl⟩
  go_wp2_with fail
  refine (same_true _ _ (sectorL 4) g4 (w16.heap.size + 1) _ (HR4.out.touch (((Touch.refl Emp w16).alloc _).alloc _) id) (by have := sec_reads (w16.alloc (.cells (rowA (sectorL 3)) 5)) 4; simpa using this)).mono ?_
  rintro e w17 ⟨rfl, rfl⟩
  go_wp2
  go_ret
  exact ⟨rfl, (HT.out.alloc HT.out.size _).alloc (by have := HT.out.size; simp; omega) _⟩

end Go.Proofs.YtmedpmhiebcdjaaDoor
