/- DeviceArgs: whatever the sector and the size, refused or done as it must be. -/
import Derived.Test.YtmedpmhiebcdjaaSho
import Derived.Test.YtmedpmhiebcdjaaBit
namespace Go.Proofs.Ytmedpmhiebcdjaa
open Go.RowKit

theorem zeros_reads (w : World) (n : Nat) : Reads (w.alloc (.cells (rowA (zerosL n)) 5)) (.slice (some ⟨w.heap.size, 0, none⟩) n n) (zerosL n) w.heap.size := by
  have h : ByteRow (w.alloc (.cells (rowA (zerosL n)) 5)) w.heap.size (zerosL n) := heap_alloc_new w _
  have := h.reads n
  rwa [zerosL_length] at this

set_option maxRecDepth 100000 in
set_option maxHeartbeats 4000000 in
theorem args_up (at_ size : Int) (zn rd wr : Nat) (f g : Int) (b1 b2 b3 : Bool) (w : World) (hzn : zn ≤ 1023) (hz : bits .and .i64 size 1023 = (zn : Int))
    (hd1 : decide (at_ < 0) = b1) (hd2 : decide (6 < at_) = b2) (hd3 : ((zn : Int) != 512) = b3) (hf : (DSt.new 7).writeErr at_ (zerosL zn) = f) (hg : (((DSt.new 7).write at_ (zerosL zn)).readR at_).1 = g)
    (hfit : ((DSt.new 7).write at_ (zerosL zn)).Fit) (hrd : (((DSt.new 7).write at_ (zerosL zn)).read at_).reads = rd) (hwr : (((DSt.new 7).write at_ (zerosL zn)).read at_).writes = wr) (hfl : (((DSt.new 7).write at_ (zerosL zn)).read at_).flushes = 0)
    (e1 : (f == 1) = (b1 || b2 || b3)) (e2 : (g == 1) = (b1 || b2)) (e3 : (f == 0) = !(b1 || b2 || b3)) (e4 : (g == 0) = !(b1 || b2)) (e5 : ((wr : Int) == 1) = !(b1 || b2 || b3)) (e6 : ((rd : Int) == 1) = !(b1 || b2)) :
    Calls Try.prog 4 #[.int .i64 at_, .int .i64 size, .bool false] w fun e w' => e = .returned (.bool true) ∧ Below w.heap.size w w' := by
  have hmk := fun W => run_makeBytes W (zn : Int) (by omega) (by omega)
  simp only [Int.toNat_natCast] at hmk
  have HFIT := Lib.hid hfit
  have HF := Lib.hid hf
  have HG := Lib.hid hg
  have HR := Lib.hid hrd
  have HW := Lib.hid hwr
  have HL := Lib.hid hfl
  clear hfit hf hg hrd hwr hfl
  cases b1 <;> cases b2 <;> cases b3
  all_goals simp only [Bool.true_or, Bool.or_true, Bool.or_false, Bool.not_true, Bool.not_false] at e1 e2 e3 e4 e5 e6
  all_goals
    go_enter Try.func4, Try.ntmps4
    go_wp2_with fail
    refine (shown_any w).mono ?_
    rintro e w1 ⟨rfl, hT⟩
    go_wp2_with fail
    refine (new_has 7 w1 (by omega) (by omega)).mono ?_
    rintro e w2 ⟨rfl, ht1, -, hq⟩
    replace hq := hq.mono (Y := fun k => k < w.heap.size) fun k hk => Nat.lt_of_lt_of_le hk hT.size
    replace hT := hT.trans (ht1.below.mono hT.size)
    clear ht1
    go_wp2_with fail
    refine (write_has (hq.alloc _) (fit_of (by kernel_rfl)) at_ _ (zerosL zn) _ (zeros_reads w2 zn) fun _ => .inr rfl).mono ?_
    rw [HF.out]
    rintro e w3 ⟨rfl, hk, hq1⟩
    replace hT := (hT.alloc hT.size _).trans (hk.below (fun _ h => .inl h) (by simp; have := hT.size; omega))
    replace hq1 := hq1.mono (Y := fun k => k < w.heap.size) fun k hk => .inl hk
    clear hk hq
    go_wp2_with fail
    refine (rd_step hq1 HFIT.out at_ g _ HG.out rfl).mono ?_
    rintro e w4 ⟨v, rfl, hk, hq, -⟩
    replace hT := hT.trans (hk.below (fun _ h => h) hT.size)
    clear hk hq1
    go_wp2_with fail
    refine (cnt_step hq rd wr 0 HR.out HW.out HL.out).mono ?_
    rintro e w5 ⟨rfl, hk, hq1⟩
    replace hT := hT.trans (hk.below (fun _ h => h) hT.size)
    have HT := Lib.hid hT
    clear hk hq hq1 hT
    go_wp2_with fail
    go_wp2
    go_ret
    exact ⟨rfl, HT.out.alloc HT.out.size _⟩

set_option maxRecDepth 100000 in
set_option maxHeartbeats 4000000 in
theorem args_down (at_ size : Int) (zn : Nat) (f g : Int) (b1 b2 b3 : Bool) (w : World) (hzn : zn ≤ 1023) (hz : bits .and .i64 size 1023 = (zn : Int))
    (hd1 : decide (at_ < 0) = b1) (hd2 : decide (6 < at_) = b2) (hd3 : ((zn : Int) != 512) = b3) (hf : ((DSt.new 7).crash []).writeErr at_ (zerosL zn) = f) (hg : ((((DSt.new 7).crash []).write at_ (zerosL zn)).readR at_).1 = g)
    (hfit : (((DSt.new 7).crash []).write at_ (zerosL zn)).Fit) (hrd : ((((DSt.new 7).crash []).write at_ (zerosL zn)).read at_).reads = 0) (hwr : ((((DSt.new 7).crash []).write at_ (zerosL zn)).read at_).writes = 0) (hfl : ((((DSt.new 7).crash []).write at_ (zerosL zn)).read at_).flushes = 0)
    (e1 : (f == 1) = (b1 || b2 || b3)) (e2 : (g == 1) = (b1 || b2)) (e3 : (f == 2) = !(b1 || b2 || b3)) (e4 : (g == 2) = !(b1 || b2)) :
    Calls Try.prog 4 #[.int .i64 at_, .int .i64 size, .bool true] w fun e w' => e = .returned (.bool true) ∧ Below w.heap.size w w' := by
  have hmk := fun W => run_makeBytes W (zn : Int) (by omega) (by omega)
  simp only [Int.toNat_natCast] at hmk
  have HFIT := Lib.hid hfit
  have HF := Lib.hid hf
  have HG := Lib.hid hg
  have HR := Lib.hid hrd
  have HW := Lib.hid hwr
  have HL := Lib.hid hfl
  clear hfit hf hg hrd hwr hfl
  cases b1 <;> cases b2 <;> cases b3
  all_goals simp only [Bool.true_or, Bool.or_true, Bool.or_false, Bool.not_true, Bool.not_false] at e1 e2 e3 e4
  all_goals
    go_enter Try.func4, Try.ntmps4
    go_wp2_with fail
    refine (shown_any w).mono ?_
    rintro e w1 ⟨rfl, hT⟩
    go_wp2_with fail
    refine (new_has 7 w1 (by omega) (by omega)).mono ?_
    rintro e w2 ⟨rfl, ht1, -, hq⟩
    replace hq := hq.mono (Y := fun k => k < w.heap.size) fun k hk => Nat.lt_of_lt_of_le hk hT.size
    replace hT := hT.trans (ht1.below.mono hT.size)
    clear ht1
    go_wp2_with fail
    refine (crash_has hq (Nat.lt_trans (fit_of (by kernel_rfl)).1 (by omega)) (.slice none 0 0) [] 0 ⟨0, 0, .inr ⟨⟨none, rfl⟩, rfl⟩⟩ (fun h => absurd rfl h)).mono ?_
    rintro e w2 ⟨rfl, hk, hq1⟩
    replace hT := hT.trans (hk.below (fun _ h => h) hT.size)
    replace hq := hq1
    clear hk hq1
    go_wp2_with fail
    refine (write_has (hq.alloc _) (fit_of (by kernel_rfl)) at_ _ (zerosL zn) _ (zeros_reads w2 zn) fun _ => .inr rfl).mono ?_
    rw [HF.out]
    rintro e w3 ⟨rfl, hk, hq1⟩
    replace hT := (hT.alloc hT.size _).trans (hk.below (fun _ h => .inl h) (by simp; have := hT.size; omega))
    replace hq1 := hq1.mono (Y := fun k => k < w.heap.size) fun k hk => .inl hk
    clear hk hq
    go_wp2_with fail
    refine (rd_step hq1 HFIT.out at_ g _ HG.out rfl).mono ?_
    rintro e w4 ⟨v, rfl, hk, hq, -⟩
    replace hT := hT.trans (hk.below (fun _ h => h) hT.size)
    clear hk hq1
    go_wp2_with fail
    refine (cnt_step hq 0 0 0 HR.out HW.out HL.out).mono ?_
    rintro e w5 ⟨rfl, hk, hq1⟩
    replace hT := hT.trans (hk.below (fun _ h => h) hT.size)
    have HT := Lib.hid hT
    clear hk hq hq1 hT
    go_wp2_with fail
    go_wp2
    go_ret
    exact ⟨rfl, HT.out.alloc HT.out.size _⟩


theorem zeros_ne {n : Nat} (h : n ≠ 512) : (zerosL n).length ≠ 512 := by rw [zerosL_length]; exact h

theorem far_b {at_ : Int} (h : ¬ (0 ≤ at_ ∧ at_ < 7)) : (decide (at_ < 0) || decide (6 < at_)) = true := by simp; omega
theorem near_b {n : Nat} (h : n < 7) : decide ((n : Int) < 0) = false ∧ decide (6 < (n : Int)) = false := by simp; omega

theorem up_full : ∀ n : Fin 7, ((DSt.new 7).writeErr (n.1 : Int) (zerosL 512) = 0 ∧ (((DSt.new 7).write (n.1 : Int) (zerosL 512)).readR (n.1 : Int)).1 = 0) ∧
    ((((DSt.new 7).write (n.1 : Int) (zerosL 512)).waits.length < 1048576 ∧ ((DSt.new 7).write (n.1 : Int) (zerosL 512)).reads < 4611686018427387904 ∧ ((DSt.new 7).write (n.1 : Int) (zerosL 512)).writes < 4611686018427387904 ∧ ((DSt.new 7).write (n.1 : Int) (zerosL 512)).flushes < 4611686018427387904) ∧
    (((DSt.new 7).write (n.1 : Int) (zerosL 512)).read (n.1 : Int)).reads = 1 ∧ (((DSt.new 7).write (n.1 : Int) (zerosL 512)).read (n.1 : Int)).writes = 1 ∧ (((DSt.new 7).write (n.1 : Int) (zerosL 512)).read (n.1 : Int)).flushes = 0) := by decide +kernel
theorem up_none : ∀ n : Fin 7, ((DSt.new 7).readR (n.1 : Int)).1 = 0 ∧ ((DSt.new 7).read (n.1 : Int)).reads = 1 ∧ ((DSt.new 7).read (n.1 : Int)).writes = 0 ∧ ((DSt.new 7).read (n.1 : Int)).flushes = 0 := by decide +kernel
theorem dn_full : ∀ n : Fin 7, (((DSt.new 7).crash []).writeErr (n.1 : Int) (zerosL 512) = 2 ∧ ((((DSt.new 7).crash []).write (n.1 : Int) (zerosL 512)).readR (n.1 : Int)).1 = 2) ∧
    (((((DSt.new 7).crash []).write (n.1 : Int) (zerosL 512)).waits.length < 1048576 ∧ (((DSt.new 7).crash []).write (n.1 : Int) (zerosL 512)).reads < 4611686018427387904 ∧ (((DSt.new 7).crash []).write (n.1 : Int) (zerosL 512)).writes < 4611686018427387904 ∧ (((DSt.new 7).crash []).write (n.1 : Int) (zerosL 512)).flushes < 4611686018427387904) ∧
    ((((DSt.new 7).crash []).write (n.1 : Int) (zerosL 512)).read (n.1 : Int)).reads = 0 ∧ ((((DSt.new 7).crash []).write (n.1 : Int) (zerosL 512)).read (n.1 : Int)).writes = 0 ∧ ((((DSt.new 7).crash []).write (n.1 : Int) (zerosL 512)).read (n.1 : Int)).flushes = 0) := by decide +kernel
theorem dn_none : ∀ n : Fin 7, (((DSt.new 7).crash []).readR (n.1 : Int)).1 = 2 ∧ (((DSt.new 7).crash []).read (n.1 : Int)).reads = 0 ∧ (((DSt.new 7).crash []).read (n.1 : Int)).writes = 0 ∧ (((DSt.new 7).crash []).read (n.1 : Int)).flushes = 0 := by decide +kernel

theorem device_args (at_ size : Int) (down : Bool) (w : World) :
    Calls Try.prog 4 #[.int .i64 at_, .int .i64 size, .bool down] w fun e w' => e = .returned (.bool true) ∧ Below w.heap.size w w' := by
  obtain ⟨zn, hzn⟩ : ∃ zn : Nat, (zn : Int) = size % 1024 := ⟨(size % 1024).toNat, by omega⟩
  have hz : bits .and .i64 size 1023 = (zn : Int) := by rw [and_1023, hzn]
  have hz1 : zn ≤ 1023 := by omega
  have l7 : (DSt.new 7).secs.length = 7 := by simp [DSt.new]
  have l7' : ((DSt.new 7).crash []).secs.length = 7 := by rw [DSt.crash]; exact (crashW_secs _ _ _).trans l7
  by_cases hat : 0 ≤ at_ ∧ at_ < 7
  · obtain ⟨n, rfl⟩ := Int.eq_ofNat_of_zero_le hat.1
    have hn : n < 7 := by omega
    obtain ⟨g1, g2⟩ := near_b hn
    by_cases h5 : zn = 512
    · subst h5
      cases down
      · have h := up_full ⟨n, hn⟩
        exact args_up n size 512 1 1 0 0 false false false w hz1 hz g1 g2 rfl h.1.1 h.1.2 h.2.1 h.2.2.1 h.2.2.2.1 h.2.2.2.2 rfl rfl rfl rfl rfl rfl
      · have h := dn_full ⟨n, hn⟩
        exact args_down n size 512 2 2 false false false w hz1 hz g1 g2 rfl h.1.1 h.1.2 h.2.1 h.2.2.1 h.2.2.2.1 h.2.2.2.2 rfl rfl rfl rfl
    · have h3 : ((zn : Int) != 512) = true := by simp; omega
      cases down
      · have h := up_none ⟨n, hn⟩
        have e1 : (DSt.new 7).writeErr (n : Int) (zerosL zn) = 1 := if_pos (.inr (zeros_ne h5))
        have e2 : (DSt.new 7).write (n : Int) (zerosL zn) = DSt.new 7 := if_pos (.inr (zeros_ne h5))
        exact args_up n size zn 1 0 1 0 false false true w hz1 hz g1 g2 h3 e1 (by rw [e2]; exact h.1) (by rw [e2]; exact fit_of (by kernel_rfl)) (by rw [e2]; exact h.2.1) (by rw [e2]; exact h.2.2.1) (by rw [e2]; exact h.2.2.2) rfl rfl rfl rfl rfl rfl
      · have h := dn_none ⟨n, hn⟩
        have e1 : ((DSt.new 7).crash []).writeErr (n : Int) (zerosL zn) = 1 := if_pos (.inr (zeros_ne h5))
        have e2 : ((DSt.new 7).crash []).write (n : Int) (zerosL zn) = (DSt.new 7).crash [] := if_pos (.inr (zeros_ne h5))
        exact args_down n size zn 1 2 false false true w hz1 hz g1 g2 h3 e1 (by rw [e2]; exact h.1) (by rw [e2]; exact fit_of (by kernel_rfl)) (by rw [e2]; exact h.2.1) (by rw [e2]; exact h.2.2.1) (by rw [e2]; exact h.2.2.2) rfl rfl rfl rfl
  · have hfar := far_b hat
    cases down
    · have e1 : (DSt.new 7).writeErr at_ (zerosL zn) = 1 := if_pos (.inl (by rw [l7]; exact hat))
      have e2 : (DSt.new 7).write at_ (zerosL zn) = DSt.new 7 := if_pos (.inl (by rw [l7]; exact hat))
      have e3 : (DSt.new 7).readR at_ = (1, []) := if_pos (by rw [l7]; exact hat)
      have e4 : (DSt.new 7).read at_ = DSt.new 7 := if_pos (by rw [l7]; exact hat)
      exact args_up at_ size zn 0 0 1 1 _ _ _ w hz1 hz rfl rfl rfl e1 (by rw [e2, e3]) (by rw [e2]; exact fit_of (by kernel_rfl)) (by rw [e2, e4]; rfl) (by rw [e2, e4]; rfl) (by rw [e2, e4]; rfl) (by rw [hfar]; rfl) (by rw [hfar]; rfl) (by rw [hfar]; rfl) (by rw [hfar]; rfl) (by rw [hfar]; rfl) (by rw [hfar]; rfl)
    · have e1 : ((DSt.new 7).crash []).writeErr at_ (zerosL zn) = 1 := if_pos (.inl (by rw [l7']; exact hat))
      have e2 : ((DSt.new 7).crash []).write at_ (zerosL zn) = (DSt.new 7).crash [] := if_pos (.inl (by rw [l7']; exact hat))
      have e3 : ((DSt.new 7).crash []).readR at_ = (1, []) := if_pos (by rw [l7']; exact hat)
      have e4 : ((DSt.new 7).crash []).read at_ = (DSt.new 7).crash [] := if_pos (by rw [l7']; exact hat)
      exact args_down at_ size zn 1 1 _ _ _ w hz1 hz rfl rfl rfl e1 (by rw [e2, e3]) (by rw [e2]; exact fit_of (by kernel_rfl)) (by rw [e2, e4]; rfl) (by rw [e2, e4]; rfl) (by rw [e2, e4]; rfl) (by rw [hfar]; rfl) (by rw [hfar]; rfl) (by rw [hfar]; rfl) (by rw [hfar]; rfl)

end Go.Proofs.Ytmedpmhiebcdjaa
