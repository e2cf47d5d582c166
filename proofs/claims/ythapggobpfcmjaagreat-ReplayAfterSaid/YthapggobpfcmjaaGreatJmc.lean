/- Read and Flush of a journal over a device that is up. -/
import Derived.Test.YthapggobpfcmjaaGreatJma
import Derived.Test.YthapggobpfcmjaaGreatDvm
set_option maxRecDepth 100000
namespace Go.Proofs.YthapggobpfcmjaaGreat
namespace Jn
open Go.RowKit

/-- A device in memory, in blocks that there are. -/
structure DevF (w : World) (F : Nat → Prop) (b : Nat) (ds : DSt) : Prop where
  dev : Dev w F b ds
  lt : ∀ k, F k → k < w.heap.size
theorem DevF.touch {w w1 : World} {F G : Nat → Prop} {b : Nat} {ds : DSt} (h : DevF w F b ds) (ht : Touch G w w1) (hd : ∀ k, F k → ¬ G k) : DevF w1 F b ds :=
  ⟨h.dev.touch ht hd, fun k hk => Nat.lt_of_lt_of_le (h.lt k hk) ht.size⟩
theorem DevF.below {w w1 : World} {F : Nat → Prop} {b : Nat} {ds : DSt} (h : DevF w F b ds) (hb : Below w.heap.size w w1) : DevF w1 F b ds := h.touch (Touch.of_below (F := Emp) hb) fun _ _ => id
theorem DevF.drewN {w : World} {F : Nat → Prop} {b : Nat} {ds : DSt} (h : DevF w F b ds) (n : Nat) : DevF (w.drewN n) F b ds := h.touch ((Touch.refl Emp w).drewN n) fun _ _ => id
theorem DevF.drew {w : World} {F : Nat → Prop} {b : Nat} {ds : DSt} (h : DevF w F b ds) : DevF w.drew F b ds := h.touch ((Touch.refl Emp w).drew) fun _ _ => id

/-- What a place has, of a block. -/
def Holds (ds : DSt) (p id : Nat) (l : List UInt8) : Prop := l.length = 480 ∧ ∃ t : Tg.T, Tg.rightB t = true ∧ t.e < 4294967296 ∧ t.d = (id : Int) ∧ ds.look (p + 1) = (0, Tg.enc t l)

section
variable {w : World} {A : Ad} {s : JSt} {F : Nat → Prop} {ds : DSt}

set_option maxHeartbeats 400000 in
theorem read_no (h : JAt w A s) (id : Int) (hid : ¬ (0 ≤ id ∧ id < s.N)) :
    Calls Tryz.prog 16 #[.pointer (some ⟨A.J, 0, none⟩), .int .i64 id] w fun e w' => e = .returned (.tuple #[.slice none 0 0, .int .i64 1]) ∧ w = w' := by
  have HA := has_any h id
  rw [decide_eq_false hid] at HA
  have HA := Lib.hid HA
  clear h hid
  go_enter Tryz.func16, Tryz.ntmps16
  go_wp2_with fail
  refine HA.out.mono ?_
  rintro e w1 ⟨rfl, rfl⟩
  go_wp2
  go_ret2
  exact ⟨rfl, rfl⟩

set_option maxHeartbeats 400000 in
theorem read_never (h : JAt w A s) (hb : s.broken = false) (id : Nat) (hid : id < s.N) (ha : s.a id = none) :
    Calls Tryz.prog 16 #[.pointer (some ⟨A.J, 0, none⟩), .int .i64 (id : Int)] w fun e w' => e = .returned (.tuple #[.slice (some ⟨w.heap.size, 0, none⟩) 480 480, .int .i64 0]) ∧ w.alloc (.cells (rowA (zerosL 480)) 5) = w' := by
  have HA := has_any h id
  rw [decide_eq_true (by omega)] at HA
  have HA := Lib.hid HA
  have TA := Tb.at_any h.tab id
  rw [Tb.lookI_nat, ha] at TA
  have TA := Lib.hid TA
  obtain ⟨-, -, c2, -, -, -, -, -, -, -, -, c11⟩ := h.cells
  rw [hb] at c11
  have hmk := run_makeBytes w 480 (by omega) (by omega)
  have HZ := Lib.hid (show rowA (zerosL (480 : Int).toNat) = rowA (zerosL 480) from rfl)
  generalize rowA (zerosL (480 : Int).toNat) = Z at hmk HZ
  clear h ha hb
  go_enter Tryz.func16, Tryz.ntmps16
  go_wp2_with fail
  refine HA.out.mono ?_
  rintro e w1 ⟨rfl, rfl⟩
  go_wp2_with fail
  refine TA.out.mono ?_
  rintro e w1 ⟨rfl, rfl⟩
  simp only [Tb.ans, Option.isSome]
  go_wp2
  go_ret2
  exact ⟨rfl, by rw [HZ.out]⟩

set_option maxHeartbeats 1000000 in
theorem read_has (h : JAt w A s) (hD : DevF w F A.b ds) (hoff : ∀ k, A.own k → ¬ F k) (hb : s.broken = false) (hu : ds.Up) (hf : ds.Fit) (hsec : s.P + 1 ≤ ds.secs.length) (id p : Nat) (hid : id < s.N) (ha : s.a id = some p) (l : List UInt8) (hh : Holds ds p id l) :
    Calls Tryz.prog 16 #[.pointer (some ⟨A.J, 0, none⟩), .int .i64 (id : Int)] w fun e w' => (∃ v, e = .returned (.tuple #[v, .int .i64 0]) ∧ OwnB w.heap.size w' v l) ∧ Touch F w w' ∧ DevF w' F A.b ds.incR := by
  have HA := has_any h id
  rw [decide_eq_true (by omega)] at HA
  have HA := Lib.hid HA
  have TA := Tb.at_any h.tab id
  rw [Tb.lookI_nat, ha] at TA
  have TA := Lib.hid TA
  have hp := (h.tab.good.lt id p ha).2
  have hP := h.pm
  have HS := Lib.hid (fun n => (sector_any p (w.drewN n) (by omega)).mono fun e w' (hh : _ ∧ _) => (⟨hh.1, hh.2.symm⟩ : e = .returned (.int .i64 ((p + 1 : Nat) : Int)) ∧ w' = w.drewN n))
  have HR := read_any (hD.drew).dev hf (hD.drew).lt ((p + 1 : Nat) : Int)
  rw [(hu.readR (by omega)).1, (hu.readR (by omega)).2] at HR
  obtain ⟨hl, t, ht1, ht2, ht3, hk⟩ := hh
  rw [hk] at HR
  have HR := Lib.hid HR
  obtain ⟨c0, -, c2, -, -, -, -, -, -, -, -, c11⟩ := h.cells
  rw [hb] at c11
  have H := Lib.hid h
  have HD := Lib.hid hD
  have HO := Lib.hid hoff
  have HT := Lib.hid (And.intro ht1 (And.intro ht2 ht3))
  clear h ha hb hD hoff ht1 ht2 ht3 hk hu hf hsec
  go_enter Tryz.func16, Tryz.ntmps16
  go_wp2_with fail
  refine HA.out.mono ?_
  rintro e w1 ⟨rfl, rfl⟩
  go_wp2_with fail
  refine TA.out.mono ?_
  rintro e w1 ⟨rfl, rfl⟩
  simp only [Tb.ans, Option.isSome]
  go_wp2_with fail
  go_region_with (first
    | (go_at_call 40; refine (HS.out 1).mono ?_; rintro e w4 ⟨rfl, rfl⟩)
    | (go_at_call 39; refine HR.out.mono ?_; rintro e w2 ⟨v, rfl, ht, hd, hh⟩))
  all_goals
    obtain ⟨ht1, ht2, ht3⟩ := HT.out
    have hel : (Tg.enc t l).length = 512 := by rw [Tg.enc_length, hl]
    obtain ⟨g, rfl, hg1, hg2, -⟩ : ∃ g, v = .slice (some ⟨g, 0, none⟩) 512 512 ∧ w.heap.size ≤ g ∧ ByteRow w2 g (Tg.enc t l) ∧ True := by
      rcases hh with ⟨_, h0⟩ | ⟨g, h1, h2, h3, _⟩
      · rw [h0] at hel; cases hel
      · exact ⟨g, h1, h2, h3, trivial⟩
    have hbv : BV w2 (.slice (some ⟨g, 0, none⟩) 512 512) (Tg.enc t l) g := ⟨by have := hg2.reads 512; rwa [hel] at this, ⟨_, _, by rw [hel], by omega, fun e => by cases e⟩, fun _ => lt_of_heap hg2⟩
    have DC := decode_full (some ⟨g, 0, none⟩) 512 (Tg.enc t l) g w2 hbv hel
    rw [Tg.dec_enc t l ht1 ht2, Tg.told_enc t l ht1 ht2, Tg.enc_drop] at DC
    have DC := Lib.hid DC
    have HX := Lib.hid (And.intro ht hd)
    have HG := Lib.hid (And.intro hg1 (lt_of_heap hg2))
    obtain ⟨te, ts, tq, tf, ti, tc, td⟩ := t
    simp only at ht3
    subst ht3
    clear ht hd hh hbv hg2 hel hg1 ht1 ht2 HT HR
    go_wp2_with fail
    refine DC.out.mono ?_
    rintro e w3 ⟨(⟨-, v', rfl, hv⟩ | ⟨h0, -⟩), hb3⟩
    · have HV := Lib.hid hv
      have HB := Lib.hid hb3
      obtain ⟨g3, cap3, rfl, -⟩ := hv
      clear hb3 DC
      go_wp2
      go_ret2
      obtain ⟨ht, hd⟩ := HX.out
      have hsz : w.heap.size ≤ w2.heap.size := ht.size
      have hv' := (HV.out.mono hsz).below ((Below.refl _ w3).alloc (Nat.le_refl _) (.cells #[.int .u32 (te : Int), .int .u64 (ts : Int), .int .u64 (tq : Int), .int .u64 (tf : Int), .int .i64 ti, .int .i64 tc, .int .i64 (id : Int)] 59))
      rw [hl] at hv'
      refine ⟨⟨.slice (some ⟨g3, 0, none⟩) 480 cap3, rfl, hv'⟩, ?_, ?_⟩
      · have t3 : Touch F w2 (w3.alloc (.cells #[.int .u32 (te : Int), .int .u64 (ts : Int), .int .u64 (tq : Int), .int .u64 (tf : Int), .int .i64 ti, .int .i64 tc, .int .i64 (id : Int)] 59)) := Touch.of_below (HB.out.alloc HB.out.size _)
        exact (((Touch.refl F w).drew).trans ht fun _ h _ => h).trans t3 fun k hk _ => hk
      · have hdf : DevF w2 F A.b ds.incR := ⟨hd, fun k hk => Nat.lt_of_lt_of_le (HD.out.lt k hk) hsz⟩
        exact hdf.below (HB.out.alloc HB.out.size _)
    · simp at h0

set_option maxHeartbeats 400000 in
theorem flush_up (h : JAt w A s) (hD : DevF w F A.b ds) (hoff : ∀ k, A.own k → ¬ F k) (hb : s.broken = false) (hu : ds.Up) (hf : ds.Fit) :
    Calls Tryz.prog 25 #[.pointer (some ⟨A.J, 0, none⟩)] w fun e w' => e = .returned (.int .i64 0) ∧ Touch F w w' ∧ DevF w' F A.b ds.flush ∧ JAt w' A s := by
  have FL := flush_any hD.dev hf
  rw [hu.err] at FL
  have FL := Lib.hid FL
  obtain ⟨c0, -, -, -, -, -, -, -, -, -, -, c11⟩ := h.cells
  rw [hb] at c11
  have H := Lib.hid h
  have HD := Lib.hid hD
  have HO := Lib.hid hoff
  clear h hb hD hoff hu hf
  go_enter Tryz.func25, Tryz.ntmps25
  go_wp2_with fail
  refine FL.out.mono ?_
  rintro e w1 ⟨rfl, ht, hd⟩
  go_wp2
  go_ret
  exact ⟨rfl, ht, ⟨hd, fun k hk => Nat.lt_of_lt_of_le (HD.out.lt k hk) ht.size⟩, H.out.touch ht HO.out⟩

end
end Jn
end Go.Proofs.YthapggobpfcmjaaGreat
