/- Commit of a journal that has room by the rule, over a device that is up. -/
import Derived.Test.YthapggobpfcmjaaGreatJmp
set_option maxRecDepth 100000
namespace Go.Proofs.YthapggobpfcmjaaGreat
namespace Jn
open Go.RowKit

theorem min_run (m u : Nat) : ∃ r : Nat, r = min (2 * m) u ∧ ∀ W : World, (Builtin.min_ #[3, 3] 3 #[.int .i64 (2 * (m : Int)), .int .i64 (u : Int)]).run Tryz.prog W = .ok (.int .i64 (r : Int)) W := by
  refine ⟨min (2 * m) u, rfl, fun W => ?_⟩
  simp [Builtin.min_, Builtin.min2]
  split <;> omega

set_option maxHeartbeats 1000000 in
theorem commit_bad {w : World} {A : Ad} {s : JSt} {v : Value} {E : List WE} {X : Nat → Prop} (h : JAt w A s) (hw : WL w v E X) (hx : ∀ k, X k → k < w.heap.size) (hlen : E.length ≤ 4294967296) (hno : ¬ MayE s.N E) :
    Calls Tryz.prog 9 #[.pointer (some ⟨A.J, 0, none⟩), v] w fun e w' => e = .returned (.int .i64 1) ∧ Below w.heap.size w w' := by
  obtain ⟨a, cap, rfl, -⟩ := hw.form
  have BA := Lib.hid (batch_any h hw hx hlen)
  have HN := Lib.hid hno
  clear h hw hx hno
  go_enter Tryz.func9, Tryz.ntmps9
  go_wp2_with fail
  refine BA.out.mono ?_
  rintro e w1 ⟨(⟨hm, -⟩ | ⟨-, rfl⟩), hb⟩
  · exact (HN.out hm).elim
  · have HB := Lib.hid hb
    clear hb BA
    go_wp2
    go_ret
    exact ⟨rfl, HB.out⟩

/-- What a Commit has written, and what it makes of the journal and its device. -/
def Wrote (s : JSt) (t : Jou.St) (ds : DSt) (s' : JSt) (t' : Jou.St) (ds' : DSt) : Prop := ∃ (L : List WE) (c m : Nat), s' = after s L c ∧ t' = nextT t c (idsN L) ∧ ds' = (DSt.more ds.flush m).puts (putsU s L L.length) ∧ (∀ e ∈ L, 0 ≤ e.id ∧ e.id < s.N ∧ e.l.length = 480) ∧
  L.length + s.used + s.freed ≤ s.P ∧ (idsN L).Nodup ∧ 1 ≤ L.length ∧ L.length ≤ 72 ∧ c ≤ s.used
def Both (F : Nat → Prop) (A : Ad) (k : Nat) : Prop := F k ∨ A.own k

set_option maxHeartbeats 4000000 in
theorem commit_says {w : World} {A : Ad} {F : Nat → Prop} {s : JSt} {t : Jou.St} {ds : DSt} {dat : Nat → List UInt8} {v : Value} {E : List WE} {X : Nat → Prop} (h : Jl w A F s t ds dat) (hw : WL w v E X) (hX : ∀ k, X k → k < w.heap.size ∧ ¬ F k ∧ ¬ A.own k) (hE : MayE s.N E)
    (hq : s.sq < 281474976710655) (hr : ds.reads < 1152921504606846976) (hwr : ds.writes < 1152921504606846976) (hfl : ds.flushes < 1152921504606846976) :
    Calls Tryz.prog 9 #[.pointer (some ⟨A.J, 0, none⟩), v] w fun e w' => e = .returned (.int .i64 0) ∧ Touch (Both F A) w w' ∧
      ∃ (G : Nat → Prop) (s' : JSt) (t' : Jou.St) (ds' : DSt), Jl w' A G s' t' ds' (datB E dat) ∧ (∀ j, j < w.heap.size → G j → F j) ∧ s'.N = s.N ∧ s'.P = s.P ∧ s'.ep = s.ep ∧ s'.st = s.st ∧ s'.sq = s.sq + 1 ∧
        ds'.reads ≤ ds.reads + 2 * E.length ∧ ds.reads ≤ ds'.reads ∧ ds'.writes ≤ ds.writes + 3 * E.length ∧ ds.writes ≤ ds'.writes ∧ ds'.flushes = ds.flushes + 1 ∧ Nxt t t' (idsN E) ∧ Wrote s t ds s' t' ds' := by
  obtain ⟨a, cap, rfl, -⟩ := hw.form
  have BA := batch_any h.jat hw (fun k hk => (hX k hk).1) (by have := hE.2.1; omega)
  have H := Lib.hid h
  have HX := Lib.hid hX
  have HE := Lib.hid hE
  have hlE : E.length ≤ 24 := hE.2.1
  have hlE0 : 0 < E.length := by have := hE.1; omega
  have hPm : s.P ≤ 1048576 := h.jat.pm
  have hus : s.used + s.freed ≤ s.P := h.jat.us
  have hqb : ((s.sq : Int) == 281474976710655) = false := by simp; omega
  obtain ⟨len, hl⟩ : ∃ len, E.length = len := ⟨_, rfl⟩
  rw [hl] at hlE hlE0 BA
  replace BA := Lib.hid BA
  rw [hl] at hw
  have HW := Lib.hid hw
  clear hw
  obtain ⟨c, hc, hmin⟩ := min_run len s.used
  have HC := Lib.hid hc
  have HL := Lib.hid hl
  clear h hX hE
  go_enter Tryz.func9, Tryz.ntmps9
  rw [hl]
  clear hl hc
  go_wp2_with fail
  refine BA.out.mono ?_
  rintro e w1 ⟨(⟨-, m, es, clk, rfl, hml, hmm, hms⟩ | ⟨hno, -⟩), hb1⟩
  case inr => exact (hno HE.out).elim
  have hJ1 := H.out.jat.below hb1
  have hD1 := H.out.dev.below hb1
  obtain ⟨-, -, -, -, -, -, c6, -, c8, -, -, -⟩ := hJ1.cells
  have FL := Lib.hid (flush_up hJ1 hD1 H.out.off H.out.br H.out.up ⟨by have := H.out.wt; omega, by omega, by omega, by omega⟩)
  have HM := Lib.hid (And.intro hml (And.intro hmm hms))
  have HB1 := Lib.hid hb1
  have hmF : ¬ F m := fun hf => by have := H.out.dev.lt m hf; omega
  clear BA hml hmm hms hb1 hJ1 hD1
  go_wp2_with fail
  refine FL.out.mono ?_
  rintro e w2 ⟨rfl, ht2, hd2, hj2⟩
  obtain ⟨-, -, -, -, -, -, -, -, c8, -, -, -⟩ := hj2.cells
  obtain ⟨hup2, f1, f2, f3, f4, f5⟩ := H.out.up.flush_up
  have MV := moved_any hj2 hd2 H.out.off H.out.br hup2 c m (by have := HC.out; omega) (by
    have := HC.out
    simp only [DSt.Fit, DSt.more, f5, f1, f2, f3, List.length_nil]
    omega) (by rw [f4]; exact H.out.sec) dat (fun id p hp => (H.out.hold id p hp).imp (fun h => h) fun ⟨tg, h1, h2, h3, h4⟩ => ⟨tg, h1, h2, h3, by rw [H.out.up.flush_look]; exact h4⟩) (idsN E) ⟨es, clk, ht2.at HM.out.2.1 hmF, HM.out.2.2⟩ hmF
  have MV := Lib.hid MV
  have HT2 := Lib.hid ht2
  clear FL ht2 hd2 hj2 c6
  go_wp2_with fail
  refine MV.out.mono ?_
  rintro e w3 ⟨v3, M, rfl, hM, hMs, ht3, hd3, hj3⟩
  have hdm := hM
  obtain ⟨a3, cap3, e3, -⟩ := hM.wl.form
  subst e3
  have hMl : M.length ≤ 2 * len := by
    have h1 := congrArg List.length hMs
    simp only [List.length_map] at h1
    have h2 : (mvL s c (idsN E) (liveL s c).length).length ≤ ((liveL s c).take (liveL s c).length).length := List.length_filter_le _ _
    have h3 : (liveL s c).length ≤ c := by
      have := List.length_filterMap_le (fun i => s.o ((tl s + i) % s.P)) (List.range c)
      simpa [liveL] using this
    rw [List.take_length] at h2
    have := HC.out
    omega
  have HM3 := Lib.hid (And.intro hdm (And.intro hMs (And.intro ht3 (And.intro hd3 hj3))))
  obtain ⟨lm, hlm⟩ : ∃ lm, M.length = lm := ⟨_, rfl⟩
  rw [hlm] at hMl
  have HLM := Lib.hid hlm
  clear MV hdm hMs ht3 hd3 hj3 hmin c8 hM
  rw [hlm]
  clear hlm
  have hJ3l : A.J < w3.heap.size := HM3.out.2.2.2.2.lt _ (.inl rfl)
  have hb12 := HT2.out
  have wl1 : WL w3 (.slice a len cap) E X := ((HW.out.below HB1.out).touch hb12 (fun j hj => (HX.out j hj).2.1)).touch HM3.out.2.2.1 (fun j hj => (HX.out j hj).2.1)
  have wl2 : WL w3 (.slice a3 lm cap3) M (fun k => w2.heap.size ≤ k ∧ k < w3.heap.size) := by
    have := HM3.out.1.wl
    rwa [HLM.out] at this
  have CT := concat_two w3.heap.size (.slice a len cap) (.slice a3 lm cap3) E M (fun k => X k ∨ (w2.heap.size ≤ k ∧ k < w3.heap.size)) (w3.alloc (.cells #[.slice a len cap, .slice a3 lm cap3] 37)) (heap_alloc_new w3 _)
    ((wl1.below ((Below.refl _ w3).alloc (Nat.le_refl _) _)).mono fun _ => .inl) ((wl2.below ((Below.refl _ w3).alloc (Nat.le_refl _) _)).mono fun _ => .inr) (by rw [HL.out]; exact hlE0) (by rw [HL.out, HLM.out]; omega)
  have CT := Lib.hid CT
  have WLs := Lib.hid (And.intro wl1 wl2)
  clear wl1 wl2 hb12
  go_wp2_with fail
  refine CT.out.mono ?_
  rintro e w4 ⟨⟨v4, rfl, hown4⟩, hb4⟩
  obtain ⟨wl1, wl2⟩ := WLs.out
  obtain ⟨hdm, hMs, ht3, hd3, hj3⟩ := HM3.out
  have hsz : w.heap.size ≤ w2.heap.size := Nat.le_trans HB1.out.size HT2.out.size
  have hb34 : Below w3.heap.size w3 w4 := ((Below.refl _ w3).alloc (Nat.le_refl _) _).trans (hb4.mono ((Touch.refl Emp w3).alloc _).size)
  have hFw : ∀ k, F k → k < w.heap.size := H.out.dev.lt
  have hAw : ∀ k, A.own k → k < w.heap.size := H.out.jat.lt
  have hlEM : (E ++ M).length = len + lm := by rw [List.length_append, HL.out, HLM.out]
  have wl4 : WL w4 v4 (E ++ M) (fun k => X k ∨ (w2.heap.size ≤ k ∧ k < w4.heap.size)) := by
    have wl1' := wl1.below hb34
    have wl2' := wl2.below hb34
    refine wl_cat hown4 (fun k h1 h2 => .inr ⟨by have h5 := ((Touch.refl Emp w3).alloc (.cells #[.slice a len cap, .slice a3 lm cap3] 37)).size; have := ht3.size; omega, h2⟩) fun e he => ?_
    rcases List.mem_append.1 he with h1 | h1
    · exact ⟨(wl1'.data e h1).1, fun hl => .inl ((wl1'.data e h1).2 hl)⟩
    · exact ⟨(wl2'.data e h1).1, fun hl => .inr ⟨((wl2'.data e h1).2 hl).1, Nat.lt_of_lt_of_le ((wl2'.data e h1).2 hl).2 hb34.size⟩⟩
  have hY : ∀ k, (X k ∨ (w2.heap.size ≤ k ∧ k < w4.heap.size)) → k < w4.heap.size ∧ ¬ F k ∧ ¬ A.own k := by
    rintro k (hk | ⟨h1, h2⟩)
    · obtain ⟨x1, x2, x3⟩ := HX.out k hk
      exact ⟨by have := ht3.size; have := hb34.size; omega, x2, x3⟩
    · exact ⟨h2, fun hf => by have := hFw k hf; omega, fun hf => by have := hAw k hf; omega⟩
  have hj4 := hj3.below hb34
  have hd4 := hd3.below hb34
  rw [hlEM] at hown4
  obtain ⟨hall, a1, a2, a3, a4, a5⟩ := plan H.out HE.out (by rw [HL.out]; exact HC.out) hMs
  obtain ⟨a, cap, e4, -⟩ := wl4.form
  subst e4
  rw [hlEM] at wl4 ⊢
  obtain ⟨n, hn⟩ : ∃ n, len + lm = n := ⟨_, rfl⟩
  rw [hn] at wl4 ⊢
  have hEMn : (E ++ M).length = n := by rw [hlEM, hn]
  have hn72 : n ≤ 72 := by omega
  obtain ⟨r, hr⟩ : ∃ r : Nat, (s.P : Int) - s.used - s.freed = (r : Int) := ⟨s.P - s.used - s.freed, by omega⟩
  have hnr : n ≤ r := by
    rw [hEMn] at a1
    omega
  have RM := Lib.hid (room_any hj4)
  have P4 := Lib.hid (And.intro wl4 (And.intro hj4 (And.intro hd4 (And.intro hY (And.intro hall (And.intro a1 (And.intro a2 a3)))))))
  have HB34 := Lib.hid hb34
  have HEM := Lib.hid hEMn
  have HR := Lib.hid hr
  clear wl1 wl2 hdm hMs ht3 hd3 hj3 hb34 hFw hAw hlEM hY hj4 hd4 hall a1 a2 a3 a4 a5 hown4 wl4 hEMn hr CT hb4 hJ3l
  go_wp2_with fail
  refine RM.out.mono ?_
  rintro e w5 ⟨rfl, q, rfl⟩
  rw [HR.out]
  obtain ⟨wl4, hj4, hd4, hY, hall, a1, a2, a3⟩ := P4.out
  have hup3 : (DSt.more ds.flush M.length).Up := ⟨hup2.down, hup2.armed, hup2.nod, hup2.fits⟩
  have WR := write_all (hj4.drewN q) (hd4.drewN q) H.out.off hup3 ⟨H.out.nn, H.out.ee, H.out.ss, H.out.tt, hq⟩ (wl4.touch (F := Emp) ((Touch.refl Emp w4).drewN q) fun _ _ => id) (fun k hk => ⟨(hY k hk).1, (hY k hk).2.1⟩) (by rw [HEM.out]; exact hn72) hall (by
    simp only [DSt.Fit, DSt.more, DSt.puts, f5, f1, f2, f3, putsU_len, List.length_append, List.length_nil, HEM.out, HLM.out]
    omega) (by show s.P + 1 ≤ ds.flush.secs.length; rw [f4]; exact H.out.sec)
  have WR := Lib.hid WR
  clear RM wl4 hj4 hd4 hY hall a1 a2 a3 hup3
  go_wp2_with fail
  refine WR.out.mono ?_
  rintro e w5 ⟨rfl, ht5, hj5, wl5, G, hd5, hG5⟩
  obtain ⟨-, -, -, hY, hall, a1, a2, a3⟩ := P4.out
  have ST := settle_any hj5 wl5 (fun k hk => (hY k hk).2.2) c (by have := HC.out; omega) (by omega) hq (fun e he => ⟨(hall e he).1, (hall e he).2.1⟩) (fun k hk => .inl (a3 k hk))
  have ST := Lib.hid ST
  have H5 := Lib.hid (And.intro ht5 (And.intro hd5 hG5))
  clear WR hj5 ht5 hd5 hG5 hY hall a1 a2 a3 wl5
  go_wp2_with fail
  refine ST.out.mono ?_
  rintro e w6 ⟨rfl, ht6, hj6⟩
  have H6 := Lib.hid (And.intro ht6 hj6)
  clear ST ht6 hj6
  go_wp2_with fail
  go_ret
  obtain ⟨ht5, hd5, hG5⟩ := H5.out
  obtain ⟨ht6, hj6⟩ := H6.out
  obtain ⟨-, hMs, ht3, -, -⟩ := HM3.out
  have hs1 : w.heap.size ≤ w1.heap.size := HB1.out.size
  have hs2 : w1.heap.size ≤ w2.heap.size := HT2.out.size
  have hs3 : w2.heap.size ≤ w3.heap.size := ht3.size
  have hs4 : w3.heap.size ≤ w4.heap.size := HB34.out.size
  have hs5 : w4.heap.size ≤ w5.heap.size := ht5.size
  have hd6 := hd5.touch ht6 fun k hg hk => H.out.off k hk (hG5 k (by have := H.out.jat.lt k hk; show k < w4.heap.size; omega) hg)
  have hG6 : ∀ j, j < w.heap.size → G j → F j := fun j hj hg => hG5 j (by show j < w4.heap.size; omega) hg
  refine ⟨rfl, ?_, G, after s (E ++ M) c, nextT t c (idsN (E ++ M)), _, jl_after H.out HE.out (by rw [HL.out]; exact HC.out) hMs (by rw [HLM.out]; omega) hq hj6 hd6 hG6, hG6, rfl, rfl, rfl, rfl, rfl, ?_⟩
  · have t1 : Touch F w w1 := Touch.of_below HB1.out
    have t2 : Touch F w w2 := t1.trans HT2.out fun _ h _ => h
    have t3 : Touch F w w3 := t2.trans ht3 fun _ h _ => h
    have t4 : Touch F w w4 := t3.trans (Touch.of_below (F := F) HB34.out) fun _ h _ => h
    have t5 : Touch F w w5 := (t4.drewN q).trans ht5 fun _ h _ => h
    exact (t5.mono (G := Both F A) fun _ _ h => .inl h).trans ht6 fun _ h _ => .inr h
  · obtain ⟨hall, a1, a2, -, -, -⟩ := plan H.out HE.out (by rw [HL.out]; exact HC.out) hMs
    have hwr2 : Wrote s t ds (after s (E ++ M) c) (nextT t c (idsN (E ++ M))) ((DSt.more ds.flush M.length).puts (putsU s (E ++ M) (E ++ M).length)) := ⟨E ++ M, c, M.length, rfl, rfl, rfl, hall, a1, a2, by rw [HEM.out]; omega, by rw [HEM.out]; exact hn72, by have := HC.out; omega⟩
    refine ⟨?_, ?_, ?_, ?_, ?_, nxt_of H.out (by rw [HL.out]; exact HC.out) hMs, hwr2⟩ <;> simp only [DSt.more, DSt.puts, f1, f2, f3, putsU_len, HEM.out, HLM.out] <;> omega

theorem commit_ok {w : World} {A : Ad} {F : Nat → Prop} {s : JSt} {t : Jou.St} {ds : DSt} {dat : Nat → List UInt8} {v : Value} {E : List WE} {X : Nat → Prop} (h : Jl w A F s t ds dat) (hw : WL w v E X) (hX : ∀ k, X k → k < w.heap.size ∧ ¬ F k ∧ ¬ A.own k) (hE : MayE s.N E)
    (hq : s.sq < 281474976710655) (hr : ds.reads < 1152921504606846976) (hwr : ds.writes < 1152921504606846976) (hfl : ds.flushes < 1152921504606846976) :
    Calls Tryz.prog 9 #[.pointer (some ⟨A.J, 0, none⟩), v] w fun e w' => e = .returned (.int .i64 0) ∧ Touch (Both F A) w w' ∧
      ∃ (G : Nat → Prop) (s' : JSt) (t' : Jou.St) (ds' : DSt), Jl w' A G s' t' ds' (datB E dat) ∧ (∀ j, j < w.heap.size → G j → F j) ∧ s'.N = s.N ∧ s'.P = s.P ∧ s'.ep = s.ep ∧ s'.st = s.st ∧ s'.sq = s.sq + 1 ∧
        ds'.reads ≤ ds.reads + 2 * E.length ∧ ds.reads ≤ ds'.reads ∧ ds'.writes ≤ ds.writes + 3 * E.length ∧ ds.writes ≤ ds'.writes ∧ ds'.flushes = ds.flushes + 1 ∧ Nxt t t' (idsN E) :=
  (commit_says h hw hX hE hq hr hwr hfl).mono fun _ _ ⟨he, ht, G, s', t', ds', h1, h2, h3, h4, h5, h6, h7, h8, h9, h10, h11, h12, h13, _⟩ => ⟨he, ht, G, s', t', ds', h1, h2, h3, h4, h5, h6, h7, h8, h9, h10, h11, h12, h13⟩

end Jn
end Go.Proofs.YthapggobpfcmjaaGreat
