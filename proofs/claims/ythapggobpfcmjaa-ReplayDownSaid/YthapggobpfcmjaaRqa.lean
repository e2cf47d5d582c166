/- What must be in any case (harrowlaw09's shown). No condition. -/
import Derived.Test.YthapggobpfcmjaaRpz
set_option maxRecDepth 100000
namespace Go.Proofs.Ythapggobpfcmjaa
namespace Rp
open Go.RowKit

theorem zeros_dec : Tg.decB (zerosL 512) = false := by decide +kernel
theorem new_look (n a : Nat) (h : a < n) : (DSt.new n).look a = (0, zerosL 512) := by
  unfold DSt.look
  rw [show (DSt.new n).waits = [] from rfl, lastW_nil]
  simp [DSt.new, h]
theorem found_new (n N P : Nat) (h : P + 1 ≤ n) : foundL (DSt.new n) N P = [] := by
  unfold foundL
  rw [List.filterMap_eq_nil_iff]
  intro p hp
  have hp' : p < P := by simpa using hp
  unfold foundAt
  rw [new_look n (p + 1) (by omega), zeros_dec]
  simp
theorem found_more (s : DSt) (k N P : Nat) : foundL (moreR s k) N P = foundL s N P := rfl
theorem spanF_none (n : Nat) (h : Int) (P : Nat) : spanF (List.replicate n (-1)) h P = 0 := by
  unfold spanF
  induction n with
  | zero => rfl
  | succ n ih => rw [List.replicate_succ, List.foldl_cons]; simpa using ih
/-- Of a device that has nothing. -/
theorem told_none {w w' : World} {e : Ending} {P N : Nat} (h : Told w w' e [] P N) : ∃ g, e = .returned (.tuple #[stA 1 1 0 0 0 (.slice (some ⟨g, 0, none⟩) N N), .int .i64 0]) ∧ w.heap.size ≤ g ∧ w'.heap[g]? = some (.cells (rowF N fun _ => .int .i64 (-1)) 3 (0, 0)) := by
  obtain ⟨seq, hs, h⟩ := h
  have hw : ¬ Whole (trueL []) (floorM [] + 1) := by rintro ⟨x, hx, -⟩; exact absurd hx (by simp [trueL, batL])
  have hseq : seq = 0 := by
    rcases hs with ⟨h, -⟩ | ⟨-, h⟩
    · exact h
    · exact absurd h hw
  subst hseq
  rcases h with ⟨h, -⟩ | ⟨-, g, he, hg, hrow⟩
  · exact absurd h (by decide)
  · have hat : atL (trueL []) 0 N = List.replicate N (-1) := by
      unfold atL
      refine List.ext_getElem (by simp) fun i h1 h2 => ?_
      simp [trueL, bestF]
    rw [hat, show headF (trueL []) 0 P = (0, -1) from rfl, spanF_none] at he
    exact ⟨g, he, hg, hrow⟩
def tagS : Tg.T := ⟨3, 2, 5, 4, 0, 1, 2⟩
theorem told_one {w w' : World} {e : Ending} (h : Told w w' e [(tagS, 6)] 10 4) : ∃ g, e = .returned (.tuple #[stA 4 6 5 7 1 (.slice (some ⟨g, 0, none⟩) 4 4), .int .i64 0]) ∧ w.heap.size ≤ g ∧ w'.cell? ⟨g, 2, none⟩ = some (.int .i64 6) ∧ g < w'.heap.size := by
  obtain ⟨seq, hs, h⟩ := h
  have ht : trueL [(tagS, 6)] = [(tagS, 6)] := by decide
  have hw : Whole (trueL [(tagS, 6)]) (floorM [(tagS, 6)] + 1) := by
    rw [ht]
    refine ⟨(tagS, 6), by simp [batL, tagS, floorM], fun y hy => ?_, fun k hk => ⟨(tagS, 6), by simp [batL, tagS, floorM], ?_⟩⟩
    · have := (List.mem_filter.1 hy).1; simp at this; rw [this]
    · simp [tagS] at hk ⊢; omega
  have hseq : seq = 5 := by
    rcases hs with ⟨-, h⟩ | ⟨h, -⟩
    · exact absurd hw h
    · exact h
  subst hseq
  rcases h with ⟨h, -⟩ | ⟨-, g, he, hg, hrow⟩
  · exact absurd h (by decide)
  · rw [ht] at he hrow
    refine ⟨g, ?_, hg, ?_, lt_of_heap hrow⟩
    · rw [he]
      rfl
    · rw [cell_of_row _ _ _ _ _ _ hrow]; rfl

theorem new_up (n : Nat) : (DSt.new n).Up := ⟨rfl, rfl, List.nodup_nil, fun x hx => by simp [DSt.new] at hx⟩
def secS : List UInt8 := Tg.enc tagS (zerosL 480)
theorem secS_len : secS.length = 512 := by unfold secS; rw [Tg.enc_length, zerosL_length]
theorem found_one (n : Nat) (hn : 11 ≤ n) (k : Nat) : foundL ((moreR (DSt.new n) k).puts [(7, secS)]) 4 10 = [(tagS, 6)] := by
  have hl : ∀ a, a < n → ((moreR (DSt.new n) k).puts [(7, secS)]).look a = if 7 = a then (0, secS) else (0, zerosL 512) := fun a ha => by
    rw [DSt.look_puts, lastW_one]
    by_cases h : 7 = a
    · simp [h]
    · simp only [if_neg h]
      exact new_look n a ha
  have h6 : foundAt ((moreR (DSt.new n) k).puts [(7, secS)]) 4 6 = some (tagS, 6) := by
    unfold foundAt
    rw [hl (6 + 1) (by omega), if_pos rfl]
    have h1 : Tg.decB secS = true := Tg.dec_enc _ _ (by decide) (by decide)
    have h2 : Tg.told secS = tagS := Tg.told_enc _ _ (by decide) (by decide)
    simp only [h1, h2]
    rfl
  have h0 : ∀ p, p < 10 → p ≠ 6 → foundAt ((moreR (DSt.new n) k).puts [(7, secS)]) 4 p = none := fun p hp hne => by
    unfold foundAt
    rw [hl (p + 1) (by omega), if_neg (show ¬ 7 = p + 1 by omega), zeros_dec]
    simp
  unfold foundL
  rw [show List.range 10 = [0, 1, 2, 3, 4, 5, 6, 7, 8, 9] from rfl]
  simp only [List.filterMap_cons, List.filterMap_nil, h6, h0 0 (by decide) (by decide), h0 1 (by decide) (by decide), h0 2 (by decide) (by decide), h0 3 (by decide) (by decide), h0 4 (by decide) (by decide), h0 5 (by decide) (by decide), h0 7 (by decide) (by decide), h0 8 (by decide) (by decide), h0 9 (by decide) (by decide)]

theorem DvF.of_gr {F : Nat → Prop} {w w1 : World} {b : Nat} {s : DSt} (h : Dev w1 (Gr F w w1) b s) (hF : ∀ k, F k → k < w.heap.size) (hs : w.heap.size ≤ w1.heap.size) : DvF w1 (Gr F w w1) b s :=
  ⟨h, fun k hk => hk.elim (fun h => Nat.lt_of_lt_of_le (hF k h) hs) fun h => h.2⟩
/-- A state in a variable: its six cells. -/
def StAt (w : World) (b : Nat) (e s q : Nat) (h u : Int) (v : Value) : Prop := w.heap[b]? = some (.cells #[.int .u32 (e : Int), .int .u64 (s : Int), .int .u64 (q : Int), .int .i64 h, .int .i64 u, v] 48 (0, 0))

theorem bv_zeros (W : World) : BV (W.alloc (.cells (rowA (zerosL 480)) 5)) (.slice (some ⟨W.heap.size, 0, none⟩) 480 480) (zerosL 480) W.heap.size := by
  have hb : ByteRow (W.alloc (.cells (rowA (zerosL 480)) 5)) W.heap.size (zerosL 480) := heap_alloc_new W _
  have hr := hb.reads 480
  rw [zerosL_length] at hr
  exact ⟨hr, ⟨_, 480, by rw [zerosL_length], by rw [zerosL_length]; omega, fun e => by cases e⟩, fun _ => lt_of_heap hb⟩
theorem enc_shown (Z : Array Value) (hZ : rowA (zerosL 480) = Z) (W : World) : Calls Try.prog 7 #[.agg #[.int .u32 3, .int .u64 2, .int .u64 5, .int .u64 4, .int .i64 0, .int .i64 1, .int .i64 2], .slice (some ⟨W.heap.size, 0, none⟩) 480 480] (W.alloc (.cells Z 5)) fun e w' =>
    (∃ g cap, e = .returned (.tuple #[.slice (some ⟨g, 0, none⟩) 512 cap, .int .i64 0]) ∧ W.heap.size + 1 ≤ g ∧ BV w' (.slice (some ⟨g, 0, none⟩) 512 cap) secS g) ∧ Below (W.heap.size + 1) (W.alloc (.cells Z 5)) w' := by
  subst hZ
  have h := encode_ok tagS _ (zerosL 480) W.heap.size _ (by decide) (by decide) (bv_zeros W) (zerosL_length 480)
  rw [World.size_alloc] at h
  refine h.mono ?_
  rintro e w' ⟨⟨v', rfl, g, cap, rfl, hc, hg, ho⟩, hb⟩
  have hl : (Tg.enc tagS (zerosL 480)).length = 512 := secS_len
  rw [hl] at hc ⊢
  exact ⟨⟨g, cap, rfl, hg, ho.bv 512 cap hl hc⟩, hb⟩

set_option maxHeartbeats 8000000 in
theorem shown_ok (w : World) : Calls Try.prog 5 #[] w fun e w' => e = .returned (.bool true) ∧ Below w.heap.size w w' := by
  have NE := Lib.hid (new_any 11 w (by omega) (by omega))
  have hmk := fun W => run_makeBytes W 480 (by omega) (by omega)
  have hZ : rowA (zerosL 480) = rowA (zerosL (480 : Int).toNat) := rfl
  generalize rowA (zerosL (480 : Int).toNat) = Z at hmk hZ
  have ENC := Lib.hid (enc_shown Z hZ)
  clear hZ
  go_enter Try.func5, Try.ntmps5
  go_wp2_with fail
  refine NE.out.mono ?_
  rintro e w1 ⟨rfl, ht1, hs1, hd1⟩
  have D1 : DvF w1 (NewF w) (w.heap.size + 2) (DSt.new 11) := ⟨hd1, fun k hk => by have := hk.2; omega⟩
  have SC1 := scan_ok sorts_few D1 (new_up 11) 10 4 ⟨by decide, by simp [DSt.new], by decide, by decide⟩ (by simp [DSt.new]) (by simp [DSt.Fit, moreR, DSt.new]) (by rw [found_new 11 4 10 (by omega)]; exact Nat.zero_le _)
  rw [found_new 11 4 10 (by omega)] at SC1
  have SC1 := Lib.hid SC1
  have H1 := Lib.hid (And.intro ht1 hs1)
  clear ht1 hs1 hd1 D1
  go_wp2_with fail
  refine SC1.out.mono ?_
  rintro e w2 ⟨hto, ht2, hd2⟩
  obtain ⟨g1, rfl, hg1, hrow1⟩ := told_none hto
  have H2 := Lib.hid (And.intro ht2 (And.intro hd2 (And.intro hg1 hrow1)))
  have ENC2 := ENC.out (w2.alloc (.cells #[.int .u32 1, .int .u64 1, .int .u64 0, .int .i64 0, .int .i64 0, .slice (some ⟨g1, 0, none⟩) 4 4] 48))
  rw [World.size_alloc] at ENC2
  have ENC2 := Lib.hid ENC2
  clear hto ht2 hd2 hg1 hrow1 ENC
  go_wp2_with fail
  refine ENC2.out.mono ?_
  rintro e w4 ⟨⟨gs, caps, rfl, hgs, hbv⟩, hb4⟩
  have q2 : w2.heap.size + 1 < w4.heap.size := by have := hb4.size; simp at this; omega
  have hb4' : Below ((w2.alloc (.cells #[.int .u32 1, .int .u64 1, .int .u64 0, .int .i64 0, .int .i64 0, .slice (some ⟨g1, 0, none⟩) 4 4] 48)).alloc (.cells Z 5)).heap.size ((w2.alloc (.cells #[.int .u32 1, .int .u64 1, .int .u64 0, .int .i64 0, .int .i64 0, .slice (some ⟨g1, 0, none⟩) 4 4] 48)).alloc (.cells Z 5)) w4 := by rw [World.size_alloc, World.size_alloc]; exact hb4
  have t24 : Touch Emp w2 w4 := (((Touch.refl Emp w2).alloc (.cells #[.int .u32 1, .int .u64 1, .int .u64 0, .int .i64 0, .int .i64 0, .slice (some ⟨g1, 0, none⟩) 4 4] 48)).alloc (.cells Z 5)).trans (Touch.of_below hb4') (fun _ h _ => h)
  have s24 : StAt w4 w2.heap.size 1 1 0 0 0 (.slice (some ⟨g1, 0, none⟩) 4 4) := by
    have h0 := heap_alloc_new w2 (.cells #[.int .u32 1, .int .u64 1, .int .u64 0, .int .i64 0, .int .i64 0, .slice (some ⟨g1, 0, none⟩) 4 4] 48)
    exact (hb4.block _ (by omega)).trans ((Below.heap_alloc _ _ _ (by simp)).trans h0)
  obtain ⟨ht2, hd2, hg1, hrow1⟩ := H2.out
  have d4 : DvF w4 (NewF w) (w.heap.size + 2) (moreR (DSt.new 11) 10) := hd2.touch t24 (fun _ _ => id)
  have hup := moreR_up (new_up 11) 10
  have hwr := hup.write (at_ := 7) (l := secS) (by simp [moreR, DSt.new]) secS_len
  have gsF : ¬ NewF w gs := fun h => by
    have h1 := H1.out.2
    have h2 := ht2.size
    have h3 := h.2
    omega
  have WR := write_any d4.dev (by simp [DSt.Fit, moreR, DSt.new]) 7 (.slice (some ⟨gs, 0, none⟩) 512 caps) secS gs hbv.reads gsF
  rw [show ((7 : Int)) = ((7 : Nat) : Int) from rfl, hwr.1, hwr.2] at WR
  have WR := Lib.hid WR
  have H4 := Lib.hid (And.intro t24 (And.intro s24 (And.intro d4 hgs)))
  clear hbv q2 t24 s24 ht2 hd2 hg1 hrow1 d4 hup hwr gsF hb4 hgs
  go_wp2_with fail
  refine WR.out.mono ?_
  rintro e w5 ⟨rfl, ht5, hd5⟩
  have D5 := DvF.of_gr hd5 H4.out.2.2.1.lt ht5.size
  have hup5 : ((moreR (DSt.new 11) 10).puts [(7, secS)]).Up := (moreR_up (new_up 11) 10).puts (fun x hx => by simp at hx; subst hx; simp [moreR, DSt.new])
  have SC2 := scan_ok sorts_few D5 hup5 10 4 ⟨by decide, by simp [DSt.puts, moreR, DSt.new], by decide, by decide⟩ (by simp [DSt.puts, moreR, DSt.new]) (by simp [DSt.Fit, DSt.puts, moreR, DSt.new]) (by rw [found_one 11 (by omega)]; decide)
  rw [found_one 11 (by omega)] at SC2
  have SC2 := Lib.hid SC2
  have H5 := Lib.hid (And.intro ht5 D5)
  clear ht5 hd5 D5 hup5
  go_wp2_with fail
  refine SC2.out.mono ?_
  rintro e w6 ⟨hto, ht6, hd6⟩
  obtain ⟨g2, rfl, hg2, hrow2, hg2l⟩ := told_one hto
  have SC3 := Lib.hid (fun o => scan_bad ((hd6.touch ((Touch.refl Emp w6).alloc o) (fun _ _ => id)).dev) 11 4 (by intro h; have := h.2.1; simp [DSt.puts, moreR, DSt.new] at this) (by simp [DSt.puts, moreR, DSt.new]))
  have H6 := Lib.hid (And.intro ht6 (And.intro hg2 (And.intro hrow2 hg2l)))
  clear hto ht6 hd6 hg2 hrow2 hg2l
  go_wp2_with fail
  refine (SC3.out _).mono ?_
  rintro e w7 ⟨rfl, hb7⟩
  obtain ⟨h1t, h1s⟩ := H1.out
  obtain ⟨ht2, hd2, hg1, hrow1⟩ := H2.out
  obtain ⟨t24, s24, d4, -⟩ := H4.out
  obtain ⟨ht5, D5⟩ := H5.out
  obtain ⟨ht6, hg2, hrow2, hg2l⟩ := H6.out
  have n2 := ht2.size
  have n4 := t24.size
  have n5 := ht5.size
  have n6 := ht6.size
  have far : ∀ k, w1.heap.size ≤ k → k < w4.heap.size → ∀ o, w4.heap[k]? = some o → w6.heap[k]? = some o := fun k hk1 hk2 o ho => by
    have hN : ¬ NewF w k := fun h => by have := h.2; omega
    exact ht6.at (ht5.at ho hN) fun h => h.elim hN fun h => by omega
  have sA : StAt w6 w2.heap.size 1 1 0 0 0 (.slice (some ⟨g1, 0, none⟩) 4 4) := far _ (by omega) (lt_of_heap s24) _ s24
  have rA := far _ hg1 (by have := lt_of_heap hrow1; omega) _ (t24.at hrow1 id)
  have a7 : ∀ k, k < w6.heap.size → ∀ o, w6.heap[k]? = some o → w7.heap[k]? = some o := fun k hk o ho => (hb7.block k (by simp; omega)).trans ((Below.heap_alloc _ _ _ hk).trans ho)
  have sA7 : StAt w7 w2.heap.size 1 1 0 0 0 (.slice (some ⟨g1, 0, none⟩) 4 4) := a7 _ (lt_of_heap sA) _ sA
  have rA7 := a7 _ (lt_of_heap rA) _ rA
  have sB7 : StAt w7 w6.heap.size 4 6 5 7 1 (.slice (some ⟨g2, 0, none⟩) 4 4) := (hb7.block _ (by simp)).trans (heap_alloc_new w6 _)
  have cB : w7.cell? ⟨g2, 2, none⟩ = some (.int .i64 6) := (hb7.cell (p := ⟨g2, 2, none⟩) (by simp; omega)).trans ((World.cell?_alloc_lt _ _ _ (by exact hg2l)).trans hrow2)
  obtain ⟨x0, x1, x2, x3, x4, x5⟩ := six_cells sA7
  obtain ⟨y0, y1, y2, y3, y4, y5⟩ := six_cells sB7
  have cA : w7.cell? ⟨g1, 2, none⟩ = some (.int .i64 (-1)) := by rw [cell_of_row _ _ _ _ _ _ rA7]; rfl
  have l1 := lt_of_heap sA7
  have l2 := lt_of_heap sB7
  have l3 := lt_of_heap rA7
  have l4 : g2 < w7.heap.size := World.block_lt_of_cell? w7 ⟨g2, 2, none⟩ cB
  have TT : Below w.heap.size w w7 := by
    have t1 : Touch (fun k => w.heap.size ≤ k) w w1 := h1t.mono fun _ _ h => h.elim
    have t2 := t1.trans (ht2.mono (G := fun k => w.heap.size ≤ k) fun k _ h => h.1) fun _ h _ => h
    have t3 := t2.trans (t24.mono (G := fun k => w.heap.size ≤ k) fun k _ h => h.elim) fun _ h _ => h
    have t4 := t3.trans (ht5.mono (G := fun k => w.heap.size ≤ k) fun k _ h => h.1) fun _ h _ => h
    have t5 := t4.trans (ht6.mono (G := fun k => w.heap.size ≤ k) fun k _ h => h.elim (fun h => h.1) fun h => by have := h1t.size; omega) fun _ h _ => h
    have t6 := (t5.alloc _).trans (Touch.of_below (F := fun k => w.heap.size ≤ k) hb7) fun _ h _ => h
    exact (t6.mono (G := fun k => w.heap.size ≤ k) fun _ _ h => h).trans (Touch.refl (fun k => w.heap.size ≤ k) w7) (fun _ h _ => h) |> fun t => ⟨t.os, t.tape, t.output, t.size, fun k hk => t.block k hk fun h => by omega⟩
  have HTT := Lib.hid TT
  clear h1t h1s ht2 hd2 hg1 hrow1 t24 s24 d4 ht5 D5 ht6 hg2 hrow2 hg2l n2 n4 n5 n6 far sA rA a7 sA7 rA7 sB7 TT hb7
  go_wp2
  go_ret
  exact ⟨rfl, HTT.out.alloc HTT.out.size _⟩
end Rp
end Go.Proofs.Ythapggobpfcmjaa
