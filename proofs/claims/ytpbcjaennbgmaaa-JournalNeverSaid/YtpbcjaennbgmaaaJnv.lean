/- JournalNever's walk. -/
import Derived.Test.YtpbcjaennbgmaaaJhs
set_option maxRecDepth 100000
namespace Go.Proofs.Ytpbcjaennbgmaaa
namespace Jn
open Go.RowKit

theorem datB_snoc {E : List WE} {e : WE} {dat : Nat → List UInt8} (h : e.id.toNat ∉ idsN E) (id : Nat) : datB (E ++ [e]) dat id = if id = e.id.toNat then e.l else datB E dat id := by
  have hl : (idsN E).length = E.length := by simp [idsN]
  have e1 : idsN (E ++ [e]) = idsN E ++ [e.id.toNat] := by simp [idsN]
  unfold datB
  rw [e1]
  by_cases hi : id = e.id.toNat
  · subst hi
    rw [if_pos rfl, List.idxOf_append, if_neg h]
    have h2 : [e.id.toNat].idxOf e.id.toNat = 0 := by simp
    rw [h2, hl]
    simp
  · rw [if_neg hi, List.idxOf_append]
    by_cases hm : id ∈ idsN E
    · rw [if_pos hm]
      have hlt := List.idxOf_lt_length_of_mem hm
      rw [List.getElem?_append_left (by omega)]
    · rw [if_neg hm, List.idxOf_eq_length hm]
      have hb : (e.id.toNat == id) = false := by simpa using Ne.symm hi
      have h2 : [e.id.toNat].idxOf id = 1 := by simp [List.idxOf, List.findIdx, List.findIdx.go, hb]
      rw [h2, List.getElem?_eq_none (by simp; omega), List.getElem?_eq_none (by omega)]
theorem HasD.snoc {N : Nat} {h : Nat → Option Nat} {dat : Nat → List UInt8} {E : List WE} {e : WE} {x : Nat} (H : HasD N h (datB E dat)) (hn : e.id.toNat ∉ idsN E) (hx : e.l = blk x) : HasD N (Tb.upd h e.id.toNat (some x)) (datB (E ++ [e]) dat) := by
  intro id hid
  by_cases hi : id = e.id.toNat
  · rw [hi, Tb.upd_same]
    simp only
    rw [datB_snoc hn, if_pos rfl, hx]
  · rw [Tb.upd_other _ _ hi, datB_snoc hn, if_neg hi]
    exact H id hid
theorem datB_nil (dat : Nat → List UInt8) : datB [] dat = dat := by
  funext id
  simp [datB]
/-- Blocks made since a world are a law's, if it likes. -/
theorem Gs.grow2 {w0 w5 wr : World} {A : Ad} {Y Z G : Nat → Prop} {s : JSt} {t : Jou.St} {ds : DSt} {dat : Nat → List UInt8} {c : Nat} (h : Gs w0 A Y s t ds dat c w5) (ht : Touch G w5 wr) (hG : ∀ k, G k → Y k) (hZ : ∀ k, Z k → Y k ∨ w5.heap.size ≤ k ∧ k < wr.heap.size) : Gs w0 A Z s t ds dat c wr := by
  obtain ⟨F, hj, hF⟩ := h.jl
  have h1 := h.touch ht (fun k hk => .inl (hG k hk))
  have hs := h.below.size
  refine ⟨⟨F, hj.touch ht (fun k hk hg => (hF k hk).2 (hG k hg)) (fun k hk hg => (h.own k hk).2 (hG k hg)), fun k hk => ⟨(hF k hk).1, fun hz => ?_⟩⟩, fun k hk => ⟨(h.own k hk).1, fun hz => ?_⟩, fun k hk => ?_, h1.below, h.sq, h.reads, h.writes, h.flushes⟩
  · rcases hZ k hz with hy | hy
    · exact (hF k hk).2 hy
    · have := hj.dev.lt k hk; omega
  · rcases hZ k hz with hy | hy
    · exact (h.own k hk).2 hy
    · have := hj.jat.lt k hk; omega
  · rcases hZ k hk with hy | hy
    · exact ⟨(h.ylt k hy).1, Nat.lt_of_lt_of_le (h.ylt k hy).2 ht.size⟩
    · exact ⟨by omega, hy.2⟩
/-- A row of bools. -/
def rowB (N : Nat) (f : Nat → Bool) : Array Value := ((List.range N).map fun i => Value.bool (f i)).toArray
theorem rowB_get {N i : Nat} (f : Nat → Bool) (h : i < N) : (rowB N f)[i]? = some (.bool (f i)) := by simp [rowB, h]
theorem rowB_cell {W : World} {g N i : Nat} {f : Nat → Bool} (h : W.heap[g]? = some (.cells (rowB N f) 4 (0, 0))) (hi : i < N) : W.cell? ⟨g, i, none⟩ = some (.bool (f i)) := by
  rw [cell_of_row W g i _ _ _ h]
  exact rowB_get f hi
theorem rowB_set {W : World} {g N i : Nat} {f : Nat → Bool} {b : Bool} (h : W.heap[g]? = some (.cells (rowB N f) 4 (0, 0))) : (W.setCell ⟨g, i, none⟩ (.bool b)).heap[g]? = some (.cells (rowB N (fun j => if j = i then b else f j)) 4 (0, 0)) := by
  rw [heap_setCell_same _ _ i _ _ _ h]
  congr 2
  apply Array.ext
  · simp [rowB]
  · intro j h1 h2
    rw [Array.getElem_setIfInBounds]
    · by_cases e : i = j
      · subst e; simp [rowB]
      · have e' : ¬ j = i := fun h => e h.symm
        simp [rowB, e, e']
    · simpa [rowB] using h2
theorem infoB : (Try.prog.info? 4).map (fun i => (i.zero, i.size, i.bytes)) = some (some (.bool false), 1, 1) := by kernel_rfl
theorem run_makeBools (w : World) (n : Nat) (h1 : n ≤ 100000) :
    (Instr.makeSlice 38 (.int .i64 n) (.int .i64 n)).run Try.prog w = .ok (.slice (some ⟨w.heap.size, 0, none⟩) n n) (w.alloc (.cells (rowB n (fun _ => false)) 4)) := by
  obtain ⟨i0, hi, hz0, hz1, hz2⟩ := info_parts infoB
  have := run_make (P := Try.prog) w 38 4 i0 (.bool false) Try.underlying38 hi hz0 .i64 .i64 n n (by omega) (by omega) (by rw [hz2]; omega) (by omega)
  simp only [Int.toNat_natCast] at this
  rw [this, hz1]
  simp only [Value.cells, madeCells_one, Nat.mul_one]
  have e : Array.replicate n (Value.bool false) = rowB n (fun _ => false) := by
    apply Array.ext
    · simp [rowB]
    · intro i h1 h2
      simp [rowB]
  rw [e]

theorem mod37 (n : Int) : ∃ B : Nat, 4 + n % 65536 % 37 = (B : Int) ∧ 4 ≤ B ∧ B ≤ 40 := by
  exact ⟨(4 + (n % 65536) % 37).toNat, by omega, by omega, by omega⟩
theorem mod11 (n : Int) : ∃ B : Nat, n % 65536 % 11 = (B : Int) ∧ B ≤ 10 := by
  exact ⟨((n % 65536) % 11).toNat, by omega, by omega⟩

set_option maxHeartbeats 8000000 in
theorem never_walk (xb xm : Int) (a0 : Option Addr) (n0 c0 : Nat) (w : World) (hs0 : ∀ i, i < n0 → ∃ vids ids g d n, StepAt w a0 i vids ids g d n ∧ ids.length ≤ 17592186044416) :
    Calls Try.prog 3 #[.int .i64 xb, .int .i64 xm, .slice a0 n0 c0] w fun e w' => e = .returned (.bool true) ∧ Below w.heap.size w w' := by
  have HS0 := Lib.hid hs0
  clear hs0
  have a1 := and_65535 xb
  have a2 := and_65535 xm
  obtain ⟨N, hN, hN4, hN40⟩ := mod37 xb
  obtain ⟨D, hD, hD10⟩ := mod11 xm
  have r1 : 0 ≤ xb % 65536 ∧ xb % 65536 < 65536 := by omega
  have r2 : 0 ≤ xm % 65536 ∧ xm % 65536 < 65536 := by omega
  obtain ⟨r1, s1⟩ := r1
  obtain ⟨r2, s2⟩ := r2
  generalize xb % 65536 = n' at *
  generalize xm % 65536 = k' at *
  obtain ⟨P, hP, hPr, hP2⟩ : ∃ P : Nat, (5 * (N : Int) + 240 + 1) / 2 + (D : Int) = (P : Int) ∧ 5 * N + 240 ≤ 2 * P ∧ P ≤ 1000 := by
    exact ⟨((5 * (N : Int) + 240 + 1) / 2 + D).toNat, by omega, by omega, by omega⟩
  have SH := Lib.hid (shown_any w)
  go_enter Try.func3, Try.ntmps3
  go_wp2_with fail
  refine SH.out.mono ?_
  rintro e wS ⟨rfl, hbS⟩
  have BS := Lib.hid hbS
  have ND := new_any (P + 1) wS (by omega) (by omega)
  rw [show ((P + 1 : Nat) : Int) = (P : Int) + 1 by omega] at ND
  have ND := Lib.hid ND
  clear SH hbS
  go_wp2_with fail
  refine ND.out.mono ?_
  rintro e w1 ⟨rfl, ht1, hs1, hd1⟩
  have D1 := Lib.hid (And.intro hd1 (And.intro hs1 ht1.below))
  have D1f := Lib.hid (devF_new hd1 hs1)
  clear ND ht1 hs1 hd1
  obtain ⟨b, hb⟩ : ∃ b, wS.heap.size + 2 = b := ⟨_, rfl⟩
  rw [hb] at D1f ⊢
  have HBB := Lib.hid hb
  clear hb a1 a2 hN hD hP r1 r2 s1 s2
  have FR := Lib.hid (fresh_any N w1 (by omega))
  go_wp2_with fail
  refine FR.out.mono ?_
  rintro e w2 ⟨⟨v2, g2, rfl, hv2, hg2⟩, hb2⟩
  have NW : Calls Try.prog 10 #[.pointer (some ⟨b, 0, none⟩), .int .i64 (P : Int), .agg (stI 1 1 0 0 0 v2)] w2 fun e w' =>
      ∃ A o, e = .returned (.tuple #[.pointer (some ⟨A.J, 0, none⟩), .int .i64 0]) ∧ A.b = b ∧ (∀ j, A.own j → w2.heap.size ≤ j) ∧ JAt w' A (s0 P 1 1 0 0 0 N (fun _ => none) o) ∧ Below w2.heap.size w2 w' := by
    have h := new_ok (P := P) (ep := 1) (st := 1) (sq := 0) (hd := 0) (us := 0) (D1f.out.below hb2) hv2 (by simp [DSt.new]) (by omega) (by omega) (by simp [DSt.new]; omega) (right_none (by omega) (by omega))
    rw [List.length_replicate, aL_none] at h
    exact h
  have NW := Lib.hid NW
  have B2 := Lib.hid hb2
  clear FR hv2 hg2 hb2
  go_wp2_with fail
  refine NW.out.mono ?_
  rintro e w3 ⟨A, o, rfl, hab, hlo, hj, hb3⟩
  subst hab
  have G0 := Lib.hid (goes_start BS.out HBB.out.symm D1.out.1 D1.out.2.1 D1.out.2.2 B2.out hb3 hlo hj (by omega) hPr (by omega)).gs
  have hmk : (Instr.makeSlice 33 (.int .i64 (N : Int)) (.int .i64 (N : Int))).run Try.prog w3 = .ok (.slice (some ⟨w3.heap.size, 0, none⟩) N N) (w3.alloc (.cells (Tb.rowT N (fun _ => some 0)).toArray 3)) := run_makeInts w3 N (by omega)
  clear NW hlo hj hb3 D1 D1f B2 BS
  go_wp2_with fail
  have G1 := Lib.hid (G0.out.grow (Z := fun j => j = w3.heap.size) ((Below.refl _ w3).alloc (Nat.le_refl _) (.cells (Tb.rowT N (fun _ => some 0)).toArray 3)) (fun j e => .inr ⟨by omega, by simp; omega⟩))
  have R1 := Lib.hid (heap_alloc_new w3 (.cells (Tb.rowT N (fun _ => some 0)).toArray 3))
  generalize hgH : w3.heap.size = gH at G1 R1 ⊢
  clear hgH G0 hmk
  generalize w3.alloc (.cells (Tb.rowT N (fun _ => some 0)).toArray 3) = w4 at G1 R1 ⊢
  go_loopw [14] (fun i wr2 => ∃ k2 : Nat, k2 ≤ N ∧ i = .int .i64 k2 ∧ Touch (fun j => j = gH) w4 wr2 ∧ wr2.heap[gH]? = some (.cells (Tb.rowT N (fun j => if j < k2 then none else some 0)).toArray 3 (0, 0))) (fun i _ => N - (intOf i).toNat)
  case atStart => exact ⟨0, Nat.zero_le _, rfl, Touch.refl _ _, by simpa using R1.out⟩
  case round =>
    obtain ⟨k2, hk2, rfl, ht, hrow⟩ := hrel
    by_cases hlt2 : k2 < N
    · have hk3 : (k2 : Int) < (N : Int) := by omega
      have cg := row_cell hrow hlt2
      have fg := frozen_of_row wr gH k2 _ _ hrow
      have HT := Lib.hid (And.intro ht hrow)
      clear ht hrow
      go_wp2
      obtain ⟨ht, hrow⟩ := HT.out
      refine ⟨⟨k2 + 1, by omega, by go_num, ht.setCell (a := ⟨gH, k2, none⟩) (.inl rfl) _, ?_⟩, by simp [intOf]; omega⟩
      rw [set_none hrow, rowT_same (g := fun j => if j < k2 + 1 then none else some 0)]
      intro j hj
      by_cases e : j = k2
      · subst e; rw [Tb.upd_same, if_pos (by omega)]
      · rw [Tb.upd_other _ _ e]
        by_cases e2 : j < k2
        · rw [if_pos e2, if_pos (by omega)]
        · rw [if_neg e2, if_neg (by omega)]
    · obtain rfl : N = k2 := by omega
      have G2 := Lib.hid (G1.out.touch ht (fun j hj => .inl hj))
      have R2 := Lib.hid (show wr.heap[gH]? = some (.cells (Tb.rowT N (fun _ => none)).toArray 3 (0, 0)) by rw [hrow, rowT_same (g := fun _ => none)]; intro j hj; rw [if_pos hj])
      clear ht hrow hk2 hlt2 G1 R1
      go_wp2_with fail
      go_loopw [15] (fun i wr3 => ∃ (k : Nat) (h : Nat → Option Nat) (s : JSt) (t : Jou.St) (ds : DSt) (dat : Nat → List UInt8), k ≤ min n0 200 ∧ i = .int .i64 k ∧ Gs w A (fun j => j = gH) s t ds dat k wr3 ∧ wr3.heap[gH]? = some (.cells (Tb.rowT N h).toArray 3 (0, 0)) ∧ HasD N h dat ∧ s.N = N) (fun i _ => min n0 200 - (intOf i).toNat)
      case atStart => exact ⟨0, _, _, _, _, _, Nat.zero_le _, rfl, G2.out, R2.out, HasD.start N, rfl⟩
      case round =>
        obtain ⟨k, h, s, t, ds, dat, hk, rfl, hG, hR, hH, hsN⟩ := hrel
        by_cases hlt : k < min n0 200
        · have hk1 : (k : Int) < (n0 : Int) := by omega
          have hk2 : (k : Int) < 200 := by omega
          obtain ⟨vids, ids, gi, d, m, hst0, hidl0⟩ := HS0.out k (by omega)
          have HST0 := Lib.hid hst0
          obtain ⟨b0, off, rfl, -⟩ := hst0.at_
          obtain ⟨ai, capi, rfl, hci, -⟩ := hst0.nv.form
          have hidl : (ids.length : Int) ≤ 17592186044416 := by omega
          have hmk : (Instr.makeSlice 38 (.int .i64 (N : Int)) (.int .i64 (N : Int))).run Try.prog wr = .ok (.slice (some ⟨wr.heap.size, 0, none⟩) N N) (wr.alloc (.cells (rowB N (fun _ => false)) 4)) := run_makeBools wr N (by omega)
          have HN := Lib.hid (And.intro hH hsN)
          have HG := Lib.hid hG
          have G3 := Lib.hid (hG.grow (Z := fun j => j = gH ∨ j = wr.heap.size) ((Below.refl _ wr).alloc (Nat.le_refl _) (.cells (rowB N (fun _ => false)) 4)) (fun j hj => hj.elim .inl (fun e => .inr ⟨by omega, by simp; omega⟩)))
          have R3 := Lib.hid (And.intro (((Below.refl _ wr).alloc (Nat.le_refl _) (.cells (rowB N (fun _ => false)) 4)).block _ (lt_of_heap hR) |>.trans hR) (heap_alloc_new wr (.cells (rowB N (fun _ => false)) 4)))
          have hgSH : wr.heap.size ≠ gH := fun e => by have := lt_of_heap hR; omega
          clear hG hR hH hsN hst0
          go_wp2_with fail
          generalize hgS : wr.heap.size = gS at G3 R3 hgSH ⊢
          clear hgS hmk
          generalize wr.alloc (.cells (rowB N (fun _ => false)) 4) = w5 at G3 R3 ⊢
          go_loopw [16, 18] (fun v i wr4 => ∃ (q : Nat) (E : List WE) (h' : Nat → Option Nat), q ≤ ids.length ∧ i = .int .i64 q ∧ E.length ≤ 24 ∧ OwnW w5.heap.size wr4 v E ∧ (∀ e ∈ E, 0 ≤ e.id ∧ e.id < N ∧ e.l.length = 480) ∧ (E.map (·.id)).Nodup ∧
            Touch (fun j => j = gH ∨ j = gS) w5 wr4 ∧ wr4.heap[gS]? = some (.cells (rowB N (fun j => decide ((j : Int) ∈ E.map (·.id)))) 4 (0, 0)) ∧ wr4.heap[gH]? = some (.cells (Tb.rowT N h').toArray 3 (0, 0)) ∧ HasD N h' (datB E dat)) (fun _ i _ => ids.length - (intOf i).toNat)
          case atStart => exact ⟨0, [], h, Nat.zero_le _, rfl, Nat.zero_le _, ⟨World.ownsRow_nil _ _ _ _, by simp⟩, by simp, by simp, Touch.refl _ _, by simpa using R3.out.2, R3.out.1, by rw [datB_nil]; exact HN.out.1⟩
          case round =>
            obtain ⟨q, E, h', hq, rfl, hE24, how, hfine, hnd, ht4, hS4, hR4, hH4⟩ := hrel
            have hG4 := G3.out.touch ht4 (fun j hj => .inl hj)
            obtain ⟨b0', off', e0, q0, q1, -⟩ := (HST0.out.below hG4.below).at_
            cases e0
            obtain ⟨av, capv, rfl, hcv, -⟩ := how.wl.form
            have H4 := Lib.hid (And.intro how (And.intro hfine (And.intro hnd (And.intro ht4 (And.intro hS4 (And.intro hR4 (And.intro hH4 hG4)))))))
            obtain ⟨len, hlen⟩ : ∃ len, E.length = len := ⟨_, rfl⟩
            rw [hlen] at hE24 hcv ⊢
            have HL := Lib.hid hlen
            by_cases hgo : q < ids.length ∧ len < 24
            · obtain ⟨hltq, hl24⟩ := hgo
              have hq1 : (q : Int) < (ids.length : Int) := by omega
              have hl24' : (len : Int) < 24 := by omega
              have hnvq := HST0.out.nv.below hG4.below
              obtain ⟨offi, e1, ck⟩ := hnvq.cell_at hltq
              subst e1
              generalize hidq : ids[q] = iq at ck
              have hand := and_65535 iq
              obtain ⟨id, hid, hidN⟩ : ∃ id : Nat, iq % 65536 % (N : Int) = (id : Int) ∧ id < N := ⟨(iq % 65536 % (N : Int)).toNat, by
                have := Int.emod_nonneg (iq % 65536) (show (N : Int) ≠ 0 by omega)
                omega, by
                have h1 := Int.emod_nonneg (iq % 65536) (show (N : Int) ≠ 0 by omega)
                have h2 := Int.emod_lt_of_pos (iq % 65536) (show (0 : Int) < (N : Int) by omega)
                omega⟩
              have hr1 : 0 ≤ iq % 65536 := by omega
              have hr2 : iq % 65536 < 65536 := by omega
              generalize iq % 65536 = iq' at hand hid hr1 hr2
              have hid1 : (id : Int) < (N : Int) := by omega
              have cS := rowB_cell hS4 hidN
              have fS := frozen_of_row wr gS id _ _ hS4
              have cH := row_cell hR4 hidN
              have fH := frozen_of_row wr gH id _ _ hR4
              have hb0S : b0 ≠ gS := fun e => by
                obtain ⟨b0'', off'', e1, q0', -⟩ := HST0.out.at_
                cases e1
                have h1 : b0 < w.heap.size := World.block_lt_of_cell? _ _ q0'
                have h2 := (G3.out.ylt gS (.inr rfl)).1
                omega
              clear hnvq hidq hG4 how hfine hnd ht4 hS4 hR4 hH4 hlen
              by_cases hin : (id : Int) ∈ E.map (·.id)
              · rw [decide_eq_true hin] at cS
                clear hin
                go_wp2_with fail
                obtain ⟨how, hfine, hnd, ht4, hS4, hR4, hH4, hG4⟩ := H4.out
                exact ⟨⟨q + 1, E, h', by omega, by go_num, by rw [HL.out]; omega, by rw [HL.out] at how; exact how, hfine, hnd, ht4, hS4, hR4, hH4⟩, by simp [intOf]; omega⟩
              · rw [decide_eq_false hin] at cS
                have HIN := Lib.hid hin
                have hand2 := and_255 d
                obtain ⟨x, hx⟩ : ∃ x : Nat, d % 256 + (q : Int) = (x : Int) := ⟨(d % 256 + q).toNat, by have := Int.emod_nonneg d (show (256 : Int) ≠ 0 by decide); omega⟩
                have hdm : 0 ≤ d % 256 ∧ d % 256 < 256 := by omega
                obtain ⟨hdm1, hdm2⟩ := hdm
                clear hin
                generalize d % 256 = d' at hand2 hx hdm1 hdm2
                obtain ⟨how, hfine, hnd, ht4, hS4, hR4, hH4, hG4⟩ := H4.out
                have t6 : Touch (fun j => j = gS) wr (wr.setCell ⟨gS, id, none⟩ (.bool true)) := (Touch.refl (fun j => j = gS) wr).setCell (a := ⟨gS, id, none⟩) (.inl rfl) _
                have S6 := rowB_set (i := id) (b := true) hS4
                have hgS5 : gS < w5.heap.size := lt_of_heap R3.out.2
                have hgH5 : gH < w5.heap.size := lt_of_heap R3.out.1
                have how6 := how.touch t6 (fun j hj e => by have := (how.own.lt j hj).1; omega) (fun e he hl hg => by have := ((how.data e he).2 hl).1; omega)
                have R6 := t6.at hR4 (fun e => hgSH e.symm)
                have sz6 : w5.heap.size ≤ (wr.setCell ⟨gS, id, none⟩ (.bool true)).heap.size := Nat.le_trans ht4.size t6.size
                rw [HL.out] at how6
                have H6 := Lib.hid (And.intro t6 (And.intro S6 (And.intro how6 (And.intro R6 sz6))))
                have hnS : ¬ gH = gS := fun e => hgSH e.symm
                clear how hfine hnd ht4 hS4 hR4 hH4 hG4 t6 S6 how6 R6 sz6
                go_wp2_with fail
                obtain ⟨w6, hw6⟩ : ∃ w6, wr.setCell ⟨gS, id, none⟩ (.bool true) = w6 := ⟨_, rfl⟩
                rw [hw6] at H6 ⊢
                clear hw6
                refine (block_any x w6).mono ?_
                rintro e wE ⟨rfl, hrE, hbE⟩
                obtain ⟨gE, hgE⟩ : ∃ gE, w6.heap.size = gE := ⟨_, rfl⟩
                rw [hgE] at hrE ⊢
                obtain ⟨t6, S6, how6, R6, sz6⟩ := H6.out
                have how7 := (how6.touch (Touch.of_below (F := Emp) hbE) (fun _ _ h => h) (fun _ _ _ h => h)).touch ((Touch.refl Emp wE).alloc (.cells #[.int .i64 (id : Int), .slice (some ⟨gE, 0, none⟩) 480 480] 44)) (fun _ _ h => h) (fun _ _ _ h => h)
                have hrE2 := (Below.heap_alloc wE (.cells #[.int .i64 (id : Int), .slice (some ⟨gE, 0, none⟩) 480 480] 44) _ (lt_of_heap hrE)).trans hrE
                have he : BV (wE.alloc (.cells #[.int .i64 (id : Int), .slice (some ⟨gE, 0, none⟩) 480 480] 44)) (.slice (some ⟨gE, 0, none⟩) 480 480) (blk x) gE ∧ (blk x ≠ [] → w5.heap.size ≤ gE ∧ ∃ c f, (wE.alloc (.cells #[.int .i64 (id : Int), .slice (some ⟨gE, 0, none⟩) 480 480] 44)).heap[gE]? = some (.cells c 5 f)) :=
                  ⟨(blk_bv hrE).alloc _, fun _ => ⟨by omega, _, _, hrE2⟩⟩
                have hnew : ∀ j u, ([.int .i64 (id : Int), .slice (some ⟨gE, 0, none⟩) 480 480] : List Value)[j]? = some u → (wE.alloc (.cells #[.int .i64 (id : Int), .slice (some ⟨gE, 0, none⟩) 480 480] 44)).cell? ((⟨wE.heap.size, 0, none⟩ : Addr).add j) = some u := fun j u hj => by
                  rw [add_lit, cell_of_row _ _ j _ _ _ (heap_alloc_new wE _)]
                  simpa using hj
                have HNW := Lib.hid hnew
                have HOW := Lib.hid how7
                have HE := Lib.hid (And.intro he (And.intro hbE hgE))
                have hszE : w5.heap.size ≤ (wE.alloc (.cells #[.int .i64 (id : Int), .slice (some ⟨gE, 0, none⟩) 480 480] 44)).heap.size := by have := hbE.size; simp; omega
                have HSZ := Lib.hid hszE
                obtain ⟨i0, hi0, hz0, hz1, hz2⟩ := info_parts Try.infoW
                clear how7 hrE hrE2 he hbE hgE hnew t6 S6 how6 R6 sz6 hszE cS fS cH fH q0 q1
                go_wp2_with (at_builtin; refine wpList_append_own _ rfl _ _ 37 rfl w5.heap.size 44 i0 (.agg #[.int .i64 0, .slice none 0 0]) 2 32 Try.underlying37 hi0 hz0 hz1 hz2 rfl (by decide) _ _ _ rfl (by have := HOW.out.own; rw [HL.out] at this; exact this) ⟨wE.heap.size, 0, none⟩ 1 1 [.int .i64 (id : Int), .slice (some ⟨gE, 0, none⟩) 480 480] rfl (by simp) HNW.out (by simp [Value.oneCell']) (by simp only [maxLen]; omega) (by omega) HSZ.out ?_; intro v2 w7 hown' hgrow _; obtain ⟨g4, cap4, rfl⟩ := own_succ hown'; obtain ⟨o7, t7, k7⟩ := app_w (e := ⟨(id : Int), .slice (some ⟨gE, 0, none⟩) 480 480, blk x, gE⟩) HOW.out HE.out.1 (by rw [HL.out]; exact hown') hgrow; have hlo7 : ∀ j, (Value.slice av len capv).ownBlock = some j → w5.heap.size ≤ j := fun j hj => (HOW.out.own.lt j hj).1; have tt : Touch (fun j => j = gS ∨ w5.heap.size ≤ j) wr w7 := ((((H6.out.1.mono (G := fun j => j = gS ∨ w5.heap.size ≤ j) fun _ _ h => .inl h).trans (Touch.of_below (F := Emp) HE.out.2.1) (fun _ h _ => h.elim)).alloc _).trans t7 (fun j hj _ => .inr (hlo7 j hj))); have S7 : w7.heap[gS]? = some (.cells (rowB N (fun j => if j = id then true else decide ((j : Int) ∈ E.map (·.id)))) 4 (0, 0)) := t7.at ((Below.heap_alloc wE _ _ (Nat.lt_of_lt_of_le (lt_of_heap H6.out.2.1) HE.out.2.1.size)).trans ((HE.out.2.1.block _ (lt_of_heap H6.out.2.1)).trans H6.out.2.1)) (fun e => by have := hlo7 gS e; omega); have R7 := tt.at H4.out.2.2.2.2.2.1 (fun e => e.elim hnS (fun h => by omega)); have B7 : Below w.heap.size w w7 := H4.out.2.2.2.2.2.2.2.below.trans (tt.to_below (fun j _ hj => by have h1 := H4.out.2.2.2.2.2.2.2.ylt gS (.inr rfl); have h2 := G3.out.below.size; rcases hj with e | e <;> omega) H4.out.2.2.2.2.2.2.2.below.size); have cH7 := row_cell R7 hidN; have fH7 := frozen_of_row w7 gH id _ _ R7; obtain ⟨b1, off1, e1, -, q7, -⟩ := (HST0.out.below B7).at_; cases e1; have H7 := Lib.hid (And.intro o7 (And.intro tt (And.intro S7 (And.intro R7 B7)))); clear o7 t7 k7 hlo7 tt S7 R7 B7 hown' hgrow)
                obtain ⟨how, hfine, hnd, ht4, hS4, hR4, hH4, hG4⟩ := H4.out
                obtain ⟨o7, tt, S7, R7, B7⟩ := H7.out
                have ts : Touch (fun j => j = gH) w7 (w7.setCell ⟨gH, id, none⟩ (.int .i64 (x : Int))) := (Touch.refl (fun j => j = gH) w7).setCell (a := ⟨gH, id, none⟩) (.inl rfl) _
                have hidE : (⟨(id : Int), .slice (some ⟨gE, 0, none⟩) 480 480, blk x, gE⟩ : WE).id.toNat ∉ idsN E := fun hm => by
                  obtain ⟨e, he, hee⟩ := List.mem_map.1 hm
                  refine HIN.out (List.mem_map.2 ⟨e, he, ?_⟩)
                  have h1 := (hfine e he).1
                  simp only [Int.toNat_natCast] at hee
                  omega
                refine ⟨⟨q + 1, E ++ [⟨(id : Int), .slice (some ⟨gE, 0, none⟩) 480 480, blk x, gE⟩], Tb.upd h' id (some x), by omega, by go_num, by rw [List.length_append, HL.out]; simp; omega, ?_, ?_, ?_, ?_, ?_, set_row R7, ?_⟩, by simp [intOf]; omega⟩
                · refine o7.touch ts (fun j hj e => ?_) (fun e he hl hg => ?_)
                  · have := (o7.own.lt j hj).1; omega
                  · have := ((o7.data e he).2 hl).1; omega
                · intro e he
                  rcases List.mem_append.1 he with he | he
                  · exact hfine e he
                  · rw [List.mem_singleton.1 he]
                    exact ⟨by show (0 : Int) ≤ (id : Int); omega, hid1, blk_len x⟩
                · rw [List.map_append, List.nodup_append]
                  refine ⟨hnd, by simp, fun a ha b hb e' => ?_⟩
                  obtain rfl : b = (id : Int) := by simpa using hb
                  exact HIN.out (by rw [← e']; exact ha)
                · exact (ht4.trans tt (fun j hj hlt => hj.elim .inr (fun h => by omega))).trans ts (fun j hj _ => .inl hj)
                · have := ts.at S7 hgSH
                  rw [this]
                  congr 3
                  funext j
                  by_cases e : j = id
                  · subst e; simp
                  · have e2 : ¬ (j : Int) = (id : Int) := by omega
                    simp [e, e2]
                · have := hH4.snoc (e := ⟨(id : Int), .slice (some ⟨gE, 0, none⟩) 480 480, blk x, gE⟩) (x := x) hidE rfl
                  simpa using this
            · have hex : (q : Int) < (ids.length : Int) ∧ decide ((len : Int) < 24) = false ∧ 24 ≤ len ∨ q = ids.length ∧ decide ((len : Int) < 24) = decide ((len : Int) < 24) ∧ 0 ≤ len := by
                by_cases h1 : q < ids.length
                · exact .inl ⟨by omega, decide_eq_false (by omega), by omega⟩
                · exact .inr ⟨by omega, rfl, Nat.zero_le _⟩
              clear hgo
              rcases hex with ⟨hq1, hd24, hlo24⟩ | ⟨rfl, hd24, hlo24⟩
              all_goals
                obtain ⟨how, hfine, hnd, ht4, hS4, hR4, hH4, hG4⟩ := H4.out
                by_cases hl0 : len = 0
                · first
                    | (exfalso; omega)
                    | (
                        obtain rfl : E = [] := List.eq_nil_of_length_eq_zero (by rw [HL.out]; exact hl0)
                        have hl0' : (len : Int) = 0 := by omega
                        have G9 := Lib.hid ((hG4.sub (Z := fun j => j = gH) (fun j hj => .inl hj)).more (c' := k + 1) (by omega))
                        have R9 := Lib.hid (And.intro hR4 hH4)
                        subst hl0
                        clear how hfine hnd ht4 hS4 hR4 hH4 hG4 hl0' q1
                        go_wp2_with fail
                        exact ⟨⟨k + 1, h', s, t, ds, dat, by omega, by go_num, G9.out, R9.out.1, by have := R9.out.2; rwa [datB_nil] at this, HN.out.2⟩, by simp [intOf]; omega⟩)
                · have hl1 : ((len : Int) == 0) = false := by simp; omega
                  have hl2 : ¬ (len : Int) = 0 := by omega
                  have G5 := G3.out.grow2 (Z := fun j => j = gH ∨ (w5.heap.size ≤ j ∧ j < wr.heap.size)) ht4 (fun j hj => hj) (fun j hj => hj.elim (fun e => .inl (.inl e)) .inr)
                  obtain ⟨F5, hd5⟩ := G5.dev
                  have CT := Lib.hid (counts_any hd5)
                  have G5 := Lib.hid G5
                  have hmay : MayE s.N E := ⟨by rw [HL.out]; omega, by rw [HL.out]; exact hE24, by rw [HN.out.2]; exact hfine, hnd⟩
                  have HT45 := Lib.hid ht4.size
                  have H5 := Lib.hid (And.intro how.wl (And.intro hmay (And.intro hR4 hH4)))
                  clear how hfine hnd ht4 hS4 hR4 hH4 hG4 hd5 hmay q1
                  go_wp2_with fail
                  refine CT.out.mono ?_
                  rintro e wC ⟨rfl, tC⟩
                  have bC : Below wr.heap.size wr (wC.alloc (.cells #[.int .i64 (ds.reads : Int), .int .i64 (ds.writes : Int), .int .i64 (ds.flushes : Int)] 46)) := tC.below.alloc tC.size _
                  have G8 := Lib.hid (G5.out.grow (Z := fun j => j = gH ∨ (w5.heap.size ≤ j ∧ j < (wC.alloc (.cells #[.int .i64 (ds.reads : Int), .int .i64 (ds.writes : Int), .int .i64 (ds.flushes : Int)] 46)).heap.size)) bC (fun j hj => hj.elim (fun e => .inl (.inl e)) (fun h => by
                    by_cases h2 : j < wr.heap.size
                    · exact .inl (.inr ⟨h.1, h2⟩)
                    · exact .inr ⟨by omega, h.2⟩)))
                  have hwl := H5.out.1.below bC
                  have hpw := heap_alloc_new wC (.cells #[.int .i64 (ds.reads : Int), .int .i64 (ds.writes : Int), .int .i64 (ds.flushes : Int)] 46)
                  have hsz : wr.heap.size ≤ (wC.alloc (.cells #[.int .i64 (ds.reads : Int), .int .i64 (ds.writes : Int), .int .i64 (ds.flushes : Int)] 46)).heap.size := bC.size
                  have hlw : wC.heap.size < (wC.alloc (.cells #[.int .i64 (ds.reads : Int), .int .i64 (ds.writes : Int), .int .i64 (ds.flushes : Int)] 46)).heap.size := by simp
                  have hlw5 : w5.heap.size ≤ wC.heap.size := by
                    have h1 := tC.size
                    have h2 := HT45.out
                    omega
                  have R8 := (bC.block _ (lt_of_heap H5.out.2.2.1)).trans H5.out.2.2.1
                  have CM := G8.out.commit (by omega) hwl (fun j hj => .inr ⟨hj.1, by omega⟩) H5.out.2.1
                  rw [HL.out] at CM
                  have CM := Lib.hid CM
                  have H8 := Lib.hid (And.intro hpw (And.intro R8 (And.intro hlw hlw5)))
                  clear CT bC hwl hpw hsz hlw hlw5 R8 tC
                  go_wp2_with fail
                  generalize hpC : wC.heap.size = pC at H8 ⊢
                  clear hpC
                  generalize wC.alloc (.cells #[.int .i64 (ds.reads : Int), .int .i64 (ds.writes : Int), .int .i64 (ds.flushes : Int)] 46) = w8 at G8 H8 CM ⊢
                  refine CM.out.mono ?_
                  rintro e wD ⟨rfl, tD, s', t', ds', hG', hN', -, -, -, -, m1, m2, m3, m4, m5, -⟩
                  have pD := tD.at H8.out.1 (fun hg => hg.2 (.inr ⟨H8.out.2.2.2, H8.out.2.2.1⟩))
                  have rD := tD.at H8.out.2.1 (fun hg => hg.2 (.inl rfl))
                  have GD := Lib.hid (hG'.sub (Z := fun j => j = gH) (fun j hj => .inl hj))
                  obtain ⟨FD, hdD⟩ := GD.out.dev
                  have CT := Lib.hid (counts_any hdD)
                  have HM := Lib.hid (And.intro m1 (And.intro m2 (And.intro m3 (And.intro m4 m5))))
                  have HD := Lib.hid (And.intro pD (And.intro rD hN'))
                  clear CM tD hG' hN' m1 m2 m3 m4 m5 pD rD hdD
                  go_wp2_with fail
                  refine CT.out.mono ?_
                  rintro e wE ⟨rfl, tE⟩
                  have bE : Below wD.heap.size wD (wE.alloc (.cells #[.int .i64 (ds'.reads : Int), .int .i64 (ds'.writes : Int), .int .i64 (ds'.flushes : Int)] 46)) := tE.below.alloc tE.size _
                  have G9 := Lib.hid (GD.out.low bE)
                  have p9 := (bE.block _ (lt_of_heap HD.out.1)).trans HD.out.1
                  have R9 := (bE.block _ (lt_of_heap HD.out.2.1)).trans HD.out.2.1
                  have n9 := heap_alloc_new wE (.cells #[.int .i64 (ds'.reads : Int), .int .i64 (ds'.writes : Int), .int .i64 (ds'.flushes : Int)] 46)
                  generalize hpE : wE.heap.size = pE at n9
                  have u0 := cell_of_row _ pC 0 _ _ _ p9
                  have u1 := cell_of_row _ pC 1 _ _ _ p9
                  have u2 := cell_of_row _ pC 2 _ _ _ p9
                  have y0 := cell_of_row _ pE 0 _ _ _ n9
                  have y1 := cell_of_row _ pE 1 _ _ _ n9
                  have y2 := cell_of_row _ pE 2 _ _ _ n9
                  simp only [List.getElem?_toArray, List.getElem?_cons_succ, List.getElem?_cons_zero] at u0 u1 u2 y0 y1 y2
                  have R9 := Lib.hid R9
                  obtain ⟨m1, m2, m3, m4, m5⟩ := HM.out
                  have hfl : ((ds'.flushes : Int) != (ds.flushes : Int) + 1) = false := by
                    rw [m5]
                    simp
                  have b1 : (ds'.reads : Int) ≤ 1000000 := by have := G9.out.reads; omega
                  have b2 : (ds.reads : Int) ≤ 1000000 := by omega
                  have b3 : (ds'.writes : Int) ≤ 1000000 := by have := G9.out.writes; omega
                  have b4 : (ds.writes : Int) ≤ 1000000 := by omega
                  have b5 : (ds.flushes : Int) ≤ 1000000 := by have := G5.out.flushes; omega
                  have b6 : (0 : Int) ≤ (ds'.reads : Int) - (ds.reads : Int) := by omega
                  have b7 : (0 : Int) ≤ (ds'.writes : Int) - (ds.writes : Int) := by omega
                  have d1 : decide ((ds'.reads : Int) - (ds.reads : Int) > 2 * (len : Int)) = false := decide_eq_false (by omega)
                  have d2 : decide ((ds'.writes : Int) - (ds.writes : Int) > 3 * (len : Int)) = false := decide_eq_false (by omega)
                  have d3 : decide (2 * (len : Int) < (ds'.reads : Int) - (ds.reads : Int)) = false := decide_eq_false (by omega)
                  have d4 : decide (3 * (len : Int) < (ds'.writes : Int) - (ds.writes : Int)) = false := decide_eq_false (by omega)
                  clear CT bE tE p9 n9 m1 m2 m3 m4 m5
                  go_wp2_with fail
                  clear hpE
                  exact ⟨⟨k + 1, h', s', t', ds', _, by omega, by go_num, G9.out, R9.out, H5.out.2.2.2, HD.out.2.2.trans HN.out.2⟩, by simp [intOf]; omega⟩
        · have hkk : n0 ≤ 200 ∧ k = n0 ∧ (n0 : Int) ≤ 200 ∨ 200 < n0 ∧ k = 200 ∧ (200 : Int) < (n0 : Int) := by omega
          have G3 := Lib.hid (hG.more (c' := 200) (by omega))
          have R3 := Lib.hid (And.intro hR (And.intro hH hsN))
          clear hG hR hH hsN hk hlt
          rcases hkk with ⟨h1, rfl, h2⟩ | ⟨h1, rfl, h2⟩
          all_goals
            try rw [show ((200 : Nat) : Int) = 200 from rfl]
            go_wp2_with fail
            go_loopw [23] (fun i wr7 => ∃ (k7 : Nat) (ds7 : DSt), k7 ≤ N ∧ i = .int .i64 k7 ∧ Gs w A (fun j => j = gH) s t ds7 dat (200 + k7) wr7 ∧ wr7.heap[gH]? = some (.cells (Tb.rowT N h).toArray 3 (0, 0))) (fun i _ => N - (intOf i).toNat)
            case atStart => exact ⟨0, ds, Nat.zero_le _, rfl, G3.out, R3.out.1⟩
            case round =>
              obtain ⟨k7, ds7, hk7, rfl, hG7, hR7⟩ := hrel
              by_cases hlt7 : k7 < N
              · have hk8 : k7 < N := hlt7
                have hk9 : (k7 : Int) < (N : Int) := by omega
                have RD := Lib.hid (hG7.read (by omega) (id := k7) (by rw [R3.out.2.2]; exact hk8))
                have H8 := Lib.hid (And.intro hG7 hR7)
                clear hG7 hR7 hk7
                go_wp2_with fail
                refine RD.out.mono ?_
                rintro e wA ⟨⟨vA, rfl, gA, capA, rfl, hcapA, hbA, hoA⟩, tA, ds9, F', hj', hF', hG9, -⟩
                have hdl := R3.out.2.1.len hk8
                have hbv := hoA.bv _ capA rfl hcapA
                rw [hdl]
                have hrA := tA.at H8.out.2 (fun hg => hg.2 rfl)
                have GA := Lib.hid hG9
                have HA := Lib.hid (And.intro hrA (And.intro hbv True.intro))
                have hhd := R3.out.2.1 k7 hk8
                clear RD tA hj' hF' hG9 hbv hrA hoA hcapA hbA
                cases hx : h k7 with
                | none =>
                  have hdx := hhd
                  rw [hx] at hdx
                  simp only at hdx
                  clear hhd
                  go_wp2_with fail
                  have kh : ∀ W : World, Below wA.heap.size wA W → W.cell? ⟨gH, k7, none⟩ = some (.int .i64 (-1)) := fun W hW => by
                    have h1 := row_cell ((hW.block _ (lt_of_heap HA.out.1)).trans HA.out.1) hk8
                    rw [hx] at h1
                    exact h1
                  have kv : ∀ W : World, Below wA.heap.size wA W → (convert 41 9 (.slice (some ⟨gA, 0, none⟩) 480 capA)).run Try.prog W = .ok (.string ⟨(zerosL 480).toArray⟩) W := fun W hW => by
                    have h1 := run_convBytes (HA.out.2.1.below hW).reads
                    rw [hdx] at h1
                    rwa [zerosL_length] at h1
                  refine wp_region_held_drew (S := fun W => Below wA.heap.size wA W) (by kernel_rfl) ((Below.refl _ wA).drew) (fun hHeld => ?_)
                  refine wpAnyH_take (i := 0) (oi := { dst := some 200, op := Go.Op.move (Go.Operand.tmp 25), type := 25, pos := "law.go:197", after := #[], guard := none }) (v := ?_) rfl (by kernel_rfl) (by kernel_rfl) (by kernel_rfl) (fun _ _ _ h => h) (Or.inl ⟨by rfl, ?_⟩) (by assumption) ?_
                  rotate_left
                  · intro W hSW
                    go_simp
                    try with_reducible rfl
                  try simp only [Act.put, List.setIfInBounds_toArray, List.set_cons_zero, List.set_cons_succ]
                  refine wpAnyH_take (i := 1) (oi := { dst := some 201, op := Go.Op.binOp Go.BinOp.neq 25 (Go.Operand.tmp 200) (Go.Operand.const (Go.Value.int Go.IntKind.i64 0)) 25, type := 4, pos := "law.go:197", after := #[{ on := 0, ground := Go.Ground.data }], guard := none }) (v := ?_) rfl (by kernel_rfl) (by kernel_rfl) (by kernel_rfl) (fun _ _ _ h => h) (Or.inl ⟨by rfl, ?_⟩) (by assumption) ?_
                  rotate_left
                  · intro W hSW
                    go_simp
                    try with_reducible rfl
                  try simp only [Act.put, List.setIfInBounds_toArray, List.set_cons_zero, List.set_cons_succ]
                  refine wpAnyH_take (i := 2) (oi := { dst := some 202, op := Go.Op.move (Go.Operand.tmp 201), type := 4, pos := "law.go:197", after := #[{ on := 1, ground := Go.Ground.data }], guard := none }) (v := ?_) rfl (by kernel_rfl) (by kernel_rfl) (by kernel_rfl) (fun _ _ _ h => h) (Or.inl ⟨by rfl, ?_⟩) (by assumption) ?_
                  rotate_left
                  · intro W hSW
                    go_simp
                    try with_reducible rfl
                  try simp only [Act.put, List.setIfInBounds_toArray, List.set_cons_zero, List.set_cons_succ]
                  refine wpAnyH_take (i := 3) (oi := { dst := some 203, op := Go.Op.move (Go.Operand.tmp 24), type := 41, pos := "law.go:197", after := #[{ on := 2, ground := Go.Ground.guard }], guard := some (2, false) }) (v := ?_) rfl (by kernel_rfl) (by kernel_rfl) (by kernel_rfl) (fun _ _ _ h => h) (Or.inl ⟨by rfl, ?_⟩) (by assumption) ?_
                  rotate_left
                  · intro W hSW
                    go_simp
                    try with_reducible rfl
                  try simp only [Act.put, List.setIfInBounds_toArray, List.set_cons_zero, List.set_cons_succ]
                  refine wpAnyH_take (i := 4) (oi := { dst := some 204, op := Go.Op.call { callee := Go.Callee.builtin Go.Builtin.len, args := #[Go.Operand.tmp 203], argTypes := #[41] }, type := 3, pos := "law.go:197", after := #[{ on := 3, ground := Go.Ground.data }, { on := 2, ground := Go.Ground.guard }], guard := some (2, false) }) (v := ?_) rfl (by kernel_rfl) (by kernel_rfl) (by kernel_rfl) (fun _ _ _ h => h) (Or.inl ⟨by rfl, ?_⟩) (by assumption) ?_
                  rotate_left
                  · intro W hSW
                    go_simp
                    try with_reducible rfl
                  try simp only [Act.put, List.setIfInBounds_toArray, List.set_cons_zero, List.set_cons_succ]
                  refine wpAnyH_take (i := 5) (oi := { dst := some 205, op := Go.Op.binOp Go.BinOp.neq 3 (Go.Operand.tmp 204) (Go.Operand.const (Go.Value.int Go.IntKind.i64 480)) 3, type := 4, pos := "law.go:197", after := #[{ on := 4, ground := Go.Ground.data }, { on := 2, ground := Go.Ground.guard }], guard := some (2, false) }) (v := ?_) rfl (by kernel_rfl) (by kernel_rfl) (by kernel_rfl) (fun _ _ _ h => h) (Or.inl ⟨by rfl, ?_⟩) (by assumption) ?_
                  rotate_left
                  · intro W hSW
                    go_simp
                    try with_reducible rfl
                  try simp only [Act.put, List.setIfInBounds_toArray, List.set_cons_zero, List.set_cons_succ]
                  refine wpAnyH_take (i := 6) (oi := { dst := some 206, op := Go.Op.pick (Go.Operand.tmp 202) (Go.Operand.const (Go.Value.bool true)) (Go.Operand.tmp 205), type := 4, pos := "law.go:197", after := #[{ on := 2, ground := Go.Ground.data }, { on := 5, ground := Go.Ground.data }], guard := none }) (v := ?_) rfl (by kernel_rfl) (by kernel_rfl) (by kernel_rfl) (fun _ _ _ h => h) (Or.inl ⟨by rfl, ?_⟩) (by assumption) ?_
                  rotate_left
                  · intro W hSW
                    go_simp
                    try with_reducible rfl
                  try simp only [Act.put, List.setIfInBounds_toArray, List.set_cons_zero, List.set_cons_succ]
                  refine wpAnyH_take (i := 7) (oi := { dst := some 207, op := Go.Op.move (Go.Operand.tmp 206), type := 4, pos := "law.go:197", after := #[{ on := 6, ground := Go.Ground.data }, { on := 2, ground := Go.Ground.chain }], guard := none }) (v := ?_) rfl (by kernel_rfl) (by kernel_rfl) (by kernel_rfl) (fun _ _ _ h => h) (Or.inl ⟨by rfl, ?_⟩) (by assumption) ?_
                  rotate_left
                  · intro W hSW
                    go_simp
                    try with_reducible rfl
                  try simp only [Act.put, List.setIfInBounds_toArray, List.set_cons_zero, List.set_cons_succ]
                  refine wpAnyH_take (i := 8) (oi := { dst := some 208, op := Go.Op.move (Go.Operand.tmp 13), type := 33, pos := "law.go:197", after := #[{ on := 7, ground := Go.Ground.guard }], guard := some (7, false) }) (v := ?_) rfl (by kernel_rfl) (by kernel_rfl) (by kernel_rfl) (fun _ _ _ h => h) (Or.inl ⟨by rfl, ?_⟩) (by assumption) ?_
                  rotate_left
                  · intro W hSW
                    go_simp
                    try with_reducible rfl
                  try simp only [Act.put, List.setIfInBounds_toArray, List.set_cons_zero, List.set_cons_succ]
                  refine wpAnyH_take (i := 9) (oi := { dst := some 209, op := Go.Op.move (Go.Operand.tmp 23), type := 3, pos := "law.go:197", after := #[{ on := 7, ground := Go.Ground.guard }], guard := some (7, false) }) (v := ?_) rfl (by kernel_rfl) (by kernel_rfl) (by kernel_rfl) (fun _ _ _ h => h) (Or.inl ⟨by rfl, ?_⟩) (by assumption) ?_
                  rotate_left
                  · intro W hSW
                    go_simp
                    try with_reducible rfl
                  try simp only [Act.put, List.setIfInBounds_toArray, List.set_cons_zero, List.set_cons_succ]
                  refine wpAnyH_take (i := 10) (oi := { dst := some 210, op := Go.Op.indexAddr 33 (Go.Operand.tmp 208) (Go.Operand.tmp 209), type := 0, pos := "law.go:197", after := #[{ on := 8, ground := Go.Ground.data }, { on := 9, ground := Go.Ground.data }, { on := 7, ground := Go.Ground.guard }], guard := some (7, false) }) (v := ?_) rfl (by kernel_rfl) (by kernel_rfl) (by kernel_rfl) (fun _ _ _ h => h) (Or.inl ⟨by rfl, ?_⟩) (by assumption) ?_
                  rotate_left
                  · intro W hSW
                    go_simp
                    try with_reducible rfl
                  try simp only [Act.put, List.setIfInBounds_toArray, List.set_cons_zero, List.set_cons_succ]
                  refine wpAnyH_take (i := 11) (oi := { dst := some 211, op := Go.Op.load 3 (Go.Operand.tmp 210), type := 3, pos := "law.go:197", after := #[{ on := 10, ground := Go.Ground.data }, { on := 7, ground := Go.Ground.guard }], guard := some (7, false) }) (v := ?_) rfl (by kernel_rfl) (by kernel_rfl) (by kernel_rfl) (fun _ _ _ h => h) (Or.inl ⟨by rfl, ?_⟩) (by assumption) ?_
                  rotate_left
                  · intro W hSW
                    have e0 := kh W hSW
                    go_simp
                    try with_reducible rfl
                  try simp only [Act.put, List.setIfInBounds_toArray, List.set_cons_zero, List.set_cons_succ]
                  refine wpAnyH_take (i := 12) (oi := { dst := some 212, op := Go.Op.binOp Go.BinOp.geq 3 (Go.Operand.tmp 211) (Go.Operand.const (Go.Value.int Go.IntKind.i64 0)) 3, type := 4, pos := "law.go:197", after := #[{ on := 11, ground := Go.Ground.data }, { on := 7, ground := Go.Ground.guard }], guard := some (7, false) }) (v := ?_) rfl (by kernel_rfl) (by kernel_rfl) (by kernel_rfl) (fun _ _ _ h => h) (Or.inl ⟨by rfl, ?_⟩) (by assumption) ?_
                  rotate_left
                  · intro W hSW
                    go_simp
                    try with_reducible rfl
                  try simp only [Act.put, List.setIfInBounds_toArray, List.set_cons_zero, List.set_cons_succ]
                  refine wpAnyH_take (i := 13) (oi := { dst := some 213, op := Go.Op.move (Go.Operand.tmp 212), type := 4, pos := "law.go:197", after := #[{ on := 12, ground := Go.Ground.data }, { on := 7, ground := Go.Ground.chain }, { on := 7, ground := Go.Ground.guard }], guard := some (7, false) }) (v := ?_) rfl (by kernel_rfl) (by kernel_rfl) (by kernel_rfl) (fun _ _ _ h => h) (Or.inl ⟨by rfl, ?_⟩) (by assumption) ?_
                  rotate_left
                  · intro W hSW
                    go_simp
                    try with_reducible rfl
                  try simp only [Act.put, List.setIfInBounds_toArray, List.set_cons_zero, List.set_cons_succ]
                  refine wpAnyH_take (i := 14) (oi := { dst := some 214, op := Go.Op.move (Go.Operand.tmp 24), type := 41, pos := "law.go:197", after := #[{ on := 13, ground := Go.Ground.guard }], guard := some (13, true) }) (v := undef) rfl (by kernel_rfl) (by kernel_rfl) (by kernel_rfl) (fun _ _ _ h => h) (Or.inr ⟨by rfl, rfl⟩) (by assumption) ?_
                  try simp only [Act.put, List.setIfInBounds_toArray, List.set_cons_zero, List.set_cons_succ]
                  refine wpAnyH_take (i := 15) (oi := { dst := some 215, op := Go.Op.convert 41 9 (Go.Operand.tmp 214), type := 9, pos := "law.go:197", after := #[{ on := 14, ground := Go.Ground.data }, { on := 13, ground := Go.Ground.guard }], guard := some (13, true) }) (v := undef) rfl (by kernel_rfl) (by kernel_rfl) (by kernel_rfl) (fun _ _ _ h => h) (Or.inr ⟨by rfl, rfl⟩) (by assumption) ?_
                  try simp only [Act.put, List.setIfInBounds_toArray, List.set_cons_zero, List.set_cons_succ]
                  refine wpAnyH_take (i := 16) (oi := { dst := some 216, op := Go.Op.move (Go.Operand.tmp 13), type := 33, pos := "law.go:197", after := #[{ on := 13, ground := Go.Ground.guard }], guard := some (13, true) }) (v := undef) rfl (by kernel_rfl) (by kernel_rfl) (by kernel_rfl) (fun _ _ _ h => h) (Or.inr ⟨by rfl, rfl⟩) (by assumption) ?_
                  try simp only [Act.put, List.setIfInBounds_toArray, List.set_cons_zero, List.set_cons_succ]
                  refine wpAnyH_take (i := 17) (oi := { dst := some 217, op := Go.Op.move (Go.Operand.tmp 23), type := 3, pos := "law.go:197", after := #[{ on := 13, ground := Go.Ground.guard }], guard := some (13, true) }) (v := undef) rfl (by kernel_rfl) (by kernel_rfl) (by kernel_rfl) (fun _ _ _ h => h) (Or.inr ⟨by rfl, rfl⟩) (by assumption) ?_
                  try simp only [Act.put, List.setIfInBounds_toArray, List.set_cons_zero, List.set_cons_succ]
                  refine wpAnyH_take (i := 18) (oi := { dst := some 218, op := Go.Op.indexAddr 33 (Go.Operand.tmp 216) (Go.Operand.tmp 217), type := 0, pos := "law.go:197", after := #[{ on := 16, ground := Go.Ground.data }, { on := 17, ground := Go.Ground.data }, { on := 13, ground := Go.Ground.guard }], guard := some (13, true) }) (v := undef) rfl (by kernel_rfl) (by kernel_rfl) (by kernel_rfl) (fun _ _ _ h => h) (Or.inr ⟨by rfl, rfl⟩) (by assumption) ?_
                  try simp only [Act.put, List.setIfInBounds_toArray, List.set_cons_zero, List.set_cons_succ]
                  refine wpAnyH_take (i := 19) (oi := { dst := some 219, op := Go.Op.load 3 (Go.Operand.tmp 218), type := 3, pos := "law.go:197", after := #[{ on := 18, ground := Go.Ground.data }, { on := 13, ground := Go.Ground.guard }], guard := some (13, true) }) (v := undef) rfl (by kernel_rfl) (by kernel_rfl) (by kernel_rfl) (fun _ _ _ h => h) (Or.inr ⟨by rfl, rfl⟩) (by assumption) ?_
                  try simp only [Act.put, List.setIfInBounds_toArray, List.set_cons_zero, List.set_cons_succ]
                  refine wpAnyH_ready (rs := [20]) (by kernel_rfl) (by simp) ?_
                  refine AllReadyH.cons (o := { dst := some 220, op := Go.Op.call { callee := Go.Callee.value (Go.Operand.func 12), args := #[Go.Operand.tmp 219], argTypes := #[3] }, type := 41, pos := "law.go:197", after := #[{ on := 19, ground := Go.Ground.data }, { on := 13, ground := Go.Ground.chain }, { on := 13, ground := Go.Ground.guard }], guard := some (13, true) }) rfl (fun K hK => ?_) AllReadyH.nil
                  go_simp
                  refine hK.out _ _ (hHeld) (fun hHeld => ?_)
                  clear hK K
                  try simp only [Act.put, List.setIfInBounds_toArray, List.set_cons_zero, List.set_cons_succ]
                  refine wpAnyH_take (i := 21) (oi := { dst := some 221, op := Go.Op.convert 41 9 (Go.Operand.tmp 220), type := 9, pos := "law.go:197", after := #[{ on := 20, ground := Go.Ground.data }, { on := 13, ground := Go.Ground.guard }], guard := some (13, true) }) (v := undef) rfl (by kernel_rfl) (by kernel_rfl) (by kernel_rfl) (fun _ _ _ h => h) (Or.inr ⟨by rfl, rfl⟩) (by assumption) ?_
                  try simp only [Act.put, List.setIfInBounds_toArray, List.set_cons_zero, List.set_cons_succ]
                  refine wpAnyH_take (i := 22) (oi := { dst := some 222, op := Go.Op.binOp Go.BinOp.neq 9 (Go.Operand.tmp 215) (Go.Operand.tmp 221) 9, type := 4, pos := "law.go:197", after := #[{ on := 15, ground := Go.Ground.data }, { on := 21, ground := Go.Ground.data }, { on := 13, ground := Go.Ground.guard }], guard := some (13, true) }) (v := undef) rfl (by kernel_rfl) (by kernel_rfl) (by kernel_rfl) (fun _ _ _ h => h) (Or.inr ⟨by rfl, rfl⟩) (by assumption) ?_
                  try simp only [Act.put, List.setIfInBounds_toArray, List.set_cons_zero, List.set_cons_succ]
                  refine wpAnyH_take (i := 23) (oi := { dst := some 223, op := Go.Op.pick (Go.Operand.tmp 213) (Go.Operand.tmp 222) (Go.Operand.const (Go.Value.bool false)), type := 4, pos := "law.go:197", after := #[{ on := 13, ground := Go.Ground.data }, { on := 22, ground := Go.Ground.data }, { on := 7, ground := Go.Ground.guard }], guard := some (7, false) }) (v := ?_) rfl (by kernel_rfl) (by kernel_rfl) (by kernel_rfl) (fun _ _ _ h => h) (Or.inl ⟨by rfl, ?_⟩) (by assumption) ?_
                  rotate_left
                  · intro W hSW
                    go_simp
                    try with_reducible rfl
                  try simp only [Act.put, List.setIfInBounds_toArray, List.set_cons_zero, List.set_cons_succ]
                  refine wpAnyH_take (i := 24) (oi := { dst := some 224, op := Go.Op.pick (Go.Operand.tmp 207) (Go.Operand.const (Go.Value.bool true)) (Go.Operand.tmp 223), type := 4, pos := "law.go:197", after := #[{ on := 7, ground := Go.Ground.data }, { on := 23, ground := Go.Ground.data }], guard := none }) (v := ?_) rfl (by kernel_rfl) (by kernel_rfl) (by kernel_rfl) (fun _ _ _ h => h) (Or.inl ⟨by rfl, ?_⟩) (by assumption) ?_
                  rotate_left
                  · intro W hSW
                    go_simp
                    try with_reducible rfl
                  try simp only [Act.put, List.setIfInBounds_toArray, List.set_cons_zero, List.set_cons_succ]
                  refine wpAnyH_take (i := 25) (oi := { dst := some 225, op := Go.Op.move (Go.Operand.tmp 224), type := 4, pos := "law.go:197", after := #[{ on := 24, ground := Go.Ground.data }, { on := 20, ground := Go.Ground.chain }], guard := none }) (v := ?_) rfl (by kernel_rfl) (by kernel_rfl) (by kernel_rfl) (fun _ _ _ h => h) (Or.inl ⟨by rfl, ?_⟩) (by assumption) ?_
                  rotate_left
                  · intro W hSW
                    go_simp
                    try with_reducible rfl
                  try simp only [Act.put, List.setIfInBounds_toArray, List.set_cons_zero, List.set_cons_succ]
                  refine wpAnyH_take (i := 26) (oi := { dst := some 226, op := Go.Op.move (Go.Operand.tmp 13), type := 33, pos := "law.go:197", after := #[{ on := 25, ground := Go.Ground.guard }], guard := some (25, false) }) (v := ?_) rfl (by kernel_rfl) (by kernel_rfl) (by kernel_rfl) (fun _ _ _ h => h) (Or.inl ⟨by rfl, ?_⟩) (by assumption) ?_
                  rotate_left
                  · intro W hSW
                    go_simp
                    try with_reducible rfl
                  try simp only [Act.put, List.setIfInBounds_toArray, List.set_cons_zero, List.set_cons_succ]
                  refine wpAnyH_take (i := 27) (oi := { dst := some 227, op := Go.Op.move (Go.Operand.tmp 23), type := 3, pos := "law.go:197", after := #[{ on := 25, ground := Go.Ground.guard }], guard := some (25, false) }) (v := ?_) rfl (by kernel_rfl) (by kernel_rfl) (by kernel_rfl) (fun _ _ _ h => h) (Or.inl ⟨by rfl, ?_⟩) (by assumption) ?_
                  rotate_left
                  · intro W hSW
                    go_simp
                    try with_reducible rfl
                  try simp only [Act.put, List.setIfInBounds_toArray, List.set_cons_zero, List.set_cons_succ]
                  refine wpAnyH_take (i := 28) (oi := { dst := some 228, op := Go.Op.indexAddr 33 (Go.Operand.tmp 226) (Go.Operand.tmp 227), type := 0, pos := "law.go:197", after := #[{ on := 26, ground := Go.Ground.data }, { on := 27, ground := Go.Ground.data }, { on := 25, ground := Go.Ground.guard }], guard := some (25, false) }) (v := ?_) rfl (by kernel_rfl) (by kernel_rfl) (by kernel_rfl) (fun _ _ _ h => h) (Or.inl ⟨by rfl, ?_⟩) (by assumption) ?_
                  rotate_left
                  · intro W hSW
                    go_simp
                    try with_reducible rfl
                  try simp only [Act.put, List.setIfInBounds_toArray, List.set_cons_zero, List.set_cons_succ]
                  refine wpAnyH_take (i := 29) (oi := { dst := some 229, op := Go.Op.load 3 (Go.Operand.tmp 228), type := 3, pos := "law.go:197", after := #[{ on := 28, ground := Go.Ground.data }, { on := 25, ground := Go.Ground.guard }], guard := some (25, false) }) (v := ?_) rfl (by kernel_rfl) (by kernel_rfl) (by kernel_rfl) (fun _ _ _ h => h) (Or.inl ⟨by rfl, ?_⟩) (by assumption) ?_
                  rotate_left
                  · intro W hSW
                    have e0 := kh W hSW
                    go_simp
                    try with_reducible rfl
                  try simp only [Act.put, List.setIfInBounds_toArray, List.set_cons_zero, List.set_cons_succ]
                  refine wpAnyH_take (i := 30) (oi := { dst := some 230, op := Go.Op.binOp Go.BinOp.lss 3 (Go.Operand.tmp 229) (Go.Operand.const (Go.Value.int Go.IntKind.i64 0)) 3, type := 4, pos := "law.go:197", after := #[{ on := 29, ground := Go.Ground.data }, { on := 25, ground := Go.Ground.guard }], guard := some (25, false) }) (v := ?_) rfl (by kernel_rfl) (by kernel_rfl) (by kernel_rfl) (fun _ _ _ h => h) (Or.inl ⟨by rfl, ?_⟩) (by assumption) ?_
                  rotate_left
                  · intro W hSW
                    go_simp
                    try with_reducible rfl
                  try simp only [Act.put, List.setIfInBounds_toArray, List.set_cons_zero, List.set_cons_succ]
                  refine wpAnyH_take (i := 31) (oi := { dst := some 231, op := Go.Op.move (Go.Operand.tmp 230), type := 4, pos := "law.go:197", after := #[{ on := 30, ground := Go.Ground.data }, { on := 25, ground := Go.Ground.chain }, { on := 25, ground := Go.Ground.guard }], guard := some (25, false) }) (v := ?_) rfl (by kernel_rfl) (by kernel_rfl) (by kernel_rfl) (fun _ _ _ h => h) (Or.inl ⟨by rfl, ?_⟩) (by assumption) ?_
                  rotate_left
                  · intro W hSW
                    go_simp
                    try with_reducible rfl
                  try simp only [Act.put, List.setIfInBounds_toArray, List.set_cons_zero, List.set_cons_succ]
                  refine wpAnyH_take (i := 32) (oi := { dst := some 232, op := Go.Op.move (Go.Operand.tmp 24), type := 41, pos := "law.go:197", after := #[{ on := 31, ground := Go.Ground.guard }], guard := some (31, true) }) (v := ?_) rfl (by kernel_rfl) (by kernel_rfl) (by kernel_rfl) (fun _ _ _ h => h) (Or.inl ⟨by rfl, ?_⟩) (by assumption) ?_
                  rotate_left
                  · intro W hSW
                    go_simp
                    try with_reducible rfl
                  try simp only [Act.put, List.setIfInBounds_toArray, List.set_cons_zero, List.set_cons_succ]
                  refine wpAnyH_take (i := 33) (oi := { dst := some 233, op := Go.Op.convert 41 9 (Go.Operand.tmp 232), type := 9, pos := "law.go:197", after := #[{ on := 32, ground := Go.Ground.data }, { on := 31, ground := Go.Ground.guard }], guard := some (31, true) }) (v := ?_) rfl (by kernel_rfl) (by kernel_rfl) (by kernel_rfl) (fun _ _ _ h => h) (Or.inl ⟨by rfl, ?_⟩) (by assumption) ?_
                  rotate_left
                  · intro W hSW
                    have e0 := kv W hSW
                    go_simp
                    try with_reducible rfl
                  try simp only [Act.put, List.setIfInBounds_toArray, List.set_cons_zero, List.set_cons_succ]
                  have hmk := run_makeBytes wA.drew 480 (by omega) (by omega)
                  have hE : Below wA.heap.size wA (wA.drew.alloc (.cells (rowA (zerosL 480)) 5)) := (Below.refl _ wA).drew.alloc (Nat.le_refl _) _
                  have kZ : ∀ W : World, Below (wA.drew.alloc (.cells (rowA (zerosL 480)) 5)).heap.size (wA.drew.alloc (.cells (rowA (zerosL 480)) 5)) W → (convert 41 9 (.slice (some ⟨wA.heap.size, 0, none⟩) 480 480)).run Try.prog W = .ok (.string ⟨(zerosL 480).toArray⟩) W := fun W hW => run_convBytes ((BV.lit wA.drew _ _ (zerosL 480) 480 480 rfl (by rw [zerosL_length]) (Nat.le_refl _)).below hW).reads
                  refine wpAnyH_ready (rs := [34]) (by kernel_rfl) (by simp) ?_
                  refine AllReadyH.cons (o := { dst := some 234, op := Go.Op.makeSlice 41 (Go.Operand.const (Go.Value.int Go.IntKind.i64 480)) (Go.Operand.const (Go.Value.int Go.IntKind.i64 480)), type := 41, pos := "law.go:197", after := #[{ on := 31, ground := Go.Ground.guard }], guard := some (31, true) }) rfl (fun K hK => ?_) AllReadyH.nil
                  go_simp
                  refine hK.out _ _ (hE) (fun hHeld => ?_)
                  clear hK K
                  try simp only [Act.put, List.setIfInBounds_toArray, List.set_cons_zero, List.set_cons_succ]
                  refine wpAnyH_weaken (S' := fun W => Below (wA.drew.alloc (.cells (rowA (zerosL 480)) 5)).heap.size (wA.drew.alloc (.cells (rowA (zerosL 480)) 5)) W) (fun W h => hE.trans (h.mono hE.size)) _ _ _ _ ?_
                  replace hHeld := Below.refl (wA.drew.alloc (.cells (rowA (zerosL 480)) 5)).heap.size (wA.drew.alloc (.cells (rowA (zerosL 480)) 5))
                  refine wpAnyH_take (i := 35) (oi := { dst := some 235, op := Go.Op.convert 41 9 (Go.Operand.tmp 234), type := 9, pos := "law.go:197", after := #[{ on := 34, ground := Go.Ground.data }, { on := 31, ground := Go.Ground.guard }], guard := some (31, true) }) (v := ?_) rfl (by kernel_rfl) (by kernel_rfl) (by kernel_rfl) (fun _ _ _ h => h) (Or.inl ⟨by rfl, ?_⟩) (by assumption) ?_
                  rotate_left
                  · intro W hSW
                    have e0 := kZ W hSW
                    go_simp
                    try with_reducible rfl
                  try simp only [Act.put, List.setIfInBounds_toArray, List.set_cons_zero, List.set_cons_succ]
                  refine wpAnyH_take (i := 36) (oi := { dst := some 236, op := Go.Op.binOp Go.BinOp.neq 9 (Go.Operand.tmp 233) (Go.Operand.tmp 235) 9, type := 4, pos := "law.go:197", after := #[{ on := 33, ground := Go.Ground.data }, { on := 35, ground := Go.Ground.data }, { on := 31, ground := Go.Ground.guard }], guard := some (31, true) }) (v := ?_) rfl (by kernel_rfl) (by kernel_rfl) (by kernel_rfl) (fun _ _ _ h => h) (Or.inl ⟨by rfl, ?_⟩) (by assumption) ?_
                  rotate_left
                  · intro W hSW
                    go_simp
                    try with_reducible rfl
                  try simp only [Act.put, List.setIfInBounds_toArray, List.set_cons_zero, List.set_cons_succ]
                  refine wpAnyH_take (i := 37) (oi := { dst := some 237, op := Go.Op.pick (Go.Operand.tmp 231) (Go.Operand.tmp 236) (Go.Operand.const (Go.Value.bool false)), type := 4, pos := "law.go:197", after := #[{ on := 31, ground := Go.Ground.data }, { on := 36, ground := Go.Ground.data }, { on := 25, ground := Go.Ground.guard }], guard := some (25, false) }) (v := ?_) rfl (by kernel_rfl) (by kernel_rfl) (by kernel_rfl) (fun _ _ _ h => h) (Or.inl ⟨by rfl, ?_⟩) (by assumption) ?_
                  rotate_left
                  · intro W hSW
                    go_simp
                    try with_reducible rfl
                  try simp only [Act.put, List.setIfInBounds_toArray, List.set_cons_zero, List.set_cons_succ]
                  refine wpAnyH_take (i := 38) (oi := { dst := some 238, op := Go.Op.pick (Go.Operand.tmp 225) (Go.Operand.const (Go.Value.bool true)) (Go.Operand.tmp 237), type := 4, pos := "law.go:197", after := #[{ on := 25, ground := Go.Ground.data }, { on := 37, ground := Go.Ground.data }], guard := none }) (v := ?_) rfl (by kernel_rfl) (by kernel_rfl) (by kernel_rfl) (fun _ _ _ h => h) (Or.inl ⟨by rfl, ?_⟩) (by assumption) ?_
                  rotate_left
                  · intro W hSW
                    go_simp
                    try with_reducible rfl
                  try simp only [Act.put, List.setIfInBounds_toArray, List.set_cons_zero, List.set_cons_succ]
                  refine wpAnyH_done (by kernel_rfl) ?_ _
                  have hE : Below wA.heap.size wA ((wA.alloc (.cells (rowA (zerosL 480)) 5)).drew) := ((Below.refl _ wA).alloc (Nat.le_refl _) _).drew
                  have FIN := Lib.hid (show Gs w A (fun j => j = gH) s t ds9 dat (200 + (k7 + 1)) ((wA.alloc (.cells (rowA (zerosL 480)) 5)).drew) ∧ ((wA.alloc (.cells (rowA (zerosL 480)) 5)).drew).heap[gH]? = some (.cells (Tb.rowT N h).toArray 3 (0, 0)) from
                    ⟨(GA.out.low hE).more (by omega), (hE.block _ (lt_of_heap HA.out.1)).trans HA.out.1⟩)
                  clear hE kZ kh kv hmk hHeld hx hdx
                  go_wp2_with fail
                  exact ⟨⟨k7 + 1, ds9, by omega, by go_num, FIN.out.1, FIN.out.2⟩, by simp [intOf]; omega⟩
                | some x =>
                  have hdx := hhd
                  rw [hx] at hdx
                  simp only at hdx
                  have hx0 : (x : Int) ≥ 0 := by omega
                  clear hhd
                  go_wp2_with fail
                  have kh : ∀ W : World, Below wA.heap.size wA W → W.cell? ⟨gH, k7, none⟩ = some (.int .i64 (x : Int)) := fun W hW => by
                    have h1 := row_cell ((hW.block _ (lt_of_heap HA.out.1)).trans HA.out.1) hk8
                    rw [hx] at h1
                    exact h1
                  have kv : ∀ W : World, Below wA.heap.size wA W → (convert 41 9 (.slice (some ⟨gA, 0, none⟩) 480 capA)).run Try.prog W = .ok (.string ⟨(blk x).toArray⟩) W := fun W hW => by
                    have h1 := run_convBytes (HA.out.2.1.below hW).reads
                    rw [hdx] at h1
                    rwa [blk_len] at h1
                  refine wp_region_held_drew (S := fun W => Below wA.heap.size wA W) (by kernel_rfl) ((Below.refl _ wA).drew) (fun hHeld => ?_)
                  refine wpAnyH_take (i := 0) (oi := { dst := some 200, op := Go.Op.move (Go.Operand.tmp 25), type := 25, pos := "law.go:197", after := #[], guard := none }) (v := ?_) rfl (by kernel_rfl) (by kernel_rfl) (by kernel_rfl) (fun _ _ _ h => h) (Or.inl ⟨by rfl, ?_⟩) (by assumption) ?_
                  rotate_left
                  · intro W hSW
                    go_simp
                    try with_reducible rfl
                  try simp only [Act.put, List.setIfInBounds_toArray, List.set_cons_zero, List.set_cons_succ]
                  refine wpAnyH_take (i := 1) (oi := { dst := some 201, op := Go.Op.binOp Go.BinOp.neq 25 (Go.Operand.tmp 200) (Go.Operand.const (Go.Value.int Go.IntKind.i64 0)) 25, type := 4, pos := "law.go:197", after := #[{ on := 0, ground := Go.Ground.data }], guard := none }) (v := ?_) rfl (by kernel_rfl) (by kernel_rfl) (by kernel_rfl) (fun _ _ _ h => h) (Or.inl ⟨by rfl, ?_⟩) (by assumption) ?_
                  rotate_left
                  · intro W hSW
                    go_simp
                    try with_reducible rfl
                  try simp only [Act.put, List.setIfInBounds_toArray, List.set_cons_zero, List.set_cons_succ]
                  refine wpAnyH_take (i := 2) (oi := { dst := some 202, op := Go.Op.move (Go.Operand.tmp 201), type := 4, pos := "law.go:197", after := #[{ on := 1, ground := Go.Ground.data }], guard := none }) (v := ?_) rfl (by kernel_rfl) (by kernel_rfl) (by kernel_rfl) (fun _ _ _ h => h) (Or.inl ⟨by rfl, ?_⟩) (by assumption) ?_
                  rotate_left
                  · intro W hSW
                    go_simp
                    try with_reducible rfl
                  try simp only [Act.put, List.setIfInBounds_toArray, List.set_cons_zero, List.set_cons_succ]
                  refine wpAnyH_take (i := 3) (oi := { dst := some 203, op := Go.Op.move (Go.Operand.tmp 24), type := 41, pos := "law.go:197", after := #[{ on := 2, ground := Go.Ground.guard }], guard := some (2, false) }) (v := ?_) rfl (by kernel_rfl) (by kernel_rfl) (by kernel_rfl) (fun _ _ _ h => h) (Or.inl ⟨by rfl, ?_⟩) (by assumption) ?_
                  rotate_left
                  · intro W hSW
                    go_simp
                    try with_reducible rfl
                  try simp only [Act.put, List.setIfInBounds_toArray, List.set_cons_zero, List.set_cons_succ]
                  refine wpAnyH_take (i := 4) (oi := { dst := some 204, op := Go.Op.call { callee := Go.Callee.builtin Go.Builtin.len, args := #[Go.Operand.tmp 203], argTypes := #[41] }, type := 3, pos := "law.go:197", after := #[{ on := 3, ground := Go.Ground.data }, { on := 2, ground := Go.Ground.guard }], guard := some (2, false) }) (v := ?_) rfl (by kernel_rfl) (by kernel_rfl) (by kernel_rfl) (fun _ _ _ h => h) (Or.inl ⟨by rfl, ?_⟩) (by assumption) ?_
                  rotate_left
                  · intro W hSW
                    go_simp
                    try with_reducible rfl
                  try simp only [Act.put, List.setIfInBounds_toArray, List.set_cons_zero, List.set_cons_succ]
                  refine wpAnyH_take (i := 5) (oi := { dst := some 205, op := Go.Op.binOp Go.BinOp.neq 3 (Go.Operand.tmp 204) (Go.Operand.const (Go.Value.int Go.IntKind.i64 480)) 3, type := 4, pos := "law.go:197", after := #[{ on := 4, ground := Go.Ground.data }, { on := 2, ground := Go.Ground.guard }], guard := some (2, false) }) (v := ?_) rfl (by kernel_rfl) (by kernel_rfl) (by kernel_rfl) (fun _ _ _ h => h) (Or.inl ⟨by rfl, ?_⟩) (by assumption) ?_
                  rotate_left
                  · intro W hSW
                    go_simp
                    try with_reducible rfl
                  try simp only [Act.put, List.setIfInBounds_toArray, List.set_cons_zero, List.set_cons_succ]
                  refine wpAnyH_take (i := 6) (oi := { dst := some 206, op := Go.Op.pick (Go.Operand.tmp 202) (Go.Operand.const (Go.Value.bool true)) (Go.Operand.tmp 205), type := 4, pos := "law.go:197", after := #[{ on := 2, ground := Go.Ground.data }, { on := 5, ground := Go.Ground.data }], guard := none }) (v := ?_) rfl (by kernel_rfl) (by kernel_rfl) (by kernel_rfl) (fun _ _ _ h => h) (Or.inl ⟨by rfl, ?_⟩) (by assumption) ?_
                  rotate_left
                  · intro W hSW
                    go_simp
                    try with_reducible rfl
                  try simp only [Act.put, List.setIfInBounds_toArray, List.set_cons_zero, List.set_cons_succ]
                  refine wpAnyH_take (i := 7) (oi := { dst := some 207, op := Go.Op.move (Go.Operand.tmp 206), type := 4, pos := "law.go:197", after := #[{ on := 6, ground := Go.Ground.data }, { on := 2, ground := Go.Ground.chain }], guard := none }) (v := ?_) rfl (by kernel_rfl) (by kernel_rfl) (by kernel_rfl) (fun _ _ _ h => h) (Or.inl ⟨by rfl, ?_⟩) (by assumption) ?_
                  rotate_left
                  · intro W hSW
                    go_simp
                    try with_reducible rfl
                  try simp only [Act.put, List.setIfInBounds_toArray, List.set_cons_zero, List.set_cons_succ]
                  refine wpAnyH_take (i := 8) (oi := { dst := some 208, op := Go.Op.move (Go.Operand.tmp 13), type := 33, pos := "law.go:197", after := #[{ on := 7, ground := Go.Ground.guard }], guard := some (7, false) }) (v := ?_) rfl (by kernel_rfl) (by kernel_rfl) (by kernel_rfl) (fun _ _ _ h => h) (Or.inl ⟨by rfl, ?_⟩) (by assumption) ?_
                  rotate_left
                  · intro W hSW
                    go_simp
                    try with_reducible rfl
                  try simp only [Act.put, List.setIfInBounds_toArray, List.set_cons_zero, List.set_cons_succ]
                  refine wpAnyH_take (i := 9) (oi := { dst := some 209, op := Go.Op.move (Go.Operand.tmp 23), type := 3, pos := "law.go:197", after := #[{ on := 7, ground := Go.Ground.guard }], guard := some (7, false) }) (v := ?_) rfl (by kernel_rfl) (by kernel_rfl) (by kernel_rfl) (fun _ _ _ h => h) (Or.inl ⟨by rfl, ?_⟩) (by assumption) ?_
                  rotate_left
                  · intro W hSW
                    go_simp
                    try with_reducible rfl
                  try simp only [Act.put, List.setIfInBounds_toArray, List.set_cons_zero, List.set_cons_succ]
                  refine wpAnyH_take (i := 10) (oi := { dst := some 210, op := Go.Op.indexAddr 33 (Go.Operand.tmp 208) (Go.Operand.tmp 209), type := 0, pos := "law.go:197", after := #[{ on := 8, ground := Go.Ground.data }, { on := 9, ground := Go.Ground.data }, { on := 7, ground := Go.Ground.guard }], guard := some (7, false) }) (v := ?_) rfl (by kernel_rfl) (by kernel_rfl) (by kernel_rfl) (fun _ _ _ h => h) (Or.inl ⟨by rfl, ?_⟩) (by assumption) ?_
                  rotate_left
                  · intro W hSW
                    go_simp
                    try with_reducible rfl
                  try simp only [Act.put, List.setIfInBounds_toArray, List.set_cons_zero, List.set_cons_succ]
                  refine wpAnyH_take (i := 11) (oi := { dst := some 211, op := Go.Op.load 3 (Go.Operand.tmp 210), type := 3, pos := "law.go:197", after := #[{ on := 10, ground := Go.Ground.data }, { on := 7, ground := Go.Ground.guard }], guard := some (7, false) }) (v := ?_) rfl (by kernel_rfl) (by kernel_rfl) (by kernel_rfl) (fun _ _ _ h => h) (Or.inl ⟨by rfl, ?_⟩) (by assumption) ?_
                  rotate_left
                  · intro W hSW
                    have e0 := kh W hSW
                    go_simp
                    try with_reducible rfl
                  try simp only [Act.put, List.setIfInBounds_toArray, List.set_cons_zero, List.set_cons_succ]
                  refine wpAnyH_take (i := 12) (oi := { dst := some 212, op := Go.Op.binOp Go.BinOp.geq 3 (Go.Operand.tmp 211) (Go.Operand.const (Go.Value.int Go.IntKind.i64 0)) 3, type := 4, pos := "law.go:197", after := #[{ on := 11, ground := Go.Ground.data }, { on := 7, ground := Go.Ground.guard }], guard := some (7, false) }) (v := ?_) rfl (by kernel_rfl) (by kernel_rfl) (by kernel_rfl) (fun _ _ _ h => h) (Or.inl ⟨by rfl, ?_⟩) (by assumption) ?_
                  rotate_left
                  · intro W hSW
                    go_simp
                    try with_reducible rfl
                  try simp only [Act.put, List.setIfInBounds_toArray, List.set_cons_zero, List.set_cons_succ]
                  refine wpAnyH_take (i := 13) (oi := { dst := some 213, op := Go.Op.move (Go.Operand.tmp 212), type := 4, pos := "law.go:197", after := #[{ on := 12, ground := Go.Ground.data }, { on := 7, ground := Go.Ground.chain }, { on := 7, ground := Go.Ground.guard }], guard := some (7, false) }) (v := ?_) rfl (by kernel_rfl) (by kernel_rfl) (by kernel_rfl) (fun _ _ _ h => h) (Or.inl ⟨by rfl, ?_⟩) (by assumption) ?_
                  rotate_left
                  · intro W hSW
                    go_simp
                    try with_reducible rfl
                  try simp only [Act.put, List.setIfInBounds_toArray, List.set_cons_zero, List.set_cons_succ]
                  refine wpAnyH_take (i := 14) (oi := { dst := some 214, op := Go.Op.move (Go.Operand.tmp 24), type := 41, pos := "law.go:197", after := #[{ on := 13, ground := Go.Ground.guard }], guard := some (13, true) }) (v := ?_) rfl (by kernel_rfl) (by kernel_rfl) (by kernel_rfl) (fun _ _ _ h => h) (Or.inl ⟨by rfl, ?_⟩) (by assumption) ?_
                  rotate_left
                  · intro W hSW
                    go_simp
                    try with_reducible rfl
                  try simp only [Act.put, List.setIfInBounds_toArray, List.set_cons_zero, List.set_cons_succ]
                  refine wpAnyH_take (i := 15) (oi := { dst := some 215, op := Go.Op.convert 41 9 (Go.Operand.tmp 214), type := 9, pos := "law.go:197", after := #[{ on := 14, ground := Go.Ground.data }, { on := 13, ground := Go.Ground.guard }], guard := some (13, true) }) (v := ?_) rfl (by kernel_rfl) (by kernel_rfl) (by kernel_rfl) (fun _ _ _ h => h) (Or.inl ⟨by rfl, ?_⟩) (by assumption) ?_
                  rotate_left
                  · intro W hSW
                    have e0 := kv W hSW
                    go_simp
                    try with_reducible rfl
                  try simp only [Act.put, List.setIfInBounds_toArray, List.set_cons_zero, List.set_cons_succ]
                  refine wpAnyH_take (i := 16) (oi := { dst := some 216, op := Go.Op.move (Go.Operand.tmp 13), type := 33, pos := "law.go:197", after := #[{ on := 13, ground := Go.Ground.guard }], guard := some (13, true) }) (v := ?_) rfl (by kernel_rfl) (by kernel_rfl) (by kernel_rfl) (fun _ _ _ h => h) (Or.inl ⟨by rfl, ?_⟩) (by assumption) ?_
                  rotate_left
                  · intro W hSW
                    go_simp
                    try with_reducible rfl
                  try simp only [Act.put, List.setIfInBounds_toArray, List.set_cons_zero, List.set_cons_succ]
                  refine wpAnyH_take (i := 17) (oi := { dst := some 217, op := Go.Op.move (Go.Operand.tmp 23), type := 3, pos := "law.go:197", after := #[{ on := 13, ground := Go.Ground.guard }], guard := some (13, true) }) (v := ?_) rfl (by kernel_rfl) (by kernel_rfl) (by kernel_rfl) (fun _ _ _ h => h) (Or.inl ⟨by rfl, ?_⟩) (by assumption) ?_
                  rotate_left
                  · intro W hSW
                    go_simp
                    try with_reducible rfl
                  try simp only [Act.put, List.setIfInBounds_toArray, List.set_cons_zero, List.set_cons_succ]
                  refine wpAnyH_take (i := 18) (oi := { dst := some 218, op := Go.Op.indexAddr 33 (Go.Operand.tmp 216) (Go.Operand.tmp 217), type := 0, pos := "law.go:197", after := #[{ on := 16, ground := Go.Ground.data }, { on := 17, ground := Go.Ground.data }, { on := 13, ground := Go.Ground.guard }], guard := some (13, true) }) (v := ?_) rfl (by kernel_rfl) (by kernel_rfl) (by kernel_rfl) (fun _ _ _ h => h) (Or.inl ⟨by rfl, ?_⟩) (by assumption) ?_
                  rotate_left
                  · intro W hSW
                    go_simp
                    try with_reducible rfl
                  try simp only [Act.put, List.setIfInBounds_toArray, List.set_cons_zero, List.set_cons_succ]
                  refine wpAnyH_take (i := 19) (oi := { dst := some 219, op := Go.Op.load 3 (Go.Operand.tmp 218), type := 3, pos := "law.go:197", after := #[{ on := 18, ground := Go.Ground.data }, { on := 13, ground := Go.Ground.guard }], guard := some (13, true) }) (v := ?_) rfl (by kernel_rfl) (by kernel_rfl) (by kernel_rfl) (fun _ _ _ h => h) (Or.inl ⟨by rfl, ?_⟩) (by assumption) ?_
                  rotate_left
                  · intro W hSW
                    have e0 := kh W hSW
                    go_simp
                    try with_reducible rfl
                  try simp only [Act.put, List.setIfInBounds_toArray, List.set_cons_zero, List.set_cons_succ]
                  refine wpAnyH_ready (rs := [20]) (by kernel_rfl) (by simp) ?_
                  refine AllReadyH.cons (o := { dst := some 220, op := Go.Op.call { callee := Go.Callee.value (Go.Operand.func 12), args := #[Go.Operand.tmp 219], argTypes := #[3] }, type := 41, pos := "law.go:197", after := #[{ on := 19, ground := Go.Ground.data }, { on := 13, ground := Go.Ground.chain }, { on := 13, ground := Go.Ground.guard }], guard := some (13, true) }) rfl (fun K hK => ?_) AllReadyH.nil
                  go_simp
                  go_at_call 12
                  refine (block_any _ _).mono ?_
                  rintro e wE ⟨rfl, hrE, hbE⟩
                  have hE : Below wA.heap.size wA wE := (Below.refl _ wA).drew.trans (hbE.mono (Nat.le_refl _))
                  have kE : ∀ W : World, Below wE.heap.size wE W → (convert 41 9 (.slice (some ⟨wA.heap.size, 0, none⟩) 480 480)).run Try.prog W = .ok (.string ⟨(blk x).toArray⟩) W := fun W hW => run_convBytes ((blk_bv hrE).below hW).reads
                  have kh2 : ∀ W : World, Below wE.heap.size wE W → W.cell? ⟨gH, k7, none⟩ = some (.int .i64 (x : Int)) := fun W hW => kh W (hE.trans (hW.mono hE.size))
                  refine hK.out _ _ (hE) (fun hHeld => ?_)
                  clear hK K
                  try simp only [Act.put, List.setIfInBounds_toArray, List.set_cons_zero, List.set_cons_succ]
                  refine wpAnyH_weaken (S' := fun W => Below wE.heap.size wE W) (fun W h => hE.trans (h.mono hE.size)) _ _ _ _ ?_
                  replace hHeld := Below.refl wE.heap.size wE
                  refine wpAnyH_take (i := 21) (oi := { dst := some 221, op := Go.Op.convert 41 9 (Go.Operand.tmp 220), type := 9, pos := "law.go:197", after := #[{ on := 20, ground := Go.Ground.data }, { on := 13, ground := Go.Ground.guard }], guard := some (13, true) }) (v := ?_) rfl (by kernel_rfl) (by kernel_rfl) (by kernel_rfl) (fun _ _ _ h => h) (Or.inl ⟨by rfl, ?_⟩) (by assumption) ?_
                  rotate_left
                  · intro W hSW
                    have e0 := kE W hSW
                    go_simp
                    try with_reducible rfl
                  try simp only [Act.put, List.setIfInBounds_toArray, List.set_cons_zero, List.set_cons_succ]
                  refine wpAnyH_take (i := 22) (oi := { dst := some 222, op := Go.Op.binOp Go.BinOp.neq 9 (Go.Operand.tmp 215) (Go.Operand.tmp 221) 9, type := 4, pos := "law.go:197", after := #[{ on := 15, ground := Go.Ground.data }, { on := 21, ground := Go.Ground.data }, { on := 13, ground := Go.Ground.guard }], guard := some (13, true) }) (v := ?_) rfl (by kernel_rfl) (by kernel_rfl) (by kernel_rfl) (fun _ _ _ h => h) (Or.inl ⟨by rfl, ?_⟩) (by assumption) ?_
                  rotate_left
                  · intro W hSW
                    go_simp
                    try with_reducible rfl
                  try simp only [Act.put, List.setIfInBounds_toArray, List.set_cons_zero, List.set_cons_succ]
                  refine wpAnyH_take (i := 23) (oi := { dst := some 223, op := Go.Op.pick (Go.Operand.tmp 213) (Go.Operand.tmp 222) (Go.Operand.const (Go.Value.bool false)), type := 4, pos := "law.go:197", after := #[{ on := 13, ground := Go.Ground.data }, { on := 22, ground := Go.Ground.data }, { on := 7, ground := Go.Ground.guard }], guard := some (7, false) }) (v := ?_) rfl (by kernel_rfl) (by kernel_rfl) (by kernel_rfl) (fun _ _ _ h => h) (Or.inl ⟨by rfl, ?_⟩) (by assumption) ?_
                  rotate_left
                  · intro W hSW
                    go_simp
                    try with_reducible rfl
                  try simp only [Act.put, List.setIfInBounds_toArray, List.set_cons_zero, List.set_cons_succ]
                  refine wpAnyH_take (i := 24) (oi := { dst := some 224, op := Go.Op.pick (Go.Operand.tmp 207) (Go.Operand.const (Go.Value.bool true)) (Go.Operand.tmp 223), type := 4, pos := "law.go:197", after := #[{ on := 7, ground := Go.Ground.data }, { on := 23, ground := Go.Ground.data }], guard := none }) (v := ?_) rfl (by kernel_rfl) (by kernel_rfl) (by kernel_rfl) (fun _ _ _ h => h) (Or.inl ⟨by rfl, ?_⟩) (by assumption) ?_
                  rotate_left
                  · intro W hSW
                    go_simp
                    try with_reducible rfl
                  try simp only [Act.put, List.setIfInBounds_toArray, List.set_cons_zero, List.set_cons_succ]
                  refine wpAnyH_take (i := 25) (oi := { dst := some 225, op := Go.Op.move (Go.Operand.tmp 224), type := 4, pos := "law.go:197", after := #[{ on := 24, ground := Go.Ground.data }, { on := 20, ground := Go.Ground.chain }], guard := none }) (v := ?_) rfl (by kernel_rfl) (by kernel_rfl) (by kernel_rfl) (fun _ _ _ h => h) (Or.inl ⟨by rfl, ?_⟩) (by assumption) ?_
                  rotate_left
                  · intro W hSW
                    go_simp
                    try with_reducible rfl
                  try simp only [Act.put, List.setIfInBounds_toArray, List.set_cons_zero, List.set_cons_succ]
                  refine wpAnyH_take (i := 26) (oi := { dst := some 226, op := Go.Op.move (Go.Operand.tmp 13), type := 33, pos := "law.go:197", after := #[{ on := 25, ground := Go.Ground.guard }], guard := some (25, false) }) (v := ?_) rfl (by kernel_rfl) (by kernel_rfl) (by kernel_rfl) (fun _ _ _ h => h) (Or.inl ⟨by rfl, ?_⟩) (by assumption) ?_
                  rotate_left
                  · intro W hSW
                    go_simp
                    try with_reducible rfl
                  try simp only [Act.put, List.setIfInBounds_toArray, List.set_cons_zero, List.set_cons_succ]
                  refine wpAnyH_take (i := 27) (oi := { dst := some 227, op := Go.Op.move (Go.Operand.tmp 23), type := 3, pos := "law.go:197", after := #[{ on := 25, ground := Go.Ground.guard }], guard := some (25, false) }) (v := ?_) rfl (by kernel_rfl) (by kernel_rfl) (by kernel_rfl) (fun _ _ _ h => h) (Or.inl ⟨by rfl, ?_⟩) (by assumption) ?_
                  rotate_left
                  · intro W hSW
                    go_simp
                    try with_reducible rfl
                  try simp only [Act.put, List.setIfInBounds_toArray, List.set_cons_zero, List.set_cons_succ]
                  refine wpAnyH_take (i := 28) (oi := { dst := some 228, op := Go.Op.indexAddr 33 (Go.Operand.tmp 226) (Go.Operand.tmp 227), type := 0, pos := "law.go:197", after := #[{ on := 26, ground := Go.Ground.data }, { on := 27, ground := Go.Ground.data }, { on := 25, ground := Go.Ground.guard }], guard := some (25, false) }) (v := ?_) rfl (by kernel_rfl) (by kernel_rfl) (by kernel_rfl) (fun _ _ _ h => h) (Or.inl ⟨by rfl, ?_⟩) (by assumption) ?_
                  rotate_left
                  · intro W hSW
                    go_simp
                    try with_reducible rfl
                  try simp only [Act.put, List.setIfInBounds_toArray, List.set_cons_zero, List.set_cons_succ]
                  refine wpAnyH_take (i := 29) (oi := { dst := some 229, op := Go.Op.load 3 (Go.Operand.tmp 228), type := 3, pos := "law.go:197", after := #[{ on := 28, ground := Go.Ground.data }, { on := 25, ground := Go.Ground.guard }], guard := some (25, false) }) (v := ?_) rfl (by kernel_rfl) (by kernel_rfl) (by kernel_rfl) (fun _ _ _ h => h) (Or.inl ⟨by rfl, ?_⟩) (by assumption) ?_
                  rotate_left
                  · intro W hSW
                    have e0 := kh2 W hSW
                    go_simp
                    try with_reducible rfl
                  try simp only [Act.put, List.setIfInBounds_toArray, List.set_cons_zero, List.set_cons_succ]
                  refine wpAnyH_take (i := 30) (oi := { dst := some 230, op := Go.Op.binOp Go.BinOp.lss 3 (Go.Operand.tmp 229) (Go.Operand.const (Go.Value.int Go.IntKind.i64 0)) 3, type := 4, pos := "law.go:197", after := #[{ on := 29, ground := Go.Ground.data }, { on := 25, ground := Go.Ground.guard }], guard := some (25, false) }) (v := ?_) rfl (by kernel_rfl) (by kernel_rfl) (by kernel_rfl) (fun _ _ _ h => h) (Or.inl ⟨by rfl, ?_⟩) (by assumption) ?_
                  rotate_left
                  · intro W hSW
                    go_simp
                    try with_reducible rfl
                  try simp only [Act.put, List.setIfInBounds_toArray, List.set_cons_zero, List.set_cons_succ]
                  refine wpAnyH_take (i := 31) (oi := { dst := some 231, op := Go.Op.move (Go.Operand.tmp 230), type := 4, pos := "law.go:197", after := #[{ on := 30, ground := Go.Ground.data }, { on := 25, ground := Go.Ground.chain }, { on := 25, ground := Go.Ground.guard }], guard := some (25, false) }) (v := ?_) rfl (by kernel_rfl) (by kernel_rfl) (by kernel_rfl) (fun _ _ _ h => h) (Or.inl ⟨by rfl, ?_⟩) (by assumption) ?_
                  rotate_left
                  · intro W hSW
                    go_simp
                    try with_reducible rfl
                  try simp only [Act.put, List.setIfInBounds_toArray, List.set_cons_zero, List.set_cons_succ]
                  refine wpAnyH_take (i := 32) (oi := { dst := some 232, op := Go.Op.move (Go.Operand.tmp 24), type := 41, pos := "law.go:197", after := #[{ on := 31, ground := Go.Ground.guard }], guard := some (31, true) }) (v := undef) rfl (by kernel_rfl) (by kernel_rfl) (by kernel_rfl) (fun _ _ _ h => h) (Or.inr ⟨by rfl, rfl⟩) (by assumption) ?_
                  try simp only [Act.put, List.setIfInBounds_toArray, List.set_cons_zero, List.set_cons_succ]
                  refine wpAnyH_take (i := 33) (oi := { dst := some 233, op := Go.Op.convert 41 9 (Go.Operand.tmp 232), type := 9, pos := "law.go:197", after := #[{ on := 32, ground := Go.Ground.data }, { on := 31, ground := Go.Ground.guard }], guard := some (31, true) }) (v := undef) rfl (by kernel_rfl) (by kernel_rfl) (by kernel_rfl) (fun _ _ _ h => h) (Or.inr ⟨by rfl, rfl⟩) (by assumption) ?_
                  try simp only [Act.put, List.setIfInBounds_toArray, List.set_cons_zero, List.set_cons_succ]
                  refine wpAnyH_take (i := 34) (oi := { dst := some 234, op := Go.Op.makeSlice 41 (Go.Operand.const (Go.Value.int Go.IntKind.i64 480)) (Go.Operand.const (Go.Value.int Go.IntKind.i64 480)), type := 41, pos := "law.go:197", after := #[{ on := 31, ground := Go.Ground.guard }], guard := some (31, true) }) (v := undef) rfl (by kernel_rfl) (by kernel_rfl) (by kernel_rfl) (fun _ _ _ h => h) (Or.inr ⟨by rfl, rfl⟩) (by assumption) ?_
                  try simp only [Act.put, List.setIfInBounds_toArray, List.set_cons_zero, List.set_cons_succ]
                  refine wpAnyH_take (i := 35) (oi := { dst := some 235, op := Go.Op.convert 41 9 (Go.Operand.tmp 234), type := 9, pos := "law.go:197", after := #[{ on := 34, ground := Go.Ground.data }, { on := 31, ground := Go.Ground.guard }], guard := some (31, true) }) (v := undef) rfl (by kernel_rfl) (by kernel_rfl) (by kernel_rfl) (fun _ _ _ h => h) (Or.inr ⟨by rfl, rfl⟩) (by assumption) ?_
                  try simp only [Act.put, List.setIfInBounds_toArray, List.set_cons_zero, List.set_cons_succ]
                  refine wpAnyH_take (i := 36) (oi := { dst := some 236, op := Go.Op.binOp Go.BinOp.neq 9 (Go.Operand.tmp 233) (Go.Operand.tmp 235) 9, type := 4, pos := "law.go:197", after := #[{ on := 33, ground := Go.Ground.data }, { on := 35, ground := Go.Ground.data }, { on := 31, ground := Go.Ground.guard }], guard := some (31, true) }) (v := undef) rfl (by kernel_rfl) (by kernel_rfl) (by kernel_rfl) (fun _ _ _ h => h) (Or.inr ⟨by rfl, rfl⟩) (by assumption) ?_
                  try simp only [Act.put, List.setIfInBounds_toArray, List.set_cons_zero, List.set_cons_succ]
                  refine wpAnyH_take (i := 37) (oi := { dst := some 237, op := Go.Op.pick (Go.Operand.tmp 231) (Go.Operand.tmp 236) (Go.Operand.const (Go.Value.bool false)), type := 4, pos := "law.go:197", after := #[{ on := 31, ground := Go.Ground.data }, { on := 36, ground := Go.Ground.data }, { on := 25, ground := Go.Ground.guard }], guard := some (25, false) }) (v := ?_) rfl (by kernel_rfl) (by kernel_rfl) (by kernel_rfl) (fun _ _ _ h => h) (Or.inl ⟨by rfl, ?_⟩) (by assumption) ?_
                  rotate_left
                  · intro W hSW
                    go_simp
                    try with_reducible rfl
                  try simp only [Act.put, List.setIfInBounds_toArray, List.set_cons_zero, List.set_cons_succ]
                  refine wpAnyH_take (i := 38) (oi := { dst := some 238, op := Go.Op.pick (Go.Operand.tmp 225) (Go.Operand.const (Go.Value.bool true)) (Go.Operand.tmp 237), type := 4, pos := "law.go:197", after := #[{ on := 25, ground := Go.Ground.data }, { on := 37, ground := Go.Ground.data }], guard := none }) (v := ?_) rfl (by kernel_rfl) (by kernel_rfl) (by kernel_rfl) (fun _ _ _ h => h) (Or.inl ⟨by rfl, ?_⟩) (by assumption) ?_
                  rotate_left
                  · intro W hSW
                    go_simp
                    try with_reducible rfl
                  try simp only [Act.put, List.setIfInBounds_toArray, List.set_cons_zero, List.set_cons_succ]
                  refine wpAnyH_done (by kernel_rfl) ?_ _
                  have FIN := Lib.hid (show Gs w A (fun j => j = gH) s t ds9 dat (200 + (k7 + 1)) wE ∧ wE.heap[gH]? = some (.cells (Tb.rowT N h).toArray 3 (0, 0)) from
                    ⟨(GA.out.low hE).more (by omega), (hE.block _ (lt_of_heap HA.out.1)).trans HA.out.1⟩)
                  clear hE kE kh kh2 kv hrE hbE hHeld hx hdx
                  go_wp2_with fail
                  exact ⟨⟨k7 + 1, ds9, by omega, by go_num, FIN.out.1, FIN.out.2⟩, by simp [intOf]; omega⟩
              · obtain rfl : N = k7 := by omega
                have BE := Lib.hid hG7.below
                clear hG7 hR7
                go_wp2_with fail
                go_ret
                exact ⟨rfl, BE.out⟩

end Jn
end Go.Proofs.Ytpbcjaennbgmaaa
