/- JournalOwn's walk. -/
import Derived.Test.YtpbcjaennbgmaaaJhs
set_option maxRecDepth 100000
namespace Go.Proofs.Ytpbcjaennbgmaaa
namespace Jn
open Go.RowKit

set_option maxHeartbeats 8000000 in
theorem own_walk (a0 : Option Addr) (n0 c0 : Nat) (w : World) (hs0 : ∀ i, i < n0 → StepIn w a0 i) :
    Calls Try.prog 5 #[.slice a0 n0 c0] w fun e w' => e = .returned (.bool true) ∧ Below w.heap.size w w' := by
  have HS0 := Lib.hid hs0
  clear hs0
  have SH := Lib.hid (shown_any w)
  go_enter Try.func5, Try.ntmps5
  go_wp2_with fail
  refine SH.out.mono ?_
  rintro e wS ⟨rfl, hbS⟩
  have BS := Lib.hid hbS
  have ND := Lib.hid (new_any 201 wS (by omega) (by omega))
  clear SH hbS
  go_wp2_with fail
  refine ND.out.mono ?_
  rintro e w1 ⟨rfl, ht1, hs1, hd1⟩
  have D1 := Lib.hid (And.intro hs1 ht1.below)
  have D1f := Lib.hid (devF_new hd1 hs1)
  clear ND ht1 hs1 hd1
  obtain ⟨b, hb⟩ : ∃ b, wS.heap.size + 2 = b := ⟨_, rfl⟩
  rw [hb] at D1f ⊢
  have HBB := Lib.hid hb
  clear hb
  have FR := Lib.hid (fresh_row 10 w1 (by omega))
  go_wp2_with fail
  refine FR.out.mono ?_
  rintro e w2 ⟨⟨v2, g2, rfl, hv2, hg2, hr2⟩, hb2⟩
  obtain ⟨cap2, cur2, rfl, hr2, hc2⟩ := hr2 (by omega)
  have ba : Below w1.heap.size w1 (w2.alloc (.cells (stI 1 1 0 0 0 (.slice (some ⟨g2, 0, none⟩) 10 cap2)) 35)) := hb2.alloc hb2.size _
  have h2 := heap_alloc_new w2 (.cells (stI 1 1 0 0 0 (.slice (some ⟨g2, 0, none⟩) 10 cap2)) 35)
  have h3 := (Below.heap_alloc w2 (.cells (stI 1 1 0 0 0 (.slice (some ⟨g2, 0, none⟩) 10 cap2)) 35) _ (lt_of_heap hr2)).trans hr2
  have hv3 := hv2.alloc (.cells (stI 1 1 0 0 0 (.slice (some ⟨g2, 0, none⟩) 10 cap2)) 35)
  have B2 := Lib.hid ba
  have P2 := Lib.hid (And.intro h2 (And.intro h3 (And.intro hg2 hc2)))
  have V2 := Lib.hid hv3
  have hp2 := hb2.size
  generalize hpp : w2.heap.size = p2 at P2 hp2
  clear FR hv2 hg2 hb2 hr2 hc2 ba h2 h3 hv3
  go_wp2_with fail
  clear hpp
  change Calls _ _ #[_, _, .agg (stI 1 1 0 0 0 (.slice (some ⟨g2, 0, none⟩) 10 cap2))] (w2.alloc (.cells (stI 1 1 0 0 0 (.slice (some ⟨g2, 0, none⟩) 10 cap2)) 35)) _
  generalize w2.alloc (.cells (stI 1 1 0 0 0 (.slice (some ⟨g2, 0, none⟩) 10 cap2)) 35) = W2 at B2 P2 V2 ⊢
  have NW : Calls Try.prog 10 #[.pointer (some ⟨b, 0, none⟩), .int .i64 200, .agg (stI 1 1 0 0 0 (.slice (some ⟨g2, 0, none⟩) 10 cap2))] W2 fun e w' =>
      ∃ A o, e = .returned (.tuple #[.pointer (some ⟨A.J, 0, none⟩), .int .i64 0]) ∧ A.b = b ∧ (∀ j, A.own j → W2.heap.size ≤ j) ∧ JAt w' A (s0 200 1 1 0 0 0 10 (fun _ => none) o) ∧ Below W2.heap.size W2 w' := by
    have h := new_ok (P := 200) (ep := 1) (st := 1) (sq := 0) (hd := 0) (us := 0) (D1f.out.below B2.out) V2.out (by simp [DSt.new]) (by omega) (by omega) (by simp [DSt.new]) (right_none (by omega) (by omega))
    rw [List.length_replicate, aL_none] at h
    exact h
  have NW := Lib.hid NW
  refine NW.out.mono ?_
  rintro e w3 ⟨A, o, rfl, hab, hlo, hj, hb3⟩
  subst hab
  have DF3 := Lib.hid ((D1f.out.below B2.out).below hb3)
  have P3 := Lib.hid (And.intro ((hb3.block _ (lt_of_heap P2.out.1)).trans P2.out.1) ((hb3.block _ (lt_of_heap P2.out.2.1)).trans P2.out.2.1))
  have J3 := Lib.hid (And.intro hlo (And.intro hj hb3))
  have hlt2 : p2 < W2.heap.size ∧ g2 < W2.heap.size := ⟨lt_of_heap P2.out.1, lt_of_heap P2.out.2.1⟩
  have hpg : g2 ≠ p2 := by
    rintro rfl
    have h1 := P2.out.1
    rw [P2.out.2.1] at h1
    simp at h1
  clear NW hlo hj hb3
  go_wp2_with fail
  go_loopw [9] (fun i wr => ∃ (k : Nat) (cur : Array Value), k ≤ 10 ∧ i = .int .i64 k ∧ Touch (fun j => j = g2) w3 wr ∧ wr.heap[g2]? = some (.cells cur 3 (0, 0)) ∧ 10 ≤ cur.size) (fun i _ => 10 - (intOf i).toNat)
  case atStart => exact ⟨0, cur2, Nat.zero_le _, rfl, Touch.refl _ _, P3.out.2, P2.out.2.2.2⟩
  case round =>
    obtain ⟨k, cur, hk, rfl, ht, hrow, hsz⟩ := hrel
    by_cases hlt : k < 10
    · have hk1 : (k : Int) < 10 := by omega
      have c5 := cell_of_row wr p2 5 _ _ _ (ht.at P3.out.1 (fun e => hpg e.symm))
      have cg := cell_of_row wr g2 k _ _ _ hrow
      have fg := frozen_of_row wr g2 k _ _ hrow
      have hkc : k < cur.size := by omega
      rw [Array.getElem?_eq_getElem hkc] at cg
      have HT := Lib.hid (And.intro ht (And.intro hrow hsz))
      clear ht hrow hsz
      go_wp2
      obtain ⟨ht, hrow, hsz⟩ := HT.out
      refine ⟨⟨k + 1, _, by omega, by go_num, ht.setCell (a := ⟨g2, k, none⟩) (.inl rfl) _, heap_setCell_same _ _ k _ _ _ hrow, by simpa using hsz⟩, by simp [intOf]; omega⟩
    · obtain rfl : k = 10 := by omega
      have GS0 : Gs w A Emp (s0 200 1 1 0 0 0 10 (fun _ => none) o) ⟨0, 0, 0, fun _ => none⟩ (DSt.new 201) (fun _ => zerosL 480) 0 wr := by
        obtain ⟨hlo, hj, hb3⟩ := J3.out
        have k0 := BS.out.size
        have k1 := D1.out.2.size
        have k2 := B2.out.size
        have k3 := hb3.size
        have k5 := D1.out.1
        have k6 := P2.out.2.2.1
        have hg2F : ∀ j, NewF wS j → ¬ j = g2 := fun j hj => by have := hj.2; omega
        have hg2A : ∀ j, A.own j → ¬ j = g2 := fun j hj => by have := hlo j hj; omega
        have hj' := jl_start (n := 201) (P := 200) (hj.touch ht hg2A) (DF3.out.touch ht hg2F) (fun j hj hf => by have := hlo j hj; have := hf.2; omega) (by omega) (by omega) (by omega)
        refine ⟨⟨_, hj', fun j hj => ⟨by have := hj.1; omega, id⟩⟩, fun j hj => ⟨by have := hlo j hj; omega, id⟩, fun _ h => h.elim, ?_, Nat.le_refl _, Nat.le_refl _, Nat.le_refl _, Nat.le_refl _⟩
        have hb03 : Below w.heap.size w w3 := BS.out.trans ((D1.out.2.trans ((B2.out.mono k1).trans (hb3.mono (by omega)))).mono k0)
        exact hb03.trans (ht.to_below (fun j _ hj => by omega) (by omega))
      have G0 := Lib.hid GS0
      have hmk : (Instr.makeSlice 33 (.int .i64 10) (.int .i64 10)).run Try.prog wr = .ok (.slice (some ⟨wr.heap.size, 0, none⟩) 10 10) (wr.alloc (.cells (Tb.rowT 10 (fun _ => some 0)).toArray 3)) := run_makeInts wr 10 (by omega)
      rw [show ((10 : Nat) : Int) = 10 from rfl]
      clear GS0 ht hrow hsz J3 DF3 P3 P2 V2 B2 D1 D1f BS hpg hlt2 hp2 hk hlt
      go_wp2_with fail
      have G1 := Lib.hid (G0.out.grow (Z := fun j => j = wr.heap.size) ((Below.refl _ wr).alloc (Nat.le_refl _) (.cells (Tb.rowT 10 (fun _ => some 0)).toArray 3)) (fun j e => .inr ⟨by omega, by simp; omega⟩))
      have R1 := Lib.hid (heap_alloc_new wr (.cells (Tb.rowT 10 (fun _ => some 0)).toArray 3))
      generalize hgH : wr.heap.size = gH at G1 R1 ⊢
      clear hgH G0 hmk
      generalize wr.alloc (.cells (Tb.rowT 10 (fun _ => some 0)).toArray 3) = w4 at G1 R1 ⊢
      go_loopw [11] (fun i wr2 => ∃ k2 : Nat, k2 ≤ 10 ∧ i = .int .i64 k2 ∧ Touch (fun j => j = gH) w4 wr2 ∧ wr2.heap[gH]? = some (.cells (Tb.rowT 10 (fun j => if j < k2 then none else some 0)).toArray 3 (0, 0))) (fun i _ => 10 - (intOf i).toNat)
      case atStart => exact ⟨0, Nat.zero_le _, rfl, Touch.refl _ _, by simpa using R1.out⟩
      case round =>
        obtain ⟨k2, hk2, rfl, ht, hrow⟩ := hrel
        by_cases hlt2 : k2 < 10
        · have hk3 : (k2 : Int) < 10 := by omega
          have cg := row_cell hrow hlt2
          have fg := frozen_of_row wr gH k2 _ _ hrow
          have HT := Lib.hid (And.intro ht hrow)
          clear ht hrow
          go_wp2
          obtain ⟨ht, hrow⟩ := HT.out
          refine ⟨⟨k2 + 1, by omega, by go_num, ht.setCell (a := ⟨gH, k2, none⟩) (.inl rfl) _, ?_⟩, by simp [intOf]; omega⟩
          rw [set_none hrow, rowT_same (g := fun j => if j < k2 + 1 then none else some 0)]
          intro j hj
          by_cases e : j = k2
          · subst e; rw [Tb.upd_same, if_pos (by omega)]
          · rw [Tb.upd_other _ _ e]
            by_cases e2 : j < k2
            · rw [if_pos e2, if_pos (by omega)]
            · rw [if_neg e2, if_neg (by omega)]
        · obtain rfl : k2 = 10 := by omega
          have G2 := Lib.hid (G1.out.touch ht (fun j hj => .inl hj))
          have R2 := Lib.hid (show wr.heap[gH]? = some (.cells (Tb.rowT 10 (fun _ => none)).toArray 3 (0, 0)) by rw [hrow, rowT_same (g := fun _ => none)]; intro j hj; rw [if_pos hj])
          rw [show ((10 : Nat) : Int) = 10 from rfl]
          clear ht hrow hk2 hlt2 G1 R1
          go_wp2_with fail
          go_loopw [12] (fun i wr3 => ∃ (k : Nat) (h : Nat → Option Nat) (s : JSt) (t : Jou.St) (ds : DSt) (dat : Nat → List UInt8), k ≤ min n0 40 ∧ i = .int .i64 k ∧ Gs w A (fun j => j = gH) s t ds dat k wr3 ∧ wr3.heap[gH]? = some (.cells (Tb.rowT 10 h).toArray 3 (0, 0)) ∧ HasD 10 h dat ∧ s.N = 10) (fun i _ => min n0 40 - (intOf i).toNat)
          case atStart => exact ⟨0, _, _, _, _, _, Nat.zero_le _, rfl, G2.out, R2.out, HasD.start 10, rfl⟩
          case round =>
            obtain ⟨k, h, s, t, ds, dat, hk, rfl, hG, hR, hH, hN⟩ := hrel
            by_cases hlt : k < min n0 40
            · have hk1 : (k : Int) < (n0 : Int) := by omega
              have hk2 : (k : Int) < 40 := by omega
              obtain ⟨vids, ids, gi, d, m, hst⟩ := HS0.out k (by omega)
              have HST0 := Lib.hid hst
              have hst := hst.below hG.below
              have HST := Lib.hid hst
              obtain ⟨b0, off, rfl, q0, q1, q2⟩ := hst.at_
              obtain ⟨ai, capi, rfl, hci, -⟩ := hst.nv.form
              have WR := Lib.hid (writes_any d m hst.nv)
              have HG := Lib.hid hG
              have HN := Lib.hid (And.intro hR (And.intro hH hN))
              clear hG hR hH hN hst
              go_wp2_with fail
              refine WR.out.mono ?_
              rintro e wA ⟨⟨v, E, rfl, how, hform, hids, hdat, hlen⟩, hbw⟩
              obtain ⟨av, capv, rfl, -⟩ := how.wl.form
              have q0 : wA.cell? ⟨b0, off + k * 3, none⟩ = some (.slice ai ids.length capi) := (World.cell?_of_block (hbw.block b0 (World.block_lt_of_cell? _ _ q0))).trans q0
              have q1 : wA.cell? ⟨b0, off + k * 3 + 1, none⟩ = some (.int .i64 d) := (World.cell?_of_block (hbw.block b0 (World.block_lt_of_cell? _ _ q1))).trans q1
              have hMd := HST.out.len
              have hBwr := HG.out.below
              obtain ⟨lo, hlo⟩ : ∃ lo, wr.heap.size = lo := ⟨_, rfl⟩
              have G3 := Lib.hid (HG.out.grow (Z := fun j => j = gH ∨ (lo ≤ j ∧ j < wA.heap.size)) hbw (fun j hj => by rw [hlo]; exact hj))
              have R3 := Lib.hid ((hbw.block _ (lt_of_heap HN.out.1)).trans HN.out.1)
              have hEl : E.length ≤ ids.length := by omega
              have hE30 : E.length ≤ 30 := by omega
              have hEc : E.length ≤ capi := by omega
              have hids2 : ids.take E.length = E.map (·.id) := by
                rw [hids, hlen]
                by_cases h : ids.length ≤ 30
                · rw [Nat.min_eq_left h, List.take_length, List.take_of_length_le h]
                · rw [Nat.min_eq_right (by omega)]
              have hl480 : ∀ e ∈ E, e.l.length = 480 := fun e he => by
                obtain ⟨i, hi, rfl⟩ := List.mem_iff_getElem.1 he
                rw [hdat i hi, blk_len]
              have hnv2 := (HST.out.nv.below hbw).takeN (n := E.length) hEl
              have MY := may_any 10 hnv2 (by rw [List.length_take]; have := HST.out.len; omega)
              rw [hids2] at MY
              have MY := Lib.hid MY
              rw [hlo] at how
              have WF := Lib.hid (And.intro how (And.intro hform (And.intro hdat hl480)))
              have HQ := Lib.hid (And.intro q0 q1)
              have hhi := hbw.size
              rw [hlo] at hhi
              obtain ⟨len, hE⟩ : ∃ len, E.length = len := ⟨_, rfl⟩
              rw [hE] at MY hEl hEc hE30 ⊢
              have HE := Lib.hid hE
              clear hE hlo WR how hform hids hdat hlen hids2 hl480 hnv2 hbw hMd hBwr
              go_wp2_with fail
              refine MY.out.mono ?_
              rintro e wM ⟨⟨good, rfl, hgood⟩, hbM⟩
              cases good
              case false =>
                have G4 := Lib.hid (((G3.out.low hbM).sub (Z := fun j => j = gH) (fun j hj => .inl hj)).more (c' := k + 1) (by omega))
                have R4 := Lib.hid ((hbM.block _ (lt_of_heap R3.out)).trans R3.out)
                clear MY hgood hbM q0 q1
                go_wp2_with fail
                exact ⟨⟨k + 1, h, s, t, ds, dat, by omega, by go_num, G4.out, R4.out, HN.out.2.1, HN.out.2.2⟩, by simp [intOf]; omega⟩
              case true =>
                have hmay : MayE s.N E := by rw [HN.out.2.2]; exact (mayE_iff WF.out.2.2.2).2 (hgood.1 rfl)
                have how4 : OwnW lo wM (.slice av E.length capv) E := WF.out.1.touch (Touch.of_below (F := Emp) hbM) (fun _ _ => id) (fun _ _ _ => id)
                have hwl := how4.wl
                have G4 := G3.out.low hbM
                have hwl2 : WL wM (.slice av E.length capv) E (fun j => lo ≤ j ∧ j < wA.heap.size) := WF.out.1.wl.below hbM
                have CM := Lib.hid (G4.commit (by omega) hwl2 (fun j hj => .inr hj) hmay)
                have F4 : FormE wM E := fun e he => by
                  obtain ⟨e1, c, e2, e3⟩ := WF.out.2.1 e he
                  exact ⟨e1, c, (hbM.block _ (lt_of_heap e2)).trans e2, e3⟩
                have R4 := (hbM.block _ (lt_of_heap R3.out)).trans R3.out
                have WM := Lib.hid (And.intro how4.own (And.intro F4 (And.intro R4 (And.intro hmay hbM))))
                clear MY hgood G4 how4 hwl hwl2 hmay F4 R4 hbM q0 q1
                rw [HE.out] at CM
                go_wp2_with fail
                refine CM.out.mono ?_
                rintro e wC ⟨rfl, htC, s', t', ds', hG', hN', -⟩
                clear CM
                have hlow : ∀ j, (Value.slice av E.length capv).ownBlock = some j → lo ≤ j ∧ j < wA.heap.size := fun j hj => WF.out.1.own.lt j hj
                have hgE : ∀ e ∈ E, lo ≤ e.g ∧ e.g < wA.heap.size := fun e he => by
                  obtain ⟨e1, c, e2, e3⟩ := WF.out.2.1 e he
                  exact ⟨((WF.out.1.data e he).2 (by intro h0; have := WF.out.2.2.2 e he; rw [h0] at this; simp at this)).1, lt_of_heap e2⟩
                have hoC := ownsRow_touch WM.out.1 htC (fun j hj hg => hg.2 (.inr (hlow j hj)))
                have hfC : FormE wC E := fun e he => by
                  obtain ⟨e1, c, e2, e3⟩ := WM.out.2.1 e he
                  exact ⟨e1, c, htC.at e2 (fun hg => hg.2 (.inr (hgE e he))), e3⟩
                have hrC := htC.at WM.out.2.2.1 (fun hg => hg.2 (.inl rfl))
                have hne : ∀ e ∈ E, ¬ (Value.slice av E.length capv).ownBlock = some e.g := fun e he hg => by
                  obtain ⟨cur, hc⟩ := ownsRow_block hoC hg
                  obtain ⟨-, c, e2, -⟩ := hfC e he
                  rw [hc] at e2
                  simp at e2
                have hnH : ¬ (Value.slice av E.length capv).ownBlock = some gH := fun hg => by
                  obtain ⟨cur, hc⟩ := ownsRow_block hoC hg
                  rw [hrC] at hc
                  simp at hc
                have hnHE : ∀ e ∈ E, e.g ≠ gH := fun e he hg => by
                  obtain ⟨-, c, e2, -⟩ := hfC e he
                  rw [hg, hrC] at e2
                  simp at e2
                have HC := Lib.hid (And.intro hoC (And.intro hfC (And.intro hrC (And.intro hne (And.intro hnH (And.intro hnHE hgE))))))
                have GC := Lib.hid hG'
                have HN' := Lib.hid (hN'.trans HN.out.2.2)
                clear hlow hgE hoC hfC hrC hne hnH hnHE htC hG' hN'
                go_wp2_with fail
                go_loopw [16] (fun i wr4 => ∃ q : Nat, q ≤ len ∧ i = .int .i64 q ∧ Touch (fun j => j = gH ∨ ∃ e ∈ E, j = e.g) wC wr4 ∧ wr4.heap[gH]? = some (.cells (Tb.rowT 10 (hputs h E (fun j => ((d + j) % 256).toNat) q)).toArray 3 (0, 0)) ∧ FormE wr4 E) (fun i _ => len - (intOf i).toNat)
                case atStart => exact ⟨0, Nat.zero_le _, rfl, Touch.refl _ _, by rw [hputs_zero]; exact HC.out.2.2.1, HC.out.2.1⟩
                case round =>
                  obtain ⟨q, hq, rfl, ht4, hr4, hf4⟩ := hrel
                  by_cases hltq : q < len
                  · have hq1 : (q : Int) < (len : Int) := by omega
                    have hqE : q < E.length := by rw [HE.out]; exact hltq
                    have hG4 := GC.out.touch ht4 (fun j hj => .inl (hj.elim (fun e => .inl e) (fun ⟨e, he, hje⟩ => .inr (by rw [hje]; exact HC.out.2.2.2.2.2.2 e he))))
                    have ho4 := ownsRow_touch HC.out.1 ht4 (fun j hj hg => hg.elim (fun e => HC.out.2.2.2.2.1 (by rw [← e]; exact hj)) (fun ⟨e, he, hje⟩ => HC.out.2.2.2.1 e he (by rw [← hje]; exact hj)))
                    obtain ⟨b0', off', e0, -, qd, -⟩ := (HST0.out.below hG4.below).at_
                    cases e0
                    obtain ⟨gw, rfl, hgw⟩ : ∃ gw, av = some ⟨gw, 0, none⟩ ∧ ∃ cur, wr.heap[gw]? = some (.cells cur 44 (0, 0)) := by
                      rcases ho4.2 with ⟨-, h0⟩ | ⟨gw, capw, curw, e0, -, hgw, -⟩
                      · omega
                      · cases e0
                        exact ⟨gw, rfl, _, hgw⟩
                    have hcells := ho4.cells (g := gw) rfl
                    obtain ⟨z1, z2⟩ := cellsE_at E q hqE
                    have z3 := hcells _ _ z1
                    have z4 := hcells _ _ z2
                    rw [add_lit] at z3 z4
                    have hmem : E[q] ∈ E := List.getElem_mem hqE
                    obtain ⟨f1, cE, f2, f3⟩ := hf4 _ hmem
                    have hin := WM.out.2.2.2.1.2.2.1 _ hmem
                    rw [HN.out.2.2] at hin
                    have hput := hputs_succ (h := h) (f := fun j => ((d + j) % 256).toNat) (idsN_nodup WM.out.2.2.2.1) hqE
                    have hnHq := HC.out.2.2.2.2.2.1 _ hmem
                    have hneq := HC.out.2.2.2.1 _ hmem
                    generalize hek : E[q] = ek at z3 z4 f1 f2 hin hput hnHq hneq hmem
                    obtain ⟨eid, ev, el, eg⟩ := ek
                    simp only at z3 z4 f1 f2 hin hput hnHq hneq
                    subst f1
                    obtain ⟨id, rfl⟩ : ∃ id : Nat, eid = (id : Int) := ⟨eid.toNat, by omega⟩
                    have hid : id < 10 := by omega
                    have hid1 : (id : Int) < 10 := by omega
                    have hid0 : (0 : Int) ≤ (id : Int) := by omega
                    simp only [Int.toNat_natCast] at hput
                    have cH := row_cell hr4 hid
                    have fH := frozen_of_row wr gH id _ _ hr4
                    have hand := and_255 (wrap64 (d + q))
                    have hmod : wrap64 (d + q) % 256 = (((d + q) % 256).toNat : Int) := by
                      unfold wrap64
                      omega
                    rw [hmod] at hand
                    have hputx := hput
                    generalize hx : ((d + (q : Int)) % 256).toNat = x at hand hmod hputx
                    have hput := hputx
                    have HX := Lib.hid hx
                    clear hx hputx
                    have H4 := Lib.hid (And.intro ht4 (And.intro hr4 (And.intro hf4 (And.intro ho4 (And.intro hput (And.intro hnHq (And.intro hneq (And.intro hmem (And.intro f2 f3)))))))))
                    clear ht4 hr4 hf4 ho4 hput hnHq hneq hmem f2 f3 hin hG4 hcells z1 z2 hgw hmod hek
                    go_wp2_with fail
                    go_region
                    clear hand
                    obtain ⟨ht4, hr4, hf4, ho4, hput, hnHq, hneq, hmem, f2, f3⟩ := H4.out
                    have tq : Touch (fun j => j = gH) wr ((wr.setCell ⟨gH, id, none⟩ (.int .i64 (x : Int))).drew) := ((Touch.refl (fun j => j = gH) wr).setCell (a := ⟨gH, id, none⟩) (.inl rfl) _).drew
                    have hr5 : ((wr.setCell ⟨gH, id, none⟩ (.int .i64 (x : Int))).drew).heap[gH]? = some (.cells (Tb.rowT 10 (hputs h E (fun j => ((d + j) % 256).toNat) (q + 1))).toArray 3 (0, 0)) := by
                      rw [← hput]
                      exact set_row hr4
                    have H5 := Lib.hid (And.intro tq (And.intro hr5 (tq.at f2 hnHq)))
                    have z4' : ((wr.setCell ⟨gH, id, none⟩ (.int .i64 (x : Int))).drew).cell? ⟨gw, q * 2 + 1, none⟩ = some (.slice (some ⟨eg, 0, none⟩) 480 480) := (World.cell?_of_block (tq.block gw (World.block_lt_of_cell? _ _ z4) (fun e => HC.out.2.2.2.2.1 (by rw [← e]; rfl)))).trans z4
                    have hglt : gw < ((wr.setCell ⟨gH, id, none⟩ (.int .i64 (x : Int))).drew).heap.size := World.block_lt_of_cell? _ _ z4'
                    clear ht4 hr4 hf4 ho4 hput f2 tq hr5 cH fH z3 z4
                    obtain ⟨wq, hwq⟩ : ∃ wq, (wr.setCell ⟨gH, id, none⟩ (.int .i64 (x : Int))).drew = wq := ⟨_, rfl⟩
                    rw [hwq] at H5 z4' hglt ⊢
                    clear hwq
                    go_wp2_with fail
                    go_loopw [17] (fun i wr5 => ∃ (n : Nat) (c : Array Value), n ≤ 480 ∧ i = .int .i64 n ∧ Touch (fun j => j = eg) wq wr5 ∧ wr5.heap[eg]? = some (.cells c 5 (0, 0)) ∧ c.size = 480) (fun i _ => 480 - (intOf i).toNat)
                    case atStart => exact ⟨0, cE, Nat.zero_le _, rfl, Touch.refl _ _, H5.out.2.2, f3⟩
                    case round =>
                      obtain ⟨n, c, hn, rfl, ht5, hc5, hs5⟩ := hrel
                      have z5 := (World.cell?_of_block (ht5.block gw hglt (fun e => hneq (by rw [← e]; rfl)))).trans z4'
                      by_cases hltn : n < 480
                      · have hn1 : (n : Int) < 480 := by omega
                        have cn := cell_of_row wr eg n _ _ _ hc5
                        have fn := frozen_of_row wr eg n _ _ hc5
                        obtain ⟨un, hun⟩ : ∃ u, c[n]? = some u := ⟨_, Array.getElem?_eq_getElem (show n < c.size by omega)⟩
                        rw [hun] at cn
                        clear hun
                        have HT5 := Lib.hid (And.intro ht5 (And.intro hc5 hs5))
                        clear ht5 hc5 hs5
                        go_wp2_with fail
                        obtain ⟨ht5, hc5, hs5⟩ := HT5.out
                        exact ⟨⟨n + 1, _, by omega, by go_num, ht5.setCell (a := ⟨eg, n, none⟩) (.inl rfl) _, heap_setCell_same _ _ n _ _ _ hc5, by simpa using hs5⟩, by simp [intOf]; omega⟩
                      · obtain rfl : n = 480 := by omega
                        have H6 := Lib.hid (And.intro ht5 (And.intro hc5 hs5))
                        rw [show ((480 : Nat) : Int) = 480 from rfl]
                        clear ht5 hc5 hs5
                        go_wp2_with fail
                        obtain ⟨ht4, hr4, hf4, -, -, -, -, hmem, -, -⟩ := H4.out
                        obtain ⟨tq, hr5, -⟩ := H5.out
                        obtain ⟨t6, hc6, hs6⟩ := H6.out
                        refine ⟨⟨q + 1, by omega, by go_num, ?_, t6.at hr5 (fun e => hnHq e.symm), ?_⟩, by simp [intOf]; omega⟩
                        · exact ((ht4.trans tq (fun j hj _ => .inl hj))).trans t6 (fun j hj _ => .inr ⟨_, hmem, hj⟩)
                        · intro e he
                          obtain ⟨e1, c', e2, e3⟩ := hf4 e he
                          refine ⟨e1, ?_⟩
                          by_cases hg : e.g = eg
                          · rw [hg]; exact ⟨c, hc6, hs6⟩
                          · exact ⟨c', t6.at (tq.at e2 (fun h => HC.out.2.2.2.2.2.1 e he h)) hg, e3⟩
                  · obtain rfl : q = len := by omega
                    have hG4 := GC.out.touch ht4 (fun j hj => .inl (hj.elim (fun e => .inl e) (fun ⟨e, he, hje⟩ => .inr (by rw [hje]; exact HC.out.2.2.2.2.2.2 e he))))
                    have H7 := Lib.hid (show wr.heap[gH]? = some (.cells (Tb.rowT 10 (hputs h E (fun j => ((d + j) % 256).toNat) E.length)).toArray 3 (0, 0)) by rw [HE.out]; exact hr4)
                    have G7 := Lib.hid (hG4.sub (Z := fun j => j = gH) (fun j hj => .inl hj))
                    have ST := state_any G7.out.jat
                    rw [HN'.out] at ST
                    have ST := Lib.hid ST
                    clear ht4 hr4 hf4 hG4 hq hltq
                    go_wp2_with fail
                    refine ST.out.mono ?_
                    rintro e wG ⟨⟨gT, rfl, hgT, hrT⟩, hbG⟩
                    obtain ⟨O, hO⟩ : ∃ O : Obj, O = .cells #[.int .u32 (s'.ep : Int), .int .u64 (s'.st : Int), .int .u64 (s'.sq : Int), .int .i64 (s'.head : Int), .int .i64 (s'.used : Int), .slice (some ⟨gT, 0, none⟩) 10 10] 35 (0, 0) := ⟨_, rfl⟩
                    have ba : Below wr.heap.size wr (wG.alloc O) := hbG.alloc hbG.size _
                    have hTT : (wG.alloc O).heap[gT]? = some (.cells (Tb.rowT 10 s'.a).toArray 3 (0, 0)) := (Below.heap_alloc wG _ _ (lt_of_heap hrT)).trans hrT
                    have hTg : gT ≠ gH := fun e => by have := lt_of_heap H7.out; omega
                    have h8 : (wG.alloc O).heap[gH]? = some (.cells (Tb.rowT 10 (hputs h E (fun j => ((d + j) % 256).toNat) E.length)).toArray 3 (0, 0)) := (ba.block _ (lt_of_heap H7.out)).trans H7.out
                    have h9 : (wG.alloc O).heap[wG.heap.size]? = some O := heap_alloc_new wG O
                    have h10 : wG.heap.size ≠ gT := fun e => by have := lt_of_heap hrT; omega
                    have G8 := Lib.hid (G7.out.grow (Z := fun j => j = gH ∨ j = gT) ba (fun j hj => hj.elim .inl (fun e => .inr ⟨by omega, by have := lt_of_heap hTT; omega⟩)))
                    generalize hpT : wG.heap.size = pT at h9 h10
                    rw [hO] at G8 hTT h8 h9
                    have H8 := Lib.hid (And.intro h8 (And.intro hTT (And.intro h9 (And.intro hTg h10))))
                    clear ST G7 ba hgT hrT hbG hO O hTT h8 h9 H7 hTg h10
                    go_wp2_with fail
                    clear hpT
                    generalize wG.alloc (.cells #[.int .u32 (s'.ep : Int), .int .u64 (s'.st : Int), .int .u64 (s'.sq : Int), .int .i64 (s'.head : Int), .int .i64 (s'.used : Int), .slice (some ⟨gT, 0, none⟩) 10 10] 35) = wH at G8 H8 ⊢
                    go_loopw [19] (fun i wr6 => ∃ (n : Nat) (c : Array Value), n ≤ 10 ∧ i = .int .i64 n ∧ Touch (fun j => j = gT) wH wr6 ∧ wr6.heap[gT]? = some (.cells c 3 (0, 0)) ∧ c.size = 10) (fun i _ => 10 - (intOf i).toNat)
                    case atStart => exact ⟨0, _, Nat.zero_le _, rfl, Touch.refl _ _, H8.out.2.1, by simp [Tb.rowT]⟩
                    case round =>
                      obtain ⟨n, c, hn, rfl, ht6, hc6, hs6⟩ := hrel
                      have c5 := cell_of_row wr pT 5 _ _ _ (ht6.at H8.out.2.2.1 (fun e => H8.out.2.2.2.2 e))
                      by_cases hltn : n < 10
                      · have hn1 : (n : Int) < 10 := by omega
                        have cn := cell_of_row wr gT n _ _ _ hc6
                        have fn := frozen_of_row wr gT n _ _ hc6
                        obtain ⟨un, hun⟩ : ∃ u, c[n]? = some u := ⟨_, Array.getElem?_eq_getElem (show n < c.size by omega)⟩
                        rw [hun] at cn
                        clear hun
                        have HT6 := Lib.hid (And.intro ht6 (And.intro hc6 hs6))
                        clear ht6 hc6 hs6
                        go_wp2_with fail
                        obtain ⟨ht6, hc6, hs6⟩ := HT6.out
                        exact ⟨⟨n + 1, _, by omega, by go_num, ht6.setCell (a := ⟨gT, n, none⟩) (.inl rfl) _, heap_setCell_same _ _ n _ _ _ hc6, by simpa using hs6⟩, by simp [intOf]; omega⟩
                      · obtain rfl : n = 10 := by omega
                        have G9 := Lib.hid (((G8.out.touch ht6 (fun j hj => .inl (.inr hj))).sub (Z := fun j => j = gH) (fun j hj => .inl hj)))
                        have H9 := Lib.hid (ht6.at H8.out.1 (fun e => H8.out.2.2.2.1 e.symm))
                        rw [show ((10 : Nat) : Int) = 10 from rfl]
                        clear ht6 hc6 hs6
                        go_wp2_with fail
                        have hD : HasD 10 (hputs h E (fun j => ((d + j) % 256).toNat) E.length) (datB E dat) := HN.out.2.1.batch (fun i hi => by
                          rw [WF.out.2.2.1 i hi]
                          have e : ((((d + (i : Int)) % 256).toNat : Nat) : Int) = (d + i) % 256 := by omega
                          rw [e, blk_mod])
                        exact ⟨⟨k + 1, _, _, _, _, _, by omega, by go_num, G9.out, H9.out, hD, HN'.out⟩, by simp [intOf]; omega⟩
            · have hkk : n0 ≤ 40 ∧ k = n0 ∧ (n0 : Int) ≤ 40 ∨ 40 < n0 ∧ k = 40 ∧ (40 : Int) < (n0 : Int) := by omega
              have G3 := Lib.hid (hG.more (c' := 40) (by omega))
              have R3 := Lib.hid (And.intro hR (And.intro hH hN))
              clear hG hR hH hN hk hlt
              rcases hkk with ⟨h1, rfl, h2⟩ | ⟨h1, rfl, h2⟩
              all_goals
                try rw [show ((40 : Nat) : Int) = 40 from rfl]
                go_wp2_with fail
                go_loopw [20] (fun i wr7 => ∃ (k7 : Nat) (ds7 : DSt), k7 ≤ 10 ∧ i = .int .i64 k7 ∧ Gs w A (fun j => j = gH) s t ds7 dat (40 + 2 * k7) wr7 ∧ wr7.heap[gH]? = some (.cells (Tb.rowT 10 h).toArray 3 (0, 0))) (fun i _ => 10 - (intOf i).toNat)
                case atStart => exact ⟨0, ds, Nat.zero_le _, rfl, G3.out, R3.out.1⟩
                case round =>
                  obtain ⟨k7, ds7, hk7, rfl, hG7, hR7⟩ := hrel
                  by_cases hlt7 : k7 < 10
                  · have hk8 : k7 < 10 := hlt7
                    have hk9 : (k7 : Int) < 10 := by omega
                    have H7 := Lib.hid (And.intro hG7 hR7)
                    clear hG7 hR7 hk7
                    go_wp2_with fail
                    go_loopw [21] (fun i wr8 => ∃ (a : Nat) (ds8 : DSt), a ≤ 2 ∧ i = .int .i64 a ∧ Gs w A (fun j => j = gH) s t ds8 dat (40 + 2 * k7 + a) wr8 ∧ wr8.heap[gH]? = some (.cells (Tb.rowT 10 h).toArray 3 (0, 0))) (fun i _ => 2 - (intOf i).toNat)
                    case atStart => exact ⟨0, ds7, Nat.zero_le _, rfl, H7.out.1, H7.out.2⟩
                    case round =>
                      obtain ⟨a, ds8, ha, rfl, hG8, hR8⟩ := hrel
                      by_cases hlt8 : a < 2
                      · have ha1 : (a : Int) < 2 := by omega
                        have RD := Lib.hid (hG8.read (by omega) (id := k7) (by rw [R3.out.2.2]; exact hk8))
                        have H8 := Lib.hid (And.intro hG8 hR8)
                        clear hG8 hR8 ha
                        go_wp2_with fail
                        refine RD.out.mono ?_
                        rintro e wA ⟨⟨vA, rfl, gA, capA, rfl, hcapA, hbA, hoA⟩, tA, ds9, F', hj', hF', hG9, -⟩
                        have hdl := R3.out.2.1.len hk8
                        have hbv := hoA.bv _ capA rfl hcapA
                        rw [hdl]
                        have hgA : gA ≠ gH := fun e => by have := (H8.out.1.ylt gH rfl).2; omega
                        have hrA := tA.at H8.out.2 (fun hg => hg.2 rfl)
                        obtain ⟨curA, hcA, htkA⟩ := hoA
                        have hszA : 480 ≤ curA.size := by
                          have h1 := congrArg List.length htkA
                          simp only [List.length_take, hdl] at h1
                          rw [Array.length_toList] at h1
                          simp only [List.length_map, hdl] at h1
                          omega
                        have GA := Lib.hid (H8.out.1.of_read hj' hF' hG9 (Z := fun j => j = gH ∨ j = gA) (fun j hj => hj.elim .inl (fun e => .inr ⟨by omega, by rw [e]; exact lt_of_heap hcA⟩)))
                        have HA := Lib.hid (And.intro hrA (And.intro hbv (And.intro hcA (And.intro hszA hgA))))
                        have hhd := R3.out.2.1 k7 hk8
                        clear RD tA hj' hF' hG9 hbv hrA hcA htkA hcapA hbA hszA
                        cases hx : h k7 with
                        | none =>
                          have hdx := hhd
                          rw [hx] at hdx
                          simp only at hdx
                          clear hhd
                          go_wp2_with fail
                          have kh : ∀ W : World, Below wA.heap.size wA W → W.cell? ⟨gH, k7, none⟩ = some (.int .i64 (-1)) := fun W hW => by
                            have h1 := row_cell ((hW.block _ (lt_of_heap HA.out.1)).trans HA.out.1) hk8
                            rw [hx] at h1
                            exact h1
                          have kv : ∀ W : World, Below wA.heap.size wA W → (convert 41 9 (.slice (some ⟨gA, 0, none⟩) 480 capA)).run Try.prog W = .ok (.string ⟨(zerosL 480).toArray⟩) W := fun W hW => by
                            have h1 := run_convBytes (HA.out.2.1.below hW).reads
                            rw [hdx] at h1
                            rwa [zerosL_length] at h1
                          refine wp_region_held_drew (S := fun W => Below wA.heap.size wA W) (by kernel_rfl) ((Below.refl _ wA).drew) (fun hHeld => ?_)
                          refine wpAnyH_take (i := 0) (oi := { dst := some 161, op := Go.Op.move (Go.Operand.tmp 23), type := 25, pos := "more.go:52", after := #[], guard := none }) (v := ?_) rfl (by kernel_rfl) (by kernel_rfl) (by kernel_rfl) (fun _ _ _ h => h) (Or.inl ⟨by rfl, ?_⟩) (by assumption) ?_
                          rotate_left
                          · intro W hSW
                            go_simp
                            try with_reducible rfl
                          try simp only [Act.put, List.setIfInBounds_toArray, List.set_cons_zero, List.set_cons_succ]
                          refine wpAnyH_take (i := 1) (oi := { dst := some 162, op := Go.Op.binOp Go.BinOp.neq 25 (Go.Operand.tmp 161) (Go.Operand.const (Go.Value.int Go.IntKind.i64 0)) 25, type := 4, pos := "more.go:52", after := #[{ on := 0, ground := Go.Ground.data }], guard := none }) (v := ?_) rfl (by kernel_rfl) (by kernel_rfl) (by kernel_rfl) (fun _ _ _ h => h) (Or.inl ⟨by rfl, ?_⟩) (by assumption) ?_
                          rotate_left
                          · intro W hSW
                            go_simp
                            try with_reducible rfl
                          try simp only [Act.put, List.setIfInBounds_toArray, List.set_cons_zero, List.set_cons_succ]
                          refine wpAnyH_take (i := 2) (oi := { dst := some 163, op := Go.Op.move (Go.Operand.tmp 162), type := 4, pos := "more.go:52", after := #[{ on := 1, ground := Go.Ground.data }], guard := none }) (v := ?_) rfl (by kernel_rfl) (by kernel_rfl) (by kernel_rfl) (fun _ _ _ h => h) (Or.inl ⟨by rfl, ?_⟩) (by assumption) ?_
                          rotate_left
                          · intro W hSW
                            go_simp
                            try with_reducible rfl
                          try simp only [Act.put, List.setIfInBounds_toArray, List.set_cons_zero, List.set_cons_succ]
                          refine wpAnyH_take (i := 3) (oi := { dst := some 164, op := Go.Op.move (Go.Operand.tmp 22), type := 41, pos := "more.go:52", after := #[{ on := 2, ground := Go.Ground.guard }], guard := some (2, false) }) (v := ?_) rfl (by kernel_rfl) (by kernel_rfl) (by kernel_rfl) (fun _ _ _ h => h) (Or.inl ⟨by rfl, ?_⟩) (by assumption) ?_
                          rotate_left
                          · intro W hSW
                            go_simp
                            try with_reducible rfl
                          try simp only [Act.put, List.setIfInBounds_toArray, List.set_cons_zero, List.set_cons_succ]
                          refine wpAnyH_take (i := 4) (oi := { dst := some 165, op := Go.Op.call { callee := Go.Callee.builtin Go.Builtin.len, args := #[Go.Operand.tmp 164], argTypes := #[41] }, type := 3, pos := "more.go:52", after := #[{ on := 3, ground := Go.Ground.data }, { on := 2, ground := Go.Ground.guard }], guard := some (2, false) }) (v := ?_) rfl (by kernel_rfl) (by kernel_rfl) (by kernel_rfl) (fun _ _ _ h => h) (Or.inl ⟨by rfl, ?_⟩) (by assumption) ?_
                          rotate_left
                          · intro W hSW
                            go_simp
                            try with_reducible rfl
                          try simp only [Act.put, List.setIfInBounds_toArray, List.set_cons_zero, List.set_cons_succ]
                          refine wpAnyH_take (i := 5) (oi := { dst := some 166, op := Go.Op.binOp Go.BinOp.neq 3 (Go.Operand.tmp 165) (Go.Operand.const (Go.Value.int Go.IntKind.i64 480)) 3, type := 4, pos := "more.go:52", after := #[{ on := 4, ground := Go.Ground.data }, { on := 2, ground := Go.Ground.guard }], guard := some (2, false) }) (v := ?_) rfl (by kernel_rfl) (by kernel_rfl) (by kernel_rfl) (fun _ _ _ h => h) (Or.inl ⟨by rfl, ?_⟩) (by assumption) ?_
                          rotate_left
                          · intro W hSW
                            go_simp
                            try with_reducible rfl
                          try simp only [Act.put, List.setIfInBounds_toArray, List.set_cons_zero, List.set_cons_succ]
                          refine wpAnyH_take (i := 6) (oi := { dst := some 167, op := Go.Op.pick (Go.Operand.tmp 163) (Go.Operand.const (Go.Value.bool true)) (Go.Operand.tmp 166), type := 4, pos := "more.go:52", after := #[{ on := 2, ground := Go.Ground.data }, { on := 5, ground := Go.Ground.data }], guard := none }) (v := ?_) rfl (by kernel_rfl) (by kernel_rfl) (by kernel_rfl) (fun _ _ _ h => h) (Or.inl ⟨by rfl, ?_⟩) (by assumption) ?_
                          rotate_left
                          · intro W hSW
                            go_simp
                            try with_reducible rfl
                          try simp only [Act.put, List.setIfInBounds_toArray, List.set_cons_zero, List.set_cons_succ]
                          refine wpAnyH_take (i := 7) (oi := { dst := some 168, op := Go.Op.move (Go.Operand.tmp 167), type := 4, pos := "more.go:52", after := #[{ on := 6, ground := Go.Ground.data }, { on := 2, ground := Go.Ground.chain }], guard := none }) (v := ?_) rfl (by kernel_rfl) (by kernel_rfl) (by kernel_rfl) (fun _ _ _ h => h) (Or.inl ⟨by rfl, ?_⟩) (by assumption) ?_
                          rotate_left
                          · intro W hSW
                            go_simp
                            try with_reducible rfl
                          try simp only [Act.put, List.setIfInBounds_toArray, List.set_cons_zero, List.set_cons_succ]
                          refine wpAnyH_take (i := 8) (oi := { dst := some 169, op := Go.Op.move (Go.Operand.tmp 10), type := 33, pos := "more.go:52", after := #[{ on := 7, ground := Go.Ground.guard }], guard := some (7, false) }) (v := ?_) rfl (by kernel_rfl) (by kernel_rfl) (by kernel_rfl) (fun _ _ _ h => h) (Or.inl ⟨by rfl, ?_⟩) (by assumption) ?_
                          rotate_left
                          · intro W hSW
                            go_simp
                            try with_reducible rfl
                          try simp only [Act.put, List.setIfInBounds_toArray, List.set_cons_zero, List.set_cons_succ]
                          refine wpAnyH_take (i := 9) (oi := { dst := some 170, op := Go.Op.move (Go.Operand.tmp 20), type := 3, pos := "more.go:52", after := #[{ on := 7, ground := Go.Ground.guard }], guard := some (7, false) }) (v := ?_) rfl (by kernel_rfl) (by kernel_rfl) (by kernel_rfl) (fun _ _ _ h => h) (Or.inl ⟨by rfl, ?_⟩) (by assumption) ?_
                          rotate_left
                          · intro W hSW
                            go_simp
                            try with_reducible rfl
                          try simp only [Act.put, List.setIfInBounds_toArray, List.set_cons_zero, List.set_cons_succ]
                          refine wpAnyH_take (i := 10) (oi := { dst := some 171, op := Go.Op.indexAddr 33 (Go.Operand.tmp 169) (Go.Operand.tmp 170), type := 0, pos := "more.go:52", after := #[{ on := 8, ground := Go.Ground.data }, { on := 9, ground := Go.Ground.data }, { on := 7, ground := Go.Ground.guard }], guard := some (7, false) }) (v := ?_) rfl (by kernel_rfl) (by kernel_rfl) (by kernel_rfl) (fun _ _ _ h => h) (Or.inl ⟨by rfl, ?_⟩) (by assumption) ?_
                          rotate_left
                          · intro W hSW
                            go_simp
                            try with_reducible rfl
                          try simp only [Act.put, List.setIfInBounds_toArray, List.set_cons_zero, List.set_cons_succ]
                          refine wpAnyH_take (i := 11) (oi := { dst := some 172, op := Go.Op.load 3 (Go.Operand.tmp 171), type := 3, pos := "more.go:52", after := #[{ on := 10, ground := Go.Ground.data }, { on := 7, ground := Go.Ground.guard }], guard := some (7, false) }) (v := ?_) rfl (by kernel_rfl) (by kernel_rfl) (by kernel_rfl) (fun _ _ _ h => h) (Or.inl ⟨by rfl, ?_⟩) (by assumption) ?_
                          rotate_left
                          · intro W hSW
                            have e0 := kh W hSW
                            go_simp
                            try with_reducible rfl
                          try simp only [Act.put, List.setIfInBounds_toArray, List.set_cons_zero, List.set_cons_succ]
                          refine wpAnyH_take (i := 12) (oi := { dst := some 173, op := Go.Op.binOp Go.BinOp.geq 3 (Go.Operand.tmp 172) (Go.Operand.const (Go.Value.int Go.IntKind.i64 0)) 3, type := 4, pos := "more.go:52", after := #[{ on := 11, ground := Go.Ground.data }, { on := 7, ground := Go.Ground.guard }], guard := some (7, false) }) (v := ?_) rfl (by kernel_rfl) (by kernel_rfl) (by kernel_rfl) (fun _ _ _ h => h) (Or.inl ⟨by rfl, ?_⟩) (by assumption) ?_
                          rotate_left
                          · intro W hSW
                            go_simp
                            try with_reducible rfl
                          try simp only [Act.put, List.setIfInBounds_toArray, List.set_cons_zero, List.set_cons_succ]
                          refine wpAnyH_take (i := 13) (oi := { dst := some 174, op := Go.Op.move (Go.Operand.tmp 173), type := 4, pos := "more.go:52", after := #[{ on := 12, ground := Go.Ground.data }, { on := 7, ground := Go.Ground.chain }, { on := 7, ground := Go.Ground.guard }], guard := some (7, false) }) (v := ?_) rfl (by kernel_rfl) (by kernel_rfl) (by kernel_rfl) (fun _ _ _ h => h) (Or.inl ⟨by rfl, ?_⟩) (by assumption) ?_
                          rotate_left
                          · intro W hSW
                            go_simp
                            try with_reducible rfl
                          try simp only [Act.put, List.setIfInBounds_toArray, List.set_cons_zero, List.set_cons_succ]
                          refine wpAnyH_take (i := 14) (oi := { dst := some 175, op := Go.Op.move (Go.Operand.tmp 22), type := 41, pos := "more.go:52", after := #[{ on := 13, ground := Go.Ground.guard }], guard := some (13, true) }) (v := undef) rfl (by kernel_rfl) (by kernel_rfl) (by kernel_rfl) (fun _ _ _ h => h) (Or.inr ⟨by rfl, rfl⟩) (by assumption) ?_
                          try simp only [Act.put, List.setIfInBounds_toArray, List.set_cons_zero, List.set_cons_succ]
                          refine wpAnyH_take (i := 15) (oi := { dst := some 176, op := Go.Op.convert 41 9 (Go.Operand.tmp 175), type := 9, pos := "more.go:52", after := #[{ on := 14, ground := Go.Ground.data }, { on := 13, ground := Go.Ground.guard }], guard := some (13, true) }) (v := undef) rfl (by kernel_rfl) (by kernel_rfl) (by kernel_rfl) (fun _ _ _ h => h) (Or.inr ⟨by rfl, rfl⟩) (by assumption) ?_
                          try simp only [Act.put, List.setIfInBounds_toArray, List.set_cons_zero, List.set_cons_succ]
                          refine wpAnyH_take (i := 16) (oi := { dst := some 177, op := Go.Op.move (Go.Operand.tmp 10), type := 33, pos := "more.go:52", after := #[{ on := 13, ground := Go.Ground.guard }], guard := some (13, true) }) (v := undef) rfl (by kernel_rfl) (by kernel_rfl) (by kernel_rfl) (fun _ _ _ h => h) (Or.inr ⟨by rfl, rfl⟩) (by assumption) ?_
                          try simp only [Act.put, List.setIfInBounds_toArray, List.set_cons_zero, List.set_cons_succ]
                          refine wpAnyH_take (i := 17) (oi := { dst := some 178, op := Go.Op.move (Go.Operand.tmp 20), type := 3, pos := "more.go:52", after := #[{ on := 13, ground := Go.Ground.guard }], guard := some (13, true) }) (v := undef) rfl (by kernel_rfl) (by kernel_rfl) (by kernel_rfl) (fun _ _ _ h => h) (Or.inr ⟨by rfl, rfl⟩) (by assumption) ?_
                          try simp only [Act.put, List.setIfInBounds_toArray, List.set_cons_zero, List.set_cons_succ]
                          refine wpAnyH_take (i := 18) (oi := { dst := some 179, op := Go.Op.indexAddr 33 (Go.Operand.tmp 177) (Go.Operand.tmp 178), type := 0, pos := "more.go:52", after := #[{ on := 16, ground := Go.Ground.data }, { on := 17, ground := Go.Ground.data }, { on := 13, ground := Go.Ground.guard }], guard := some (13, true) }) (v := undef) rfl (by kernel_rfl) (by kernel_rfl) (by kernel_rfl) (fun _ _ _ h => h) (Or.inr ⟨by rfl, rfl⟩) (by assumption) ?_
                          try simp only [Act.put, List.setIfInBounds_toArray, List.set_cons_zero, List.set_cons_succ]
                          refine wpAnyH_take (i := 19) (oi := { dst := some 180, op := Go.Op.load 3 (Go.Operand.tmp 179), type := 3, pos := "more.go:52", after := #[{ on := 18, ground := Go.Ground.data }, { on := 13, ground := Go.Ground.guard }], guard := some (13, true) }) (v := undef) rfl (by kernel_rfl) (by kernel_rfl) (by kernel_rfl) (fun _ _ _ h => h) (Or.inr ⟨by rfl, rfl⟩) (by assumption) ?_
                          try simp only [Act.put, List.setIfInBounds_toArray, List.set_cons_zero, List.set_cons_succ]
                          refine wpAnyH_ready (rs := [20]) (by kernel_rfl) (by simp) ?_
                          refine AllReadyH.cons (o := { dst := some 181, op := Go.Op.call { callee := Go.Callee.value (Go.Operand.func 12), args := #[Go.Operand.tmp 180], argTypes := #[3] }, type := 41, pos := "more.go:52", after := #[{ on := 19, ground := Go.Ground.data }, { on := 13, ground := Go.Ground.chain }, { on := 13, ground := Go.Ground.guard }], guard := some (13, true) }) rfl (fun K hK => ?_) AllReadyH.nil
                          go_simp
                          refine hK.out _ _ (hHeld) (fun hHeld => ?_)
                          clear hK K
                          try simp only [Act.put, List.setIfInBounds_toArray, List.set_cons_zero, List.set_cons_succ]
                          refine wpAnyH_take (i := 21) (oi := { dst := some 182, op := Go.Op.convert 41 9 (Go.Operand.tmp 181), type := 9, pos := "more.go:52", after := #[{ on := 20, ground := Go.Ground.data }, { on := 13, ground := Go.Ground.guard }], guard := some (13, true) }) (v := undef) rfl (by kernel_rfl) (by kernel_rfl) (by kernel_rfl) (fun _ _ _ h => h) (Or.inr ⟨by rfl, rfl⟩) (by assumption) ?_
                          try simp only [Act.put, List.setIfInBounds_toArray, List.set_cons_zero, List.set_cons_succ]
                          refine wpAnyH_take (i := 22) (oi := { dst := some 183, op := Go.Op.binOp Go.BinOp.neq 9 (Go.Operand.tmp 176) (Go.Operand.tmp 182) 9, type := 4, pos := "more.go:52", after := #[{ on := 15, ground := Go.Ground.data }, { on := 21, ground := Go.Ground.data }, { on := 13, ground := Go.Ground.guard }], guard := some (13, true) }) (v := undef) rfl (by kernel_rfl) (by kernel_rfl) (by kernel_rfl) (fun _ _ _ h => h) (Or.inr ⟨by rfl, rfl⟩) (by assumption) ?_
                          try simp only [Act.put, List.setIfInBounds_toArray, List.set_cons_zero, List.set_cons_succ]
                          refine wpAnyH_take (i := 23) (oi := { dst := some 184, op := Go.Op.pick (Go.Operand.tmp 174) (Go.Operand.tmp 183) (Go.Operand.const (Go.Value.bool false)), type := 4, pos := "more.go:52", after := #[{ on := 13, ground := Go.Ground.data }, { on := 22, ground := Go.Ground.data }, { on := 7, ground := Go.Ground.guard }], guard := some (7, false) }) (v := ?_) rfl (by kernel_rfl) (by kernel_rfl) (by kernel_rfl) (fun _ _ _ h => h) (Or.inl ⟨by rfl, ?_⟩) (by assumption) ?_
                          rotate_left
                          · intro W hSW
                            go_simp
                            try with_reducible rfl
                          try simp only [Act.put, List.setIfInBounds_toArray, List.set_cons_zero, List.set_cons_succ]
                          refine wpAnyH_take (i := 24) (oi := { dst := some 185, op := Go.Op.pick (Go.Operand.tmp 168) (Go.Operand.const (Go.Value.bool true)) (Go.Operand.tmp 184), type := 4, pos := "more.go:52", after := #[{ on := 7, ground := Go.Ground.data }, { on := 23, ground := Go.Ground.data }], guard := none }) (v := ?_) rfl (by kernel_rfl) (by kernel_rfl) (by kernel_rfl) (fun _ _ _ h => h) (Or.inl ⟨by rfl, ?_⟩) (by assumption) ?_
                          rotate_left
                          · intro W hSW
                            go_simp
                            try with_reducible rfl
                          try simp only [Act.put, List.setIfInBounds_toArray, List.set_cons_zero, List.set_cons_succ]
                          refine wpAnyH_take (i := 25) (oi := { dst := some 186, op := Go.Op.move (Go.Operand.tmp 185), type := 4, pos := "more.go:52", after := #[{ on := 24, ground := Go.Ground.data }, { on := 20, ground := Go.Ground.chain }], guard := none }) (v := ?_) rfl (by kernel_rfl) (by kernel_rfl) (by kernel_rfl) (fun _ _ _ h => h) (Or.inl ⟨by rfl, ?_⟩) (by assumption) ?_
                          rotate_left
                          · intro W hSW
                            go_simp
                            try with_reducible rfl
                          try simp only [Act.put, List.setIfInBounds_toArray, List.set_cons_zero, List.set_cons_succ]
                          refine wpAnyH_take (i := 26) (oi := { dst := some 187, op := Go.Op.move (Go.Operand.tmp 10), type := 33, pos := "more.go:52", after := #[{ on := 25, ground := Go.Ground.guard }], guard := some (25, false) }) (v := ?_) rfl (by kernel_rfl) (by kernel_rfl) (by kernel_rfl) (fun _ _ _ h => h) (Or.inl ⟨by rfl, ?_⟩) (by assumption) ?_
                          rotate_left
                          · intro W hSW
                            go_simp
                            try with_reducible rfl
                          try simp only [Act.put, List.setIfInBounds_toArray, List.set_cons_zero, List.set_cons_succ]
                          refine wpAnyH_take (i := 27) (oi := { dst := some 188, op := Go.Op.move (Go.Operand.tmp 20), type := 3, pos := "more.go:52", after := #[{ on := 25, ground := Go.Ground.guard }], guard := some (25, false) }) (v := ?_) rfl (by kernel_rfl) (by kernel_rfl) (by kernel_rfl) (fun _ _ _ h => h) (Or.inl ⟨by rfl, ?_⟩) (by assumption) ?_
                          rotate_left
                          · intro W hSW
                            go_simp
                            try with_reducible rfl
                          try simp only [Act.put, List.setIfInBounds_toArray, List.set_cons_zero, List.set_cons_succ]
                          refine wpAnyH_take (i := 28) (oi := { dst := some 189, op := Go.Op.indexAddr 33 (Go.Operand.tmp 187) (Go.Operand.tmp 188), type := 0, pos := "more.go:52", after := #[{ on := 26, ground := Go.Ground.data }, { on := 27, ground := Go.Ground.data }, { on := 25, ground := Go.Ground.guard }], guard := some (25, false) }) (v := ?_) rfl (by kernel_rfl) (by kernel_rfl) (by kernel_rfl) (fun _ _ _ h => h) (Or.inl ⟨by rfl, ?_⟩) (by assumption) ?_
                          rotate_left
                          · intro W hSW
                            go_simp
                            try with_reducible rfl
                          try simp only [Act.put, List.setIfInBounds_toArray, List.set_cons_zero, List.set_cons_succ]
                          refine wpAnyH_take (i := 29) (oi := { dst := some 190, op := Go.Op.load 3 (Go.Operand.tmp 189), type := 3, pos := "more.go:52", after := #[{ on := 28, ground := Go.Ground.data }, { on := 25, ground := Go.Ground.guard }], guard := some (25, false) }) (v := ?_) rfl (by kernel_rfl) (by kernel_rfl) (by kernel_rfl) (fun _ _ _ h => h) (Or.inl ⟨by rfl, ?_⟩) (by assumption) ?_
                          rotate_left
                          · intro W hSW
                            have e0 := kh W hSW
                            go_simp
                            try with_reducible rfl
                          try simp only [Act.put, List.setIfInBounds_toArray, List.set_cons_zero, List.set_cons_succ]
                          refine wpAnyH_take (i := 30) (oi := { dst := some 191, op := Go.Op.binOp Go.BinOp.lss 3 (Go.Operand.tmp 190) (Go.Operand.const (Go.Value.int Go.IntKind.i64 0)) 3, type := 4, pos := "more.go:52", after := #[{ on := 29, ground := Go.Ground.data }, { on := 25, ground := Go.Ground.guard }], guard := some (25, false) }) (v := ?_) rfl (by kernel_rfl) (by kernel_rfl) (by kernel_rfl) (fun _ _ _ h => h) (Or.inl ⟨by rfl, ?_⟩) (by assumption) ?_
                          rotate_left
                          · intro W hSW
                            go_simp
                            try with_reducible rfl
                          try simp only [Act.put, List.setIfInBounds_toArray, List.set_cons_zero, List.set_cons_succ]
                          refine wpAnyH_take (i := 31) (oi := { dst := some 192, op := Go.Op.move (Go.Operand.tmp 191), type := 4, pos := "more.go:52", after := #[{ on := 30, ground := Go.Ground.data }, { on := 25, ground := Go.Ground.chain }, { on := 25, ground := Go.Ground.guard }], guard := some (25, false) }) (v := ?_) rfl (by kernel_rfl) (by kernel_rfl) (by kernel_rfl) (fun _ _ _ h => h) (Or.inl ⟨by rfl, ?_⟩) (by assumption) ?_
                          rotate_left
                          · intro W hSW
                            go_simp
                            try with_reducible rfl
                          try simp only [Act.put, List.setIfInBounds_toArray, List.set_cons_zero, List.set_cons_succ]
                          refine wpAnyH_take (i := 32) (oi := { dst := some 193, op := Go.Op.move (Go.Operand.tmp 22), type := 41, pos := "more.go:52", after := #[{ on := 31, ground := Go.Ground.guard }], guard := some (31, true) }) (v := ?_) rfl (by kernel_rfl) (by kernel_rfl) (by kernel_rfl) (fun _ _ _ h => h) (Or.inl ⟨by rfl, ?_⟩) (by assumption) ?_
                          rotate_left
                          · intro W hSW
                            go_simp
                            try with_reducible rfl
                          try simp only [Act.put, List.setIfInBounds_toArray, List.set_cons_zero, List.set_cons_succ]
                          refine wpAnyH_take (i := 33) (oi := { dst := some 194, op := Go.Op.convert 41 9 (Go.Operand.tmp 193), type := 9, pos := "more.go:52", after := #[{ on := 32, ground := Go.Ground.data }, { on := 31, ground := Go.Ground.guard }], guard := some (31, true) }) (v := ?_) rfl (by kernel_rfl) (by kernel_rfl) (by kernel_rfl) (fun _ _ _ h => h) (Or.inl ⟨by rfl, ?_⟩) (by assumption) ?_
                          rotate_left
                          · intro W hSW
                            have e0 := kv W hSW
                            go_simp
                            try with_reducible rfl
                          try simp only [Act.put, List.setIfInBounds_toArray, List.set_cons_zero, List.set_cons_succ]
                          have hmk := run_makeBytes wA.drew 480 (by omega) (by omega)
                          have hE : Below wA.heap.size wA (wA.drew.alloc (.cells (rowA (zerosL 480)) 5)) := (Below.refl _ wA).drew.alloc (Nat.le_refl _) _
                          have kZ : ∀ W : World, Below (wA.drew.alloc (.cells (rowA (zerosL 480)) 5)).heap.size (wA.drew.alloc (.cells (rowA (zerosL 480)) 5)) W → (convert 41 9 (.slice (some ⟨wA.heap.size, 0, none⟩) 480 480)).run Try.prog W = .ok (.string ⟨(zerosL 480).toArray⟩) W := fun W hW => run_convBytes ((BV.lit wA.drew _ _ (zerosL 480) 480 480 rfl (by rw [zerosL_length]) (Nat.le_refl _)).below hW).reads
                          refine wpAnyH_ready (rs := [34]) (by kernel_rfl) (by simp) ?_
                          refine AllReadyH.cons (o := { dst := some 195, op := Go.Op.makeSlice 41 (Go.Operand.const (Go.Value.int Go.IntKind.i64 480)) (Go.Operand.const (Go.Value.int Go.IntKind.i64 480)), type := 41, pos := "more.go:52", after := #[{ on := 31, ground := Go.Ground.guard }], guard := some (31, true) }) rfl (fun K hK => ?_) AllReadyH.nil
                          go_simp
                          refine hK.out _ _ (hE) (fun hHeld => ?_)
                          clear hK K
                          try simp only [Act.put, List.setIfInBounds_toArray, List.set_cons_zero, List.set_cons_succ]
                          refine wpAnyH_weaken (S' := fun W => Below (wA.drew.alloc (.cells (rowA (zerosL 480)) 5)).heap.size (wA.drew.alloc (.cells (rowA (zerosL 480)) 5)) W) (fun W h => hE.trans (h.mono hE.size)) _ _ _ _ ?_
                          replace hHeld := Below.refl (wA.drew.alloc (.cells (rowA (zerosL 480)) 5)).heap.size (wA.drew.alloc (.cells (rowA (zerosL 480)) 5))
                          refine wpAnyH_take (i := 35) (oi := { dst := some 196, op := Go.Op.convert 41 9 (Go.Operand.tmp 195), type := 9, pos := "more.go:52", after := #[{ on := 34, ground := Go.Ground.data }, { on := 31, ground := Go.Ground.guard }], guard := some (31, true) }) (v := ?_) rfl (by kernel_rfl) (by kernel_rfl) (by kernel_rfl) (fun _ _ _ h => h) (Or.inl ⟨by rfl, ?_⟩) (by assumption) ?_
                          rotate_left
                          · intro W hSW
                            have e0 := kZ W hSW
                            go_simp
                            try with_reducible rfl
                          try simp only [Act.put, List.setIfInBounds_toArray, List.set_cons_zero, List.set_cons_succ]
                          refine wpAnyH_take (i := 36) (oi := { dst := some 197, op := Go.Op.binOp Go.BinOp.neq 9 (Go.Operand.tmp 194) (Go.Operand.tmp 196) 9, type := 4, pos := "more.go:52", after := #[{ on := 33, ground := Go.Ground.data }, { on := 35, ground := Go.Ground.data }, { on := 31, ground := Go.Ground.guard }], guard := some (31, true) }) (v := ?_) rfl (by kernel_rfl) (by kernel_rfl) (by kernel_rfl) (fun _ _ _ h => h) (Or.inl ⟨by rfl, ?_⟩) (by assumption) ?_
                          rotate_left
                          · intro W hSW
                            go_simp
                            try with_reducible rfl
                          try simp only [Act.put, List.setIfInBounds_toArray, List.set_cons_zero, List.set_cons_succ]
                          refine wpAnyH_take (i := 37) (oi := { dst := some 198, op := Go.Op.pick (Go.Operand.tmp 192) (Go.Operand.tmp 197) (Go.Operand.const (Go.Value.bool false)), type := 4, pos := "more.go:52", after := #[{ on := 31, ground := Go.Ground.data }, { on := 36, ground := Go.Ground.data }, { on := 25, ground := Go.Ground.guard }], guard := some (25, false) }) (v := ?_) rfl (by kernel_rfl) (by kernel_rfl) (by kernel_rfl) (fun _ _ _ h => h) (Or.inl ⟨by rfl, ?_⟩) (by assumption) ?_
                          rotate_left
                          · intro W hSW
                            go_simp
                            try with_reducible rfl
                          try simp only [Act.put, List.setIfInBounds_toArray, List.set_cons_zero, List.set_cons_succ]
                          refine wpAnyH_take (i := 38) (oi := { dst := some 199, op := Go.Op.pick (Go.Operand.tmp 186) (Go.Operand.const (Go.Value.bool true)) (Go.Operand.tmp 198), type := 4, pos := "more.go:52", after := #[{ on := 25, ground := Go.Ground.data }, { on := 37, ground := Go.Ground.data }], guard := none }) (v := ?_) rfl (by kernel_rfl) (by kernel_rfl) (by kernel_rfl) (fun _ _ _ h => h) (Or.inl ⟨by rfl, ?_⟩) (by assumption) ?_
                          rotate_left
                          · intro W hSW
                            go_simp
                            try with_reducible rfl
                          try simp only [Act.put, List.setIfInBounds_toArray, List.set_cons_zero, List.set_cons_succ]
                          refine wpAnyH_done (by kernel_rfl) ?_ _
                          have hE : Below wA.heap.size wA ((wA.alloc (.cells (rowA (zerosL 480)) 5)).drew) := ((Below.refl _ wA).alloc (Nat.le_refl _) _).drew
                          have FIN := Lib.hid (show Gs w A (fun j => j = gH ∨ j = gA) s t ds9 dat (40 + 2 * k7 + a + 1) ((wA.alloc (.cells (rowA (zerosL 480)) 5)).drew) ∧ ((wA.alloc (.cells (rowA (zerosL 480)) 5)).drew).heap[gH]? = some (.cells (Tb.rowT 10 h).toArray 3 (0, 0)) ∧ ((wA.alloc (.cells (rowA (zerosL 480)) 5)).drew).heap[gA]? = some (.cells curA 5 (0, 0)) from
                            ⟨GA.out.low hE, (hE.block _ (lt_of_heap HA.out.1)).trans HA.out.1, (hE.block _ (lt_of_heap HA.out.2.2.1)).trans HA.out.2.2.1⟩)
                          obtain ⟨wR, hwR⟩ : ∃ wR, ((wA.alloc (.cells (rowA (zerosL 480)) 5)).drew) = wR := ⟨_, rfl⟩
                          rw [hwR] at FIN ⊢
                          clear hwR hE kZ kh kv hmk hHeld hx hdx
                          go_wp2_with fail
                          go_loopw [24] (fun i wr9 => ∃ (n : Nat) (c : Array Value), n ≤ 480 ∧ i = .int .i64 n ∧ Touch (fun j => j = gA) wR wr9 ∧ wr9.heap[gA]? = some (.cells c 5 (0, 0)) ∧ 480 ≤ c.size) (fun i _ => 480 - (intOf i).toNat)
                          case atStart => exact ⟨0, curA, Nat.zero_le _, rfl, Touch.refl _ _, FIN.out.2.2, HA.out.2.2.2.1⟩
                          case round =>
                            obtain ⟨n, c, hn, rfl, ht9, hc9, hs9⟩ := hrel
                            by_cases hltn : n < 480
                            · have hn1 : (n : Int) < 480 := by omega
                              have cn := cell_of_row wr gA n _ _ _ hc9
                              have fn := frozen_of_row wr gA n _ _ hc9
                              obtain ⟨un, hun⟩ : ∃ u, c[n]? = some u := ⟨_, Array.getElem?_eq_getElem (show n < c.size by omega)⟩
                              rw [hun] at cn
                              clear hun
                              have HT9 := Lib.hid (And.intro ht9 (And.intro hc9 hs9))
                              clear ht9 hc9 hs9
                              go_wp2_with fail
                              obtain ⟨ht9, hc9, hs9⟩ := HT9.out
                              exact ⟨⟨n + 1, _, by omega, by go_num, ht9.setCell (a := ⟨gA, n, none⟩) (.inl rfl) _, heap_setCell_same _ _ n _ _ _ hc9, by simpa using hs9⟩, by simp [intOf]; omega⟩
                            · obtain rfl : n = 480 := by omega
                              have G10 := Lib.hid ((((FIN.out.1.touch ht9 (fun j hj => .inl (.inr hj))).sub (Z := fun j => j = gH) (fun j hj => .inl hj))).more (c' := 40 + 2 * k7 + (a + 1)) (by omega))
                              have R10 := Lib.hid (ht9.at FIN.out.2.1 (fun e => HA.out.2.2.2.2 e.symm))
                              rw [show ((480 : Nat) : Int) = 480 from rfl]
                              clear ht9 hc9 hs9
                              go_wp2_with fail
                              exact ⟨⟨a + 1, ds9, by omega, by go_num, G10.out, R10.out⟩, by simp [intOf]; omega⟩
                        | some x =>
                          have hdx := hhd
                          rw [hx] at hdx
                          simp only at hdx
                          have hx0 : (x : Int) ≥ 0 := by omega
                          clear hhd
                          go_wp2_with fail
                          have kh : ∀ W : World, Below wA.heap.size wA W → W.cell? ⟨gH, k7, none⟩ = some (.int .i64 (x : Int)) := fun W hW => by
                            have h1 := row_cell ((hW.block _ (lt_of_heap HA.out.1)).trans HA.out.1) hk8
                            rw [hx] at h1
                            exact h1
                          have kv : ∀ W : World, Below wA.heap.size wA W → (convert 41 9 (.slice (some ⟨gA, 0, none⟩) 480 capA)).run Try.prog W = .ok (.string ⟨(blk x).toArray⟩) W := fun W hW => by
                            have h1 := run_convBytes (HA.out.2.1.below hW).reads
                            rw [hdx] at h1
                            rwa [blk_len] at h1
                          refine wp_region_held_drew (S := fun W => Below wA.heap.size wA W) (by kernel_rfl) ((Below.refl _ wA).drew) (fun hHeld => ?_)
                          refine wpAnyH_take (i := 0) (oi := { dst := some 161, op := Go.Op.move (Go.Operand.tmp 23), type := 25, pos := "more.go:52", after := #[], guard := none }) (v := ?_) rfl (by kernel_rfl) (by kernel_rfl) (by kernel_rfl) (fun _ _ _ h => h) (Or.inl ⟨by rfl, ?_⟩) (by assumption) ?_
                          rotate_left
                          · intro W hSW
                            go_simp
                            try with_reducible rfl
                          try simp only [Act.put, List.setIfInBounds_toArray, List.set_cons_zero, List.set_cons_succ]
                          refine wpAnyH_take (i := 1) (oi := { dst := some 162, op := Go.Op.binOp Go.BinOp.neq 25 (Go.Operand.tmp 161) (Go.Operand.const (Go.Value.int Go.IntKind.i64 0)) 25, type := 4, pos := "more.go:52", after := #[{ on := 0, ground := Go.Ground.data }], guard := none }) (v := ?_) rfl (by kernel_rfl) (by kernel_rfl) (by kernel_rfl) (fun _ _ _ h => h) (Or.inl ⟨by rfl, ?_⟩) (by assumption) ?_
                          rotate_left
                          · intro W hSW
                            go_simp
                            try with_reducible rfl
                          try simp only [Act.put, List.setIfInBounds_toArray, List.set_cons_zero, List.set_cons_succ]
                          refine wpAnyH_take (i := 2) (oi := { dst := some 163, op := Go.Op.move (Go.Operand.tmp 162), type := 4, pos := "more.go:52", after := #[{ on := 1, ground := Go.Ground.data }], guard := none }) (v := ?_) rfl (by kernel_rfl) (by kernel_rfl) (by kernel_rfl) (fun _ _ _ h => h) (Or.inl ⟨by rfl, ?_⟩) (by assumption) ?_
                          rotate_left
                          · intro W hSW
                            go_simp
                            try with_reducible rfl
                          try simp only [Act.put, List.setIfInBounds_toArray, List.set_cons_zero, List.set_cons_succ]
                          refine wpAnyH_take (i := 3) (oi := { dst := some 164, op := Go.Op.move (Go.Operand.tmp 22), type := 41, pos := "more.go:52", after := #[{ on := 2, ground := Go.Ground.guard }], guard := some (2, false) }) (v := ?_) rfl (by kernel_rfl) (by kernel_rfl) (by kernel_rfl) (fun _ _ _ h => h) (Or.inl ⟨by rfl, ?_⟩) (by assumption) ?_
                          rotate_left
                          · intro W hSW
                            go_simp
                            try with_reducible rfl
                          try simp only [Act.put, List.setIfInBounds_toArray, List.set_cons_zero, List.set_cons_succ]
                          refine wpAnyH_take (i := 4) (oi := { dst := some 165, op := Go.Op.call { callee := Go.Callee.builtin Go.Builtin.len, args := #[Go.Operand.tmp 164], argTypes := #[41] }, type := 3, pos := "more.go:52", after := #[{ on := 3, ground := Go.Ground.data }, { on := 2, ground := Go.Ground.guard }], guard := some (2, false) }) (v := ?_) rfl (by kernel_rfl) (by kernel_rfl) (by kernel_rfl) (fun _ _ _ h => h) (Or.inl ⟨by rfl, ?_⟩) (by assumption) ?_
                          rotate_left
                          · intro W hSW
                            go_simp
                            try with_reducible rfl
                          try simp only [Act.put, List.setIfInBounds_toArray, List.set_cons_zero, List.set_cons_succ]
                          refine wpAnyH_take (i := 5) (oi := { dst := some 166, op := Go.Op.binOp Go.BinOp.neq 3 (Go.Operand.tmp 165) (Go.Operand.const (Go.Value.int Go.IntKind.i64 480)) 3, type := 4, pos := "more.go:52", after := #[{ on := 4, ground := Go.Ground.data }, { on := 2, ground := Go.Ground.guard }], guard := some (2, false) }) (v := ?_) rfl (by kernel_rfl) (by kernel_rfl) (by kernel_rfl) (fun _ _ _ h => h) (Or.inl ⟨by rfl, ?_⟩) (by assumption) ?_
                          rotate_left
                          · intro W hSW
                            go_simp
                            try with_reducible rfl
                          try simp only [Act.put, List.setIfInBounds_toArray, List.set_cons_zero, List.set_cons_succ]
                          refine wpAnyH_take (i := 6) (oi := { dst := some 167, op := Go.Op.pick (Go.Operand.tmp 163) (Go.Operand.const (Go.Value.bool true)) (Go.Operand.tmp 166), type := 4, pos := "more.go:52", after := #[{ on := 2, ground := Go.Ground.data }, { on := 5, ground := Go.Ground.data }], guard := none }) (v := ?_) rfl (by kernel_rfl) (by kernel_rfl) (by kernel_rfl) (fun _ _ _ h => h) (Or.inl ⟨by rfl, ?_⟩) (by assumption) ?_
                          rotate_left
                          · intro W hSW
                            go_simp
                            try with_reducible rfl
                          try simp only [Act.put, List.setIfInBounds_toArray, List.set_cons_zero, List.set_cons_succ]
                          refine wpAnyH_take (i := 7) (oi := { dst := some 168, op := Go.Op.move (Go.Operand.tmp 167), type := 4, pos := "more.go:52", after := #[{ on := 6, ground := Go.Ground.data }, { on := 2, ground := Go.Ground.chain }], guard := none }) (v := ?_) rfl (by kernel_rfl) (by kernel_rfl) (by kernel_rfl) (fun _ _ _ h => h) (Or.inl ⟨by rfl, ?_⟩) (by assumption) ?_
                          rotate_left
                          · intro W hSW
                            go_simp
                            try with_reducible rfl
                          try simp only [Act.put, List.setIfInBounds_toArray, List.set_cons_zero, List.set_cons_succ]
                          refine wpAnyH_take (i := 8) (oi := { dst := some 169, op := Go.Op.move (Go.Operand.tmp 10), type := 33, pos := "more.go:52", after := #[{ on := 7, ground := Go.Ground.guard }], guard := some (7, false) }) (v := ?_) rfl (by kernel_rfl) (by kernel_rfl) (by kernel_rfl) (fun _ _ _ h => h) (Or.inl ⟨by rfl, ?_⟩) (by assumption) ?_
                          rotate_left
                          · intro W hSW
                            go_simp
                            try with_reducible rfl
                          try simp only [Act.put, List.setIfInBounds_toArray, List.set_cons_zero, List.set_cons_succ]
                          refine wpAnyH_take (i := 9) (oi := { dst := some 170, op := Go.Op.move (Go.Operand.tmp 20), type := 3, pos := "more.go:52", after := #[{ on := 7, ground := Go.Ground.guard }], guard := some (7, false) }) (v := ?_) rfl (by kernel_rfl) (by kernel_rfl) (by kernel_rfl) (fun _ _ _ h => h) (Or.inl ⟨by rfl, ?_⟩) (by assumption) ?_
                          rotate_left
                          · intro W hSW
                            go_simp
                            try with_reducible rfl
                          try simp only [Act.put, List.setIfInBounds_toArray, List.set_cons_zero, List.set_cons_succ]
                          refine wpAnyH_take (i := 10) (oi := { dst := some 171, op := Go.Op.indexAddr 33 (Go.Operand.tmp 169) (Go.Operand.tmp 170), type := 0, pos := "more.go:52", after := #[{ on := 8, ground := Go.Ground.data }, { on := 9, ground := Go.Ground.data }, { on := 7, ground := Go.Ground.guard }], guard := some (7, false) }) (v := ?_) rfl (by kernel_rfl) (by kernel_rfl) (by kernel_rfl) (fun _ _ _ h => h) (Or.inl ⟨by rfl, ?_⟩) (by assumption) ?_
                          rotate_left
                          · intro W hSW
                            go_simp
                            try with_reducible rfl
                          try simp only [Act.put, List.setIfInBounds_toArray, List.set_cons_zero, List.set_cons_succ]
                          refine wpAnyH_take (i := 11) (oi := { dst := some 172, op := Go.Op.load 3 (Go.Operand.tmp 171), type := 3, pos := "more.go:52", after := #[{ on := 10, ground := Go.Ground.data }, { on := 7, ground := Go.Ground.guard }], guard := some (7, false) }) (v := ?_) rfl (by kernel_rfl) (by kernel_rfl) (by kernel_rfl) (fun _ _ _ h => h) (Or.inl ⟨by rfl, ?_⟩) (by assumption) ?_
                          rotate_left
                          · intro W hSW
                            have e0 := kh W hSW
                            go_simp
                            try with_reducible rfl
                          try simp only [Act.put, List.setIfInBounds_toArray, List.set_cons_zero, List.set_cons_succ]
                          refine wpAnyH_take (i := 12) (oi := { dst := some 173, op := Go.Op.binOp Go.BinOp.geq 3 (Go.Operand.tmp 172) (Go.Operand.const (Go.Value.int Go.IntKind.i64 0)) 3, type := 4, pos := "more.go:52", after := #[{ on := 11, ground := Go.Ground.data }, { on := 7, ground := Go.Ground.guard }], guard := some (7, false) }) (v := ?_) rfl (by kernel_rfl) (by kernel_rfl) (by kernel_rfl) (fun _ _ _ h => h) (Or.inl ⟨by rfl, ?_⟩) (by assumption) ?_
                          rotate_left
                          · intro W hSW
                            go_simp
                            try with_reducible rfl
                          try simp only [Act.put, List.setIfInBounds_toArray, List.set_cons_zero, List.set_cons_succ]
                          refine wpAnyH_take (i := 13) (oi := { dst := some 174, op := Go.Op.move (Go.Operand.tmp 173), type := 4, pos := "more.go:52", after := #[{ on := 12, ground := Go.Ground.data }, { on := 7, ground := Go.Ground.chain }, { on := 7, ground := Go.Ground.guard }], guard := some (7, false) }) (v := ?_) rfl (by kernel_rfl) (by kernel_rfl) (by kernel_rfl) (fun _ _ _ h => h) (Or.inl ⟨by rfl, ?_⟩) (by assumption) ?_
                          rotate_left
                          · intro W hSW
                            go_simp
                            try with_reducible rfl
                          try simp only [Act.put, List.setIfInBounds_toArray, List.set_cons_zero, List.set_cons_succ]
                          refine wpAnyH_take (i := 14) (oi := { dst := some 175, op := Go.Op.move (Go.Operand.tmp 22), type := 41, pos := "more.go:52", after := #[{ on := 13, ground := Go.Ground.guard }], guard := some (13, true) }) (v := ?_) rfl (by kernel_rfl) (by kernel_rfl) (by kernel_rfl) (fun _ _ _ h => h) (Or.inl ⟨by rfl, ?_⟩) (by assumption) ?_
                          rotate_left
                          · intro W hSW
                            go_simp
                            try with_reducible rfl
                          try simp only [Act.put, List.setIfInBounds_toArray, List.set_cons_zero, List.set_cons_succ]
                          refine wpAnyH_take (i := 15) (oi := { dst := some 176, op := Go.Op.convert 41 9 (Go.Operand.tmp 175), type := 9, pos := "more.go:52", after := #[{ on := 14, ground := Go.Ground.data }, { on := 13, ground := Go.Ground.guard }], guard := some (13, true) }) (v := ?_) rfl (by kernel_rfl) (by kernel_rfl) (by kernel_rfl) (fun _ _ _ h => h) (Or.inl ⟨by rfl, ?_⟩) (by assumption) ?_
                          rotate_left
                          · intro W hSW
                            have e0 := kv W hSW
                            go_simp
                            try with_reducible rfl
                          try simp only [Act.put, List.setIfInBounds_toArray, List.set_cons_zero, List.set_cons_succ]
                          refine wpAnyH_take (i := 16) (oi := { dst := some 177, op := Go.Op.move (Go.Operand.tmp 10), type := 33, pos := "more.go:52", after := #[{ on := 13, ground := Go.Ground.guard }], guard := some (13, true) }) (v := ?_) rfl (by kernel_rfl) (by kernel_rfl) (by kernel_rfl) (fun _ _ _ h => h) (Or.inl ⟨by rfl, ?_⟩) (by assumption) ?_
                          rotate_left
                          · intro W hSW
                            go_simp
                            try with_reducible rfl
                          try simp only [Act.put, List.setIfInBounds_toArray, List.set_cons_zero, List.set_cons_succ]
                          refine wpAnyH_take (i := 17) (oi := { dst := some 178, op := Go.Op.move (Go.Operand.tmp 20), type := 3, pos := "more.go:52", after := #[{ on := 13, ground := Go.Ground.guard }], guard := some (13, true) }) (v := ?_) rfl (by kernel_rfl) (by kernel_rfl) (by kernel_rfl) (fun _ _ _ h => h) (Or.inl ⟨by rfl, ?_⟩) (by assumption) ?_
                          rotate_left
                          · intro W hSW
                            go_simp
                            try with_reducible rfl
                          try simp only [Act.put, List.setIfInBounds_toArray, List.set_cons_zero, List.set_cons_succ]
                          refine wpAnyH_take (i := 18) (oi := { dst := some 179, op := Go.Op.indexAddr 33 (Go.Operand.tmp 177) (Go.Operand.tmp 178), type := 0, pos := "more.go:52", after := #[{ on := 16, ground := Go.Ground.data }, { on := 17, ground := Go.Ground.data }, { on := 13, ground := Go.Ground.guard }], guard := some (13, true) }) (v := ?_) rfl (by kernel_rfl) (by kernel_rfl) (by kernel_rfl) (fun _ _ _ h => h) (Or.inl ⟨by rfl, ?_⟩) (by assumption) ?_
                          rotate_left
                          · intro W hSW
                            go_simp
                            try with_reducible rfl
                          try simp only [Act.put, List.setIfInBounds_toArray, List.set_cons_zero, List.set_cons_succ]
                          refine wpAnyH_take (i := 19) (oi := { dst := some 180, op := Go.Op.load 3 (Go.Operand.tmp 179), type := 3, pos := "more.go:52", after := #[{ on := 18, ground := Go.Ground.data }, { on := 13, ground := Go.Ground.guard }], guard := some (13, true) }) (v := ?_) rfl (by kernel_rfl) (by kernel_rfl) (by kernel_rfl) (fun _ _ _ h => h) (Or.inl ⟨by rfl, ?_⟩) (by assumption) ?_
                          rotate_left
                          · intro W hSW
                            have e0 := kh W hSW
                            go_simp
                            try with_reducible rfl
                          try simp only [Act.put, List.setIfInBounds_toArray, List.set_cons_zero, List.set_cons_succ]
                          refine wpAnyH_ready (rs := [20]) (by kernel_rfl) (by simp) ?_
                          refine AllReadyH.cons (o := { dst := some 181, op := Go.Op.call { callee := Go.Callee.value (Go.Operand.func 12), args := #[Go.Operand.tmp 180], argTypes := #[3] }, type := 41, pos := "more.go:52", after := #[{ on := 19, ground := Go.Ground.data }, { on := 13, ground := Go.Ground.chain }, { on := 13, ground := Go.Ground.guard }], guard := some (13, true) }) rfl (fun K hK => ?_) AllReadyH.nil
                          go_simp
                          go_at_call 12
                          refine (block_any _ _).mono ?_
                          rintro e wE ⟨rfl, hrE, hbE⟩
                          have hE : Below wA.heap.size wA wE := (Below.refl _ wA).drew.trans (hbE.mono (Nat.le_refl _))
                          have kE : ∀ W : World, Below wE.heap.size wE W → (convert 41 9 (.slice (some ⟨wA.heap.size, 0, none⟩) 480 480)).run Try.prog W = .ok (.string ⟨(blk x).toArray⟩) W := fun W hW => run_convBytes ((blk_bv hrE).below hW).reads
                          have kh2 : ∀ W : World, Below wE.heap.size wE W → W.cell? ⟨gH, k7, none⟩ = some (.int .i64 (x : Int)) := fun W hW => kh W (hE.trans (hW.mono hE.size))
                          refine hK.out _ _ (hE) (fun hHeld => ?_)
                          clear hK K
                          try simp only [Act.put, List.setIfInBounds_toArray, List.set_cons_zero, List.set_cons_succ]
                          refine wpAnyH_weaken (S' := fun W => Below wE.heap.size wE W) (fun W h => hE.trans (h.mono hE.size)) _ _ _ _ ?_
                          replace hHeld := Below.refl wE.heap.size wE
                          refine wpAnyH_take (i := 21) (oi := { dst := some 182, op := Go.Op.convert 41 9 (Go.Operand.tmp 181), type := 9, pos := "more.go:52", after := #[{ on := 20, ground := Go.Ground.data }, { on := 13, ground := Go.Ground.guard }], guard := some (13, true) }) (v := ?_) rfl (by kernel_rfl) (by kernel_rfl) (by kernel_rfl) (fun _ _ _ h => h) (Or.inl ⟨by rfl, ?_⟩) (by assumption) ?_
                          rotate_left
                          · intro W hSW
                            have e0 := kE W hSW
                            go_simp
                            try with_reducible rfl
                          try simp only [Act.put, List.setIfInBounds_toArray, List.set_cons_zero, List.set_cons_succ]
                          refine wpAnyH_take (i := 22) (oi := { dst := some 183, op := Go.Op.binOp Go.BinOp.neq 9 (Go.Operand.tmp 176) (Go.Operand.tmp 182) 9, type := 4, pos := "more.go:52", after := #[{ on := 15, ground := Go.Ground.data }, { on := 21, ground := Go.Ground.data }, { on := 13, ground := Go.Ground.guard }], guard := some (13, true) }) (v := ?_) rfl (by kernel_rfl) (by kernel_rfl) (by kernel_rfl) (fun _ _ _ h => h) (Or.inl ⟨by rfl, ?_⟩) (by assumption) ?_
                          rotate_left
                          · intro W hSW
                            go_simp
                            try with_reducible rfl
                          try simp only [Act.put, List.setIfInBounds_toArray, List.set_cons_zero, List.set_cons_succ]
                          refine wpAnyH_take (i := 23) (oi := { dst := some 184, op := Go.Op.pick (Go.Operand.tmp 174) (Go.Operand.tmp 183) (Go.Operand.const (Go.Value.bool false)), type := 4, pos := "more.go:52", after := #[{ on := 13, ground := Go.Ground.data }, { on := 22, ground := Go.Ground.data }, { on := 7, ground := Go.Ground.guard }], guard := some (7, false) }) (v := ?_) rfl (by kernel_rfl) (by kernel_rfl) (by kernel_rfl) (fun _ _ _ h => h) (Or.inl ⟨by rfl, ?_⟩) (by assumption) ?_
                          rotate_left
                          · intro W hSW
                            go_simp
                            try with_reducible rfl
                          try simp only [Act.put, List.setIfInBounds_toArray, List.set_cons_zero, List.set_cons_succ]
                          refine wpAnyH_take (i := 24) (oi := { dst := some 185, op := Go.Op.pick (Go.Operand.tmp 168) (Go.Operand.const (Go.Value.bool true)) (Go.Operand.tmp 184), type := 4, pos := "more.go:52", after := #[{ on := 7, ground := Go.Ground.data }, { on := 23, ground := Go.Ground.data }], guard := none }) (v := ?_) rfl (by kernel_rfl) (by kernel_rfl) (by kernel_rfl) (fun _ _ _ h => h) (Or.inl ⟨by rfl, ?_⟩) (by assumption) ?_
                          rotate_left
                          · intro W hSW
                            go_simp
                            try with_reducible rfl
                          try simp only [Act.put, List.setIfInBounds_toArray, List.set_cons_zero, List.set_cons_succ]
                          refine wpAnyH_take (i := 25) (oi := { dst := some 186, op := Go.Op.move (Go.Operand.tmp 185), type := 4, pos := "more.go:52", after := #[{ on := 24, ground := Go.Ground.data }, { on := 20, ground := Go.Ground.chain }], guard := none }) (v := ?_) rfl (by kernel_rfl) (by kernel_rfl) (by kernel_rfl) (fun _ _ _ h => h) (Or.inl ⟨by rfl, ?_⟩) (by assumption) ?_
                          rotate_left
                          · intro W hSW
                            go_simp
                            try with_reducible rfl
                          try simp only [Act.put, List.setIfInBounds_toArray, List.set_cons_zero, List.set_cons_succ]
                          refine wpAnyH_take (i := 26) (oi := { dst := some 187, op := Go.Op.move (Go.Operand.tmp 10), type := 33, pos := "more.go:52", after := #[{ on := 25, ground := Go.Ground.guard }], guard := some (25, false) }) (v := ?_) rfl (by kernel_rfl) (by kernel_rfl) (by kernel_rfl) (fun _ _ _ h => h) (Or.inl ⟨by rfl, ?_⟩) (by assumption) ?_
                          rotate_left
                          · intro W hSW
                            go_simp
                            try with_reducible rfl
                          try simp only [Act.put, List.setIfInBounds_toArray, List.set_cons_zero, List.set_cons_succ]
                          refine wpAnyH_take (i := 27) (oi := { dst := some 188, op := Go.Op.move (Go.Operand.tmp 20), type := 3, pos := "more.go:52", after := #[{ on := 25, ground := Go.Ground.guard }], guard := some (25, false) }) (v := ?_) rfl (by kernel_rfl) (by kernel_rfl) (by kernel_rfl) (fun _ _ _ h => h) (Or.inl ⟨by rfl, ?_⟩) (by assumption) ?_
                          rotate_left
                          · intro W hSW
                            go_simp
                            try with_reducible rfl
                          try simp only [Act.put, List.setIfInBounds_toArray, List.set_cons_zero, List.set_cons_succ]
                          refine wpAnyH_take (i := 28) (oi := { dst := some 189, op := Go.Op.indexAddr 33 (Go.Operand.tmp 187) (Go.Operand.tmp 188), type := 0, pos := "more.go:52", after := #[{ on := 26, ground := Go.Ground.data }, { on := 27, ground := Go.Ground.data }, { on := 25, ground := Go.Ground.guard }], guard := some (25, false) }) (v := ?_) rfl (by kernel_rfl) (by kernel_rfl) (by kernel_rfl) (fun _ _ _ h => h) (Or.inl ⟨by rfl, ?_⟩) (by assumption) ?_
                          rotate_left
                          · intro W hSW
                            go_simp
                            try with_reducible rfl
                          try simp only [Act.put, List.setIfInBounds_toArray, List.set_cons_zero, List.set_cons_succ]
                          refine wpAnyH_take (i := 29) (oi := { dst := some 190, op := Go.Op.load 3 (Go.Operand.tmp 189), type := 3, pos := "more.go:52", after := #[{ on := 28, ground := Go.Ground.data }, { on := 25, ground := Go.Ground.guard }], guard := some (25, false) }) (v := ?_) rfl (by kernel_rfl) (by kernel_rfl) (by kernel_rfl) (fun _ _ _ h => h) (Or.inl ⟨by rfl, ?_⟩) (by assumption) ?_
                          rotate_left
                          · intro W hSW
                            have e0 := kh2 W hSW
                            go_simp
                            try with_reducible rfl
                          try simp only [Act.put, List.setIfInBounds_toArray, List.set_cons_zero, List.set_cons_succ]
                          refine wpAnyH_take (i := 30) (oi := { dst := some 191, op := Go.Op.binOp Go.BinOp.lss 3 (Go.Operand.tmp 190) (Go.Operand.const (Go.Value.int Go.IntKind.i64 0)) 3, type := 4, pos := "more.go:52", after := #[{ on := 29, ground := Go.Ground.data }, { on := 25, ground := Go.Ground.guard }], guard := some (25, false) }) (v := ?_) rfl (by kernel_rfl) (by kernel_rfl) (by kernel_rfl) (fun _ _ _ h => h) (Or.inl ⟨by rfl, ?_⟩) (by assumption) ?_
                          rotate_left
                          · intro W hSW
                            go_simp
                            try with_reducible rfl
                          try simp only [Act.put, List.setIfInBounds_toArray, List.set_cons_zero, List.set_cons_succ]
                          refine wpAnyH_take (i := 31) (oi := { dst := some 192, op := Go.Op.move (Go.Operand.tmp 191), type := 4, pos := "more.go:52", after := #[{ on := 30, ground := Go.Ground.data }, { on := 25, ground := Go.Ground.chain }, { on := 25, ground := Go.Ground.guard }], guard := some (25, false) }) (v := ?_) rfl (by kernel_rfl) (by kernel_rfl) (by kernel_rfl) (fun _ _ _ h => h) (Or.inl ⟨by rfl, ?_⟩) (by assumption) ?_
                          rotate_left
                          · intro W hSW
                            go_simp
                            try with_reducible rfl
                          try simp only [Act.put, List.setIfInBounds_toArray, List.set_cons_zero, List.set_cons_succ]
                          refine wpAnyH_take (i := 32) (oi := { dst := some 193, op := Go.Op.move (Go.Operand.tmp 22), type := 41, pos := "more.go:52", after := #[{ on := 31, ground := Go.Ground.guard }], guard := some (31, true) }) (v := undef) rfl (by kernel_rfl) (by kernel_rfl) (by kernel_rfl) (fun _ _ _ h => h) (Or.inr ⟨by rfl, rfl⟩) (by assumption) ?_
                          try simp only [Act.put, List.setIfInBounds_toArray, List.set_cons_zero, List.set_cons_succ]
                          refine wpAnyH_take (i := 33) (oi := { dst := some 194, op := Go.Op.convert 41 9 (Go.Operand.tmp 193), type := 9, pos := "more.go:52", after := #[{ on := 32, ground := Go.Ground.data }, { on := 31, ground := Go.Ground.guard }], guard := some (31, true) }) (v := undef) rfl (by kernel_rfl) (by kernel_rfl) (by kernel_rfl) (fun _ _ _ h => h) (Or.inr ⟨by rfl, rfl⟩) (by assumption) ?_
                          try simp only [Act.put, List.setIfInBounds_toArray, List.set_cons_zero, List.set_cons_succ]
                          refine wpAnyH_take (i := 34) (oi := { dst := some 195, op := Go.Op.makeSlice 41 (Go.Operand.const (Go.Value.int Go.IntKind.i64 480)) (Go.Operand.const (Go.Value.int Go.IntKind.i64 480)), type := 41, pos := "more.go:52", after := #[{ on := 31, ground := Go.Ground.guard }], guard := some (31, true) }) (v := undef) rfl (by kernel_rfl) (by kernel_rfl) (by kernel_rfl) (fun _ _ _ h => h) (Or.inr ⟨by rfl, rfl⟩) (by assumption) ?_
                          try simp only [Act.put, List.setIfInBounds_toArray, List.set_cons_zero, List.set_cons_succ]
                          refine wpAnyH_take (i := 35) (oi := { dst := some 196, op := Go.Op.convert 41 9 (Go.Operand.tmp 195), type := 9, pos := "more.go:52", after := #[{ on := 34, ground := Go.Ground.data }, { on := 31, ground := Go.Ground.guard }], guard := some (31, true) }) (v := undef) rfl (by kernel_rfl) (by kernel_rfl) (by kernel_rfl) (fun _ _ _ h => h) (Or.inr ⟨by rfl, rfl⟩) (by assumption) ?_
                          try simp only [Act.put, List.setIfInBounds_toArray, List.set_cons_zero, List.set_cons_succ]
                          refine wpAnyH_take (i := 36) (oi := { dst := some 197, op := Go.Op.binOp Go.BinOp.neq 9 (Go.Operand.tmp 194) (Go.Operand.tmp 196) 9, type := 4, pos := "more.go:52", after := #[{ on := 33, ground := Go.Ground.data }, { on := 35, ground := Go.Ground.data }, { on := 31, ground := Go.Ground.guard }], guard := some (31, true) }) (v := undef) rfl (by kernel_rfl) (by kernel_rfl) (by kernel_rfl) (fun _ _ _ h => h) (Or.inr ⟨by rfl, rfl⟩) (by assumption) ?_
                          try simp only [Act.put, List.setIfInBounds_toArray, List.set_cons_zero, List.set_cons_succ]
                          refine wpAnyH_take (i := 37) (oi := { dst := some 198, op := Go.Op.pick (Go.Operand.tmp 192) (Go.Operand.tmp 197) (Go.Operand.const (Go.Value.bool false)), type := 4, pos := "more.go:52", after := #[{ on := 31, ground := Go.Ground.data }, { on := 36, ground := Go.Ground.data }, { on := 25, ground := Go.Ground.guard }], guard := some (25, false) }) (v := ?_) rfl (by kernel_rfl) (by kernel_rfl) (by kernel_rfl) (fun _ _ _ h => h) (Or.inl ⟨by rfl, ?_⟩) (by assumption) ?_
                          rotate_left
                          · intro W hSW
                            go_simp
                            try with_reducible rfl
                          try simp only [Act.put, List.setIfInBounds_toArray, List.set_cons_zero, List.set_cons_succ]
                          refine wpAnyH_take (i := 38) (oi := { dst := some 199, op := Go.Op.pick (Go.Operand.tmp 186) (Go.Operand.const (Go.Value.bool true)) (Go.Operand.tmp 198), type := 4, pos := "more.go:52", after := #[{ on := 25, ground := Go.Ground.data }, { on := 37, ground := Go.Ground.data }], guard := none }) (v := ?_) rfl (by kernel_rfl) (by kernel_rfl) (by kernel_rfl) (fun _ _ _ h => h) (Or.inl ⟨by rfl, ?_⟩) (by assumption) ?_
                          rotate_left
                          · intro W hSW
                            go_simp
                            try with_reducible rfl
                          try simp only [Act.put, List.setIfInBounds_toArray, List.set_cons_zero, List.set_cons_succ]
                          refine wpAnyH_done (by kernel_rfl) ?_ _
                          have FIN := Lib.hid (show Gs w A (fun j => j = gH ∨ j = gA) s t ds9 dat (40 + 2 * k7 + a + 1) wE ∧ wE.heap[gH]? = some (.cells (Tb.rowT 10 h).toArray 3 (0, 0)) ∧ wE.heap[gA]? = some (.cells curA 5 (0, 0)) from
                            ⟨GA.out.low hE, (hE.block _ (lt_of_heap HA.out.1)).trans HA.out.1, (hE.block _ (lt_of_heap HA.out.2.2.1)).trans HA.out.2.2.1⟩)
                          obtain ⟨wR, hwR⟩ : ∃ wR, wE = wR := ⟨_, rfl⟩
                          rw [hwR] at FIN ⊢
                          clear hwR hE kE kh kh2 kv hrE hbE hHeld hx hdx
                          go_wp2_with fail
                          go_loopw [24] (fun i wr9 => ∃ (n : Nat) (c : Array Value), n ≤ 480 ∧ i = .int .i64 n ∧ Touch (fun j => j = gA) wR wr9 ∧ wr9.heap[gA]? = some (.cells c 5 (0, 0)) ∧ 480 ≤ c.size) (fun i _ => 480 - (intOf i).toNat)
                          case atStart => exact ⟨0, curA, Nat.zero_le _, rfl, Touch.refl _ _, FIN.out.2.2, HA.out.2.2.2.1⟩
                          case round =>
                            obtain ⟨n, c, hn, rfl, ht9, hc9, hs9⟩ := hrel
                            by_cases hltn : n < 480
                            · have hn1 : (n : Int) < 480 := by omega
                              have cn := cell_of_row wr gA n _ _ _ hc9
                              have fn := frozen_of_row wr gA n _ _ hc9
                              obtain ⟨un, hun⟩ : ∃ u, c[n]? = some u := ⟨_, Array.getElem?_eq_getElem (show n < c.size by omega)⟩
                              rw [hun] at cn
                              clear hun
                              have HT9 := Lib.hid (And.intro ht9 (And.intro hc9 hs9))
                              clear ht9 hc9 hs9
                              go_wp2_with fail
                              obtain ⟨ht9, hc9, hs9⟩ := HT9.out
                              exact ⟨⟨n + 1, _, by omega, by go_num, ht9.setCell (a := ⟨gA, n, none⟩) (.inl rfl) _, heap_setCell_same _ _ n _ _ _ hc9, by simpa using hs9⟩, by simp [intOf]; omega⟩
                            · obtain rfl : n = 480 := by omega
                              have G10 := Lib.hid ((((FIN.out.1.touch ht9 (fun j hj => .inl (.inr hj))).sub (Z := fun j => j = gH) (fun j hj => .inl hj))).more (c' := 40 + 2 * k7 + (a + 1)) (by omega))
                              have R10 := Lib.hid (ht9.at FIN.out.2.1 (fun e => HA.out.2.2.2.2 e.symm))
                              rw [show ((480 : Nat) : Int) = 480 from rfl]
                              clear ht9 hc9 hs9
                              go_wp2_with fail
                              exact ⟨⟨a + 1, ds9, by omega, by go_num, G10.out, R10.out⟩, by simp [intOf]; omega⟩
                      · obtain rfl : a = 2 := by omega
                        have G10 := Lib.hid (hG8.more (c' := 40 + 2 * (k7 + 1)) (by omega))
                        have R10 := Lib.hid hR8
                        rw [show ((2 : Nat) : Int) = 2 from rfl]
                        clear hG8 hR8
                        go_wp2_with fail
                        exact ⟨⟨k7 + 1, ds8, by omega, by go_num, G10.out, R10.out⟩, by simp [intOf]; omega⟩
                  · obtain rfl : k7 = 10 := by omega
                    have BE := Lib.hid hG7.below
                    rw [show ((10 : Nat) : Int) = 10 from rfl]
                    clear hG7 hR7
                    go_wp2_with fail
                    go_ret
                    exact ⟨rfl, BE.out⟩

end Jn
end Go.Proofs.Ytpbcjaennbgmaaa
