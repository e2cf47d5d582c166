/- shown: what every law asks first. -/
import Derived.Test.YtpbcjaennbgmaaaJge
import Derived.Test.YtpbcjaennbgmaaaJmb
import Derived.Test.YtpbcjaennbgmaaaJsm
import Derived.Test.YtpbcjaennbgmaaaJap
set_option maxRecDepth 100000
namespace Go.Proofs.Ytpbcjaennbgmaaa
namespace Jn
open Go.RowKit

/-- What a region asks of the worlds that it passes through may be made narrower on the way. -/
theorem wpAnyH_weaken {P : Program} {md : Region.Mode} {ops : Array Oper} {Q : Exit → Act → World → Prop} {S S' : World → Prop} (h : ∀ W, S' W → S W) :
    ∀ (fuel : Nat) (listed : Array Bool) (a : Act) (w : World), wpAnyH P md ops Q S' fuel listed a w → wpAnyH P md ops Q S fuel listed a w
  | 0, _, _, _, hh => hh
  | fuel + 1, _, _, _, hh => ⟨hh.1, fun i hi => wpOp_mono (fun a' w' h' => ⟨h _ h'.1, wpAnyH_weaken h fuel _ a' w' h'.2⟩) (hh.2 i hi)⟩

theorem devF_new {w w' : World} {n : Nat} (h : Dev w' (NewF w) (w.heap.size + 2) (DSt.new n)) (hs : w'.heap.size = w.heap.size + 3) : DevF w' (NewF w) (w.heap.size + 2) (DSt.new n) :=
  ⟨h, fun k hk => by rw [hs]; exact hk.2⟩

set_option maxHeartbeats 4000000 in
theorem shown_any (w : World) :
    Calls Try.prog 8 #[] w fun e w' => e = .returned (.bool true) ∧ Below w.heap.size w w' := by
  have ND := Lib.hid (new_any 201 w (by omega) (by omega))
  go_enter Try.func8, Try.ntmps8
  go_wp2_with fail
  refine ND.out.mono ?_
  rintro e w1 ⟨rfl, ht1, hs1, hd1⟩
  have D1 := Lib.hid (devF_new hd1 hs1)
  have B1 := Lib.hid ht1.below
  have S1 := Lib.hid hs1
  clear ND ht1 hs1 hd1
  obtain ⟨b, hb⟩ : ∃ b, w.heap.size + 2 = b := ⟨_, rfl⟩
  rw [hb] at D1 ⊢
  have FR := Lib.hid (fresh_any 10 w1 (by omega))
  clear hb
  go_wp2_with fail
  refine FR.out.mono ?_
  rintro e w2 ⟨⟨v2, g2, rfl, hv2, hg2⟩, hb2⟩
  have NW : Calls Try.prog 10 #[.pointer (some ⟨b, 0, none⟩), .int .i64 200, .agg (stI 1 1 0 0 0 v2)] w2 fun e w' =>
      ∃ A o, e = .returned (.tuple #[.pointer (some ⟨A.J, 0, none⟩), .int .i64 0]) ∧ A.b = b ∧ (∀ j, A.own j → w2.heap.size ≤ j) ∧ JAt w' A (s0 200 1 1 0 0 0 10 (fun _ => none) o) ∧ Below w2.heap.size w2 w' := by
    have h := new_ok (P := 200) (ep := 1) (st := 1) (sq := 0) (hd := 0) (us := 0) (D1.out.below hb2) hv2 (by simp [DSt.new]) (by omega) (by omega) (by simp [DSt.new]) (right_none (by omega) (by omega))
    rw [List.length_replicate, aL_none] at h
    exact h
  have NW := Lib.hid NW
  have B2 := Lib.hid hb2
  clear FR hv2 hg2 hb2
  go_wp2_with fail
  refine NW.out.mono ?_
  rintro e w3 ⟨A, o, rfl, hab, hlo, hj, hb3⟩
  have hF3 : ∀ k, A.own k → ¬ NewF w k := fun k hk hf => by
    have h1 := hlo k hk
    have h2 := S1.out
    have h3 := B2.out.size
    have h4 := hf.2
    omega
  subst hab
  have hnf : ∀ k, NewF w k → w.heap.size ≤ k ∧ k < w3.heap.size := fun k hk => ⟨hk.1, by have := hk.2; have := S1.out; have := B2.out.size; have := hb3.size; omega⟩
  have G0 := Lib.hid (show Goes w A w3.heap.size (s0 200 1 1 0 0 0 10 (fun _ => none) o) ⟨0, 0, 0, fun _ => none⟩ (DSt.new 201) (fun _ => zerosL 480) 0 w3 from
    ⟨⟨_, jl_start hj ((D1.out.below B2.out).below hb3) hF3 (by omega) (by omega) (by omega), hnf⟩, fun k hk => ⟨by have := hlo k hk; have := B2.out.size; have := B1.out.size; omega, hj.lt k hk⟩, Nat.le_refl _, B1.out.trans ((B2.out.mono B1.out.size).trans (hb3.mono (Nat.le_trans B1.out.size B2.out.size))), Nat.le_refl _, Nat.le_refl _, Nat.le_refl _, Nat.le_refl _⟩)
  have B3 := Lib.hid hb3
  clear NW hlo hj hb3 hF3 hnf
  go_wp2_with fail
  have K1 := Lib.hid (block_any 1 w3)
  go_wp2_with fail
  refine K1.out.mono ?_
  rintro e w4 ⟨rfl, hr4, hb4⟩
  have R4 := Lib.hid (And.intro hr4 hb4)
  have K2 := Lib.hid (block_any 2 w4)
  obtain ⟨g1, hg1⟩ : ∃ g1, w3.heap.size = g1 := ⟨_, rfl⟩
  rw [hg1]
  have HG1 := Lib.hid hg1
  clear K1 hr4 hb4 hg1
  go_wp2_with fail
  refine K2.out.mono ?_
  rintro e w5 ⟨rfl, hr5, hb5⟩
  have R5 := Lib.hid (And.intro hr5 hb5)
  obtain ⟨g2, hg2⟩ : ∃ g2, w4.heap.size = g2 := ⟨_, rfl⟩
  rw [hg2]
  have HG2 := Lib.hid hg2
  clear K2 hr5 hb5 hg2
  go_wp2_with fail
  have G5 := (G0.out.low R4.out.2).low R5.out.2
  have hs4 := R4.out.2.size
  have hs5 := R5.out.2.size
  have r4 := (blk_bv R4.out.1).below R5.out.2
  have r5 := blk_bv R5.out.1
  have l4 := lt_of_heap R4.out.1
  have l5 := lt_of_heap R5.out.1
  rw [HG1.out] at r4
  rw [HG2.out] at r5
  have WL5 := wl_lit (w := w5) (E := [⟨3, .slice (some ⟨g1, 0, none⟩) 480 480, blk 1, g1⟩, ⟨4, .slice (some ⟨g2, 0, none⟩) 480 480, blk 2, g2⟩]) (X := fun k => w3.heap.size ≤ k ∧ k < w5.heap.size + 1) ⟨by omega, by omega⟩ (by
    have h1 := HG1.out
    have h2 := HG2.out
    intro e he
    rcases List.mem_cons.1 he with rfl | he
    · exact ⟨r4, fun _ => ⟨by show _ ≤ g1; omega, by show g1 < _; omega⟩⟩
    · rw [List.mem_singleton.1 he]
      exact ⟨r5, fun _ => ⟨by show _ ≤ g2; omega, by show g2 < _; omega⟩⟩)
  have CM := (G5.alloc _).commit (by omega) WL5 (fun k hk => ⟨hk.1, by simpa using hk.2⟩) ⟨by simp, by simp, by
    intro e he
    rcases List.mem_cons.1 he with rfl | he
    · exact ⟨by show (0 : Int) ≤ 3; omega, by show (3 : Int) < 10; omega, blk_len 1⟩
    · rw [List.mem_singleton.1 he]
      exact ⟨by show (0 : Int) ≤ 4; omega, by show (4 : Int) < 10; omega, blk_len 2⟩, by simp⟩
  have CM := Lib.hid CM
  go_wp2_with fail
  refine CM.out.mono ?_
  rintro e w6 ⟨rfl, ht6, hg6⟩
  clear CM
  have T6 := Lib.hid ht6
  have G6 := Lib.hid hg6
  clear ht6 hg6 G5 WL5 r4 r5 l4 l5 hs4 hs5
  go_wp2_with fail
  have K3 := Lib.hid (block_any 3 w6)
  go_wp2_with fail
  refine K3.out.mono ?_
  rintro e w7 ⟨rfl, hr7, hb7⟩
  have R7 := Lib.hid (And.intro hr7 hb7)
  obtain ⟨g3, hg3⟩ : ∃ g3, w6.heap.size = g3 := ⟨_, rfl⟩
  rw [hg3]
  have HG3 := Lib.hid hg3
  clear K3 hr7 hb7 hg3
  obtain ⟨s1, t1, d1, GG1, n1, p1, x1, x2, q1, -, -, -, -, -, nx1⟩ := G6.out
  have G7 := GG1.low R7.out.2
  have hs7 := R7.out.2.size
  have r7 := blk_bv R7.out.1
  have l7 := lt_of_heap R7.out.1
  rw [HG3.out] at r7
  have WL7 := wl_lit (w := w7) (E := [⟨3, .slice (some ⟨g3, 0, none⟩) 480 480, blk 3, g3⟩]) (X := fun k => w6.heap.size ≤ k ∧ k < w7.heap.size + 1) ⟨by omega, by omega⟩ (by
    have h1 := HG3.out
    intro e he
    rw [List.mem_singleton.1 he]
    exact ⟨r7, fun _ => ⟨by show _ ≤ g3; omega, by show g3 < _; omega⟩⟩)
  have CM2 := (G7.alloc _).commit (by omega) WL7 (fun k hk => ⟨hk.1, by simpa using hk.2⟩) ⟨by simp, by simp, by
    intro e he
    rw [List.mem_singleton.1 he]
    exact ⟨by show (0 : Int) ≤ 3; omega, by rw [n1]; show (3 : Int) < 10; omega, blk_len 3⟩, by simp⟩
  have CM2 := Lib.hid CM2
  have HN1 := Lib.hid (And.intro n1 (And.intro p1 (And.intro x1 (And.intro x2 (And.intro q1 nx1)))))
  clear G7 WL7 r7 l7 hs7 n1 p1 x1 x2 q1 nx1
  go_wp2_with fail
  refine CM2.out.mono ?_
  rintro e w8 ⟨rfl, ht8, s2, t2, d2, hg8, n2, p2, y1, y2, q2, -, -, -, -, -, nx2⟩
  have G8 := Lib.hid hg8
  have T8 := Lib.hid ht8
  have HN2 := Lib.hid (And.intro n2 (And.intro p2 (And.intro y1 (And.intro y2 (And.intro q2 nx2)))))
  clear CM2 ht8 hg8 n2 p2 y1 y2 q2 nx2
  obtain ⟨F8, hj8, hF8⟩ := G8.out.jl
  have HM : s2.N = 10 ∧ s2.P = 200 ∧ s2.sq = 2 ∧ s2.head = 4 ∧ s2.used = 2 ∧ s2.freed = 2 ∧ s2.a 3 = some 2 ∧ s2.a 4 = some 3 := by
    obtain ⟨n1, p1, -, -, q1, nx1⟩ := HN1.out
    obtain ⟨n2, p2, -, -, q2, nx2⟩ := HN2.out
    obtain ⟨m1, m2, m3, m4, m5⟩ := shown_math nx1 nx2
    have hN : s2.N = 10 := n2.trans n1
    have hP : s2.P = 200 := p2.trans p1
    refine ⟨hN, hP, by rw [q2, q1]; rfl, ?_, ?_, ?_, ?_, ?_⟩
    · rw [hj8.live.head, m2, hP]
    · rw [hj8.live.used, m1, m2]
    · rw [hj8.live.freed, m3]
    · rw [hj8.live.a, m4, hP]; rfl
    · rw [hj8.live.a, m5, hP]; rfl
  obtain ⟨hN, hP, hsq, hhd, hus, hfr, ha3, ha4⟩ := HM
  have ST := state_any hj8.jat
  have e8 : datB [⟨3, .slice (some ⟨g3, 0, none⟩) 480 480, blk 3, g3⟩] (datB [⟨3, .slice (some ⟨g1, 0, none⟩) 480 480, blk 1, g1⟩, ⟨4, .slice (some ⟨g2, 0, none⟩) 480 480, blk 2, g2⟩] fun _ => zerosL 480) 3 = blk 3 := rfl
  have E8 := Lib.hid e8
  rw [hN, hsq, hhd, hus] at ST
  have ST := Lib.hid ST
  have HM := Lib.hid (And.intro hN (And.intro hP (And.intro hus (And.intro hfr (And.intro ha3 ha4)))))
  clear hj8 hF8 hN hP hsq hhd hus hfr ha3 ha4 e8
  go_wp2_with fail
  refine ST.out.mono ?_
  rintro e w9 ⟨⟨g9, rfl, hg9, hr9⟩, hb9⟩
  have G9 := Lib.hid (G8.out.low hb9)
  have R9 := Lib.hid (And.intro hg9 hr9)
  have HB9 := Lib.hid hb9
  have RD := (G9.out.alloc (.cells #[.int .u32 (s2.ep : Int), .int .u64 (s2.st : Int), .int .u64 ((2 : Nat) : Int), .int .i64 ((4 : Nat) : Int), .int .i64 ((2 : Nat) : Int), .slice (some ⟨g9, 0, none⟩) 10 10] 35)).read (id := 3) (by omega) (by rw [HM.out.1]; omega)
  rw [E8.out] at RD
  have RD := Lib.hid RD
  clear ST hg9 hr9 hb9
  go_wp2_with fail
  refine RD.out.mono ?_
  rintro e wA ⟨⟨vA, gA, rfl, hvA, hgA⟩, htA, dA, hGA, -, -, -⟩
  have hp9 : w9.heap.size + 1 = (w9.alloc (.cells #[.int .u32 (s2.ep : Int), .int .u64 (s2.st : Int), .int .u64 ((2 : Nat) : Int), .int .i64 ((4 : Nat) : Int), .int .i64 ((2 : Nat) : Int), .slice (some ⟨g9, 0, none⟩) 10 10] 35)).heap.size := by simp
  have RA := Lib.hid (show wA.heap[w9.heap.size]? = some (.cells #[.int .u32 (s2.ep : Int), .int .u64 (s2.st : Int), .int .u64 2, .int .i64 4, .int .i64 2, .slice (some ⟨g9, 0, none⟩) 10 10] 35 (0, 0)) ∧ wA.heap[g9]? = some (.cells (Tb.rowT 10 s2.a).toArray 3 (0, 0)) ∧ BV wA vA (blk 3) gA by
    have h8 := HB9.out.size
    obtain ⟨h9, hr9⟩ := R9.out
    refine ⟨htA.at (heap_alloc_new w9 _) (by omega), htA.at ((Below.heap_alloc w9 _ _ (lt_of_heap hr9)).trans hr9) (by omega), hvA⟩)
  have GA := Lib.hid hGA
  obtain ⟨aA, cA, rfl, -⟩ := hvA.form
  clear RD hvA hgA htA hGA hp9
  go_wp2_with fail
  have K4 := Lib.hid (block_any 3 wA)
  go_wp2_with fail
  refine K4.out.mono ?_
  rintro e wB ⟨rfl, hrB, hbB⟩
  have RB := Lib.hid (And.intro hrB hbB)
  obtain ⟨gB, hgB⟩ : ∃ gB, wA.heap.size = gB := ⟨_, rfl⟩
  rw [hgB]
  have HGB := Lib.hid hgB
  clear K4 hrB hbB hgB
  have K5 := Lib.hid (block_any 3 wB)
  go_wp2_with fail
  refine K5.out.mono ?_
  rintro e wC ⟨rfl, hrC, hbC⟩
  have RC := Lib.hid (And.intro hrC hbC)
  obtain ⟨gC, hgC⟩ : ∃ gC, wB.heap.size = gC := ⟨_, rfl⟩
  rw [hgC]
  have HGC := Lib.hid hgC
  clear K5 hrC hbC hgC
  go_wp2_with fail
  have GC := (GA.out.low RB.out.2).low RC.out.2
  have rB := (blk_bv RB.out.1).below RC.out.2
  have rC := blk_bv RC.out.1
  have lB := lt_of_heap RB.out.1
  have lC := lt_of_heap RC.out.1
  have sC := RC.out.2.size
  rw [HGB.out] at rB
  rw [HGC.out] at rC
  have WLC := wl_lit (w := wC) (E := [⟨3, .slice (some ⟨gB, 0, none⟩) 480 480, blk 3, gB⟩, ⟨3, .slice (some ⟨gC, 0, none⟩) 480 480, blk 3, gC⟩]) (X := fun k => k < wC.heap.size + 1) (by omega) (by
    have h1 := HGB.out
    have h2 := HGC.out
    intro e he
    rcases List.mem_cons.1 he with rfl | he
    · exact ⟨rB, fun _ => by show gB < _; omega⟩
    · rw [List.mem_singleton.1 he]
      exact ⟨rC, fun _ => by show gC < _; omega⟩)
  have hjC := (GC.alloc (.cells ([⟨3, .slice (some ⟨gB, 0, none⟩) 480 480, blk 3, gB⟩, ⟨3, .slice (some ⟨gC, 0, none⟩) 480 480, blk 3, gC⟩].flatMap cellsE).toArray 44 (0, 0))).jat
  have CB := commit_bad hjC WLC (fun k hk => by simpa using hk) (by simp) (fun hm => by have := hm.2.2.2; simp at this)
  have CB := Lib.hid CB
  replace GC := Lib.hid GC
  clear WLC hjC rB rC lB lC sC
  have hbC : Below wA.heap.size wA wC := RB.out.2.trans (RC.out.2.mono RB.out.2.size)
  have hsC : wA.heap.size ≤ wC.heap.size := hbC.size
  have RC2 := Lib.hid (And.intro ((hbC.block _ (lt_of_heap RA.out.1)).trans RA.out.1) (And.intro ((hbC.block _ (lt_of_heap RA.out.2.1)).trans RA.out.2.1) (RA.out.2.2.below hbC)))
  clear hbC hsC RA
  go_wp2_with fail
  refine CB.out.mono ?_
  rintro e wD ⟨rfl, hbD⟩
  have hbD : Below wC.heap.size wC wD := ((Below.refl _ wC).alloc (Nat.le_refl _) _).trans (hbD.mono (by simp))
  have GD := Lib.hid (GC.out.low hbD)
  have RD := Lib.hid (And.intro ((hbD.block _ (lt_of_heap RC2.out.1)).trans RC2.out.1) (And.intro ((hbD.block _ (lt_of_heap RC2.out.2.1)).trans RC2.out.2.1) (RC2.out.2.2.below hbD)))
  clear hbD CB RC2 GC
  go_upto_region 1 with fail
  have kw := fun (W : World) (h : Below wD.heap.size wD W) => (h.block _ (lt_of_heap RD.out.1)).trans RD.out.1
  have k2 : ∀ W : World, Below wD.heap.size wD W → W.cell? ⟨w9.heap.size, 2, none⟩ = some (.int .u64 2) := fun W h => cell_of_row W w9.heap.size 2 _ _ _ (kw W h)
  have k3 : ∀ W : World, Below wD.heap.size wD W → W.cell? ⟨w9.heap.size, 3, none⟩ = some (.int .i64 4) := fun W h => cell_of_row W w9.heap.size 3 _ _ _ (kw W h)
  have k4 : ∀ W : World, Below wD.heap.size wD W → W.cell? ⟨w9.heap.size, 4, none⟩ = some (.int .i64 2) := fun W h => cell_of_row W w9.heap.size 4 _ _ _ (kw W h)
  have k5 : ∀ W : World, Below wD.heap.size wD W → W.cell? ⟨w9.heap.size, 5, none⟩ = some (.slice (some ⟨g9, 0, none⟩) 10 10) := fun W h => cell_of_row W w9.heap.size 5 _ _ _ (kw W h)
  have r3 : ∀ W : World, Below wD.heap.size wD W → W.cell? ⟨g9, 3, none⟩ = some (.int .i64 2) := fun W h => by
    rw [cell_of_row W g9 3 _ _ _ ((h.block _ (lt_of_heap RD.out.2.1)).trans RD.out.2.1)]
    have := Tb.rowT_get (n := 10) s2.a (i := 3) (by omega)
    rw [HM.out.2.2.2.2.1] at this
    simpa [Tb.enc] using this
  have r4 : ∀ W : World, Below wD.heap.size wD W → W.cell? ⟨g9, 4, none⟩ = some (.int .i64 3) := fun W h => by
    rw [cell_of_row W g9 4 _ _ _ ((h.block _ (lt_of_heap RD.out.2.1)).trans RD.out.2.1)]
    have := Tb.rowT_get (n := 10) s2.a (i := 4) (by omega)
    rw [HM.out.2.2.2.2.2] at this
    simpa [Tb.enc] using this
  have kv := fun (W : World) (h : Below wD.heap.size wD W) => run_convBytes (RD.out.2.2.below h).reads
  have hbr : s2.broken = false := by
    obtain ⟨F, hj, -⟩ := GD.out.jl
    exact hj.br
  have kj := fun (W : World) (h : Below wD.heap.size wD W) => GD.out.jat.below h
  refine wp_region_held_drew (S := fun W => Below wD.heap.size wD W) (by kernel_rfl) ((Below.refl _ wD).drew) (fun hHeld => ?_)
  refine wpAnyH_take (i := 0) (oi := { dst := some 59, op := Go.Op.move (Go.Operand.tmp 5), type := 25, pos := "law.go:44", after := #[], guard := none }) (v := ?_) rfl (by kernel_rfl) (by kernel_rfl) (by kernel_rfl) (fun _ _ _ h => h) (Or.inl ⟨by rfl, ?_⟩) (by assumption) ?_
  rotate_left
  · intro W hSW
    go_simp
    try with_reducible rfl
  try simp only [Act.put, List.setIfInBounds_toArray, List.set_cons_zero, List.set_cons_succ]
  refine wpAnyH_take (i := 1) (oi := { dst := some 60, op := Go.Op.binOp Go.BinOp.eql 25 (Go.Operand.tmp 59) (Go.Operand.const (Go.Value.int Go.IntKind.i64 0)) 25, type := 4, pos := "law.go:44", after := #[{ on := 0, ground := Go.Ground.data }], guard := none }) (v := ?_) rfl (by kernel_rfl) (by kernel_rfl) (by kernel_rfl) (fun _ _ _ h => h) (Or.inl ⟨by rfl, ?_⟩) (by assumption) ?_
  rotate_left
  · intro W hSW
    go_simp
    try with_reducible rfl
  try simp only [Act.put, List.setIfInBounds_toArray, List.set_cons_zero, List.set_cons_succ]
  refine wpAnyH_take (i := 2) (oi := { dst := some 61, op := Go.Op.move (Go.Operand.tmp 60), type := 4, pos := "law.go:44", after := #[{ on := 1, ground := Go.Ground.data }], guard := none }) (v := ?_) rfl (by kernel_rfl) (by kernel_rfl) (by kernel_rfl) (fun _ _ _ h => h) (Or.inl ⟨by rfl, ?_⟩) (by assumption) ?_
  rotate_left
  · intro W hSW
    go_simp
    try with_reducible rfl
  try simp only [Act.put, List.setIfInBounds_toArray, List.set_cons_zero, List.set_cons_succ]
  refine wpAnyH_take (i := 3) (oi := { dst := some 62, op := Go.Op.move (Go.Operand.tmp 6), type := 25, pos := "law.go:44", after := #[{ on := 2, ground := Go.Ground.guard }], guard := some (2, true) }) (v := ?_) rfl (by kernel_rfl) (by kernel_rfl) (by kernel_rfl) (fun _ _ _ h => h) (Or.inl ⟨by rfl, ?_⟩) (by assumption) ?_
  rotate_left
  · intro W hSW
    go_simp
    try with_reducible rfl
  try simp only [Act.put, List.setIfInBounds_toArray, List.set_cons_zero, List.set_cons_succ]
  refine wpAnyH_take (i := 4) (oi := { dst := some 63, op := Go.Op.binOp Go.BinOp.eql 25 (Go.Operand.tmp 62) (Go.Operand.const (Go.Value.int Go.IntKind.i64 0)) 25, type := 4, pos := "law.go:44", after := #[{ on := 3, ground := Go.Ground.data }, { on := 2, ground := Go.Ground.guard }], guard := some (2, true) }) (v := ?_) rfl (by kernel_rfl) (by kernel_rfl) (by kernel_rfl) (fun _ _ _ h => h) (Or.inl ⟨by rfl, ?_⟩) (by assumption) ?_
  rotate_left
  · intro W hSW
    go_simp
    try with_reducible rfl
  try simp only [Act.put, List.setIfInBounds_toArray, List.set_cons_zero, List.set_cons_succ]
  refine wpAnyH_take (i := 5) (oi := { dst := some 64, op := Go.Op.pick (Go.Operand.tmp 61) (Go.Operand.tmp 63) (Go.Operand.const (Go.Value.bool false)), type := 4, pos := "law.go:44", after := #[{ on := 2, ground := Go.Ground.data }, { on := 4, ground := Go.Ground.data }], guard := none }) (v := ?_) rfl (by kernel_rfl) (by kernel_rfl) (by kernel_rfl) (fun _ _ _ h => h) (Or.inl ⟨by rfl, ?_⟩) (by assumption) ?_
  rotate_left
  · intro W hSW
    go_simp
    try with_reducible rfl
  try simp only [Act.put, List.setIfInBounds_toArray, List.set_cons_zero, List.set_cons_succ]
  refine wpAnyH_take (i := 6) (oi := { dst := some 65, op := Go.Op.move (Go.Operand.tmp 64), type := 4, pos := "law.go:44", after := #[{ on := 5, ground := Go.Ground.data }, { on := 2, ground := Go.Ground.chain }], guard := none }) (v := ?_) rfl (by kernel_rfl) (by kernel_rfl) (by kernel_rfl) (fun _ _ _ h => h) (Or.inl ⟨by rfl, ?_⟩) (by assumption) ?_
  rotate_left
  · intro W hSW
    go_simp
    try with_reducible rfl
  try simp only [Act.put, List.setIfInBounds_toArray, List.set_cons_zero, List.set_cons_succ]
  refine wpAnyH_take (i := 7) (oi := { dst := some 66, op := Go.Op.fieldAddr 35 (Go.Operand.tmp 7) 2, type := 0, pos := "law.go:44", after := #[{ on := 6, ground := Go.Ground.guard }], guard := some (6, true) }) (v := ?_) rfl (by kernel_rfl) (by kernel_rfl) (by kernel_rfl) (fun _ _ _ h => h) (Or.inl ⟨by rfl, ?_⟩) (by assumption) ?_
  rotate_left
  · intro W hSW
    go_simp
    try with_reducible rfl
  try simp only [Act.put, List.setIfInBounds_toArray, List.set_cons_zero, List.set_cons_succ]
  refine wpAnyH_take (i := 8) (oi := { dst := some 67, op := Go.Op.load 32 (Go.Operand.tmp 66), type := 32, pos := "law.go:44", after := #[{ on := 7, ground := Go.Ground.data }, { on := 6, ground := Go.Ground.guard }], guard := some (6, true) }) (v := ?_) rfl (by kernel_rfl) (by kernel_rfl) (by kernel_rfl) (fun _ _ _ h => h) (Or.inl ⟨by rfl, ?_⟩) (by assumption) ?_
  rotate_left
  · intro W hSW
    have e0 := k2 W hSW
    go_simp
    try with_reducible rfl
  try simp only [Act.put, List.setIfInBounds_toArray, List.set_cons_zero, List.set_cons_succ]
  refine wpAnyH_take (i := 9) (oi := { dst := some 68, op := Go.Op.binOp Go.BinOp.eql 32 (Go.Operand.tmp 67) (Go.Operand.const (Go.Value.int Go.IntKind.u64 2)) 32, type := 4, pos := "law.go:44", after := #[{ on := 8, ground := Go.Ground.data }, { on := 6, ground := Go.Ground.guard }], guard := some (6, true) }) (v := ?_) rfl (by kernel_rfl) (by kernel_rfl) (by kernel_rfl) (fun _ _ _ h => h) (Or.inl ⟨by rfl, ?_⟩) (by assumption) ?_
  rotate_left
  · intro W hSW
    go_simp
    try with_reducible rfl
  try simp only [Act.put, List.setIfInBounds_toArray, List.set_cons_zero, List.set_cons_succ]
  refine wpAnyH_take (i := 10) (oi := { dst := some 69, op := Go.Op.pick (Go.Operand.tmp 65) (Go.Operand.tmp 68) (Go.Operand.const (Go.Value.bool false)), type := 4, pos := "law.go:44", after := #[{ on := 6, ground := Go.Ground.data }, { on := 9, ground := Go.Ground.data }], guard := none }) (v := ?_) rfl (by kernel_rfl) (by kernel_rfl) (by kernel_rfl) (fun _ _ _ h => h) (Or.inl ⟨by rfl, ?_⟩) (by assumption) ?_
  rotate_left
  · intro W hSW
    go_simp
    try with_reducible rfl
  try simp only [Act.put, List.setIfInBounds_toArray, List.set_cons_zero, List.set_cons_succ]
  refine wpAnyH_take (i := 11) (oi := { dst := some 70, op := Go.Op.move (Go.Operand.tmp 69), type := 4, pos := "law.go:44", after := #[{ on := 10, ground := Go.Ground.data }, { on := 6, ground := Go.Ground.chain }], guard := none }) (v := ?_) rfl (by kernel_rfl) (by kernel_rfl) (by kernel_rfl) (fun _ _ _ h => h) (Or.inl ⟨by rfl, ?_⟩) (by assumption) ?_
  rotate_left
  · intro W hSW
    go_simp
    try with_reducible rfl
  try simp only [Act.put, List.setIfInBounds_toArray, List.set_cons_zero, List.set_cons_succ]
  refine wpAnyH_take (i := 12) (oi := { dst := some 71, op := Go.Op.fieldAddr 35 (Go.Operand.tmp 7) 3, type := 0, pos := "law.go:44", after := #[{ on := 11, ground := Go.Ground.guard }], guard := some (11, true) }) (v := ?_) rfl (by kernel_rfl) (by kernel_rfl) (by kernel_rfl) (fun _ _ _ h => h) (Or.inl ⟨by rfl, ?_⟩) (by assumption) ?_
  rotate_left
  · intro W hSW
    go_simp
    try with_reducible rfl
  try simp only [Act.put, List.setIfInBounds_toArray, List.set_cons_zero, List.set_cons_succ]
  refine wpAnyH_take (i := 13) (oi := { dst := some 72, op := Go.Op.load 3 (Go.Operand.tmp 71), type := 3, pos := "law.go:44", after := #[{ on := 12, ground := Go.Ground.data }, { on := 11, ground := Go.Ground.guard }], guard := some (11, true) }) (v := ?_) rfl (by kernel_rfl) (by kernel_rfl) (by kernel_rfl) (fun _ _ _ h => h) (Or.inl ⟨by rfl, ?_⟩) (by assumption) ?_
  rotate_left
  · intro W hSW
    have e0 := k3 W hSW
    go_simp
    try with_reducible rfl
  try simp only [Act.put, List.setIfInBounds_toArray, List.set_cons_zero, List.set_cons_succ]
  refine wpAnyH_take (i := 14) (oi := { dst := some 73, op := Go.Op.binOp Go.BinOp.eql 3 (Go.Operand.tmp 72) (Go.Operand.const (Go.Value.int Go.IntKind.i64 4)) 3, type := 4, pos := "law.go:44", after := #[{ on := 13, ground := Go.Ground.data }, { on := 11, ground := Go.Ground.guard }], guard := some (11, true) }) (v := ?_) rfl (by kernel_rfl) (by kernel_rfl) (by kernel_rfl) (fun _ _ _ h => h) (Or.inl ⟨by rfl, ?_⟩) (by assumption) ?_
  rotate_left
  · intro W hSW
    go_simp
    try with_reducible rfl
  try simp only [Act.put, List.setIfInBounds_toArray, List.set_cons_zero, List.set_cons_succ]
  refine wpAnyH_take (i := 15) (oi := { dst := some 74, op := Go.Op.pick (Go.Operand.tmp 70) (Go.Operand.tmp 73) (Go.Operand.const (Go.Value.bool false)), type := 4, pos := "law.go:44", after := #[{ on := 11, ground := Go.Ground.data }, { on := 14, ground := Go.Ground.data }], guard := none }) (v := ?_) rfl (by kernel_rfl) (by kernel_rfl) (by kernel_rfl) (fun _ _ _ h => h) (Or.inl ⟨by rfl, ?_⟩) (by assumption) ?_
  rotate_left
  · intro W hSW
    go_simp
    try with_reducible rfl
  try simp only [Act.put, List.setIfInBounds_toArray, List.set_cons_zero, List.set_cons_succ]
  refine wpAnyH_take (i := 16) (oi := { dst := some 75, op := Go.Op.move (Go.Operand.tmp 74), type := 4, pos := "law.go:44", after := #[{ on := 15, ground := Go.Ground.data }, { on := 11, ground := Go.Ground.chain }], guard := none }) (v := ?_) rfl (by kernel_rfl) (by kernel_rfl) (by kernel_rfl) (fun _ _ _ h => h) (Or.inl ⟨by rfl, ?_⟩) (by assumption) ?_
  rotate_left
  · intro W hSW
    go_simp
    try with_reducible rfl
  try simp only [Act.put, List.setIfInBounds_toArray, List.set_cons_zero, List.set_cons_succ]
  refine wpAnyH_take (i := 17) (oi := { dst := some 76, op := Go.Op.fieldAddr 35 (Go.Operand.tmp 7) 4, type := 0, pos := "law.go:44", after := #[{ on := 16, ground := Go.Ground.guard }], guard := some (16, true) }) (v := ?_) rfl (by kernel_rfl) (by kernel_rfl) (by kernel_rfl) (fun _ _ _ h => h) (Or.inl ⟨by rfl, ?_⟩) (by assumption) ?_
  rotate_left
  · intro W hSW
    go_simp
    try with_reducible rfl
  try simp only [Act.put, List.setIfInBounds_toArray, List.set_cons_zero, List.set_cons_succ]
  refine wpAnyH_take (i := 18) (oi := { dst := some 77, op := Go.Op.load 3 (Go.Operand.tmp 76), type := 3, pos := "law.go:44", after := #[{ on := 17, ground := Go.Ground.data }, { on := 16, ground := Go.Ground.guard }], guard := some (16, true) }) (v := ?_) rfl (by kernel_rfl) (by kernel_rfl) (by kernel_rfl) (fun _ _ _ h => h) (Or.inl ⟨by rfl, ?_⟩) (by assumption) ?_
  rotate_left
  · intro W hSW
    have e0 := k4 W hSW
    go_simp
    try with_reducible rfl
  try simp only [Act.put, List.setIfInBounds_toArray, List.set_cons_zero, List.set_cons_succ]
  refine wpAnyH_take (i := 19) (oi := { dst := some 78, op := Go.Op.binOp Go.BinOp.eql 3 (Go.Operand.tmp 77) (Go.Operand.const (Go.Value.int Go.IntKind.i64 2)) 3, type := 4, pos := "law.go:44", after := #[{ on := 18, ground := Go.Ground.data }, { on := 16, ground := Go.Ground.guard }], guard := some (16, true) }) (v := ?_) rfl (by kernel_rfl) (by kernel_rfl) (by kernel_rfl) (fun _ _ _ h => h) (Or.inl ⟨by rfl, ?_⟩) (by assumption) ?_
  rotate_left
  · intro W hSW
    go_simp
    try with_reducible rfl
  try simp only [Act.put, List.setIfInBounds_toArray, List.set_cons_zero, List.set_cons_succ]
  refine wpAnyH_take (i := 20) (oi := { dst := some 79, op := Go.Op.pick (Go.Operand.tmp 75) (Go.Operand.tmp 78) (Go.Operand.const (Go.Value.bool false)), type := 4, pos := "law.go:44", after := #[{ on := 16, ground := Go.Ground.data }, { on := 19, ground := Go.Ground.data }], guard := none }) (v := ?_) rfl (by kernel_rfl) (by kernel_rfl) (by kernel_rfl) (fun _ _ _ h => h) (Or.inl ⟨by rfl, ?_⟩) (by assumption) ?_
  rotate_left
  · intro W hSW
    go_simp
    try with_reducible rfl
  try simp only [Act.put, List.setIfInBounds_toArray, List.set_cons_zero, List.set_cons_succ]
  refine wpAnyH_take (i := 21) (oi := { dst := some 80, op := Go.Op.move (Go.Operand.tmp 79), type := 4, pos := "law.go:44", after := #[{ on := 20, ground := Go.Ground.data }, { on := 16, ground := Go.Ground.chain }], guard := none }) (v := ?_) rfl (by kernel_rfl) (by kernel_rfl) (by kernel_rfl) (fun _ _ _ h => h) (Or.inl ⟨by rfl, ?_⟩) (by assumption) ?_
  rotate_left
  · intro W hSW
    go_simp
    try with_reducible rfl
  try simp only [Act.put, List.setIfInBounds_toArray, List.set_cons_zero, List.set_cons_succ]
  refine wpAnyH_take (i := 22) (oi := { dst := some 81, op := Go.Op.fieldAddr 35 (Go.Operand.tmp 7) 5, type := 0, pos := "law.go:44", after := #[{ on := 21, ground := Go.Ground.guard }], guard := some (21, true) }) (v := ?_) rfl (by kernel_rfl) (by kernel_rfl) (by kernel_rfl) (fun _ _ _ h => h) (Or.inl ⟨by rfl, ?_⟩) (by assumption) ?_
  rotate_left
  · intro W hSW
    go_simp
    try with_reducible rfl
  try simp only [Act.put, List.setIfInBounds_toArray, List.set_cons_zero, List.set_cons_succ]
  refine wpAnyH_take (i := 23) (oi := { dst := some 82, op := Go.Op.load 33 (Go.Operand.tmp 81), type := 33, pos := "law.go:44", after := #[{ on := 22, ground := Go.Ground.data }, { on := 21, ground := Go.Ground.guard }], guard := some (21, true) }) (v := ?_) rfl (by kernel_rfl) (by kernel_rfl) (by kernel_rfl) (fun _ _ _ h => h) (Or.inl ⟨by rfl, ?_⟩) (by assumption) ?_
  rotate_left
  · intro W hSW
    have e0 := k5 W hSW
    go_simp
    try with_reducible rfl
  try simp only [Act.put, List.setIfInBounds_toArray, List.set_cons_zero, List.set_cons_succ]
  refine wpAnyH_take (i := 24) (oi := { dst := some 83, op := Go.Op.call { callee := Go.Callee.builtin Go.Builtin.len, args := #[Go.Operand.tmp 82], argTypes := #[33] }, type := 3, pos := "law.go:44", after := #[{ on := 23, ground := Go.Ground.data }, { on := 21, ground := Go.Ground.guard }], guard := some (21, true) }) (v := ?_) rfl (by kernel_rfl) (by kernel_rfl) (by kernel_rfl) (fun _ _ _ h => h) (Or.inl ⟨by rfl, ?_⟩) (by assumption) ?_
  rotate_left
  · intro W hSW
    go_simp
    try with_reducible rfl
  try simp only [Act.put, List.setIfInBounds_toArray, List.set_cons_zero, List.set_cons_succ]
  refine wpAnyH_take (i := 25) (oi := { dst := some 84, op := Go.Op.binOp Go.BinOp.eql 3 (Go.Operand.tmp 83) (Go.Operand.const (Go.Value.int Go.IntKind.i64 10)) 3, type := 4, pos := "law.go:44", after := #[{ on := 24, ground := Go.Ground.data }, { on := 21, ground := Go.Ground.guard }], guard := some (21, true) }) (v := ?_) rfl (by kernel_rfl) (by kernel_rfl) (by kernel_rfl) (fun _ _ _ h => h) (Or.inl ⟨by rfl, ?_⟩) (by assumption) ?_
  rotate_left
  · intro W hSW
    go_simp
    try with_reducible rfl
  try simp only [Act.put, List.setIfInBounds_toArray, List.set_cons_zero, List.set_cons_succ]
  refine wpAnyH_take (i := 26) (oi := { dst := some 85, op := Go.Op.pick (Go.Operand.tmp 80) (Go.Operand.tmp 84) (Go.Operand.const (Go.Value.bool false)), type := 4, pos := "law.go:44", after := #[{ on := 21, ground := Go.Ground.data }, { on := 25, ground := Go.Ground.data }], guard := none }) (v := ?_) rfl (by kernel_rfl) (by kernel_rfl) (by kernel_rfl) (fun _ _ _ h => h) (Or.inl ⟨by rfl, ?_⟩) (by assumption) ?_
  rotate_left
  · intro W hSW
    go_simp
    try with_reducible rfl
  try simp only [Act.put, List.setIfInBounds_toArray, List.set_cons_zero, List.set_cons_succ]
  refine wpAnyH_take (i := 27) (oi := { dst := some 86, op := Go.Op.move (Go.Operand.tmp 85), type := 4, pos := "law.go:44", after := #[{ on := 26, ground := Go.Ground.data }, { on := 21, ground := Go.Ground.chain }], guard := none }) (v := ?_) rfl (by kernel_rfl) (by kernel_rfl) (by kernel_rfl) (fun _ _ _ h => h) (Or.inl ⟨by rfl, ?_⟩) (by assumption) ?_
  rotate_left
  · intro W hSW
    go_simp
    try with_reducible rfl
  try simp only [Act.put, List.setIfInBounds_toArray, List.set_cons_zero, List.set_cons_succ]
  refine wpAnyH_take (i := 28) (oi := { dst := some 87, op := Go.Op.fieldAddr 35 (Go.Operand.tmp 7) 5, type := 0, pos := "law.go:44", after := #[{ on := 27, ground := Go.Ground.guard }], guard := some (27, true) }) (v := ?_) rfl (by kernel_rfl) (by kernel_rfl) (by kernel_rfl) (fun _ _ _ h => h) (Or.inl ⟨by rfl, ?_⟩) (by assumption) ?_
  rotate_left
  · intro W hSW
    go_simp
    try with_reducible rfl
  try simp only [Act.put, List.setIfInBounds_toArray, List.set_cons_zero, List.set_cons_succ]
  refine wpAnyH_take (i := 29) (oi := { dst := some 88, op := Go.Op.load 33 (Go.Operand.tmp 87), type := 33, pos := "law.go:44", after := #[{ on := 28, ground := Go.Ground.data }, { on := 27, ground := Go.Ground.guard }], guard := some (27, true) }) (v := ?_) rfl (by kernel_rfl) (by kernel_rfl) (by kernel_rfl) (fun _ _ _ h => h) (Or.inl ⟨by rfl, ?_⟩) (by assumption) ?_
  rotate_left
  · intro W hSW
    have e0 := k5 W hSW
    go_simp
    try with_reducible rfl
  try simp only [Act.put, List.setIfInBounds_toArray, List.set_cons_zero, List.set_cons_succ]
  refine wpAnyH_take (i := 30) (oi := { dst := some 89, op := Go.Op.indexAddr 33 (Go.Operand.tmp 88) (Go.Operand.const (Go.Value.int Go.IntKind.i64 3)), type := 0, pos := "law.go:44", after := #[{ on := 29, ground := Go.Ground.data }, { on := 27, ground := Go.Ground.guard }], guard := some (27, true) }) (v := ?_) rfl (by kernel_rfl) (by kernel_rfl) (by kernel_rfl) (fun _ _ _ h => h) (Or.inl ⟨by rfl, ?_⟩) (by assumption) ?_
  rotate_left
  · intro W hSW
    go_simp
    try with_reducible rfl
  try simp only [Act.put, List.setIfInBounds_toArray, List.set_cons_zero, List.set_cons_succ]
  refine wpAnyH_take (i := 31) (oi := { dst := some 90, op := Go.Op.load 3 (Go.Operand.tmp 89), type := 3, pos := "law.go:44", after := #[{ on := 30, ground := Go.Ground.data }, { on := 27, ground := Go.Ground.guard }], guard := some (27, true) }) (v := ?_) rfl (by kernel_rfl) (by kernel_rfl) (by kernel_rfl) (fun _ _ _ h => h) (Or.inl ⟨by rfl, ?_⟩) (by assumption) ?_
  rotate_left
  · intro W hSW
    have e0 := r3 W hSW
    go_simp
    try with_reducible rfl
  try simp only [Act.put, List.setIfInBounds_toArray, List.set_cons_zero, List.set_cons_succ]
  refine wpAnyH_take (i := 32) (oi := { dst := some 91, op := Go.Op.binOp Go.BinOp.eql 3 (Go.Operand.tmp 90) (Go.Operand.const (Go.Value.int Go.IntKind.i64 2)) 3, type := 4, pos := "law.go:44", after := #[{ on := 31, ground := Go.Ground.data }, { on := 27, ground := Go.Ground.guard }], guard := some (27, true) }) (v := ?_) rfl (by kernel_rfl) (by kernel_rfl) (by kernel_rfl) (fun _ _ _ h => h) (Or.inl ⟨by rfl, ?_⟩) (by assumption) ?_
  rotate_left
  · intro W hSW
    go_simp
    try with_reducible rfl
  try simp only [Act.put, List.setIfInBounds_toArray, List.set_cons_zero, List.set_cons_succ]
  refine wpAnyH_take (i := 33) (oi := { dst := some 92, op := Go.Op.pick (Go.Operand.tmp 86) (Go.Operand.tmp 91) (Go.Operand.const (Go.Value.bool false)), type := 4, pos := "law.go:44", after := #[{ on := 27, ground := Go.Ground.data }, { on := 32, ground := Go.Ground.data }], guard := none }) (v := ?_) rfl (by kernel_rfl) (by kernel_rfl) (by kernel_rfl) (fun _ _ _ h => h) (Or.inl ⟨by rfl, ?_⟩) (by assumption) ?_
  rotate_left
  · intro W hSW
    go_simp
    try with_reducible rfl
  try simp only [Act.put, List.setIfInBounds_toArray, List.set_cons_zero, List.set_cons_succ]
  refine wpAnyH_take (i := 34) (oi := { dst := some 93, op := Go.Op.move (Go.Operand.tmp 92), type := 4, pos := "law.go:44", after := #[{ on := 33, ground := Go.Ground.data }, { on := 27, ground := Go.Ground.chain }], guard := none }) (v := ?_) rfl (by kernel_rfl) (by kernel_rfl) (by kernel_rfl) (fun _ _ _ h => h) (Or.inl ⟨by rfl, ?_⟩) (by assumption) ?_
  rotate_left
  · intro W hSW
    go_simp
    try with_reducible rfl
  try simp only [Act.put, List.setIfInBounds_toArray, List.set_cons_zero, List.set_cons_succ]
  refine wpAnyH_take (i := 35) (oi := { dst := some 94, op := Go.Op.fieldAddr 35 (Go.Operand.tmp 7) 5, type := 0, pos := "law.go:44", after := #[{ on := 34, ground := Go.Ground.guard }], guard := some (34, true) }) (v := ?_) rfl (by kernel_rfl) (by kernel_rfl) (by kernel_rfl) (fun _ _ _ h => h) (Or.inl ⟨by rfl, ?_⟩) (by assumption) ?_
  rotate_left
  · intro W hSW
    go_simp
    try with_reducible rfl
  try simp only [Act.put, List.setIfInBounds_toArray, List.set_cons_zero, List.set_cons_succ]
  refine wpAnyH_take (i := 36) (oi := { dst := some 95, op := Go.Op.load 33 (Go.Operand.tmp 94), type := 33, pos := "law.go:44", after := #[{ on := 35, ground := Go.Ground.data }, { on := 34, ground := Go.Ground.guard }], guard := some (34, true) }) (v := ?_) rfl (by kernel_rfl) (by kernel_rfl) (by kernel_rfl) (fun _ _ _ h => h) (Or.inl ⟨by rfl, ?_⟩) (by assumption) ?_
  rotate_left
  · intro W hSW
    have e0 := k5 W hSW
    go_simp
    try with_reducible rfl
  try simp only [Act.put, List.setIfInBounds_toArray, List.set_cons_zero, List.set_cons_succ]
  refine wpAnyH_take (i := 37) (oi := { dst := some 96, op := Go.Op.indexAddr 33 (Go.Operand.tmp 95) (Go.Operand.const (Go.Value.int Go.IntKind.i64 4)), type := 0, pos := "law.go:44", after := #[{ on := 36, ground := Go.Ground.data }, { on := 34, ground := Go.Ground.guard }], guard := some (34, true) }) (v := ?_) rfl (by kernel_rfl) (by kernel_rfl) (by kernel_rfl) (fun _ _ _ h => h) (Or.inl ⟨by rfl, ?_⟩) (by assumption) ?_
  rotate_left
  · intro W hSW
    go_simp
    try with_reducible rfl
  try simp only [Act.put, List.setIfInBounds_toArray, List.set_cons_zero, List.set_cons_succ]
  refine wpAnyH_take (i := 38) (oi := { dst := some 97, op := Go.Op.load 3 (Go.Operand.tmp 96), type := 3, pos := "law.go:44", after := #[{ on := 37, ground := Go.Ground.data }, { on := 34, ground := Go.Ground.guard }], guard := some (34, true) }) (v := ?_) rfl (by kernel_rfl) (by kernel_rfl) (by kernel_rfl) (fun _ _ _ h => h) (Or.inl ⟨by rfl, ?_⟩) (by assumption) ?_
  rotate_left
  · intro W hSW
    have e0 := r4 W hSW
    go_simp
    try with_reducible rfl
  try simp only [Act.put, List.setIfInBounds_toArray, List.set_cons_zero, List.set_cons_succ]
  refine wpAnyH_take (i := 39) (oi := { dst := some 98, op := Go.Op.binOp Go.BinOp.eql 3 (Go.Operand.tmp 97) (Go.Operand.const (Go.Value.int Go.IntKind.i64 3)) 3, type := 4, pos := "law.go:44", after := #[{ on := 38, ground := Go.Ground.data }, { on := 34, ground := Go.Ground.guard }], guard := some (34, true) }) (v := ?_) rfl (by kernel_rfl) (by kernel_rfl) (by kernel_rfl) (fun _ _ _ h => h) (Or.inl ⟨by rfl, ?_⟩) (by assumption) ?_
  rotate_left
  · intro W hSW
    go_simp
    try with_reducible rfl
  try simp only [Act.put, List.setIfInBounds_toArray, List.set_cons_zero, List.set_cons_succ]
  refine wpAnyH_take (i := 40) (oi := { dst := some 99, op := Go.Op.pick (Go.Operand.tmp 93) (Go.Operand.tmp 98) (Go.Operand.const (Go.Value.bool false)), type := 4, pos := "law.go:44", after := #[{ on := 34, ground := Go.Ground.data }, { on := 39, ground := Go.Ground.data }], guard := none }) (v := ?_) rfl (by kernel_rfl) (by kernel_rfl) (by kernel_rfl) (fun _ _ _ h => h) (Or.inl ⟨by rfl, ?_⟩) (by assumption) ?_
  rotate_left
  · intro W hSW
    go_simp
    try with_reducible rfl
  try simp only [Act.put, List.setIfInBounds_toArray, List.set_cons_zero, List.set_cons_succ]
  refine wpAnyH_take (i := 41) (oi := { dst := some 100, op := Go.Op.move (Go.Operand.tmp 99), type := 4, pos := "law.go:44", after := #[{ on := 40, ground := Go.Ground.data }, { on := 34, ground := Go.Ground.chain }], guard := none }) (v := ?_) rfl (by kernel_rfl) (by kernel_rfl) (by kernel_rfl) (fun _ _ _ h => h) (Or.inl ⟨by rfl, ?_⟩) (by assumption) ?_
  rotate_left
  · intro W hSW
    go_simp
    try with_reducible rfl
  try simp only [Act.put, List.setIfInBounds_toArray, List.set_cons_zero, List.set_cons_succ]
  refine wpAnyH_take (i := 42) (oi := { dst := some 101, op := Go.Op.move (Go.Operand.tmp 8), type := 41, pos := "law.go:44", after := #[{ on := 41, ground := Go.Ground.guard }], guard := some (41, true) }) (v := ?_) rfl (by kernel_rfl) (by kernel_rfl) (by kernel_rfl) (fun _ _ _ h => h) (Or.inl ⟨by rfl, ?_⟩) (by assumption) ?_
  rotate_left
  · intro W hSW
    go_simp
    try with_reducible rfl
  try simp only [Act.put, List.setIfInBounds_toArray, List.set_cons_zero, List.set_cons_succ]
  refine wpAnyH_take (i := 43) (oi := { dst := some 102, op := Go.Op.convert 41 9 (Go.Operand.tmp 101), type := 9, pos := "law.go:44", after := #[{ on := 42, ground := Go.Ground.data }, { on := 41, ground := Go.Ground.guard }], guard := some (41, true) }) (v := ?_) rfl (by kernel_rfl) (by kernel_rfl) (by kernel_rfl) (fun _ _ _ h => h) (Or.inl ⟨by rfl, ?_⟩) (by assumption) ?_
  rotate_left
  · intro W hSW
    have e0 := kv W hSW
    go_simp
    try with_reducible rfl
  try simp only [Act.put, List.setIfInBounds_toArray, List.set_cons_zero, List.set_cons_succ]
  refine wpAnyH_ready (rs := [44]) (by kernel_rfl) (by simp) ?_
  refine AllReadyH.cons (o := { dst := some 103, op := Go.Op.call { callee := Go.Callee.value (Go.Operand.func 12), args := #[Go.Operand.const (Go.Value.int Go.IntKind.i64 3)], argTypes := #[3] }, type := 41, pos := "law.go:44", after := #[{ on := 41, ground := Go.Ground.chain }, { on := 41, ground := Go.Ground.guard }], guard := some (41, true) }) rfl (fun K hK => ?_) AllReadyH.nil
  go_simp
  go_at_call 12
  refine (block_any 3 _).mono ?_
  rintro e wE ⟨rfl, hrE, hbE⟩
  have hE : Below wD.heap.size wD wE := hHeld.trans (hbE.mono hHeld.size)
  have kE : ∀ W : World, Below wE.heap.size wE W → (convert 41 9 (.slice (some ⟨wD.heap.size, 0, none⟩) 480 480)).run Try.prog W = .ok (.string ⟨(blk 3).toArray⟩) W := fun W h => run_convBytes ((blk_bv hrE).below h).reads
  clear hbE
  refine hK.out _ _ (hE) (fun hHeld => ?_)
  clear hK K
  try simp only [Act.put, List.setIfInBounds_toArray, List.set_cons_zero, List.set_cons_succ]
  refine wpAnyH_weaken (S' := fun W => Below wE.heap.size wE W) (fun W h => hE.trans (h.mono hE.size)) _ _ _ _ ?_
  replace hHeld := Below.refl wE.heap.size wE
  refine wpAnyH_take (i := 45) (oi := { dst := some 104, op := Go.Op.convert 41 9 (Go.Operand.tmp 103), type := 9, pos := "law.go:44", after := #[{ on := 44, ground := Go.Ground.data }, { on := 41, ground := Go.Ground.guard }], guard := some (41, true) }) (v := ?_) rfl (by kernel_rfl) (by kernel_rfl) (by kernel_rfl) (fun _ _ _ h => h) (Or.inl ⟨by rfl, ?_⟩) (by assumption) ?_
  rotate_left
  · intro W hSW
    have e0 := kE W hSW
    go_simp
    try with_reducible rfl
  try simp only [Act.put, List.setIfInBounds_toArray, List.set_cons_zero, List.set_cons_succ]
  refine wpAnyH_take (i := 46) (oi := { dst := some 105, op := Go.Op.binOp Go.BinOp.eql 9 (Go.Operand.tmp 102) (Go.Operand.tmp 104) 9, type := 4, pos := "law.go:44", after := #[{ on := 43, ground := Go.Ground.data }, { on := 45, ground := Go.Ground.data }, { on := 41, ground := Go.Ground.guard }], guard := some (41, true) }) (v := ?_) rfl (by kernel_rfl) (by kernel_rfl) (by kernel_rfl) (fun _ _ _ h => h) (Or.inl ⟨by rfl, ?_⟩) (by assumption) ?_
  rotate_left
  · intro W hSW
    go_simp
    try with_reducible rfl
  try simp only [Act.put, List.setIfInBounds_toArray, List.set_cons_zero, List.set_cons_succ]
  refine wpAnyH_take (i := 47) (oi := { dst := some 106, op := Go.Op.pick (Go.Operand.tmp 100) (Go.Operand.tmp 105) (Go.Operand.const (Go.Value.bool false)), type := 4, pos := "law.go:44", after := #[{ on := 41, ground := Go.Ground.data }, { on := 46, ground := Go.Ground.data }], guard := none }) (v := ?_) rfl (by kernel_rfl) (by kernel_rfl) (by kernel_rfl) (fun _ _ _ h => h) (Or.inl ⟨by rfl, ?_⟩) (by assumption) ?_
  rotate_left
  · intro W hSW
    go_simp
    try with_reducible rfl
  try simp only [Act.put, List.setIfInBounds_toArray, List.set_cons_zero, List.set_cons_succ]
  refine wpAnyH_take (i := 48) (oi := { dst := some 107, op := Go.Op.move (Go.Operand.tmp 106), type := 4, pos := "law.go:44", after := #[{ on := 47, ground := Go.Ground.data }, { on := 44, ground := Go.Ground.chain }], guard := none }) (v := ?_) rfl (by kernel_rfl) (by kernel_rfl) (by kernel_rfl) (fun _ _ _ h => h) (Or.inl ⟨by rfl, ?_⟩) (by assumption) ?_
  rotate_left
  · intro W hSW
    go_simp
    try with_reducible rfl
  try simp only [Act.put, List.setIfInBounds_toArray, List.set_cons_zero, List.set_cons_succ]
  refine wpAnyH_take (i := 49) (oi := { dst := some 108, op := Go.Op.move (Go.Operand.tmp 9), type := 25, pos := "law.go:44", after := #[{ on := 48, ground := Go.Ground.guard }], guard := some (48, true) }) (v := ?_) rfl (by kernel_rfl) (by kernel_rfl) (by kernel_rfl) (fun _ _ _ h => h) (Or.inl ⟨by rfl, ?_⟩) (by assumption) ?_
  rotate_left
  · intro W hSW
    go_simp
    try with_reducible rfl
  try simp only [Act.put, List.setIfInBounds_toArray, List.set_cons_zero, List.set_cons_succ]
  refine wpAnyH_take (i := 50) (oi := { dst := some 109, op := Go.Op.binOp Go.BinOp.eql 25 (Go.Operand.tmp 108) (Go.Operand.const (Go.Value.int Go.IntKind.i64 0)) 25, type := 4, pos := "law.go:44", after := #[{ on := 49, ground := Go.Ground.data }, { on := 48, ground := Go.Ground.guard }], guard := some (48, true) }) (v := ?_) rfl (by kernel_rfl) (by kernel_rfl) (by kernel_rfl) (fun _ _ _ h => h) (Or.inl ⟨by rfl, ?_⟩) (by assumption) ?_
  rotate_left
  · intro W hSW
    go_simp
    try with_reducible rfl
  try simp only [Act.put, List.setIfInBounds_toArray, List.set_cons_zero, List.set_cons_succ]
  refine wpAnyH_take (i := 51) (oi := { dst := some 110, op := Go.Op.pick (Go.Operand.tmp 107) (Go.Operand.tmp 109) (Go.Operand.const (Go.Value.bool false)), type := 4, pos := "law.go:44", after := #[{ on := 48, ground := Go.Ground.data }, { on := 50, ground := Go.Ground.data }], guard := none }) (v := ?_) rfl (by kernel_rfl) (by kernel_rfl) (by kernel_rfl) (fun _ _ _ h => h) (Or.inl ⟨by rfl, ?_⟩) (by assumption) ?_
  rotate_left
  · intro W hSW
    go_simp
    try with_reducible rfl
  try simp only [Act.put, List.setIfInBounds_toArray, List.set_cons_zero, List.set_cons_succ]
  refine wpAnyH_take (i := 52) (oi := { dst := some 111, op := Go.Op.move (Go.Operand.tmp 110), type := 4, pos := "law.go:44", after := #[{ on := 51, ground := Go.Ground.data }, { on := 48, ground := Go.Ground.chain }], guard := none }) (v := ?_) rfl (by kernel_rfl) (by kernel_rfl) (by kernel_rfl) (fun _ _ _ h => h) (Or.inl ⟨by rfl, ?_⟩) (by assumption) ?_
  rotate_left
  · intro W hSW
    go_simp
    try with_reducible rfl
  try simp only [Act.put, List.setIfInBounds_toArray, List.set_cons_zero, List.set_cons_succ]
  refine wpAnyH_take (i := 53) (oi := { dst := some 112, op := Go.Op.move (Go.Operand.tmp 10), type := 25, pos := "law.go:44", after := #[{ on := 52, ground := Go.Ground.guard }], guard := some (52, true) }) (v := ?_) rfl (by kernel_rfl) (by kernel_rfl) (by kernel_rfl) (fun _ _ _ h => h) (Or.inl ⟨by rfl, ?_⟩) (by assumption) ?_
  rotate_left
  · intro W hSW
    go_simp
    try with_reducible rfl
  try simp only [Act.put, List.setIfInBounds_toArray, List.set_cons_zero, List.set_cons_succ]
  refine wpAnyH_take (i := 54) (oi := { dst := some 113, op := Go.Op.binOp Go.BinOp.eql 25 (Go.Operand.tmp 112) (Go.Operand.const (Go.Value.int Go.IntKind.i64 1)) 25, type := 4, pos := "law.go:44", after := #[{ on := 53, ground := Go.Ground.data }, { on := 52, ground := Go.Ground.guard }], guard := some (52, true) }) (v := ?_) rfl (by kernel_rfl) (by kernel_rfl) (by kernel_rfl) (fun _ _ _ h => h) (Or.inl ⟨by rfl, ?_⟩) (by assumption) ?_
  rotate_left
  · intro W hSW
    go_simp
    try with_reducible rfl
  try simp only [Act.put, List.setIfInBounds_toArray, List.set_cons_zero, List.set_cons_succ]
  refine wpAnyH_take (i := 55) (oi := { dst := some 114, op := Go.Op.pick (Go.Operand.tmp 111) (Go.Operand.tmp 113) (Go.Operand.const (Go.Value.bool false)), type := 4, pos := "law.go:44", after := #[{ on := 52, ground := Go.Ground.data }, { on := 54, ground := Go.Ground.data }], guard := none }) (v := ?_) rfl (by kernel_rfl) (by kernel_rfl) (by kernel_rfl) (fun _ _ _ h => h) (Or.inl ⟨by rfl, ?_⟩) (by assumption) ?_
  rotate_left
  · intro W hSW
    go_simp
    try with_reducible rfl
  try simp only [Act.put, List.setIfInBounds_toArray, List.set_cons_zero, List.set_cons_succ]
  refine wpAnyH_take (i := 56) (oi := { dst := some 115, op := Go.Op.move (Go.Operand.tmp 114), type := 4, pos := "law.go:44", after := #[{ on := 55, ground := Go.Ground.data }, { on := 52, ground := Go.Ground.chain }], guard := none }) (v := ?_) rfl (by kernel_rfl) (by kernel_rfl) (by kernel_rfl) (fun _ _ _ h => h) (Or.inl ⟨by rfl, ?_⟩) (by assumption) ?_
  rotate_left
  · intro W hSW
    go_simp
    try with_reducible rfl
  try simp only [Act.put, List.setIfInBounds_toArray, List.set_cons_zero, List.set_cons_succ]
  refine wpAnyH_take (i := 57) (oi := { dst := some 116, op := Go.Op.move (Go.Operand.tmp 3), type := 28, pos := "law.go:44", after := #[{ on := 56, ground := Go.Ground.guard }], guard := some (56, true) }) (v := ?_) rfl (by kernel_rfl) (by kernel_rfl) (by kernel_rfl) (fun _ _ _ h => h) (Or.inl ⟨by rfl, ?_⟩) (by assumption) ?_
  rotate_left
  · intro W hSW
    go_simp
    try with_reducible rfl
  try simp only [Act.put, List.setIfInBounds_toArray, List.set_cons_zero, List.set_cons_succ]
  refine wpAnyH_ready (rs := [58]) (by kernel_rfl) (by simp) ?_
  refine AllReadyH.cons (o := { dst := some 117, op := Go.Op.call { callee := Go.Callee.value (Go.Operand.func 23), args := #[Go.Operand.tmp 116], argTypes := #[28] }, type := 4, pos := "law.go:44", after := #[{ on := 57, ground := Go.Ground.data }, { on := 56, ground := Go.Ground.chain }, { on := 56, ground := Go.Ground.guard }], guard := some (56, true) }) rfl (fun K hK => ?_) AllReadyH.nil
  go_simp
  go_at_call 23
  refine (broken_any (kj _ hE)).mono ?_
  rintro e wF ⟨rfl, rfl⟩
  rw [hbr]
  refine hK.out _ _ (hHeld) (fun hHeld => ?_)
  clear hK K
  try simp only [Act.put, List.setIfInBounds_toArray, List.set_cons_zero, List.set_cons_succ]
  refine wpAnyH_take (i := 59) (oi := { dst := some 118, op := Go.Op.unOp Go.UnOp.not 4 (Go.Operand.tmp 117), type := 4, pos := "law.go:44", after := #[{ on := 58, ground := Go.Ground.data }, { on := 56, ground := Go.Ground.guard }], guard := some (56, true) }) (v := ?_) rfl (by kernel_rfl) (by kernel_rfl) (by kernel_rfl) (fun _ _ _ h => h) (Or.inl ⟨by rfl, ?_⟩) (by assumption) ?_
  rotate_left
  · intro W hSW
    go_simp
    try with_reducible rfl
  try simp only [Act.put, List.setIfInBounds_toArray, List.set_cons_zero, List.set_cons_succ]
  refine wpAnyH_take (i := 60) (oi := { dst := some 119, op := Go.Op.pick (Go.Operand.tmp 115) (Go.Operand.tmp 118) (Go.Operand.const (Go.Value.bool false)), type := 4, pos := "law.go:44", after := #[{ on := 56, ground := Go.Ground.data }, { on := 59, ground := Go.Ground.data }], guard := none }) (v := ?_) rfl (by kernel_rfl) (by kernel_rfl) (by kernel_rfl) (fun _ _ _ h => h) (Or.inl ⟨by rfl, ?_⟩) (by assumption) ?_
  rotate_left
  · intro W hSW
    go_simp
    try with_reducible rfl
  try simp only [Act.put, List.setIfInBounds_toArray, List.set_cons_zero, List.set_cons_succ]
  refine wpAnyH_take (i := 61) (oi := { dst := some 120, op := Go.Op.move (Go.Operand.tmp 119), type := 4, pos := "law.go:44", after := #[{ on := 60, ground := Go.Ground.data }, { on := 58, ground := Go.Ground.chain }], guard := none }) (v := ?_) rfl (by kernel_rfl) (by kernel_rfl) (by kernel_rfl) (fun _ _ _ h => h) (Or.inl ⟨by rfl, ?_⟩) (by assumption) ?_
  rotate_left
  · intro W hSW
    go_simp
    try with_reducible rfl
  try simp only [Act.put, List.setIfInBounds_toArray, List.set_cons_zero, List.set_cons_succ]
  refine wpAnyH_take (i := 62) (oi := { dst := some 121, op := Go.Op.move (Go.Operand.tmp 3), type := 28, pos := "law.go:44", after := #[{ on := 61, ground := Go.Ground.guard }], guard := some (61, true) }) (v := ?_) rfl (by kernel_rfl) (by kernel_rfl) (by kernel_rfl) (fun _ _ _ h => h) (Or.inl ⟨by rfl, ?_⟩) (by assumption) ?_
  rotate_left
  · intro W hSW
    go_simp
    try with_reducible rfl
  try simp only [Act.put, List.setIfInBounds_toArray, List.set_cons_zero, List.set_cons_succ]
  refine wpAnyH_ready (rs := [63]) (by kernel_rfl) (by simp) ?_
  refine AllReadyH.cons (o := { dst := some 122, op := Go.Op.call { callee := Go.Callee.value (Go.Operand.func 20), args := #[Go.Operand.tmp 121], argTypes := #[28] }, type := 3, pos := "law.go:44", after := #[{ on := 62, ground := Go.Ground.data }, { on := 61, ground := Go.Ground.chain }, { on := 61, ground := Go.Ground.guard }], guard := some (61, true) }) rfl (fun K hK => ?_) AllReadyH.nil
  go_simp
  go_at_call 20
  refine (room_any (kj _ hE)).mono ?_
  rintro e wF ⟨rfl, nF, rfl⟩
  rw [HM.out.2.1, HM.out.2.2.1, HM.out.2.2.2.1]
  refine hK.out _ _ (((Touch.refl Emp wE).drewN nF).below) (fun hHeld => ?_)
  clear hK K
  try simp only [Act.put, List.setIfInBounds_toArray, List.set_cons_zero, List.set_cons_succ]
  refine wpAnyH_take (i := 64) (oi := { dst := some 123, op := Go.Op.binOp Go.BinOp.eql 3 (Go.Operand.tmp 122) (Go.Operand.const (Go.Value.int Go.IntKind.i64 196)) 3, type := 4, pos := "law.go:44", after := #[{ on := 63, ground := Go.Ground.data }, { on := 61, ground := Go.Ground.guard }], guard := some (61, true) }) (v := ?_) rfl (by kernel_rfl) (by kernel_rfl) (by kernel_rfl) (fun _ _ _ h => h) (Or.inl ⟨by rfl, ?_⟩) (by assumption) ?_
  rotate_left
  · intro W hSW
    go_simp
    try with_reducible rfl
  try simp only [Act.put, List.setIfInBounds_toArray, List.set_cons_zero, List.set_cons_succ]
  refine wpAnyH_take (i := 65) (oi := { dst := some 124, op := Go.Op.pick (Go.Operand.tmp 120) (Go.Operand.tmp 123) (Go.Operand.const (Go.Value.bool false)), type := 4, pos := "law.go:44", after := #[{ on := 61, ground := Go.Ground.data }, { on := 64, ground := Go.Ground.data }], guard := none }) (v := ?_) rfl (by kernel_rfl) (by kernel_rfl) (by kernel_rfl) (fun _ _ _ h => h) (Or.inl ⟨by rfl, ?_⟩) (by assumption) ?_
  rotate_left
  · intro W hSW
    go_simp
    try with_reducible rfl
  try simp only [Act.put, List.setIfInBounds_toArray, List.set_cons_zero, List.set_cons_succ]
  refine wpAnyH_take (i := 66) (oi := { dst := some 0, op := Go.Op.assign (Go.Operand.tmp 124), type := 4, pos := "law.go:44", after := ([{ on := 65, ground := Go.Ground.data }, { on := 63, ground := Go.Ground.chain }, { on := 0, ground := Go.Ground.phase }, { on := 1, ground := Go.Ground.phase }, { on := 2, ground := Go.Ground.phase }, { on := 3, ground := Go.Ground.phase }, { on := 4, ground := Go.Ground.phase }, { on := 5, ground := Go.Ground.phase }, { on := 6, ground := Go.Ground.phase }, { on := 7, ground := Go.Ground.phase }, { on := 8, ground := Go.Ground.phase }, { on := 9, ground := Go.Ground.phase }, { on := 10, ground := Go.Ground.phase }, { on := 11, ground := Go.Ground.phase }, { on := 12, ground := Go.Ground.phase }, { on := 13, ground := Go.Ground.phase }, { on := 14, ground := Go.Ground.phase }, { on := 15, ground := Go.Ground.phase }, { on := 16, ground := Go.Ground.phase }, { on := 17, ground := Go.Ground.phase }, { on := 18, ground := Go.Ground.phase }, { on := 19, ground := Go.Ground.phase }, { on := 20, ground := Go.Ground.phase }, { on := 21, ground := Go.Ground.phase }, { on := 22, ground := Go.Ground.phase }, { on := 23, ground := Go.Ground.phase }, { on := 24, ground := Go.Ground.phase }, { on := 25, ground := Go.Ground.phase }, { on := 26, ground := Go.Ground.phase }, { on := 27, ground := Go.Ground.phase }, { on := 28, ground := Go.Ground.phase }, { on := 29, ground := Go.Ground.phase }, { on := 30, ground := Go.Ground.phase }, { on := 31, ground := Go.Ground.phase }].append [{ on := 32, ground := Go.Ground.phase }, { on := 33, ground := Go.Ground.phase }, { on := 34, ground := Go.Ground.phase }, { on := 35, ground := Go.Ground.phase }, { on := 36, ground := Go.Ground.phase }, { on := 37, ground := Go.Ground.phase }, { on := 38, ground := Go.Ground.phase }, { on := 39, ground := Go.Ground.phase }, { on := 40, ground := Go.Ground.phase }, { on := 41, ground := Go.Ground.phase }, { on := 42, ground := Go.Ground.phase }, { on := 43, ground := Go.Ground.phase }, { on := 44, ground := Go.Ground.phase }, { on := 45, ground := Go.Ground.phase }, { on := 46, ground := Go.Ground.phase }, { on := 47, ground := Go.Ground.phase }, { on := 48, ground := Go.Ground.phase }, { on := 49, ground := Go.Ground.phase }, { on := 50, ground := Go.Ground.phase }, { on := 51, ground := Go.Ground.phase }, { on := 52, ground := Go.Ground.phase }, { on := 53, ground := Go.Ground.phase }, { on := 54, ground := Go.Ground.phase }, { on := 55, ground := Go.Ground.phase }, { on := 56, ground := Go.Ground.phase }, { on := 57, ground := Go.Ground.phase }, { on := 58, ground := Go.Ground.phase }, { on := 59, ground := Go.Ground.phase }, { on := 60, ground := Go.Ground.phase }, { on := 61, ground := Go.Ground.phase }, { on := 62, ground := Go.Ground.phase }, { on := 63, ground := Go.Ground.phase }, { on := 64, ground := Go.Ground.phase }, { on := 65, ground := Go.Ground.phase }]).toArray, guard := none }) (v := ?_) rfl (by kernel_rfl) (by kernel_rfl) (by kernel_rfl) (fun _ _ _ h => h) (Or.inl ⟨by rfl, ?_⟩) (by assumption) ?_
  rotate_left
  · intro W hSW
    go_simp
    try with_reducible rfl
  try simp only [Act.put, List.setIfInBounds_toArray, List.set_cons_zero]
  refine wpAnyH_done (by kernel_rfl) ?_ _
  have h1 := GD.out.below
  have h2 := h1.trans (hE.mono h1.size)
  have FIN := Lib.hid (h2.trans (((Touch.refl Emp wE).drewN nF).below.mono h2.size))
  clear hE kE hrE kj kv r3 r4 k2 k3 k4 k5 kw h1 h2
  go_wp2
  go_ret
  exact ⟨rfl, FIN.out⟩

end Jn
end Go.Proofs.Ytpbcjaennbgmaaa
