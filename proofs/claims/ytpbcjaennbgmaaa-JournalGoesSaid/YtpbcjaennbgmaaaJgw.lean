/- JournalGoes's walk. -/
import Derived.Test.YtpbcjaennbgmaaaJtw
set_option maxRecDepth 100000
namespace Go.Proofs.Ytpbcjaennbgmaaa
namespace Jn
open Go.RowKit

/-- A row of slices of bytes that was appended to. -/
structure HasS (base : Nat) (w : World) (v : Value) (dat : Nat → List UInt8) (n : Nat) (L : List (Value × Nat)) : Prop where
  own : w.ownsRow base 41 1 v n (L.map (·.1))
  len : L.length = n
  data : ∀ i (h : i < L.length), BV w L[i].1 (dat i) L[i].2 ∧ base ≤ L[i].2 ∧ ∃ c f, w.heap[L[i].2]? = some (.cells c 5 f)
theorem HasS.touch {base n : Nat} {w w1 : World} {v : Value} {dat : Nat → List UInt8} {L : List (Value × Nat)} {G : Nat → Prop} (h : HasS base w v dat n L) (ht : Touch G w w1) (h1 : ∀ j, base ≤ j → j < w.heap.size → ¬ G j) : HasS base w1 v dat n L :=
  ⟨ownsRow_touch h.own ht (fun j hj => h1 j (h.own.lt j hj).1 (h.own.lt j hj).2), h.len, fun i hi => by
    obtain ⟨d1, d2, c, f, d3⟩ := h.data i hi
    have hn := h1 _ d2 (lt_of_heap d3)
    exact ⟨d1.touch ht (fun _ => hn), d2, c, f, ht.at d3 hn⟩⟩

theorem HasS.snoc {base n : Nat} {w w1 : World} {v v' u : Value} {g : Nat} {dat : Nat → List UInt8} {L : List (Value × Nat)} (h : HasS base w v dat n L) (hu : BV w u (dat n) g ∧ base ≤ g ∧ ∃ c f, w.heap[g]? = some (.cells c 5 f)) (hown' : w1.ownsRow base 41 1 v' (n + 1) (L.map (·.1) ++ [u]))
    (ht : Touch (fun j => v.ownBlock = some j) w w1) : HasS base w1 v' dat (n + 1) (L ++ [(u, g)]) := by
  have hne : ∀ (g : Nat) (c : Array Value) (f : Nat × Nat), w.heap[g]? = some (.cells c 5 f) → ¬ (v.ownBlock = some g) := by
    intro g c f hg ho
    obtain ⟨cur, hc⟩ := ownsRow_block h.own ho
    rw [hg] at hc
    simp at hc
  refine ⟨by simpa using hown', by simp [h.len], fun i hi => ?_⟩
  rw [List.length_append] at hi
  by_cases h1 : i < L.length
  · rw [List.getElem_append_left h1]
    obtain ⟨d1, d2, c, f, d3⟩ := h.data i h1
    exact ⟨d1.touch ht (fun _ => hne _ c f d3), d2, c, f, ht.at d3 (hne _ c f d3)⟩
  · have hn := h.len
    obtain rfl : i = n := by simp at hi; omega
    rw [List.getElem_append_right (by omega)]
    obtain ⟨d1, d2, c, f, d3⟩ := hu
    simp only [hn, Nat.sub_self, List.getElem_cons_zero]
    exact ⟨d1.touch ht (fun _ => hne _ c f d3), d2, c, f, ht.at d3 (hne _ c f d3)⟩

set_option maxHeartbeats 8000000 in
theorem goes_walk (a0 : Option Addr) (n0 c0 : Nat) (a1 : Option Addr) (n1 c1 : Nat) (w : World) (hs0 : ∀ i, i < n0 → StepIn w a0 i) (hs1 : ∀ i, i < n1 → StepIn w a1 i) :
    Calls Try.prog 6 #[.slice a0 n0 c0, .slice a1 n1 c1] w fun e w' => e = .returned (.bool true) ∧ Below w.heap.size w w' := by
  have HS0 := Lib.hid hs0
  have HS1 := Lib.hid hs1
  clear hs0 hs1
  have SH := Lib.hid (shown_any w)
  go_enter Try.func6, Try.ntmps6
  go_wp2_with fail
  refine SH.out.mono ?_
  rintro e wS ⟨rfl, hbS⟩
  have BS := Lib.hid hbS
  have ND := Lib.hid (new_any 201 wS (by omega) (by omega))
  clear SH hbS
  go_wp2_with fail
  refine ND.out.mono ?_
  rintro e w1 ⟨rfl, ht1, hs1, hd1⟩
  have D1 := Lib.hid (And.intro hd1 (And.intro hs1 ht1.below))
  have D1f := Lib.hid (devF_new hd1 hs1)
  clear ND ht1 hs1 hd1
  obtain ⟨b, hb⟩ : ∃ b, wS.heap.size + 2 = b := ⟨_, rfl⟩
  rw [hb] at D1f ⊢
  have HBB := Lib.hid hb
  clear hb
  have FR := Lib.hid (fresh_any 10 w1 (by omega))
  go_wp2_with fail
  refine FR.out.mono ?_
  rintro e w2 ⟨⟨v2, g2, rfl, hv2, hg2⟩, hb2⟩
  have NW : Calls Try.prog 10 #[.pointer (some ⟨b, 0, none⟩), .int .i64 200, .agg (stI 1 1 0 0 0 v2)] w2 fun e w' =>
      ∃ A o, e = .returned (.tuple #[.pointer (some ⟨A.J, 0, none⟩), .int .i64 0]) ∧ A.b = b ∧ (∀ j, A.own j → w2.heap.size ≤ j) ∧ JAt w' A (s0 200 1 1 0 0 0 10 (fun _ => none) o) ∧ Below w2.heap.size w2 w' := by
    have h := new_ok (P := 200) (ep := 1) (st := 1) (sq := 0) (hd := 0) (us := 0) (D1f.out.below hb2) hv2 (by simp [DSt.new]) (by omega) (by omega) (by simp [DSt.new]) (right_none (by omega) (by omega))
    rw [List.length_replicate, aL_none] at h
    exact h
  have NW := Lib.hid NW
  have B2 := Lib.hid hb2
  clear FR hv2 hg2 hb2
  go_wp2_with fail
  refine NW.out.mono ?_
  rintro e w3 ⟨A, o, rfl, hab, hlo, hj, hb3⟩
  subst hab
  have G0 := Lib.hid (goes_start BS.out HBB.out.symm D1.out.1 D1.out.2.1 D1.out.2.2 B2.out hb3 hlo hj (n := 201) (by omega) (by omega) (by omega))
  clear NW hlo hj hb3 D1 D1f B2 BS
  go_wp2_with fail
  have R0 := Lib.hid (show Run w A 0 10 200 w3 from ⟨_, _, _, _, _, G0.out, rfl, rfl, rfl, rfl⟩)
  clear G0
  go_loopw [10] (fun i wr => ∃ k : Nat, k ≤ min n0 30 ∧ i = .int .i64 k ∧ Run w A k 10 200 wr) (fun i _ => min n0 30 - (intOf i).toNat)
  case atStart => exact ⟨0, Nat.zero_le _, rfl, R0.out⟩
  case round =>
    obtain ⟨k, hk, rfl, hR⟩ := hrel
    by_cases hlt : k < min n0 30
    · have hk1 : (k : Int) < (n0 : Int) := by omega
      have hk2 : (k : Int) < 30 := by omega
      obtain ⟨B, s, t, ds, dat, hG, hN, hP, he, hs⟩ := hR
      obtain ⟨vids, ids, gi, d, m, hst⟩ := HS0.out k (by omega)
      have hst := hst.below hG.below
      obtain ⟨b0, off, rfl, q0, q1, q2⟩ := hst.at_
      have WR := Lib.hid (writes_any d m hst.nv)
      have HG := Lib.hid hG
      have HN := Lib.hid (And.intro hN (And.intro hP (And.intro he hs)))
      clear hG hN hP he hs hst
      go_wp2_with fail
      refine WR.out.mono ?_
      rintro e wA ⟨⟨v, E, rfl, how, -, -, -, hlen⟩, hbw⟩
      obtain ⟨av, capv, rfl, -⟩ := how.wl.form
      have CM := Lib.hid ((HG.out.low hbw).any_commit (by omega) how.wl (fun j hj => ⟨Nat.le_trans HG.out.size hj.1, hj.2⟩) (by omega))
      clear WR how hbw hlen q0 q1 q2
      go_wp2_with fail
      refine CM.out.mono ?_
      rintro e wB ⟨x, rfl, -, -, s', t', ds', hG', r1, r2, r3, r4, -⟩
      have R1 := Lib.hid (show Run w A (k + 1) 10 200 wB from ⟨_, _, _, _, _, hG', r1.trans HN.out.1, r2.trans HN.out.2.1, r3.trans HN.out.2.2.1, r4.trans HN.out.2.2.2⟩)
      clear CM hG' r1 r2 r3 r4
      go_wp2
      exact ⟨⟨k + 1, by omega, by go_num, R1.out⟩, by simp [intOf]; omega⟩
    · have hkk : n0 ≤ 30 ∧ k = n0 ∨ 30 < n0 ∧ k = 30 := by omega
      have HR := Lib.hid hR
      clear hR R0 hk hlt
      rcases hkk with ⟨h1, rfl, h2⟩ | ⟨h1, rfl, h2⟩
      all_goals
        obtain ⟨B0, s, t, ds, dat, hG, hN, hP, he, hs⟩ := HR.out
        have G0 := hG.gs.more (c' := 30) (by omega)
        have ST := state_any G0.jat
        rw [hN] at ST
        have ST := Lib.hid ST
        have G0 := Lib.hid G0
        have HN := Lib.hid (And.intro hN (And.intro hP (And.intro he hs)))
        clear hG hN hP he hs
        go_wp2_with fail
        refine ST.out.mono ?_
        rintro e wA ⟨⟨g9, rfl, hg9, hr9⟩, hb9⟩
        obtain ⟨O, hO⟩ : ∃ O : Obj, O = .cells #[.int .u32 (s.ep : Int), .int .u64 (s.st : Int), .int .u64 (s.sq : Int), .int .i64 (s.head : Int), .int .i64 (s.used : Int), .slice (some ⟨g9, 0, none⟩) 10 10] 35 (0, 0) := ⟨_, rfl⟩
        have ba : Below wr.heap.size wr (wA.alloc O) := hb9.alloc hb9.size _
        have hrow : (wA.alloc O).heap[g9]? = some (.cells (Tb.rowT 10 s.a).toArray 3 (0, 0)) := (Below.heap_alloc wA _ _ (lt_of_heap hr9)).trans hr9
        have hst : (wA.alloc O).heap[wA.heap.size]? = some O := heap_alloc_new wA O
        have hlt : wr.heap.size ≤ wA.heap.size ∧ wA.heap.size < (wA.alloc O).heap.size := ⟨hb9.size, by simp⟩
        have G2 := G0.out.low ba
        have NW := G2.new_two (by rw [HN.out.1]; omega) (by rw [HN.out.1]; exact hrow)
        rw [HN.out.1, HN.out.2.1] at NW
        rw [hO] at NW hst ba hlt
        have NW := Lib.hid NW
        have H2 := Lib.hid (And.intro hst (And.intro ba hlt))
        clear ST hg9 hr9 hb9 G2 hrow hst ba hlt hO O
        go_wp2_with fail
        generalize hpA : wA.heap.size = pA at H2 ⊢
        clear hpA
        generalize wA.alloc (.cells #[.int .u32 (s.ep : Int), .int .u64 (s.st : Int), .int .u64 (s.sq : Int), .int .i64 (s.head : Int), .int .i64 (s.used : Int), .slice (some ⟨g9, 0, none⟩) 10 10] 35) = w4 at NW H2 ⊢
        refine NW.out.mono ?_
        rintro e w5 ⟨A2, s2, rfl, hb2, hj2, htw, e1, e2, e3, e4, e5, hown, hbw⟩
        have hb5 : Below wr.heap.size wr w5 := H2.out.2.1.trans (hbw.mono H2.out.2.1.size)
        have hs4 := H2.out.2.1.size
        have hs5 := hbw.size
        have G5 := G0.out.grow (Z := fun j => A2.own j ∨ j = pA) hb5 (fun j hj => .inr (hj.elim (fun h => ⟨by have := (hown j h).1; omega, (hown j h).2⟩) (fun h => by have := H2.out.2.2; omega)))
        have st5 := (hbw.block _ (lt_of_heap H2.out.1)).trans H2.out.1
        obtain ⟨r2, hr2⟩ : ∃ r2, (s2.P : Int) - s2.used - s2.freed = r2 := ⟨_, rfl⟩
        obtain ⟨r1, hr1⟩ : ∃ r1, (s.P : Int) - s.used - s.freed = r1 := ⟨_, rfl⟩
        have RM2 := room_any hj2
        rw [hr2] at RM2
        have RM2 := Lib.hid RM2
        have RM1 := Lib.hid (fun q => show Calls Try.prog 20 #[.pointer (some ⟨A.J, 0, none⟩)] (w5.drewN q) (fun e w' => e = .returned (.int .i64 r1) ∧ ∃ n, w' = (w5.drewN q).drewN n) from by rw [← hr1]; exact room_any (G5.jat.drewN q))
        have hdr : decide (r2 < r1) = false := decide_eq_false (by rw [← hr1, ← hr2, htw.P, e4, e5]; omega)
        have G5 := Lib.hid G5
        have H5 := Lib.hid (And.intro hb2 (And.intro hj2 (And.intro htw (And.intro hown st5))))
        have HQ := Lib.hid (And.intro e1 (And.intro e2 e3))
        clear NW hb2 hj2 htw e1 e2 e3 e4 e5 hown hbw hb5 st5 hr1 hr2 hs4 hs5
        go_wp2_with fail
        refine RM2.out.mono ?_
        rintro e wX ⟨rfl, q1, rfl⟩
        go_wp2_with fail
        refine (RM1.out q1).mono ?_
        rintro e wX ⟨rfl, q2, rfl⟩
        have t5 : Touch Emp w5 (w5.drewN (q1 + q2)) := (Touch.refl Emp w5).drewN (q1 + q2)
        have G6 := Lib.hid (G5.out.low t5.below)
        have H6 := Lib.hid (And.intro (H5.out.2.1.below t5.below) (t5.at H5.out.2.2.2.2 id))
        clear RM1 RM2
        go_wp2_with fail
        generalize w5.drewN (q1 + q2) = w6 at G6 H6 ⊢
        go_loopw [14, 15] (fun v i wr2 => ∃ (k2 : Nat) (ds2 : DSt) (L : List (Value × Nat)), k2 ≤ 10 ∧ i = .int .i64 k2 ∧ w6.heap.size ≤ wr2.heap.size ∧ HasS w6.heap.size wr2 v dat k2 L ∧ Gs w A (fun j => (A2.own j ∨ j = pA) ∨ (w6.heap.size ≤ j ∧ j < wr2.heap.size)) s t ds2 dat (30 + 2 * k2) wr2 ∧ JAt wr2 A2 s2 ∧
          wr2.heap[pA]? = some (.cells #[.int .u32 (s.ep : Int), .int .u64 (s.st : Int), .int .u64 (s.sq : Int), .int .i64 (s.head : Int), .int .i64 (s.used : Int), .slice (some ⟨g9, 0, none⟩) 10 10] 35 (0, 0))) (fun _ i _ => 10 - (intOf i).toNat)
        case atStart => exact ⟨0, ds, [], Nat.zero_le _, rfl, Nat.le_refl _, ⟨World.ownsRow_nil _ _ _ _, rfl, fun i h => by simp at h⟩, G6.out.sub (fun j hj => hj.elim id (fun h => by omega)), H6.out.1, H6.out.2⟩
        case round =>
          obtain ⟨k2, ds2, L, hk2, rfl, hsz6, hHas, hG2, hJ2, hst2⟩ := hrel
          by_cases hlt2 : k2 < 10
          · have hk3 : (k2 : Int) < 10 := by omega
            have RD1 := Lib.hid (hG2.read_own (by omega) (id := k2) (by rw [HN.out.1]; exact hlt2))
            obtain ⟨av, capv, hv⟩ : ∃ a cap, u14 = .slice a k2 cap := by
              rcases hHas.own.2 with ⟨e, h0⟩ | ⟨g, cap, cur, e, -⟩
              · exact ⟨none, 0, by rw [e, h0]⟩
              · exact ⟨_, cap, e⟩
            subst hv
            have H7 := Lib.hid (And.intro hHas (And.intro hG2 (And.intro hJ2 hst2)))
            clear hHas hG2 hJ2 hst2 hk2
            go_wp2_with fail
            refine RD1.out.mono ?_
            rintro e wA ⟨⟨va, rfl, ga, capa, rfl, hcapa, hba, hoa⟩, dsa, Fa, hja, hFa, tA, hGa⟩
            obtain ⟨hHas, hG2, hJ2, hst2⟩ := H7.out
            have GA := hG2.of_read hja hFa hGa (Z := fun j => (A2.own j ∨ j = pA) ∨ (w6.heap.size ≤ j ∧ j < wA.heap.size)) (fun j hj => hj.elim (fun h => .inl (.inl h)) (fun h => by
              by_cases h2 : j < wr.heap.size
              · exact .inl (.inr ⟨h.1, h2⟩)
              · exact .inr ⟨by omega, h.2⟩))
            have JA := hJ2.touch tA (fun j hj hf => (hFa j hf).2.1 (.inl (.inl hj)))
            have stA := tA.at hst2 (fun hf => (hFa _ hf).2.1 (.inl (.inr rfl)))
            have HasA := hHas.touch tA (fun j h1 h2 hf => (hFa j hf).2.1 (.inr ⟨h1, h2⟩))
            have hbva := hoa.bv _ capa rfl hcapa
            obtain ⟨curA, hcA, -⟩ := hoa
            have hsA : w6.heap.size ≤ ga := Nat.le_trans hsz6 hba
            have RD2 := Lib.hid (GA.read_other JA H5.out.1 (fun j hj => .inl (.inl hj)) H5.out.2.2.1 (by rw [HQ.out.2.2]; exact GA.sq) (by omega) (id := k2) (by rw [HN.out.1]; exact hlt2))
            have H8 := Lib.hid (And.intro HasA (And.intro GA (And.intro stA (And.intro hbva (And.intro hcA hsA)))))
            clear RD1 hHas hG2 hJ2 hst2 GA JA stA HasA hbva hcA hja hFa tA hGa hba hcapa
            go_wp2_with fail
            refine RD2.out.mono ?_
            rintro e wB ⟨⟨vb, rfl, gb, capb, rfl, hcapb, hbb, hob⟩, dsb, Fb, hjb, hFb, tB, hGb, hJb⟩
            obtain ⟨HasA, GA, stA, hbva, hcA, hsA⟩ := H8.out
            have hga : ga < wA.heap.size := lt_of_heap hcA
            have hgaF : ¬ Fb ga := fun hf => (hFb ga hf).2.1 (.inr ⟨hsA, hga⟩)
            have GB := GA.of_read hjb hFb hGb (Z := fun j => (A2.own j ∨ j = pA) ∨ (w6.heap.size ≤ j ∧ j < wB.heap.size)) (fun j hj => hj.elim (fun h => .inl (.inl h)) (fun h => by
              by_cases h2 : j < wA.heap.size
              · exact .inl (.inr ⟨h.1, h2⟩)
              · exact .inr ⟨by omega, h.2⟩))
            have stB := tB.at stA (fun hf => (hFb _ hf).2.1 (.inl (.inr rfl)))
            have HasB := HasA.touch tB (fun j h1 h2 hf => (hFb j hf).2.1 (.inr ⟨h1, h2⟩))
            have bvB := hbva.touch tB (fun _ => hgaF)
            have kva := run_convBytes bvB.reads
            have kvb := run_convBytes (hob.bv _ capb rfl hcapb).reads
            have cB := tB.at hcA hgaF
            have szB : w6.heap.size ≤ wB.heap.size := by have := tB.size; omega
            have how := HasB.own
            have how2 := ownsRow_touch how ((Touch.refl Emp wB).alloc (.cells #[.slice (some ⟨ga, 0, none⟩) (dat k2).length capa] 41)) (fun _ _ h => h)
            have hnew : ∀ j u, ([.slice (some ⟨ga, 0, none⟩) (dat k2).length capa] : List Value)[j]? = some u → (wB.alloc (.cells #[.slice (some ⟨ga, 0, none⟩) (dat k2).length capa] 41)).cell? ((⟨wB.heap.size, 0, none⟩ : Addr).add j) = some u := fun j u hj => by
              rw [add_lit, cell_of_row _ _ j _ _ _ (heap_alloc_new wB _)]
              simpa using hj
            have HNW := Lib.hid hnew
            have HOW := Lib.hid how2
            have hszE : w6.heap.size ≤ (wB.alloc (.cells #[.slice (some ⟨ga, 0, none⟩) (dat k2).length capa] 41)).heap.size := by simp; omega
            have HSZ := Lib.hid hszE
            have H9 := Lib.hid (And.intro GB (And.intro stB (And.intro HasB (And.intro bvB (And.intro cB (And.intro szB (And.intro hJb hsA)))))))
            obtain ⟨i0, hi0, hz0, hz1, hz2⟩ := info_parts Try.info41
            clear RD2 HasA GA stA hbva hcA hjb hFb tB hGb hJb GB stB HasB bvB cB szB how how2 hnew hszE hob hcapb hbb hga hgaF hsA
            go_wp2_with (at_builtin; refine wpList_append_own _ rfl _ _ 63 rfl w6.heap.size 41 i0 (.slice none 0 0) 1 24 Try.underlying63 hi0 hz0 hz1 hz2 rfl (by decide) _ k2 _ rfl HOW.out ⟨wB.heap.size, 0, none⟩ 1 1 [.slice (some ⟨ga, 0, none⟩) (dat k2).length capa] rfl (by simp) HNW.out (by simp [Value.oneCell']) (by simp only [maxLen]; omega) (by omega) HSZ.out ?_; intro v2 w7 hown' hgrow _; obtain ⟨g4, cap4, rfl⟩ := own_succ hown'; have HZ := Lib.hid (And.intro hown' hgrow); clear hown' hgrow)
            obtain ⟨GB, stB, HasB, bvB, cB, szB, hJb, hsA⟩ := H9.out
            obtain ⟨hown', hgrow⟩ := HZ.out
            have t7 : Touch (fun j => (Value.slice av k2 capv).ownBlock = some j) wB w7 := ((Touch.refl (fun j => (Value.slice av k2 capv).ownBlock = some j) wB).alloc _).trans (Touch.of_grown hgrow (fun k e => e)) (fun _ h _ => h)
            have hlo7 : ∀ j, (Value.slice av k2 capv).ownBlock = some j → w6.heap.size ≤ j ∧ j < wB.heap.size := fun j hj => HasB.own.lt j hj
            have hA2 : ∀ j, A2.own j → j < w6.heap.size := H6.out.1.lt
            have hpA6 : pA < w6.heap.size := lt_of_heap H6.out.2
            exact ⟨⟨k2 + 1, dsb, L ++ [(.slice (some ⟨ga, 0, none⟩) (dat k2).length capa, ga)], by omega, by go_num, Nat.le_trans szB t7.size, HasB.snoc ⟨bvB, hsA, _, _, cB⟩ hown' t7,
              (GB.grow3 (Z := fun j => (A2.own j ∨ j = pA) ∨ (w6.heap.size ≤ j ∧ j < w7.heap.size)) t7 (fun j hj => .inr (hlo7 j hj)) (fun j hj => hj.elim (fun h => .inl (.inl h)) (fun h => by
                by_cases h2 : j < wB.heap.size
                · exact .inl (.inr ⟨h.1, h2⟩)
                · exact .inr ⟨by omega, h.2⟩))).more (by omega), hJb.touch t7 (fun j hj e => by have := hA2 j hj; have := hlo7 j e; omega), t7.at stB (fun e => by have := hlo7 _ e; omega)⟩, by simp [intOf]; omega⟩
          · obtain rfl : k2 = 10 := by omega
            rw [show ((10 : Nat) : Int) = 10 from rfl]
            obtain ⟨gh, caph, curh, rfl, hgh6, hheap, -, -, hszc, htk⟩ : ∃ gh cap cur, u14 = .slice (some ⟨gh, 0, none⟩) 10 cap ∧ w6.heap.size ≤ gh ∧ wr.heap[gh]? = some (.cells cur 41 (0, 0)) ∧ 10 ≤ cap ∧ cap ≤ maxLen ∧ cur.size = cap * 1 ∧ cur.toList.take (10 * 1) = L.map (·.1) := by
              rcases hHas.own.2 with ⟨-, h0⟩ | h
              · omega
              · exact h
            have hLl := hHas.len
            have hF : HasF wr gh dat (fun j => j = pA ∨ (w6.heap.size ≤ j ∧ j < wr.heap.size)) := by
              refine ⟨.inr ⟨hgh6, lt_of_heap hheap⟩, curh, hheap, fun i hi => ?_⟩
              have hi' : i < L.length := by omega
              obtain ⟨d1, d2, c, f, d3⟩ := hHas.data i hi'
              refine ⟨L[i].1, L[i].2, ?_, d1, .inr ⟨d2, lt_of_heap d3⟩, c, f, d3⟩
              have h1 : (curh.toList.take (10 * 1))[i]? = some L[i].1 := by rw [htk]; simp [hi']
              rw [List.getElem?_take, if_pos (by omega)] at h1
              simpa using h1
            have G8 := (hG2.other hJ2 H5.out.1 (fun j hj => .inl (.inl hj)) H5.out.2.2.1 (by rw [HQ.out.2.2]; exact hG2.sq)).sub (Z := fun j => j = pA ∨ (w6.heap.size ≤ j ∧ j < wr.heap.size)) (fun j hj => by
              have hA2 : ∀ j, A2.own j → j < w6.heap.size := H6.out.1.lt
              refine .inr ⟨hj.elim (fun h => .inl (.inr h)) .inr, fun ho => ?_⟩
              have h1 := H5.out.2.2.2.1 j ho
              have h2 := hA2 j ho
              rcases hj with e | e
              · have := H2.out.2.2.2; omega
              · omega)
            have G8 := Lib.hid G8
            have H10 := Lib.hid (And.intro hF hst2)
            clear hHas hG2 hJ2 hst2 hheap hszc htk hF hk2 hlt2 hsz6
            go_wp2_with fail
            go_loopw [20] (fun i wr3 => ∃ (k3 : Nat) (Y : Nat → Prop) (s3 : JSt) (t3 : Jou.St) (ds3 : DSt) (dat3 : Nat → List UInt8), k3 ≤ min n1 10 ∧ i = .int .i64 k3 ∧ Gs w A2 Y s3 t3 ds3 dat3 (50 + k3) wr3 ∧ HasF wr3 gh dat3 Y ∧ Y pA ∧ wr3.heap[pA]? = some (.cells #[.int .u32 (s.ep : Int), .int .u64 (s.st : Int), .int .u64 (s.sq : Int), .int .i64 (s.head : Int), .int .i64 (s.used : Int), .slice (some ⟨g9, 0, none⟩) 10 10] 35 (0, 0)) ∧ s3.N = 10 ∧ s3.ep = s.ep ∧ s3.st = s.st ∧ s.sq ≤ s3.sq) (fun i _ => min n1 10 - (intOf i).toNat)
            case atStart => exact ⟨0, _, s2, _, _, dat, Nat.zero_le _, rfl, G8.out, H10.out.1, .inl rfl, H10.out.2, H5.out.2.2.1.N.trans HN.out.1, HQ.out.1, HQ.out.2.1, by rw [HQ.out.2.2]; exact Nat.le_refl _⟩
            case round =>
              obtain ⟨k3, Y, s3, t3, ds3, dat3, hk3, rfl, hG3, hF3, hYp, hst3, f1, f2, f3, f4⟩ := hrel
              by_cases hlt3 : k3 < min n1 10
              · have hk4 : (k3 : Int) < (n1 : Int) := by omega
                have hk5 : (k3 : Int) < 10 := by omega
                obtain ⟨vids, ids, gi, d, m, hst⟩ := HS1.out k3 (by omega)
                have hst := hst.below hG3.below
                obtain ⟨b0, off, rfl, q0, q1, q2⟩ := hst.at_
                have WR := Lib.hid (writes_any d m hst.nv)
                obtain ⟨lo, hlo⟩ : ∃ lo, wr.heap.size = lo := ⟨_, rfl⟩
                have HLO := Lib.hid hlo
                have H11 := Lib.hid (And.intro hG3 (And.intro hF3 (And.intro hYp hst3)))
                have HF4 := Lib.hid (And.intro f1 (And.intro f2 (And.intro f3 f4)))
                clear hG3 hF3 hYp hst3 f1 f2 f3 f4 hst hlo hk3
                go_wp2_with fail
                refine WR.out.mono ?_
                rintro e wA ⟨⟨v, E, rfl, how, hform, -, -, hlen⟩, hbw⟩
                obtain ⟨av, capv, rfl, -⟩ := how.wl.form
                rw [HLO.out] at how
                have GA := H11.out.1.grow (Z := fun j => Y j ∨ (lo ≤ j ∧ j < wA.heap.size)) hbw (fun j hj => by rw [HLO.out]; exact hj)
                have CM := GA.any_commit (by omega) how.wl (fun j hj => .inr hj) (by omega)
                have FA := (H11.out.2.1.touch (Touch.of_below (F := Emp) hbw) (fun _ _ h => h)).mono (Z := fun j => Y j ∨ (lo ≤ j ∧ j < wA.heap.size)) (fun _ h => .inl h)
                have stA := (hbw.block _ (lt_of_heap H11.out.2.2.2)).trans H11.out.2.2.2
                obtain ⟨len, hE⟩ : ∃ len, E.length = len := ⟨_, rfl⟩
                rw [hE] at CM ⊢
                have hl30 : (len : Int) ≤ 30 := by omega
                have HE := Lib.hid hE
                have CM := Lib.hid CM
                have H12 := Lib.hid (And.intro how (And.intro hform (And.intro FA stA)))
                clear WR how hform hlen hbw q0 q1 q2 GA FA stA hE
                go_wp2_with fail
                refine CM.out.mono ?_
                rintro e wC ⟨x, rfl, hx, tC, s4, t4, ds4, hG4, m1, m2, m3, m4⟩
                have FC := H12.out.2.2.1.touch tC (fun j hj hg => hg.2 hj)
                have stC := tC.at H12.out.2.2.2 (fun hg => hg.2 (.inl H11.out.2.2.1))
                have HM := Lib.hid (show s4.N = 10 ∧ s4.ep = s.ep ∧ s4.st = s.st ∧ s.sq ≤ s4.sq from ⟨m1.trans HF4.out.1, m2.trans HF4.out.2.1, m3.trans HF4.out.2.2.1, Nat.le_trans HF4.out.2.2.2 m4⟩)
                rcases hx with ⟨hmay, rfl⟩ | ⟨hmay, rfl⟩
                case inr =>
                  rw [if_neg (by decide)] at hG4
                  have H13 := Lib.hid (And.intro hG4 (And.intro FC stC))
                  clear CM hG4 FC stC tC m1 m2 m3 m4 hmay
                  go_wp2_with fail
                  exact ⟨⟨k3 + 1, _, s4, t4, ds4, dat3, by omega, by go_num, H13.out.1, H13.out.2.1, .inl H11.out.2.2.1, H13.out.2.2, HM.out⟩, by simp [intOf]; omega⟩
                case inl =>
                  rw [if_pos rfl] at hG4
                  have hownC := ownsRow_touch H12.out.1.own tC (fun j hj hg => hg.2 (.inr (H12.out.1.own.lt j hj)))
                  have hdC : ∀ e ∈ E, BV wC e.v e.l e.g ∧ e.v = .slice (some ⟨e.g, 0, none⟩) 480 480 ∧ (lo ≤ e.g ∧ e.g < wA.heap.size) ∧ ∃ c f, wC.heap[e.g]? = some (.cells c 5 f) := fun e he => by
                    obtain ⟨e1, c, e2, e3⟩ := H12.out.2.1 e he
                    have hlg : lo ≤ e.g := ((H12.out.1.data e he).2 (by intro h0; have := (hmay.2.2.1 e he).2.2; rw [h0] at this; simp at this)).1
                    have hin : lo ≤ e.g ∧ e.g < wA.heap.size := ⟨hlg, lt_of_heap e2⟩
                    exact ⟨(H12.out.1.data e he).1.touch tC (fun _ hg => hg.2 (.inr hin)), e1, hin, c, _, tC.at e2 (fun hg => hg.2 (.inr hin))⟩
                  have H13 := Lib.hid (And.intro hG4 (And.intro FC (And.intro stC (And.intro hownC (And.intro hdC hmay)))))
                  clear CM hG4 FC stC tC m1 m2 m3 m4 hmay hownC hdC
                  go_wp2_with fail
                  have hnd : FineE s3.N E := ⟨H13.out.2.2.2.2.2.2.2.1, H13.out.2.2.2.2.2.2.2.2⟩
                  have HND := Lib.hid hnd
                  have hMN : s3.N = 10 := HF4.out.1
                  clear hnd
                  go_loopw [23] (fun i wr4 => ∃ q : Nat, q ≤ len ∧ i = .int .i64 q ∧ Touch (fun j => j = gh) wC wr4 ∧ HasF wr4 gh (datB (E.take q) dat3) (fun j => Y j ∨ (lo ≤ j ∧ j < wA.heap.size))) (fun i _ => len - (intOf i).toNat)
                  case atStart => exact ⟨0, Nat.zero_le _, rfl, Touch.refl _ _, by rw [List.take_zero, datB_nil2]; exact H13.out.2.1⟩
                  case round =>
                    obtain ⟨q, hq, rfl, ht4, hF4⟩ := hrel
                    obtain ⟨hG4, FC, stC, hownC, hdC, hmay⟩ := H13.out
                    by_cases hltq : q < len
                    · have hq1 : (q : Int) < (len : Int) := by omega
                      have hqE : q < E.length := by rw [HE.out]; exact hltq
                      obtain ⟨curh, hheap, hrow⟩ := hF4.row
                      have hgC : ∀ j, (Value.slice av E.length capv).ownBlock = some j → ¬ j = gh := fun j hj e => by
                        obtain ⟨cur, hc⟩ := ownsRow_block hownC hj
                        obtain ⟨c2, h2, -⟩ := FC.row
                        rw [e, h2] at hc
                        simp at hc
                      have ho4 := ownsRow_touch hownC ht4 hgC
                      obtain ⟨gw, rfl, hgw⟩ : ∃ gw, av = some ⟨gw, 0, none⟩ ∧ ∃ cur, wr.heap[gw]? = some (.cells cur 44 (0, 0)) := by
                        rcases ho4.2 with ⟨-, h0⟩ | ⟨gw, capw, curw, e0, -, hgw, -⟩
                        · omega
                        · cases e0
                          exact ⟨gw, rfl, _, hgw⟩
                      have hcells := ho4.cells (g := gw) rfl
                      obtain ⟨z1, z2⟩ := cellsE_at E q hqE
                      have z3 := hcells _ _ z1
                      have z4 := hcells _ _ z2
                      rw [add_lit] at z3 z4
                      have hmem : E[q] ∈ E := List.getElem_mem hqE
                      obtain ⟨d1, d2, d3, c, f, d4⟩ := hdC _ hmem
                      have hne4 : ¬ E[q].g = gh := fun e => by
                        obtain ⟨c2, h2, -⟩ := FC.row
                        rw [e, h2] at d4
                        simp at d4
                      have hin := hmay.2.2.1 _ hmem
                      have htw := FineE.twice HND.out hqE
                      have htk : E.take (q + 1) = E.take q ++ [E[q]] := by rw [List.take_add_one, List.getElem?_eq_getElem hqE]; rfl
                      have hset := fun i => datB_snoc2 (E := E.take q) (e := E[q]) (dat := dat3) htw i
                      rw [← htk] at hset
                      have bv4 := d1.touch ht4 (fun _ => hne4)
                      have d5 := ht4.at d4 hne4
                      have hFS := fun (id : Nat) (hid : id < 10) (he : id = E[q].id.toNat) => HasF.set (dat' := datB (E.take (q + 1)) dat3) (id := id) hF4 ⟨bv4, .inr d3, c, f, d5⟩ hid (fun i => by rw [hset i, he])
                      generalize hek : E[q] = ek at z3 z4 d2 hin hFS
                      obtain ⟨eid, ev, el, eg⟩ := ek
                      simp only at z3 z4 d2 hin hFS
                      subst d2
                      obtain ⟨id, rfl⟩ : ∃ id : Nat, eid = (id : Int) := ⟨eid.toNat, by omega⟩
                      have hid : id < 10 := by omega
                      have hid1 : (id : Int) < 10 := by omega
                      obtain ⟨v0, g0, k1, -⟩ := hrow id hid
                      have cH := cell_of_row wr gh id _ _ _ hheap
                      rw [k1] at cH
                      have fH := frozen_of_row wr gh id _ _ hheap
                      have HFS := Lib.hid (hFS id hid (by simp))
                      have HT4 := Lib.hid ht4
                      clear hFS hset htk htw hin d1 d3 d4 d5 bv4 hne4 hcells z1 z2 hgw ho4 hgC hheap hrow hF4 ht4 hek hmem k1 hG4 FC stC hownC hdC hmay
                      go_wp2_with fail
                      go_region
                      go_wp2_with fail
                      exact ⟨⟨q + 1, by omega, by go_num, (HT4.out.setCell (a := ⟨gh, id, none⟩) (.inl rfl) _).drew, HFS.out.touch (G := Emp) ((Touch.refl Emp _).drew) (fun _ _ h => h)⟩, by simp [intOf]; omega⟩
                    · obtain rfl : q = len := by omega
                      have hEt : E.take q = E := by rw [← HE.out, List.take_length]
                      rw [hEt] at hF4
                      have hpg : ¬ pA = gh := fun e => by
                        obtain ⟨c2, h2, -⟩ := FC.row
                        rw [← e, stC] at h2
                        simp at h2
                      have H14 := Lib.hid (And.intro (hG4.touch ht4 (fun j hj => .inl (by rw [hj]; exact FC.yg))) (And.intro hF4 (ht4.at stC hpg)))
                      clear hG4 FC stC hownC hdC hmay hF4 ht4 hEt hq hltq
                      go_wp2_with fail
                      exact ⟨⟨k3 + 1, _, s4, t4, ds4, _, by omega, by go_num, H14.out.1, H14.out.2.1, .inl H11.out.2.2.1, H14.out.2.2, HM.out⟩, by simp [intOf]; omega⟩
              · have hkk3 : n1 ≤ 10 ∧ k3 = n1 ∧ (n1 : Int) ≤ 10 ∨ 10 < n1 ∧ k3 = 10 ∧ (10 : Int) < (n1 : Int) := by omega
                have G15 := Lib.hid (hG3.more (c' := 60) (by omega))
                have ST := state_any hG3.jat
                rw [f1, f2, f3] at ST
                have ST := Lib.hid ST
                have H15 := Lib.hid (And.intro hF3 (And.intro hYp (And.intro hst3 f1)))
                have hsq : (s3.sq : Int) ≥ (s.sq : Int) := by omega
                clear hG3 hF3 hYp hst3 f1 f2 f3 f4 hk3 hlt3
                rcases hkk3 with ⟨h5, rfl, h6⟩ | ⟨h5, rfl, h6⟩
                all_goals
                  try rw [show ((10 : Nat) : Int) = 10 from rfl]
                  go_wp2_with fail
                  refine ST.out.mono ?_
                  rintro e wG ⟨⟨gT, rfl, hgT, hrT⟩, hbG⟩
                  have bG : Below wr.heap.size wr (wG.alloc (.cells #[.int .u32 (s.ep : Int), .int .u64 (s.st : Int), .int .u64 (s3.sq : Int), .int .i64 (s3.head : Int), .int .i64 (s3.used : Int), .slice (some ⟨gT, 0, none⟩) 10 10] 35)) := hbG.alloc hbG.size _
                  have G16 := Lib.hid (G15.out.grow (Z := fun j => Y j ∨ j = wG.heap.size) bG (fun j hj => hj.elim .inl (fun e => .inr ⟨by rw [e]; exact hbG.size, by rw [e]; simp⟩)))
                  have H16 := Lib.hid (And.intro ((H15.out.1.touch (Touch.of_below (F := Emp) bG) (fun _ _ h => h)).mono (Z := fun j => Y j ∨ j = wG.heap.size) (fun _ h => .inl h)) (And.intro ((bG.block _ (lt_of_heap H15.out.2.2.1)).trans H15.out.2.2.1) (heap_alloc_new wG (.cells #[.int .u32 (s.ep : Int), .int .u64 (s.st : Int), .int .u64 (s3.sq : Int), .int .i64 (s3.head : Int), .int .i64 (s3.used : Int), .slice (some ⟨gT, 0, none⟩) 10 10] 35))))
                  clear ST hgT hrT hbG bG
                  go_wp2_with fail
                  generalize hpT : wG.heap.size = pT at G16 H16 ⊢
                  clear hpT
                  generalize wG.alloc (.cells #[.int .u32 (s.ep : Int), .int .u64 (s.st : Int), .int .u64 (s3.sq : Int), .int .i64 (s3.head : Int), .int .i64 (s3.used : Int), .slice (some ⟨gT, 0, none⟩) 10 10] 35) = wH at G16 H16 ⊢
                  go_loopw [25] (fun i wr5 => ∃ (k5 : Nat) (ds5 : DSt), k5 ≤ 10 ∧ i = .int .i64 k5 ∧ Gs w A2 (fun j => Y j ∨ j = pT) s3 t3 ds5 dat3 (60 + k5) wr5 ∧ HasF wr5 gh dat3 (fun j => Y j ∨ j = pT) ∧ wr5.heap[pA]? = some (.cells #[.int .u32 (s.ep : Int), .int .u64 (s.st : Int), .int .u64 (s.sq : Int), .int .i64 (s.head : Int), .int .i64 (s.used : Int), .slice (some ⟨g9, 0, none⟩) 10 10] 35 (0, 0)) ∧ wr5.heap[pT]? = some (.cells #[.int .u32 (s.ep : Int), .int .u64 (s.st : Int), .int .u64 (s3.sq : Int), .int .i64 (s3.head : Int), .int .i64 (s3.used : Int), .slice (some ⟨gT, 0, none⟩) 10 10] 35 (0, 0))) (fun i _ => 10 - (intOf i).toNat)
                  case atStart => exact ⟨0, ds3, Nat.zero_le _, rfl, G16.out, H16.out.1, H16.out.2.1, H16.out.2.2⟩
                  case round =>
                    obtain ⟨k5, ds5, hk5, rfl, hG5, hF5, hsA, hsT⟩ := hrel
                    by_cases hlt5 : k5 < 10
                    · have hk6 : (k5 : Int) < 10 := by omega
                      have RD := Lib.hid (hG5.read_own (by omega) (id := k5) (by rw [H15.out.2.2.2]; exact hlt5))
                      have H17 := Lib.hid (And.intro hF5 (And.intro hsA hsT))
                      clear hG5 hF5 hsA hsT hk5
                      go_wp2_with fail
                      refine RD.out.mono ?_
                      rintro e wA ⟨⟨vA, rfl, gA, capA, rfl, hcapA, hbA, hoA⟩, ds9, F', hj', hF', tA, hG9⟩
                      have hnF : ∀ j, (Y j ∨ j = pT) → ¬ F' j := fun j hj hf => (hF' j hf).2.1 hj
                      have FA := H17.out.1.touch tA hnF
                      have sA := tA.at H17.out.2.1 (hnF _ (.inl H15.out.2.1))
                      have sT := tA.at H17.out.2.2 (hnF _ (.inr rfl))
                      obtain ⟨curA, hcA, hrA⟩ := FA.row
                      obtain ⟨v0, g0, k1, bv0, -⟩ := hrA k5 hlt5
                      have cH := cell_of_row wA gh k5 _ _ _ hcA
                      rw [k1] at cH
                      obtain ⟨a0', cap0, rfl, -⟩ := bv0.form
                      have td : Touch Emp wA wA.drew := (Touch.refl Emp wA).drew
                      have kva := run_convBytes ((hoA.bv _ capA rfl hcapA).touch td (fun _ h => h)).reads
                      have kvb := run_convBytes (bv0.touch td (fun _ h => h)).reads
                      have H18 := Lib.hid (And.intro (hG9.low td.below) (And.intro (FA.touch td (fun _ _ h => h)) (And.intro (td.at sA id) (td.at sT id))))
                      clear RD hj' hF' tA hG9 hnF FA sA sT hcA hrA k1 bv0 td hoA hcapA hbA
                      go_wp2_with fail
                      go_region
                      go_wp2_with fail
                      exact ⟨⟨k5 + 1, ds9, by omega, by go_num, H18.out.1.more (by omega), H18.out.2.1, H18.out.2.2.1, H18.out.2.2.2⟩, by simp [intOf]; omega⟩
                    · obtain rfl : k5 = 10 := by omega
                      have s0 := cell_of_row wr pA 0 _ _ _ hsA
                      have s1 := cell_of_row wr pA 1 _ _ _ hsA
                      have s2' := cell_of_row wr pA 2 _ _ _ hsA
                      have u0 := cell_of_row wr pT 0 _ _ _ hsT
                      have u1 := cell_of_row wr pT 1 _ _ _ hsT
                      have u2 := cell_of_row wr pT 2 _ _ _ hsT
                      have BE := Lib.hid hG5.below
                      clear hG5 hF5 hsA hsT
                      go_wp2_with fail
                      go_ret
                      exact ⟨rfl, BE.out⟩

end Jn
end Go.Proofs.Ytpbcjaennbgmaaa
