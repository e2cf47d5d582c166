/- JournalSilent's walk. -/
import Derived.Test.YtpbcjaennbgmaaaJlw
set_option maxRecDepth 100000
namespace Go.Proofs.Ytpbcjaennbgmaaa
namespace Jn
open Go.RowKit

/-- A State that was told, and stands in a block of its own. -/
structure StK (B : Nat) (s : JSt) (p g : Nat) (W : World) : Prop where
  lp : B ≤ p
  lg : B ≤ g
  st : W.heap[p]? = some (.cells #[.int .u32 (s.ep : Int), .int .u64 (s.st : Int), .int .u64 (s.sq : Int), .int .i64 (s.head : Int), .int .i64 (s.used : Int), .slice (some ⟨g, 0, none⟩) 10 10] 35 (0, 0))
  row : W.heap[g]? = some (.cells (Tb.rowT 10 s.a).toArray 3 (0, 0))
theorem StK.touch {B p g : Nat} {s : JSt} {W W1 : World} {F : Nat → Prop} (h : StK B s p g W) (ht : Touch F W W1) (hF : ∀ j, F j → j < B) : StK B s p g W1 :=
  ⟨h.lp, h.lg, ht.at h.st (fun e => by have := hF _ e; have := h.lp; omega), ht.at h.row (fun e => by have := hF _ e; have := h.lg; omega)⟩
theorem StK.below {B p g : Nat} {s : JSt} {W W1 : World} (h : StK B s p g W) (hb : Below W.heap.size W W1) : StK B s p g W1 := h.touch (F := Emp) (Touch.of_below hb) fun _ h => h.elim
/-- Counts that were told. -/
structure CtK (B p r n f : Nat) (W : World) : Prop where
  lp : B ≤ p
  ct : W.heap[p]? = some (.cells #[.int .i64 (r : Int), .int .i64 (n : Int), .int .i64 (f : Int)] 46 (0, 0))
theorem CtK.touch {B p r n f : Nat} {W W1 : World} {F : Nat → Prop} (h : CtK B p r n f W) (ht : Touch F W W1) (hF : ∀ j, F j → j < B) : CtK B p r n f W1 :=
  ⟨h.lp, ht.at h.ct (fun e => by have := hF _ e; have := h.lp; omega)⟩
theorem CtK.below {B p r n f : Nat} {W W1 : World} (h : CtK B p r n f W) (hb : Below W.heap.size W W1) : CtK B p r n f W1 := h.touch (F := Emp) (Touch.of_below hb) fun _ h => h.elim

set_option maxHeartbeats 8000000 in
theorem silent_walk (a0 : Option Addr) (n0 c0 : Nat) (v1 : Value) (l1 : List Int) (gl : Nat) (w : World) (hs0 : ∀ i, i < n0 → StepIn w a0 i) (hv1 : NV .i64 w v1 l1 gl) :
    Calls Try.prog 7 #[.slice a0 n0 c0, v1] w fun e w' => e = .returned (.bool true) ∧ Below w.heap.size w w' := by
  obtain ⟨a1, c1, rfl, -⟩ := hv1.form
  have HS0 := Lib.hid hs0
  have HV1 := Lib.hid hv1
  clear hs0 hv1
  have SH := Lib.hid (shown_any w)
  go_enter Try.func7, Try.ntmps7
  go_wp2_with fail
  refine SH.out.mono ?_
  rintro e wS ⟨rfl, hbS⟩
  have BS := Lib.hid hbS
  have ND := Lib.hid (new_any 201 wS (by omega) (by omega))
  clear SH hbS
  go_wp2_with fail
  refine ND.out.mono ?_
  rintro e w1 ⟨rfl, ht1, hs1, hd1⟩
  have D1 := Lib.hid (And.intro hd1 (And.intro hs1 ht1.below))
  have D1f := Lib.hid (devF_new hd1 hs1)
  clear ND ht1 hs1 hd1
  obtain ⟨b, hb⟩ : ∃ b, wS.heap.size + 2 = b := ⟨_, rfl⟩
  rw [hb] at D1f ⊢
  have HBB := Lib.hid hb
  clear hb
  have FR := Lib.hid (fresh_any 10 w1 (by omega))
  go_wp2_with fail
  refine FR.out.mono ?_
  rintro e w2 ⟨⟨v2, g2, rfl, hv2, hg2⟩, hb2⟩
  have NW : Calls Try.prog 10 #[.pointer (some ⟨b, 0, none⟩), .int .i64 200, .agg (stI 1 1 0 0 0 v2)] w2 fun e w' =>
      ∃ A o, e = .returned (.tuple #[.pointer (some ⟨A.J, 0, none⟩), .int .i64 0]) ∧ A.b = b ∧ (∀ j, A.own j → w2.heap.size ≤ j) ∧ JAt w' A (s0 200 1 1 0 0 0 10 (fun _ => none) o) ∧ Below w2.heap.size w2 w' := by
    have h := new_ok (P := 200) (ep := 1) (st := 1) (sq := 0) (hd := 0) (us := 0) (D1f.out.below hb2) hv2 (by simp [DSt.new]) (by omega) (by omega) (by simp [DSt.new]) (right_none (by omega) (by omega))
    rw [List.length_replicate, aL_none] at h
    exact h
  have NW := Lib.hid NW
  have B2 := Lib.hid hb2
  clear FR hv2 hg2 hb2
  go_wp2_with fail
  refine NW.out.mono ?_
  rintro e w3 ⟨A, o, rfl, hab, hlo, hj, hb3⟩
  subst hab
  have G0 := Lib.hid (goes_start BS.out HBB.out.symm D1.out.1 D1.out.2.1 D1.out.2.2 B2.out hb3 hlo hj (n := 201) (by omega) (by omega) (by omega))
  clear NW hlo hj hb3 D1 D1f B2 BS
  go_wp2_with fail
  have R0 := Lib.hid (show Run w A 0 10 200 w3 from ⟨_, _, _, _, _, G0.out, rfl, rfl, rfl, rfl⟩)
  clear G0
  go_loopw [10] (fun i wr => ∃ k : Nat, k ≤ min n0 30 ∧ i = .int .i64 k ∧ Run w A k 10 200 wr) (fun i _ => min n0 30 - (intOf i).toNat)
  case atStart => exact ⟨0, Nat.zero_le _, rfl, R0.out⟩
  case round =>
    obtain ⟨k, hk, rfl, hR⟩ := hrel
    by_cases hlt : k < min n0 30
    · have hk1 : (k : Int) < (n0 : Int) := by omega
      have hk2 : (k : Int) < 30 := by omega
      obtain ⟨B, s, t, ds, dat, hG, hN, hP, he, hs⟩ := hR
      obtain ⟨vids, ids, gi, d, m, hst⟩ := HS0.out k (by omega)
      have hst := hst.below hG.below
      obtain ⟨b0, off, rfl, q0, q1, q2⟩ := hst.at_
      have WR := Lib.hid (writes_any d m hst.nv)
      have HG := Lib.hid hG
      have HN := Lib.hid (And.intro hN (And.intro hP (And.intro he hs)))
      clear hG hN hP he hs hst
      go_wp2_with fail
      refine WR.out.mono ?_
      rintro e wA ⟨⟨v, E, rfl, how, -, -, -, hlen⟩, hbw⟩
      obtain ⟨av, capv, rfl, -⟩ := how.wl.form
      have CM := Lib.hid ((HG.out.low hbw).any_commit (by omega) how.wl (fun j hj => ⟨Nat.le_trans HG.out.size hj.1, hj.2⟩) (by omega))
      clear WR how hbw hlen q0 q1 q2
      go_wp2_with fail
      refine CM.out.mono ?_
      rintro e wB ⟨x, rfl, -, -, s', t', ds', hG', r1, r2, r3, r4, -⟩
      have R1 := Lib.hid (show Run w A (k + 1) 10 200 wB from ⟨_, _, _, _, _, hG', r1.trans HN.out.1, r2.trans HN.out.2.1, r3.trans HN.out.2.2.1, r4.trans HN.out.2.2.2⟩)
      clear CM hG' r1 r2 r3 r4
      go_wp2
      exact ⟨⟨k + 1, by omega, by go_num, R1.out⟩, by simp [intOf]; omega⟩
    · have hkk : n0 ≤ 30 ∧ k = n0 ∨ 30 < n0 ∧ k = 30 := by omega
      have HR := Lib.hid hR
      clear hR R0 hk hlt
      rcases hkk with ⟨h1, rfl, h2⟩ | ⟨h1, rfl, h2⟩
      all_goals
        obtain ⟨B0, s, t, ds, dat, hG, hN, hP, he, hs⟩ := HR.out
        have hBw := hG.size
        have ST := state_any hG.jat
        rw [hN] at ST
        have ST := Lib.hid ST
        have HG := Lib.hid hG
        have HN := Lib.hid (And.intro hN (And.intro hP (And.intro he hs)))
        clear hG hN hP he hs
        go_wp2_with fail
        refine ST.out.mono ?_
        rintro e wA ⟨⟨g9, rfl, hg9, hr9⟩, hb9⟩
        have GA := Lib.hid ((HG.out.low hb9).alloc (.cells #[.int .u32 (s.ep : Int), .int .u64 (s.st : Int), .int .u64 (s.sq : Int), .int .i64 (s.head : Int), .int .i64 (s.used : Int), .slice (some ⟨g9, 0, none⟩) 10 10] 35))
        have KA := Lib.hid (show StK B0 s wA.heap.size g9 (wA.alloc (.cells #[.int .u32 (s.ep : Int), .int .u64 (s.st : Int), .int .u64 (s.sq : Int), .int .i64 (s.head : Int), .int .i64 (s.used : Int), .slice (some ⟨g9, 0, none⟩) 10 10] 35)) from
          ⟨Nat.le_trans hBw hb9.size, Nat.le_trans hBw hg9, heap_alloc_new wA _, (Below.heap_alloc wA _ _ (lt_of_heap hr9)).trans hr9⟩)
        have RM := Lib.hid (room_any GA.out.jat)
        clear ST hg9 hr9 hb9 hBw
        go_wp2_with fail
        refine RM.out.mono ?_
        rintro e wB ⟨rfl, qB, rfl⟩
        have tB := (Touch.refl Emp (wA.alloc (.cells #[.int .u32 (s.ep : Int), .int .u64 (s.st : Int), .int .u64 (s.sq : Int), .int .i64 (s.head : Int), .int .i64 (s.used : Int), .slice (some ⟨g9, 0, none⟩) 10 10] 35))).drewN qB
        have GB := Lib.hid (GA.out.low tB.below)
        have KB := Lib.hid (KA.out.below tB.below)
        generalize hpA : wA.heap.size = pA at KB ⊢
        clear RM tB GA KA
        generalize (wA.alloc (.cells #[.int .u32 (s.ep : Int), .int .u64 (s.st : Int), .int .u64 (s.sq : Int), .int .i64 (s.head : Int), .int .i64 (s.used : Int), .slice (some ⟨g9, 0, none⟩) 10 10] 35)).drewN qB = wB at GB KB ⊢
        clear hpA
        obtain ⟨FB, hdB⟩ := GB.out.dev
        have CT := Lib.hid (counts_any hdB)
        clear hdB
        go_wp2_with fail
        refine CT.out.mono ?_
        rintro e wC ⟨rfl, tC⟩
        have GC := Lib.hid ((GB.out.low tC.below).alloc (.cells #[.int .i64 (ds.reads : Int), .int .i64 (ds.writes : Int), .int .i64 (ds.flushes : Int)] 46))
        have KC := Lib.hid ((KB.out.below tC.below).below ((Below.refl _ wC).alloc (Nat.le_refl _) (.cells #[.int .i64 (ds.reads : Int), .int .i64 (ds.writes : Int), .int .i64 (ds.flushes : Int)] 46)))
        have CC := Lib.hid (show CtK B0 wC.heap.size ds.reads ds.writes ds.flushes (wC.alloc (.cells #[.int .i64 (ds.reads : Int), .int .i64 (ds.writes : Int), .int .i64 (ds.flushes : Int)] 46)) from ⟨Nat.le_trans GB.out.size tC.size, heap_alloc_new wC _⟩)
        generalize hpC : wC.heap.size = pC at CC
        clear CT GB KB tC
        go_wp2_with fail
        clear hpC
        generalize wC.alloc (.cells #[.int .i64 (ds.reads : Int), .int .i64 (ds.writes : Int), .int .i64 (ds.flushes : Int)] 46) = wD at GC KC CC ⊢
        go_loopw [14, 15] (fun n i wr2 => ∃ (k2 nn : Nat) (ds2 : DSt), k2 ≤ min l1.length 40 ∧ i = .int .i64 k2 ∧ n = .int .i64 nn ∧ nn ≤ k2 ∧ Goes w A B0 s t ds2 dat (30 + k2) wr2 ∧ ds2.reads = ds.reads + nn ∧ ds2.writes = ds.writes ∧ ds2.flushes = ds.flushes ∧ StK B0 s pA g9 wr2 ∧ CtK B0 pC ds.reads ds.writes ds.flushes wr2) (fun _ i _ => min l1.length 40 - (intOf i).toNat)
        case atStart => exact ⟨0, 0, ds, Nat.zero_le _, rfl, rfl, Nat.le_refl _, GC.out.more (by omega), rfl, rfl, rfl, KC.out, CC.out⟩
        case round =>
          obtain ⟨k2, nn, ds2, hk2, rfl, rfl, hnn, hG2, f1, f2, f3, hSt, hCt⟩ := hrel
          by_cases hlt2 : k2 < min l1.length 40
          · have hk3 : (k2 : Int) < (l1.length : Int) := by omega
            have hk4 : (k2 : Int) < 40 := by omega
            have hk5 : k2 < l1.length := by omega
            obtain ⟨off, rfl, ck⟩ := (HV1.out.below hG2.below).cell_at hk5
            have hglt : gl < w.heap.size := HV1.out.lt (by rintro rfl; simp at hk5)
            generalize hide : l1[k2] = id at ck
            have HID := Lib.hid hide
            clear hide
            have HF := Lib.hid (And.intro hk2 (And.intro hnn (And.intro f1 (And.intro f2 f3))))
            have HK := Lib.hid (And.intro hSt hCt)
            by_cases hid : 0 ≤ id ∧ id < 10
            · obtain ⟨q, rfl⟩ : ∃ q : Nat, id = (q : Int) := ⟨id.toNat, by omega⟩
              clear hlt2
              have hq0 : (q : Int) ≥ 0 := by omega
              have hq1 : (q : Int) < 10 := by omega
              have hq2 : q < 10 := by omega
              have RD := Lib.hid (hG2.read (by omega) (id := q) (by rw [HN.out.1]; exact hq2))
              clear hG2 hSt hCt hk2 hnn f1 f2 f3 hid
              go_wp2_with fail
              refine RD.out.mono ?_
              rintro e wE ⟨⟨vE, gE, rfl, -, -⟩, tE, ds3, hG3, e1, e2, e3⟩
              have ck := (HV1.out.below hG3.below).cell_at hk5
              obtain ⟨off', eo, ck⟩ := ck
              cases eo
              rw [HID.out] at ck
              have hSt := HK.out.1.touch tE (fun j hj => hj.2)
              have hCt := HK.out.2.touch tE (fun j hj => hj.2)
              have c5 := cell_of_row wE pA 5 _ _ _ hSt.st
              have cq := cell_of_row wE g9 q _ _ _ hSt.row
              have HG3 := Lib.hid hG3
              have HK3 := Lib.hid (And.intro hSt hCt)
              have hge := Tb.rowT_get s.a hq2
              clear hG3 hSt hCt RD
              simp only [List.getElem?_toArray] at cq
              rw [hge] at cq
              clear hge
              cases ha : s.a q with
              | none =>
                rw [ha] at cq e3
                have HE3 := Lib.hid (And.intro e1 (And.intro e2 e3))
                clear e1 e2 e3 ha
                simp only [Tb.enc] at cq
                go_wp2_with fail
                go_region
                go_wp2_with fail
                obtain ⟨hk2, hnn, f1, f2, f3⟩ := HF.out
                obtain ⟨e1, e2, e3⟩ := HE3.out
                simp only [Option.isSome, Bool.false_eq_true, if_false] at e3
                exact ⟨⟨k2 + 1, nn, ds3, by omega, by go_num, by go_num, by omega, (HG3.out.low (Below.refl _ _).drew).more (by omega), by omega, by omega, by omega, HK3.out.1.below (Below.refl _ _).drew, HK3.out.2.below (Below.refl _ _).drew⟩, by simp [intOf]; omega⟩
              | some p =>
                rw [ha] at cq e3
                have HE3 := Lib.hid (And.intro e1 (And.intro e2 e3))
                clear e1 e2 e3 ha
                simp only [Tb.enc] at cq
                have hp0 : (p : Int) ≥ 0 := by omega
                have hnb : (nn : Int) + 1 ≤ 100 := by have := HF.out.1; have := HF.out.2.1; omega
                go_wp2_with fail
                go_region
                go_wp2_with fail
                obtain ⟨hk2, hnn, f1, f2, f3⟩ := HF.out
                obtain ⟨e1, e2, e3⟩ := HE3.out
                simp only [Option.isSome, if_true] at e3
                exact ⟨⟨k2 + 1, nn + 1, ds3, by omega, by go_num, by go_num, by omega, (HG3.out.low (Below.refl _ _).drew).more (by omega), by omega, by omega, by omega, HK3.out.1.below (Below.refl _ _).drew, HK3.out.2.below (Below.refl _ _).drew⟩, by simp [intOf]; omega⟩
            · have RN := read_no hG2.jat id (by rw [HN.out.1]; exact hid)
              have RN := Lib.hid RN
              have HG3 := Lib.hid hG2
              have c5 := cell_of_row wr pA 5 _ _ _ hSt.st
              clear hG2 hSt hCt hk2 hnn f1 f2 f3 hlt2
              by_cases hid0 : id ≥ 0
              · have hid1 : decide (id < 10) = false := decide_eq_false (by omega)
                clear hid
                go_wp2_with fail
                refine RN.out.mono ?_
                rintro e wE ⟨rfl, rfl⟩
                go_wp2_with fail
                go_region
                go_wp2_with fail
                obtain ⟨hk2, hnn, f1, f2, f3⟩ := HF.out
                exact ⟨⟨k2 + 1, nn, ds2, by omega, by go_num, by go_num, by omega, (HG3.out.low (Below.refl _ _).drew).more (by omega), f1, f2, f3, HK.out.1.below (Below.refl _ _).drew, HK.out.2.below (Below.refl _ _).drew⟩, by simp [intOf]; omega⟩
              · have hid1 : decide (id ≥ 0) = false := decide_eq_false hid0
                have hid2 : decide (0 ≤ id) = false := decide_eq_false hid0
                clear hid hid0
                go_wp2_with fail
                refine RN.out.mono ?_
                rintro e wE ⟨rfl, rfl⟩
                go_wp2_with fail
                go_region
                go_wp2_with fail
                obtain ⟨hk2, hnn, f1, f2, f3⟩ := HF.out
                exact ⟨⟨k2 + 1, nn, ds2, by omega, by go_num, by go_num, by omega, (HG3.out.low (Below.refl _ _).drew).more (by omega), f1, f2, f3, HK.out.1.below (Below.refl _ _).drew, HK.out.2.below (Below.refl _ _).drew⟩, by simp [intOf]; omega⟩
          · have hkk2 : l1.length ≤ 40 ∧ k2 = l1.length ∧ (l1.length : Int) ≤ 40 ∨ 40 < l1.length ∧ k2 = 40 ∧ (40 : Int) < (l1.length : Int) := by omega
            have HF := Lib.hid (And.intro hk2 (And.intro hnn (And.intro f1 (And.intro f2 f3))))
            have HG2 := Lib.hid hG2
            have HK := Lib.hid (And.intro hSt hCt)
            obtain ⟨F2, hd2⟩ := hG2.dev
            have CT := Lib.hid (counts_any hd2)
            clear hd2 hG2 hSt hCt hk2 hnn f1 f2 f3 hlt2
            rcases hkk2 with ⟨h3, rfl, h4⟩ | ⟨h3, rfl, h4⟩
            all_goals
              go_wp2_with fail
              refine CT.out.mono ?_
              rintro e wE ⟨rfl, tE⟩
              have GE := Lib.hid ((HG2.out.low tE.below).alloc (.cells #[.int .i64 (ds2.reads : Int), .int .i64 (ds2.writes : Int), .int .i64 (ds2.flushes : Int)] 46))
              have KE := Lib.hid ((HK.out.1.below tE.below).below ((Below.refl _ wE).alloc (Nat.le_refl _) (.cells #[.int .i64 (ds2.reads : Int), .int .i64 (ds2.writes : Int), .int .i64 (ds2.flushes : Int)] 46)))
              have CE := Lib.hid ((HK.out.2.below tE.below).below ((Below.refl _ wE).alloc (Nat.le_refl _) (.cells #[.int .i64 (ds2.reads : Int), .int .i64 (ds2.writes : Int), .int .i64 (ds2.flushes : Int)] 46)))
              have DE := Lib.hid (show CtK B0 wE.heap.size ds2.reads ds2.writes ds2.flushes (wE.alloc (.cells #[.int .i64 (ds2.reads : Int), .int .i64 (ds2.writes : Int), .int .i64 (ds2.flushes : Int)] 46)) from ⟨Nat.le_trans HG2.out.size tE.size, heap_alloc_new wE _⟩)
              generalize hpE : wE.heap.size = pE at DE
              have ST := state_any GE.out.jat
              rw [HN.out.1] at ST
              have ST := Lib.hid ST
              clear CT tE
              go_wp2_with fail
              clear hpE
              generalize wE.alloc (.cells #[.int .i64 (ds2.reads : Int), .int .i64 (ds2.writes : Int), .int .i64 (ds2.flushes : Int)] 46) = wF at GE KE CE DE ST ⊢
              refine ST.out.mono ?_
              rintro e wG ⟨⟨gH, rfl, hgH, hrH⟩, hbG⟩
              have OC : ∃ O : Obj, O = .cells #[.int .u32 (s.ep : Int), .int .u64 (s.st : Int), .int .u64 (s.sq : Int), .int .i64 (s.head : Int), .int .i64 (s.used : Int), .slice (some ⟨gH, 0, none⟩) 10 10] 35 (0, 0) := ⟨_, rfl⟩
              obtain ⟨O, hO⟩ := OC
              have ba : Below wF.heap.size wF (wG.alloc O) := hbG.alloc hbG.size _
              have GG := Lib.hid (GE.out.low ba)
              have KG := Lib.hid (KE.out.below ba)
              have CG := Lib.hid (CE.out.below ba)
              have DG := Lib.hid (DE.out.below ba)
              have TG := Lib.hid (show StK B0 s wG.heap.size gH (wG.alloc O) from ⟨Nat.le_trans GE.out.size hbG.size, Nat.le_trans GE.out.size hgH, by rw [hO]; exact heap_alloc_new wG _, (Below.heap_alloc wG _ _ (lt_of_heap hrH)).trans hrH⟩)
              generalize hpG : wG.heap.size = pG at TG
              rw [hO] at GG KG CG DG TG
              clear ST ba hgH hrH hbG hO O
              go_wp2_with fail
              clear hpG
              generalize wG.alloc (.cells #[.int .u32 (s.ep : Int), .int .u64 (s.st : Int), .int .u64 (s.sq : Int), .int .i64 (s.head : Int), .int .i64 (s.used : Int), .slice (some ⟨gH, 0, none⟩) 10 10] 35) = wH at GG KG CG DG TG ⊢
              clear GE KE CE DE HG2 HK
              go_loopw [21] (fun i wr3 => ∃ k3 : Nat, k3 ≤ 10 ∧ i = .int .i64 k3 ∧ Below wH.heap.size wH wr3) (fun i _ => 10 - (intOf i).toNat)
              case atStart => exact ⟨0, Nat.zero_le _, rfl, Below.refl _ _⟩
              case round =>
                obtain ⟨k3, hk3, rfl, hb⟩ := hrel
                have K3 := Lib.hid (And.intro (KG.out.below hb) (TG.out.below hb))
                have c5 := cell_of_row wr pA 5 _ _ _ K3.out.1.st
                have t5 := cell_of_row wr pG 5 _ _ _ K3.out.2.st
                by_cases hlt3 : k3 < 10
                · have hk4 : (k3 : Int) < 10 := by omega
                  have cq := cell_of_row wr g9 k3 _ _ _ K3.out.1.row
                  have tq := cell_of_row wr gH k3 _ _ _ K3.out.2.row
                  have hge := Tb.rowT_get s.a hlt3
                  simp only [List.getElem?_toArray] at cq tq
                  rw [hge] at cq tq
                  clear hge
                  generalize Tb.enc (s.a k3) = z at cq tq
                  have HB := Lib.hid hb
                  clear hb
                  go_wp2_with fail
                  go_region
                  go_wp2_with fail
                  exact ⟨⟨k3 + 1, by omega, by go_num, HB.out.drew⟩, by simp [intOf]; omega⟩
                · obtain rfl : k3 = 10 := by omega
                  have G3 := Lib.hid (GG.out.low hb)
                  have e0 := cell_of_row wr pE 0 _ _ _ (DG.out.below hb).ct
                  have e1 := cell_of_row wr pE 1 _ _ _ (DG.out.below hb).ct
                  have e2 := cell_of_row wr pE 2 _ _ _ (DG.out.below hb).ct
                  have d0 := cell_of_row wr pC 0 _ _ _ (CG.out.below hb).ct
                  have d1 := cell_of_row wr pC 1 _ _ _ (CG.out.below hb).ct
                  have d2 := cell_of_row wr pC 2 _ _ _ (CG.out.below hb).ct
                  have c2 := cell_of_row wr pA 2 _ _ _ K3.out.1.st
                  have c3 := cell_of_row wr pA 3 _ _ _ K3.out.1.st
                  have c4 := cell_of_row wr pA 4 _ _ _ K3.out.1.st
                  have t2 := cell_of_row wr pG 2 _ _ _ K3.out.2.st
                  have t3 := cell_of_row wr pG 3 _ _ _ K3.out.2.st
                  have t4 := cell_of_row wr pG 4 _ _ _ K3.out.2.st
                  obtain ⟨hk2, hnn, f1, f2, f3⟩ := HF.out
                  rw [f1] at e0
                  rw [f2] at e1
                  rw [f3] at e2
                  simp only [List.getElem?_toArray, List.getElem?_cons_succ, List.getElem?_cons_zero, Int.natCast_add] at e0 e1 e2 d0 d1 d2
                  have hb1 : (ds.reads : Int) + nn ≤ 100000 := by
                    have := HG.out.reads
                    omega
                  have hb2 : (ds.reads : Int) ≤ 100000 := by omega
                  have RM := Lib.hid (room_any G3.out.jat)
                  have hbr := G3.out.broken
                  clear hb hk2 hnn f1 f2 f3
                  go_wp2_with fail
                  refine RM.out.mono ?_
                  rintro e wI ⟨rfl, qI, rfl⟩
                  have GI := Lib.hid (G3.out.low ((Touch.refl Emp wr).drewN qI).below)
                  have BK := broken_any GI.out.jat
                  rw [hbr] at BK
                  have BK := Lib.hid BK
                  clear RM
                  go_wp2_with fail
                  refine BK.out.mono ?_
                  rintro e wJ ⟨rfl, rfl⟩
                  go_wp2_with fail
                  go_ret
                  exact ⟨rfl, GI.out.below⟩

end Jn
end Go.Proofs.Ytpbcjaennbgmaaa
