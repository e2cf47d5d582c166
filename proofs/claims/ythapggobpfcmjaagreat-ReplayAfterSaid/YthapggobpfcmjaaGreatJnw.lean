/- journal.New. -/
import Derived.Test.YthapggobpfcmjaaGreatJri
import Derived.Deep.RegionHeld3
set_option maxRecDepth 100000
namespace Go.Proofs.YthapggobpfcmjaaGreat
namespace Jn
open Go.RowKit

set_option maxHeartbeats 400000 in
theorem sectors_any {F : Nat → Prop} {w : World} {b : Nat} {s : DSt} (h : Dev w F b s) :
    Calls Tryz.prog 19 #[.pointer (some ⟨b, 0, none⟩)] w fun e w' => e = .returned (.int .i64 s.secs.length) ∧ w = w' := by
  obtain ⟨gs, S, wv, W, bm, es, clk, kv, h⟩ := h
  have d0 := h.cell 0
  simp only [devC, List.getElem?_toArray, List.getElem?_cons_zero] at d0
  clear h
  go_enter Tryz.func19, Tryz.ntmps19
  go_wp2
  go_ret
  exact ⟨rfl, rfl⟩

/-- The places of a list. -/
def aL (l : List Int) (i : Nat) : Option Nat := match l[i]? with
  | some p => if p = -1 then none else some p.toNat
  | none => none
theorem aL_skip {l : List Int} {k : Nat} (hk : k < l.length) (hp : l[k] = -1) : aL (l.take (k + 1)) = aL (l.take k) := by
  funext i
  unfold aL
  rw [List.getElem?_take, List.getElem?_take]
  by_cases h1 : i < k
  · rw [if_pos h1, if_pos (by omega)]
  · by_cases h2 : i = k
    · subst h2
      rw [if_neg h1, if_pos (by omega), List.getElem?_eq_getElem hk]
      simp [hp]
    · rw [if_neg h1, if_neg (by omega)]
theorem aL_put {l : List Int} {k : Nat} (hk : k < l.length) (hp : l[k] ≠ -1) : aL (l.take (k + 1)) = Tb.upd (aL (l.take k)) k (some l[k].toNat) := by
  funext i
  by_cases h2 : i = k
  · subst h2
    rw [Tb.upd_same]
    unfold aL
    rw [List.getElem?_take, if_pos (by omega), List.getElem?_eq_getElem hk]
    simp [hp]
  · rw [Tb.upd_other _ _ h2]
    unfold aL
    rw [List.getElem?_take, List.getElem?_take]
    by_cases h1 : i < k
    · rw [if_pos h1, if_pos (by omega)]
    · rw [if_neg h1, if_neg (by omega)]
/-- No block ahead of number k lies at k's place. -/
theorem aL_free {P h u : Int} {l : List Int} (hf : ApF P h u l) {k : Nat} (hk : k < l.length) (h0 : 0 ≤ l[k]) (i : Nat) (hi : aL (l.take k) i = some l[k].toNat) : False := by
  unfold aL at hi
  rw [List.getElem?_take] at hi
  by_cases h1 : i < k
  · rw [if_pos h1, List.getElem?_eq_getElem (by omega)] at hi
    by_cases h2 : l[i] = -1
    · simp [h2] at hi
    · simp only [h2, if_false, Option.some.injEq] at hi
      refine hf.twice hk h0 ?_
      have hm : l[i] ∈ l.take k := by
        rw [List.mem_take_iff_getElem]
        exact ⟨i, by omega, rfl⟩
      rw [← hi, keysA]
      exact List.mem_map_of_mem (List.mem_filter.2 ⟨hm, by simpa using h2⟩)
  · rw [if_neg h1] at hi
    simp at hi

/-- A state of so many blocks. -/
def s0 (P ep st sq hd us : Nat) (N : Nat) (a o : Nat → Option Nat) : JSt := ⟨N, P, ep, st, sq, hd, us, 0, false, a, o⟩

structure NewI (w : World) (b : Nat) (P ep st sq hd us : Nat) (l : List Int) (g : Nat) (v : Value) (k : Nat) (A : Ad) (wr : World) : Prop where
  jat : ∃ o, JAt wr A (s0 P ep st sq hd us l.length (aL (l.take k)) o)
  ab : A.b = b
  lo : ∀ j, A.own j → w.heap.size ≤ j
  nv : NV .i64 wr v l g
  below : Below w.heap.size w wr

set_option maxHeartbeats 8000000 in
theorem new_ok {w : World} {F : Nat → Prop} {b : Nat} {ds : DSt} {P ep st sq hd us : Nat} {v : Value} {l : List Int} {g : Nat} (hD : DevF w F b ds) (hv : NV .i64 w v l g) (hP : P + 1 ≤ ds.secs.length) (hPm : P ≤ 1048576) (hep : ep < 4294967296) (hsm : ds.secs.length ≤ 4611686018427387904) (hR : RightF P ep st sq hd us l) :
    Calls Tryz.prog 7 #[.pointer (some ⟨b, 0, none⟩), .int .i64 (P : Int), .agg (stI ep st sq hd us v)] w fun e w' =>
      ∃ A o, e = .returned (.tuple #[.pointer (some ⟨A.J, 0, none⟩), .int .i64 0]) ∧ A.b = b ∧ (∀ j, A.own j → w.heap.size ≤ j) ∧ JAt w' A (s0 P ep st sq hd us l.length (aL l) o) ∧ Below w.heap.size w w' := by
  have HV := Lib.hid hv
  have HD := Lib.hid hD
  have HR := Lib.hid hR
  have hP1 : 1 ≤ P := by have := hR.b; omega
  have hl1 : 1 ≤ l.length ∧ l.length ≤ 3840 := hR.c
  obtain ⟨a, cap, rfl, -⟩ := hv.form
  clear hv hD hR
  have hd1 : decide ((P : Int) < 1) = false := decide_eq_false (by omega)
  have hd2 : decide ((P : Int) > (ds.secs.length : Int) - 1) = false := decide_eq_false (by omega)
  have HB := Lib.hid ((Below.refl w.heap.size w).alloc (Nat.le_refl _) (.cells (stI ep st sq hd us (.slice a l.length cap)) 35))
  have HG := Lib.hid (heap_alloc_new w (.cells (stI ep st sq hd us (.slice a l.length cap)) 35))
  go_enter Tryz.func7, Tryz.ntmps7
  go_upto_region 1 with fail
  generalize w.alloc (.cells (stI ep st sq hd us (.slice a l.length cap)) 35) = W at HB HG ⊢
  have e0 : W.cell? ⟨w.heap.size, 0, none⟩ = some (.int .u32 ep) := cell_of_row W w.heap.size 0 _ _ _ HG.out
  have e1 : W.cell? ⟨w.heap.size, 1, none⟩ = some (.int .u64 st) := cell_of_row W w.heap.size 1 _ _ _ HG.out
  have e2 : W.cell? ⟨w.heap.size, 2, none⟩ = some (.int .u64 sq) := cell_of_row W w.heap.size 2 _ _ _ HG.out
  have e3 : W.cell? ⟨w.heap.size, 3, none⟩ = some (.int .i64 hd) := cell_of_row W w.heap.size 3 _ _ _ HG.out
  have e4 : W.cell? ⟨w.heap.size, 4, none⟩ = some (.int .i64 us) := cell_of_row W w.heap.size 4 _ _ _ HG.out
  have e5 : W.cell? ⟨w.heap.size, 5, none⟩ = some (.slice a l.length cap) := cell_of_row W w.heap.size 5 _ _ _ HG.out
  have SE := Lib.hid (sectors_any ((HD.out.below HB.out).dev))
  have RI := Lib.hid (right_any (P := P) (ep := ep) (st := st) (sq := sq) (hd := hd) (us := us) (HV.out.below HB.out) (by omega) (by omega) (by omega))
  go_wp2_with fail
  refine SE.out.mono ?_
  rintro e w' ⟨rfl, rfl⟩
  go_wp2_with fail
  refine RI.out.mono ?_
  rintro e w2 ⟨⟨bb, rfl, hbb⟩, hb2⟩
  obtain rfl : bb = true := hbb.2 HR.out
  clear hbb RI SE e0 e1 e2 e3 e4 e5
  have hb3 : Below w.heap.size w w2 := HB.out.trans (hb2.mono HB.out.size)
  replace HG := Lib.hid ((hb2.block _ (lt_of_heap HG.out)).trans HG.out)
  replace HB := Lib.hid hb3
  clear hb2 hb3
  go_upto_region 3 with fail
  generalize w2 = W at *
  have HS := Lib.hid (show ∀ V : World, Below W.heap.size W V → V.cell? ⟨w.heap.size, 0, none⟩ = some (.int .u32 ep) ∧ V.cell? ⟨w.heap.size, 1, none⟩ = some (.int .u64 st) ∧ V.cell? ⟨w.heap.size, 2, none⟩ = some (.int .u64 sq) ∧ V.cell? ⟨w.heap.size, 3, none⟩ = some (.int .i64 hd) ∧ V.cell? ⟨w.heap.size, 4, none⟩ = some (.int .i64 us) ∧ V.cell? ⟨w.heap.size, 5, none⟩ = some (.slice a l.length cap) from fun V hV => by
    have h := (hV.block _ (lt_of_heap HG.out)).trans HG.out
    exact ⟨cell_of_row V w.heap.size 0 _ _ _ h, cell_of_row V w.heap.size 1 _ _ _ h, cell_of_row V w.heap.size 2 _ _ _ h, cell_of_row V w.heap.size 3 _ _ _ h, cell_of_row V w.heap.size 4 _ _ _ h, cell_of_row V w.heap.size 5 _ _ _ h⟩)
  go_cut [8] from 30 to 54 (fun p8 wx => ∃ A o V, V = wx ∧ p8 = .pointer (some ⟨A.J, 0, none⟩) ∧ A.b = b ∧ (∀ j, A.own j → W.heap.size ≤ j) ∧ JAt V A (s0 P ep st sq hd us l.length (fun _ => none) o) ∧ Below W.heap.size W V)
  case first =>
    obtain ⟨e0, e1, e2, e3, e4, e5⟩ := HS.out W (Below.refl _ W)
    have hB0 : Below W.heap.size W W.drew := (Below.refl _ W).drew
    go_region_held3 (fun V => V.cell? ⟨w.heap.size, 0, none⟩ = some (.int .u32 ep) ∧ V.cell? ⟨w.heap.size, 1, none⟩ = some (.int .u64 st) ∧ V.cell? ⟨w.heap.size, 2, none⟩ = some (.int .u64 sq) ∧ V.cell? ⟨w.heap.size, 3, none⟩ = some (.int .i64 hd) ∧ V.cell? ⟨w.heap.size, 4, none⟩ = some (.int .i64 us) ∧ V.cell? ⟨w.heap.size, 5, none⟩ = some (.slice a l.length cap)) (first | exact ⟨e0, e1, e2, e3, e4, e5⟩ | exact HS.out _ (by assumption) | exact HS.out _ (hB5.alloc hB5.size _)) (first
      | (go_at_call 21; refine (Rg.new_e P P _ (by omega)).mono ?_; rintro e w4 ⟨⟨R, gR, rfl, hring, hR1⟩, hb⟩; have hB4 := hB0.trans hb)
      | (go_at_call 22; refine (Tb.new_any l.length P l.length P _ (by omega) (by omega)).mono ?_; rintro e w5 ⟨⟨T, gp, go, rfl, htab, hT1, hT2, hT3⟩, hb2⟩; have hB5 := hB4.trans (hb2.mono hB4.size)))
    go_wp2_with fail
    go_meet
    have hR := HR.out
    have hw5 := hB5.size
    refine ⟨⟨w5.heap.size, b, R, gR, T, gp, go⟩, fun _ => none, _, rfl, rfl, rfl, ?_, ?_, hB5.alloc hB5.size _⟩
    · rintro j (rfl | rfl | rfl | rfl | rfl)
      · exact hw5
      · exact hR1
      · exact Nat.le_trans hB4.size hT1
      · exact Nat.le_trans hB4.size hT2
      · exact Nat.le_trans hB4.size hT3
    · have hr5 := (hring.touch (Touch.of_below (F := Emp) hb2) id).touch (Touch.of_below (F := Emp) ((Below.refl w5.heap.size w5).alloc (Nat.le_refl _) (.cells (jC (s0 P ep st sq hd us l.length (fun _ => none) (fun _ => none)) ⟨w5.heap.size, b, R, gR, T, gp, go⟩) 73))) id
      have ht5 := htab.touch (Touch.of_below (F := Emp) ((Below.refl w5.heap.size w5).alloc (Nat.le_refl _) (.cells (jC (s0 P ep st sq hd us l.length (fun _ => none) (fun _ => none)) ⟨w5.heap.size, b, R, gR, T, gp, go⟩) 73))) id id id
      refine ⟨heap_alloc_new w5 _, hr5, ht5, hP1, ?_, ?_, ?_, hep, ?_⟩
      · show hd < P
        have := hR.b; omega
      · show us + 0 ≤ P
        have := hR.b; omega
      · show sq ≤ _
        have := hR.a; omega
      · show st ≤ _
        have := hR.a; omega
  case rest =>
  obtain ⟨A, o, wx, rfl, rfl, hab, hlo, hj, hbw⟩ := hcut
  have hs0 : w.heap.size ≤ W.heap.size := HB.out.size
  have hs1 : W.heap.size ≤ wx.heap.size := hbw.size
  have ht0 : aL (l.take 0) = fun _ => none := by funext i; simp [aL]
  have HN := Lib.hid (show NewI w b P ep st sq hd us l g (.slice a l.length cap) 0 A wx from ⟨⟨o, by rw [ht0]; exact hj⟩, hab, fun j hj => Nat.le_trans hs0 (hlo j hj), (HV.out.below HB.out).below hbw, HB.out.trans (hbw.mono hs0)⟩)
  have hg2 : wx.heap[w.heap.size]? = some (.cells (stI ep st sq hd us (.slice a l.length cap)) 35 (0, 0)) := (hbw.block _ (lt_of_heap HG.out)).trans HG.out
  have e5 : wx.cell? ⟨w.heap.size, 5, none⟩ = some (.slice a l.length cap) := cell_of_row wx w.heap.size 5 _ _ _ hg2
  have hRU : ∀ j, A.own j → w.heap.size ≤ j := HN.out.lo
  have HLO := Lib.hid hlo
  clear hj hab hlo hbw ht0 hg2 hs0 hs1 HS hRU
  go_wp2_with fail
  clear e5
  go_loopw [58] (fun i wr => ∃ k : Nat, k ≤ l.length ∧ i = .int .i64 k ∧ NewI w b P ep st sq hd us l g (.slice a l.length cap) k A wr) (fun i _ => l.length - (intOf i).toNat)
  case atStart => exact ⟨0, Nat.zero_le _, rfl, HN.out⟩
  case round =>
    obtain ⟨k, hk, rfl, hI⟩ := hrel
    by_cases hlt : k < l.length
    · obtain ⟨off, rfl, w1⟩ := hI.nv.cell_at hlt
      obtain ⟨o2, hj⟩ := hI.jat
      obtain ⟨-, -, c2, -⟩ := hj.cells
      have hk' : (k : Int) < (l.length : Int) := by omega
      have HI := Lib.hid hI
      have HJ := Lib.hid hj
      have hin := HR.out.d.ins _ (List.getElem_mem hlt)
      have hsk := aL_skip hlt
      have hpt := aL_put hlt
      have hfr := aL_free HR.out.d hlt
      generalize l[k] = p at w1 hin hsk hpt hfr
      by_cases hpm : p = -1
      · subst hpm
        have HSK := Lib.hid (hsk rfl)
        clear hI hj hin hsk hpt hfr
        go_wp2_with fail
        exact ⟨⟨k + 1, by omega, by go_num, ⟨⟨o2, by rw [HSK.out]; exact HJ.out⟩, HI.out.ab, HI.out.lo, HI.out.nv, HI.out.below⟩⟩, by simp [intOf]; omega⟩
      · have hpe : (p == -1) = false := by simpa using hpm
        have hpe2 : (p != -1) = true := by simpa using hpm
        obtain ⟨q, rfl⟩ : ∃ q : Nat, p = (q : Int) := ⟨p.toNat, by omega⟩
        have hqP : q < P := by omega
        simp only [Int.toNat_natCast] at hpt hfr
        have hof : o2 q = none := by
          cases e : o2 q with
          | none => rfl
          | some i => exact (hfr (by omega) i ((hj.tab.good.back i q).2 e)).elim
        have PT := Lib.hid (Tb.put_ok hj.tab (i := k) (p := q) hlt hqP (.inl hof))
        have HPT := Lib.hid (hpt hpm)
        clear hI hj hin hsk hpt hfr hof
        go_wp2_with fail
        refine PT.out.mono ?_
        rintro e w4 ⟨rfl, htab, ht⟩
        have HT := Lib.hid (And.intro htab ht)
        clear PT htab ht
        go_wp2_with fail
        obtain ⟨htab, ht⟩ := HT.out
        have hown : ∀ j, Tb.Own3 A.T A.gp A.go j → A.own j := fun j hj => hj.elim (fun e => .inr (.inr (.inl e))) (fun e => e.elim (fun e => .inr (.inr (.inr (.inl e)))) (fun e => .inr (.inr (.inr (.inr e)))))
        refine ⟨⟨k + 1, by omega, by go_num, ⟨⟨Tb.putO (aL (l.take k)) o2 k q, ?_⟩, HI.out.ab, HI.out.lo, HI.out.nv.touch ht fun hl hj => ?_, ((Touch.of_below (F := Emp) HI.out.below).trans ht fun j hj hlt2 => ?_).below⟩⟩, by simp [intOf]; omega⟩
        · rw [HPT.out]
          exact JAt.put HJ.out ht htab
        · have h1 := HI.out.lo _ (hown _ hj)
          have h2 := HV.out.lt hl
          omega
        · have h1 := HI.out.lo _ (hown _ hj)
          omega
    · obtain rfl : k = l.length := by omega
      have HI := Lib.hid hI
      clear hI hk
      go_wp2
      go_ret2
      obtain ⟨o2, hj⟩ := HI.out.jat
      rw [List.take_length] at hj
      exact ⟨A, o2, rfl, HI.out.ab, HI.out.lo, hj, HI.out.below⟩

end Jn
end Go.Proofs.YthapggobpfcmjaaGreat
