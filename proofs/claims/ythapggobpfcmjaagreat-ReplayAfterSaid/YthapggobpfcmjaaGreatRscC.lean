/- replay.Scan, and shown. -/
import Derived.Test.YthapggobpfcmjaaGreatRscB
set_option maxRecDepth 100000
namespace Go.Proofs.YthapggobpfcmjaaGreat
namespace Rp
open Go.RowKit

def epochM (l : List Fo) : Nat := l.foldl (fun e x => max e x.1.e) 0
def floorM (l : List Fo) : Nat := l.foldl (fun e x => max e x.1.f) 0
theorem epochM_snoc (l : List Fo) (x : Fo) : epochM (l ++ [x]) = max (epochM l) x.1.e := by unfold epochM; rw [List.foldl_append]; rfl
theorem floorM_snoc (l : List Fo) (x : Fo) : floorM (l ++ [x]) = max (floorM l) x.1.f := by unfold floorM; rw [List.foldl_append]; rfl
theorem epochM_lt {l : List Fo} (h : EpL l) : epochM l < 4294967296 := by
  induction l using snoc_ind with
  | nil => show 0 < _; omega
  | snoc l x ih =>
    rw [epochM_snoc]
    have := ih fun y hy => h y (by simp [hy])
    have := h x (by simp)
    omega
theorem floorM_lt {l : List Fo} (h : RightL l) : floorM l < 281474976710655 := by
  induction l using snoc_ind with
  | nil => show 0 < _; omega
  | snoc l x ih =>
    rw [floorM_snoc]
    have := ih fun y hy => h y (by simp [hy])
    have := (Tg.right_iff _).1 (h x (by simp))
    omega
theorem max_32 (a b : Nat) (t : TypeId) : ∃ r : Nat, r = max a b ∧ ∀ W : World, (Builtin.max_ #[31, 31] t #[.int .u32 (a : Int), .int .u32 (b : Int)]).run Tryz.prog W = .ok (.int .u32 (r : Int)) W := by
  refine ⟨max a b, rfl, fun W => ?_⟩
  simp [Builtin.max_, Builtin.max2]
  split <;> omega
theorem max_64 (a b : Nat) (t : TypeId) : ∃ r : Nat, r = max a b ∧ ∀ W : World, (Builtin.max_ #[32, 32] t #[.int .u64 (a : Int), .int .u64 (b : Int)]).run Tryz.prog W = .ok (.int .u64 (r : Int)) W := by
  refine ⟨max a b, rfl, fun W => ?_⟩
  simp [Builtin.max_, Builtin.max2]
  split <;> omega
theorem right_true {l : List Fo} (h : RightL l) : RightL (trueL l) := fun x hx => h x (List.mem_filter.1 hx).1
theorem best_in (l : List Fo) (seq id P : Nat) (hp : ∀ x ∈ l, x.2 < P) : -1 ≤ (bestF l seq id).2 ∧ (bestF l seq id).2 < (P : Int) := by
  induction l using snoc_ind with
  | nil => show (-1 : Int) ≤ -1 ∧ (-1 : Int) < P; omega
  | snoc l x ih =>
    have := ih fun y hy => hp y (by simp [hy])
    have := hp x (by simp)
    rw [best_snoc]
    split
    · exact ⟨by show (-1 : Int) ≤ (x.2 : Int); omega, by show (x.2 : Int) < P; omega⟩
    · assumption
/-- Where the blocks are. -/
def atL (l : List Fo) (seq N : Nat) : List Int := (List.range N).map fun id => (bestF l seq id).2
theorem atL_row (l : List Fo) (seq N : Nat) : rowF N (atV l seq) = ((atL l seq N).map (Value.int .i64)).toArray := by simp [rowF, atL, atV, Function.comp_def]
theorem nv_at {w : World} {g : Nat} {l : List Fo} {seq N : Nat} (h : w.heap[g]? = some (.cells (rowF N (atV l seq)) 3 (0, 0))) : NV .i64 w (.slice (some ⟨g, 0, none⟩) N N) (atL l seq N) g := by
  have hl : (atL l seq N).length = N := by simp [atL]
  refine ⟨⟨_, N, by rw [hl], by omega, (fun e => by cases e), fun _ => ⟨0, rfl, fun i hi => ?_⟩⟩, fun _ => lt_of_heap h⟩
  rw [atL_row] at h
  rw [cell_of_row _ _ _ _ _ _ h]
  simp [List.getElem?_eq_getElem hi]

abbrev stA (e s q : Nat) (h u : Int) (v : Value) : Value := .agg #[.int .u32 (e : Int), .int .u64 (s : Int), .int .u64 (q : Int), .int .i64 h, .int .i64 u, v]
abbrev stZ : Value := .agg #[.int .u32 0, .int .u64 0, .int .u64 0, .int .i64 0, .int .i64 0, .slice none 0 0]
/-- The last batch, as the tags tell it. -/
def SeqOf (l : List Fo) (seq : Nat) : Prop := seq = floorM l ∧ ¬ Whole (trueL l) (floorM l + 1) ∨ seq = floorM l + 1 ∧ Whole (trueL l) (floorM l + 1)
/-- What is answered. -/
def Told (w w' : World) (e : Ending) (l : List Fo) (P N : Nat) : Prop := ∃ seq, SeqOf l seq ∧
  ((epochM l = 4294967295 ∨ seq = 281474976710655) ∧ e = .returned (.tuple #[stZ, .int .i64 12]) ∨
   ¬ (epochM l = 4294967295 ∨ seq = 281474976710655) ∧ ∃ g, e = .returned (.tuple #[stA (epochM l + 1) (seq + 1) seq (headF (trueL l) seq P).1 (spanF (atL (trueL l) seq N) (headF (trueL l) seq P).1 P) (.slice (some ⟨g, 0, none⟩) N N), .int .i64 0]) ∧ w.heap.size ≤ g ∧
     w'.heap[g]? = some (.cells (rowF N (atV (trueL l) seq)) 3 (0, 0)))

def zeroS : Array Value := #[.int .u32 0, .int .u64 0, .int .u64 0, .int .i64 0, .int .i64 0, .slice none 0 0]
def six (w : World) (b : Nat) (x0 x1 x2 x3 x4 x5 : Value) : World := (((((w.setCell ⟨b, 0, none⟩ x0).setCell ⟨b, 1, none⟩ x1).setCell ⟨b, 2, none⟩ x2).setCell ⟨b, 3, none⟩ x3).setCell ⟨b, 4, none⟩ x4).setCell ⟨b, 5, none⟩ x5
theorem six_at {w : World} {b : Nat} {T : TypeId} (h : w.heap[b]? = some (.cells zeroS T (0, 0))) (x0 x1 x2 x3 x4 x5 : Value) : (six w b x0 x1 x2 x3 x4 x5).heap[b]? = some (.cells #[x0, x1, x2, x3, x4, x5] T (0, 0)) := by
  have := heap_setCell_same _ b 5 _ _ x5 (heap_setCell_same _ b 4 _ _ x4 (heap_setCell_same _ b 3 _ _ x3 (heap_setCell_same _ b 2 _ _ x2 (heap_setCell_same _ b 1 _ _ x1 (heap_setCell_same _ b 0 _ _ x0 h)))))
  simpa [six, zeroS] using this
theorem six_cells {W : World} {p : Nat} {T : TypeId} {x0 x1 x2 x3 x4 x5 : Value} (h : W.heap[p]? = some (.cells #[x0, x1, x2, x3, x4, x5] T (0, 0))) : W.cell? ⟨p, 0, none⟩ = some x0 ∧ W.cell? ⟨p, 1, none⟩ = some x1 ∧ W.cell? ⟨p, 2, none⟩ = some x2 ∧ W.cell? ⟨p, 3, none⟩ = some x3 ∧ W.cell? ⟨p, 4, none⟩ = some x4 ∧ W.cell? ⟨p, 5, none⟩ = some x5 := by
  have hh := fun i => cell_of_row _ _ i _ _ _ h
  exact ⟨hh 0, hh 1, hh 2, hh 3, hh 4, hh 5⟩
theorem six_touch (w : World) (b : Nat) (x0 x1 x2 x3 x4 x5 : Value) : Touch (fun k => k = b) w (six w b x0 x1 x2 x3 x4 x5) :=
  ((((((Touch.refl (fun k => k = b) w).setCell (a := ⟨b, 0, none⟩) (.inl rfl) x0).setCell (a := ⟨b, 1, none⟩) (.inl rfl) x1).setCell (a := ⟨b, 2, none⟩) (.inl rfl) x2).setCell (a := ⟨b, 3, none⟩) (.inl rfl) x3).setCell (a := ⟨b, 4, none⟩) (.inl rfl) x4).setCell (a := ⟨b, 5, none⟩) (.inl rfl) x5

/-- While state runs. -/
structure SaI (w : World) (v : Value) (l : List Fo) (g : Nat) (wr : World) : Prop where
  fv : FV wr v l g
  below : Below w.heap.size w wr
  res : wr.heap[w.heap.size]? = some (.cells zeroS 35 (0, 0))

set_option maxHeartbeats 8000000 in
theorem state_ok {M : Nat} (hS : SortsU M) {w : World} {v : Value} {l : List Fo} {g : Nat} (h : FV w v l g) (hlen : l.length ≤ 1048576) (hr : RightL l) (he : EpL l) (hM : (startsA l).length ≤ M) (P N : Nat) (hN : ∀ x ∈ l, x.1.d < (N : Int)) (hp : ∀ x ∈ l, x.2 < P)
    (hP : 1 ≤ P) (hP2 : P ≤ 1048576) (hN1 : 1 ≤ N) (hN2 : N ≤ 3840) :
    Calls Tryz.prog 32 #[v, .int .i64 (P : Int), .int .i64 (N : Int)] w fun e w' => Told w w' e l P N ∧ Below w.heap.size w w' := by
  have H := Lib.hid h
  have HR := Lib.hid hr
  have HE := Lib.hid he
  have HS := Lib.hid hS
  have HM := Lib.hid hM
  have HN := Lib.hid hN
  have HP := Lib.hid hp
  obtain ⟨a, cap, rfl, hcap, hnil, hne⟩ := h.form
  clear h hne hnil hcap hr he hS hM hN hp
  go_enter Tryz.func32, Tryz.ntmps32
  go_wp2
  have I0 : SaI w (.slice a l.length cap) l g (w.alloc (.cells #[.int .u32 0, .int .u64 0, .int .u64 0, .int .i64 0, .int .i64 0, .slice none 0 0] 35)) :=
    ⟨H.out.below ((Below.refl _ w).alloc (Nat.le_refl _) _), (Below.refl _ w).alloc (Nat.le_refl _) _, heap_alloc_new w _⟩
  have HI0 := Lib.hid I0
  clear I0
  go_loopw [19, 8, 9] (fun i ep fl wr => ∃ (k ep' fl' : Nat), k ≤ l.length ∧ i = .int .i64 k ∧ ep = .int .u32 (ep' : Int) ∧ fl = .int .u64 (fl' : Int) ∧ ep' = epochM (l.take k) ∧ fl' = floorM (l.take k) ∧ SaI w (.slice a l.length cap) l g wr) (fun i _ _ _ => l.length - (intOf i).toNat)
  case atStart => exact ⟨0, 0, 0, Nat.zero_le _, rfl, rfl, rfl, rfl, rfl, HI0.out⟩
  case round =>
    obtain ⟨k, ep, fl, hk, rfl, rfl, rfl, hep, hfl, hI⟩ := hrel
    by_cases hlt : k < l.length
    · obtain ⟨cap', e1, -, c0, c1, c2, c3, c4, c5, c6, c7⟩ := hI.fv.at hlt
      obtain ⟨rfl, rfl⟩ : a = some ⟨g, 0, none⟩ ∧ cap = cap' := by simpa using e1
      have hgs : g < wr.heap.size := World.block_lt_of_cell? wr _ c0
      have hk' : (k : Int) < (l.length : Int) := by omega
      generalize hek : l[k] = ek at c0 c1 c2 c3 c4 c5 c6 c7
      have htk : l.take (k + 1) = l.take k ++ [ek] := by rw [List.take_add_one, List.getElem?_eq_getElem hlt, hek]; rfl
      obtain ⟨r1, hr1, hm1⟩ := max_32 ep ek.1.e 31
      obtain ⟨r2, hr2, hm2⟩ := max_64 fl ek.1.f 32
      have NX := Lib.hid (show r1 = epochM (l.take (k + 1)) ∧ r2 = floorM (l.take (k + 1)) by rw [htk, epochM_snoc, floorM_snoc, ← hep, ← hfl]; exact ⟨hr1, hr2⟩)
      have HI := Lib.hid hI
      clear hI e1 htk hep hfl hr1 hr2
      go_wp2_with fail
      go_region
      go_wp2
      have hb : Below wr.heap.size wr ((wr.alloc (.cells (foV ek) 122)).drew) := ((Below.refl _ _).alloc (Nat.le_refl _) _).drew
      refine ⟨⟨k + 1, r1, r2, by omega, by go_num, rfl, rfl, NX.out.1, NX.out.2, ?_⟩, by simp [intOf]; omega⟩
      exact ⟨HI.out.fv.below hb, ((Touch.of_below (F := Emp) HI.out.below).trans (Touch.of_below (F := Emp) hb) (fun _ h _ => h)).below, (hb.block _ (lt_of_heap HI.out.res)).trans HI.out.res⟩
    · obtain rfl : k = l.length := by omega
      rw [List.take_length] at hep hfl
      have hfb := floorM_lt HR.out
      have heb := epochM_lt HE.out
      rw [← hfl] at hfb
      rw [← hep] at heb
      have FR := Lib.hid (fresh_ok HS.out hI.fv hlen HR.out HE.out HM.out)
      have HI := Lib.hid hI
      have HEF := Lib.hid (And.intro hep hfl)
      have hfb1 : (fl : Int) + 1 ≤ 281474976710655 := by omega
      have hfb2 : (0 : Int) ≤ (fl : Int) := Int.natCast_nonneg _
      clear hI hep hfl hk
      go_wp2_with fail
      refine FR.out.mono ?_
      rintro e w1 ⟨⟨o, rfl, how⟩, hb1⟩
      obtain ⟨gt, hfv, hgt⟩ := FV.own how
      obtain ⟨oa, oc, rfl, -, -, -⟩ := hfv.form
      have htl := true_len l
      have WH := whole_ok hfv (by omega) (right_true HR.out) (fl + 1)
      rw [show ((fl + 1 : Nat) : Int) = (fl : Int) + 1 by simp] at WH
      have WH := Lib.hid WH
      have HFV := Lib.hid hfv
      have HB1 := Lib.hid hb1
      clear how hfv hgt hb1
      go_wp2_with fail
      refine WH.out.mono ?_
      rintro e w2 ⟨⟨b, rfl, hbw⟩, hb2⟩
      have T2 : Touch Emp w w2 := ((Touch.of_below HI.out.below).trans (Touch.of_below (F := Emp) HB1.out) (fun _ h _ => h)).trans (Touch.of_below (F := Emp) hb2) (fun _ h _ => h)
      have R2 : w2.heap[w.heap.size]? = some (.cells zeroS 35 (0, 0)) := (Touch.of_below (F := Emp) hb2).at ((Touch.of_below (F := Emp) HB1.out).at HI.out.res id) id
      have F2 : FV w2 (.slice oa (trueL l).length oc) (trueL l) gt := HFV.out.below hb2
      have HT2 := Lib.hid T2
      have HR2 := Lib.hid R2
      have HF2 := Lib.hid F2
      have hr : ∀ i, w2.cell? ⟨w.heap.size, i, none⟩ = (zeroS)[i]? := fun i => cell_of_row _ _ i _ _ _ R2
      have hf : ∀ i, w2.frozen? ⟨w.heap.size, i, none⟩ = false := fun i => frozen_of_row _ _ i _ _ R2
      have r0 := hr 0
      have r1 := hr 1
      have r2 := hr 2
      have r3 := hr 3
      have r4 := hr 4
      have r5 := hr 5
      have e0 := hf 0
      have e1 := hf 1
      have e2 := hf 2
      have e3 := hf 3
      have e4 := hf 4
      have e5 := hf 5
      simp only [zeroS, List.getElem?_toArray, List.getElem?_cons_succ, List.getElem?_cons_zero] at r0 r1 r2 r3 r4 r5
      have HRF := Lib.hid (And.intro hr hf)
      clear hr hf T2 R2 F2 hb2
      cases b with
      | true =>
        have HSQ := Lib.hid (show SeqOf l (fl + 1) from .inr ⟨by rw [HEF.out.2], by rw [← HEF.out.2]; exact hbw.1 rfl⟩)
        clear hbw
        by_cases hbad : ep = 4294967295 ∨ fl + 1 = 281474976710655
        · have HBAD := Lib.hid hbad
          have hd1 : (((ep : Int) == 4294967295) = true) ∨ (((ep : Int) == 4294967295) = false ∧ (((fl : Int) + 1 == 281474976710655) = true)) := by
            rcases hbad with h | h
            · exact .inl (by rw [h]; rfl)
            · by_cases h2 : ep = 4294967295
              · exact .inl (by rw [h2]; rfl)
              · exact .inr ⟨by simp; omega, by simp; omega⟩
          clear hbad
          rcases hd1 with h1 | ⟨h1, h2⟩
          · go_wp2
            have hX := six_at HR2.out (.int .u32 0) (.int .u64 0) (.int .u64 0) (.int .i64 0) (.int .i64 0) (.slice none 0 0)
            have hT := six_touch w2 w.heap.size (.int .u32 0) (.int .u64 0) (.int .u64 0) (.int .i64 0) (.int .i64 0) (.slice none 0 0)
            unfold six at hX hT
            generalize (((((w2.setCell ⟨w.heap.size, 0, none⟩ (.int .u32 0)).setCell ⟨w.heap.size, 1, none⟩ (.int .u64 0)).setCell ⟨w.heap.size, 2, none⟩ (.int .u64 0)).setCell ⟨w.heap.size, 3, none⟩ (.int .i64 0)).setCell ⟨w.heap.size, 4, none⟩ (.int .i64 0)).setCell ⟨w.heap.size, 5, none⟩ (.slice none 0 0) = W7 at hX hT ⊢
            obtain ⟨x0, x1, x2, x3, x4, x5⟩ := six_cells hX
            exact bodyPost_ret (v := .tuple #[stZ, .int .i64 12]) (by simp [results, Tryz.results32, go_sem, x0, x1, x2, x3, x4, x5]) rfl ⟨⟨_, HSQ.out, .inl ⟨by rw [← HEF.out.1]; exact HBAD.out, rfl⟩⟩, (HT2.out.trans hT (fun j hj hlt => by omega)).below⟩
          · go_wp2
            have hX := six_at HR2.out (.int .u32 0) (.int .u64 0) (.int .u64 0) (.int .i64 0) (.int .i64 0) (.slice none 0 0)
            have hT := six_touch w2 w.heap.size (.int .u32 0) (.int .u64 0) (.int .u64 0) (.int .i64 0) (.int .i64 0) (.slice none 0 0)
            unfold six at hX hT
            generalize (((((w2.setCell ⟨w.heap.size, 0, none⟩ (.int .u32 0)).setCell ⟨w.heap.size, 1, none⟩ (.int .u64 0)).setCell ⟨w.heap.size, 2, none⟩ (.int .u64 0)).setCell ⟨w.heap.size, 3, none⟩ (.int .i64 0)).setCell ⟨w.heap.size, 4, none⟩ (.int .i64 0)).setCell ⟨w.heap.size, 5, none⟩ (.slice none 0 0) = W7 at hX hT ⊢
            obtain ⟨x0, x1, x2, x3, x4, x5⟩ := six_cells hX
            exact bodyPost_ret (v := .tuple #[stZ, .int .i64 12]) (by simp [results, Tryz.results32, go_sem, x0, x1, x2, x3, x4, x5]) rfl ⟨⟨_, HSQ.out, .inl ⟨by rw [← HEF.out.1]; exact HBAD.out, rfl⟩⟩, (HT2.out.trans hT (fun j hj hlt => by omega)).below⟩
        · have hg1 : ((ep : Int) == 4294967295) = false := by simp; omega
          have hg2 : ((fl : Int) + 1 == 281474976710655) = false := by simp; omega
          have hep1 : (ep : Int) + 1 ≤ 4294967295 := by omega
          have hep0 : (0 : Int) ≤ (ep : Int) := Int.natCast_nonneg _
          have hsq1 : (fl : Int) + 1 + 1 ≤ 281474976710655 := by omega
          have HBAD := Lib.hid hbad
          have RN1 := Lib.hid (Rg.new_e (P : Int) P w2 (by omega))
          clear hbad r0 r1 r2 r3 r4 r5 e0 e1 e2 e3 e4 e5
          go_wp2_with fail
          refine RN1.out.mono ?_
          rintro e w3 ⟨⟨R, gr, rfl, hring, -⟩, hb3⟩
          have F3 := HF2.out.below hb3
          have NW := newest_ok F3 (by omega) (right_true HR.out) (fl + 1) N (fun x hx => HN.out x (List.mem_filter.1 hx).1) (by omega)
          rw [show ((fl + 1 : Nat) : Int) = (fl : Int) + 1 by simp] at NW
          have NW := Lib.hid NW
          have HF3 := Lib.hid F3
          have HRG := Lib.hid hring
          have HB3 := Lib.hid hb3
          clear F3 hring hb3
          go_wp2_with fail
          refine NW.out.mono ?_
          rintro e w4 ⟨⟨gA, rfl, hgA, hrow⟩, hb4⟩
          have BH := behind_ok (HF3.out.below hb4) (by omega) (right_true HR.out) (fl + 1) (HRG.out.below hb4) hP hP2
          rw [show ((fl + 1 : Nat) : Int) = (fl : Int) + 1 by simp] at BH
          have BH := Lib.hid BH
          have HRW := Lib.hid hrow
          have HB4 := Lib.hid hb4
          have HGA := Lib.hid hgA
          clear hrow hb4 hgA
          go_wp2_with fail
          refine BH.out.mono ?_
          rintro e w5 ⟨rfl, hb5⟩
          have hrow5 := (hb5.block _ (lt_of_heap HRW.out)).trans HRW.out
          have SP := Lib.hid (span_ok (nv_at hrow5) (by simp [atL]; omega) (fun p hp => by
            obtain ⟨id, -, rfl⟩ := List.mem_map.1 hp
            exact best_in _ _ _ P fun x hx => HP.out x (List.mem_filter.1 hx).1) (headF (trueL l) (fl + 1) P).1 (head_in _ _ _ hP) ((HRG.out.below HB4.out).below hb5) hP hP2)
          have hhd := head_in (trueL l) (fl + 1) P hP
          generalize hhq : headF (trueL l) (fl + 1) P = hd at SP hhd
          have HHQ := Lib.hid hhq
          clear hhq
          have hsp := span_in (atL (trueL l) (fl + 1) N) hd.1 P hP
          have T5 : Touch Emp w2 w5 := ((Touch.of_below HB3.out).trans (Touch.of_below (F := Emp) HB4.out) (fun _ h _ => h)).trans (Touch.of_below (F := Emp) hb5) (fun _ h _ => h)
          have R5 := T5.at HR2.out id
          have HR5 := Lib.hid R5
          have HT5 := Lib.hid (HT2.out.trans T5 fun _ h _ => h)
          have HRW5 := Lib.hid hrow5
          have HHD := Lib.hid hhd
          have hr : ∀ i, w5.cell? ⟨w.heap.size, i, none⟩ = (zeroS)[i]? := fun i => cell_of_row _ _ i _ _ _ R5
          have hf : ∀ i, w5.frozen? ⟨w.heap.size, i, none⟩ = false := fun i => frozen_of_row _ _ i _ _ R5
          have r0 := hr 0
          have r1 := hr 1
          have r2 := hr 2
          have r3 := hr 3
          have r4 := hr 4
          have r5 := hr 5
          have e0 := hf 0
          have e1 := hf 1
          have e2 := hf 2
          have e3 := hf 3
          have e4 := hf 4
          have e5 := hf 5
          simp only [zeroS, List.getElem?_toArray, List.getElem?_cons_succ, List.getElem?_cons_zero] at r0 r1 r2 r3 r4 r5
          have hgA : w.heap.size + 1 ≤ gA := by
            have h1 := HGA.out
            have h2 := lt_of_heap HR2.out
            have h3 := HB3.out.size
            omega
          have HGA2 := Lib.hid hgA
          clear hr hf T5 R5 hrow5 hb5 hhd hgA
          go_wp2_with fail
          refine SP.out.mono ?_
          rintro e w6 ⟨rfl, rfl⟩
          have HSPD := Lib.hid hsp
          clear hsp
          go_wp2
          have hX := six_at HR5.out (.int .u32 ((ep : Int) + 1)) (.int .u64 ((fl : Int) + 1 + 1)) (.int .u64 ((fl : Int) + 1)) (.int .i64 hd.1) (.int .i64 (spanF (atL (trueL l) (fl + 1) N) hd.1 P)) (.slice (some ⟨gA, 0, none⟩) N N)
          have hT := six_touch w5 w.heap.size (.int .u32 ((ep : Int) + 1)) (.int .u64 ((fl : Int) + 1 + 1)) (.int .u64 ((fl : Int) + 1)) (.int .i64 hd.1) (.int .i64 (spanF (atL (trueL l) (fl + 1) N) hd.1 P)) (.slice (some ⟨gA, 0, none⟩) N N)
          unfold six at hX hT
          generalize (((((w5.setCell ⟨w.heap.size, 0, none⟩ (.int .u32 ((ep : Int) + 1))).setCell ⟨w.heap.size, 1, none⟩ (.int .u64 ((fl : Int) + 1 + 1))).setCell ⟨w.heap.size, 2, none⟩ (.int .u64 ((fl : Int) + 1))).setCell ⟨w.heap.size, 3, none⟩ (.int .i64 hd.1)).setCell ⟨w.heap.size, 4, none⟩ (.int .i64 (spanF (atL (trueL l) (fl + 1) N) hd.1 P))).setCell ⟨w.heap.size, 5, none⟩ (.slice (some ⟨gA, 0, none⟩) N N) = W7 at hX hT ⊢
          obtain ⟨x0, x1, x2, x3, x4, x5⟩ := six_cells hX
          refine bodyPost_ret (v := .tuple #[stA (ep + 1) (fl + 1 + 1) (fl + 1) hd.1 (spanF (atL (trueL l) (fl + 1) N) hd.1 P) (.slice (some ⟨gA, 0, none⟩) N N), .int .i64 0]) (by simp [results, Tryz.results32, go_sem, x0, x1, x2, x3, x4, x5]) rfl ⟨⟨fl + 1, HSQ.out, .inr ⟨by rw [← HEF.out.1]; exact HBAD.out, gA, ?_, by have := HGA2.out; omega, hT.at HRW5.out (by have := HGA2.out; omega)⟩⟩, (HT5.out.trans hT (fun j hj hlt => by omega)).below⟩
          rw [← HEF.out.1, HHQ.out]
      | false =>
        have HSQ := Lib.hid (show SeqOf l fl from .inl ⟨HEF.out.2, by rw [← HEF.out.2]; exact fun h => absurd (hbw.2 h) (by simp)⟩)
        clear hbw
        by_cases hbad : ep = 4294967295 ∨ fl = 281474976710655
        · have HBAD := Lib.hid hbad
          have hd1 : (((ep : Int) == 4294967295) = true) ∨ (((ep : Int) == 4294967295) = false ∧ (((fl : Int) == 281474976710655) = true)) := by
            rcases hbad with h | h
            · exact .inl (by rw [h]; rfl)
            · by_cases h2 : ep = 4294967295
              · exact .inl (by rw [h2]; rfl)
              · exact .inr ⟨by simp; omega, by simp; omega⟩
          clear hbad
          rcases hd1 with h1 | ⟨h1, h2⟩
          · go_wp2
            have hX := six_at HR2.out (.int .u32 0) (.int .u64 0) (.int .u64 0) (.int .i64 0) (.int .i64 0) (.slice none 0 0)
            have hT := six_touch w2 w.heap.size (.int .u32 0) (.int .u64 0) (.int .u64 0) (.int .i64 0) (.int .i64 0) (.slice none 0 0)
            unfold six at hX hT
            generalize (((((w2.setCell ⟨w.heap.size, 0, none⟩ (.int .u32 0)).setCell ⟨w.heap.size, 1, none⟩ (.int .u64 0)).setCell ⟨w.heap.size, 2, none⟩ (.int .u64 0)).setCell ⟨w.heap.size, 3, none⟩ (.int .i64 0)).setCell ⟨w.heap.size, 4, none⟩ (.int .i64 0)).setCell ⟨w.heap.size, 5, none⟩ (.slice none 0 0) = W7 at hX hT ⊢
            obtain ⟨x0, x1, x2, x3, x4, x5⟩ := six_cells hX
            exact bodyPost_ret (v := .tuple #[stZ, .int .i64 12]) (by simp [results, Tryz.results32, go_sem, x0, x1, x2, x3, x4, x5]) rfl ⟨⟨_, HSQ.out, .inl ⟨by rw [← HEF.out.1]; exact HBAD.out, rfl⟩⟩, (HT2.out.trans hT (fun j hj hlt => by omega)).below⟩
          · go_wp2
            have hX := six_at HR2.out (.int .u32 0) (.int .u64 0) (.int .u64 0) (.int .i64 0) (.int .i64 0) (.slice none 0 0)
            have hT := six_touch w2 w.heap.size (.int .u32 0) (.int .u64 0) (.int .u64 0) (.int .i64 0) (.int .i64 0) (.slice none 0 0)
            unfold six at hX hT
            generalize (((((w2.setCell ⟨w.heap.size, 0, none⟩ (.int .u32 0)).setCell ⟨w.heap.size, 1, none⟩ (.int .u64 0)).setCell ⟨w.heap.size, 2, none⟩ (.int .u64 0)).setCell ⟨w.heap.size, 3, none⟩ (.int .i64 0)).setCell ⟨w.heap.size, 4, none⟩ (.int .i64 0)).setCell ⟨w.heap.size, 5, none⟩ (.slice none 0 0) = W7 at hX hT ⊢
            obtain ⟨x0, x1, x2, x3, x4, x5⟩ := six_cells hX
            exact bodyPost_ret (v := .tuple #[stZ, .int .i64 12]) (by simp [results, Tryz.results32, go_sem, x0, x1, x2, x3, x4, x5]) rfl ⟨⟨_, HSQ.out, .inl ⟨by rw [← HEF.out.1]; exact HBAD.out, rfl⟩⟩, (HT2.out.trans hT (fun j hj hlt => by omega)).below⟩
        · have hg1 : ((ep : Int) == 4294967295) = false := by simp; omega
          have hg2 : ((fl : Int) == 281474976710655) = false := by simp; omega
          have hep1 : (ep : Int) + 1 ≤ 4294967295 := by omega
          have hep0 : (0 : Int) ≤ (ep : Int) := Int.natCast_nonneg _
          have hsq1 : (fl : Int) + 1 ≤ 281474976710655 := by omega
          have HBAD := Lib.hid hbad
          have RN1 := Lib.hid (Rg.new_e (P : Int) P w2 (by omega))
          clear hbad r0 r1 r2 r3 r4 r5 e0 e1 e2 e3 e4 e5
          go_wp2_with fail
          refine RN1.out.mono ?_
          rintro e w3 ⟨⟨R, gr, rfl, hring, -⟩, hb3⟩
          have F3 := HF2.out.below hb3
          have NW := newest_ok F3 (by omega) (right_true HR.out) (fl) N (fun x hx => HN.out x (List.mem_filter.1 hx).1) (by omega)
          rw [show ((fl : Nat) : Int) = (fl : Int) by simp] at NW
          have NW := Lib.hid NW
          have HF3 := Lib.hid F3
          have HRG := Lib.hid hring
          have HB3 := Lib.hid hb3
          clear F3 hring hb3
          go_wp2_with fail
          refine NW.out.mono ?_
          rintro e w4 ⟨⟨gA, rfl, hgA, hrow⟩, hb4⟩
          have BH := behind_ok (HF3.out.below hb4) (by omega) (right_true HR.out) (fl) (HRG.out.below hb4) hP hP2
          rw [show ((fl : Nat) : Int) = (fl : Int) by simp] at BH
          have BH := Lib.hid BH
          have HRW := Lib.hid hrow
          have HB4 := Lib.hid hb4
          have HGA := Lib.hid hgA
          clear hrow hb4 hgA
          go_wp2_with fail
          refine BH.out.mono ?_
          rintro e w5 ⟨rfl, hb5⟩
          have hrow5 := (hb5.block _ (lt_of_heap HRW.out)).trans HRW.out
          have SP := Lib.hid (span_ok (nv_at hrow5) (by simp [atL]; omega) (fun p hp => by
            obtain ⟨id, -, rfl⟩ := List.mem_map.1 hp
            exact best_in _ _ _ P fun x hx => HP.out x (List.mem_filter.1 hx).1) (headF (trueL l) (fl) P).1 (head_in _ _ _ hP) ((HRG.out.below HB4.out).below hb5) hP hP2)
          have hhd := head_in (trueL l) (fl) P hP
          generalize hhq : headF (trueL l) (fl) P = hd at SP hhd
          have HHQ := Lib.hid hhq
          clear hhq
          have hsp := span_in (atL (trueL l) (fl) N) hd.1 P hP
          have T5 : Touch Emp w2 w5 := ((Touch.of_below HB3.out).trans (Touch.of_below (F := Emp) HB4.out) (fun _ h _ => h)).trans (Touch.of_below (F := Emp) hb5) (fun _ h _ => h)
          have R5 := T5.at HR2.out id
          have HR5 := Lib.hid R5
          have HT5 := Lib.hid (HT2.out.trans T5 fun _ h _ => h)
          have HRW5 := Lib.hid hrow5
          have HHD := Lib.hid hhd
          have hr : ∀ i, w5.cell? ⟨w.heap.size, i, none⟩ = (zeroS)[i]? := fun i => cell_of_row _ _ i _ _ _ R5
          have hf : ∀ i, w5.frozen? ⟨w.heap.size, i, none⟩ = false := fun i => frozen_of_row _ _ i _ _ R5
          have r0 := hr 0
          have r1 := hr 1
          have r2 := hr 2
          have r3 := hr 3
          have r4 := hr 4
          have r5 := hr 5
          have e0 := hf 0
          have e1 := hf 1
          have e2 := hf 2
          have e3 := hf 3
          have e4 := hf 4
          have e5 := hf 5
          simp only [zeroS, List.getElem?_toArray, List.getElem?_cons_succ, List.getElem?_cons_zero] at r0 r1 r2 r3 r4 r5
          have hgA : w.heap.size + 1 ≤ gA := by
            have h1 := HGA.out
            have h2 := lt_of_heap HR2.out
            have h3 := HB3.out.size
            omega
          have HGA2 := Lib.hid hgA
          clear hr hf T5 R5 hrow5 hb5 hhd hgA
          go_wp2_with fail
          refine SP.out.mono ?_
          rintro e w6 ⟨rfl, rfl⟩
          have HSPD := Lib.hid hsp
          clear hsp
          go_wp2
          have hX := six_at HR5.out (.int .u32 ((ep : Int) + 1)) (.int .u64 ((fl : Int) + 1)) (.int .u64 ((fl : Int))) (.int .i64 hd.1) (.int .i64 (spanF (atL (trueL l) (fl) N) hd.1 P)) (.slice (some ⟨gA, 0, none⟩) N N)
          have hT := six_touch w5 w.heap.size (.int .u32 ((ep : Int) + 1)) (.int .u64 ((fl : Int) + 1)) (.int .u64 ((fl : Int))) (.int .i64 hd.1) (.int .i64 (spanF (atL (trueL l) (fl) N) hd.1 P)) (.slice (some ⟨gA, 0, none⟩) N N)
          unfold six at hX hT
          generalize (((((w5.setCell ⟨w.heap.size, 0, none⟩ (.int .u32 ((ep : Int) + 1))).setCell ⟨w.heap.size, 1, none⟩ (.int .u64 ((fl : Int) + 1))).setCell ⟨w.heap.size, 2, none⟩ (.int .u64 ((fl : Int)))).setCell ⟨w.heap.size, 3, none⟩ (.int .i64 hd.1)).setCell ⟨w.heap.size, 4, none⟩ (.int .i64 (spanF (atL (trueL l) (fl) N) hd.1 P))).setCell ⟨w.heap.size, 5, none⟩ (.slice (some ⟨gA, 0, none⟩) N N) = W7 at hX hT ⊢
          obtain ⟨x0, x1, x2, x3, x4, x5⟩ := six_cells hX
          refine bodyPost_ret (v := .tuple #[stA (ep + 1) (fl + 1) (fl) hd.1 (spanF (atL (trueL l) (fl) N) hd.1 P) (.slice (some ⟨gA, 0, none⟩) N N), .int .i64 0]) (by simp [results, Tryz.results32, go_sem, x0, x1, x2, x3, x4, x5]) rfl ⟨⟨fl, HSQ.out, .inr ⟨by rw [← HEF.out.1]; exact HBAD.out, gA, ?_, by have := HGA2.out; omega, hT.at HRW5.out (by have := HGA2.out; omega)⟩⟩, (HT5.out.trans hT (fun j hj hlt => by omega)).below⟩
          rw [← HEF.out.1, HHQ.out]
end Rp
end Go.Proofs.YthapggobpfcmjaaGreat

set_option maxRecDepth 100000
namespace Go.Proofs.YthapggobpfcmjaaGreat
namespace Rp
open Go.RowKit

set_option maxHeartbeats 400000 in
theorem sectors_ok {F : Nat → Prop} {w : World} {b : Nat} {s : DSt} (h : Dev w F b s) :
    Calls Tryz.prog 19 #[.pointer (some ⟨b, 0, none⟩)] w fun e w' => e = .returned (.int .i64 s.secs.length) ∧ w = w' := by
  obtain ⟨gs, S, wv, W, bm, es, clk, kv, h⟩ := h
  have d0 := h.cell 0
  simp only [devC, List.getElem?_toArray, List.getElem?_cons_succ, List.getElem?_cons_zero] at d0
  clear h
  go_enter Tryz.func19, Tryz.ntmps19
  go_wp2
  go_ret
  exact ⟨rfl, rfl⟩

set_option maxHeartbeats 4000000 in
/-- A device that is down tells nothing. -/
theorem tags_down {w : World} {F : Nat → Prop} {b : Nat} {s : DSt} (h : DvF w F b s) (hd : s.err = 2) (hsz : s.Fit) (P N : Nat) (hP : P + 1 ≤ s.secs.length) (hP1 : 1 ≤ P) (hP2 : P ≤ 1048576) :
    Calls Tryz.prog 31 #[.pointer (some ⟨b, 0, none⟩), .int .i64 (P : Int), .int .i64 (N : Int)] w fun e w' =>
      e = .returned (.tuple #[.slice none 0 0, .int .i64 2]) ∧ Touch F w w' ∧ DvF w' F b s.begin_ := by
  have hb : ¬ ¬ (0 ≤ ((0 + 1 : Nat) : Int) ∧ ((0 + 1 : Nat) : Int) < s.secs.length) := by simp; omega
  have RD := read_any h.dev hsz h.lt ((0 + 1 : Nat) : Int)
  rw [show s.readR ((0 + 1 : Nat) : Int) = (2, []) by unfold DSt.readR; rw [if_neg hb, if_neg (by rw [hd]; decide), hd], show s.read ((0 + 1 : Nat) : Int) = s.begin_ by unfold DSt.read; rw [if_neg hb, if_neg (by rw [hd]; decide)]] at RD
  have RD := Lib.hid RD
  have SC := Lib.hid (sector_ok 0 (by omega) w)
  have H := Lib.hid h
  have hP0 : (0 : Int) < (P : Int) := by omega
  clear h hd hb hsz
  go_enter Tryz.func31, Tryz.ntmps31
  go_wp2
  go_loopw [15, 8] (fun i o wr => i = .int .i64 0 ∧ w = wr) (fun _ _ _ => 0)
  case atStart => exact ⟨rfl, rfl⟩
  case round =>
    obtain ⟨rfl, rfl⟩ := hrel
    go_wp2_with fail
    refine SC.out.mono ?_
    rintro e w1 ⟨rfl, rfl⟩
    go_wp2_with fail
    refine RD.out.mono ?_
    rintro e w2 ⟨v, rfl, ht, hdv, hv⟩
    have HD := Lib.hid (And.intro ht hdv)
    clear ht hdv hv
    go_wp2_with fail
    go_ret2
    exact ⟨rfl, HD.out.1, HD.out.2, fun k hk => Nat.lt_of_lt_of_le (H.out.lt k hk) HD.out.1.size⟩

def GoodPN (s : DSt) (P N : Int) : Prop := 1 ≤ P ∧ P ≤ (s.secs.length : Int) - 1 ∧ 1 ≤ N ∧ N ≤ 3840

set_option maxHeartbeats 8000000 in
/-- Places, or blocks, that there are not. -/
theorem scan_bad {w : World} {F : Nat → Prop} {b : Nat} {s : DSt} (h : Dev w F b s) (P N : Int) (hb : ¬ GoodPN s P N) (hs : s.secs.length ≤ 1048576) :
    Calls Tryz.prog 10 #[.pointer (some ⟨b, 0, none⟩), .int .i64 P, .int .i64 N] w fun e w' => e = .returned (.tuple #[stZ, .int .i64 1]) ∧ Below w.heap.size w w' := by
  have SE := Lib.hid (fun o => sectors_ok (h.touch ((Touch.refl Emp w).alloc o) (fun _ _ => id)))
  have hs1 : (s.secs.length : Int) ≤ 1048576 := by omega
  have hs0 : (0 : Int) ≤ (s.secs.length : Int) := Int.natCast_nonneg _
  have HB := Lib.hid hb
  clear h hb
  by_cases h1 : P < 1
  · go_enter Tryz.func10, Tryz.ntmps10
    go_wp2_with fail
    exact bodyPost_ret (v := .tuple #[stZ, .int .i64 1]) (by simp [results, Tryz.results10, go_sem]) rfl ⟨rfl, (Below.refl _ w).alloc (Nat.le_refl _) _⟩
  · by_cases h2 : P > (s.secs.length : Int) - 1
    · go_enter Tryz.func10, Tryz.ntmps10
      go_wp2_with fail
      refine (SE.out _).mono ?_
      rintro e w1 ⟨rfl, rfl⟩
      go_wp2_with fail
      exact bodyPost_ret (v := .tuple #[stZ, .int .i64 1]) (by simp [results, Tryz.results10, go_sem]) rfl ⟨rfl, (Below.refl _ w).alloc (Nat.le_refl _) _⟩
    · by_cases h3 : N < 1
      · go_enter Tryz.func10, Tryz.ntmps10
        go_wp2_with fail
        refine (SE.out _).mono ?_
        rintro e w1 ⟨rfl, rfl⟩
        go_wp2_with fail
        exact bodyPost_ret (v := .tuple #[stZ, .int .i64 1]) (by simp [results, Tryz.results10, go_sem]) rfl ⟨rfl, (Below.refl _ w).alloc (Nat.le_refl _) _⟩
      · have h4 : N > 3840 := Classical.byContradiction fun h => HB.out ⟨by omega, by omega, by omega, by omega⟩
        go_enter Tryz.func10, Tryz.ntmps10
        go_wp2_with fail
        refine (SE.out _).mono ?_
        rintro e w1 ⟨rfl, rfl⟩
        go_wp2_with fail
        exact bodyPost_ret (v := .tuple #[stZ, .int .i64 1]) (by simp [results, Tryz.results10, go_sem]) rfl ⟨rfl, (Below.refl _ w).alloc (Nat.le_refl _) _⟩

set_option maxHeartbeats 8000000 in
theorem scan_down {w : World} {F : Nat → Prop} {b : Nat} {s : DSt} (h : DvF w F b s) (hd : s.err = 2) (hsz : s.Fit) (P N : Nat) (hb : GoodPN s P N) (hs : s.secs.length ≤ 1048576) :
    Calls Tryz.prog 10 #[.pointer (some ⟨b, 0, none⟩), .int .i64 (P : Int), .int .i64 (N : Int)] w fun e w' => e = .returned (.tuple #[stZ, .int .i64 2]) ∧ Touch F w w' ∧ DvF w' F b s.begin_ := by
  obtain ⟨p1, p2, p3, p4⟩ := hb
  have hA : ∀ o, DvF (w.alloc o) F b s := fun o => h.touch ((Touch.refl Emp w).alloc o) (fun _ _ => id)
  have SE := Lib.hid (fun o => sectors_ok (hA o).dev)
  have TA := Lib.hid (fun o => tags_down (hA o) hd hsz P N (by omega) (by omega) (by omega))
  have H := Lib.hid h
  have hs1 : (s.secs.length : Int) ≤ 1048576 := by omega
  have hs0 : (0 : Int) ≤ (s.secs.length : Int) := Int.natCast_nonneg _
  have q1 : ¬ (P : Int) < 1 := by omega
  have q2 : ¬ (P : Int) > (s.secs.length : Int) - 1 := by omega
  have q3 : ¬ (N : Int) < 1 := by omega
  have q4 : ¬ (N : Int) > 3840 := by omega
  clear h hd hsz hA p1 p2 p3 p4
  go_enter Tryz.func10, Tryz.ntmps10
  go_wp2_with fail
  refine (SE.out _).mono ?_
  rintro e w1 ⟨rfl, rfl⟩
  go_wp2_with fail
  refine (TA.out _).mono ?_
  rintro e w2 ⟨rfl, ht, hd⟩
  have R2 : w2.heap[w.heap.size]? = some (.cells zeroS 35 (0, 0)) := ht.at (heap_alloc_new w _) fun h => by have := H.out.lt _ h; omega
  have hr : ∀ i, w2.cell? ⟨w.heap.size, i, none⟩ = (zeroS)[i]? := fun i => cell_of_row _ _ i _ _ _ R2
  have hf : ∀ i, w2.frozen? ⟨w.heap.size, i, none⟩ = false := fun i => frozen_of_row _ _ i _ _ R2
  have r0 := hr 0
  have r1 := hr 1
  have r2 := hr 2
  have r3 := hr 3
  have r4 := hr 4
  have r5 := hr 5
  have e0 := hf 0
  have e1 := hf 1
  have e2 := hf 2
  have e3 := hf 3
  have e4 := hf 4
  have e5 := hf 5
  simp only [zeroS, List.getElem?_toArray, List.getElem?_cons_succ, List.getElem?_cons_zero] at r0 r1 r2 r3 r4 r5
  have HH := Lib.hid (And.intro ht (And.intro hd R2))
  clear hr hf ht hd R2
  go_wp2
  obtain ⟨ht, hd, R2⟩ := HH.out
  have hX := six_at R2 (.int .u32 0) (.int .u64 0) (.int .u64 0) (.int .i64 0) (.int .i64 0) (.slice none 0 0)
  have hT := six_touch w2 w.heap.size (.int .u32 0) (.int .u64 0) (.int .u64 0) (.int .i64 0) (.int .i64 0) (.slice none 0 0)
  unfold six at hX hT
  generalize (((((w2.setCell ⟨w.heap.size, 0, none⟩ (.int .u32 0)).setCell ⟨w.heap.size, 1, none⟩ (.int .u64 0)).setCell ⟨w.heap.size, 2, none⟩ (.int .u64 0)).setCell ⟨w.heap.size, 3, none⟩ (.int .i64 0)).setCell ⟨w.heap.size, 4, none⟩ (.int .i64 0)).setCell ⟨w.heap.size, 5, none⟩ (.slice none 0 0) = W7 at hX hT ⊢
  obtain ⟨x0, x1, x2, x3, x4, x5⟩ := six_cells hX
  exact bodyPost_ret (v := .tuple #[stZ, .int .i64 2]) (by simp [results, Tryz.results10, go_sem, x0, x1, x2, x3, x4, x5]) rfl ⟨rfl, ((((Touch.refl F w).alloc _).trans ht (fun _ h _ => h)).trans hT (fun j hj hlt => by omega)), hd.touch hT fun j hj e => by have := H.out.lt j hj; omega⟩

set_option maxHeartbeats 16000000 in
/-- Scan of a device that is up. -/
theorem scan_ok {M : Nat} (hS : SortsU M) {w : World} {F : Nat → Prop} {b : Nat} {s : DSt} (h : DvF w F b s) (hu : s.Up) (P N : Nat) (hb : GoodPN s P N) (hs : s.secs.length ≤ 1048576) (hf : (moreR s P).Fit) (hM : (startsA (foundL s N P)).length ≤ M) :
    Calls Tryz.prog 10 #[.pointer (some ⟨b, 0, none⟩), .int .i64 (P : Int), .int .i64 (N : Int)] w fun e w' => Told w w' e (foundL s N P) P N ∧ Touch F w w' ∧ DvF w' F b (moreR s P) := by
  obtain ⟨p1, p2, p3, p4⟩ := hb
  have hA : ∀ o, DvF (w.alloc o) F b s := fun o => h.touch ((Touch.refl Emp w).alloc o) (fun _ _ => id)
  have SE := Lib.hid (fun o => sectors_ok (hA o).dev)
  have TA := Lib.hid (fun o => tags_ok (hA o) hu P N (by omega) (by omega) (by omega) hf)
  have HS := Lib.hid hS
  have HM := Lib.hid hM
  have H := Lib.hid h
  have hs1 : (s.secs.length : Int) ≤ 1048576 := by omega
  have hs0 : (0 : Int) ≤ (s.secs.length : Int) := Int.natCast_nonneg _
  have q1 : ¬ (P : Int) < 1 := by omega
  have q2 : ¬ (P : Int) > (s.secs.length : Int) - 1 := by omega
  have q3 : ¬ (N : Int) < 1 := by omega
  have q4 : ¬ (N : Int) > 3840 := by omega
  have Q := Lib.hid (show 1 ≤ P ∧ P ≤ 1048576 ∧ 1 ≤ N ∧ N ≤ 3840 from ⟨by omega, by omega, by omega, by omega⟩)
  clear h hu hA p1 p2 p3 p4 hf hM hS
  go_enter Tryz.func10, Tryz.ntmps10
  go_wp2_with fail
  refine (SE.out _).mono ?_
  rintro e w1 ⟨rfl, rfl⟩
  go_wp2_with fail
  refine (TA.out _).mono ?_
  rintro e w2 ⟨⟨o, rfl, how⟩, ht, hd⟩
  obtain ⟨gt, hfv, hgt⟩ := FV.own how
  obtain ⟨oa, oc, rfl, -, -, -⟩ := hfv.form
  obtain ⟨f1, f2, f3, f4⟩ := foundL_right s N P
  have hfl := foundL_len s N P
  have SK := Lib.hid (state_ok HS.out hfv (by have := Q.out; omega) f1 f2 HM.out P N f3 f4 Q.out.1 Q.out.2.1 Q.out.2.2.1 Q.out.2.2.2)
  have R2 : w2.heap[w.heap.size]? = some (.cells zeroS 35 (0, 0)) := ht.at (heap_alloc_new w _) fun h => by have := H.out.lt _ h; omega
  have HH := Lib.hid (And.intro ht (And.intro hd R2))
  clear ht hd R2 how hfv hgt f1 f2 f3 f4
  go_wp2_with fail
  refine SK.out.mono ?_
  rintro e w3 ⟨hto, hb3⟩
  have R3 := (Touch.of_below (F := Emp) hb3).at HH.out.2.2 id
  have T3 : Touch F w w3 := (((Touch.refl F w).alloc _).trans HH.out.1 (fun _ h _ => h)).trans (Touch.of_below (F := Emp) hb3) (fun _ h _ => h.elim)
  have D3 : DvF w3 F b (moreR s P) := HH.out.2.1.below hb3
  have hsz : w.heap.size + 1 ≤ w2.heap.size := lt_of_heap HH.out.2.2
  have H3 := Lib.hid (And.intro R3 (And.intro T3 (And.intro D3 hsz)))
  have hr : ∀ i, w3.cell? ⟨w.heap.size, i, none⟩ = (zeroS)[i]? := fun i => cell_of_row _ _ i _ _ _ R3
  have hf : ∀ i, w3.frozen? ⟨w.heap.size, i, none⟩ = false := fun i => frozen_of_row _ _ i _ _ R3
  have r0 := hr 0
  have r1 := hr 1
  have r2 := hr 2
  have r3 := hr 3
  have r4 := hr 4
  have r5 := hr 5
  have e0 := hf 0
  have e1 := hf 1
  have e2 := hf 2
  have e3 := hf 3
  have e4 := hf 4
  have e5 := hf 5
  simp only [zeroS, List.getElem?_toArray, List.getElem?_cons_succ, List.getElem?_cons_zero] at r0 r1 r2 r3 r4 r5
  clear hr hf R3 T3 D3 hsz hb3 hfl
  obtain ⟨seq, hsq, ⟨hbad, rfl⟩ | ⟨hok, g, rfl, hg, hrow⟩⟩ := hto
  · have HQ := Lib.hid (And.intro hsq hbad)
    clear hsq hbad
    go_wp2
    obtain ⟨R3, T3, D3, hsz⟩ := H3.out
    have hX := six_at R3 (.int .u32 0) (.int .u64 0) (.int .u64 0) (.int .i64 0) (.int .i64 0) (.slice none 0 0)
    have hT := six_touch w3 w.heap.size (.int .u32 0) (.int .u64 0) (.int .u64 0) (.int .i64 0) (.int .i64 0) (.slice none 0 0)
    unfold six at hX hT
    generalize (((((w3.setCell ⟨w.heap.size, 0, none⟩ (.int .u32 0)).setCell ⟨w.heap.size, 1, none⟩ (.int .u64 0)).setCell ⟨w.heap.size, 2, none⟩ (.int .u64 0)).setCell ⟨w.heap.size, 3, none⟩ (.int .i64 0)).setCell ⟨w.heap.size, 4, none⟩ (.int .i64 0)).setCell ⟨w.heap.size, 5, none⟩ (.slice none 0 0) = W7 at hX hT ⊢
    obtain ⟨x0, x1, x2, x3, x4, x5⟩ := six_cells hX
    exact bodyPost_ret (v := .tuple #[stZ, .int .i64 12]) (by simp [results, Tryz.results10, go_sem, x0, x1, x2, x3, x4, x5]) rfl ⟨⟨seq, HQ.out.1, .inl ⟨HQ.out.2, rfl⟩⟩, T3.trans hT (fun j hj hlt => by omega), D3.touch hT fun j hj e => by have := H.out.lt j hj; omega⟩
  · have HQ := Lib.hid (And.intro hsq (And.intro hok (And.intro hg hrow)))
    clear hsq hok hg hrow
    generalize hhd : headF (trueL (foundL s N P)) seq P = hd at *
    generalize hsp : spanF (atL (trueL (foundL s N P)) seq N) hd.1 P = sp at *
    generalize hep : epochM (foundL s N P) + 1 = ep at *
    have HX := Lib.hid (And.intro hhd (And.intro hsp hep))
    clear hhd hsp hep
    go_wp2
    obtain ⟨R3, T3, D3, hsz⟩ := H3.out
    have hX := six_at R3 (.int .u32 (ep : Int)) (.int .u64 ((seq : Int) + 1)) (.int .u64 (seq : Int)) (.int .i64 hd.1) (.int .i64 sp) (.slice (some ⟨g, 0, none⟩) N N)
    have hT := six_touch w3 w.heap.size (.int .u32 (ep : Int)) (.int .u64 ((seq : Int) + 1)) (.int .u64 (seq : Int)) (.int .i64 hd.1) (.int .i64 sp) (.slice (some ⟨g, 0, none⟩) N N)
    unfold six at hX hT
    generalize (((((w3.setCell ⟨w.heap.size, 0, none⟩ (.int .u32 (ep : Int))).setCell ⟨w.heap.size, 1, none⟩ (.int .u64 ((seq : Int) + 1))).setCell ⟨w.heap.size, 2, none⟩ (.int .u64 (seq : Int))).setCell ⟨w.heap.size, 3, none⟩ (.int .i64 hd.1)).setCell ⟨w.heap.size, 4, none⟩ (.int .i64 sp)).setCell ⟨w.heap.size, 5, none⟩ (.slice (some ⟨g, 0, none⟩) N N) = W7 at hX hT ⊢
    obtain ⟨x0, x1, x2, x3, x4, x5⟩ := six_cells hX
    have hgl := HQ.out.2.2.1
    refine bodyPost_ret (v := .tuple #[stA ep (seq + 1) seq hd.1 sp (.slice (some ⟨g, 0, none⟩) N N), .int .i64 0]) (by simp [results, Tryz.results10, go_sem, x0, x1, x2, x3, x4, x5]) rfl ⟨⟨seq, HQ.out.1, .inr ⟨HQ.out.2.1, g, ?_, by omega, hT.at HQ.out.2.2.2 (by omega)⟩⟩, T3.trans hT (fun j hj hlt => by omega), D3.touch hT fun j hj e => by have := H.out.lt j hj; omega⟩
    rw [HX.out.1, HX.out.2.1, HX.out.2.2]
end Rp
end Go.Proofs.YthapggobpfcmjaaGreat

set_option maxRecDepth 100000
namespace Go.Proofs.YthapggobpfcmjaaGreat
namespace Rp
open Go.RowKit

theorem zeros_dec : Tg.decB (zerosL 512) = false := by decide +kernel
theorem new_look (n a : Nat) (h : a < n) : (DSt.new n).look a = (0, zerosL 512) := by
  unfold DSt.look
  rw [show (DSt.new n).waits = [] from rfl, lastW_nil]
  simp [DSt.new, h]
theorem found_new (n N P : Nat) (h : P + 1 ≤ n) : foundL (DSt.new n) N P = [] := by
  unfold foundL
  rw [List.filterMap_eq_nil_iff]
  intro p hp
  have hp' : p < P := by simpa using hp
  unfold foundAt
  rw [new_look n (p + 1) (by omega), zeros_dec]
  simp
theorem found_more (s : DSt) (k N P : Nat) : foundL (moreR s k) N P = foundL s N P := rfl
theorem spanF_none (n : Nat) (h : Int) (P : Nat) : spanF (List.replicate n (-1)) h P = 0 := by
  unfold spanF
  induction n with
  | zero => rfl
  | succ n ih => rw [List.replicate_succ, List.foldl_cons]; simpa using ih
/-- Of a device that has nothing. -/
theorem told_none {w w' : World} {e : Ending} {P N : Nat} (h : Told w w' e [] P N) : ∃ g, e = .returned (.tuple #[stA 1 1 0 0 0 (.slice (some ⟨g, 0, none⟩) N N), .int .i64 0]) ∧ w.heap.size ≤ g ∧ w'.heap[g]? = some (.cells (rowF N fun _ => .int .i64 (-1)) 3 (0, 0)) := by
  obtain ⟨seq, hs, h⟩ := h
  have hw : ¬ Whole (trueL []) (floorM [] + 1) := by rintro ⟨x, hx, -⟩; exact absurd hx (by simp [trueL, batL])
  have hseq : seq = 0 := by
    rcases hs with ⟨h, -⟩ | ⟨-, h⟩
    · exact h
    · exact absurd h hw
  subst hseq
  rcases h with ⟨h, -⟩ | ⟨-, g, he, hg, hrow⟩
  · exact absurd h (by decide)
  · have hat : atL (trueL []) 0 N = List.replicate N (-1) := by
      unfold atL
      refine List.ext_getElem (by simp) fun i h1 h2 => ?_
      simp [trueL, bestF]
    rw [hat, show headF (trueL []) 0 P = (0, -1) from rfl, spanF_none] at he
    exact ⟨g, he, hg, hrow⟩
def tagS : Tg.T := ⟨3, 2, 5, 4, 0, 1, 2⟩
theorem told_one {w w' : World} {e : Ending} (h : Told w w' e [(tagS, 6)] 10 4) : ∃ g, e = .returned (.tuple #[stA 4 6 5 7 1 (.slice (some ⟨g, 0, none⟩) 4 4), .int .i64 0]) ∧ w.heap.size ≤ g ∧ w'.cell? ⟨g, 2, none⟩ = some (.int .i64 6) ∧ g < w'.heap.size := by
  obtain ⟨seq, hs, h⟩ := h
  have ht : trueL [(tagS, 6)] = [(tagS, 6)] := by decide
  have hw : Whole (trueL [(tagS, 6)]) (floorM [(tagS, 6)] + 1) := by
    rw [ht]
    refine ⟨(tagS, 6), by simp [batL, tagS, floorM], fun y hy => ?_, fun k hk => ⟨(tagS, 6), by simp [batL, tagS, floorM], ?_⟩⟩
    · have := (List.mem_filter.1 hy).1; simp at this; rw [this]
    · simp [tagS] at hk ⊢; omega
  have hseq : seq = 5 := by
    rcases hs with ⟨-, h⟩ | ⟨h, -⟩
    · exact absurd hw h
    · exact h
  subst hseq
  rcases h with ⟨h, -⟩ | ⟨-, g, he, hg, hrow⟩
  · exact absurd h (by decide)
  · rw [ht] at he hrow
    refine ⟨g, ?_, hg, ?_, lt_of_heap hrow⟩
    · rw [he]
      rfl
    · rw [cell_of_row _ _ _ _ _ _ hrow]; rfl

theorem new_up (n : Nat) : (DSt.new n).Up := ⟨rfl, rfl, List.nodup_nil, fun x hx => by simp [DSt.new] at hx⟩
def secS : List UInt8 := Tg.enc tagS (zerosL 480)
theorem secS_len : secS.length = 512 := by unfold secS; rw [Tg.enc_length, zerosL_length]
theorem found_one (n : Nat) (hn : 11 ≤ n) (k : Nat) : foundL ((moreR (DSt.new n) k).puts [(7, secS)]) 4 10 = [(tagS, 6)] := by
  have hl : ∀ a, a < n → ((moreR (DSt.new n) k).puts [(7, secS)]).look a = if 7 = a then (0, secS) else (0, zerosL 512) := fun a ha => by
    rw [DSt.look_puts, lastW_one]
    by_cases h : 7 = a
    · simp [h]
    · simp only [if_neg h]
      exact new_look n a ha
  have h6 : foundAt ((moreR (DSt.new n) k).puts [(7, secS)]) 4 6 = some (tagS, 6) := by
    unfold foundAt
    rw [hl (6 + 1) (by omega), if_pos rfl]
    have h1 : Tg.decB secS = true := Tg.dec_enc _ _ (by decide) (by decide)
    have h2 : Tg.told secS = tagS := Tg.told_enc _ _ (by decide) (by decide)
    simp only [h1, h2]
    rfl
  have h0 : ∀ p, p < 10 → p ≠ 6 → foundAt ((moreR (DSt.new n) k).puts [(7, secS)]) 4 p = none := fun p hp hne => by
    unfold foundAt
    rw [hl (p + 1) (by omega), if_neg (show ¬ 7 = p + 1 by omega), zeros_dec]
    simp
  unfold foundL
  rw [show List.range 10 = [0, 1, 2, 3, 4, 5, 6, 7, 8, 9] from rfl]
  simp only [List.filterMap_cons, List.filterMap_nil, h6, h0 0 (by decide) (by decide), h0 1 (by decide) (by decide), h0 2 (by decide) (by decide), h0 3 (by decide) (by decide), h0 4 (by decide) (by decide), h0 5 (by decide) (by decide), h0 7 (by decide) (by decide), h0 8 (by decide) (by decide), h0 9 (by decide) (by decide)]

theorem DvF.of_gr {F : Nat → Prop} {w w1 : World} {b : Nat} {s : DSt} (h : Dev w1 (Gr F w w1) b s) (hF : ∀ k, F k → k < w.heap.size) (hs : w.heap.size ≤ w1.heap.size) : DvF w1 (Gr F w w1) b s :=
  ⟨h, fun k hk => hk.elim (fun h => Nat.lt_of_lt_of_le (hF k h) hs) fun h => h.2⟩
/-- A state in a variable: its six cells. -/
def StAt (w : World) (b : Nat) (e s q : Nat) (h u : Int) (v : Value) : Prop := w.heap[b]? = some (.cells #[.int .u32 (e : Int), .int .u64 (s : Int), .int .u64 (q : Int), .int .i64 h, .int .i64 u, v] 35 (0, 0))

theorem bv_zeros (W : World) : BV (W.alloc (.cells (rowA (zerosL 480)) 5)) (.slice (some ⟨W.heap.size, 0, none⟩) 480 480) (zerosL 480) W.heap.size := by
  have hb : ByteRow (W.alloc (.cells (rowA (zerosL 480)) 5)) W.heap.size (zerosL 480) := heap_alloc_new W _
  have hr := hb.reads 480
  rw [zerosL_length] at hr
  exact ⟨hr, ⟨_, 480, by rw [zerosL_length], by rw [zerosL_length]; omega, fun e => by cases e⟩, fun _ => lt_of_heap hb⟩
theorem enc_shown (Z : Array Value) (hZ : rowA (zerosL 480) = Z) (W : World) : Calls Tryz.prog 17 #[.agg #[.int .u32 3, .int .u64 2, .int .u64 5, .int .u64 4, .int .i64 0, .int .i64 1, .int .i64 2], .slice (some ⟨W.heap.size, 0, none⟩) 480 480] (W.alloc (.cells Z 5)) fun e w' =>
    (∃ g cap, e = .returned (.tuple #[.slice (some ⟨g, 0, none⟩) 512 cap, .int .i64 0]) ∧ W.heap.size + 1 ≤ g ∧ BV w' (.slice (some ⟨g, 0, none⟩) 512 cap) secS g) ∧ Below (W.heap.size + 1) (W.alloc (.cells Z 5)) w' := by
  subst hZ
  have h := encode_ok tagS _ (zerosL 480) W.heap.size _ (by decide) (by decide) (bv_zeros W) (zerosL_length 480)
  rw [World.size_alloc] at h
  refine h.mono ?_
  rintro e w' ⟨⟨v', rfl, g, cap, rfl, hc, hg, ho⟩, hb⟩
  have hl : (Tg.enc tagS (zerosL 480)).length = 512 := secS_len
  rw [hl] at hc ⊢
  exact ⟨⟨g, cap, rfl, hg, ho.bv 512 cap hl hc⟩, hb⟩

set_option maxHeartbeats 8000000 in
theorem shown_ok (w : World) : Calls Tryz.prog 5 #[] w fun e w' => e = .returned (.bool true) ∧ Below w.heap.size w w' := by
  have NE := Lib.hid (new_any 11 w (by omega) (by omega))
  have hmk := fun W => run_makeBytes W 480 (by omega) (by omega)
  have hZ : rowA (zerosL 480) = rowA (zerosL (480 : Int).toNat) := rfl
  generalize rowA (zerosL (480 : Int).toNat) = Z at hmk hZ
  have ENC := Lib.hid (enc_shown Z hZ)
  clear hZ
  go_enter Tryz.func5, Tryz.ntmps5
  go_wp2_with fail
  refine NE.out.mono ?_
  rintro e w1 ⟨rfl, ht1, hs1, hd1⟩
  have D1 : DvF w1 (NewF w) (w.heap.size + 2) (DSt.new 11) := ⟨hd1, fun k hk => by have := hk.2; omega⟩
  have SC1 := scan_ok sorts_few D1 (new_up 11) 10 4 ⟨by decide, by simp [DSt.new], by decide, by decide⟩ (by simp [DSt.new]) (by simp [DSt.Fit, moreR, DSt.new]) (by rw [found_new 11 4 10 (by omega)]; exact Nat.zero_le _)
  rw [found_new 11 4 10 (by omega)] at SC1
  have SC1 := Lib.hid SC1
  have H1 := Lib.hid (And.intro ht1 hs1)
  clear ht1 hs1 hd1 D1
  go_wp2_with fail
  refine SC1.out.mono ?_
  rintro e w2 ⟨hto, ht2, hd2⟩
  obtain ⟨g1, rfl, hg1, hrow1⟩ := told_none hto
  have H2 := Lib.hid (And.intro ht2 (And.intro hd2 (And.intro hg1 hrow1)))
  have ENC2 := ENC.out (w2.alloc (.cells #[.int .u32 1, .int .u64 1, .int .u64 0, .int .i64 0, .int .i64 0, .slice (some ⟨g1, 0, none⟩) 4 4] 35))
  rw [World.size_alloc] at ENC2
  have ENC2 := Lib.hid ENC2
  clear hto ht2 hd2 hg1 hrow1 ENC
  go_wp2_with fail
  refine ENC2.out.mono ?_
  rintro e w4 ⟨⟨gs, caps, rfl, hgs, hbv⟩, hb4⟩
  have q2 : w2.heap.size + 1 < w4.heap.size := by have := hb4.size; simp at this; omega
  have hb4' : Below ((w2.alloc (.cells #[.int .u32 1, .int .u64 1, .int .u64 0, .int .i64 0, .int .i64 0, .slice (some ⟨g1, 0, none⟩) 4 4] 35)).alloc (.cells Z 5)).heap.size ((w2.alloc (.cells #[.int .u32 1, .int .u64 1, .int .u64 0, .int .i64 0, .int .i64 0, .slice (some ⟨g1, 0, none⟩) 4 4] 35)).alloc (.cells Z 5)) w4 := by rw [World.size_alloc, World.size_alloc]; exact hb4
  have t24 : Touch Emp w2 w4 := (((Touch.refl Emp w2).alloc (.cells #[.int .u32 1, .int .u64 1, .int .u64 0, .int .i64 0, .int .i64 0, .slice (some ⟨g1, 0, none⟩) 4 4] 35)).alloc (.cells Z 5)).trans (Touch.of_below hb4') (fun _ h _ => h)
  have s24 : StAt w4 w2.heap.size 1 1 0 0 0 (.slice (some ⟨g1, 0, none⟩) 4 4) := by
    have h0 := heap_alloc_new w2 (.cells #[.int .u32 1, .int .u64 1, .int .u64 0, .int .i64 0, .int .i64 0, .slice (some ⟨g1, 0, none⟩) 4 4] 35)
    exact (hb4.block _ (by omega)).trans ((Below.heap_alloc _ _ _ (by simp)).trans h0)
  obtain ⟨ht2, hd2, hg1, hrow1⟩ := H2.out
  have d4 : DvF w4 (NewF w) (w.heap.size + 2) (moreR (DSt.new 11) 10) := hd2.touch t24 (fun _ _ => id)
  have hup := moreR_up (new_up 11) 10
  have hwr := hup.write (at_ := 7) (l := secS) (by simp [moreR, DSt.new]) secS_len
  have gsF : ¬ NewF w gs := fun h => by
    have h1 := H1.out.2
    have h2 := ht2.size
    have h3 := h.2
    omega
  have WR := write_any d4.dev (by simp [DSt.Fit, moreR, DSt.new]) 7 (.slice (some ⟨gs, 0, none⟩) 512 caps) secS gs hbv.reads gsF
  rw [show ((7 : Int)) = ((7 : Nat) : Int) from rfl, hwr.1, hwr.2] at WR
  have WR := Lib.hid WR
  have H4 := Lib.hid (And.intro t24 (And.intro s24 (And.intro d4 hgs)))
  clear hbv q2 t24 s24 ht2 hd2 hg1 hrow1 d4 hup hwr gsF hb4 hgs
  go_wp2_with fail
  refine WR.out.mono ?_
  rintro e w5 ⟨rfl, ht5, hd5⟩
  have D5 := DvF.of_gr hd5 H4.out.2.2.1.lt ht5.size
  have hup5 : ((moreR (DSt.new 11) 10).puts [(7, secS)]).Up := (moreR_up (new_up 11) 10).puts (fun x hx => by simp at hx; subst hx; simp [moreR, DSt.new])
  have SC2 := scan_ok sorts_few D5 hup5 10 4 ⟨by decide, by simp [DSt.puts, moreR, DSt.new], by decide, by decide⟩ (by simp [DSt.puts, moreR, DSt.new]) (by simp [DSt.Fit, DSt.puts, moreR, DSt.new]) (by rw [found_one 11 (by omega)]; decide)
  rw [found_one 11 (by omega)] at SC2
  have SC2 := Lib.hid SC2
  have H5 := Lib.hid (And.intro ht5 D5)
  clear ht5 hd5 D5 hup5
  go_wp2_with fail
  refine SC2.out.mono ?_
  rintro e w6 ⟨hto, ht6, hd6⟩
  obtain ⟨g2, rfl, hg2, hrow2, hg2l⟩ := told_one hto
  have SC3 := Lib.hid (fun o => scan_bad ((hd6.touch ((Touch.refl Emp w6).alloc o) (fun _ _ => id)).dev) 11 4 (by intro h; have := h.2.1; simp [DSt.puts, moreR, DSt.new] at this) (by simp [DSt.puts, moreR, DSt.new]))
  have H6 := Lib.hid (And.intro ht6 (And.intro hg2 (And.intro hrow2 hg2l)))
  clear hto ht6 hd6 hg2 hrow2 hg2l
  go_wp2_with fail
  refine (SC3.out _).mono ?_
  rintro e w7 ⟨rfl, hb7⟩
  obtain ⟨h1t, h1s⟩ := H1.out
  obtain ⟨ht2, hd2, hg1, hrow1⟩ := H2.out
  obtain ⟨t24, s24, d4, -⟩ := H4.out
  obtain ⟨ht5, D5⟩ := H5.out
  obtain ⟨ht6, hg2, hrow2, hg2l⟩ := H6.out
  have n2 := ht2.size
  have n4 := t24.size
  have n5 := ht5.size
  have n6 := ht6.size
  have far : ∀ k, w1.heap.size ≤ k → k < w4.heap.size → ∀ o, w4.heap[k]? = some o → w6.heap[k]? = some o := fun k hk1 hk2 o ho => by
    have hN : ¬ NewF w k := fun h => by have := h.2; omega
    exact ht6.at (ht5.at ho hN) fun h => h.elim hN fun h => by omega
  have sA : StAt w6 w2.heap.size 1 1 0 0 0 (.slice (some ⟨g1, 0, none⟩) 4 4) := far _ (by omega) (lt_of_heap s24) _ s24
  have rA := far _ hg1 (by have := lt_of_heap hrow1; omega) _ (t24.at hrow1 id)
  have a7 : ∀ k, k < w6.heap.size → ∀ o, w6.heap[k]? = some o → w7.heap[k]? = some o := fun k hk o ho => (hb7.block k (by simp; omega)).trans ((Below.heap_alloc _ _ _ hk).trans ho)
  have sA7 : StAt w7 w2.heap.size 1 1 0 0 0 (.slice (some ⟨g1, 0, none⟩) 4 4) := a7 _ (lt_of_heap sA) _ sA
  have rA7 := a7 _ (lt_of_heap rA) _ rA
  have sB7 : StAt w7 w6.heap.size 4 6 5 7 1 (.slice (some ⟨g2, 0, none⟩) 4 4) := (hb7.block _ (by simp)).trans (heap_alloc_new w6 _)
  have cB : w7.cell? ⟨g2, 2, none⟩ = some (.int .i64 6) := (hb7.cell (p := ⟨g2, 2, none⟩) (by simp; omega)).trans ((World.cell?_alloc_lt _ _ _ (by exact hg2l)).trans hrow2)
  obtain ⟨x0, x1, x2, x3, x4, x5⟩ := six_cells sA7
  obtain ⟨y0, y1, y2, y3, y4, y5⟩ := six_cells sB7
  have cA : w7.cell? ⟨g1, 2, none⟩ = some (.int .i64 (-1)) := by rw [cell_of_row _ _ _ _ _ _ rA7]; rfl
  have l1 := lt_of_heap sA7
  have l2 := lt_of_heap sB7
  have l3 := lt_of_heap rA7
  have l4 : g2 < w7.heap.size := World.block_lt_of_cell? w7 ⟨g2, 2, none⟩ cB
  have TT : Below w.heap.size w w7 := by
    have t1 : Touch (fun k => w.heap.size ≤ k) w w1 := h1t.mono fun _ _ h => h.elim
    have t2 := t1.trans (ht2.mono (G := fun k => w.heap.size ≤ k) fun k _ h => h.1) fun _ h _ => h
    have t3 := t2.trans (t24.mono (G := fun k => w.heap.size ≤ k) fun k _ h => h.elim) fun _ h _ => h
    have t4 := t3.trans (ht5.mono (G := fun k => w.heap.size ≤ k) fun k _ h => h.1) fun _ h _ => h
    have t5 := t4.trans (ht6.mono (G := fun k => w.heap.size ≤ k) fun k _ h => h.elim (fun h => h.1) fun h => by have := h1t.size; omega) fun _ h _ => h
    have t6 := (t5.alloc _).trans (Touch.of_below (F := fun k => w.heap.size ≤ k) hb7) fun _ h _ => h
    exact (t6.mono (G := fun k => w.heap.size ≤ k) fun _ _ h => h).trans (Touch.refl (fun k => w.heap.size ≤ k) w7) (fun _ h _ => h) |> fun t => ⟨t.os, t.tape, t.output, t.size, fun k hk => t.block k hk fun h => by omega⟩
  have HTT := Lib.hid TT
  clear h1t h1s ht2 hd2 hg1 hrow1 t24 s24 d4 ht5 D5 ht6 hg2 hrow2 hg2l n2 n4 n5 n6 far sA rA a7 sA7 rA7 sB7 TT hb7
  go_wp2
  go_ret
  exact ⟨rfl, HTT.out.alloc HTT.out.size _⟩
end Rp
end Go.Proofs.YthapggobpfcmjaaGreat

