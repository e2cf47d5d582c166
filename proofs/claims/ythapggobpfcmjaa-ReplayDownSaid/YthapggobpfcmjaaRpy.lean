/- What all tags tell together: state. Of right tags, in so far as Sort sorts so many epochs. -/
import Derived.Test.YthapggobpfcmjaaRpx
import Derived.Test.YthapggobpfcmjaaRpf
set_option maxRecDepth 100000
namespace Go.Proofs.Ythapggobpfcmjaa
namespace Rp
open Go.RowKit

def epochM (l : List Fo) : Nat := l.foldl (fun e x => max e x.1.e) 0
def floorM (l : List Fo) : Nat := l.foldl (fun e x => max e x.1.f) 0
theorem epochM_snoc (l : List Fo) (x : Fo) : epochM (l ++ [x]) = max (epochM l) x.1.e := by unfold epochM; rw [List.foldl_append]; rfl
theorem floorM_snoc (l : List Fo) (x : Fo) : floorM (l ++ [x]) = max (floorM l) x.1.f := by unfold floorM; rw [List.foldl_append]; rfl
theorem epochM_lt {l : List Fo} (h : EpL l) : epochM l < 4294967296 := by
  induction l using snoc_ind with
  | nil => show 0 < _; omega
  | snoc l x ih =>
    rw [epochM_snoc]
    have := ih fun y hy => h y (by simp [hy])
    have := h x (by simp)
    omega
theorem floorM_lt {l : List Fo} (h : RightL l) : floorM l < 281474976710655 := by
  induction l using snoc_ind with
  | nil => show 0 < _; omega
  | snoc l x ih =>
    rw [floorM_snoc]
    have := ih fun y hy => h y (by simp [hy])
    have := (Tg.right_iff _).1 (h x (by simp))
    omega
theorem max_32 (a b : Nat) (t : TypeId) : ∃ r : Nat, r = max a b ∧ ∀ W : World, (Builtin.max_ #[30, 30] t #[.int .u32 (a : Int), .int .u32 (b : Int)]).run Try.prog W = .ok (.int .u32 (r : Int)) W := by
  refine ⟨max a b, rfl, fun W => ?_⟩
  simp [Builtin.max_, Builtin.max2]
  split <;> omega
theorem max_64 (a b : Nat) (t : TypeId) : ∃ r : Nat, r = max a b ∧ ∀ W : World, (Builtin.max_ #[31, 31] t #[.int .u64 (a : Int), .int .u64 (b : Int)]).run Try.prog W = .ok (.int .u64 (r : Int)) W := by
  refine ⟨max a b, rfl, fun W => ?_⟩
  simp [Builtin.max_, Builtin.max2]
  split <;> omega
theorem right_true {l : List Fo} (h : RightL l) : RightL (trueL l) := fun x hx => h x (List.mem_filter.1 hx).1
theorem best_in (l : List Fo) (seq id P : Nat) (hp : ∀ x ∈ l, x.2 < P) : -1 ≤ (bestF l seq id).2 ∧ (bestF l seq id).2 < (P : Int) := by
  induction l using snoc_ind with
  | nil => show (-1 : Int) ≤ -1 ∧ (-1 : Int) < P; omega
  | snoc l x ih =>
    have := ih fun y hy => hp y (by simp [hy])
    have := hp x (by simp)
    rw [best_snoc]
    split
    · exact ⟨by show (-1 : Int) ≤ (x.2 : Int); omega, by show (x.2 : Int) < P; omega⟩
    · assumption
/-- Where the blocks are. -/
def atL (l : List Fo) (seq N : Nat) : List Int := (List.range N).map fun id => (bestF l seq id).2
theorem atL_row (l : List Fo) (seq N : Nat) : rowF N (atV l seq) = ((atL l seq N).map (Value.int .i64)).toArray := by simp [rowF, atL, atV, Function.comp_def]
theorem nv_at {w : World} {g : Nat} {l : List Fo} {seq N : Nat} (h : w.heap[g]? = some (.cells (rowF N (atV l seq)) 3 (0, 0))) : NV .i64 w (.slice (some ⟨g, 0, none⟩) N N) (atL l seq N) g := by
  have hl : (atL l seq N).length = N := by simp [atL]
  refine ⟨⟨_, N, by rw [hl], by omega, (fun e => by cases e), fun _ => ⟨0, rfl, fun i hi => ?_⟩⟩, fun _ => lt_of_heap h⟩
  rw [atL_row] at h
  rw [cell_of_row _ _ _ _ _ _ h]
  simp [List.getElem?_eq_getElem hi]

abbrev stA (e s q : Nat) (h u : Int) (v : Value) : Value := .agg #[.int .u32 (e : Int), .int .u64 (s : Int), .int .u64 (q : Int), .int .i64 h, .int .i64 u, v]
abbrev stZ : Value := .agg #[.int .u32 0, .int .u64 0, .int .u64 0, .int .i64 0, .int .i64 0, .slice none 0 0]
/-- The last batch, as the tags tell it. -/
def SeqOf (l : List Fo) (seq : Nat) : Prop := seq = floorM l ∧ ¬ Whole (trueL l) (floorM l + 1) ∨ seq = floorM l + 1 ∧ Whole (trueL l) (floorM l + 1)
/-- What is answered. -/
def Told (w w' : World) (e : Ending) (l : List Fo) (P N : Nat) : Prop := ∃ seq, SeqOf l seq ∧
  ((epochM l = 4294967295 ∨ seq = 281474976710655) ∧ e = .returned (.tuple #[stZ, .int .i64 12]) ∨
   ¬ (epochM l = 4294967295 ∨ seq = 281474976710655) ∧ ∃ g, e = .returned (.tuple #[stA (epochM l + 1) (seq + 1) seq (headF (trueL l) seq P).1 (spanF (atL (trueL l) seq N) (headF (trueL l) seq P).1 P) (.slice (some ⟨g, 0, none⟩) N N), .int .i64 0]) ∧ w.heap.size ≤ g ∧
     w'.heap[g]? = some (.cells (rowF N (atV (trueL l) seq)) 3 (0, 0)))

def zeroS : Array Value := #[.int .u32 0, .int .u64 0, .int .u64 0, .int .i64 0, .int .i64 0, .slice none 0 0]
def six (w : World) (b : Nat) (x0 x1 x2 x3 x4 x5 : Value) : World := (((((w.setCell ⟨b, 0, none⟩ x0).setCell ⟨b, 1, none⟩ x1).setCell ⟨b, 2, none⟩ x2).setCell ⟨b, 3, none⟩ x3).setCell ⟨b, 4, none⟩ x4).setCell ⟨b, 5, none⟩ x5
theorem six_at {w : World} {b : Nat} {T : TypeId} (h : w.heap[b]? = some (.cells zeroS T (0, 0))) (x0 x1 x2 x3 x4 x5 : Value) : (six w b x0 x1 x2 x3 x4 x5).heap[b]? = some (.cells #[x0, x1, x2, x3, x4, x5] T (0, 0)) := by
  have := heap_setCell_same _ b 5 _ _ x5 (heap_setCell_same _ b 4 _ _ x4 (heap_setCell_same _ b 3 _ _ x3 (heap_setCell_same _ b 2 _ _ x2 (heap_setCell_same _ b 1 _ _ x1 (heap_setCell_same _ b 0 _ _ x0 h)))))
  simpa [six, zeroS] using this
theorem six_cells {W : World} {p : Nat} {T : TypeId} {x0 x1 x2 x3 x4 x5 : Value} (h : W.heap[p]? = some (.cells #[x0, x1, x2, x3, x4, x5] T (0, 0))) : W.cell? ⟨p, 0, none⟩ = some x0 ∧ W.cell? ⟨p, 1, none⟩ = some x1 ∧ W.cell? ⟨p, 2, none⟩ = some x2 ∧ W.cell? ⟨p, 3, none⟩ = some x3 ∧ W.cell? ⟨p, 4, none⟩ = some x4 ∧ W.cell? ⟨p, 5, none⟩ = some x5 := by
  have hh := fun i => cell_of_row _ _ i _ _ _ h
  exact ⟨hh 0, hh 1, hh 2, hh 3, hh 4, hh 5⟩
theorem six_touch (w : World) (b : Nat) (x0 x1 x2 x3 x4 x5 : Value) : Touch (fun k => k = b) w (six w b x0 x1 x2 x3 x4 x5) :=
  ((((((Touch.refl (fun k => k = b) w).setCell (a := ⟨b, 0, none⟩) (.inl rfl) x0).setCell (a := ⟨b, 1, none⟩) (.inl rfl) x1).setCell (a := ⟨b, 2, none⟩) (.inl rfl) x2).setCell (a := ⟨b, 3, none⟩) (.inl rfl) x3).setCell (a := ⟨b, 4, none⟩) (.inl rfl) x4).setCell (a := ⟨b, 5, none⟩) (.inl rfl) x5

/-- While state runs. -/
structure SaI (w : World) (v : Value) (l : List Fo) (g : Nat) (wr : World) : Prop where
  fv : FV wr v l g
  below : Below w.heap.size w wr
  res : wr.heap[w.heap.size]? = some (.cells zeroS 48 (0, 0))

set_option maxHeartbeats 8000000 in
theorem state_ok {M : Nat} (hS : SortsU M) {w : World} {v : Value} {l : List Fo} {g : Nat} (h : FV w v l g) (hlen : l.length ≤ 1048576) (hr : RightL l) (he : EpL l) (hM : (startsA l).length ≤ M) (P N : Nat) (hN : ∀ x ∈ l, x.1.d < (N : Int)) (hp : ∀ x ∈ l, x.2 < P)
    (hP : 1 ≤ P) (hP2 : P ≤ 1048576) (hN1 : 1 ≤ N) (hN2 : N ≤ 3840) :
    Calls Try.prog 28 #[v, .int .i64 (P : Int), .int .i64 (N : Int)] w fun e w' => Told w w' e l P N ∧ Below w.heap.size w w' := by
  have H := Lib.hid h
  have HR := Lib.hid hr
  have HE := Lib.hid he
  have HS := Lib.hid hS
  have HM := Lib.hid hM
  have HN := Lib.hid hN
  have HP := Lib.hid hp
  obtain ⟨a, cap, rfl, hcap, hnil, hne⟩ := h.form
  clear h hne hnil hcap hr he hS hM hN hp
  go_enter Try.func28, Try.ntmps28
  go_wp2
  have I0 : SaI w (.slice a l.length cap) l g (w.alloc (.cells #[.int .u32 0, .int .u64 0, .int .u64 0, .int .i64 0, .int .i64 0, .slice none 0 0] 48)) :=
    ⟨H.out.below ((Below.refl _ w).alloc (Nat.le_refl _) _), (Below.refl _ w).alloc (Nat.le_refl _) _, heap_alloc_new w _⟩
  have HI0 := Lib.hid I0
  clear I0
  go_loopw [19, 8, 9] (fun i ep fl wr => ∃ (k ep' fl' : Nat), k ≤ l.length ∧ i = .int .i64 k ∧ ep = .int .u32 (ep' : Int) ∧ fl = .int .u64 (fl' : Int) ∧ ep' = epochM (l.take k) ∧ fl' = floorM (l.take k) ∧ SaI w (.slice a l.length cap) l g wr) (fun i _ _ _ => l.length - (intOf i).toNat)
  case atStart => exact ⟨0, 0, 0, Nat.zero_le _, rfl, rfl, rfl, rfl, rfl, HI0.out⟩
  case round =>
    obtain ⟨k, ep, fl, hk, rfl, rfl, rfl, hep, hfl, hI⟩ := hrel
    by_cases hlt : k < l.length
    · obtain ⟨cap', e1, -, c0, c1, c2, c3, c4, c5, c6, c7⟩ := hI.fv.at hlt
      obtain ⟨rfl, rfl⟩ : a = some ⟨g, 0, none⟩ ∧ cap = cap' := by simpa using e1
      have hgs : g < wr.heap.size := World.block_lt_of_cell? wr _ c0
      have hk' : (k : Int) < (l.length : Int) := by omega
      generalize hek : l[k] = ek at c0 c1 c2 c3 c4 c5 c6 c7
      have htk : l.take (k + 1) = l.take k ++ [ek] := by rw [List.take_add_one, List.getElem?_eq_getElem hlt, hek]; rfl
      obtain ⟨r1, hr1, hm1⟩ := max_32 ep ek.1.e 30
      obtain ⟨r2, hr2, hm2⟩ := max_64 fl ek.1.f 31
      have NX := Lib.hid (show r1 = epochM (l.take (k + 1)) ∧ r2 = floorM (l.take (k + 1)) by rw [htk, epochM_snoc, floorM_snoc, ← hep, ← hfl]; exact ⟨hr1, hr2⟩)
      have HI := Lib.hid hI
      clear hI e1 htk hep hfl hr1 hr2
      go_wp2_with fail
      go_region
      go_wp2
      have hb : Below wr.heap.size wr ((wr.alloc (.cells (foV ek) 96)).drew) := ((Below.refl _ _).alloc (Nat.le_refl _) _).drew
      refine ⟨⟨k + 1, r1, r2, by omega, by go_num, rfl, rfl, NX.out.1, NX.out.2, ?_⟩, by simp [intOf]; omega⟩
      exact ⟨HI.out.fv.below hb, ((Touch.of_below (F := Emp) HI.out.below).trans (Touch.of_below (F := Emp) hb) (fun _ h _ => h)).below, (hb.block _ (lt_of_heap HI.out.res)).trans HI.out.res⟩
    · obtain rfl : k = l.length := by omega
      rw [List.take_length] at hep hfl
      have hfb := floorM_lt HR.out
      have heb := epochM_lt HE.out
      rw [← hfl] at hfb
      rw [← hep] at heb
      have FR := Lib.hid (fresh_ok HS.out hI.fv hlen HR.out HE.out HM.out)
      have HI := Lib.hid hI
      have HEF := Lib.hid (And.intro hep hfl)
      have hfb1 : (fl : Int) + 1 ≤ 281474976710655 := by omega
      have hfb2 : (0 : Int) ≤ (fl : Int) := Int.natCast_nonneg _
      clear hI hep hfl hk
      go_wp2_with fail
      refine FR.out.mono ?_
      rintro e w1 ⟨⟨o, rfl, how⟩, hb1⟩
      obtain ⟨gt, hfv, hgt⟩ := FV.own how
      obtain ⟨oa, oc, rfl, -, -, -⟩ := hfv.form
      have htl := true_len l
      have WH := whole_ok hfv (by omega) (right_true HR.out) (fl + 1)
      rw [show ((fl + 1 : Nat) : Int) = (fl : Int) + 1 by simp] at WH
      have WH := Lib.hid WH
      have HFV := Lib.hid hfv
      have HB1 := Lib.hid hb1
      clear how hfv hgt hb1
      go_wp2_with fail
      refine WH.out.mono ?_
      rintro e w2 ⟨⟨b, rfl, hbw⟩, hb2⟩
      have T2 : Touch Emp w w2 := ((Touch.of_below HI.out.below).trans (Touch.of_below (F := Emp) HB1.out) (fun _ h _ => h)).trans (Touch.of_below (F := Emp) hb2) (fun _ h _ => h)
      have R2 : w2.heap[w.heap.size]? = some (.cells zeroS 48 (0, 0)) := (Touch.of_below (F := Emp) hb2).at ((Touch.of_below (F := Emp) HB1.out).at HI.out.res id) id
      have F2 : FV w2 (.slice oa (trueL l).length oc) (trueL l) gt := HFV.out.below hb2
      have HT2 := Lib.hid T2
      have HR2 := Lib.hid R2
      have HF2 := Lib.hid F2
      have hr : ∀ i, w2.cell? ⟨w.heap.size, i, none⟩ = (zeroS)[i]? := fun i => cell_of_row _ _ i _ _ _ R2
      have hf : ∀ i, w2.frozen? ⟨w.heap.size, i, none⟩ = false := fun i => frozen_of_row _ _ i _ _ R2
      have r0 := hr 0
      have r1 := hr 1
      have r2 := hr 2
      have r3 := hr 3
      have r4 := hr 4
      have r5 := hr 5
      have e0 := hf 0
      have e1 := hf 1
      have e2 := hf 2
      have e3 := hf 3
      have e4 := hf 4
      have e5 := hf 5
      simp only [zeroS, List.getElem?_toArray, List.getElem?_cons_succ, List.getElem?_cons_zero] at r0 r1 r2 r3 r4 r5
      have HRF := Lib.hid (And.intro hr hf)
      clear hr hf T2 R2 F2 hb2
      cases b with
      | true =>
        have HSQ := Lib.hid (show SeqOf l (fl + 1) from .inr ⟨by rw [HEF.out.2], by rw [← HEF.out.2]; exact hbw.1 rfl⟩)
        clear hbw
        by_cases hbad : ep = 4294967295 ∨ fl + 1 = 281474976710655
        · have HBAD := Lib.hid hbad
          have hd1 : (((ep : Int) == 4294967295) = true) ∨ (((ep : Int) == 4294967295) = false ∧ (((fl : Int) + 1 == 281474976710655) = true)) := by
            rcases hbad with h | h
            · exact .inl (by rw [h]; rfl)
            · by_cases h2 : ep = 4294967295
              · exact .inl (by rw [h2]; rfl)
              · exact .inr ⟨by simp; omega, by simp; omega⟩
          clear hbad
          rcases hd1 with h1 | ⟨h1, h2⟩
          · go_wp2
            have hX := six_at HR2.out (.int .u32 0) (.int .u64 0) (.int .u64 0) (.int .i64 0) (.int .i64 0) (.slice none 0 0)
            have hT := six_touch w2 w.heap.size (.int .u32 0) (.int .u64 0) (.int .u64 0) (.int .i64 0) (.int .i64 0) (.slice none 0 0)
            unfold six at hX hT
            generalize (((((w2.setCell ⟨w.heap.size, 0, none⟩ (.int .u32 0)).setCell ⟨w.heap.size, 1, none⟩ (.int .u64 0)).setCell ⟨w.heap.size, 2, none⟩ (.int .u64 0)).setCell ⟨w.heap.size, 3, none⟩ (.int .i64 0)).setCell ⟨w.heap.size, 4, none⟩ (.int .i64 0)).setCell ⟨w.heap.size, 5, none⟩ (.slice none 0 0) = W7 at hX hT ⊢
            obtain ⟨x0, x1, x2, x3, x4, x5⟩ := six_cells hX
            exact bodyPost_ret (v := .tuple #[stZ, .int .i64 12]) (by simp [results, Try.results28, go_sem, x0, x1, x2, x3, x4, x5]) rfl ⟨⟨_, HSQ.out, .inl ⟨by rw [← HEF.out.1]; exact HBAD.out, rfl⟩⟩, (HT2.out.trans hT (fun j hj hlt => by omega)).below⟩
          · go_wp2
            have hX := six_at HR2.out (.int .u32 0) (.int .u64 0) (.int .u64 0) (.int .i64 0) (.int .i64 0) (.slice none 0 0)
            have hT := six_touch w2 w.heap.size (.int .u32 0) (.int .u64 0) (.int .u64 0) (.int .i64 0) (.int .i64 0) (.slice none 0 0)
            unfold six at hX hT
            generalize (((((w2.setCell ⟨w.heap.size, 0, none⟩ (.int .u32 0)).setCell ⟨w.heap.size, 1, none⟩ (.int .u64 0)).setCell ⟨w.heap.size, 2, none⟩ (.int .u64 0)).setCell ⟨w.heap.size, 3, none⟩ (.int .i64 0)).setCell ⟨w.heap.size, 4, none⟩ (.int .i64 0)).setCell ⟨w.heap.size, 5, none⟩ (.slice none 0 0) = W7 at hX hT ⊢
            obtain ⟨x0, x1, x2, x3, x4, x5⟩ := six_cells hX
            exact bodyPost_ret (v := .tuple #[stZ, .int .i64 12]) (by simp [results, Try.results28, go_sem, x0, x1, x2, x3, x4, x5]) rfl ⟨⟨_, HSQ.out, .inl ⟨by rw [← HEF.out.1]; exact HBAD.out, rfl⟩⟩, (HT2.out.trans hT (fun j hj hlt => by omega)).below⟩
        · have hg1 : ((ep : Int) == 4294967295) = false := by simp; omega
          have hg2 : ((fl : Int) + 1 == 281474976710655) = false := by simp; omega
          have hep1 : (ep : Int) + 1 ≤ 4294967295 := by omega
          have hep0 : (0 : Int) ≤ (ep : Int) := Int.natCast_nonneg _
          have hsq1 : (fl : Int) + 1 + 1 ≤ 281474976710655 := by omega
          have HBAD := Lib.hid hbad
          have RN1 := Lib.hid (Rg.new_e (P : Int) P w2 (by omega))
          clear hbad r0 r1 r2 r3 r4 r5 e0 e1 e2 e3 e4 e5
          go_wp2_with fail
          refine RN1.out.mono ?_
          rintro e w3 ⟨⟨R, gr, rfl, hring, -⟩, hb3⟩
          have F3 := HF2.out.below hb3
          have NW := newest_ok F3 (by omega) (right_true HR.out) (fl + 1) N (fun x hx => HN.out x (List.mem_filter.1 hx).1) (by omega)
          rw [show ((fl + 1 : Nat) : Int) = (fl : Int) + 1 by simp] at NW
          have NW := Lib.hid NW
          have HF3 := Lib.hid F3
          have HRG := Lib.hid hring
          have HB3 := Lib.hid hb3
          clear F3 hring hb3
          go_wp2_with fail
          refine NW.out.mono ?_
          rintro e w4 ⟨⟨gA, rfl, hgA, hrow⟩, hb4⟩
          have BH := behind_ok (HF3.out.below hb4) (by omega) (right_true HR.out) (fl + 1) (HRG.out.below hb4) hP hP2
          rw [show ((fl + 1 : Nat) : Int) = (fl : Int) + 1 by simp] at BH
          have BH := Lib.hid BH
          have HRW := Lib.hid hrow
          have HB4 := Lib.hid hb4
          have HGA := Lib.hid hgA
          clear hrow hb4 hgA
          go_wp2_with fail
          refine BH.out.mono ?_
          rintro e w5 ⟨rfl, hb5⟩
          have hrow5 := (hb5.block _ (lt_of_heap HRW.out)).trans HRW.out
          have SP := Lib.hid (span_ok (nv_at hrow5) (by simp [atL]; omega) (fun p hp => by
            obtain ⟨id, -, rfl⟩ := List.mem_map.1 hp
            exact best_in _ _ _ P fun x hx => HP.out x (List.mem_filter.1 hx).1) (headF (trueL l) (fl + 1) P).1 (head_in _ _ _ hP) ((HRG.out.below HB4.out).below hb5) hP hP2)
          have hhd := head_in (trueL l) (fl + 1) P hP
          generalize hhq : headF (trueL l) (fl + 1) P = hd at SP hhd
          have HHQ := Lib.hid hhq
          clear hhq
          have hsp := span_in (atL (trueL l) (fl + 1) N) hd.1 P hP
          have T5 : Touch Emp w2 w5 := ((Touch.of_below HB3.out).trans (Touch.of_below (F := Emp) HB4.out) (fun _ h _ => h)).trans (Touch.of_below (F := Emp) hb5) (fun _ h _ => h)
          have R5 := T5.at HR2.out id
          have HR5 := Lib.hid R5
          have HT5 := Lib.hid (HT2.out.trans T5 fun _ h _ => h)
          have HRW5 := Lib.hid hrow5
          have HHD := Lib.hid hhd
          have hr : ∀ i, w5.cell? ⟨w.heap.size, i, none⟩ = (zeroS)[i]? := fun i => cell_of_row _ _ i _ _ _ R5
          have hf : ∀ i, w5.frozen? ⟨w.heap.size, i, none⟩ = false := fun i => frozen_of_row _ _ i _ _ R5
          have r0 := hr 0
          have r1 := hr 1
          have r2 := hr 2
          have r3 := hr 3
          have r4 := hr 4
          have r5 := hr 5
          have e0 := hf 0
          have e1 := hf 1
          have e2 := hf 2
          have e3 := hf 3
          have e4 := hf 4
          have e5 := hf 5
          simp only [zeroS, List.getElem?_toArray, List.getElem?_cons_succ, List.getElem?_cons_zero] at r0 r1 r2 r3 r4 r5
          have hgA : w.heap.size + 1 ≤ gA := by
            have h1 := HGA.out
            have h2 := lt_of_heap HR2.out
            have h3 := HB3.out.size
            omega
          have HGA2 := Lib.hid hgA
          clear hr hf T5 R5 hrow5 hb5 hhd hgA
          go_wp2_with fail
          refine SP.out.mono ?_
          rintro e w6 ⟨rfl, rfl⟩
          have HSPD := Lib.hid hsp
          clear hsp
          go_wp2
          have hX := six_at HR5.out (.int .u32 ((ep : Int) + 1)) (.int .u64 ((fl : Int) + 1 + 1)) (.int .u64 ((fl : Int) + 1)) (.int .i64 hd.1) (.int .i64 (spanF (atL (trueL l) (fl + 1) N) hd.1 P)) (.slice (some ⟨gA, 0, none⟩) N N)
          have hT := six_touch w5 w.heap.size (.int .u32 ((ep : Int) + 1)) (.int .u64 ((fl : Int) + 1 + 1)) (.int .u64 ((fl : Int) + 1)) (.int .i64 hd.1) (.int .i64 (spanF (atL (trueL l) (fl + 1) N) hd.1 P)) (.slice (some ⟨gA, 0, none⟩) N N)
          unfold six at hX hT
          generalize (((((w5.setCell ⟨w.heap.size, 0, none⟩ (.int .u32 ((ep : Int) + 1))).setCell ⟨w.heap.size, 1, none⟩ (.int .u64 ((fl : Int) + 1 + 1))).setCell ⟨w.heap.size, 2, none⟩ (.int .u64 ((fl : Int) + 1))).setCell ⟨w.heap.size, 3, none⟩ (.int .i64 hd.1)).setCell ⟨w.heap.size, 4, none⟩ (.int .i64 (spanF (atL (trueL l) (fl + 1) N) hd.1 P))).setCell ⟨w.heap.size, 5, none⟩ (.slice (some ⟨gA, 0, none⟩) N N) = W7 at hX hT ⊢
          obtain ⟨x0, x1, x2, x3, x4, x5⟩ := six_cells hX
          refine bodyPost_ret (v := .tuple #[stA (ep + 1) (fl + 1 + 1) (fl + 1) hd.1 (spanF (atL (trueL l) (fl + 1) N) hd.1 P) (.slice (some ⟨gA, 0, none⟩) N N), .int .i64 0]) (by simp [results, Try.results28, go_sem, x0, x1, x2, x3, x4, x5]) rfl ⟨⟨fl + 1, HSQ.out, .inr ⟨by rw [← HEF.out.1]; exact HBAD.out, gA, ?_, by have := HGA2.out; omega, hT.at HRW5.out (by have := HGA2.out; omega)⟩⟩, (HT5.out.trans hT (fun j hj hlt => by omega)).below⟩
          rw [← HEF.out.1, HHQ.out]
      | false =>
        have HSQ := Lib.hid (show SeqOf l fl from .inl ⟨HEF.out.2, by rw [← HEF.out.2]; exact fun h => absurd (hbw.2 h) (by simp)⟩)
        clear hbw
        by_cases hbad : ep = 4294967295 ∨ fl = 281474976710655
        · have HBAD := Lib.hid hbad
          have hd1 : (((ep : Int) == 4294967295) = true) ∨ (((ep : Int) == 4294967295) = false ∧ (((fl : Int) == 281474976710655) = true)) := by
            rcases hbad with h | h
            · exact .inl (by rw [h]; rfl)
            · by_cases h2 : ep = 4294967295
              · exact .inl (by rw [h2]; rfl)
              · exact .inr ⟨by simp; omega, by simp; omega⟩
          clear hbad
          rcases hd1 with h1 | ⟨h1, h2⟩
          · go_wp2
            have hX := six_at HR2.out (.int .u32 0) (.int .u64 0) (.int .u64 0) (.int .i64 0) (.int .i64 0) (.slice none 0 0)
            have hT := six_touch w2 w.heap.size (.int .u32 0) (.int .u64 0) (.int .u64 0) (.int .i64 0) (.int .i64 0) (.slice none 0 0)
            unfold six at hX hT
            generalize (((((w2.setCell ⟨w.heap.size, 0, none⟩ (.int .u32 0)).setCell ⟨w.heap.size, 1, none⟩ (.int .u64 0)).setCell ⟨w.heap.size, 2, none⟩ (.int .u64 0)).setCell ⟨w.heap.size, 3, none⟩ (.int .i64 0)).setCell ⟨w.heap.size, 4, none⟩ (.int .i64 0)).setCell ⟨w.heap.size, 5, none⟩ (.slice none 0 0) = W7 at hX hT ⊢
            obtain ⟨x0, x1, x2, x3, x4, x5⟩ := six_cells hX
            exact bodyPost_ret (v := .tuple #[stZ, .int .i64 12]) (by simp [results, Try.results28, go_sem, x0, x1, x2, x3, x4, x5]) rfl ⟨⟨_, HSQ.out, .inl ⟨by rw [← HEF.out.1]; exact HBAD.out, rfl⟩⟩, (HT2.out.trans hT (fun j hj hlt => by omega)).below⟩
          · go_wp2
            have hX := six_at HR2.out (.int .u32 0) (.int .u64 0) (.int .u64 0) (.int .i64 0) (.int .i64 0) (.slice none 0 0)
            have hT := six_touch w2 w.heap.size (.int .u32 0) (.int .u64 0) (.int .u64 0) (.int .i64 0) (.int .i64 0) (.slice none 0 0)
            unfold six at hX hT
            generalize (((((w2.setCell ⟨w.heap.size, 0, none⟩ (.int .u32 0)).setCell ⟨w.heap.size, 1, none⟩ (.int .u64 0)).setCell ⟨w.heap.size, 2, none⟩ (.int .u64 0)).setCell ⟨w.heap.size, 3, none⟩ (.int .i64 0)).setCell ⟨w.heap.size, 4, none⟩ (.int .i64 0)).setCell ⟨w.heap.size, 5, none⟩ (.slice none 0 0) = W7 at hX hT ⊢
            obtain ⟨x0, x1, x2, x3, x4, x5⟩ := six_cells hX
            exact bodyPost_ret (v := .tuple #[stZ, .int .i64 12]) (by simp [results, Try.results28, go_sem, x0, x1, x2, x3, x4, x5]) rfl ⟨⟨_, HSQ.out, .inl ⟨by rw [← HEF.out.1]; exact HBAD.out, rfl⟩⟩, (HT2.out.trans hT (fun j hj hlt => by omega)).below⟩
        · have hg1 : ((ep : Int) == 4294967295) = false := by simp; omega
          have hg2 : ((fl : Int) == 281474976710655) = false := by simp; omega
          have hep1 : (ep : Int) + 1 ≤ 4294967295 := by omega
          have hep0 : (0 : Int) ≤ (ep : Int) := Int.natCast_nonneg _
          have hsq1 : (fl : Int) + 1 ≤ 281474976710655 := by omega
          have HBAD := Lib.hid hbad
          have RN1 := Lib.hid (Rg.new_e (P : Int) P w2 (by omega))
          clear hbad r0 r1 r2 r3 r4 r5 e0 e1 e2 e3 e4 e5
          go_wp2_with fail
          refine RN1.out.mono ?_
          rintro e w3 ⟨⟨R, gr, rfl, hring, -⟩, hb3⟩
          have F3 := HF2.out.below hb3
          have NW := newest_ok F3 (by omega) (right_true HR.out) (fl) N (fun x hx => HN.out x (List.mem_filter.1 hx).1) (by omega)
          rw [show ((fl : Nat) : Int) = (fl : Int) by simp] at NW
          have NW := Lib.hid NW
          have HF3 := Lib.hid F3
          have HRG := Lib.hid hring
          have HB3 := Lib.hid hb3
          clear F3 hring hb3
          go_wp2_with fail
          refine NW.out.mono ?_
          rintro e w4 ⟨⟨gA, rfl, hgA, hrow⟩, hb4⟩
          have BH := behind_ok (HF3.out.below hb4) (by omega) (right_true HR.out) (fl) (HRG.out.below hb4) hP hP2
          rw [show ((fl : Nat) : Int) = (fl : Int) by simp] at BH
          have BH := Lib.hid BH
          have HRW := Lib.hid hrow
          have HB4 := Lib.hid hb4
          have HGA := Lib.hid hgA
          clear hrow hb4 hgA
          go_wp2_with fail
          refine BH.out.mono ?_
          rintro e w5 ⟨rfl, hb5⟩
          have hrow5 := (hb5.block _ (lt_of_heap HRW.out)).trans HRW.out
          have SP := Lib.hid (span_ok (nv_at hrow5) (by simp [atL]; omega) (fun p hp => by
            obtain ⟨id, -, rfl⟩ := List.mem_map.1 hp
            exact best_in _ _ _ P fun x hx => HP.out x (List.mem_filter.1 hx).1) (headF (trueL l) (fl) P).1 (head_in _ _ _ hP) ((HRG.out.below HB4.out).below hb5) hP hP2)
          have hhd := head_in (trueL l) (fl) P hP
          generalize hhq : headF (trueL l) (fl) P = hd at SP hhd
          have HHQ := Lib.hid hhq
          clear hhq
          have hsp := span_in (atL (trueL l) (fl) N) hd.1 P hP
          have T5 : Touch Emp w2 w5 := ((Touch.of_below HB3.out).trans (Touch.of_below (F := Emp) HB4.out) (fun _ h _ => h)).trans (Touch.of_below (F := Emp) hb5) (fun _ h _ => h)
          have R5 := T5.at HR2.out id
          have HR5 := Lib.hid R5
          have HT5 := Lib.hid (HT2.out.trans T5 fun _ h _ => h)
          have HRW5 := Lib.hid hrow5
          have HHD := Lib.hid hhd
          have hr : ∀ i, w5.cell? ⟨w.heap.size, i, none⟩ = (zeroS)[i]? := fun i => cell_of_row _ _ i _ _ _ R5
          have hf : ∀ i, w5.frozen? ⟨w.heap.size, i, none⟩ = false := fun i => frozen_of_row _ _ i _ _ R5
          have r0 := hr 0
          have r1 := hr 1
          have r2 := hr 2
          have r3 := hr 3
          have r4 := hr 4
          have r5 := hr 5
          have e0 := hf 0
          have e1 := hf 1
          have e2 := hf 2
          have e3 := hf 3
          have e4 := hf 4
          have e5 := hf 5
          simp only [zeroS, List.getElem?_toArray, List.getElem?_cons_succ, List.getElem?_cons_zero] at r0 r1 r2 r3 r4 r5
          have hgA : w.heap.size + 1 ≤ gA := by
            have h1 := HGA.out
            have h2 := lt_of_heap HR2.out
            have h3 := HB3.out.size
            omega
          have HGA2 := Lib.hid hgA
          clear hr hf T5 R5 hrow5 hb5 hhd hgA
          go_wp2_with fail
          refine SP.out.mono ?_
          rintro e w6 ⟨rfl, rfl⟩
          have HSPD := Lib.hid hsp
          clear hsp
          go_wp2
          have hX := six_at HR5.out (.int .u32 ((ep : Int) + 1)) (.int .u64 ((fl : Int) + 1)) (.int .u64 ((fl : Int))) (.int .i64 hd.1) (.int .i64 (spanF (atL (trueL l) (fl) N) hd.1 P)) (.slice (some ⟨gA, 0, none⟩) N N)
          have hT := six_touch w5 w.heap.size (.int .u32 ((ep : Int) + 1)) (.int .u64 ((fl : Int) + 1)) (.int .u64 ((fl : Int))) (.int .i64 hd.1) (.int .i64 (spanF (atL (trueL l) (fl) N) hd.1 P)) (.slice (some ⟨gA, 0, none⟩) N N)
          unfold six at hX hT
          generalize (((((w5.setCell ⟨w.heap.size, 0, none⟩ (.int .u32 ((ep : Int) + 1))).setCell ⟨w.heap.size, 1, none⟩ (.int .u64 ((fl : Int) + 1))).setCell ⟨w.heap.size, 2, none⟩ (.int .u64 ((fl : Int)))).setCell ⟨w.heap.size, 3, none⟩ (.int .i64 hd.1)).setCell ⟨w.heap.size, 4, none⟩ (.int .i64 (spanF (atL (trueL l) (fl) N) hd.1 P))).setCell ⟨w.heap.size, 5, none⟩ (.slice (some ⟨gA, 0, none⟩) N N) = W7 at hX hT ⊢
          obtain ⟨x0, x1, x2, x3, x4, x5⟩ := six_cells hX
          refine bodyPost_ret (v := .tuple #[stA (ep + 1) (fl + 1) (fl) hd.1 (spanF (atL (trueL l) (fl) N) hd.1 P) (.slice (some ⟨gA, 0, none⟩) N N), .int .i64 0]) (by simp [results, Try.results28, go_sem, x0, x1, x2, x3, x4, x5]) rfl ⟨⟨fl, HSQ.out, .inr ⟨by rw [← HEF.out.1]; exact HBAD.out, gA, ?_, by have := HGA2.out; omega, hT.at HRW5.out (by have := HGA2.out; omega)⟩⟩, (HT5.out.trans hT (fun j hj hlt => by omega)).below⟩
          rw [← HEF.out.1, HHQ.out]
end Rp
end Go.Proofs.Ythapggobpfcmjaa
