/- Where each block was written last: newest. Of right tags of blocks that there are. -/
import Derived.Test.YthapggobpfcmjaaRpd
import Derived.Test.YthapggobpfcmjaaRpr
import Derived.BigQuiet
set_option maxRecDepth 100000
namespace Go.Proofs.Ythapggobpfcmjaa
namespace Rp
open Go.RowKit

/-- The greatest number of a batch, not above seq, that wrote a block, and its place; of several the first one. -/
def bestF (l : List Fo) (seq id : Nat) : Nat × Int := l.foldl (fun p x => if x.1.d = (id : Int) ∧ x.1.q ≤ seq ∧ p.1 < x.1.q then (x.1.q, (x.2 : Int)) else p) (0, -1)
theorem best_snoc (l : List Fo) (x : Fo) (seq id : Nat) : bestF (l ++ [x]) seq id = if x.1.d = (id : Int) ∧ x.1.q ≤ seq ∧ (bestF l seq id).1 < x.1.q then (x.1.q, (x.2 : Int)) else bestF l seq id := by
  unfold bestF; rw [List.foldl_append]; rfl
/-- A row of n values. -/
def rowF (n : Nat) (f : Nat → Value) : Array Value := ((List.range n).map f).toArray
theorem rowF_at {n i : Nat} {f : Nat → Value} (h : i < n) : (rowF n f)[i]? = some (f i) := by simp [rowF, h]
theorem rowF_set {n i : Nat} {f g : Nat → Value} (v : Value) (hi : g i = v) (ho : ∀ j, j < n → j ≠ i → g j = f j) : (rowF n f).setIfInBounds i v = rowF n g := by
  apply Array.ext
  · simp [rowF]
  · intro j h1 h2
    have hj : j < n := by simpa [rowF] using h2
    rw [Array.getElem_setIfInBounds (by simpa [rowF] using hj)]
    by_cases e : i = j
    · subst e; simp [rowF, hi]
    · rw [if_neg e]; simp [rowF, ho j hj (Ne.symm e)]
theorem rowF_same {n : Nat} {f g : Nat → Value} (h : ∀ j, j < n → f j = g j) : rowF n f = rowF n g := by
  unfold rowF; rw [List.map_congr_left fun j hj => h j (by simpa using hj)]
theorem rowF_rep (n : Nat) (v : Value) : (List.replicate n v).toArray = rowF n fun _ => v := by simp [rowF, List.map_const']
theorem Try.infou64 : (Try.prog.info? 31).map (fun i => (i.zero, i.size, i.bytes)) = some (some (.int .u64 0), 1, 8) := by kernel_rfl
theorem make_u (w : World) (m : Nat) (hm : m ≤ 1048576) :
    (Instr.makeSlice 118 (.int .i64 (m : Int)) (.int .i64 (m : Int))).run Try.prog w = .ok (.slice (some ⟨w.heap.size, 0, none⟩) m m) (w.alloc (.cells (rowF m fun _ => .int .u64 0) 31)) := by
  obtain ⟨i0, hi, hz0, hz1, hz2⟩ := info_parts Try.infou64
  have := run_make (P := Try.prog) w 118 31 i0 (.int .u64 0) Try.underlying118 hi hz0 .i64 .i64 m m (by omega) (by omega) (by rw [hz2]; omega) (by omega)
  rw [this, hz1, ← rowF_rep]
  simp only [Value.cells, Rq.madeCells_one', Nat.mul_one, Int.toNat_natCast, List.toArray_replicate]

def atV (l : List Fo) (seq : Nat) (id : Nat) : Value := .int .i64 (bestF l seq id).2
def seqV (l : List Fo) (seq : Nat) (id : Nat) : Value := .int .u64 ((bestF l seq id).1 : Int)
/-- While newest runs: its two rows. -/
structure NwI (w : World) (v : Value) (l : List Fo) (g seq N k gA gB : Nat) (wr : World) : Prop where
  loA : w.heap.size ≤ gA
  ne : gA < gB
  rowA : wr.heap[gA]? = some (.cells (rowF N (atV (l.take k) seq)) 3 (0, 0))
  rowB : wr.heap[gB]? = some (.cells (rowF N (seqV (l.take k) seq)) 31 (0, 0))
  fv : FV wr v l g
  below : Below w.heap.size w wr
theorem NwI.keep {w wr wr' : World} {v : Value} {l : List Fo} {g seq N k gA gB : Nat} (h : NwI w v l g seq N k gA gB wr) (hb : Below wr.heap.size wr wr') (he : ∀ id, id < N → bestF (l.take (k + 1)) seq id = bestF (l.take k) seq id) : NwI w v l g seq N (k + 1) gA gB wr' := by
  have e1 : rowF N (atV (l.take (k + 1)) seq) = rowF N (atV (l.take k) seq) := rowF_same fun j hj => by unfold atV; rw [he j hj]
  have e2 : rowF N (seqV (l.take (k + 1)) seq) = rowF N (seqV (l.take k) seq) := rowF_same fun j hj => by unfold seqV; rw [he j hj]
  exact ⟨h.loA, h.ne, by rw [e1]; exact (hb.block _ (lt_of_heap h.rowA)).trans h.rowA, by rw [e2]; exact (hb.block _ (lt_of_heap h.rowB)).trans h.rowB, h.fv.below hb,
    ((Touch.of_below (F := Emp) h.below).trans (Touch.of_below (F := Emp) hb) (fun _ h _ => h)).below⟩
theorem NwI.store {w wr wr' : World} {v : Value} {l : List Fo} {g seq N k gA gB d : Nat} (h : NwI w v l g seq N k gA gB wr) (hg : l ≠ [] → g < w.heap.size) {x : Fo} (hx : l.take (k + 1) = l.take k ++ [x]) (hd : x.1.d = (d : Int)) (hq : x.1.q ≤ seq) (hlt : (bestF (l.take k) seq d).1 < x.1.q)
    (hb : Below wr.heap.size wr wr') : NwI w v l g seq N (k + 1) gA gB ((wr'.setCell ⟨gA, d, none⟩ (.int .i64 (x.2 : Int))).setCell ⟨gB, d, none⟩ (.int .u64 (x.1.q : Int))) := by
  have hA := (hb.block _ (lt_of_heap h.rowA)).trans h.rowA
  have hB := (hb.block _ (lt_of_heap h.rowB)).trans h.rowB
  have hn := h.ne
  have hs : bestF (l.take (k + 1)) seq d = (x.1.q, (x.2 : Int)) := by rw [hx, best_snoc, if_pos ⟨hd, hq, hlt⟩]
  have ho : ∀ j, j ≠ d → bestF (l.take (k + 1)) seq j = bestF (l.take k) seq j := fun j hj => by rw [hx, best_snoc, if_neg fun hc => hj (by have := hc.1; omega)]
  have ht : Touch (fun j => j = gA ∨ j = gB) wr' ((wr'.setCell ⟨gA, d, none⟩ (.int .i64 (x.2 : Int))).setCell ⟨gB, d, none⟩ (.int .u64 (x.1.q : Int))) :=
    ((Touch.refl (fun j => j = gA ∨ j = gB) wr').setCell (a := ⟨gA, d, none⟩) (.inl (.inl rfl)) _).setCell (a := ⟨gB, d, none⟩) (.inl (.inr rfl)) _
  refine ⟨h.loA, h.ne, ?_, ?_, (h.fv.below hb).touch ht (fun hl e => by have := h.loA; have := hg hl; omega), ((Touch.of_below (F := Emp) h.below).trans ((Touch.of_below (F := fun j => j = gA ∨ j = gB) hb).trans ht (fun _ h _ => h)) (fun j hj hlt => by have := h.loA; rcases hj with e | e <;> omega)).below⟩
  · rw [heap_setCell_other _ _ _ _ (by show gA ≠ gB; omega), heap_setCell_same _ _ _ _ _ _ hA]
    congr 2
    exact rowF_set _ (by unfold atV; rw [hs]) fun j _ hj => by unfold atV; rw [ho j hj]
  · rw [heap_setCell_same _ _ _ _ _ _ (by rw [heap_setCell_other _ _ _ _ (by show gB ≠ gA; omega)]; exact hB)]
    congr 2
    exact rowF_set _ (by unfold seqV; rw [hs]) fun j _ hj => by unfold seqV; rw [ho j hj]

set_option maxHeartbeats 4000000 in
theorem newest_ok {w : World} {v : Value} {l : List Fo} {g : Nat} (h : FV w v l g) (hlen : l.length ≤ 4294967296) (hr : RightL l) (seq N : Nat) (hN : ∀ x ∈ l, x.1.d < (N : Int)) (hN2 : N ≤ 1048576) :
    Calls Try.prog 55 #[v, .int .u64 (seq : Int), .int .i64 (N : Int)] w fun e w' =>
      (∃ gA, e = .returned (.slice (some ⟨gA, 0, none⟩) N N) ∧ w.heap.size ≤ gA ∧ w'.heap[gA]? = some (.cells (rowF N (atV l seq)) 3 (0, 0))) ∧ Below w.heap.size w w' := by
  have H := Lib.hid h
  have HR := Lib.hid hr
  have HN := Lib.hid hN
  obtain ⟨a, cap, rfl, hcap, hnil, hne⟩ := h.form
  have RP := Lib.hid (Rq.repeat_one w.heap.size N (-1) (w.alloc (.cells #[.int .i64 (-1)] 3)) hN2 (by simp))
  have hmk := fun W => make_u W N hN2
  clear h hne hnil hcap hr hN
  go_enter Try.func55, Try.ntmps55
  go_wp2_with fail
  refine RP.out.mono ?_
  rintro e w1 ⟨rfl, hrep⟩
  have hbr := hrep.below
  have hrow := hrep.row
  rw [Rq.fillR_full, rowF_rep] at hrow
  have hb1 : Below w.heap.size w w1 := ((Touch.of_below (F := Emp) ((Below.refl _ w).alloc (Nat.le_refl _) (.cells #[.int .i64 (-1)] 3))).trans (Touch.of_below (F := Emp) hbr) (fun _ h _ => h)).below
  rw [World.size_alloc] at hrow
  have HB1 := Lib.hid hb1
  have HRW := Lib.hid hrow
  have hsz : w.heap.size + 1 < w1.heap.size := lt_of_heap hrow
  clear hrep hbr hrow hb1
  go_wp2
  go_loopw [18] (fun i wr => ∃ k : Nat, k ≤ l.length ∧ i = .int .i64 k ∧ NwI w (.slice a l.length cap) l g seq N k (w.heap.size + 1) w1.heap.size wr) (fun i _ => l.length - (intOf i).toNat)
  case atStart =>
    have hb := (Below.refl w1.heap.size w1).alloc (Nat.le_refl _) (.cells (rowF N fun _ => .int .u64 0) 31)
    exact ⟨0, Nat.zero_le _, rfl, ⟨by omega, hsz, (hb.block _ hsz).trans HRW.out, heap_alloc_new w1 _, (H.out.below HB1.out).below hb, ((Touch.of_below (F := Emp) HB1.out).trans (Touch.of_below (F := Emp) hb) (fun _ h _ => h)).below⟩⟩
  case round =>
    obtain ⟨k, hk, rfl, hI⟩ := hrel
    by_cases hlt : k < l.length
    · obtain ⟨cap', e1, -, w0, w1', w2, w3, w4, w5, w6, w7⟩ := hI.fv.at hlt
      obtain ⟨rfl, rfl⟩ : a = some ⟨g, 0, none⟩ ∧ cap = cap' := by simpa using e1
      have hgs : g < wr.heap.size := World.block_lt_of_cell? wr _ w0
      have hk' : (k : Int) < (l.length : Int) := by omega
      have hin := (Tg.right_iff _).1 (HR.out _ (List.getElem_mem hlt))
      have hdN := HN.out _ (List.getElem_mem hlt)
      generalize hek : l[k] = ek at w0 w1' w2 w3 w4 w5 w6 w7 hin hdN
      have htk : l.take (k + 1) = l.take k ++ [ek] := by rw [List.take_add_one, List.getElem?_eq_getElem hlt, hek]; rfl
      obtain ⟨d, hd⟩ : ∃ d : Nat, ek.1.d = (d : Int) := ⟨ek.1.d.toNat, by omega⟩
      have hdn : (d : Int) < (N : Int) := by omega
      have hd0 : (0 : Int) ≤ (d : Int) := Int.natCast_nonneg _
      have hdn' : d < N := by omega
      have cB : wr.cell? ⟨w1.heap.size, d, none⟩ = some (.int .u64 ((bestF (l.take k) seq d).1 : Int)) := by rw [cell_of_row _ _ _ _ _ _ hI.rowB]; exact rowF_at hdn'
      have fA := frozen_of_row wr (w.heap.size + 1) d _ _ hI.rowA
      have fB := frozen_of_row wr w1.heap.size d _ _ hI.rowB
      obtain ⟨cA, hcA⟩ : ∃ z, wr.cell? ⟨w.heap.size + 1, d, none⟩ = some z := ⟨_, by rw [cell_of_row _ _ _ _ _ _ hI.rowA]; exact rowF_at hdn'⟩
      have hA := lt_of_heap hI.rowA
      have hB := lt_of_heap hI.rowB
      have hbA : Below wr.heap.size wr (wr.alloc (.cells (foV ek) 96)) := (Below.refl _ _).alloc (Nat.le_refl _) _
      have HI := Lib.hid hI
      have HTK := Lib.hid htk
      have HIN := Lib.hid hin
      have HD := Lib.hid hd
      rw [hd] at w6
      clear e1 htk hin hI hdN
      by_cases hq : ek.1.q ≤ seq
      · have hq1 : (ek.1.q : Int) ≤ (seq : Int) := by omega
        by_cases hbt : (bestF (l.take k) seq d).1 < ek.1.q
        · have hbt1 : (ek.1.q : Int) > ((bestF (l.take k) seq d).1 : Int) := by omega
          have hq2 : decide ((ek.1.q : Int) ≤ (seq : Int)) = true := by simpa using hq1
          have HB2 := Lib.hid (And.intro hq hbt)
          clear hq hbt hd
          unfold foV at *
          go_wp2_with fail
          go_quiet (fail)
          go_wp2_with fail
          go_region
          go_wp2
          obtain ⟨h1, h2⟩ := HB2.out
          exact ⟨⟨k + 1, by omega, by go_num, HI.out.store H.out.lt HTK.out HD.out h1 h2 (((Touch.refl Emp wr).alloc _).drewN _).below⟩, by simp [intOf]; omega⟩
        · have hbt1 : ¬ (ek.1.q : Int) > ((bestF (l.take k) seq d).1 : Int) := by omega
          have hq2 : decide ((ek.1.q : Int) ≤ (seq : Int)) = true := by simpa using hq1
          have HB2 := Lib.hid hbt
          clear hq hbt hd
          unfold foV at *
          go_wp2_with fail
          go_quiet (fail)
          go_wp2
          exact ⟨⟨k + 1, by omega, by go_num, HI.out.keep (((Touch.refl Emp wr).alloc _).drewN _).below fun id hid => by
            rw [HTK.out, best_snoc]
            refine if_neg fun hc => HB2.out ?_
            have e : id = d := by have := hc.1; rw [HD.out] at this; omega
            rw [← e]; exact hc.2.2⟩, by simp [intOf]; omega⟩
      · have hq1 : ¬ (ek.1.q : Int) ≤ (seq : Int) := by omega
        have hq2 : decide (ek.1.q ≤ seq) = false := by simpa using hq
        have HB2 := Lib.hid hq
        clear hq hd hq1
        unfold foV at *
        go_wp2_with fail
        go_quiet (fail)
        go_wp2
        exact ⟨⟨k + 1, by omega, by go_num, HI.out.keep (((Touch.refl Emp wr).alloc _).drewN _).below fun id hid => by
          rw [HTK.out, best_snoc]
          exact if_neg fun hc => HB2.out hc.2.1⟩, by simp [intOf]; omega⟩
    · obtain rfl : k = l.length := by omega
      have HI := Lib.hid hI
      clear hI hk
      go_wp2
      go_ret
      have h1 := HI.out.rowA
      rw [List.take_length] at h1
      exact ⟨⟨_, rfl, HI.out.loA, h1⟩, HI.out.below⟩
end Rp
end Go.Proofs.Ythapggobpfcmjaa
