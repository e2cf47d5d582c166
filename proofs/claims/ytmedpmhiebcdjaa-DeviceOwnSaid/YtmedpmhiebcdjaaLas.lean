/- DeviceLast. -/
import Derived.Test.YtmedpmhiebcdjaaSho
import Derived.Test.YtmedpmhiebcdjaaBit
import Derived.Test.YtmedpmhiebcdjaaPur
import Derived.Test.YtmedpmhiebcdjaaRow
namespace Go.Proofs.Ytmedpmhiebcdjaa
open Go.RowKit

def intsA (l : List Nat) : Array Value := (l.map fun n : Nat => Value.int .i64 (n : Int)).toArray
theorem intsA_at (l : List Nat) (i : Nat) (h : i < l.length) : (intsA l)[i]? = some (.int .i64 (l[i] : Int)) := by simp [intsA, h]
theorem intsA_set (l : List Nat) (i n : Nat) : (intsA l).setIfInBounds i (.int .i64 (n : Int)) = intsA (l.set i n) := by simp [intsA]
theorem run_makeInts (w : World) (n : Nat) (h1 : n ≤ 100000) :
    (Instr.makeSlice 22 (.int .i64 (n : Int)) (.int .i64 (n : Int))).run Try.prog w = .ok (.slice (some ⟨w.heap.size, 0, none⟩) n n) (w.alloc (.cells (intsA (List.replicate n 0)) 3)) := by
  obtain ⟨i0, hi, hz0, hz1, hz2⟩ := info_parts Try.info3
  have := run_make (P := Try.prog) w 22 3 i0 (.int .i64 0) Try.underlying22 hi hz0 .i64 .i64 n n (by omega) (by omega) (by rw [hz2]; omega) (by omega)
  rw [this, hz1]
  simp only [Value.cells, madeCells_one, Nat.mul_one, Int.toNat_natCast]
  simp [intsA]

def wantL (v : Nat) : List UInt8 := if v = 0 then zerosL 512 else sectorL v

theorem size_alloc_one {w w' : World} {o q : Obj} (h : w'.heap[(w.alloc o).heap.size]? = some q) : w'.heap[w.heap.size + 1]? = some q := by simpa using h
theorem wantL_zero {w : World} {g : Nat} {Z : Array Value} (hz : Z = rowA (zerosL 512)) (h : w.heap[g]? = some (.cells Z 5)) : Reads w (.slice (some ⟨g, 0, none⟩) 512 512) (wantL 0) g := by
  have h : ByteRow w g (zerosL 512) := by rw [ByteRow, ← hz]; exact h
  have := h.reads 512
  rwa [zerosL_length] at this
theorem wantL_pos {w : World} {g x : Nat} (hx : x ≠ 0) (h : w.heap[g]? = some (.cells (rowA (sectorL x)) 5)) : Reads w (.slice (some ⟨g, 0, none⟩) 512 512) (wantL x) g := by
  have h : ByteRow w g (sectorL x) := h
  have := h.reads 512
  rw [sectorL_length] at this
  rwa [wantL, if_neg hx]

def LastX (w : World) (L k : Nat) : Prop := k < w.heap.size ∨ k = L

structure LastInv (w : World) (b L : Nat) (c : Nat) (wr : World) : Prop where
  ex : ∃ (s : DSt) (vals : List Nat), Has wr b s (LastX w L) ∧ s.Up 5 c ∧ wr.heap[L]? = some (.cells (intsA vals) 3 (0, 0)) ∧ vals.length = 5 ∧ (∀ j (h : j < vals.length), vals[j] ≤ 60 ∧ s.look j = (0, wantL vals[j]))
  below : Below w.heap.size w wr

section
variable {w wr : World} {b L c : Nat}
theorem LastInv.mono (h : LastInv w b L c wr) {d : Nat} (hd : c ≤ d) : LastInv w b L d wr := by
  obtain ⟨⟨s, vals, h1, h2, h3⟩, hB⟩ := h
  exact ⟨⟨s, vals, h1, h2.mono hd, h3⟩, hB⟩
theorem LastInv.alloc (h : LastInv w b L c wr) (o : Obj) : LastInv w b L c (wr.alloc o) := by
  obtain ⟨⟨s, vals, h1, h2, h3, h4⟩, hB⟩ := h
  exact ⟨⟨s, vals, (h1.alloc o).mono fun k hk => .inl hk, h2, (Below.heap_alloc _ _ _ (lt_of_heap h3)).trans h3, h4⟩, hB.alloc hB.size _⟩
theorem LastInv.cell (h : LastInv w b L c wr) {m : Nat} (hm : m < 5) : ∃ x : Nat, x ≤ 60 ∧ wr.cell? ⟨L, m, none⟩ = some (.int .i64 (x : Int)) ∧ wr.frozen? ⟨L, m, none⟩ = false := by
  obtain ⟨⟨s, vals, h1, h2, h3, h4, h5⟩, hB⟩ := h
  have hm' : m < vals.length := by omega
  exact ⟨vals[m], (h5 m hm').1, by rw [cell_of_row wr L m _ _ _ h3, intsA_at _ _ hm'], frozen_of_row wr L m _ _ h3⟩
theorem cell_heap_past {w : World} {k : Nat} {q : Obj} (h : w.heap[k]? = some q) (o : Obj) : (w.alloc o).heap[k]? = some q := (Below.heap_alloc _ _ _ (lt_of_heap h)).trans h
theorem cell_past {w : World} {p : Addr} {v : Value} (h : w.cell? p = some v) (o : Obj) : (w.alloc o).cell? p = some v := by
  rw [((Below.refl w.heap.size w).alloc (Nat.le_refl _) o).cell (World.block_lt_of_cell? w _ h)]
  exact h
theorem LastInv.read (h : LastInv w b L c wr) (hc : c < 1000000) {m x : Nat} (hm : m < 5) (hcell : wr.cell? ⟨L, m, none⟩ = some (.int .i64 (x : Int))) (o : Obj) :
    Calls Try.prog 16 #[.pointer (some ⟨b, 0, none⟩), .int .i64 (m : Int)] (wr.alloc o) fun e w' => ∃ v g, e = .returned (.tuple #[v, .int .i64 0]) ∧ LastInv w b L (c + 1) w' ∧ Reads w' v (wantL x) g ∧
      w'.heap[wr.heap.size]? = some o := by
  obtain ⟨⟨s, vals, h1, h2, h3, h4, h5⟩, hB⟩ := h
  have hm' : m < vals.length := by omega
  have hx : vals[m] = x := by
    rw [cell_of_row wr L m _ _ _ h3, intsA_at _ _ hm'] at hcell
    have : (vals[m] : Int) = (x : Int) := by simpa using hcell
    omega
  have hr := h2.calm.read (a := m) (by rw [h2.secs]; exact hm)
  have hl := (h5 m hm').2
  refine (rd_step (h1.alloc o) (h2.fit (by omega)) (m : Int) 0 (wantL x) (by rw [hr.1, hl]) (by rw [hr.1, hl, hx])).mono ?_
  rintro e w' ⟨v, rfl, hk, hq, g, hg, _⟩
  rw [hr.2] at hq
  have h3' := cell_heap_past h3 o
  refine ⟨v, g, rfl, ⟨⟨s.incR, vals, hq.mono fun k hk => .inl hk, h2.incR, hk.heap h3' (.inl (.inr rfl)), h4, h5⟩, (hB.alloc hB.size o).trans (hk.below (fun k hk => .inl (.inl hk)) (by have := hB.size; simp; omega))⟩, hg, hk.heap (heap_alloc_new _ _) (.inr rfl)⟩
theorem LastInv.flush (h : LastInv w b L c wr) (hc : c < 1000000) :
    Calls Try.prog 12 #[.pointer (some ⟨b, 0, none⟩)] wr fun e w' => e = .returned (.int .i64 0) ∧ LastInv w b L (c + 1) w' := by
  obtain ⟨⟨s, vals, h1, h2, h3, h4, h5⟩, hB⟩ := h
  have := flush_has h1 (h2.fit (by omega))
  rw [h2.calm.err] at this
  refine this.mono ?_
  rintro e w' ⟨rfl, hk, hq⟩
  refine ⟨rfl, ⟨⟨s.flush, vals, hq, h2.flush, hk.heap h3 (.inr rfl), h4, fun j hj => ⟨(h5 j hj).1, ?_⟩⟩, hB.trans (hk.below (fun k hk => .inl hk) hB.size)⟩⟩
  rw [h2.calm.look_flush h2.torn (by rw [h2.secs]; omega)]
  exact (h5 j hj).2
theorem LastInv.put (h : LastInv w b L c wr) (hc : c < 1000000) {a x : Nat} {xi : Int} (hxi : (x : Int) = xi) (ha : a < 5) (hx : x ≤ 60) (hx0 : x ≠ 0) (hLw : w.heap.size ≤ L) :
    Calls Try.prog 10 #[.pointer (some ⟨b, 0, none⟩), .int .i64 (a : Int), .slice (some ⟨wr.heap.size, 0, none⟩) 512 512] ((wr.setCell ⟨L, a, none⟩ (.int .i64 xi)).alloc (.cells (rowA (sectorL xi)) 5)) fun e w' =>
      e = .returned (.int .i64 0) ∧ LastInv w b L (c + 1) w' := by
  subst hxi
  obtain ⟨⟨s, vals, h1, h2, h3, h4, h5⟩, hB⟩ := h
  have tL : Touch (fun k => k = L) wr (wr.setCell ⟨L, a, none⟩ (.int .i64 (x : Int))) := (Touch.refl (fun k => k = L) wr).setCell (a := ⟨L, a, none⟩) (.inl rfl) _
  have h1' := h1.own tL fun k _ hk => .inr hk
  have h3' := heap_setCell_same wr L a _ _ (.int .i64 (x : Int)) h3
  rw [intsA_set] at h3'
  have hw := h2.calm.write (a := a) (l := sectorL x) (by rw [h2.secs]; exact ha) (sectorL_length x)
  have hst := wr_step h1' (h2.fit (by omega)) (a : Int) x 0 hw.1
  rw [World.size_setCell] at hst
  refine hst.mono ?_
  rintro e w' ⟨he, hk, hq⟩
  rw [hw.2] at hq
  have hBs : Below w.heap.size w (wr.setCell ⟨L, a, none⟩ (.int .i64 (x : Int))) := hB.setCell (p := ⟨L, a, none⟩) hLw _
  refine ⟨he, ⟨⟨s.wrote a (sectorL x), vals.set a x, hq, h2.wrote a _, hk.heap h3' (.inr rfl), by simpa using h4, fun j hj => ?_⟩, hBs.trans (hk.below (fun k hk => .inl hk) hBs.size)⟩⟩
  have hj' : j < vals.length := by simpa using hj
  rw [look_wrote, List.getElem_set]
  by_cases hja : a = j
  · subst hja
    simp only [if_true]
    refine ⟨hx, ?_⟩
    rw [wantL, if_neg hx0]
  · simp only [if_neg hja]
    exact h5 j hj'
end

set_option maxRecDepth 100000 in
set_option maxHeartbeats 4000000 in
theorem last_walk (a1 a2 : Option Addr) (n1 n2 : Nat) (c1 c2 : Nat) (l : List Int) (fl : List Bool) (g1 g2 : Nat) (w : World) (hn1 : l.length = n1) (hn2 : fl.length = n2)
    (h1 : l ≠ [] → ∃ off, a1 = some ⟨g1, off, none⟩ ∧ ∀ i (h : i < l.length), w.cell? ⟨g1, off + i, none⟩ = some (.int .i64 l[i]))
    (h2 : fl ≠ [] → ∃ off, a2 = some ⟨g2, off, none⟩ ∧ ∀ i (h : i < fl.length), w.cell? ⟨g2, off + i, none⟩ = some (.bool fl[i])) :
    Calls Try.prog 5 #[.slice a1 n1 c1, .slice a2 n2 c2] w fun e w' => e = .returned (.bool true) ∧ Below w.heap.size w w' := by
  have HN1 := Lib.hid hn1
  have HN2 := Lib.hid hn2
  have H1 := Lib.hid h1
  have H2 := Lib.hid h2
  have hmk : ∀ W, (Instr.makeSlice 22 (.int .i64 5) (.int .i64 5)).run Try.prog W = .ok (.slice (some ⟨W.heap.size, 0, none⟩) 5 5) (W.alloc (.cells (intsA (List.replicate 5 0)) 3)) := fun W => run_makeInts W 5 (by omega)
  generalize hzz : intsA (List.replicate 5 0) = Z0 at hmk
  have HZ := Lib.hid hzz
  clear hzz
  clear hn1 hn2 h1 h2
  obtain ⟨Z5, hmk5, hz5⟩ : ∃ Z, (∀ W, (Instr.makeSlice 29 (.int .i64 512) (.int .i64 512)).run Try.prog W = .ok (.slice (some ⟨W.heap.size, 0, none⟩) 512 512) (W.alloc (.cells Z 5))) ∧ Z = rowA (zerosL 512) := ⟨_, run_make512, rfl⟩
  have HZ5 := Lib.hid hz5
  clear hz5
  go_enter Try.func5, Try.ntmps5
  go_wp2_with fail
  refine (shown_any w).mono ?_
  rintro e w1 ⟨rfl, hT⟩
  go_wp2_with fail
  refine (new_has 5 w1 (by omega) (by omega)).mono ?_
  rintro e w2 ⟨rfl, ht1, -, hq⟩
  replace hq := hq.mono (Y := fun k => k < w.heap.size) fun k hk => Nat.lt_of_lt_of_le hk hT.size
  replace hT := hT.trans (ht1.below.mono hT.size)
  have hI : LastInv w (w1.heap.size + 2) w2.heap.size 0 (w2.alloc (.cells Z0 3)) := by
    rw [← HZ.out]
    refine ⟨⟨DSt.new 5, List.replicate 5 0, hq.alloc _, new_up 5, heap_alloc_new _ _, by simp, fun j hj => ?_⟩, hT.alloc hT.size _⟩
    have hj5 : j < 5 := by simpa using hj
    rw [List.getElem_replicate]
    exact ⟨Nat.zero_le _, new_look 5 j hj5⟩
  have HI := Lib.hid hI
  have HLW := Lib.hid (show w.heap.size ≤ w2.heap.size from hT.size)
  clear ht1 hq hT hI
  go_wp2_with fail
  generalize w1.heap.size + 2 = b at HI ⊢
  generalize w2.heap.size = L at HI HLW ⊢
  go_loopw [9] (fun i wr => ∃ k : Nat, k ≤ l.length ∧ k ≤ 60 ∧ i = .int .i64 k ∧ LastInv w b L (8 * k) wr) (fun i _ => l.length - (intOf i).toNat)
  case atStart => exact ⟨0, Nat.zero_le _, Nat.zero_le _, rfl, HI.out⟩
  case round =>
    obtain ⟨k, hk1, hk2, rfl, hI⟩ := hrel
    have HI := Lib.hid hI
    clear hI
    by_cases hlt : k < n1
    · by_cases hlt2 : k < 60
      · have hkl : k < l.length := by rw [HN1.out]; exact hlt
        obtain ⟨off, rfl, hcs⟩ := H1.out (by rintro rfl; simp at hkl)
        have hcw : wr.cell? ⟨g1, off + k, none⟩ = some (.int .i64 l[k]) := by
          rw [HI.out.below.cell (World.block_lt_of_cell? w _ (hcs k hkl))]
          exact hcs k hkl
        obtain ⟨y, hy, hy2⟩ : ∃ y : Nat, bits .and .i64 l[k] 65535 = (y : Int) ∧ y < 65536 := ⟨(l[k] % 65536).toNat, by rw [and_65535]; omega, by omega⟩
        generalize l[k] = x at hcw hy
        obtain ⟨a, hya, ha5⟩ : ∃ a : Nat, (y : Int) % 5 = (a : Int) ∧ a < 5 := ⟨y % 5, by omega, by omega⟩
        obtain ⟨x0, -, hL0, hL1⟩ := HI.out.cell ha5
        have hLs : L < wr.heap.size := World.block_lt_of_cell? wr _ hL0
        clear hcs
        go_wp2_with fail
        refine (sector_any _ _).mono ?_
        rintro e w3 ⟨rfl, rfl⟩
        go_wp2_with fail
        refine (HI.out.put (by omega) (x := k + 1) (xi := (k : Int) + 1) (by omega) ha5 (by omega) (by omega) HLW.out).mono ?_
        rintro e w3 ⟨rfl, hI⟩
        replace HI := Lib.hid hI
        clear hI hL0 hL1 hLs hcw
        by_cases hlt3 : k < n2
        · have hkf : k < fl.length := by rw [HN2.out]; exact hlt3
          obtain ⟨off2, rfl, hcs⟩ := H2.out (by rintro rfl; simp at hkf)
          have hcw : w3.cell? ⟨g2, off2 + k, none⟩ = some (.bool fl[k]) := by
            rw [HI.out.below.cell (World.block_lt_of_cell? w _ (hcs k hkf))]
            exact hcs k hkf
          clear hcs
          cases hfb : fl[k] with
          | false =>
            rw [hfb] at hcw
            go_wp2_with fail
            go_loopw [11] (fun i wq => ∃ m : Nat, m ≤ 5 ∧ i = .int .i64 m ∧ LastInv w b L (8 * k + 2 + m) wq) (fun i _ => 5 - (intOf i).toNat)
            case atStart => exact ⟨0, by omega, rfl, HI.out.mono (by omega)⟩
            case round =>
              obtain ⟨m, hm, rfl, hI⟩ := hrel
              replace HI := Lib.hid hI
              clear hI
              by_cases hm5 : m < 5
              · obtain ⟨x0, hx60, hL0, hL1⟩ := HI.out.cell hm5
                have hLs := World.block_lt_of_cell? _ _ hL0
                go_wp2_with fail
                refine (sector_any _ _).mono ?_
                rintro e w5 ⟨rfl, rfl⟩
                by_cases hx0 : x0 = 0
                · subst hx0
                  go_wp2_with fail
                  refine ((HI.out.alloc _).read (by omega) hm5 (cell_past hL0 _) _).mono ?_
                  rintro e w6 ⟨v, g, rfl, hI, hr, hh⟩
                  have HR := Lib.hid hr
                  have HH := Lib.hid hh
                  have HI' := Lib.hid hI
                  clear hI hr hh
                  go_wp2_with fail
                  refine (same_true _ _ _ _ _ _ HR.out (wantL_zero HZ5.out (size_alloc_one HH.out))).mono ?_
                  rintro e w7 ⟨rfl, rfl⟩
                  go_wp2
                  go_roundw
                  case rel => exact ⟨m + 1, by omega, by go_num, HI'.out⟩
                  case measure => simp [intOf]; omega
                · go_wp2_with fail
                  refine (HI.out.read (by omega) hm5 hL0 _).mono ?_
                  rintro e w6 ⟨v, g, rfl, hI, hr, hh⟩
                  have HR := Lib.hid hr
                  have HH := Lib.hid hh
                  have HI' := Lib.hid hI
                  clear hI hr hh
                  go_wp2_with fail
                  refine (same_true _ _ _ _ _ _ HR.out (wantL_pos hx0 HH.out)).mono ?_
                  rintro e w7 ⟨rfl, rfl⟩
                  go_wp2
                  go_roundw
                  case rel => exact ⟨m + 1, by omega, by go_num, HI'.out⟩
                  case measure => simp [intOf]; omega
              · obtain rfl : m = 5 := by omega
                go_wp2
                go_roundw
                case rel => exact ⟨k + 1, by omega, by omega, by go_num, HI.out.mono (by omega)⟩
                case measure => simp [intOf]; omega
          | true =>
            rw [hfb] at hcw
            go_wp2_with fail
            refine (HI.out.flush (by omega)).mono ?_
            rintro e w4 ⟨rfl, hI⟩
            replace HI := Lib.hid hI
            clear hI
            go_wp2_with fail
            go_loopw [11] (fun i wq => ∃ m : Nat, m ≤ 5 ∧ i = .int .i64 m ∧ LastInv w b L (8 * k + 2 + m) wq) (fun i _ => 5 - (intOf i).toNat)
            case atStart => exact ⟨0, by omega, rfl, HI.out.mono (by omega)⟩
            case round =>
              obtain ⟨m, hm, rfl, hI⟩ := hrel
              replace HI := Lib.hid hI
              clear hI
              by_cases hm5 : m < 5
              · obtain ⟨x0, hx60, hL0, hL1⟩ := HI.out.cell hm5
                have hLs := World.block_lt_of_cell? _ _ hL0
                go_wp2_with fail
                refine (sector_any _ _).mono ?_
                rintro e w5 ⟨rfl, rfl⟩
                by_cases hx0 : x0 = 0
                · subst hx0
                  go_wp2_with fail
                  refine ((HI.out.alloc _).read (by omega) hm5 (cell_past hL0 _) _).mono ?_
                  rintro e w6 ⟨v, g, rfl, hI, hr, hh⟩
                  have HR := Lib.hid hr
                  have HH := Lib.hid hh
                  have HI' := Lib.hid hI
                  clear hI hr hh
                  go_wp2_with fail
                  refine (same_true _ _ _ _ _ _ HR.out (wantL_zero HZ5.out (size_alloc_one HH.out))).mono ?_
                  rintro e w7 ⟨rfl, rfl⟩
                  go_wp2
                  go_roundw
                  case rel => exact ⟨m + 1, by omega, by go_num, HI'.out⟩
                  case measure => simp [intOf]; omega
                · go_wp2_with fail
                  refine (HI.out.read (by omega) hm5 hL0 _).mono ?_
                  rintro e w6 ⟨v, g, rfl, hI, hr, hh⟩
                  have HR := Lib.hid hr
                  have HH := Lib.hid hh
                  have HI' := Lib.hid hI
                  clear hI hr hh
                  go_wp2_with fail
                  refine (same_true _ _ _ _ _ _ HR.out (wantL_pos hx0 HH.out)).mono ?_
                  rintro e w7 ⟨rfl, rfl⟩
                  go_wp2
                  go_roundw
                  case rel => exact ⟨m + 1, by omega, by go_num, HI'.out⟩
                  case measure => simp [intOf]; omega
              · obtain rfl : m = 5 := by omega
                go_wp2
                go_roundw
                case rel => exact ⟨k + 1, by omega, by omega, by go_num, HI.out.mono (by omega)⟩
                case measure => simp [intOf]; omega
        · go_wp2_with fail
          go_loopw [11] (fun i wq => ∃ m : Nat, m ≤ 5 ∧ i = .int .i64 m ∧ LastInv w b L (8 * k + 2 + m) wq) (fun i _ => 5 - (intOf i).toNat)
          case atStart => exact ⟨0, by omega, rfl, HI.out.mono (by omega)⟩
          case round =>
            obtain ⟨m, hm, rfl, hI⟩ := hrel
            replace HI := Lib.hid hI
            clear hI
            by_cases hm5 : m < 5
            · obtain ⟨x0, hx60, hL0, hL1⟩ := HI.out.cell hm5
              have hLs := World.block_lt_of_cell? _ _ hL0
              go_wp2_with fail
              refine (sector_any _ _).mono ?_
              rintro e w5 ⟨rfl, rfl⟩
              by_cases hx0 : x0 = 0
              · subst hx0
                go_wp2_with fail
                refine ((HI.out.alloc _).read (by omega) hm5 (cell_past hL0 _) _).mono ?_
                rintro e w6 ⟨v, g, rfl, hI, hr, hh⟩
                have HR := Lib.hid hr
                have HH := Lib.hid hh
                have HI' := Lib.hid hI
                clear hI hr hh
                go_wp2_with fail
                refine (same_true _ _ _ _ _ _ HR.out (wantL_zero HZ5.out (size_alloc_one HH.out))).mono ?_
                rintro e w7 ⟨rfl, rfl⟩
                go_wp2
                go_roundw
                case rel => exact ⟨m + 1, by omega, by go_num, HI'.out⟩
                case measure => simp [intOf]; omega
              · go_wp2_with fail
                refine (HI.out.read (by omega) hm5 hL0 _).mono ?_
                rintro e w6 ⟨v, g, rfl, hI, hr, hh⟩
                have HR := Lib.hid hr
                have HH := Lib.hid hh
                have HI' := Lib.hid hI
                clear hI hr hh
                go_wp2_with fail
                refine (same_true _ _ _ _ _ _ HR.out (wantL_pos hx0 HH.out)).mono ?_
                rintro e w7 ⟨rfl, rfl⟩
                go_wp2
                go_roundw
                case rel => exact ⟨m + 1, by omega, by go_num, HI'.out⟩
                case measure => simp [intOf]; omega
            · obtain rfl : m = 5 := by omega
              go_wp2
              go_roundw
              case rel => exact ⟨k + 1, by omega, by omega, by go_num, HI.out.mono (by omega)⟩
              case measure => simp [intOf]; omega
      · go_wp2
        go_ret
        exact ⟨rfl, HI.out.below⟩
    · go_wp2
      go_ret
      exact ⟨rfl, HI.out.below⟩

end Go.Proofs.Ytmedpmhiebcdjaa
