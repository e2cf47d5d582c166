/- Is a batch whole: whole. Of right tags. -/
import Derived.Test.YthapggobpfcmjaaRpc
set_option maxRecDepth 100000
namespace Go.Proofs.Ythapggobpfcmjaa
namespace Rp
open Go.RowKit

theorem len_sub : ∀ (l m : List Nat), l.Nodup → (∀ x ∈ l, x ∈ m) → l.length ≤ m.length
  | [], _, _, _ => Nat.zero_le _
  | x :: l, m, hn, hs => by
    rw [List.nodup_cons] at hn
    have hx := hs x (by simp)
    have := len_sub l (m.erase x) hn.2 fun y hy => (List.mem_erase_of_ne fun e => hn.1 (by rw [← e]; exact hy)).2 (hs y (by simp [hy]))
    rw [List.length_erase_of_mem hx] at this
    have := List.length_pos_of_mem hx
    simp only [List.length_cons]; omega
theorem all_there {l : List Nat} {n : Nat} (hn : l.Nodup) (hb : ∀ x ∈ l, x < n) : l.length = n ↔ ∀ k, k < n → k ∈ l := by
  constructor
  · intro he k hk
    refine Classical.byContradiction fun hc => ?_
    have := len_sub (k :: l) (List.range n) (List.nodup_cons.2 ⟨hc, hn⟩) fun x hx => by
      rcases List.mem_cons.1 hx with rfl | hx
      · simpa using hk
      · simpa using hb x hx
    simp at this; omega
  · intro h
    have h1 := len_sub l (List.range n) hn fun x hx => by simpa using hb x hx
    have h2 := len_sub (List.range n) l List.nodup_range fun x hx => h x (by simpa using hx)
    simp at h1 h2; omega
theorem insT_mem {k x : Nat} {l : List Nat} : x ∈ insT k l ↔ x ∈ l ∨ x = k := by
  unfold insT
  split
  · exact ⟨.inl, fun h => h.elim id fun e => by subst e; assumption⟩
  · simp
theorem insT_nodup {k : Nat} {l : List Nat} (h : l.Nodup) : (insT k l).Nodup := by
  unfold insT
  split
  · exact h
  · rename_i hk
    exact List.nodup_append.2 ⟨h, by simp, fun a ha b hb e => hk (by rw [← List.mem_singleton.1 hb, ← e]; exact ha)⟩

/-- The tags of one batch, in order. -/
def batL (l : List Fo) (seq : Nat) : List Fo := l.filter fun x => x.1.q == seq
theorem batL_in {l : List Fo} {seq : Nat} {x : Fo} (h : x.1.q = seq) : batL (l ++ [x]) seq = batL l seq ++ [x] := by simp [batL, h]
theorem batL_out {l : List Fo} {seq : Nat} {x : Fo} (h : x.1.q ≠ seq) : batL (l ++ [x]) seq = batL l seq := by simp [batL, h]
def seenL (b : List Fo) : List Nat := b.foldl (fun s x => insT x.1.i.toNat s) []
theorem seenL_snoc (b : List Fo) (x : Fo) : seenL (b ++ [x]) = insT x.1.i.toNat (seenL b) := by simp [seenL]
theorem seenL_mem (b : List Fo) (n : Nat) : n ∈ seenL b ↔ ∃ x ∈ b, x.1.i.toNat = n := by
  induction b using snoc_ind with
  | nil => simp [seenL]
  | snoc b x ih =>
    rw [seenL_snoc, insT_mem, ih]
    constructor
    · rintro (⟨y, hy, e⟩ | e)
      · exact ⟨y, by simp [hy], e⟩
      · exact ⟨x, by simp, e.symm⟩
    · rintro ⟨y, hy, e⟩
      rcases List.mem_append.1 hy with h | h
      · exact .inl ⟨y, h, e⟩
      · rw [List.mem_singleton.1 h] at e; exact .inr e.symm
theorem seenL_nodup (b : List Fo) : (seenL b).Nodup := by
  induction b using snoc_ind with
  | nil => exact List.nodup_nil
  | snoc b x ih => rw [seenL_snoc]; exact insT_nodup ih
theorem seenL_nil {b : List Fo} : seenL b = [] ↔ b = [] := by
  constructor
  · intro h
    cases b with
    | nil => rfl
    | cons x b => have := (seenL_mem (x :: b) x.1.i.toNat).2 ⟨x, by simp, rfl⟩; rw [h] at this; simp at this
  · intro h; subst h; rfl
theorem seenL_len (b : List Fo) : (seenL b).length ≤ b.length := by
  induction b using snoc_ind with
  | nil => exact Nat.le_refl _
  | snoc b x ih =>
    rw [seenL_snoc, List.length_append]
    unfold insT
    split
    · simp; omega
    · simp; omega
/-- A batch is whole: its tags have one count, and there is one of each index. -/
def Whole (l : List Fo) (seq : Nat) : Prop := ∃ x ∈ batL l seq, (∀ y ∈ batL l seq, y.1.c = x.1.c) ∧ ∀ k : Nat, (k : Int) < x.1.c → ∃ y ∈ batL l seq, y.1.i = (k : Int)
/-- How many the last one says that there are. -/
def cntL (b : List Fo) : Int := (b.getLast?.map (·.1.c)).getD 0
theorem cntL_snoc (b : List Fo) (x : Fo) : cntL (b ++ [x]) = x.1.c := by simp [cntL]
def RightL (l : List Fo) : Prop := ∀ x ∈ l, Tg.rightB x.1 = true
theorem whole_iff {l : List Fo} (hr : RightL l) {seq : Nat} {c : Int} (hc : ∀ y ∈ batL l seq, y.1.c = c) (h0 : batL l seq = [] → c = 0) : Whole l seq ↔ 0 < c ∧ ((seenL (batL l seq)).length : Int) = c := by
  have hin : ∀ y ∈ batL l seq, 0 ≤ y.1.i ∧ y.1.i < c := fun y hy => by
    have := (Tg.right_iff _).1 (hr y (List.mem_filter.1 hy).1)
    have := hc y hy
    omega
  have hb : ∀ n ∈ seenL (batL l seq), n < c.toNat := fun n hn => by
    obtain ⟨y, hy, rfl⟩ := (seenL_mem _ _).1 hn
    have := hin y hy
    omega
  have ha := all_there (seenL_nodup (batL l seq)) hb
  constructor
  · rintro ⟨x, hx, -, h2⟩
    have hcx := hc x hx
    have := hin x hx
    refine ⟨by omega, ?_⟩
    have := ha.2 fun k hk => (seenL_mem _ _).2 (by
      obtain ⟨y, hy, e⟩ := h2 k (by omega)
      exact ⟨y, hy, by omega⟩)
    omega
  · rintro ⟨hp, hl⟩
    have hne : batL l seq ≠ [] := fun e => by have := h0 e; omega
    obtain ⟨x, hx⟩ := List.exists_mem_of_ne_nil _ hne
    refine ⟨x, hx, fun y hy => (hc y hy).trans (hc x hx).symm, fun k hk => ?_⟩
    have hcx := hc x hx
    obtain ⟨y, hy, e⟩ := (seenL_mem _ _).1 (ha.1 (by omega) k (by omega))
    have := hin y hy
    exact ⟨y, hy, by omega⟩

def SaysB (e : Ending) (p : Prop) : Prop := ∃ b : Bool, e = .returned (.bool b) ∧ (b = true ↔ p)
/-- While whole runs. -/
structure WhI (w : World) (v : Value) (l : List Fo) (g seq k : Nat) (c : Int) (wr : World) : Prop where
  map : ∃ es clk, wr.heap[w.heap.size]? = some (.map es clk) ∧ ISet es (seenL (batL (l.take k) seq))
  fv : FV wr v l g
  below : Below w.heap.size w wr
  one : ∀ y ∈ batL (l.take k) seq, y.1.c = c
  nil : batL (l.take k) seq = [] → c = 0

theorem WhI.skip {w wr wr' : World} {v : Value} {l : List Fo} {g seq k : Nat} {c : Int} {x : Fo} (h : WhI w v l g seq k c wr) (ht : l.take (k + 1) = l.take k ++ [x]) (hx : x.1.q ≠ seq) (hb : Below wr.heap.size wr wr') : WhI w v l g seq (k + 1) c wr' := by
  obtain ⟨es, clk, hm, hs⟩ := h.map
  have e : batL (l.take (k + 1)) seq = batL (l.take k) seq := by rw [ht, batL_out hx]
  exact ⟨⟨es, clk, (hb.block _ (lt_of_heap hm)).trans hm, by rw [e]; exact hs⟩, h.fv.below hb, ⟨hb.os.trans h.below.os, hb.tape.trans h.below.tape, hb.output.trans h.below.output, Nat.le_trans h.below.size hb.size, fun j hj => (hb.block j (Nat.lt_of_lt_of_le hj h.below.size)).trans (h.below.block j hj)⟩, by rw [e]; exact h.one, by rw [e]; exact h.nil⟩

set_option maxHeartbeats 4000000 in
theorem whole_ok {w : World} {v : Value} {l : List Fo} {g : Nat} (h : FV w v l g) (hlen : l.length ≤ 4294967296) (hr : RightL l) (seq : Nat) :
    Calls Try.prog 53 #[v, .int .u64 (seq : Int)] w fun e w' => SaysB e (Whole l seq) ∧ Below w.heap.size w w' := by
  have H := Lib.hid h
  have HR := Lib.hid hr
  obtain ⟨a, cap, rfl, hcap, hnil, hne⟩ := h.form
  clear h hne hnil hcap hr
  go_enter Try.func53, Try.ntmps53
  have hmm := @run_makeMap Try.prog
  go_wp2
  go_loopw [12, 5] (fun i c wr => ∃ (k : Nat) (c' : Int), k ≤ l.length ∧ i = .int .i64 k ∧ c = .int .i64 c' ∧ WhI w (.slice a l.length cap) l g seq k c' wr) (fun i c _ => l.length - (intOf i).toNat)
  case atStart => exact ⟨0, 0, Nat.zero_le _, rfl, rfl, ⟨⟨#[], 0, heap_alloc_new w _, ISet_nil⟩, H.out.below ((Below.refl _ w).alloc (Nat.le_refl _) _), (Below.refl _ w).alloc (Nat.le_refl _) _, (fun y hy => by simp [batL] at hy), fun _ => rfl⟩⟩
  case round =>
    obtain ⟨k, c0, hk, rfl, rfl, hI⟩ := hrel
    by_cases hlt : k < l.length
    · obtain ⟨cap', e1, -, w0, w1, w2, w3, w4, w5, w6, w7⟩ := hI.fv.at hlt
      obtain ⟨rfl, rfl⟩ : a = some ⟨g, 0, none⟩ ∧ cap = cap' := by simpa using e1
      obtain ⟨es, clk, hm, hs⟩ := hI.map
      have hgs : g < wr.heap.size := World.block_lt_of_cell? wr _ w1
      have hml := lt_of_heap hm
      have hk' : (k : Int) < (l.length : Int) := by omega
      have hin := (Tg.right_iff _).1 (HR.out _ (List.getElem_mem hlt))
      generalize hek : l[k] = ek at w0 w1 w2 w3 w4 w5 w6 w7 hin
      have htk : l.take (k + 1) = l.take k ++ [ek] := by rw [List.take_add_one, List.getElem?_eq_getElem hlt, hek]; rfl
      have hmem : ek ∈ l := by rw [← hek]; exact List.getElem_mem _
      have hm2 : (wr.alloc (.cells (foV ek) 96)).heap[w.heap.size]? = some (.map es clk) := (Below.heap_alloc _ _ _ hml).trans hm
      have hln := fun ty => run_len_iset hs ty _ hm2
      have hbA : Below wr.heap.size wr (wr.alloc (.cells (foV ek) 96)) := (Below.refl _ _).alloc (Nat.le_refl _) _
      have HI := Lib.hid hI
      have HTK := Lib.hid htk
      have HIN := Lib.hid hin
      have HMM := Lib.hid hmem
      clear e1 htk hin hmem
      by_cases hq : ek.1.q = seq
      · have hq1 : ((ek.1.q : Int) == (seq : Int)) = true := by simp [hq]
        have hq2 : ((ek.1.q : Int) != (seq : Int)) = false := by simp [hq]
        have HQ := Lib.hid hq
        clear hq
        have hpos : ((seenL (batL (l.take k) seq)).length : Int) > 0 ↔ batL (l.take k) seq ≠ [] := by
          constructor
          · intro h1 h2; rw [h2] at h1; simp [seenL] at h1
          · intro h1
            have := List.length_pos_iff.2 fun e => h1 (seenL_nil.1 e)
            omega
        by_cases hbad : batL (l.take k) seq ≠ [] ∧ ek.1.c ≠ c0
        · have hp := hpos.2 hbad.1
          have hc1 : (ek.1.c != c0) = true := by simp [hbad.2]
          have hc2 : (ek.1.c == c0) = false := by simp [hbad.2]
          have HN := Lib.hid (show ¬ Whole l seq from fun ⟨x, hx, h1, _⟩ => by
            obtain ⟨y, hy⟩ := List.exists_mem_of_ne_nil _ hbad.1
            have hyl : y ∈ batL l seq := by
              obtain ⟨h1, h2⟩ := List.mem_filter.1 hy
              exact List.mem_filter.2 ⟨List.mem_of_mem_take h1, h2⟩
            have e1 := h1 y hyl
            have e2 := h1 ek (List.mem_filter.2 ⟨HMM.out, by simpa using HQ.out⟩)
            have e3 := HI.out.one y hy
            exact hbad.2 (by omega))
          have HB := Lib.hid hbA
          clear hI hs hm hm2 hbad hpos hbA
          unfold foV at *
          go_wp2_with fail
          go_ret
          exact ⟨⟨false, rfl, by simp [HN.out]⟩, HI.out.below.alloc HI.out.below.size _⟩
        · obtain ⟨n, hn⟩ : ∃ n : Nat, ek.1.i = (n : Int) := ⟨ek.1.i.toNat, by have := HIN.out; omega⟩
          obtain ⟨es', clk', hs', hup⟩ := run_update_iset (P := Try.prog) Try.underlying60 Try.underlying3 (clk := clk) hs n
          rw [← hn] at hup
          have hup2 := hup w.heap.size _ hm2
          have PU := Lib.hid (show WhI w (.slice (some ⟨g, 0, none⟩) l.length cap) l g seq (k + 1) ek.1.c (ChangeMaps.setBlock (wr.alloc (.cells (foV ek) 96)) w.heap.size (.map es' clk')) from by
            have hbt : batL (l.take (k + 1)) seq = batL (l.take k) seq ++ [ek] := by rw [HTK.out, batL_in HQ.out]
            have htb : Touch (fun j => j = w.heap.size) _ _ := (Touch.refl (fun j => j = w.heap.size) (wr.alloc (.cells (foV ek) 96))).setBlock (g := w.heap.size) (.inl rfl) (.map es' clk')
            have hb2 : Below w.heap.size w (wr.alloc (.cells (foV ek) 96)) := hI.below.alloc hI.below.size _
            refine ⟨⟨es', clk', heap_setBlock_same hm2, ?_⟩, (hI.fv.below hbA).touch htb (fun hl e => by have := H.out.lt hl; omega), ((Touch.of_below (F := Emp) hb2).trans htb (fun j hj hlt2 => by omega)).below, ?_, ?_⟩
            · rw [hbt, seenL_snoc, show ek.1.i.toNat = n by omega]; exact hs'
            · rw [hbt]
              intro y hy
              rcases List.mem_append.1 hy with h1 | h1
              · have h2 := hI.one y h1
                have h3 : batL (l.take k) seq ≠ [] := List.ne_nil_of_mem h1
                have : ek.1.c = c0 := Classical.byContradiction fun h => hbad ⟨h3, h⟩
                omega
              · rw [List.mem_singleton.1 h1]
            · rw [hbt]; intro h; simp at h)
          by_cases hz : batL (l.take k) seq = []
          · have hp : ¬ ((seenL (batL (l.take k) seq)).length : Int) > 0 := fun h => (hpos.1 h) hz
            clear hI hs hm hm2 hbad hpos hz hup hs' hbA hn
            unfold foV at *
            go_wp2_with fail
            exact ⟨⟨k + 1, _, by omega, by go_num, rfl, PU.out⟩, by simp [intOf]; omega⟩
          · have hp := hpos.2 hz
            have hcc : ek.1.c = c0 := Classical.byContradiction fun h => hbad ⟨hz, h⟩
            have hc1 : (ek.1.c != c0) = false := by simp [hcc]
            have hc2 : (ek.1.c == c0) = true := by simp [hcc]
            clear hI hs hm hm2 hbad hpos hz hup hs' hbA hcc hn
            unfold foV at *
            go_wp2_with fail
            exact ⟨⟨k + 1, _, by omega, by go_num, rfl, PU.out⟩, by simp [intOf]; omega⟩
      · have hq1 : ((ek.1.q : Int) == (seq : Int)) = false := by simp; omega
        have hq2 : ((ek.1.q : Int) != (seq : Int)) = true := by simp; omega
        have PU := Lib.hid (hI.skip HTK.out hq hbA)
        clear hI hs hm hm2 hq hbA
        unfold foV at *
        go_wp2_with fail
        exact ⟨⟨k + 1, _, by omega, by go_num, rfl, PU.out⟩, by simp [intOf]; omega⟩
    · obtain rfl : k = l.length := by omega
      obtain ⟨es, clk, hm, hs⟩ := hI.map
      have hln := fun ty => run_len_iset hs ty _ hm
      have h1 := hI.one
      have h2 := hI.nil
      rw [List.take_length] at hln h1 h2
      have HW := Lib.hid (whole_iff HR.out h1 h2)
      have HB := Lib.hid hI.below
      clear hI hm hs h1 h2 hk
      by_cases hp : c0 > 0
      · have hd : ∀ z : Int, (z == c0) = decide (z = c0) := fun z => by by_cases h : z = c0 <;> simp [h]
        go_wp2
        go_ret
        refine ⟨⟨_, rfl, ?_⟩, HB.out⟩
        rw [HW.out]
        simp [hp]
      · go_wp2
        go_ret
        refine ⟨⟨_, rfl, ?_⟩, HB.out⟩
        rw [HW.out]
        simp [hp]
        omega
end Rp
end Go.Proofs.Ythapggobpfcmjaa
