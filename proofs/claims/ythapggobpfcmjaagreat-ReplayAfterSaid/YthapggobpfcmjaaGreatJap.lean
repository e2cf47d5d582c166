/- journal.back and journal.apart: no condition but that the head is right. -/
import Derived.Test.YthapggobpfcmjaaGreatJmp
import Derived.Test.YthapggobpfcmjaaGreatNum
set_option maxRecDepth 100000
namespace Go.Proofs.YthapggobpfcmjaaGreat
namespace Jn
open Go.RowKit

def backI (P h p : Int) : Int := if p < h then h - p else h - p + P
def keysA (l : List Int) : List Nat := (l.filter (fun p => p != -1)).map Int.toNat
structure ApF (P h u : Int) (l : List Int) : Prop where
  ins : ∀ p ∈ l, p = -1 ∨ (0 ≤ p ∧ p < P ∧ backI P h p ≤ u)
  nd : (keysA l).Nodup
theorem keysA_snoc (l : List Int) (p : Int) : keysA (l ++ [p]) = if p = -1 then keysA l else keysA l ++ [p.toNat] := by
  unfold keysA
  rw [List.filter_append, List.map_append]
  by_cases h : p = -1
  · subst h; simp
  · rw [if_neg h]; simp [h]
theorem ApF.snoc {P h u : Int} {l : List Int} (hf : ApF P h u l) {p : Int} (hp : 0 ≤ p ∧ p < P ∧ backI P h p ≤ u) (hn : p.toNat ∉ keysA l) : ApF P h u (l ++ [p]) := by
  refine ⟨fun q hq => (List.mem_append.1 hq).elim (hf.ins q) fun h1 => .inr (by rw [List.mem_singleton.1 h1]; exact hp), ?_⟩
  rw [keysA_snoc, if_neg (by omega)]
  exact List.nodup_append.2 ⟨hf.nd, by simp, fun a ha b hb e => by rw [List.mem_singleton.1 hb] at e; subst e; exact hn ha⟩
theorem ApF.skip {P h u : Int} {l : List Int} (hf : ApF P h u l) : ApF P h u (l ++ [-1]) := by
  refine ⟨fun q hq => (List.mem_append.1 hq).elim (hf.ins q) fun h1 => .inl (List.mem_singleton.1 h1), ?_⟩
  rw [keysA_snoc, if_pos rfl]
  exact hf.nd
/-- A second block at one place. -/
theorem ApF.twice {P h u : Int} {l : List Int} (hf : ApF P h u l) {k : Nat} (hk : k < l.length) (h0 : 0 ≤ l[k]) (hm : l[k].toNat ∈ keysA (l.take k)) : False := by
  have e : l = l.take k ++ l[k] :: l.drop (k + 1) := by rw [← List.drop_eq_getElem_cons hk, List.take_append_drop]
  have hn := hf.nd
  rw [e] at hn
  have e2 : keysA (l.take k ++ l[k] :: l.drop (k + 1)) = keysA (l.take k) ++ (l[k].toNat :: keysA (l.drop (k + 1))) := by
    unfold keysA
    rw [List.filter_append, List.map_append, List.filter_cons, if_pos (by simp; omega)]
    rfl
  rw [e2] at hn
  exact (List.nodup_append.1 hn).2.2 _ hm _ (List.mem_cons_self ..) rfl

set_option maxHeartbeats 400000 in
theorem back_any (P h p : Int) (w : World) (h0 : 0 ≤ h) (h1 : h < P) (h2 : P ≤ 4611686018427387904) (h3 : 0 ≤ p) (h4 : p < P) :
    Calls Tryz.prog 85 #[.int .i64 P, .int .i64 h, .int .i64 p] w fun e w' => e = .returned (.int .i64 (backI P h p)) ∧ w = w' := by
  unfold backI
  by_cases hlt : p < h
  · rw [if_pos hlt]
    go_enter Tryz.func85, Tryz.ntmps85
    go_wp2
    go_ret
    exact ⟨rfl, rfl⟩
  · rw [if_neg hlt]
    go_enter Tryz.func85, Tryz.ntmps85
    go_wp2
    go_ret
    exact ⟨rfl, rfl⟩

/-- A state as an argument. -/
abbrev stI (ep st sq hd us : Int) (v : Value) : Array Value := #[.int .u32 ep, .int .u64 st, .int .u64 sq, .int .i64 hd, .int .i64 us, v]
structure ApI (w : World) (C : Array Value) (v : Value) (l : List Int) (g : Nat) (P h u : Int) (k : Nat) (wr : World) : Prop where
  fine : ApF P h u (l.take k)
  map : ∃ es clk, wr.heap[w.heap.size + 1]? = some (.map es clk) ∧ ISet es (keysA (l.take k))
  box : wr.heap[w.heap.size]? = some (.cells C 35 (0, 0))
  nv : NV .i64 wr v l g
  below : Below w.heap.size w wr

theorem ApI.drewN {w wr : World} {C : Array Value} {v : Value} {l : List Int} {g : Nat} {P h u : Int} {k : Nat} (i : ApI w C v l g P h u k wr) (n : Nat) : ApI w C v l g P h u k (wr.drewN n) :=
  ⟨i.fine, i.map, i.box, i.nv.drewN n, ((Touch.of_below (F := Emp) i.below).drewN n).below⟩

set_option maxHeartbeats 4000000 in
theorem apart_any {w : World} {P ep st sq hd us : Int} {v : Value} {l : List Int} {g : Nat} (hv : NV .i64 w v l g) (h0 : 0 ≤ hd) (h1 : hd < P) (h2 : P ≤ 4611686018427387904) (hlen : l.length ≤ 4294967296) :
    Calls Tryz.prog 49 #[.int .i64 P, .agg (stI ep st sq hd us v)] w fun e w' => (∃ b, e = .returned (.bool b) ∧ (b = true ↔ ApF P hd us l)) ∧ Below w.heap.size w w' := by
  have HV := Lib.hid hv
  obtain ⟨a, cap, rfl, -⟩ := hv.form
  clear hv
  go_enter Tryz.func49, Tryz.ntmps49
  have hmm := @run_makeMap Tryz.prog
  go_wp2
  go_loopw [14] (fun i wr => ∃ k : Nat, k ≤ l.length ∧ i = .int .i64 k ∧ ApI w (stI ep st sq hd us (.slice a l.length cap)) (.slice a l.length cap) l g P hd us k wr) (fun i _ => l.length - (intOf i).toNat)
  case atStart => exact ⟨0, Nat.zero_le _, rfl, ⟨⟨by simp, by simp [keysA]⟩, ⟨#[], 0, by
    have h := heap_alloc_new (w.alloc (.cells (stI ep st sq hd us (.slice a l.length cap)) 35)) (.map #[] 0)
    rw [show (w.alloc (.cells (stI ep st sq hd us (.slice a l.length cap)) 35)).heap.size = w.heap.size + 1 by simp] at h
    exact h, ISet_nil⟩, (Below.heap_alloc _ _ _ (by simp)).trans (heap_alloc_new w _), (HV.out.alloc _).alloc _, ((Below.refl _ w).alloc (Nat.le_refl _) _).alloc (by simp) _⟩⟩
  case round =>
    obtain ⟨k, hk, rfl, hI⟩ := hrel
    by_cases hlt : k < l.length
    · obtain ⟨off, rfl, w1⟩ := hI.nv.cell_at hlt
      have c3 : wr.cell? ⟨w.heap.size, 3, none⟩ = some (.int .i64 hd) := cell_of_row wr w.heap.size 3 _ _ _ hI.box
      have c4 : wr.cell? ⟨w.heap.size, 4, none⟩ = some (.int .i64 us) := cell_of_row wr w.heap.size 4 _ _ _ hI.box
      have hk' : (k : Int) < (l.length : Int) := by omega
      have HI := Lib.hid hI
      have hlk : l.take (k + 1) = l.take k ++ [l[k]] := by rw [List.take_add_one, List.getElem?_eq_getElem hlt]; rfl
      have hfa : ApF P hd us l → ApF P hd us (l.take (k + 1)) ∧ (l[k] = -1 ∨ (0 ≤ l[k] ∧ l[k] < P ∧ backI P hd l[k] ≤ us)) := fun hf => ⟨⟨fun q hq => hf.ins q (List.mem_of_mem_take hq), by
        have e : l = l.take (k + 1) ++ l.drop (k + 1) := (List.take_append_drop _ l).symm
        have hn := hf.nd
        rw [e, keysA, List.filter_append, List.map_append] at hn
        exact (List.nodup_append.1 hn).1⟩, hf.ins _ (List.getElem_mem hlt)⟩
      have htw : ApF P hd us l → 0 ≤ l[k] → l[k].toNat ∈ keysA (l.take k) → False := fun hf => hf.twice hlt
      have HFA := Lib.hid hfa
      have HTW := Lib.hid htw
      have HLK := Lib.hid hlk
      clear hfa htw hlk
      generalize l[k] = p at w1 HFA HTW HLK
      by_cases hpm : p = -1
      · subst hpm
        clear hI
        go_wp2_with fail
        have h := HI.out
        refine ⟨⟨k + 1, by omega, by go_num, ?_, ?_, h.box, h.nv, h.below⟩, by simp [intOf]; omega⟩
        · rw [HLK.out]; exact h.fine.skip
        · rw [HLK.out, keysA_snoc, if_pos rfl]; exact h.map
      · have hpe : (p == -1) = false := by simpa using hpm
        by_cases hp0 : p < 0
        · have HN := Lib.hid (show ¬ ApF P hd us l from fun hf => by have := (HFA.out hf).2; omega)
          have hd0 : decide (p < 0) = true := decide_eq_true hp0
          clear hI hpm
          go_wp2_with fail
          go_quiet (fail)
          go_wp2_with fail
          go_ret
          exact ⟨⟨false, rfl, by simp [HN.out]⟩, (HI.out.drewN _).below⟩
        have hd0 : decide (p < 0) = false := decide_eq_false hp0
        by_cases hp1 : p ≥ P
        · have HN := Lib.hid (show ¬ ApF P hd us l from fun hf => by have := (HFA.out hf).2; omega)
          have hd1 : decide (p ≥ P) = true := decide_eq_true hp1
          clear hI hpm
          go_wp2_with fail
          go_quiet (fail)
          go_wp2_with fail
          go_ret
          exact ⟨⟨false, rfl, by simp [HN.out]⟩, (HI.out.drewN _).below⟩
        have hd1 : decide (p ≥ P) = false := decide_eq_false hp1
        obtain ⟨b, hb⟩ : ∃ b, backI P hd p = b := ⟨_, rfl⟩
        have BK := Lib.hid fun W => (back_any P hd p W h0 h1 h2 (by omega) (by omega)).mono fun e w' (hh : _ ∧ _) => (⟨by rw [hh.1, hb], hh.2.symm⟩ : e = .returned (.int .i64 b) ∧ w' = W)
        have HBK := Lib.hid hb
        clear hb
        by_cases hbu : b > us
        · have HN := Lib.hid (show ¬ ApF P hd us l from fun hf => by have := (HFA.out hf).2; have := HBK.out; omega)
          have hd2 : decide (b > us) = true := decide_eq_true hbu
          clear hI hpm
          go_wp2_with fail
          go_quiet ((go_at_call 85; exact Calls.quiet_of_same (BK.out _)))
          go_wp2_with fail
          go_ret
          exact ⟨⟨false, rfl, by simp [HN.out]⟩, (HI.out.drewN _).below⟩
        have hd2 : decide (b > us) = false := decide_eq_false hbu
        clear hI
        go_wp2_with fail
        go_quiet ((go_at_call 85; exact Calls.quiet_of_same (BK.out _)))
        replace HI := Lib.hid (HI.out.drewN nq)
        clear c3 c4 w1
        generalize wr.drewN nq = W2 at HI ⊢
        obtain ⟨es, clk, hm, hs⟩ := HI.out.map
        have hlu := look_any hs p W2 hm
        by_cases ht : p.toNat ∈ keysA (l.take k)
        · rw [decide_eq_true ⟨by omega, ht⟩] at hlu
          have HN := Lib.hid (show ¬ ApF P hd us l from fun hf => HTW.out hf (by omega) ht)
          clear ht hpm
          go_wp2_with fail
          go_ret
          exact ⟨⟨false, rfl, by simp [HN.out]⟩, HI.out.below.alloc HI.out.below.size _⟩
        · rw [decide_eq_false fun hx => ht hx.2] at hlu
          have HT := Lib.hid (And.intro ht hpm)
          clear ht hpm
          obtain ⟨n, hn⟩ : ∃ n : Nat, p = (n : Int) := ⟨p.toNat, by omega⟩
          obtain ⟨es', clk', hs', hup⟩ := run_update_iset (P := Tryz.prog) Tryz.underlying61 Tryz.underlying3 (clk := clk) hs n
          rw [← hn] at hup
          have hm2 : (W2.alloc (.cells #[] 69)).heap[w.heap.size + 1]? = some (.map es clk) := (Below.heap_alloc _ _ _ (lt_of_heap hm)).trans hm
          have hup2 := hup (w.heap.size + 1) _ hm2
          have HS := Lib.hid hs'
          have HM2 := Lib.hid hm2
          have HE := Lib.hid hn
          clear hs' hup hm2 hn
          go_wp2_with fail
          have h := HI.out
          have htb : Touch (fun j => j = w.heap.size + 1) _ _ := (Touch.refl (fun j => j = w.heap.size + 1) (W2.alloc (.cells #[] 69))).setBlock (g := w.heap.size + 1) (.inl rfl) (.map es' clk')
          have hn1 : ∀ k, k < w.heap.size + 1 → ¬ k = w.heap.size + 1 := fun k hk => by omega
          refine ⟨⟨k + 1, by omega, by go_num, ?_, ⟨es', clk', heap_setBlock_same HM2.out, ?_⟩, ?_, ?_, ?_⟩, by simp [intOf]; omega⟩
          · rw [HLK.out]
            exact h.fine.snoc ⟨by omega, by omega, by rw [HBK.out]; omega⟩ HT.out.1
          · have := HS.out
            rw [insT_new (by rw [← Int.toNat_natCast n, ← HE.out]; exact HT.out.1)] at this
            rw [HLK.out, keysA_snoc, if_neg HT.out.2, HE.out]
            simpa using this
          · exact htb.at ((Below.heap_alloc _ _ _ (lt_of_heap h.box)).trans h.box) (by omega)
          · exact (h.nv.alloc _).touch htb fun hl => by have := HV.out.lt hl; omega
          · exact ((Touch.of_below (F := Emp) (h.below.alloc h.below.size _)).trans htb (fun j hj hlt2 => by omega)).below
    · obtain rfl : k = l.length := by omega
      have HI := Lib.hid hI
      clear hI hk
      go_wp2
      go_ret
      have hf := HI.out.fine
      rw [List.take_length] at hf
      exact ⟨⟨true, rfl, by simp [hf]⟩, HI.out.below⟩

end Jn
end Go.Proofs.YthapggobpfcmjaaGreat
