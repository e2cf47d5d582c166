/- The laws' helper 'fresh': a state of so many blocks, that has nothing. -/
import Derived.Test.YthapggobpfcmjaaGreatJbl
set_option maxRecDepth 100000
namespace Go.Proofs.YthapggobpfcmjaaGreat
namespace Jn
open Go.RowKit

theorem infoI : (Tryz.prog.info? 3).map (fun i => (i.zero, i.size, i.bytes)) = some (some (.int .i64 0), 1, 8) := by kernel_rfl
abbrev noneV (k : Nat) : List Value := List.replicate k (.int .i64 (-1))
structure FrI (w : World) (p : Nat) (v : Value) (k : Nat) (wr : World) : Prop where
  res : wr.heap[p]? = some (.cells zeroS 35 (0, 0))
  cur : wr.heap[p + 1]? = some (.cells (stI 1 1 0 0 0 v) 35 (0, 0))
  own : wr.ownsRow (p + 2) 3 1 v k (noneV k)
  size : p + 2 ≤ wr.heap.size
  below : Below p w wr

theorem nv_own {W : World} {base : Nat} {v : Value} {l : List Int} (h : W.ownsRow base 3 1 v l.length (l.map (Value.int .i64))) : ∃ g, NV .i64 W v l g ∧ base ≤ g := by
  rcases h.2 with ⟨rfl, h0⟩ | ⟨g, cap, cur, rfl, hb, hg, hc, -, -, htk⟩
  · obtain rfl : l = [] := List.eq_nil_of_length_eq_zero h0
    exact ⟨base, ⟨⟨none, 0, rfl, by simp, (fun _ => rfl), fun h => absurd rfl h⟩, fun h => absurd rfl h⟩, Nat.le_refl _⟩
  · refine ⟨g, ⟨⟨_, cap, rfl, hc, (fun e => by cases e), fun _ => ⟨0, rfl, fun i hi => ?_⟩⟩, fun _ => lt_of_heap hg⟩, hb⟩
    have hcells := h.cells (g := g) rfl
    have k1 := hcells i (.int .i64 l[i]) (by simp [hi])
    rw [add_lit] at k1
    simpa using k1

set_option maxHeartbeats 2000000 in
theorem fresh_any (N : Nat) (w : World) (hN : N ≤ 65536) :
    Calls Tryz.prog 8 #[.int .i64 (N : Int)] w fun e w' => (∃ v g, e = .returned (.agg (stI 1 1 0 0 0 v)) ∧ NV .i64 w' v (List.replicate N (-1)) g ∧ w.heap.size ≤ g) ∧ Below w.heap.size w w' := by
  obtain ⟨i0, hi, hz0, hz1, hz2⟩ := info_parts infoI
  go_enter Tryz.func8, Tryz.ntmps8
  go_wp2
  have hst : FrI w w.heap.size (.slice none 0 0) 0 ((w.alloc (.cells zeroS 35)).alloc (.cells (stI 1 1 0 0 0 (.slice none 0 0)) 35)) :=
    ⟨(Below.heap_alloc _ _ _ (by simp)).trans (heap_alloc_new w _), (by
      have h := heap_alloc_new (w.alloc (.cells zeroS 35)) (.cells (stI 1 1 0 0 0 (.slice none 0 0)) 35)
      rw [show (w.alloc (.cells zeroS 35)).heap.size = w.heap.size + 1 by simp] at h
      exact h), ⟨rfl, .inl ⟨rfl, rfl⟩⟩, by simp, ((Below.refl _ w).alloc (Nat.le_refl _) _).alloc (by simp) _⟩
  obtain ⟨p, hp⟩ : ∃ p, p = w.heap.size := ⟨_, rfl⟩
  change Code.wp _ _ _ _ ((w.alloc (.cells zeroS 35)).alloc (.cells (stI 1 1 0 0 0 (.slice none 0 0)) 35))
  generalize (w.alloc (.cells zeroS 35)).alloc (.cells (stI 1 1 0 0 0 (.slice none 0 0)) 35) = W0 at hst ⊢
  rw [← hp] at hst ⊢
  have HPW := Lib.hid hp
  have HST := Lib.hid hst
  clear hp hst
  go_loopw [4] (fun i wr => ∃ (k : Nat) (v : Value), k ≤ N ∧ i = .int .i64 k ∧ FrI w p v k wr) (fun i _ => N - (intOf i).toNat)
  case atStart => exact ⟨0, _, Nat.zero_le _, rfl, HST.out⟩
  case round =>
    obtain ⟨k, v, hk, rfl, hI⟩ := hrel
    obtain ⟨a, cap, rfl⟩ : ∃ a cap, v = .slice a k cap := by
      rcases hI.own.2 with ⟨rfl, h0⟩ | ⟨g, cap, cur, rfl, -⟩
      · exact ⟨none, 0, by rw [h0]⟩
      · exact ⟨_, cap, rfl⟩
    have c5 : wr.cell? ⟨p + 1, 5, none⟩ = some (.slice a k cap) := cell_of_row wr (p + 1) 5 _ _ _ hI.cur
    have hp1 : p + 1 < wr.heap.size := lt_of_heap hI.cur
    by_cases hlt : k < N
    · have hk' : (k : Int) < (N : Int) := by omega
      have ho2 := Lib.hid (ownsRow_touch hI.own ((Touch.refl Emp wr).alloc (.cells #[.int .i64 (-1)] 3)) (fun _ _ => id))
      have hx : (wr.alloc (.cells #[.int .i64 (-1)] 3)).cell? ⟨wr.heap.size, 0, none⟩ = some (.int .i64 (-1)) := cell_of_row _ wr.heap.size 0 _ _ _ (heap_alloc_new wr _)
      have HX := Lib.hid hx
      have HI := Lib.hid hI
      have hmx : k + 1 ≤ maxLen := by unfold maxLen; omega
      have hby : (k + 1) * 8 ≤ 140737488355328 := by omega
      have hcur2 := (Below.heap_alloc wr (.cells #[.int .i64 (-1)] 3) _ hp1).trans hI.cur
      have HC2 := Lib.hid hcur2
      have hszw : p + 2 ≤ (wr.alloc (.cells #[.int .i64 (-1)] 3)).heap.size := by have := hI.size; simp; omega
      have HSZ := Lib.hid hszw
      clear hI hx hcur2 hszw
      go_wp2_with (at_builtin; refine wpList_append_own _ rfl (.tmp 12) (.tmp 13) 33 rfl (p + 2) 3 i0 (.int .i64 0) 1 8 Tryz.underlying33 hi hz0 hz1 hz2 rfl (by decide) (.slice a k cap) k (noneV k) rfl ho2.out ⟨wr.heap.size, 0, none⟩ 1 1 [.int .i64 (-1)] rfl (by simp) (fun j u hj => by
          cases j with
          | zero => simp at hj; subst hj; exact HX.out
          | succ j => simp at hj) (fun u hu => by simp at hu; subst hu; rfl) hmx hby HSZ.out ?_; intro v' w1 hown' hgrow hnil; clear hnil; obtain ⟨g', cap', rfl⟩ := own_succ hown'; have HO' := Lib.hid hown'; have HG := Lib.hid hgrow; clear hown' hgrow; have ht1 := Touch.of_grown (F := fun j => (Value.slice a k cap).ownBlock = some j) HG.out (fun k e => e); have hcur3 := ht1.at HC2.out (fun e => by have := (ho2.out.lt _ e).1; omega); have f5 := frozen_of_row _ _ 5 _ _ hcur3; have c5n : w1.cell? ⟨p + 1, 5, none⟩ = some (.slice a k cap) := cell_of_row w1 (p + 1) 5 _ _ _ hcur3; have HC3 := Lib.hid hcur3; have HT1 := Lib.hid ht1; clear hcur3 ht1)
      have h := HI.out
      have ht : Touch (fun j => (Value.slice a k cap).ownBlock = some j ∨ j = p + 1) wr (w1.setCell ⟨p + 1, 5, none⟩ (.slice (some ⟨g', 0, none⟩) (k + 1) cap')) :=
        (((Touch.refl (fun j => (Value.slice a k cap).ownBlock = some j ∨ j = p + 1) wr).alloc _).trans HT1.out (fun _ h _ => .inl h)).setCell (a := ⟨p + 1, 5, none⟩) (.inl (.inr rfl)) _
      have hlo : ∀ j, (Value.slice a k cap).ownBlock = some j → p + 2 ≤ j := fun j e => (h.own.lt j e).1
      have hgl := (HO'.out.lt g' rfl).1
      refine ⟨⟨k + 1, .slice (some ⟨g', 0, none⟩) (k + 1) cap', by omega, by go_num, ⟨ht.at h.res ?_, ?_, ?_, Nat.le_trans h.size ht.size, h.below.trans (ht.to_below (fun j _ hj => ?_) (by have := h.size; omega))⟩⟩, by simp [intOf]; omega⟩
      · rintro (e | e)
        · have := hlo _ e; omega
        · omega
      · rw [heap_setCell_same _ _ 5 _ _ _ HC3.out]
        rfl
      · rw [noneV, List.replicate_succ']
        exact ownsRow_touch HO'.out ((Touch.refl (fun j => j = p + 1) w1).setCell (a := ⟨p + 1, 5, none⟩) (.inl rfl) _) (fun j e h2 => by
          have := (HO'.out.lt j e).1
          omega)
      · rcases hj with e | e
        · have := hlo _ e; omega
        · omega
    · obtain rfl : k = N := by omega
      have HI := Lib.hid hI
      have d0 : wr.cell? ⟨p + 1, 0, none⟩ = some (.int .u32 1) := cell_of_row wr (p + 1) 0 _ _ _ hI.cur
      have d1 : wr.cell? ⟨p + 1, 1, none⟩ = some (.int .u64 1) := cell_of_row wr (p + 1) 1 _ _ _ hI.cur
      have d2 : wr.cell? ⟨p + 1, 2, none⟩ = some (.int .u64 0) := cell_of_row wr (p + 1) 2 _ _ _ hI.cur
      have d3 : wr.cell? ⟨p + 1, 3, none⟩ = some (.int .i64 0) := cell_of_row wr (p + 1) 3 _ _ _ hI.cur
      have d4 : wr.cell? ⟨p + 1, 4, none⟩ = some (.int .i64 0) := cell_of_row wr (p + 1) 4 _ _ _ hI.cur
      have r0 : wr.cell? ⟨p, 0, none⟩ = some (.int .u32 0) := cell_of_row wr p 0 _ _ _ hI.res
      have r1 : wr.cell? ⟨p, 1, none⟩ = some (.int .u64 0) := cell_of_row wr p 1 _ _ _ hI.res
      have r2 : wr.cell? ⟨p, 2, none⟩ = some (.int .u64 0) := cell_of_row wr p 2 _ _ _ hI.res
      have r3 : wr.cell? ⟨p, 3, none⟩ = some (.int .i64 0) := cell_of_row wr p 3 _ _ _ hI.res
      have r4 : wr.cell? ⟨p, 4, none⟩ = some (.int .i64 0) := cell_of_row wr p 4 _ _ _ hI.res
      have r5 : wr.cell? ⟨p, 5, none⟩ = some (.slice none 0 0) := cell_of_row wr p 5 _ _ _ hI.res
      have f0 := frozen_of_row wr p 0 _ _ hI.res
      have f1 := frozen_of_row wr p 1 _ _ hI.res
      have f2 := frozen_of_row wr p 2 _ _ hI.res
      have f3 := frozen_of_row wr p 3 _ _ hI.res
      have f4 := frozen_of_row wr p 4 _ _ hI.res
      have f5 := frozen_of_row wr p 5 _ _ hI.res
      clear hI hk
      go_wp2_with fail
      change bodyPost _ _ _ _ _ (six wr p (.int .u32 1) (.int .u64 1) (.int .u64 0) (.int .i64 0) (.int .i64 0) (.slice a k cap))
      have hX := six_at HI.out.res (.int .u32 1) (.int .u64 1) (.int .u64 0) (.int .i64 0) (.int .i64 0) (.slice a k cap)
      have hT := six_touch wr p (.int .u32 1) (.int .u64 1) (.int .u64 0) (.int .i64 0) (.int .i64 0) (.slice a k cap)
      generalize six wr p (.int .u32 1) (.int .u64 1) (.int .u64 0) (.int .i64 0) (.int .i64 0) (.slice a k cap) = W7 at hX hT ⊢
      have k0 := cell_of_row _ _ 0 _ _ _ hX
      have k1 := cell_of_row _ _ 1 _ _ _ hX
      have k2 := cell_of_row _ _ 2 _ _ _ hX
      have k3 := cell_of_row _ _ 3 _ _ _ hX
      have k4 := cell_of_row _ _ 4 _ _ _ hX
      have k5 := cell_of_row _ _ 5 _ _ _ hX
      simp only [List.getElem?_toArray, List.getElem?_cons_succ, List.getElem?_cons_zero] at k0 k1 k2 k3 k4 k5
      have hown7 := ownsRow_touch HI.out.own hT (fun j e h2 => by have := (HI.out.own.lt j e).1; omega)
      have hb7 : Below p w W7 := HI.out.below.trans (hT.to_below (fun j _ e => by omega) (by have := HI.out.size; omega))
      obtain ⟨g, hnv, hbg⟩ := nv_own (l := List.replicate k (-1)) (base := p + 2) (v := .slice a k cap) (W := W7) (by
        have e : (List.replicate k (-1 : Int)).map (Value.int .i64) = noneV k := by simp [noneV]
        rw [e, List.length_replicate]
        exact hown7)
      have hpw := HPW.out
      refine bodyPost_ret (v := .agg (stI 1 1 0 0 0 (.slice a k cap))) ?_ rfl ⟨⟨_, g, rfl, hnv, by omega⟩, by rw [← hpw]; exact hb7⟩
      clear hnv hown7 hX hT hb7
      simp [results, Tryz.results8, go_sem, k0, k1, k2, k3, k4, k5]

end Jn
end Go.Proofs.YthapggobpfcmjaaGreat
