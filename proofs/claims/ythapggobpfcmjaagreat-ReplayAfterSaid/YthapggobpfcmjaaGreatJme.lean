/- Which list may be a batch, and its blocks as a map. No condition. -/
import Derived.Test.YthapggobpfcmjaaGreatJmd
set_option maxRecDepth 100000
namespace Go.Proofs.YthapggobpfcmjaaGreat
namespace Jn
open Go.RowKit

/-- While batch runs: its map holds the first k blocks. -/
structure BatI (w : World) (A : Ad) (s : JSt) (v : Value) (E : List WE) (X : Nat → Prop) (m k : Nat) (wr : World) : Prop where
  fine : FineE s.N (E.take k)
  map : ∃ es clk, wr.heap[m]? = some (.map es clk) ∧ ISet es (idsN (E.take k))
  lo : w.heap.size ≤ m
  jat : JAt wr A s
  wl : WL wr v E X
  below : Below w.heap.size w wr

set_option maxHeartbeats 4000000 in
theorem batch_any {w : World} {A : Ad} {s : JSt} {v : Value} {E : List WE} {X : Nat → Prop} (h : JAt w A s) (hw : WL w v E X) (hx : ∀ k, X k → k < w.heap.size) (hlen : E.length ≤ 4294967296) :
    Calls Tryz.prog 24 #[.pointer (some ⟨A.J, 0, none⟩), v] w fun e w' =>
      ((MayE s.N E ∧ ∃ m es clk, e = .returned (.tuple #[.map (some m), .bool true]) ∧ w.heap.size ≤ m ∧ w'.heap[m]? = some (.map es clk) ∧ ISet es (idsN E)) ∨ (¬ MayE s.N E ∧ e = .returned (.tuple #[.map none, .bool false]))) ∧ Below w.heap.size w w' := by
  have H := Lib.hid h
  have HW := Lib.hid hw
  have HX := Lib.hid hx
  obtain ⟨a, cap, rfl, hcap, hnil, hne⟩ := hw.form
  clear h hw hx hne hnil hcap
  by_cases h1 : E.length < 1
  · have h1' : (E.length : Int) < 1 := by omega
    have HN := Lib.hid (show ¬ MayE s.N E from fun hm => by have := hm.1; omega)
    go_enter Tryz.func24, Tryz.ntmps24
    go_wp2
    go_ret2
    exact ⟨.inr ⟨HN.out, rfl⟩, Below.refl _ _⟩
  by_cases h2 : E.length > 24
  · have h1' : ¬ (E.length : Int) < 1 := by omega
    have h2' : (E.length : Int) > 24 := by omega
    have HN := Lib.hid (show ¬ MayE s.N E from fun hm => by have := hm.2.1; omega)
    go_enter Tryz.func24, Tryz.ntmps24
    go_wp2
    go_ret2
    exact ⟨.inr ⟨HN.out, rfl⟩, Below.refl _ _⟩
  have h1' : ¬ (E.length : Int) < 1 := by omega
  have h2' : ¬ (E.length : Int) > 24 := by omega
  go_enter Tryz.func24, Tryz.ntmps24
  have hmm := @run_makeMap Tryz.prog
  go_wp2
  go_loopw [22] (fun i wr => ∃ k : Nat, k ≤ E.length ∧ i = .int .i64 k ∧ BatI w A s (.slice a E.length cap) E X w.heap.size k wr) (fun i _ => E.length - (intOf i).toNat)
  case atStart => exact ⟨0, Nat.zero_le _, rfl, ⟨⟨by simp, by simp⟩, ⟨#[], 0, heap_alloc_new w _, ISet_nil⟩, Nat.le_refl _, H.out.alloc _, HW.out.below ((Below.refl _ w).alloc (Nat.le_refl _) _), (Below.refl _ w).alloc (Nat.le_refl _) _⟩⟩
  case round =>
    obtain ⟨k, hk, rfl, hI⟩ := hrel
    by_cases hlt : k < E.length
    · obtain ⟨g, off, cap', e1, hg, w1, w2⟩ := hI.wl.at hlt
      obtain ⟨rfl, rfl⟩ : a = some ⟨g, off, none⟩ ∧ cap = cap' := by simpa using e1
      obtain ⟨es, clk, hm, hs⟩ := hI.map
      have hgs : g < wr.heap.size := World.block_lt_of_cell? wr _ w1
      obtain ⟨da, dcap, hdv, -, -⟩ := (hI.wl.data E[k] (List.getElem_mem _)).1.form
      have hml := lt_of_heap hm
      have hk' : (k : Int) < (E.length : Int) := by omega
      generalize hek : E[k] = ek at w1 w2 hdv
      obtain ⟨eid, ev, el, eg⟩ := ek
      simp only at hdv w1 w2
      subst hdv
      have hlu := look_any hs eid (wr.alloc (.cells #[.int .i64 eid, .slice da el.length dcap] 41)) ((Below.heap_alloc _ _ _ hml).trans hm)
      have HI := Lib.hid hI
      have HH := has_any ((hI.jat.alloc (.cells #[.int .i64 eid, .slice da el.length dcap] 41)).alloc (.cells #[] 69)) eid
      have hb2 : Below w.heap.size w ((wr.alloc (.cells #[.int .i64 eid, .slice da el.length dcap] 41)).alloc (.cells #[] 69)) := (hI.below.alloc hI.below.size _).alloc (by have := hI.below.size; simp; omega) _
      have HB := Lib.hid hb2
      have EK := Lib.hid hek
      have HT := Lib.hid hI.fine
      clear hI e1 hg hb2 hek
      by_cases ht : 0 ≤ eid ∧ eid.toNat ∈ idsN (E.take k)
      · rw [decide_eq_true ht] at hlu
        have HN := Lib.hid (show ¬ MayE s.N E from fun hm => FineE.twice ⟨hm.2.2.1, hm.2.2.2⟩ hlt (by rw [EK.out]; exact ht.2))
        clear ht HH
        go_wp2_with fail
        go_ret2
        exact ⟨.inr ⟨HN.out, rfl⟩, HB.out⟩
      · rw [decide_eq_false ht] at hlu
        by_cases hr : 0 ≤ eid ∧ eid < (s.N : Int)
        · rw [decide_eq_true hr] at HH
          have HH := Lib.hid HH
          have HR := Lib.hid (And.intro ht hr)
          clear ht hr
          by_cases hl : el.length = 480
          · have hl' : ((el.length : Int) != 480) = false := by simp [hl]
            have hl2 : ((el.length : Int) == 480) = true := by simp [hl]
            obtain ⟨n, hn⟩ : ∃ n : Nat, eid = (n : Int) := ⟨eid.toNat, by have := HR.out.2.1; omega⟩
            obtain ⟨es', clk', hs', hup⟩ := run_update_iset (P := Tryz.prog) Tryz.underlying61 Tryz.underlying3 (clk := clk) hs n
            rw [← hn] at hup
            have hm2 : ((wr.alloc (.cells #[.int .i64 eid, .slice da el.length dcap] 41)).alloc (.cells #[] 69)).heap[w.heap.size]? = some (.map es clk) := (Below.heap_alloc _ _ _ (by simp; omega)).trans ((Below.heap_alloc _ _ _ hml).trans hm)
            have hup2 := hup w.heap.size _ hm2
            have HS := Lib.hid hs'
            have HM2 := Lib.hid hm2
            have HE := Lib.hid (And.intro hl hn)
            clear hs' hup hm2 hl hn
            go_wp2_with fail
            refine HH.out.mono ?_
            rintro e w' ⟨rfl, rfl⟩
            go_wp2_with fail
            obtain ⟨hl, hn⟩ := HE.out
            obtain ⟨ht, hr⟩ := HR.out
            have hek := EK.out
            have htk : E.take (k + 1) = E.take k ++ [⟨eid, .slice da el.length dcap, el, eg⟩] := by rw [List.take_add_one, List.getElem?_eq_getElem hlt, hek]; rfl
            have hnot : eid.toNat ∉ idsN (E.take k) := fun hm => ht ⟨hr.1, hm⟩
            have htb : Touch (fun j => j = w.heap.size) _ _ := (Touch.refl (fun j => j = w.heap.size) ((wr.alloc (.cells #[.int .i64 eid, .slice da el.length dcap] 41)).alloc (.cells #[] 69))).setBlock (g := w.heap.size) (.inl rfl) (.map es' clk')
            refine ⟨⟨k + 1, by omega, by go_num, ?_, ?_, Nat.le_refl _, ?_, ?_, ?_⟩, by simp [intOf]; omega⟩
            · rw [htk]; exact HI.out.fine.snoc ⟨hr.1, hr.2, hl⟩ hnot
            · refine ⟨es', clk', heap_setBlock_same HM2.out, ?_⟩
              have := HS.out
              rw [insT_new (by rw [← Int.toNat_natCast n, ← hn]; exact hnot)] at this
              rw [htk]
              simpa [idsN, hn] using this
            · exact ((HI.out.jat.alloc _).alloc _).touch htb fun j hj => by have := H.out.lt j hj; omega
            · exact ((HI.out.wl.below ((Below.refl _ _).alloc (Nat.le_refl _) _)).below ((Below.refl _ _).alloc (Nat.le_refl _) _)).touch htb fun j hj => by have := HX.out j hj; omega
            · exact ((Touch.of_below (F := Emp) HB.out).trans htb (fun j hj hlt2 => by omega)).below
          · have hl' : ((el.length : Int) != 480) = true := by simp; omega
            have hl2 : ((el.length : Int) == 480) = false := by simp; omega
            have HN := Lib.hid (show ¬ MayE s.N E from fun hm => by have := (hm.2.2.1 _ (List.getElem_mem hlt)).2.2; rw [EK.out] at this; exact hl this)
            clear hl
            go_wp2_with fail
            refine HH.out.mono ?_
            rintro e w' ⟨rfl, rfl⟩
            go_wp2_with fail
            go_ret2
            exact ⟨.inr ⟨HN.out, rfl⟩, HB.out⟩
        · rw [decide_eq_false hr] at HH
          have HH := Lib.hid HH
          have HN := Lib.hid (show ¬ MayE s.N E from fun hm => by have := hm.2.2.1 _ (List.getElem_mem hlt); rw [EK.out] at this; exact hr ⟨this.1, this.2.1⟩)
          clear hr ht
          go_wp2_with fail
          refine HH.out.mono ?_
          rintro e w' ⟨rfl, rfl⟩
          go_wp2_with fail
          go_ret2
          exact ⟨.inr ⟨HN.out, rfl⟩, HB.out⟩
    · obtain rfl : k = E.length := by omega
      have HI := Lib.hid hI
      clear hI hk
      go_wp2
      go_ret2
      obtain ⟨es, clk, hm, hs⟩ := HI.out.map
      have hf := HI.out.fine
      rw [List.take_length] at hf hs
      exact ⟨.inl ⟨⟨by omega, by omega, hf.1, hf.2⟩, _, es, clk, rfl, Nat.le_refl _, hm, hs⟩, HI.out.below⟩

end Jn
end Go.Proofs.YthapggobpfcmjaaGreat
