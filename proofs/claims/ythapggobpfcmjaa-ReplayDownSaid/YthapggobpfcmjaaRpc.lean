/- Where epochs start, told by tags: starts. No condition. -/
import Derived.Test.YthapggobpfcmjaaRpb
set_option maxRecDepth 100000
namespace Go.Proofs.Ythapggobpfcmjaa
namespace Rp
open Go.RowKit

/-- While starts runs. -/
structure StI (w : World) (v : Value) (l : List Fo) (g k : Nat) (wr : World) : Prop where
  map : ∃ es clk, wr.heap[w.heap.size]? = some (.map es clk) ∧ UMap es (startsA (l.take k))
  fv : FV wr v l g
  below : Below w.heap.size w wr
  own : ∃ n D, n ≤ k ∧ OwnM wr w.heap.size n D
def foV (x : Fo) : Array Value := #[.int .u32 (x.1.e : Int), .int .u64 (x.1.s : Int), .int .u64 (x.1.q : Int), .int .u64 (x.1.f : Int), .int .i64 x.1.i, .int .i64 x.1.c, .int .i64 x.1.d, .int .i64 (x.2 : Int)]

set_option maxHeartbeats 4000000 in
theorem starts_ok {w : World} {v : Value} {l : List Fo} {g : Nat} (h : FV w v l g) (hlen : l.length ≤ 4294967296) (he : ∀ x ∈ l, x.1.e < 4294967296) :
    Calls Try.prog 64 #[v] w fun e w' => (∃ es clk, e = .returned (.map (some w.heap.size)) ∧ w'.heap[w.heap.size]? = some (.map es clk) ∧ UMap es (startsA l)) ∧ (∃ n D, n ≤ l.length ∧ OwnM w' w.heap.size n D) ∧ Below w.heap.size w w' := by
  have H := Lib.hid h
  have HE := Lib.hid he
  obtain ⟨a, cap, rfl, hcap, hnil, hne⟩ := h.form
  clear h hne hnil hcap he
  go_enter Try.func64, Try.ntmps64
  have hmm := @run_makeMap Try.prog
  go_wp2
  go_loopw [11] (fun i wr => ∃ k : Nat, k ≤ l.length ∧ i = .int .i64 k ∧ StI w (.slice a l.length cap) l g k wr) (fun i _ => l.length - (intOf i).toNat)
  case atStart => exact ⟨0, Nat.zero_le _, rfl, ⟨⟨#[], 0, heap_alloc_new w _, UMap_nil⟩, H.out.below ((Below.refl _ w).alloc (Nat.le_refl _) _), (Below.refl _ w).alloc (Nat.le_refl _) _, 0, _, Nat.le_refl _, World.ownsMap_made w _ _ _⟩⟩
  case round =>
    obtain ⟨k, hk, rfl, hI⟩ := hrel
    by_cases hlt : k < l.length
    · obtain ⟨cap', e1, -, w0, w1, w2, w3, w4, w5, w6, w7⟩ := hI.fv.at hlt
      obtain ⟨rfl, rfl⟩ : a = some ⟨g, 0, none⟩ ∧ cap = cap' := by simpa using e1
      obtain ⟨es, clk, hm, hs⟩ := hI.map
      have hgs : g < wr.heap.size := World.block_lt_of_cell? wr _ w1
      have hml := lt_of_heap hm
      have hk' : (k : Int) < (l.length : Int) := by omega
      generalize hek : l[k] = ek at w0 w1 w2 w3 w4 w5 w6 w7
      have htk : l.take (k + 1) = l.take k ++ [ek] := by rw [List.take_add_one, List.getElem?_eq_getElem hlt, hek]; rfl
      have hm2 : (wr.alloc (.cells (foV ek) 96)).heap[w.heap.size]? = some (.map es clk) := (Below.heap_alloc _ _ _ hml).trans hm
      have hlu := run_lookup_ok hs ek.1.e _ hm2
      obtain ⟨es', clk', hs', hup⟩ := run_update_u (clk := clk) hs (starts_nodup _) ek.1.e ek.1.s
      have hup2 := hup w.heap.size _ hm2
      have hb2 : Below w.heap.size w (wr.alloc (.cells (foV ek) 96)) := hI.below.alloc hI.below.size _
      have htb : Touch (fun j => j = w.heap.size) _ _ := (Touch.refl (fun j => j = w.heap.size) (wr.alloc (.cells (foV ek) 96))).setBlock (g := w.heap.size) (.inl rfl) (.map es' clk')
      have HI := Lib.hid hI
      have HS := Lib.hid hs
      have HS2 := Lib.hid hs'
      have HM := Lib.hid hm2
      have HB := Lib.hid hb2
      have HT := Lib.hid htb
      have HTK := Lib.hid htk
      have HMM := Lib.hid (show ek ∈ l by rw [← hek]; exact List.getElem_mem _)
      have keepI : StI w (.slice (some ⟨g, 0, none⟩) l.length cap) l g k wr → startsA (l.take (k + 1)) = startsA (l.take k) → StI w (.slice (some ⟨g, 0, none⟩) l.length cap) l g (k + 1) (wr.alloc (.cells (foV ek) 96)) := fun h e =>
        ⟨⟨es, clk, HM.out, by rw [e]; exact HS.out⟩, h.fv.below ((Below.refl _ _).alloc (Nat.le_refl _) _), HB.out, by obtain ⟨n, D, h1, h2⟩ := h.own; exact ⟨n, D, by omega, h2.alloc _⟩⟩
      have putI : StI w (.slice (some ⟨g, 0, none⟩) l.length cap) l g k wr → startsA (l.take (k + 1)) = putA (startsA (l.take k)) ek.1.e ek.1.s → StI w (.slice (some ⟨g, 0, none⟩) l.length cap) l g (k + 1) (ChangeMaps.setBlock (wr.alloc (.cells (foV ek) 96)) w.heap.size (.map es' clk')) := fun h e =>
        ⟨⟨es', clk', heap_setBlock_same HM.out, by rw [e]; exact HS2.out⟩, (h.fv.below ((Below.refl _ _).alloc (Nat.le_refl _) _)).touch HT.out (fun hl e => by
          have := H.out.lt hl; omega), ((Touch.of_below (F := Emp) HB.out).trans HT.out (fun j hj hlt2 => by omega)).below, by
          obtain ⟨n, D, h1, h2⟩ := h.own
          obtain ⟨w', hr, h3, -⟩ := (h2.alloc (.cells (foV ek) 96)).update keyU Try.mapU (by unfold maxLen; omega) (keyOf_u (HE.out _ HMM.out)) (val := .int .u64 (ek.1.s : Int)) rfl
          rw [hup w.heap.size _ HM.out] at hr
          simp only [Result.ok.injEq, true_and] at hr
          subst hr
          exact ⟨n + 1, _, by omega, h3⟩⟩
      clear hI e1 hs hs' hup hm2 hb2 htb htk
      cases hg : getA (startsA (l.take k)) ek.1.e with
      | none =>
        rw [hg] at hlu
        simp only [Option.getD_none, Option.isSome_none] at hlu
        have hst : startsA (l.take (k + 1)) = putA (startsA (l.take k)) ek.1.e ek.1.s := by rw [HTK.out, starts_snoc]; unfold stStep; rw [hg]
        have PU := Lib.hid (putI HI.out hst)
        clear hg hst putI keepI
        unfold foV at *
        go_wp2_with fail
        exact ⟨⟨k + 1, by omega, by go_num, PU.out⟩, by simp [intOf]; omega⟩
      | some s0 =>
        rw [hg] at hlu
        simp only [Option.getD_some, Option.isSome_some] at hlu
        by_cases hlt0 : ek.1.s < s0
        · have hst : startsA (l.take (k + 1)) = putA (startsA (l.take k)) ek.1.e ek.1.s := by rw [HTK.out, starts_snoc]; unfold stStep; rw [hg]; simp only [if_pos hlt0]
          have PU := Lib.hid (putI HI.out hst)
          have hlt1 : (ek.1.s : Int) < (s0 : Int) := by omega
          clear hg hst putI keepI hlt0
          unfold foV at *
          go_wp2_with fail
          exact ⟨⟨k + 1, by omega, by go_num, PU.out⟩, by simp [intOf]; omega⟩
        · have hst : startsA (l.take (k + 1)) = startsA (l.take k) := by rw [HTK.out, starts_snoc]; unfold stStep; rw [hg]; simp only [if_neg hlt0]
          have PU := Lib.hid (keepI HI.out hst)
          have hlt1 : ¬ (ek.1.s : Int) < (s0 : Int) := by omega
          clear hg hst putI keepI hlt0
          unfold foV at *
          go_wp2_with fail
          exact ⟨⟨k + 1, by omega, by go_num, PU.out⟩, by simp [intOf]; omega⟩
    · obtain rfl : k = l.length := by omega
      have HI := Lib.hid hI
      clear hI hk
      go_wp2
      go_ret
      obtain ⟨es, clk, hm, hs⟩ := HI.out.map
      rw [List.take_length] at hs
      exact ⟨⟨es, clk, rfl, hm, hs⟩, HI.out.own, HI.out.below⟩
end Rp
end Go.Proofs.Ythapggobpfcmjaa
