/- Which tags are true: fresh. Of right tags, in so far as Sort sorts so many epochs. -/
import Derived.Test.YthapggobpfcmjaaRpv
set_option maxRecDepth 100000
namespace Go.Proofs.Ythapggobpfcmjaa
namespace Rp
open Go.RowKit

theorem Try.infoFo : (Try.prog.info? 96).map (fun i => (i.zero, i.size, i.bytes)) = some (some (.agg #[.int .u32 0, .int .u64 0, .int .u64 0, .int .u64 0, .int .i64 0, .int .i64 0, .int .i64 0, .int .i64 0]), 8, 64) := by kernel_rfl
def EpL (l : List Fo) : Prop := ∀ x ∈ l, x.1.e < 4294967296
theorem foC_len (l : List Fo) : (l.flatMap foC).length = l.length * 8 := by
  induction l with
  | nil => rfl
  | cons x l ih => rw [List.flatMap_cons, List.length_append, ih, List.length_cons]; simp [foC]; omega

/-- While fresh runs: what it has taken so far. -/
structure FrI (w : World) (v : Value) (l : List Fo) (g m1 : Nat) (U : UM) (k : Nat) (o : Value) (wr : World) : Prop where
  own : wr.ownsRow w.heap.size 96 8 o ((l.take k).filter fun x => !staleB l x.1).length (((l.take k).filter fun x => !staleB l x.1).flatMap foC)
  map : ∃ es clk, wr.heap[m1]? = some (.map es clk) ∧ UMap es U
  fv : FV wr v l g
  below : Below w.heap.size w wr
theorem own_form {w : World} {base n size : Nat} {e : TypeId} {v : Value} {xs : List Value} (h : w.ownsRow base e size v n xs) : ∃ a cap, v = .slice a n cap := by
  rcases h.2 with ⟨rfl, h0⟩ | ⟨g, cap, cur, rfl, -⟩
  · exact ⟨none, 0, by rw [h0]⟩
  · exact ⟨_, cap, rfl⟩

set_option maxHeartbeats 4000000 in
theorem fresh_ok {N : Nat} (hS : SortsU N) {w : World} {v : Value} {l : List Fo} {g : Nat} (h : FV w v l g) (hlen : l.length ≤ 1048576) (hr : RightL l) (he : EpL l) (hN : (startsA l).length ≤ N) :
    Calls Try.prog 52 #[v] w fun e w' => (∃ o, e = .returned o ∧ w'.ownsRow w.heap.size 96 8 o (trueL l).length ((trueL l).flatMap foC)) ∧ Below w.heap.size w w' := by
  have H := Lib.hid h
  have HR := Lib.hid hr
  have HE := Lib.hid he
  have HS := Lib.hid hS
  have HN := Lib.hid hN
  obtain ⟨a, cap, rfl, hcap, hnil, hne⟩ := h.form
  obtain ⟨i0, hi, hz0, hz1, hz2⟩ := info_parts Try.infoFo
  have ST := Lib.hid (starts_ok h (by omega) he)
  clear h hne hnil hcap hr he hS hN
  go_enter Try.func52, Try.ntmps52
  go_wp2_with fail
  refine ST.out.mono ?_
  rintro e w1 ⟨⟨es1, clk1, rfl, hm1, hs1⟩, ⟨n1, D1, hn1, hown1⟩, hb1⟩
  have hkeys : ∀ p ∈ startsA l, p.1 < 4294967296 := fun p hp => by
    obtain ⟨x, hx, hxe⟩ := (starts_mem l p.1).1 (List.mem_map.2 ⟨p, hp, rfl⟩)
    have := HE.out x hx
    omega
  have EN := Lib.hid (ends_ok HS.out hm1 hs1 hown1 (by omega) (starts_nodup l) HN.out (by have := starts_len l; omega) hkeys)
  have HB1 := Lib.hid hb1
  clear hm1 hs1 hown1 hb1 hkeys
  go_wp2_with fail
  refine EN.out.mono ?_
  rintro e w2 ⟨⟨ks, rfl, hd, hks, es2, clk2, hm2, hs2⟩, hb2⟩
  have hbb : Below w.heap.size w w2 := ((Touch.of_below (F := Emp) HB1.out).trans (Touch.of_below (F := Emp) hb2) (fun _ h _ => h)).below
  have hw1 : w.heap.size ≤ w1.heap.size := HB1.out.size
  have I0 : FrI w (.slice a l.length cap) l g (w1.heap.size + 1) (endsA (startsA l) ks).1 0 (.slice none 0 0) w2 :=
    ⟨World.ownsRow_nil _ _ _ _, ⟨es2, clk2, hm2, hs2⟩, H.out.below hbb, hbb⟩
  have HI0 := Lib.hid I0
  have HKS := Lib.hid (And.intro hd hks)
  clear hm2 hs2 hb2 hbb I0 hd hks
  go_wp2
  go_loopw [12, 4] (fun i o wr => ∃ (k : Nat) (o' : Value), k ≤ l.length ∧ i = .int .i64 k ∧ o = o' ∧ FrI w (.slice a l.length cap) l g (w1.heap.size + 1) (endsA (startsA l) ks).1 k o' wr) (fun i _ _ => l.length - (intOf i).toNat)
  case atStart => exact ⟨0, _, Nat.zero_le _, rfl, rfl, HI0.out⟩
  case round =>
    obtain ⟨k, o', hk, rfl, rfl, hI⟩ := hrel
    by_cases hlt : k < l.length
    · obtain ⟨cap', e1, -, c0, c1, c2, c3, c4, c5, c6, c7⟩ := hI.fv.at hlt
      obtain ⟨rfl, rfl⟩ : a = some ⟨g, 0, none⟩ ∧ cap = cap' := by simpa using e1
      obtain ⟨es, clk, hm, hs⟩ := hI.map
      have hgs : g < wr.heap.size := World.block_lt_of_cell? wr _ c0
      have hml := lt_of_heap hm
      have hk' : (k : Int) < (l.length : Int) := by omega
      have hin := (Tg.right_iff _).1 (HR.out _ (List.getElem_mem hlt))
      have hte := true_ends HKS.out.1 (fun e => (HKS.out.2 e).trans (starts_mem l e)) (List.getElem_mem hlt) (by unfold top; omega)
      have hsz := hI.below.size
      generalize hek : l[k] = ek at c0 c1 c2 c3 c4 c5 c6 c7 hte
      have htk : l.take (k + 1) = l.take k ++ [ek] := by rw [List.take_add_one, List.getElem?_eq_getElem hlt, hek]; rfl
      obtain ⟨vv, hv1, hv2⟩ := hte
      have hm2 : (wr.alloc (.cells (foV ek) 96)).heap[w1.heap.size + 1]? = some (.map es clk) := (Below.heap_alloc _ _ _ hml).trans hm
      have hlu := run_lookup_u hs ek.1.e _ hm2
      rw [hv1] at hlu
      simp only [Option.getD_some] at hlu
      have HI := Lib.hid hI
      have HTK := Lib.hid htk
      have hfl : ((l.take (k + 1)).filter fun x => !staleB l x.1) = if staleB l ek.1 = false then ((l.take k).filter fun x => !staleB l x.1) ++ [ek] else (l.take k).filter fun x => !staleB l x.1 := by
        rw [htk, List.filter_append]
        by_cases hst : staleB l ek.1 = false
        · rw [if_pos hst]; simp [hst]
        · rw [if_neg hst]; simp at hst; simp [hst]
      clear hI e1 hm hs hm2 htk hv1
      by_cases hq : ek.1.q < vv
      · have hq1 : (ek.1.q : Int) < (vv : Int) := by omega
        rw [if_pos (hv2.1 hq)] at hfl
        have HFL := Lib.hid hfl
        obtain ⟨oa, oc, hof⟩ := own_form HI.out.own
        have hle : ((l.take k).filter fun x => !staleB l x.1).length ≤ 1048576 := by
          have h1 := List.length_filter_le (fun x => !staleB l x.1) (l.take k)
          rw [List.length_take] at h1
          omega
        have HOF := Lib.hid hof
        have hmx : ((l.take k).filter fun x => !staleB l x.1).length + 1 ≤ maxLen := by unfold maxLen; omega
        have hby : (((l.take k).filter fun x => !staleB l x.1).length + 1) * 64 ≤ 140737488355328 := by omega
        have ho2 := Lib.hid ((HI.out.own.alloc (.cells (foV ek) 96)).alloc (.cells (foV ek) 96))
        have hx : ∀ j u, (foC ek)[j]? = some u → ((wr.alloc (.cells (foV ek) 96)).alloc (.cells (foV ek) 96)).cell? ((⟨wr.heap.size + 1, 0, none⟩ : Addr).add j) = some u := fun j u hj => by
          have hh := heap_alloc_new (wr.alloc (.cells (foV ek) 96)) (.cells (foV ek) 96)
          rw [World.size_alloc] at hh
          rw [add_lit, cell_of_row _ _ j _ _ _ hh]
          simpa [foV, foC] using hj
        have HX := Lib.hid hx
        have hszw : w.heap.size ≤ ((wr.alloc (.cells (foV ek) 96)).alloc (.cells (foV ek) 96)).heap.size := by simp; omega
        have HSZ := Lib.hid hszw
        subst hof
        clear hfl hv2 hq hx hszw hle
        unfold foV at *
        go_wp2_with (at_builtin; refine wpList_append_own _ rfl (.tmp 25) (.tmp 27) 81 rfl w.heap.size 96 i0 (.agg #[.int .u32 0, .int .u64 0, .int .u64 0, .int .u64 0, .int .i64 0, .int .i64 0, .int .i64 0, .int .i64 0]) 8 64 Try.underlying81 hi hz0 hz1 hz2 rfl (by decide) _ _ _ rfl ho2.out ⟨wr.heap.size + 1, 0, none⟩ 1 1 (foC ek) rfl (by simp [foC]) HX.out (fun u hu => by simp only [foC, List.mem_cons, List.not_mem_nil, or_false] at hu; rcases hu with rfl | rfl | rfl | rfl | rfl | rfl | rfl | rfl <;> rfl) hmx hby HSZ.out ?_; intro v' w3 hown' hgrow _; have HO' := Lib.hid hown'; have HG := Lib.hid hgrow; clear hown' hgrow)
        refine ⟨⟨k + 1, _, by omega, by go_num, rfl, ?_⟩, by simp [intOf]; omega⟩
        have hI := HI.out
        have t1 : Touch (fun j => (Value.slice oa ((l.take k).filter fun x => !staleB l x.1).length oc).ownBlock = some j) wr w3 :=
          (((Touch.refl Emp wr).alloc _).alloc _).mono (fun _ _ h => h.elim) |>.trans (Touch.of_grown HG.out fun j e => e) (fun _ h _ => h)
        have hob : ∀ j, (Value.slice oa ((l.take k).filter fun x => !staleB l x.1).length oc).ownBlock = some j → w.heap.size ≤ j ∧ ∃ cur, wr.heap[j]? = some (.cells cur 96 (0, 0)) := fun j hj => ⟨(hI.own.lt j hj).1, ownsRow_block hI.own hj⟩
        obtain ⟨es, clk, hm, hs⟩ := hI.map
        refine ⟨?_, ⟨es, clk, t1.at hm (fun hj => by obtain ⟨-, cur, hc⟩ := hob _ hj; rw [hm] at hc; cases hc), hs⟩, hI.fv.touch t1 (fun hl hj => by have := (hob _ hj).1; have := H.out.lt hl; omega), ((Touch.of_below (F := Emp) hI.below).trans t1 fun j hj hlt => by have := (hob j hj).1; omega).below⟩
        rw [HFL.out, List.length_append, List.flatMap_append]
        simpa using HO'.out
      · have hq1 : ¬ (ek.1.q : Int) < (vv : Int) := by omega
        rw [if_neg fun h => hq (hv2.2 h)] at hfl
        have HFL := Lib.hid hfl
        clear hfl hv2 hq
        unfold foV at *
        go_wp2_with fail
        refine ⟨⟨k + 1, _, by omega, by go_num, rfl, ?_⟩, by simp [intOf]; omega⟩
        have hI := HI.out
        obtain ⟨es, clk, hm, hs⟩ := hI.map
        refine ⟨?_, ⟨es, clk, (Below.heap_alloc _ _ _ (lt_of_heap hm)).trans hm, hs⟩, hI.fv.below ((Below.refl _ _).alloc (Nat.le_refl _) _), hI.below.alloc hI.below.size _⟩
        rw [HFL.out]
        exact hI.own.alloc _
    · obtain rfl : k = l.length := by omega
      have HI := Lib.hid hI
      clear hI hk
      go_wp2
      go_ret
      refine ⟨⟨_, rfl, ?_⟩, HI.out.below⟩
      have := HI.out.own
      rw [List.take_length] at this
      exact this
end Rp
end Go.Proofs.Ythapggobpfcmjaa
