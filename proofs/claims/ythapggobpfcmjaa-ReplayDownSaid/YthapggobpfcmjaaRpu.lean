/- A map's keys, sorted; gone through from the last one to the first one; where epochs end; which tags are true. In so far as Sort sorts so many. -/
import Derived.Test.YthapggobpfcmjaaRpt
import Derived.Test.YthapggobpfcmjaaSeq
import Derived.Test.YthapggobpfcmjaaNum
set_option maxRecDepth 100000
namespace Go.Proofs.Ythapggobpfcmjaa
namespace Rp
open Go.RowKit Go.Maps Go.Shelf

attribute [local go_sem] Oper.semAt_some

/-- Which keys a map has. -/
theorem has_keys {w : World} {b n : Nat} {D : DataW Nat} {es : Array MapEntry} {clk : Nat} {m : UM} (hown : OwnM w b n D) (hb : w.heap[b]? = some (.map es clk)) (hs : UMap es m) (x : Int) : has D (.int .u32 x) = true ↔ ∃ k : Nat, k ∈ m.map (·.1) ∧ x = (k : Int) := by
  obtain ⟨es', clk', hb', F, -, rfl⟩ := hown
  rw [hb] at hb'
  obtain ⟨rfl, rfl⟩ : es = es' ∧ clk = clk' := by simpa using hb'
  have hkey : ∀ e ∈ es.toList, ∃ k : Nat, k ∈ m.map (·.1) ∧ e.key = .int .u32 (k : Int) := fun e he => by
    have : (e.key, e.val) ∈ m.map kvU := by rw [← show es.toList.map (fun e => (e.key, e.val)) = m.map kvU from hs]; exact List.mem_map.2 ⟨e, he, rfl⟩
    obtain ⟨p, hp, e1⟩ := List.mem_map.1 this
    simp only [kvU, Prod.mk.injEq] at e1
    exact ⟨p.1, List.mem_map.2 ⟨p, hp, rfl⟩, e1.1.symm⟩
  have hrg : ∀ e ∈ es.toList, ∀ k : Nat, e.key = .int .u32 (k : Int) → (WideElems.rg Try.prog 30 RN e).1 = .int .u32 (k : Int) := fun e he k hk => by
    obtain ⟨y, hy⟩ := F.reads e he
    have h1 := WideElems.rd_key hy
    obtain ⟨x', e1, e2⟩ := keyOf_inv h1
    rw [hk] at e1
    have : (k : Int) = x' := by simpa using e1
    rw [WideElems.rg_of hy, e2, this]
  rw [has_eq, List.any_eq_true]
  constructor
  · rintro ⟨p, hp, hsk⟩
    obtain ⟨e, he, rfl⟩ := List.mem_map.1 (mem_sorted.1 hp)
    obtain ⟨k, hk, hke⟩ := hkey e he
    rw [hrg e he k hke] at hsk
    exact ⟨k, hk, by simp [Lit.sameKey] at hsk; omega⟩
  · rintro ⟨k, hk, rfl⟩
    obtain ⟨p, hp, rfl⟩ := List.mem_map.1 hk
    have : kvU p ∈ es.toList.map (fun e => (e.key, e.val)) := by rw [show es.toList.map (fun e => (e.key, e.val)) = m.map kvU from hs]; exact List.mem_map.2 ⟨p, hp, rfl⟩
    obtain ⟨e, he, e1⟩ := List.mem_map.1 this
    simp only [kvU, Prod.mk.injEq] at e1
    refine ⟨_, mem_sorted.2 (List.mem_map.2 ⟨e, he, rfl⟩), ?_⟩
    rw [hrg e he p.1 e1.1]
    simp [Lit.sameKey]

theorem collect_ok (Bm b nn : Nat) (D0 : DataW Nat) (w : World) (hBm : Bm < w.heap.size) (hm : w.cell? ⟨Bm, 0, none⟩ = some (.map (some b))) (hown : OwnM w b nn D0) (hnn : nn ≤ 4294967296) :
    Calls Try.prog 76 #[.func (.func 78) #[] #[.pointer (some ⟨Bm, 0, none⟩)]] w fun e w' =>
      (∃ v ss, e = .returned v ∧ KeysA D0 ss ∧ w'.ownsRow w.heap.size 30 1 v ss.length (ss.map encU)) ∧ Below w.heap.size w w' := by
  have H := Lib.hid (appendSeq_ok Bm b nn D0 w hBm hm hown hnn)
  clear hm hown
  go_enter Try.func76, Try.ntmps76
  go_wp2_with fail
  refine H.out.mono ?_
  rintro e w' ⟨⟨v, ss, rfl, h1, h2⟩, h3⟩
  have HH := Lib.hid (And.intro h1 (And.intro h2 h3))
  clear h1 h2 h3
  go_wp2
  go_ret
  exact ⟨⟨_, ss, rfl, HH.out.1, HH.out.2.1⟩, HH.out.2.2⟩

theorem sorted_ok {N : Nat} (hS : SortsU N) (Bm b nn : Nat) (D0 : DataW Nat) (w : World) (hBm : Bm < w.heap.size) (hm : w.cell? ⟨Bm, 0, none⟩ = some (.map (some b))) (hown : OwnM w b nn D0) (hnn : nn ≤ 4294967296)
    (hlen : ∀ ss, KeysA D0 ss → ss.length ≤ N) (hx : ∀ x, has D0 (.int .u32 x) = true → 0 ≤ x ∧ x < 4294967296) :
    Calls Try.prog 71 #[.func (.func 78) #[] #[.pointer (some ⟨Bm, 0, none⟩)]] w fun e w' =>
      (∃ v ts, e = .returned v ∧ KeysA D0 ts ∧ ts.Pairwise (· ≤ ·) ∧ w'.ownsRow w.heap.size 30 1 v ts.length (ts.map encU)) ∧ Below w.heap.size w w' := by
  have H := Lib.hid (collect_ok Bm b nn D0 w hBm hm hown hnn)
  have HS := Lib.hid hS
  have HL := Lib.hid hlen
  have HX := Lib.hid hx
  clear hm hown hlen hx hS
  go_enter Try.func71, Try.ntmps71
  go_wp2_with fail
  refine H.out.mono ?_
  rintro e w1 ⟨⟨v, ss, rfl, h1, h2⟩, h3⟩
  have SO := Lib.hid (HS.out ss w.heap.size v w1 (HL.out ss h1) (fun x hx => HX.out x ((h1.2 x).1 hx)) h2)
  have HH := Lib.hid (And.intro h1 (And.intro h2 h3))
  clear h1 h2 h3
  go_wp2_with fail
  refine SO.out.mono ?_
  rintro e w2 ⟨⟨x, rfl⟩, ts, p1, p2, p3, p4⟩
  have HT := Lib.hid (And.intro p1 (And.intro p2 (And.intro p3 p4)))
  clear p1 p2 p3 p4
  go_wp2
  go_ret
  obtain ⟨p1, p2, p3, p4⟩ := HT.out
  obtain ⟨h1, h2, h3⟩ := HH.out
  refine ⟨⟨_, ts, rfl, ⟨p1.symm.nodup h1.1, fun x => by rw [p1.mem_iff]; exact h1.2 x⟩, p2, p3⟩, ((Touch.of_below (F := Emp) h3).trans p4 fun j hj hlt => ?_).below⟩
  have := (h2.lt j hj).1
  omega

/-- What a slice of numbers owns reads as these. -/
theorem nv_own {base : Nat} {w : World} {v : Value} {ts : List Int} (h : w.ownsRow base 30 1 v ts.length (ts.map encU)) : ∃ g, NV .u32 w v ts g ∧ (ts ≠ [] → base ≤ g) := by
  rcases h.2 with ⟨rfl, h0⟩ | ⟨g, cap, cur, rfl, hb, hg, hc, -, -, htk⟩
  · obtain rfl : ts = [] := List.eq_nil_of_length_eq_zero h0
    exact ⟨0, ⟨⟨none, 0, rfl, Nat.le_refl _, fun _ => rfl, fun h => absurd rfl h⟩, fun h => absurd rfl h⟩, fun h => absurd rfl h⟩
  · refine ⟨g, ⟨⟨_, cap, rfl, hc, (fun e => by cases e), fun _ => ⟨0, rfl, fun i hi => ?_⟩⟩, fun _ => lt_of_heap hg⟩, fun _ => hb⟩
    have := h.cells (g := g) rfl i (encU ts[i]) (by rw [List.getElem?_map, List.getElem?_eq_getElem hi]; rfl)
    rw [add_lit] at this
    simpa using this

set_option maxHeartbeats 1000000 in
theorem bwd_in (a : Option Addr) (n cap : Nat) (w : World) :
    Calls Try.prog 70 #[.slice a n cap] w fun e w' => e = .returned (.func (.func 75) #[] #[.pointer (some ⟨w.heap.size, 0, none⟩)]) ∧ w' = w.alloc (.cells #[.slice a n cap] 125) := by
  go_enter Try.func70, Try.ntmps70
  go_wp2
  go_ret
  exact ⟨rfl, rfl⟩

set_option maxHeartbeats 2000000 in
theorem bwd1_on (d : Nat) (hd : 1 ≤ d) (G : Nat → Prop) (Bs g cap : Nat) (a : Option Addr) (ts : List Int) (w0 : World) (hlen : ts.length ≤ 4294967296) (hB : Boxed w0 Bs 125 (.slice a ts.length cap)) (hN : NV .u32 w0 (.slice a ts.length cap) ts g) (hG : ¬ G Bs ∧ (ts ≠ [] → ¬ G g)) :
    SeqOn Fence.wide d Try.prog 75 #[.pointer (some ⟨Bs, 0, none⟩)]
      (fun k : Nat => #[.int .i64 ((ts.length : Int) - 1 - k), .int .u32 (ts.getD (ts.length - 1 - k) 0)]) (List.range ts.length) (Touch G) w0 := by
  intro l J W hW _ hJo hY h0
  have hB1 : Boxed W Bs 125 (.slice a ts.length cap) := (Touch.of_below (F := Emp) hW).at hB id
  have hN1 : NV .u32 W (.slice a ts.length cap) ts g := hN.touch (Touch.of_below (F := Emp) hW) fun _ => id
  have hrl : (List.range ts.length).length = ts.length := by simp
  rw [hrl]
  rw [show (#[.func (.yield l) #[] #[]] ++ #[.pointer (some ⟨Bs, 0, none⟩)] : Array Value) = #[.func (.yield l) #[] #[], .pointer (some ⟨Bs, 0, none⟩)] from rfl]
  have hc0 := hB1.cell
  refine callsIn_of_wp Try.func75 rfl trivial ?_ rfl
  simp only [Try.ntmps75, List.size_toArray, List.length_cons, List.length_nil, Nat.reduceAdd, Nat.reduceSub, Array.replicate_succ, Array.replicate_zero, List.push_toArray, List.append_toArray, List.nil_append, List.cons_append]
  have HB := Lib.hid hB1
  have HN := Lib.hid hN1
  have HY := Lib.hid hY
  have H0 := Lib.hid h0
  have HG := Lib.hid hG
  have HL := Lib.hid hrl
  clear hB hN hB1 hN1 hY h0 hG hJo hW hrl
  gi_wp2
  gi_loopw [3] (fun i wr => ∃ k : Nat, k ≤ ts.length ∧ i = .int .i64 ((ts.length : Int) - 1 - k) ∧ J k wr ∧ Boxed wr Bs 125 (.slice a ts.length cap) ∧ NV .u32 wr (.slice a ts.length cap) ts g)
    (fun i _ => (intOf i + 1).toNat)
  case atStart => exact ⟨0, Nat.zero_le _, by simp, H0.out, HB.out, HN.out⟩
  case round =>
    obtain ⟨k, hk, rfl, hJ, hB, hN⟩ := hrel
    by_cases hlt : k < ts.length
    · obtain ⟨a', cap', e1, -, -, hcs⟩ := hN.form
      obtain ⟨rfl, rfl⟩ : a = a' ∧ cap = cap' := by simpa using e1
      obtain ⟨off, rfl, hcc⟩ := hcs (by intro e; subst e; simp at hlt)
      obtain ⟨m, hm⟩ : ∃ m : Nat, ts.length - 1 - k = m := ⟨_, rfl⟩
      have hmi : (ts.length : Int) - 1 - (k : Int) = (m : Int) := by omega
      have hml : m < ts.length := by omega
      have hcx := hcc m hml
      have hbc := hB.cell
      have hm0 : (0 : Int) ≤ (m : Int) := Int.natCast_nonneg _
      have hm1 : (m : Int) < (ts.length : Int) := by omega
      have hyk := HY.out k (by rw [HL.out]; exact hlt) wr hJ
      rw [List.getElem_range, hm, hmi, show ts.getD m 0 = ts[m] from by simp [List.getD, List.getElem?_eq_getElem hml]] at hyk
      rw [hmi]
      obtain ⟨fn, tmps, assign, body, hy, hRd⟩ := hyk
      generalize ts[m] = x at hcx hy
      have RD := Lib.hid hRd
      have HB2 := Lib.hid hB
      have HN2 := Lib.hid hN
      have HM := Lib.hid (And.intro hm hmi)
      clear hB hN hJ H0 hRd hcs hcc e1 hm hmi HY
      gi_wp2
      refine RD.out.mono ?_
      rintro e W3 ⟨rfl, hJ3, hk3⟩
      have J3 := Lib.hid hJ3
      have HB3 := Lib.hid (show Boxed W3 Bs _ _ from hk3.at HB2.out HG.out.1)
      have HN3 := Lib.hid (HN2.out.touch hk3 HG.out.2)
      clear hJ3 hk3
      gi_wp2
      go_roundw
      case rel => exact ⟨k + 1, by omega, by have := HM.out.2; rw [show (ts.length : Int) - 1 - ((k + 1 : Nat) : Int) = (m : Int) - 1 by omega], J3.out, HB3.out, HN3.out⟩
      case measure => simp [intOf]
    · obtain rfl : k = ts.length := by omega
      have J3 := Lib.hid hJ
      have hng : ¬ ((ts.length : Int) - 1 - (ts.length : Int)) ≥ 0 := by omega
      clear hJ hB hN H0 HY
      gi_wp2
      go_end0
      exact ⟨⟨_, rfl⟩, J3.out⟩
end Rp
end Go.Proofs.Ythapggobpfcmjaa
