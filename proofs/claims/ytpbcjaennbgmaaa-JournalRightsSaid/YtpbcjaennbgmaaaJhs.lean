/- What the laws of a journal share that keep what each block has: may; a journal that goes beside a law's own blocks; fresh's row; the row of what each block has. -/
import Derived.Test.YtpbcjaennbgmaaaJlw
set_option maxRecDepth 100000
namespace Go.Proofs.Ytpbcjaennbgmaaa
namespace Jn
open Go.RowKit

structure FineI (N : Int) (ids : List Int) : Prop where
  ins : ∀ x ∈ ids, 0 ≤ x ∧ x < N
  nd : ids.Nodup
def MayI (N : Int) (ids : List Int) : Prop := 1 ≤ ids.length ∧ ids.length ≤ 24 ∧ FineI N ids
theorem FineI.snoc {N : Int} {ids : List Int} {i : Nat} (h : FineI N (ids.take i)) (hi : i < ids.length) (h1 : 0 ≤ ids[i] ∧ ids[i] < N) (h2 : ∀ j (hj : j < i), ids[j] ≠ ids[i]) : FineI N (ids.take (i + 1)) := by
  have e : ids.take (i + 1) = ids.take i ++ [ids[i]] := by rw [List.take_add_one, List.getElem?_eq_getElem hi]; rfl
  rw [e]
  refine ⟨fun x hx => (List.mem_append.1 hx).elim (h.ins x) fun hx => by rw [List.mem_singleton.1 hx]; exact h1, ?_⟩
  rw [List.nodup_append]
  refine ⟨h.nd, by simp, fun a ha b hb e' => ?_⟩
  obtain ⟨j, hj, rfl⟩ := List.mem_iff_getElem.1 ha
  rw [List.mem_singleton.1 hb, List.getElem_take] at e'
  have hj' : j < i := by simp at hj; omega
  exact h2 j hj' e'
theorem FineI.not_in {N : Int} {ids : List Int} {i : Nat} (hi : i < ids.length) (h1 : ¬ (0 ≤ ids[i] ∧ ids[i] < N)) : ¬ MayI N ids := fun h => h1 (h.2.2.ins _ (List.getElem_mem hi))
theorem FineI.twice {N : Int} {ids : List Int} {i j : Nat} (hi : i < ids.length) (hj : j < i) (h1 : ids[j] = ids[i]) : ¬ MayI N ids := fun h => by
  have := (List.pairwise_iff_getElem.1 h.2.2.nd) j i (by omega) hi hj
  exact this h1
theorem mayE_iff {N : Nat} {E : List WE} (h : ∀ e ∈ E, e.l.length = 480) : MayE N E ↔ MayI N (E.map (·.id)) := by
  unfold MayE MayI
  constructor
  · rintro ⟨h1, h2, h3, h4⟩
    refine ⟨by simpa using h1, by simpa using h2, fun x hx => ?_, h4⟩
    obtain ⟨e, he, rfl⟩ := List.mem_map.1 hx
    exact ⟨(h3 e he).1, (h3 e he).2.1⟩
  · rintro ⟨h1, h2, h3, h4⟩
    refine ⟨by simpa using h1, by simpa using h2, fun e he => ?_, h4⟩
    have := h3 e.id (List.mem_map_of_mem (f := fun e : WE => e.id) he)
    exact ⟨this.1, this.2, h e he⟩

set_option maxHeartbeats 4000000 in
theorem may_any {w : World} {v : Value} {ids : List Int} {g : Nat} (N : Int) (hv : NV .i64 w v ids g) (_hm : ids.length ≤ maxLen) :
    Calls Try.prog 22 #[v, .int .i64 N] w fun e w' => RetB e (MayI N ids) ∧ Below w.heap.size w w' := by
  obtain ⟨a, cap, rfl, -⟩ := hv.form
  have HV := Lib.hid hv
  clear hv
  by_cases hl0 : ids.length < 1
  · have h1 : (ids.length : Int) < 1 := by omega
    have HN := Lib.hid (show ¬ MayI N ids from fun h => by have := h.1; omega)
    go_enter Try.func22, Try.ntmps22
    go_wp2
    go_ret
    exact ⟨⟨false, rfl, by simp [HN.out]⟩, Below.refl _ _⟩
  by_cases hl1 : ids.length > 24
  · have h1 : ¬ (ids.length : Int) < 1 := by omega
    have h2 : (ids.length : Int) > 24 := by omega
    have HN := Lib.hid (show ¬ MayI N ids from fun h => by have := h.2.1; omega)
    go_enter Try.func22, Try.ntmps22
    go_wp2
    go_ret
    exact ⟨⟨false, rfl, by simp [HN.out]⟩, Below.refl _ _⟩
  have h1 : ¬ (ids.length : Int) < 1 := by omega
  have h2 : ¬ (ids.length : Int) > 24 := by omega
  have HL := Lib.hid (show 1 ≤ ids.length ∧ ids.length ≤ 24 by omega)
  clear hl0 hl1
  go_enter Try.func22, Try.ntmps22
  go_wp2
  go_loopw [5] (fun i wr => ∃ k : Nat, k ≤ ids.length ∧ i = .int .i64 k ∧ FineI N (ids.take k) ∧ Below w.heap.size w wr) (fun i _ => ids.length - (intOf i).toNat)
  case atStart => exact ⟨0, Nat.zero_le _, rfl, ⟨by simp, by simp⟩, Below.refl _ _⟩
  case round =>
    obtain ⟨k, hk, rfl, hF, hb⟩ := hrel
    have HF := Lib.hid (And.intro hF hb)
    clear hF
    by_cases hlt : k < ids.length
    · have hk1 : (k : Int) < (ids.length : Int) := by omega
      obtain ⟨off, rfl, ck⟩ := (HV.out.below hb).cell_at hlt
      clear hb
      generalize hx : ids[k] = x at ck
      have HX := Lib.hid hx
      clear hx
      by_cases hin : 0 ≤ x ∧ x < N
      · have d1 : decide (x < 0) = false := decide_eq_false (by omega)
        have d2 : decide (x ≥ N) = false := decide_eq_false (by omega)
        have d3 : decide (N ≤ x) = false := decide_eq_false (by omega)
        have HIN := Lib.hid hin
        clear hin
        go_wp2_with fail
        obtain ⟨w0, hw0⟩ : ∃ w0, wr = w0 := ⟨_, rfl⟩
        have HB0 := Lib.hid HF.out.2
        rw [hw0] at HB0
        clear d1 d2 d3
        go_loopw [6] (fun j wr2 => ∃ q : Nat, q ≤ k ∧ j = .int .i64 q ∧ (∀ j (hj : j < q) (hjk : j < ids.length), ids[j] ≠ x) ∧ Below w.heap.size w wr2) (fun j _ => k - (intOf j).toNat)
        case atStart => exact ⟨0, Nat.zero_le _, rfl, fun j hj => by omega, HF.out.2⟩
        case round =>
          obtain ⟨q, hq, rfl, hne, hb2⟩ := hrel
          by_cases hlt2 : q < k
          · have hq1 : (q : Int) < (k : Int) := by omega
            have hq2 : q < ids.length := by omega
            have ckk := (HV.out.below hb2).cell_at hlt
            have cqq := (HV.out.below hb2).cell_at hq2
            obtain ⟨o1, e1, ckk⟩ := ckk
            cases e1
            obtain ⟨o2, e2, cqq⟩ := cqq
            cases e2
            rw [HX.out] at ckk
            generalize hy : ids[q] = y at cqq
            have HY := Lib.hid hy
            have HB2 := Lib.hid (And.intro hne hb2)
            clear hy hne hb2
            have hq3 : (q : Int) < (ids.length : Int) := by omega
            by_cases hyx : y = x
            · subst hyx
              have HN := Lib.hid (FineI.twice (N := N) hlt hlt2 (by rw [HY.out, HX.out]))
              go_wp2_with fail
              go_region
              go_wp2_with fail
              go_ret
              exact ⟨⟨false, rfl, by simp [HN.out]⟩, HB2.out.2.drew⟩
            · have hb1 : (y == x) = false := by simpa using hyx
              have HYX := Lib.hid hyx
              clear hyx
              go_wp2_with fail
              go_region
              go_wp2_with fail
              refine ⟨⟨q + 1, by omega, by go_num, fun j hj hjk => ?_, HB2.out.2.drew⟩, by simp [intOf]; omega⟩
              by_cases hjq : j < q
              · exact HB2.out.1 j hjq hjk
              · obtain rfl : j = q := by omega
                rw [HY.out]; exact HYX.out
          · obtain rfl : q = k := by omega
            have HB2 := Lib.hid (And.intro hne hb2)
            clear hne hb2
            go_wp2_with fail
            exact ⟨⟨q + 1, by omega, by go_num, HF.out.1.snoc hlt (by rw [HX.out]; exact HIN.out) (fun j hj => by rw [HX.out]; exact HB2.out.1 j hj (by omega)), HB2.out.2⟩, by simp [intOf]; omega⟩
      · have HN := Lib.hid (FineI.not_in (N := N) hlt (by rw [HX.out]; exact hin))
        by_cases h0 : x < 0
        · clear hin
          go_wp2_with fail
          go_ret
          exact ⟨⟨false, rfl, by simp [HN.out]⟩, HF.out.2⟩
        · have d1 : decide (x < 0) = false := decide_eq_false h0
          have d2 : x ≥ N := by omega
          clear hin h0
          go_wp2_with fail
          go_ret
          exact ⟨⟨false, rfl, by simp [HN.out]⟩, HF.out.2⟩
    · obtain rfl : k = ids.length := by omega
      have HM := Lib.hid (show MayI N ids from ⟨HL.out.1, HL.out.2, by have := HF.out.1; rwa [List.take_length] at this⟩)
      clear hb
      go_wp2_with fail
      go_ret
      exact ⟨⟨true, rfl, by simp [HM.out]⟩, HF.out.2⟩
end Jn
end Go.Proofs.Ytpbcjaennbgmaaa

set_option maxRecDepth 100000
namespace Go.Proofs.Ytpbcjaennbgmaaa
namespace Jn
open Go.RowKit

structure Gs (w0 : World) (A : Ad) (Y : Nat → Prop) (s : JSt) (t : Jou.St) (ds : DSt) (dat : Nat → List UInt8) (c : Nat) (wr : World) : Prop where
  jl : ∃ F, Jl wr A F s t ds dat ∧ ∀ k, F k → w0.heap.size ≤ k ∧ ¬ Y k
  own : ∀ k, A.own k → w0.heap.size ≤ k ∧ ¬ Y k
  ylt : ∀ k, Y k → w0.heap.size ≤ k ∧ k < wr.heap.size
  below : Below w0.heap.size w0 wr
  sq : s.sq ≤ c
  reads : ds.reads ≤ 100 * c
  writes : ds.writes ≤ 100 * c
  flushes : ds.flushes ≤ 100 * c
section
variable {w0 wr w1 : World} {A : Ad} {Y Z : Nat → Prop} {s : JSt} {t : Jou.St} {ds : DSt} {dat : Nat → List UInt8} {c : Nat}
theorem Goes.gs {B : Nat} (h : Goes w0 A B s t ds dat c wr) : Gs w0 A Emp s t ds dat c wr := by
  obtain ⟨F, hj, hF⟩ := h.jl
  exact ⟨⟨F, hj, fun k hk => ⟨(hF k hk).1, id⟩⟩, fun k hk => ⟨(h.own k hk).1, id⟩, fun k hk => hk.elim, h.below, h.sq, h.reads, h.writes, h.flushes⟩
/-- What touches Y alone, or what is younger, leaves it as it is. -/
theorem Gs.touch {G : Nat → Prop} (h : Gs w0 A Y s t ds dat c wr) (ht : Touch G wr w1) (hG : ∀ k, G k → Y k ∨ wr.heap.size ≤ k) : Gs w0 A Y s t ds dat c w1 := by
  obtain ⟨F, hj, hF⟩ := h.jl
  refine ⟨⟨F, hj.touch ht (fun k hk hg => ?_) (fun k hk hg => ?_), hF⟩, h.own, fun k hk => ⟨(h.ylt k hk).1, Nat.lt_of_lt_of_le (h.ylt k hk).2 ht.size⟩, h.below.trans (ht.to_below (fun j hj2 hg => ?_) h.below.size), h.sq, h.reads, h.writes, h.flushes⟩
  · rcases hG k hg with hy | hy
    · exact (hF k hk).2 hy
    · have := hj.dev.lt k hk; omega
  · rcases hG k hg with hy | hy
    · exact (h.own k hk).2 hy
    · have := hj.jat.lt k hk; omega
  · rcases hG j hg with hy | hy
    · exact (h.ylt j hy).1
    · exact Nat.le_trans h.below.size hy
theorem Gs.low (h : Gs w0 A Y s t ds dat c wr) (hb : Below wr.heap.size wr w1) : Gs w0 A Y s t ds dat c w1 := h.touch (Touch.of_below (F := Emp) hb) fun _ h => h.elim
theorem Gs.alloc (h : Gs w0 A Y s t ds dat c wr) (o : Obj) : Gs w0 A Y s t ds dat c (wr.alloc o) := h.low ((Below.refl _ wr).alloc (Nat.le_refl _) o)
/-- New blocks may be the law's. -/
theorem Gs.grow (h : Gs w0 A Y s t ds dat c wr) (hb : Below wr.heap.size wr w1) (hZ : ∀ k, Z k → Y k ∨ wr.heap.size ≤ k ∧ k < w1.heap.size) : Gs w0 A Z s t ds dat c w1 := by
  obtain ⟨F, hj, hF⟩ := h.jl
  have h1 := h.low hb
  have hs := h.below.size
  refine ⟨⟨F, hj.touch (Touch.of_below (F := Emp) hb) (fun _ _ => id) (fun _ _ => id), fun k hk => ⟨(hF k hk).1, fun hz => ?_⟩⟩, fun k hk => ⟨(h.own k hk).1, fun hz => ?_⟩, fun k hk => ?_, h1.below, h.sq, h.reads, h.writes, h.flushes⟩
  · rcases hZ k hz with hy | hy
    · exact (hF k hk).2 hy
    · have := hj.dev.lt k hk; omega
  · rcases hZ k hz with hy | hy
    · exact (h.own k hk).2 hy
    · have := hj.jat.lt k hk; omega
  · rcases hZ k hk with hy | hy
    · exact ⟨(h.ylt k hy).1, Nat.lt_of_lt_of_le (h.ylt k hy).2 hb.size⟩
    · exact ⟨by omega, hy.2⟩
theorem Gs.sub (h : Gs w0 A Y s t ds dat c wr) (hZ : ∀ k, Z k → Y k) : Gs w0 A Z s t ds dat c wr := h.grow (Below.refl _ _) fun k hk => .inl (hZ k hk)
theorem Gs.jat (h : Gs w0 A Y s t ds dat c wr) : JAt wr A s := by
  obtain ⟨F, hj, -⟩ := h.jl
  exact hj.jat
theorem Gs.broken (h : Gs w0 A Y s t ds dat c wr) : s.broken = false := by
  obtain ⟨F, hj, -⟩ := h.jl
  exact hj.br
theorem Gs.dev (h : Gs w0 A Y s t ds dat c wr) : ∃ F, Dev wr F A.b ds := by
  obtain ⟨F, hj, -⟩ := h.jl
  exact ⟨F, hj.dev.dev⟩
theorem Gs.more (h : Gs w0 A Y s t ds dat c wr) {c' : Nat} (hc : c ≤ c') : Gs w0 A Y s t ds dat c' wr :=
  ⟨h.jl, h.own, h.ylt, h.below, by have := h.sq; omega, by have := h.reads; omega, by have := h.writes; omega, by have := h.flushes; omega⟩

theorem Gs.commit (h : Gs w0 A Y s t ds dat c wr) (hc : c < 1000000) {v : Value} {E : List WE} {X : Nat → Prop} (hw : WL wr v E X) (hX : ∀ k, X k → Y k) (hE : MayE s.N E) :
    Calls Try.prog 14 #[.pointer (some ⟨A.J, 0, none⟩), v] wr fun e w' => e = .returned (.int .i64 0) ∧ Touch (fun k => w0.heap.size ≤ k ∧ ¬ Y k) wr w' ∧
      ∃ s' t' ds', Gs w0 A Y s' t' ds' (datB E dat) (c + 1) w' ∧ s'.N = s.N ∧ s'.P = s.P ∧ s'.ep = s.ep ∧ s'.st = s.st ∧ s'.sq = s.sq + 1 ∧
        ds'.reads ≤ ds.reads + 2 * E.length ∧ ds.reads ≤ ds'.reads ∧ ds'.writes ≤ ds.writes + 3 * E.length ∧ ds.writes ≤ ds'.writes ∧ ds'.flushes = ds.flushes + 1 ∧ Nxt t t' (idsN E) := by
  obtain ⟨F, hj, hF⟩ := h.jl
  have hr := h.reads
  have hwr := h.writes
  have hfl := h.flushes
  have hsq := h.sq
  refine (commit_ok hj hw (fun k hk => ⟨(h.ylt k (hX k hk)).2, fun hf => (hF k hf).2 (hX k hk), fun hf => (h.own k hf).2 (hX k hk)⟩) hE (by omega) (by omega) (by omega) (by omega)).mono ?_
  rintro e w' ⟨he, ht, G, s', t', ds', hj', hG, q1, q2, q3, q4, q5, r1, r2, r3, r4, r5⟩
  have hl : E.length ≤ 24 := hE.2.1
  have hbo : ∀ k, Both F A k → w0.heap.size ≤ k ∧ ¬ Y k := fun k hk => hk.elim (hF k) (h.own k)
  have hs0 : w0.heap.size ≤ wr.heap.size := h.below.size
  refine ⟨he, ht.mono fun k _ hk => hbo k hk, s', t', ds', ⟨⟨G, hj', fun k hk => ?_⟩, h.own, fun k hk => ⟨(h.ylt k hk).1, Nat.lt_of_lt_of_le (h.ylt k hk).2 ht.size⟩, h.below.trans (ht.to_below (fun j _ hj => (hbo j hj).1) hs0), by omega, by omega, by omega, by omega⟩, q1, q2, q3, q4, q5, r1, r2, r3, r4, r5⟩
  by_cases hk2 : k < wr.heap.size
  · exact hF k (hG k hk2 hk)
  · exact ⟨by omega, fun hy => by have := (h.ylt k hy).2; omega⟩
theorem Gs.read (h : Gs w0 A Y s t ds dat c wr) (hc : c < 1000000) {id : Nat} (hid : id < s.N) :
    Calls Try.prog 15 #[.pointer (some ⟨A.J, 0, none⟩), .int .i64 (id : Int)] wr fun e w' => (∃ v, e = .returned (.tuple #[v, .int .i64 0]) ∧ OwnB wr.heap.size w' v (dat id)) ∧ Touch (fun k => w0.heap.size ≤ k ∧ ¬ Y k) wr w' ∧
      ∃ ds' : DSt, ∃ F', Jl w' A F' s t ds' dat ∧ (∀ k, F' k → w0.heap.size ≤ k ∧ ¬ Y k ∧ k < wr.heap.size) ∧ Gs w0 A Y s t ds' dat (c + 1) w' ∧ ds'.flushes = ds.flushes ∧ ds'.writes = ds.writes ∧ ds'.reads = ds.reads + (if (s.a id).isSome then 1 else 0) := by
  obtain ⟨F, hj, hF⟩ := h.jl
  have hr := h.reads
  have hwr := h.writes
  have hfl := h.flushes
  have hsq := h.sq
  cases ha : s.a id with
  | none =>
    refine (read_never hj.jat hj.br id hid ha).mono ?_
    rintro e w' ⟨rfl, rfl⟩
    have hb : Below wr.heap.size wr (wr.alloc (.cells (rowA (zerosL 480)) 5)) := (Below.refl _ wr).alloc (Nat.le_refl _) _
    refine ⟨⟨_, rfl, ?_⟩, (Touch.refl _ wr).alloc _, ds, F, hj.touch (Touch.of_below (F := Emp) hb) (fun _ _ h => h) (fun _ _ h => h), fun k hk => ⟨(hF k hk).1, (hF k hk).2, hj.dev.lt k hk⟩, (h.low hb).more (by omega), rfl, rfl, rfl⟩
    rw [hj.non id ha]
    refine ⟨wr.heap.size, 480, by rw [zerosL_length], by rw [zerosL_length]; exact Nat.le_refl _, Nat.le_refl _, _, heap_alloc_new wr _, ?_⟩
    simp only [rowA]
    exact List.take_of_length_le (by simp)
  | some p =>
    refine (read_has hj.jat hj.dev hj.off hj.br hj.up ⟨by have := hj.wt; omega, by omega, by omega, by omega⟩ hj.sec id p hid ha _ (hj.hold id p ha)).mono ?_
    rintro e w' ⟨⟨v, rfl, hv⟩, ht, hd⟩
    have hj' := hj.incR ht hj.off hd
    refine ⟨⟨v, rfl, hv⟩, ht.mono fun k _ hk => hF k hk, ds.incR, F, hj', fun k hk => ⟨(hF k hk).1, (hF k hk).2, hj.dev.lt k hk⟩, ⟨⟨F, hj', hF⟩, h.own, fun k hk => ⟨(h.ylt k hk).1, Nat.lt_of_lt_of_le (h.ylt k hk).2 ht.size⟩, h.below.trans (ht.to_below (fun j _ hj2 => (hF j hj2).1) h.below.size), by omega, ?_, ?_, ?_⟩, rfl, rfl, rfl⟩
    · show ds.reads + 1 ≤ _
      omega
    · show ds.writes ≤ _
      omega
    · show ds.flushes ≤ _
      omega
end
end Jn
end Go.Proofs.Ytpbcjaennbgmaaa

set_option maxRecDepth 100000
namespace Go.Proofs.Ytpbcjaennbgmaaa
namespace Jn
open Go.RowKit

theorem nv_row {W : World} {base : Nat} {v : Value} {l : List Int} (h : W.ownsRow base 3 1 v l.length (l.map (Value.int .i64))) : ∃ g, NV .i64 W v l g ∧ base ≤ g ∧ (0 < l.length → ∃ cap cur, v = .slice (some ⟨g, 0, none⟩) l.length cap ∧ W.heap[g]? = some (.cells cur 3 (0, 0)) ∧ l.length ≤ cur.size) := by
  rcases h.2 with ⟨rfl, h0⟩ | ⟨g, cap, cur, rfl, hb, hg, hc, -, hsz, htk⟩
  · obtain rfl : l = [] := List.eq_nil_of_length_eq_zero h0
    exact ⟨base, ⟨⟨none, 0, rfl, by simp, (fun _ => rfl), fun h => absurd rfl h⟩, fun h => absurd rfl h⟩, Nat.le_refl _, fun h => by simp at h⟩
  · refine ⟨g, ⟨⟨_, cap, rfl, hc, (fun e => by cases e), fun _ => ⟨0, rfl, fun i hi => ?_⟩⟩, fun _ => lt_of_heap hg⟩, hb, fun _ => ⟨cap, _, rfl, hg, ?_⟩⟩
    · have hcells := h.cells (g := g) rfl
      have k1 := hcells i (.int .i64 l[i]) (by simp [hi])
      rw [add_lit] at k1
      simpa using k1
    · omega

set_option maxHeartbeats 2000000 in
theorem fresh_row (N : Nat) (w : World) (hN : N ≤ 65536) :
    Calls Try.prog 11 #[.int .i64 (N : Int)] w fun e w' => (∃ v g, e = .returned (.agg (stI 1 1 0 0 0 v)) ∧ NV .i64 w' v (List.replicate N (-1)) g ∧ w.heap.size ≤ g ∧ (0 < N → ∃ cap cur, v = .slice (some ⟨g, 0, none⟩) N cap ∧ w'.heap[g]? = some (.cells cur 3 (0, 0)) ∧ N ≤ cur.size)) ∧ Below w.heap.size w w' := by
  obtain ⟨i0, hi, hz0, hz1, hz2⟩ := info_parts infoI
  go_enter Try.func11, Try.ntmps11
  go_wp2
  have hst : FrI w w.heap.size (.slice none 0 0) 0 ((w.alloc (.cells zeroS 35)).alloc (.cells (stI 1 1 0 0 0 (.slice none 0 0)) 35)) :=
    ⟨(Below.heap_alloc _ _ _ (by simp)).trans (heap_alloc_new w _), (by
      have h := heap_alloc_new (w.alloc (.cells zeroS 35)) (.cells (stI 1 1 0 0 0 (.slice none 0 0)) 35)
      rw [show (w.alloc (.cells zeroS 35)).heap.size = w.heap.size + 1 by simp] at h
      exact h), ⟨rfl, .inl ⟨rfl, rfl⟩⟩, by simp, ((Below.refl _ w).alloc (Nat.le_refl _) _).alloc (by simp) _⟩
  obtain ⟨p, hp⟩ : ∃ p, p = w.heap.size := ⟨_, rfl⟩
  change Code.wp _ _ _ _ ((w.alloc (.cells zeroS 35)).alloc (.cells (stI 1 1 0 0 0 (.slice none 0 0)) 35))
  generalize (w.alloc (.cells zeroS 35)).alloc (.cells (stI 1 1 0 0 0 (.slice none 0 0)) 35) = W0 at hst ⊢
  rw [← hp] at hst ⊢
  have HPW := Lib.hid hp
  have HST := Lib.hid hst
  clear hp hst
  go_loopw [4] (fun i wr => ∃ (k : Nat) (v : Value), k ≤ N ∧ i = .int .i64 k ∧ FrI w p v k wr) (fun i _ => N - (intOf i).toNat)
  case atStart => exact ⟨0, _, Nat.zero_le _, rfl, HST.out⟩
  case round =>
    obtain ⟨k, v, hk, rfl, hI⟩ := hrel
    obtain ⟨a, cap, rfl⟩ : ∃ a cap, v = .slice a k cap := by
      rcases hI.own.2 with ⟨rfl, h0⟩ | ⟨g, cap, cur, rfl, -⟩
      · exact ⟨none, 0, by rw [h0]⟩
      · exact ⟨_, cap, rfl⟩
    have c5 : wr.cell? ⟨p + 1, 5, none⟩ = some (.slice a k cap) := cell_of_row wr (p + 1) 5 _ _ _ hI.cur
    have hp1 : p + 1 < wr.heap.size := lt_of_heap hI.cur
    by_cases hlt : k < N
    · have hk' : (k : Int) < (N : Int) := by omega
      have ho2 := Lib.hid (ownsRow_touch hI.own ((Touch.refl Emp wr).alloc (.cells #[.int .i64 (-1)] 3)) (fun _ _ => id))
      have hx : (wr.alloc (.cells #[.int .i64 (-1)] 3)).cell? ⟨wr.heap.size, 0, none⟩ = some (.int .i64 (-1)) := cell_of_row _ wr.heap.size 0 _ _ _ (heap_alloc_new wr _)
      have HX := Lib.hid hx
      have HI := Lib.hid hI
      have hmx : k + 1 ≤ maxLen := by unfold maxLen; omega
      have hby : (k + 1) * 8 ≤ 140737488355328 := by omega
      have hcur2 := (Below.heap_alloc wr (.cells #[.int .i64 (-1)] 3) _ hp1).trans hI.cur
      have HC2 := Lib.hid hcur2
      have hszw : p + 2 ≤ (wr.alloc (.cells #[.int .i64 (-1)] 3)).heap.size := by have := hI.size; simp; omega
      have HSZ := Lib.hid hszw
      clear hI hx hcur2 hszw
      go_wp2_with (at_builtin; refine wpList_append_own _ rfl (.tmp 12) (.tmp 13) 33 rfl (p + 2) 3 i0 (.int .i64 0) 1 8 Try.underlying33 hi hz0 hz1 hz2 rfl (by decide) (.slice a k cap) k (noneV k) rfl ho2.out ⟨wr.heap.size, 0, none⟩ 1 1 [.int .i64 (-1)] rfl (by simp) (fun j u hj => by
          cases j with
          | zero => simp at hj; subst hj; exact HX.out
          | succ j => simp at hj) (fun u hu => by simp at hu; subst hu; rfl) hmx hby HSZ.out ?_; intro v' w1 hown' hgrow hnil; clear hnil; obtain ⟨g', cap', rfl⟩ := own_succ hown'; have HO' := Lib.hid hown'; have HG := Lib.hid hgrow; clear hown' hgrow; have ht1 := Touch.of_grown (F := fun j => (Value.slice a k cap).ownBlock = some j) HG.out (fun k e => e); have hcur3 := ht1.at HC2.out (fun e => by have := (ho2.out.lt _ e).1; omega); have f5 := frozen_of_row _ _ 5 _ _ hcur3; have c5n : w1.cell? ⟨p + 1, 5, none⟩ = some (.slice a k cap) := cell_of_row w1 (p + 1) 5 _ _ _ hcur3; have HC3 := Lib.hid hcur3; have HT1 := Lib.hid ht1; clear hcur3 ht1)
      have h := HI.out
      have ht : Touch (fun j => (Value.slice a k cap).ownBlock = some j ∨ j = p + 1) wr (w1.setCell ⟨p + 1, 5, none⟩ (.slice (some ⟨g', 0, none⟩) (k + 1) cap')) :=
        (((Touch.refl (fun j => (Value.slice a k cap).ownBlock = some j ∨ j = p + 1) wr).alloc _).trans HT1.out (fun _ h _ => .inl h)).setCell (a := ⟨p + 1, 5, none⟩) (.inl (.inr rfl)) _
      have hlo : ∀ j, (Value.slice a k cap).ownBlock = some j → p + 2 ≤ j := fun j e => (h.own.lt j e).1
      have hgl := (HO'.out.lt g' rfl).1
      refine ⟨⟨k + 1, .slice (some ⟨g', 0, none⟩) (k + 1) cap', by omega, by go_num, ⟨ht.at h.res ?_, ?_, ?_, Nat.le_trans h.size ht.size, h.below.trans (ht.to_below (fun j _ hj => ?_) (by have := h.size; omega))⟩⟩, by simp [intOf]; omega⟩
      · rintro (e | e)
        · have := hlo _ e; omega
        · omega
      · rw [heap_setCell_same _ _ 5 _ _ _ HC3.out]
        rfl
      · rw [noneV, List.replicate_succ']
        exact ownsRow_touch HO'.out ((Touch.refl (fun j => j = p + 1) w1).setCell (a := ⟨p + 1, 5, none⟩) (.inl rfl) _) (fun j e h2 => by
          have := (HO'.out.lt j e).1
          omega)
      · rcases hj with e | e
        · have := hlo _ e; omega
        · omega
    · obtain rfl : k = N := by omega
      have HI := Lib.hid hI
      have d0 : wr.cell? ⟨p + 1, 0, none⟩ = some (.int .u32 1) := cell_of_row wr (p + 1) 0 _ _ _ hI.cur
      have d1 : wr.cell? ⟨p + 1, 1, none⟩ = some (.int .u64 1) := cell_of_row wr (p + 1) 1 _ _ _ hI.cur
      have d2 : wr.cell? ⟨p + 1, 2, none⟩ = some (.int .u64 0) := cell_of_row wr (p + 1) 2 _ _ _ hI.cur
      have d3 : wr.cell? ⟨p + 1, 3, none⟩ = some (.int .i64 0) := cell_of_row wr (p + 1) 3 _ _ _ hI.cur
      have d4 : wr.cell? ⟨p + 1, 4, none⟩ = some (.int .i64 0) := cell_of_row wr (p + 1) 4 _ _ _ hI.cur
      have r0 : wr.cell? ⟨p, 0, none⟩ = some (.int .u32 0) := cell_of_row wr p 0 _ _ _ hI.res
      have r1 : wr.cell? ⟨p, 1, none⟩ = some (.int .u64 0) := cell_of_row wr p 1 _ _ _ hI.res
      have r2 : wr.cell? ⟨p, 2, none⟩ = some (.int .u64 0) := cell_of_row wr p 2 _ _ _ hI.res
      have r3 : wr.cell? ⟨p, 3, none⟩ = some (.int .i64 0) := cell_of_row wr p 3 _ _ _ hI.res
      have r4 : wr.cell? ⟨p, 4, none⟩ = some (.int .i64 0) := cell_of_row wr p 4 _ _ _ hI.res
      have r5 : wr.cell? ⟨p, 5, none⟩ = some (.slice none 0 0) := cell_of_row wr p 5 _ _ _ hI.res
      have f0 := frozen_of_row wr p 0 _ _ hI.res
      have f1 := frozen_of_row wr p 1 _ _ hI.res
      have f2 := frozen_of_row wr p 2 _ _ hI.res
      have f3 := frozen_of_row wr p 3 _ _ hI.res
      have f4 := frozen_of_row wr p 4 _ _ hI.res
      have f5 := frozen_of_row wr p 5 _ _ hI.res
      clear hI hk
      go_wp2_with fail
      change bodyPost _ _ _ _ _ (six wr p (.int .u32 1) (.int .u64 1) (.int .u64 0) (.int .i64 0) (.int .i64 0) (.slice a k cap))
      have hX := six_at HI.out.res (.int .u32 1) (.int .u64 1) (.int .u64 0) (.int .i64 0) (.int .i64 0) (.slice a k cap)
      have hT := six_touch wr p (.int .u32 1) (.int .u64 1) (.int .u64 0) (.int .i64 0) (.int .i64 0) (.slice a k cap)
      generalize six wr p (.int .u32 1) (.int .u64 1) (.int .u64 0) (.int .i64 0) (.int .i64 0) (.slice a k cap) = W7 at hX hT ⊢
      have k0 := cell_of_row _ _ 0 _ _ _ hX
      have k1 := cell_of_row _ _ 1 _ _ _ hX
      have k2 := cell_of_row _ _ 2 _ _ _ hX
      have k3 := cell_of_row _ _ 3 _ _ _ hX
      have k4 := cell_of_row _ _ 4 _ _ _ hX
      have k5 := cell_of_row _ _ 5 _ _ _ hX
      simp only [List.getElem?_toArray, List.getElem?_cons_succ, List.getElem?_cons_zero] at k0 k1 k2 k3 k4 k5
      have hown7 := ownsRow_touch HI.out.own hT (fun j e h2 => by have := (HI.out.own.lt j e).1; omega)
      have hb7 : Below p w W7 := HI.out.below.trans (hT.to_below (fun j _ e => by omega) (by have := HI.out.size; omega))
      obtain ⟨g, hnv, hbg, hrow⟩ := nv_row (l := List.replicate k (-1)) (base := p + 2) (v := .slice a k cap) (W := W7) (by
        have e : (List.replicate k (-1 : Int)).map (Value.int .i64) = noneV k := by simp [noneV]
        rw [e, List.length_replicate]
        exact hown7)
      have hpw := HPW.out
      refine bodyPost_ret (v := .agg (stI 1 1 0 0 0 (.slice a k cap))) ?_ rfl ⟨⟨_, g, rfl, hnv, by omega, by simpa using hrow⟩, by rw [← hpw]; exact hb7⟩
      clear hnv hown7 hrow hX hT hb7
      simp [results, Try.results11, go_sem, k0, k1, k2, k3, k4, k5]

end Jn
end Go.Proofs.Ytpbcjaennbgmaaa

set_option maxRecDepth 100000
namespace Go.Proofs.Ytpbcjaennbgmaaa
namespace Jn
open Go.RowKit

theorem _root_.Go.Proofs.Ytpbcjaennbgmaaa.NV.takeN {k : IntKind} {w : World} {a : Option Addr} {cap : Nat} {l : List Int} {g n : Nat} (h : NV k w (.slice a l.length cap) l g) (hn : n ≤ l.length) : NV k w (.slice a n cap) (l.take n) g := by
  obtain ⟨a', cap', e, h1, h2, h3⟩ := h.form
  obtain ⟨rfl, rfl⟩ : a = a' ∧ cap = cap' := by simpa using e
  have hl : (l.take n).length = n := by rw [List.length_take]; omega
  refine ⟨⟨a, cap, by rw [hl], by omega, h2, fun hne => ?_⟩, fun hne => h.lt (by rintro rfl; simp at hne)⟩
  obtain ⟨off, e2, hc⟩ := h3 (by rintro rfl; simp at hne)
  refine ⟨off, e2, fun i hi => ?_⟩
  rw [List.getElem_take]
  exact hc i (by omega)
theorem run_makeInts (w : World) (n : Nat) (h1 : n ≤ 100000) :
    (Instr.makeSlice 33 (.int .i64 n) (.int .i64 n)).run Try.prog w = .ok (.slice (some ⟨w.heap.size, 0, none⟩) n n) (w.alloc (.cells (Tb.rowT n (fun _ => some 0)).toArray 3)) := by
  obtain ⟨i0, hi, hz0, hz1, hz2⟩ := info_parts infoI
  have := run_make (P := Try.prog) w 33 3 i0 (.int .i64 0) Try.underlying33 hi hz0 .i64 .i64 n n (by omega) (by omega) (by rw [hz2]; omega) (by omega)
  simp only [Int.toNat_natCast] at this
  rw [this, hz1]
  simp only [Value.cells, madeCells_one, Nat.mul_one]
  have e : Array.replicate n (Value.int IntKind.i64 0) = (Tb.rowT n (fun _ => some 0)).toArray := by
    apply Array.ext
    · simp [Tb.rowT]
    · intro i h1 h2
      simp [Tb.rowT, Tb.enc]
  rw [e]
theorem set_none {W : World} {g N i : Nat} {f : Nat → Option Nat} (h : W.heap[g]? = some (.cells (Tb.rowT N f).toArray 3 (0, 0))) : (W.setCell ⟨g, i, none⟩ (.int .i64 (-1))).heap[g]? = some (.cells (Tb.rowT N (Tb.upd f i none)).toArray 3 (0, 0)) := by
  rw [heap_setCell_same _ _ i _ _ _ h, ← Tb.rowT_set]
  simp [Tb.enc]
theorem rowT_same {N : Nat} {f g : Nat → Option Nat} (h : ∀ i, i < N → f i = g i) : Tb.rowT N f = Tb.rowT N g := rowT_congr h
theorem row_cell {W : World} {g N i : Nat} {f : Nat → Option Nat} (h : W.heap[g]? = some (.cells (Tb.rowT N f).toArray 3 (0, 0))) (hi : i < N) : W.cell? ⟨g, i, none⟩ = some (.int .i64 (Tb.enc (f i))) := by
  rw [cell_of_row W g i _ _ _ h]
  have := Tb.rowT_get f hi
  simpa using this

theorem blk_mod (x : Int) : blk (x % 256) = blk x := by
  unfold blk blkR
  refine List.map_congr_left fun i _ => ?_
  have e : byteI (x % 256 + i) = byteI (x + i) := by
    unfold byteI
    congr 2
    omega
  rw [e]
theorem and_255 (x : Int) : bits .and .i64 x 255 = x % 256 := by
  have := and_mask_i64 x 8 (by omega)
  simp only [Nat.reducePow, Nat.reduceSub] at this
  rw [show ((255 : Nat) : Int) = 255 from rfl] at this
  rw [this]; omega

/-- Behind a Read: what it told may be the law's, too. -/
theorem Gs.of_read {w0 wr w' : World} {A : Ad} {Y Z F' : Nat → Prop} {s : JSt} {t : Jou.St} {ds ds' : DSt} {dat : Nat → List UInt8} {c c' : Nat} (h : Gs w0 A Y s t ds dat c wr) (hj : Jl w' A F' s t ds' dat) (hF : ∀ k, F' k → w0.heap.size ≤ k ∧ ¬ Y k ∧ k < wr.heap.size)
    (h' : Gs w0 A Y s t ds' dat c' w') (hZ : ∀ k, Z k → Y k ∨ wr.heap.size ≤ k ∧ k < w'.heap.size) : Gs w0 A Z s t ds' dat c' w' := by
  have hs := h.below.size
  refine ⟨⟨F', hj, fun k hk => ⟨(hF k hk).1, fun hz => ?_⟩⟩, fun k hk => ⟨(h.own k hk).1, fun hz => ?_⟩, fun k hk => ?_, h'.below, h'.sq, h'.reads, h'.writes, h'.flushes⟩
  · rcases hZ k hz with hy | hy
    · exact (hF k hk).2.1 hy
    · have := (hF k hk).2.2; omega
  · rcases hZ k hz with hy | hy
    · exact (h.own k hk).2 hy
    · have := h.jat.lt k hk; omega
  · rcases hZ k hk with hy | hy
    · exact h'.ylt k hy
    · exact ⟨by omega, hy.2⟩

/-- Each block has what the row says. -/
def HasD (N : Nat) (h : Nat → Option Nat) (dat : Nat → List UInt8) : Prop := ∀ id, id < N → match h id with
  | some x => dat id = blk x
  | none => dat id = zerosL 480
theorem HasD.len {N : Nat} {h : Nat → Option Nat} {dat : Nat → List UInt8} (H : HasD N h dat) {id : Nat} (hid : id < N) : (dat id).length = 480 := by
  have := H id hid
  cases e : h id with
  | none => rw [e] at this; rw [this, zerosL_length]
  | some x => rw [e] at this; rw [this, blk_len]
theorem HasD.start (N : Nat) : HasD N (fun _ => none) (fun _ => zerosL 480) := fun _ _ => rfl

/-- The row, as far as the first q blocks of a batch are set down. -/
def hputs (h : Nat → Option Nat) (E : List WE) (f : Nat → Nat) (q : Nat) : Nat → Option Nat := fun id => if id ∈ (idsN E).take q then some (f ((idsN E).idxOf id)) else h id
theorem hputs_zero (h : Nat → Option Nat) (E : List WE) (f : Nat → Nat) : hputs h E f 0 = h := by funext id; simp [hputs]
theorem hputs_succ {h : Nat → Option Nat} {E : List WE} {f : Nat → Nat} {q : Nat} (hn : (idsN E).Nodup) (hq : q < E.length) : Tb.upd (hputs h E f q) E[q].id.toNat (some (f q)) = hputs h E f (q + 1) := by
  have hidk : (idsN E)[q]? = some E[q].id.toNat := by simp [idsN, hq]
  have htk : (idsN E).take (q + 1) = (idsN E).take q ++ [E[q].id.toNat] := by rw [List.take_add_one, hidk]; rfl
  have hix : (idsN E).idxOf E[q].id.toNat = q := by
    obtain ⟨hl, he⟩ := List.getElem?_eq_some_iff.1 hidk
    rw [← he]
    exact List.Nodup.idxOf_getElem hn q hl
  funext id
  by_cases hi : id = E[q].id.toNat
  · subst hi
    rw [Tb.upd_same]
    simp only [hputs]
    rw [if_pos (by rw [htk]; simp), hix]
  · rw [Tb.upd_other _ _ hi]
    simp only [hputs]
    rw [htk]
    simp [hi]
theorem idsN_nodup {N : Nat} {E : List WE} (hE : MayE N E) : (idsN E).Nodup := by
  have h1 : (idsN E).map (fun (n : Nat) => (n : Int)) = E.map (·.id) := by
    simp only [idsN, List.map_map]
    apply List.map_congr_left
    intro e he
    have := (hE.2.2.1 e he).1
    simp only [Function.comp]
    omega
  refine List.Pairwise.of_map (fun (n : Nat) => (n : Int)) ?_ (by have := hE.2.2.2; rw [← h1] at this; exact this)
  intro a b hab e
  exact hab (by rw [e])
theorem HasD.batch {N : Nat} {h : Nat → Option Nat} {dat : Nat → List UInt8} {E : List WE} {f : Nat → Nat} (H : HasD N h dat) (hf : ∀ i (hi : i < E.length), E[i].l = blk (f i)) : HasD N (hputs h E f E.length) (datB E dat) := by
  have hl : (idsN E).length = E.length := by simp [idsN]
  intro id hid
  simp only [hputs, datB]
  rw [← hl, List.take_length]
  by_cases hm : id ∈ idsN E
  · have hlt := List.idxOf_lt_length_of_mem hm
    rw [if_pos hm, List.getElem?_eq_getElem (by omega)]
    exact hf _ (by omega)
  · have e1 : E[(idsN E).idxOf id]? = none := by
      rw [List.idxOf_eq_length hm]
      simp [idsN]
    rw [if_neg hm, e1]
    exact H id hid
end Jn
end Go.Proofs.Ytpbcjaennbgmaaa

