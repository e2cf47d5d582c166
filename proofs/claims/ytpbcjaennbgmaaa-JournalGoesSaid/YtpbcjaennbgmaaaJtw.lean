/- A second journal over the same device, made of the first one's state. -/
import Derived.Test.YtpbcjaennbgmaaaJhs
set_option maxRecDepth 100000
namespace Go.Proofs.Ytpbcjaennbgmaaa
namespace Jn
open Go.RowKit

/-- The places of a state, as numbers. -/
def placesL (N : Nat) (a : Nat → Option Nat) : List Int := (List.range N).map fun i => Tb.enc (a i)
theorem placesL_len (N : Nat) (a : Nat → Option Nat) : (placesL N a).length = N := by simp [placesL]
theorem aL_places {N : Nat} {a : Nat → Option Nat} (h : ∀ i p, a i = some p → i < N) : aL (placesL N a) = a := by
  funext i
  unfold aL
  by_cases hi : i < N
  · have e : (placesL N a)[i]? = some (Tb.enc (a i)) := by simp [placesL, hi]
    rw [e]
    cases ha : a i with
    | none => simp [Tb.enc]
    | some p =>
      have hne : ¬ Tb.enc (some p) = -1 := by
        show ¬ (p : Int) = -1
        omega
      show (if Tb.enc (some p) = -1 then none else some (Tb.enc (some p)).toNat) = some p
      rw [if_neg hne]
      rfl
  · have e : (placesL N a)[i]? = none := by simp [placesL, hi]
    rw [e]
    cases ha : a i with
    | none => rfl
    | some p => exact absurd (h i p ha) hi
theorem back_live {P H A : Nat} (h1 : A < H) (h2 : H ≤ A + P) (hP : 1 ≤ P) : backI (P : Int) ((H % P : Nat) : Int) ((A % P : Nat) : Int) = ((H - A : Nat) : Int) := by
  have hr := Nat.mod_lt H hP
  have hq := Nat.mod_lt A hP
  have e : (A % P + (H - A)) % P = H % P := by
    rw [Nat.mod_add_mod]
    congr 1
    omega
  unfold backI
  rcases Nat.lt_or_ge (A % P + (H - A)) P with h | h
  · rw [Nat.mod_eq_of_lt h] at e
    rw [if_pos (by omega)]
    omega
  · rw [Nat.mod_eq_sub_mod h] at e
    by_cases hd : A % P + (H - A) - P < P
    · rw [Nat.mod_eq_of_lt hd] at e
      rw [if_neg (by omega)]
      omega
    · omega
theorem right_live {s : JSt} {t : Jou.St} (h : Live s t) (hg : Tb.Good s.N s.P s.a s.o) (hP : 1 ≤ s.P) (hu : s.used ≤ s.P) (hN : 1 ≤ s.N ∧ s.N ≤ 3840) (he : 1 ≤ s.ep) (hs : 1 ≤ s.st) (hst : s.st ≤ s.sq + 1) (hq : s.sq ≤ 281474976710655) (hh : s.head < s.P) :
    RightF s.P s.ep s.st s.sq s.head s.used (placesL s.N s.a) := by
  refine ⟨⟨by omega, by omega, by omega, by omega⟩, ⟨by omega, by omega, by omega, by omega⟩, by rw [placesL_len]; exact hN, ⟨fun p hp => ?_, ?_⟩⟩
  · obtain ⟨i, -, rfl⟩ := List.mem_map.1 hp
    cases ha : s.a i with
    | none => exact .inl rfl
    | some p =>
      obtain ⟨A, -, rfl, h1, h2⟩ := h.some ha
      have hlt := Nat.mod_lt A hP
      have hus := h.used
      have hTH := h.inv.le
      refine .inr ⟨by show (0 : Int) ≤ ((A % s.P : Nat) : Int); omega, by show ((A % s.P : Nat) : Int) < s.P; omega, ?_⟩
      show backI s.P s.head ((A % s.P : Nat) : Int) ≤ s.used
      rw [h.head, back_live h2 (by omega) hP]
      omega
  · unfold keysA
    have hp : (placesL s.N s.a).Pairwise fun x y => x ≠ -1 → y ≠ -1 → x.toNat ≠ y.toNat := by
      unfold placesL
      rw [List.pairwise_map]
      refine (List.nodup_range (n := s.N)).imp ?_
      intro i j hij hx hy e
      cases ha : s.a i with
      | none => rw [ha] at hx; exact hx rfl
      | some p =>
        cases hb : s.a j with
        | none => rw [hb] at hy; exact hy rfl
        | some q =>
          rw [ha, hb] at e
          obtain rfl : p = q := by simpa [Tb.enc] using e
          have h1 := (hg.back i p).1 ha
          have h2 := (hg.back j p).1 hb
          rw [h1] at h2
          exact hij (Option.some.inj h2)
    show ((_ : List Int).map Int.toNat).Pairwise _
    rw [List.pairwise_map]
    have hf := hp.filter (p := fun p => p != -1)
    refine hf.imp_of_mem ?_
    intro x y hx hy hxy
    have h1 := (List.mem_filter.1 hx).2
    have h2 := (List.mem_filter.1 hy).2
    exact hxy (by simpa using h1) (by simpa using h2)

/-- Of two journals over one device, what the second one is beside the first one. -/
structure Twin (s s2 : JSt) (t2 : Jou.St) : Prop where
  N : s2.N = s.N
  P : s2.P = s.P
  a : s2.a = s.a
  br : s2.broken = false
  live : Live s2 t2
  ee : 1 ≤ s2.ep
  ss : 1 ≤ s2.st
  tt : s2.st ≤ s2.sq + 1
theorem Jl.twin {w : World} {A A2 : Ad} {F : Nat → Prop} {s s2 : JSt} {t t2 : Jou.St} {ds : DSt} {dat : Nat → List UInt8} (h : Jl w A F s t ds dat) (hj : JAt w A2 s2) (hb : A2.b = A.b) (hF : ∀ k, A2.own k → ¬ F k) (ht : Twin s s2 t2) : Jl w A2 F s2 t2 ds dat :=
  ⟨hj, by rw [hb]; exact h.dev, hF, ht.br, h.up, by rw [ht.P]; exact h.sec, ht.live, by rw [ht.N, ht.P]; exact h.rule, by rw [ht.a]; exact h.hold, by rw [ht.a]; exact h.non, by rw [ht.N]; exact h.nn, ht.ee, ht.ss, ht.tt, h.wt⟩
theorem Twin.swap {w : World} {A : Ad} {F : Nat → Prop} {s s2 : JSt} {t t2 : Jou.St} {ds : DSt} {dat : Nat → List UInt8} (ht : Twin s s2 t2) (h : Jl w A F s t ds dat) : Twin s2 s t :=
  ⟨ht.N.symm, ht.P.symm, ht.a.symm, h.br, h.live, h.ee, h.ss, h.tt⟩
section
variable {w0 wr w' : World} {A A2 : Ad} {Y : Nat → Prop} {s s2 : JSt} {t t2 : Jou.St} {ds ds' : DSt} {dat : Nat → List UInt8} {c : Nat}
/-- The other journal, the first one being one of the law's blocks. -/
theorem Gs.other (h : Gs w0 A Y s t ds dat c wr) (hj : JAt wr A2 s2) (hb : A2.b = A.b) (hY : ∀ k, A2.own k → Y k) (ht : Twin s s2 t2) (hq : s2.sq ≤ c) : Gs w0 A2 (fun k => A.own k ∨ Y k ∧ ¬ A2.own k) s2 t2 ds dat c wr := by
  obtain ⟨F, hl, hF⟩ := h.jl
  have hd : ∀ k, A2.own k → ¬ A.own k := fun k h2 h1 => (h.own k h1).2 (hY k h2)
  refine ⟨⟨F, hl.twin hj hb (fun k hk hf => (hF k hf).2 (hY k hk)) ht, fun k hk => ⟨(hF k hk).1, fun hh => hh.elim (fun h1 => hl.off k h1 hk) (fun h1 => (hF k hk).2 h1.1)⟩⟩, fun k hk => ⟨(h.ylt k (hY k hk)).1, fun hh => hh.elim (hd k hk) (fun h1 => h1.2 hk)⟩,
    fun k hk => hk.elim (fun h1 => ⟨(h.own k h1).1, hl.jat.lt k h1⟩) (fun h1 => h.ylt k h1.1), h.below, hq, h.reads, h.writes, h.flushes⟩

theorem Gs.read_own (h : Gs w0 A Y s t ds dat c wr) (hc : c < 1000000) {id : Nat} (hid : id < s.N) :
    Calls Try.prog 15 #[.pointer (some ⟨A.J, 0, none⟩), .int .i64 (id : Int)] wr fun e w' => (∃ v, e = .returned (.tuple #[v, .int .i64 0]) ∧ OwnB wr.heap.size w' v (dat id)) ∧
      ∃ ds' : DSt, ∃ F', Jl w' A F' s t ds' dat ∧ (∀ k, F' k → w0.heap.size ≤ k ∧ ¬ Y k ∧ k < wr.heap.size) ∧ Touch F' wr w' ∧ Gs w0 A Y s t ds' dat (c + 1) w' := by
  obtain ⟨F, hj, hF⟩ := h.jl
  have hr := h.reads
  have hwr := h.writes
  have hfl := h.flushes
  have hsq := h.sq
  cases ha : s.a id with
  | none =>
    refine (read_never hj.jat hj.br id hid ha).mono ?_
    rintro e w' ⟨rfl, rfl⟩
    have hb : Below wr.heap.size wr (wr.alloc (.cells (rowA (zerosL 480)) 5)) := (Below.refl _ wr).alloc (Nat.le_refl _) _
    refine ⟨⟨_, rfl, ?_⟩, ds, F, hj.touch (Touch.of_below (F := Emp) hb) (fun _ _ h => h) (fun _ _ h => h), fun k hk => ⟨(hF k hk).1, (hF k hk).2, hj.dev.lt k hk⟩, (Touch.refl _ wr).alloc _, (h.low hb).more (by omega)⟩
    rw [hj.non id ha]
    refine ⟨wr.heap.size, 480, by rw [zerosL_length], by rw [zerosL_length]; exact Nat.le_refl _, Nat.le_refl _, _, heap_alloc_new wr _, ?_⟩
    simp only [rowA]
    exact List.take_of_length_le (by simp)
  | some p =>
    refine (read_has hj.jat hj.dev hj.off hj.br hj.up ⟨by have := hj.wt; omega, by omega, by omega, by omega⟩ hj.sec id p hid ha _ (hj.hold id p ha)).mono ?_
    rintro e w' ⟨⟨v, rfl, hv⟩, ht, hd⟩
    have hj' := hj.incR ht hj.off hd
    refine ⟨⟨v, rfl, hv⟩, ds.incR, F, hj', fun k hk => ⟨(hF k hk).1, (hF k hk).2, hj.dev.lt k hk⟩, ht, ⟨⟨F, hj', hF⟩, h.own, fun k hk => ⟨(h.ylt k hk).1, Nat.lt_of_lt_of_le (h.ylt k hk).2 ht.size⟩, h.below.trans (ht.to_below (fun j _ hj2 => (hF j hj2).1) h.below.size), by omega, ?_, ?_, ?_⟩⟩
    · show ds.reads + 1 ≤ _
      omega
    · show ds.writes ≤ _
      omega
    · show ds.flushes ≤ _
      omega
/-- Read by the second journal. -/
theorem Gs.read_other (h : Gs w0 A Y s t ds dat c wr) (hj : JAt wr A2 s2) (hb : A2.b = A.b) (hY : ∀ k, A2.own k → Y k) (ht : Twin s s2 t2) (hq : s2.sq ≤ c) (hc : c < 1000000) {id : Nat} (hid : id < s.N) :
    Calls Try.prog 15 #[.pointer (some ⟨A2.J, 0, none⟩), .int .i64 (id : Int)] wr fun e w' => (∃ v, e = .returned (.tuple #[v, .int .i64 0]) ∧ OwnB wr.heap.size w' v (dat id)) ∧
      ∃ ds' : DSt, ∃ F', Jl w' A F' s t ds' dat ∧ (∀ k, F' k → w0.heap.size ≤ k ∧ ¬ Y k ∧ k < wr.heap.size) ∧ Touch F' wr w' ∧ Gs w0 A Y s t ds' dat (c + 1) w' ∧ JAt w' A2 s2 := by
  obtain ⟨F, hl, hF⟩ := h.jl
  have h2 := h.other hj hb hY ht hq
  refine (h2.read_own hc (id := id) (by rw [ht.N]; exact hid)).mono ?_
  rintro e w' ⟨he, ds', F', hl', hF', htc, hg'⟩
  have hY' : ∀ k, Y k → ¬ F' k := fun k hy hf => by
    by_cases h1 : A2.own k
    · exact hl'.off k h1 hf
    · exact (hF' k hf).2.1 (.inr ⟨hy, h1⟩)
  have hA' : ∀ k, A.own k → ¬ F' k := fun k hk hf => (hF' k hf).2.1 (.inl hk)
  have hja : JAt w' A s := hl.jat.touch htc hA'
  have hl1 := hl'.twin hja hb.symm hA' (ht.swap hl)
  have hFb : ∀ k, F' k → w0.heap.size ≤ k ∧ ¬ Y k ∧ k < wr.heap.size := fun k hk => ⟨(hF' k hk).1, fun hy => hY' k hy hk, (hF' k hk).2.2⟩
  exact ⟨he, ds', F', hl1, hFb, htc, ⟨⟨F', hl1, fun k hk => ⟨(hFb k hk).1, (hFb k hk).2.1⟩⟩, h.own, fun k hk => ⟨(h.ylt k hk).1, Nat.lt_of_lt_of_le (h.ylt k hk).2 htc.size⟩, hg'.below, by have := h.sq; omega, hg'.reads, hg'.writes, hg'.flushes⟩, hl'.jat⟩
end
theorem nv_places {W : World} {g N : Nat} {a : Nat → Option Nat} (h : W.heap[g]? = some (.cells (Tb.rowT N a).toArray 3 (0, 0))) : NV .i64 W (.slice (some ⟨g, 0, none⟩) N N) (placesL N a) g := by
  refine ⟨⟨some ⟨g, 0, none⟩, N, by rw [placesL_len], by rw [placesL_len]; exact Nat.le_refl _, (fun e => by cases e), fun _ => ⟨0, rfl, fun i hi => ?_⟩⟩, fun _ => lt_of_heap h⟩
  rw [placesL_len] at hi
  rw [Nat.zero_add, row_cell h hi]
  simp [placesL]
/-- A second journal, made of the first one's state. -/
theorem Gs.new_two {w0 wr : World} {A : Ad} {Y : Nat → Prop} {s : JSt} {t : Jou.St} {ds : DSt} {dat : Nat → List UInt8} {c g : Nat} (h : Gs w0 A Y s t ds dat c wr) (hN : 1 ≤ s.N) (hrow : wr.heap[g]? = some (.cells (Tb.rowT s.N s.a).toArray 3 (0, 0))) :
    Calls Try.prog 10 #[.pointer (some ⟨A.b, 0, none⟩), .int .i64 (s.P : Int), .agg (stI s.ep s.st s.sq s.head s.used (.slice (some ⟨g, 0, none⟩) s.N s.N))] wr fun e w' =>
      ∃ A2 s2, e = .returned (.tuple #[.pointer (some ⟨A2.J, 0, none⟩), .int .i64 0]) ∧ A2.b = A.b ∧ JAt w' A2 s2 ∧ Twin s s2 ⟨t.T, t.H, 0, t.at_⟩ ∧ s2.ep = s.ep ∧ s2.st = s.st ∧ s2.sq = s.sq ∧ s2.used = s.used ∧ s2.freed = 0 ∧ (∀ k, A2.own k → wr.heap.size ≤ k ∧ k < w'.heap.size) ∧ Below wr.heap.size wr w' := by
  obtain ⟨F, hj, hF⟩ := h.jl
  have hjat := hj.jat
  have hus := hjat.us
  have hsz : ds.secs.length ≤ 20000 := by
    obtain ⟨gs, S, wv, W, bm, es, clk, kv, hd⟩ := hj.dev.dev
    exact hd.size
  have hR := right_live hj.live hjat.tab.good hjat.p1 (by omega) ⟨hN, hj.nn⟩ hj.ee hj.ss hj.tt hjat.sq hjat.hd
  refine (new_ok hj.dev (nv_places hrow) hj.sec hjat.pm hjat.ep (by omega) hR).mono ?_
  rintro e w' ⟨A2, o, rfl, hb, hlo, hj2, hbw⟩
  have ha : aL (placesL s.N s.a) = s.a := aL_places fun i p hp => (hjat.tab.good.lt i p hp).1
  rw [placesL_len, ha] at hj2
  have hinv := hj.live.inv
  exact ⟨A2, _, rfl, hb, hj2, ⟨rfl, rfl, rfl, rfl, ⟨hj.live.a, hj.live.head, hj.live.used, rfl, ⟨hinv.le, hinv.used, hinv.inj, hinv.bound, by simp⟩, hj.live.lt⟩, hj.ee, hj.ss, hj.tt⟩, rfl, rfl, rfl, rfl, rfl, fun k hk => ⟨hlo k hk, hj2.lt k hk⟩, hbw⟩
/-- Blocks made since a world are a law's, if it likes. -/
theorem Gs.grow3 {w0 w5 wr : World} {A : Ad} {Y Z G : Nat → Prop} {s : JSt} {t : Jou.St} {ds : DSt} {dat : Nat → List UInt8} {c : Nat} (h : Gs w0 A Y s t ds dat c w5) (ht : Touch G w5 wr) (hG : ∀ k, G k → Y k) (hZ : ∀ k, Z k → Y k ∨ w5.heap.size ≤ k ∧ k < wr.heap.size) : Gs w0 A Z s t ds dat c wr := by
  obtain ⟨F, hj, hF⟩ := h.jl
  have h1 := h.touch ht (fun k hk => .inl (hG k hk))
  have hs := h.below.size
  refine ⟨⟨F, hj.touch ht (fun k hk hg => (hF k hk).2 (hG k hg)) (fun k hk hg => (h.own k hk).2 (hG k hg)), fun k hk => ⟨(hF k hk).1, fun hz => ?_⟩⟩, fun k hk => ⟨(h.own k hk).1, fun hz => ?_⟩, fun k hk => ?_, h1.below, h.sq, h.reads, h.writes, h.flushes⟩
  · rcases hZ k hz with hy | hy
    · exact (hF k hk).2 hy
    · have := hj.dev.lt k hk; omega
  · rcases hZ k hz with hy | hy
    · exact (h.own k hk).2 hy
    · have := hj.jat.lt k hk; omega
  · rcases hZ k hk with hy | hy
    · exact ⟨(h.ylt k hy).1, Nat.lt_of_lt_of_le (h.ylt k hy).2 ht.size⟩
    · exact ⟨by omega, hy.2⟩
theorem datB_snoc2 {E : List WE} {e : WE} {dat : Nat → List UInt8} (h : e.id.toNat ∉ idsN E) (id : Nat) : datB (E ++ [e]) dat id = if id = e.id.toNat then e.l else datB E dat id := by
  have hl : (idsN E).length = E.length := by simp [idsN]
  have e1 : idsN (E ++ [e]) = idsN E ++ [e.id.toNat] := by simp [idsN]
  unfold datB
  rw [e1]
  by_cases hi : id = e.id.toNat
  · subst hi
    rw [if_pos rfl, List.idxOf_append, if_neg h]
    have h2 : [e.id.toNat].idxOf e.id.toNat = 0 := by simp
    rw [h2, hl]
    simp
  · rw [if_neg hi, List.idxOf_append]
    by_cases hm : id ∈ idsN E
    · rw [if_pos hm]
      have hlt := List.idxOf_lt_length_of_mem hm
      rw [List.getElem?_append_left (by omega)]
    · rw [if_neg hm, List.idxOf_eq_length hm]
      have hb : (e.id.toNat == id) = false := by simpa using Ne.symm hi
      have h2 : [e.id.toNat].idxOf id = 1 := by simp [List.idxOf, List.findIdx, List.findIdx.go, hb]
      rw [h2, List.getElem?_eq_none (by simp; omega), List.getElem?_eq_none (by omega)]
theorem datB_nil2 (dat : Nat → List UInt8) : datB [] dat = dat := by
  funext id
  simp [datB]
/-- Any batch, one that may be or one that may not. -/
theorem Gs.any_commit {w0 wr : World} {A : Ad} {Y : Nat → Prop} {s : JSt} {t : Jou.St} {ds : DSt} {dat : Nat → List UInt8} {c : Nat} (h : Gs w0 A Y s t ds dat c wr) (hc : c < 1000000) {v : Value} {E : List WE} {X : Nat → Prop} (hw : WL wr v E X) (hX : ∀ k, X k → Y k) (hl : E.length ≤ 1000) :
    Calls Try.prog 14 #[.pointer (some ⟨A.J, 0, none⟩), v] wr fun e w' => ∃ x : Int, e = .returned (.int .i64 x) ∧ (MayE s.N E ∧ x = 0 ∨ ¬ MayE s.N E ∧ x = 1) ∧ Touch (fun k => w0.heap.size ≤ k ∧ ¬ Y k) wr w' ∧
      ∃ s' t' ds', Gs w0 A Y s' t' ds' (if x = 0 then datB E dat else dat) (c + 1) w' ∧ s'.N = s.N ∧ s'.ep = s.ep ∧ s'.st = s.st ∧ s.sq ≤ s'.sq := by
  by_cases hE : MayE s.N E
  · refine (h.commit hc hw hX hE).mono ?_
    rintro e w' ⟨rfl, ht, s', t', ds', hg, q1, -, q3, q4, q5, -⟩
    exact ⟨0, rfl, .inl ⟨hE, rfl⟩, ht, s', t', ds', hg, q1, q3, q4, by omega⟩
  · refine (commit_bad h.jat hw (fun k hk => (h.ylt k (hX k hk)).2) (by omega) hE).mono ?_
    rintro e w' ⟨rfl, hb⟩
    exact ⟨1, rfl, .inr ⟨hE, rfl⟩, Touch.of_below hb, s, t, ds, (h.low hb).more (by omega), rfl, rfl, rfl, Nat.le_refl _⟩
/-- A row of ten slices of bytes: each reads what its block has. -/
structure HasF (w : World) (gh : Nat) (dat : Nat → List UInt8) (Y : Nat → Prop) : Prop where
  yg : Y gh
  row : ∃ cur, w.heap[gh]? = some (.cells cur 41 (0, 0)) ∧ ∀ i, i < 10 → ∃ v g, cur[i]? = some v ∧ BV w v (dat i) g ∧ Y g ∧ ∃ c f, w.heap[g]? = some (.cells c 5 f)
theorem HasF.touch {w w1 : World} {gh : Nat} {dat : Nat → List UInt8} {Y G : Nat → Prop} (h : HasF w gh dat Y) (ht : Touch G w w1) (hG : ∀ k, Y k → ¬ G k) : HasF w1 gh dat Y := by
  obtain ⟨cur, h1, h2⟩ := h.row
  refine ⟨h.yg, cur, ht.at h1 (hG _ h.yg), fun i hi => ?_⟩
  obtain ⟨v, g, a1, a2, a3, c, f, a4⟩ := h2 i hi
  exact ⟨v, g, a1, a2.touch ht (fun _ => hG _ a3), a3, c, f, ht.at a4 (hG _ a3)⟩
theorem HasF.mono {w : World} {gh : Nat} {dat : Nat → List UInt8} {Y Z : Nat → Prop} (h : HasF w gh dat Y) (hZ : ∀ k, Y k → Z k) : HasF w gh dat Z := by
  obtain ⟨cur, h1, h2⟩ := h.row
  refine ⟨hZ _ h.yg, cur, h1, fun i hi => ?_⟩
  obtain ⟨v, g, a1, a2, a3, a4⟩ := h2 i hi
  exact ⟨v, g, a1, a2, hZ _ a3, a4⟩
/-- One slice more set down. -/
theorem HasF.set {w : World} {gh id : Nat} {dat dat' : Nat → List UInt8} {Y : Nat → Prop} {v : Value} {g : Nat} {l : List UInt8} (h : HasF w gh dat Y) (hv : BV w v l g ∧ Y g ∧ ∃ c f, w.heap[g]? = some (.cells c 5 f)) (hid : id < 10) (hd : ∀ i, dat' i = if i = id then l else dat i) : HasF (w.setCell ⟨gh, id, none⟩ v) gh dat' Y := by
  obtain ⟨cur, h1, h2⟩ := h.row
  have ht : Touch (fun k => k = gh) w (w.setCell ⟨gh, id, none⟩ v) := (Touch.refl (fun k => k = gh) w).setCell (a := ⟨gh, id, none⟩) (.inl rfl) _
  have hne : ∀ (g : Nat) (c : Array Value) (f : Nat × Nat), w.heap[g]? = some (.cells c 5 f) → ¬ g = gh := by
    rintro g c f hg rfl
    rw [h1] at hg
    simp at hg
  refine ⟨h.yg, _, heap_setCell_same _ _ id _ _ _ h1, fun i hi => ?_⟩
  by_cases e : i = id
  · subst e
    obtain ⟨b1, b2, c, f, b3⟩ := hv
    have hlt : i < cur.size := by
      obtain ⟨v', g', a1, -⟩ := h2 i hi
      exact (Array.getElem?_eq_some_iff.1 a1).1
    refine ⟨v, g, by simp [hlt], ?_, b2, c, f, ht.at b3 (hne _ _ _ b3)⟩
    rw [hd, if_pos rfl]
    exact b1.touch ht (fun _ => hne _ _ _ b3)
  · obtain ⟨v', g', a1, a2, a3, c, f, a4⟩ := h2 i hi
    refine ⟨v', g', ?_, ?_, a3, c, f, ht.at a4 (hne _ _ _ a4)⟩
    · rw [Array.getElem?_setIfInBounds_ne (fun h => e h.symm)]
      exact a1
    · rw [hd, if_neg e]
      exact a2.touch ht (fun _ => hne _ _ _ a4)
end Jn
end Go.Proofs.Ytpbcjaennbgmaaa
