/- A journal's places, counted on and round the ring: plain mathematics. -/
import Derived.Test.YthapggobpfcmjaaGreatJmk
import Derived.Test.YthapggobpfcmjaaGreatJou
set_option maxRecDepth 100000
namespace Go.Proofs.YthapggobpfcmjaaGreat
namespace Jn
open Go.RowKit

/-- A journal's places, counted on (t), are its places, counted round. -/
structure Live (s : JSt) (t : Jou.St) : Prop where
  a : ∀ id, s.a id = (t.at_ id).map (· % s.P)
  head : s.head = t.H % s.P
  used : s.used = t.H - t.T
  freed : s.freed = t.lag
  inv : Jou.Inv s.N t
  lt : ∀ id a, t.at_ id = some a → id < s.N

theorem mod_eq {P x y : Nat} (h : x % P = y % P) (h1 : x < y + P) (h2 : y < x + P) : x = y := by
  rcases Nat.lt_or_ge x y with hlt | hge
  · have e : (y - x) % P = 0 := by
      have := Nat.sub_mod_eq_zero_of_mod_eq h.symm
      exact this
    have hp : y - x < P := by omega
    rw [Nat.mod_eq_of_lt hp] at e
    omega
  · have e : (x - y) % P = 0 := Nat.sub_mod_eq_zero_of_mod_eq h
    have hp : x - y < P := by omega
    rw [Nat.mod_eq_of_lt hp] at e
    omega

section
variable {s : JSt} {t : Jou.St}
theorem Live.some (h : Live s t) {id p : Nat} (hp : s.a id = some p) : ∃ A, t.at_ id = some A ∧ A % s.P = p ∧ t.T ≤ A ∧ A < t.H := by
  rw [h.a] at hp
  obtain ⟨A, hA, rfl⟩ := Option.map_eq_some_iff.1 hp
  exact ⟨A, hA, rfl, h.inv.used id A hA⟩
theorem Live.none (h : Live s t) {id : Nat} : s.a id = none ↔ t.at_ id = none := by
  rw [h.a]; simp
theorem Live.tail (h : Live s t) (hP : 1 ≤ s.P) (_hu : s.used ≤ s.P) (i : Nat) : (tl s + i) % s.P = (t.T + i) % s.P := by
  have e1 := tl_int s hP
  have hH := h.inv.le
  have h1 : (tl s : Int) = (t.T : Int) % (s.P : Int) := by
    rw [← e1, h.head, h.used, Int.natCast_emod, Int.natCast_sub hH]
    rw [show ((t.H : Int) % (s.P : Int) + -((t.H : Int) - (t.T : Int))) = ((t.H : Int) % (s.P : Int) - (t.H : Int)) + (t.T : Int) by omega]
    have : ((t.H : Int) % (s.P : Int) - (t.H : Int)) = (s.P : Int) * -((t.H : Int) / (s.P : Int)) := by
      have := Int.mul_ediv_add_emod (t.H : Int) (s.P : Int)
      rw [Int.mul_neg]
      omega
    rw [this, Int.add_comm, Int.add_mul_emod_self_left]
  have h2 : tl s = t.T % s.P := by
    have : ((t.T % s.P : Nat) : Int) = (t.T : Int) % (s.P : Int) := Int.natCast_emod _ _
    omega
  rw [h2, Nat.mod_add_mod]

/-- Which blocks are live at the first c places in use. -/
theorem Live.mem (h : Live s t) (hg : Tb.Good s.N s.P s.a s.o) (hP : 1 ≤ s.P) (hu : s.used ≤ s.P) {c : Nat} (hc : c ≤ s.used) (x : Nat) : x ∈ liveL s c ↔ Jou.inP t.at_ t.T (t.T + c) x = true := by
  have hH := h.inv.le
  have hus := h.used
  rw [Jou.inP_iff]
  unfold liveL
  rw [List.mem_filterMap]
  constructor
  · rintro ⟨i, hi, ho⟩
    have hi' := List.mem_range.1 hi
    rw [h.tail hP hu i] at ho
    obtain ⟨A, hA, hm, hl, hlt⟩ := h.some ((hg.back x _).2 ho)
    have := mod_eq hm (by omega) (by omega)
    exact ⟨A, hA, hl, by omega⟩
  · rintro ⟨A, hA, hl, hlt⟩
    refine ⟨A - t.T, List.mem_range.2 (by omega), ?_⟩
    rw [h.tail hP hu, show t.T + (A - t.T) = A by omega]
    refine (hg.back x _).1 ?_
    rw [h.a, hA]; rfl
theorem Live.nodup (h : Live s t) (hg : Tb.Good s.N s.P s.a s.o) (hP : 1 ≤ s.P) (hu : s.used ≤ s.P) {c : Nat} (hc : c ≤ s.used) : (liveL s c).Nodup := by
  have hus := h.used
  have hH := h.inv.le
  unfold liveL
  refine List.Pairwise.filterMap _ (R := fun i j => i ≠ j ∧ i < c ∧ j < c) ?_ ?_
  · rintro i j ⟨hne, hi, hj⟩ x hx y hy rfl
    rw [h.tail hP hu] at hx hy
    have h1 := (hg.back x _).2 hx
    have h2 := (hg.back x _).2 hy
    rw [h1] at h2
    have := mod_eq (Option.some.inj h2) (by omega) (by omega)
    omega
  · have := List.nodup_range (n := c)
    refine List.Pairwise.imp_of_mem ?_ this
    intro a b ha hb hab
    exact ⟨hab, List.mem_range.1 ha, List.mem_range.1 hb⟩

theorem mv_mem (h : Live s t) (hg : Tb.Good s.N s.P s.a s.o) (hP : 1 ≤ s.P) (hu : s.used ≤ s.P) {c : Nat} (hc : c ≤ s.used) (bl : List Nat) (x : Nat) :
    x ∈ mvL s c bl (liveL s c).length ↔ Jou.inP t.at_ t.T (t.T + c) x = true ∧ x ∉ bl := by
  unfold mvL
  rw [List.take_length, List.mem_filter, h.mem hg hP hu hc]
  simp
theorem mv_nodup (h : Live s t) (hg : Tb.Good s.N s.P s.a s.o) (hP : 1 ≤ s.P) (hu : s.used ≤ s.P) {c : Nat} (hc : c ≤ s.used) (bl : List Nat) : (mvL s c bl (liveL s c).length).Nodup := by
  unfold mvL
  rw [List.take_length]
  exact (h.nodup hg hP hu hc).filter _

/-- The places behind a batch. -/
def nextT (t : Jou.St) (c : Nat) (all : List Nat) : Jou.St := ⟨t.T + c, t.H + all.length, c, fun id => if id ∈ all then some (t.H + all.idxOf id) else t.at_ id⟩
theorem nextT_step {N : Nat} {ids moves : List Nat} (hn : (ids ++ moves).Nodup) : Jou.Step N t ids moves (nextT t (min (2 * ids.length) (t.H - t.T)) (ids ++ moves)) := by
  refine ⟨rfl, rfl, rfl, fun k hk => ?_, fun id hid => ?_⟩
  · simp only [nextT]
    rw [if_pos (List.getElem_mem _), List.Nodup.idxOf_getElem hn]
  · simp only [nextT]
    rw [if_neg hid]
theorem idxOf_take {l : List Nat} {k x : Nat} (h : x ∈ l.take k) : l.idxOf x < k := by
  have e : l = l.take k ++ l.drop k := (List.take_append_drop k l).symm
  rw [e, List.idxOf_append, if_pos h]
  exact Nat.lt_of_lt_of_le (List.idxOf_lt_length_of_mem h) (by simp; omega)
theorem step_at (h : Live s t) (hg : Tb.Good s.N s.P s.a s.o) (hP : 1 ≤ s.P) {E : List WE} (hE : ∀ e ∈ E, 0 ≤ e.id ∧ e.id < s.N) (hn : (idsN E).Nodup) (hroom : s.used + E.length ≤ s.P) :
    ∀ k, k ≤ E.length → Tb.Good s.N s.P (stepT s E k).1 (stepT s E k).2 ∧ (∀ id, (stepT s E k).1 id = if id ∈ (idsN E).take k then some ((t.H + (idsN E).idxOf id) % s.P) else s.a id) ∧ (k < E.length → (stepT s E k).2 ((s.head + k) % s.P) = none)
  | 0, _ => by
    refine ⟨hg, fun id => by simp [stepT], fun hk => ?_⟩
    cases e : s.o ((s.head + 0) % s.P) with
    | none => exact e
    | some i =>
      exfalso
      obtain ⟨A, -, hm, h1, h2⟩ := h.some ((hg.back i _).2 e)
      rw [h.head, Nat.mod_add_mod] at hm
      have hus := h.used
      have := mod_eq hm (by omega) (by omega)
      omega
  | k + 1, hk => by
    obtain ⟨ih1, ih2, ih3⟩ := step_at h hg hP hE hn hroom k (by omega)
    have hkE : k < E.length := by omega
    have hid := hE E[k] (List.getElem_mem _)
    have hidk : (idsN E)[k]? = some E[k].id.toNat := by simp [idsN, hkE]
    have hlen : (idsN E).length = E.length := by simp [idsN]
    have hput := ih1.put (id := E[k].id.toNat) (by omega) (Nat.mod_lt (s.head + k) hP) (.inl (ih3 hkE))
    have htk : (idsN E).take (k + 1) = (idsN E).take k ++ [E[k].id.toNat] := by rw [List.take_add_one, hidk]; rfl
    have hix : (idsN E).idxOf E[k].id.toNat = k := by
      have := (List.getElem?_eq_some_iff.1 hidk)
      obtain ⟨hl, he⟩ := this
      rw [← he]
      exact List.Nodup.idxOf_getElem hn k hl
    rw [stepT_succ hkE]
    have hform : ∀ id, Tb.upd (stepT s E k).1 E[k].id.toNat (some ((s.head + k) % s.P)) id = if id ∈ (idsN E).take (k + 1) then some ((t.H + (idsN E).idxOf id) % s.P) else s.a id := by
      intro id
      rw [htk]
      by_cases hi : id = E[k].id.toNat
      · subst hi
        rw [Tb.upd_same, if_pos (by simp), hix, h.head, Nat.mod_add_mod]
      · rw [Tb.upd_other _ _ hi, ih2]
        simp [hi]
    refine ⟨hput, hform, fun hk2 => ?_⟩
    cases e : (Tb.putO (stepT s E k).1 (stepT s E k).2 E[k].id.toNat ((s.head + k) % s.P)) ((s.head + (k + 1)) % s.P) with
    | none => exact e
    | some i =>
      exfalso
      have hb := (hput.back i _).2 e
      rw [hform] at hb
      have hus := h.used
      have hH := h.inv.le
      rw [h.head, Nat.mod_add_mod] at hb
      split at hb
      · rename_i hmem
        have hlt := idxOf_take hmem
        have := mod_eq (Option.some.inj hb) (by omega) (by omega)
        omega
      · obtain ⟨A, -, hm, h1, h2⟩ := h.some hb
        have := mod_eq hm (by omega) (by omega)
        omega

/-- Behind a batch. -/
theorem live_after (h : Live s t) (hg : Tb.Good s.N s.P s.a s.o) (hP : 1 ≤ s.P) (hrule : 5 * s.N + 240 ≤ 2 * s.P) (hu : s.used ≤ s.P) {ids moves : List Nat} {E : List WE} (hE : ∀ e ∈ E, 0 ≤ e.id ∧ e.id < s.N)
    (hall : idsN E = ids ++ moves) (hi : ids.Nodup) (hlen : ids.length ≤ 24) (hm : moves = mvL s (min (2 * ids.length) s.used) ids (liveL s (min (2 * ids.length) s.used)).length) :
    E.length + s.used + s.freed ≤ s.P ∧ (idsN E).Nodup ∧ (∀ k, k < E.length → (stepT s E k).2 ((s.head + k) % s.P) = none) ∧ Live (after s E (min (2 * ids.length) s.used)) (nextT t (min (2 * ids.length) s.used) (idsN E)) ∧
      ∀ id, (after s E (min (2 * ids.length) s.used)).a id = if id ∈ idsN E then some ((t.H + (idsN E).idxOf id) % s.P) else s.a id := by
  have hlE : (idsN E).length = E.length := by simp [idsN]
  have hc : min (2 * ids.length) s.used ≤ s.used := Nat.min_le_right _ _
  have hmm := fun x => mv_mem h hg hP hu hc ids x
  have hmn := mv_nodup h hg hP hu hc ids
  rw [← hm] at hmn
  rw [← hm] at hmm
  rw [h.used] at hmm
  have hnd : (ids ++ moves).Nodup := Jou.all_nodup hi hmn fun x hx => ((hmm x).1 hx).2
  have hidN : ∀ x ∈ idsN E, x < s.N := fun x hx => by
    obtain ⟨e, he, rfl⟩ := List.mem_map.1 hx
    have := hE e he
    omega
  have hst := nextT_step (N := s.N) (t := t) hnd
  obtain ⟨hinv, hlt, hroom⟩ := Jou.step h.inv hst hi (fun x hx => hidN x (by rw [hall]; exact List.mem_append_left _ hx)) hlen h.lt hmn hmm
  rw [← hall, hlE, ← h.used, ← h.freed] at hroom
  have hr : E.length + s.used + s.freed ≤ s.P := by omega
  have hnE : (idsN E).Nodup := by rw [hall]; exact hnd
  have hsa := fun k hk => step_at h hg hP hE hnE (by omega) k hk
  have hfin : ∀ id, (stepT s E E.length).1 id = if id ∈ idsN E then some ((t.H + (idsN E).idxOf id) % s.P) else s.a id := fun id => by
    have := (hsa E.length (Nat.le_refl _)).2.1 id
    rwa [← hlE, List.take_length, hlE] at this
  refine ⟨hr, hnE, fun k hk => (hsa k (by omega)).2.2 hk, ⟨fun id => ?_, ?_, ?_, rfl, ?_, ?_⟩, hfin⟩
  · show (stepT s E E.length).1 id = _
    rw [hfin]
    simp only [nextT]
    by_cases hid : id ∈ idsN E
    · simp [hid, after]
    · rw [if_neg hid, if_neg hid, h.a]; rfl
  · show (s.head + E.length) % s.P = (t.H + (idsN E).length) % s.P
    rw [h.head, Nat.mod_add_mod, hlE]
  · show s.used + E.length - min (2 * ids.length) s.used = t.H + (idsN E).length - (t.T + min (2 * ids.length) s.used)
    have hH := h.inv.le
    have := h.used
    rw [hlE]
    omega
  · rw [← hall, ← h.used] at hinv
    exact hinv
  · rw [← hall, ← h.used] at hlt
    exact hlt
end

end Jn
end Go.Proofs.YthapggobpfcmjaaGreat
