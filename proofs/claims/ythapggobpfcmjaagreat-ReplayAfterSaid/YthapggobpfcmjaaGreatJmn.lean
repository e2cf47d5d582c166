/- What a device has of a journal's blocks, behind a batch: plain mathematics. -/
import Derived.Test.YthapggobpfcmjaaGreatJmm
import Derived.Test.YthapggobpfcmjaaGreatJmj
set_option maxRecDepth 100000
namespace Go.Proofs.YthapggobpfcmjaaGreat
namespace Jn
open Go.RowKit

/-- What each block has behind a batch. -/
def datB (E : List WE) (dat : Nat → List UInt8) (id : Nat) : List UInt8 := match E[(idsN E).idxOf id]? with
  | some e => e.l
  | none => dat id
theorem ids_idx {E : List WE} {id : Nat} (hid : id ∈ idsN E) : ∃ hk : (idsN E).idxOf id < E.length, E[(idsN E).idxOf id].id.toNat = id := by
  have hlt := List.idxOf_lt_length_of_mem hid
  have hl : (idsN E).length = E.length := by simp [idsN]
  have hk : (idsN E).idxOf id < E.length := by omega
  have h2 : (idsN E)[(idsN E).idxOf id]? = some id := by rw [List.getElem?_eq_getElem hlt, List.getElem_idxOf hlt]
  generalize hj : (idsN E).idxOf id = j at hk h2 ⊢
  rw [idsN, List.getElem?_map, List.getElem?_eq_getElem hk] at h2
  exact ⟨hk, by simpa using h2⟩
theorem datB_moved {E M : List WE} {dat : Nat → List UInt8} {mv : List Nat} (hM : M.map (fun e => (e.id, e.l)) = mv.map fun (id : Nat) => ((id : Int), dat id)) (id : Nat) : datB (E ++ M) dat id = datB E dat id := by
  unfold datB
  have e1 : idsN (E ++ M) = idsN E ++ idsN M := by simp [idsN]
  have l1 : (idsN E).length = E.length := by simp [idsN]
  rw [e1, List.idxOf_append]
  by_cases hi : id ∈ idsN E
  · have hlt := List.idxOf_lt_length_of_mem hi
    rw [if_pos hi, List.getElem?_append_left (by omega)]
  · rw [if_neg hi, l1, List.getElem?_append_right (by omega)]
    have e2 : (idsN E).idxOf id = E.length := by
      rw [← l1]
      exact List.idxOf_eq_length hi
    have e3 : E[(idsN E).idxOf id]? = none := by rw [e2]; simp
    rw [e3]
    rw [show (idsN M).idxOf id + E.length - E.length = (idsN M).idxOf id by omega]
    by_cases hm : id ∈ idsN M
    · obtain ⟨hk, hid⟩ := ids_idx hm
      rw [List.getElem?_eq_getElem hk]
      have h2 := congrArg (·[(idsN M).idxOf id]?) hM
      simp only [List.getElem?_map, List.getElem?_eq_getElem hk, Option.map_some] at h2
      obtain ⟨x, hx, hxe⟩ := Option.map_eq_some_iff.1 h2.symm
      simp only [Prod.mk.injEq] at hxe
      have : x = id := by
        have := congrArg Int.toNat hxe.1
        simp at this
        omega
      subst this
      exact hxe.2.symm
    · have : (idsN M).idxOf id = M.length := by
        have := List.idxOf_eq_length hm
        simpa [idsN] using this
      rw [this]
      simp

theorem putsU_fst (s : JSt) (E : List WE) (k : Nat) (hk : k ≤ E.length) : (putsU s E k).map (·.1) = (List.range k).map fun i => (s.head + i) % s.P + 1 := by
  unfold putsU
  rw [List.map_map]
  apply List.map_congr_left
  intro i hi
  have hi' := List.mem_range.1 hi
  have : i < E.length := by omega
  simp [putI, this]
theorem putsU_nodup (s : JSt) (E : List WE) (hn : E.length ≤ s.P) : ((putsU s E E.length).map (·.1)).Nodup := by
  rw [putsU_fst s E _ (Nat.le_refl _)]
  refine List.Pairwise.map _ (R := fun i j => i ≠ j ∧ i < E.length ∧ j < E.length) ?_ ?_
  · rintro i j ⟨hne, hi, hj⟩ he
    have := mod_eq (P := s.P) (x := s.head + i) (y := s.head + j) (by omega) (by omega) (by omega)
    omega
  · refine List.Pairwise.imp_of_mem ?_ (List.nodup_range (n := E.length))
    intro a b ha hb hab
    exact ⟨hab, List.mem_range.1 ha, List.mem_range.1 hb⟩

theorem holds_after {s : JSt} {t : Jou.St} {ds : DSt} {dat : Nat → List UInt8} {E : List WE} {c m : Nat} (h : Live s t) (hx : Next s) (hE : ∀ e ∈ E, 0 ≤ e.id ∧ e.id < s.N ∧ e.l.length = 480) (_hnE : (idsN E).Nodup) (hlen : E.length ≤ 72) (hep : s.ep < 4294967296)
    (hroom : E.length + s.used ≤ s.P) (hu : ds.Up) (hh : ∀ id p, s.a id = some p → Holds ds p id (dat id))
    (ha : ∀ id, (after s E c).a id = if id ∈ idsN E then some ((t.H + (idsN E).idxOf id) % s.P) else s.a id) (id p : Nat) (hp : (after s E c).a id = some p) :
    Holds ((DSt.more ds.flush m).puts (putsU s E E.length)) p id (datB E dat id) := by
  have hlE : (idsN E).length = E.length := by simp [idsN]
  rw [ha] at hp
  by_cases hid : id ∈ idsN E
  · rw [if_pos hid] at hp
    obtain ⟨hk, hke⟩ := ids_idx hid
    have hd : datB E dat id = E[(idsN E).idxOf id].l := by
      unfold datB
      rw [List.getElem?_eq_getElem hk]
    generalize (idsN E).idxOf id = k at *
    have hEk := hE E[k] (List.getElem_mem _)
    rw [hd]
    refine ⟨hEk.2.2, tagI s E.length k E[k].id, tagI_right hx hlen hk hEk.1 hEk.2.1, hep, by show E[k].id = _; omega, ?_⟩
    have hkp : k < (putsU s E E.length).length := by rw [putsU_len]; exact hk
    have hlw := lastW_at (putsU_nodup s E (by omega)) hkp
    have hput : (putsU s E E.length)[k] = ((s.head + k) % s.P + 1, Tg.enc (tagI s E.length k E[k].id) E[k].l) := by simp [putsU, putI, hk]
    rw [hput] at hlw
    simp only at hlw
    have hpk : p = (s.head + k) % s.P := by
      have := Option.some.inj hp
      rw [← this, h.head, Nat.mod_add_mod]
    rw [DSt.look_puts, hpk, hlw]
  · rw [if_neg hid] at hp
    have hd : datB E dat id = dat id := by
      unfold datB
      rw [List.idxOf_eq_length hid, hlE]
      simp
    rw [hd]
    obtain ⟨h1, tg, h2, h3, h4, h5⟩ := hh id p hp
    refine ⟨h1, tg, h2, h3, h4, ?_⟩
    obtain ⟨A, -, hm, hA1, hA2⟩ := h.some hp
    have hln : lastW (putsU s E E.length) (p + 1) = none := lastW_none fun x hx' he => by
      have : x.1 ∈ (putsU s E E.length).map (·.1) := List.mem_map_of_mem hx'
      rw [putsU_fst s E _ (Nat.le_refl _)] at this
      obtain ⟨i, hi, hie⟩ := List.mem_map.1 this
      have hi' := List.mem_range.1 hi
      have hus := h.used
      rw [h.head, Nat.mod_add_mod] at hie
      have := mod_eq (P := s.P) (x := A) (y := t.H + i) (by omega) (by omega) (by omega)
      omega
    rw [DSt.look_puts, hln, more_look, hu.flush_look]
    exact h5

end Jn
end Go.Proofs.YthapggobpfcmjaaGreat
