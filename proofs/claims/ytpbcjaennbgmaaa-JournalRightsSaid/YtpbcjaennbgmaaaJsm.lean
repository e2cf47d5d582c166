/- What two batches make of a journal that nothing was written to: plain mathematics. -/
import Derived.Test.YtpbcjaennbgmaaaJmp
namespace Go.Proofs.Ytpbcjaennbgmaaa
namespace Jn

theorem nxt_none {t t' : Jou.St} {ids : List Nat} (h : Nxt t t' ids) (h0 : ∀ x, t.at_ x = none) : t' = nextT t (min (2 * ids.length) (t.H - t.T)) ids := by
  obtain ⟨ms, rfl, -, hm⟩ := h
  obtain rfl : ms = [] := List.eq_nil_iff_forall_not_mem.2 fun x hx => by
    obtain ⟨a, e, -⟩ := Jou.inP_iff.1 ((hm x).1 hx).1
    rw [h0] at e; cases e
  rw [List.append_nil]
theorem shown_math {t1 t2 : Jou.St} (h1 : Nxt ⟨0, 0, 0, fun _ => none⟩ t1 [3, 4]) (h2 : Nxt t1 t2 [3]) : t2.T = 2 ∧ t2.H = 4 ∧ t2.lag = 2 ∧ t2.at_ 3 = some 2 ∧ t2.at_ 4 = some 3 := by
  have e1 := nxt_none h1 fun _ => rfl
  subst e1
  obtain ⟨ms, rfl, hn, hm⟩ := h2
  have hms : ms = [4] := by
    have hx : ∀ x, x ∈ ms ↔ x = 4 := fun x => by
      rw [hm x, Jou.inP_iff]
      simp only [nextT, List.length_cons, List.length_nil]
      constructor
      · rintro ⟨⟨a, e, -⟩, h3⟩
        split at e
        · rename_i h; simp at h h3; omega
        · cases e
      · rintro rfl
        exact ⟨⟨1, by simp [List.idxOf, List.findIdx, List.findIdx.go], by omega, by omega⟩, by simp⟩
    match ms, hn, hx with
    | [], _, hx => exact absurd ((hx 4).2 rfl) (by simp)
    | [a], _, hx => rw [(hx a).1 (by simp)]
    | a :: b :: l, hn, hx =>
      have ha := (hx a).1 (by simp)
      have hb := (hx b).1 (by simp)
      simp [ha, hb] at hn
  subst hms
  refine ⟨rfl, rfl, rfl, ?_, ?_⟩ <;> simp [nextT, List.idxOf, List.findIdx, List.findIdx.go]
end Jn
end Go.Proofs.Ytpbcjaennbgmaaa
