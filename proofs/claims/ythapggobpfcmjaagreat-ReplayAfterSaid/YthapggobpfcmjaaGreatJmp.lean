/- What a Commit makes of the journal's numbers; a row made by itself as an argument. -/
import Derived.Test.YthapggobpfcmjaaGreatJmn
import Derived.Test.YthapggobpfcmjaaGreatJme
set_option maxRecDepth 100000
namespace Go.Proofs.YthapggobpfcmjaaGreat
namespace Jn
open Go.RowKit

/-- A journal that goes: in memory, over its device; what each block has. -/
structure Jl (w : World) (A : Ad) (F : Nat → Prop) (s : JSt) (t : Jou.St) (ds : DSt) (dat : Nat → List UInt8) : Prop where
  jat : JAt w A s
  dev : DevF w F A.b ds
  off : ∀ k, A.own k → ¬ F k
  br : s.broken = false
  up : ds.Up
  sec : s.P + 1 ≤ ds.secs.length
  live : Live s t
  rule : 5 * s.N + 240 ≤ 2 * s.P
  hold : ∀ id p, s.a id = some p → Holds ds p id (dat id)
  non : ∀ id, s.a id = none → dat id = zerosL 480
  nn : s.N ≤ 3840
  ee : 1 ≤ s.ep
  ss : 1 ≤ s.st
  tt : s.st ≤ s.sq + 1
  wt : ds.waits.length ≤ 72

theorem wl_cat {base : Nat} {w : World} {v : Value} {E : List WE} {X : Nat → Prop} (h : w.ownsRow base 41 2 v E.length (E.flatMap cellsE)) (hx : ∀ k, base ≤ k → k < w.heap.size → X k)
    (hd : ∀ e ∈ E, BV w e.v e.l e.g ∧ (e.l ≠ [] → X e.g)) : WL w v E X := by
  rcases h.2 with ⟨rfl, h0⟩ | ⟨g, cap, cur, rfl, hb, hg, hc, -, -, htk⟩
  · obtain rfl : E = [] := List.eq_nil_of_length_eq_zero h0
    exact ⟨⟨none, 0, rfl, by simp, (fun _ => rfl), fun h => absurd rfl h⟩, fun i hi => absurd hi (by simp), hd⟩
  · refine ⟨⟨_, cap, rfl, hc, (fun e => by cases e), fun _ => ⟨g, 0, rfl, hx _ hb (lt_of_heap hg)⟩⟩, fun i hi g' off cap' e => ?_, hd⟩
    obtain ⟨⟨rfl, rfl⟩, rfl⟩ : (g = g' ∧ 0 = off) ∧ cap = cap' := by simpa using e
    have hcells := h.cells (g := g) rfl
    obtain ⟨h1, h2⟩ := cellsE_at E i hi
    have k1 := hcells _ _ h1
    have k2 := hcells _ _ h2
    rw [add_lit] at k1 k2
    simpa using ⟨k1, k2⟩

section
variable {w w' : World} {A : Ad} {F G : Nat → Prop} {s : JSt} {t : Jou.St} {ds : DSt} {dat : Nat → List UInt8} {E M : List WE} {c : Nat}
theorem plan (h : Jl w A F s t ds dat) (hE : MayE s.N E) (hc : c = min (2 * E.length) s.used) (hM : M.map (fun e => (e.id, e.l)) = (mvL s c (idsN E) (liveL s c).length).map (fun (id : Nat) => ((id : Int), dat id))) :
    (∀ e ∈ E ++ M, 0 ≤ e.id ∧ e.id < s.N ∧ e.l.length = 480) ∧ (E ++ M).length + s.used + s.freed ≤ s.P ∧ (idsN (E ++ M)).Nodup ∧ (∀ k, k < (E ++ M).length → (stepT s (E ++ M) k).2 ((s.head + k) % s.P) = none) ∧
      Live (after s (E ++ M) c) (nextT t c (idsN (E ++ M))) ∧ ∀ id, (after s (E ++ M) c).a id = if id ∈ idsN (E ++ M) then some ((t.H + (idsN (E ++ M)).idxOf id) % s.P) else s.a id := by
  have hlen : (idsN E).length = E.length := by simp [idsN]
  have hg := h.jat.tab.good
  have hP := h.jat.p1
  have hu : s.used ≤ s.P := by have := h.jat.us; omega
  have hcu : c ≤ s.used := by omega
  have hidM : idsN M = mvL s c (idsN E) (liveL s c).length := by
    have := congrArg (List.map (fun x : Int × List UInt8 => x.1.toNat)) hM
    simpa [idsN, List.map_map, Function.comp_def] using this
  have hmem : ∀ e ∈ M, 0 ≤ e.id ∧ e.id < s.N ∧ e.l.length = 480 := by
    intro e he
    have h1 : (e.id, e.l) ∈ M.map (fun e => (e.id, e.l)) := List.mem_map_of_mem (f := fun e : WE => (e.id, e.l)) he
    rw [hM] at h1
    obtain ⟨x, hx, hxe⟩ := List.mem_map.1 h1
    simp only [Prod.mk.injEq] at hxe
    obtain ⟨e1, e2⟩ := hxe
    obtain ⟨a, ha, -⟩ := Jou.inP_iff.1 ((mv_mem h.live hg hP hu hcu _ x).1 hx).1
    have hs : s.a x = some (a % s.P) := by rw [h.live.a, ha]; rfl
    have hlt := (hg.lt _ _ hs).1
    rw [← e1, ← e2]
    exact ⟨by omega, by omega, (h.hold x _ hs).1⟩
  have hall : ∀ e ∈ E ++ M, 0 ≤ e.id ∧ e.id < s.N ∧ e.l.length = 480 := fun e he => (List.mem_append.1 he).elim (hE.2.2.1 e) (hmem e)
  have hnd : (idsN E).Nodup := by
    have h1 : (idsN E).map (fun (n : Nat) => (n : Int)) = E.map (·.id) := by
      simp only [idsN, List.map_map]
      apply List.map_congr_left
      intro e he
      have := (hE.2.2.1 e he).1
      simp only [Function.comp]
      omega
    refine List.Pairwise.of_map (fun (n : Nat) => (n : Int)) ?_ (by have := hE.2.2.2; rw [← h1] at this; exact this)
    intro a b hab e
    exact hab (by rw [e])
  have hc' : c = min (2 * (idsN E).length) s.used := by rw [hlen]; exact hc
  subst hc'
  obtain ⟨a1, a2, a3, a4, a5⟩ := live_after h.live hg hP h.rule hu (E := E ++ M) (fun e he => ⟨(hall e he).1, (hall e he).2.1⟩) (ids := idsN E) (moves := idsN M) (by simp [idsN]) hnd (by rw [hlen]; exact hE.2.1) hidM
  exact ⟨hall, a1, a2, a3, a4, a5⟩

/-- The places behind a batch of these blocks. -/
def Nxt (t t' : Jou.St) (ids : List Nat) : Prop := ∃ ms : List Nat, t' = nextT t (min (2 * ids.length) (t.H - t.T)) (ids ++ ms) ∧ ms.Nodup ∧ ∀ x, x ∈ ms ↔ Jou.inP t.at_ t.T (t.T + min (2 * ids.length) (t.H - t.T)) x = true ∧ x ∉ ids
theorem nxt_of (h : Jl w A F s t ds dat) (hc : c = min (2 * E.length) s.used) (hM : M.map (fun e => (e.id, e.l)) = (mvL s c (idsN E) (liveL s c).length).map (fun (id : Nat) => ((id : Int), dat id))) : Nxt t (nextT t c (idsN (E ++ M))) (idsN E) := by
  have hlen : (idsN E).length = E.length := by simp [idsN]
  have hg := h.jat.tab.good
  have hP := h.jat.p1
  have hu : s.used ≤ s.P := by have := h.jat.us; omega
  have hcu : c ≤ s.used := by omega
  have hidM : idsN M = mvL s c (idsN E) (liveL s c).length := by
    have := congrArg (List.map (fun x : Int × List UInt8 => x.1.toNat)) hM
    simpa [idsN, List.map_map, Function.comp_def] using this
  have hc2 : min (2 * (idsN E).length) (t.H - t.T) = c := by rw [hlen, ← h.live.used]; exact hc.symm
  refine ⟨idsN M, ?_, ?_, fun x => ?_⟩
  · rw [hc2]; simp [idsN]
  · rw [hidM]; exact mv_nodup h.live hg hP hu hcu _
  · rw [hc2, hidM]; exact mv_mem h.live hg hP hu hcu _ x

theorem jl_after (h : Jl w A F s t ds dat) (hE : MayE s.N E) (hc : c = min (2 * E.length) s.used) (hM : M.map (fun e => (e.id, e.l)) = (mvL s c (idsN E) (liveL s c).length).map (fun (id : Nat) => ((id : Int), dat id))) (hMl : M.length ≤ 48)
    (hq : s.sq < 281474976710655) (hj : JAt w' A (after s (E ++ M) c)) (hd : DevF w' G A.b ((DSt.more ds.flush M.length).puts (putsU s (E ++ M) (E ++ M).length))) (hG : ∀ j, j < w.heap.size → G j → F j) :
    Jl w' A G (after s (E ++ M) c) (nextT t c (idsN (E ++ M))) ((DSt.more ds.flush M.length).puts (putsU s (E ++ M) (E ++ M).length)) (datB E dat) := by
  obtain ⟨hall, a1, a2, a3, a4, a5⟩ := plan h hE hc hM
  obtain ⟨hup2, f1, f2, f3, f4, f5⟩ := h.up.flush_up
  have hP := h.jat.p1
  have hlen : (E ++ M).length ≤ 72 := by
    have := hE.2.1
    simp only [List.length_append]
    omega
  refine ⟨hj, hd, fun k hk hg => h.off k hk (hG k (h.jat.lt k hk) hg), h.br, ?_, ?_, a4, h.rule, ?_, ?_, h.nn, h.ee, h.ss, ?_, ?_⟩
  · refine DSt.Up.puts (s := DSt.more ds.flush M.length) ⟨hup2.down, hup2.armed, hup2.nod, hup2.fits⟩ fun x hx => ?_
    have h1 : x.1 ∈ (putsU s (E ++ M) (E ++ M).length).map (·.1) := List.mem_map_of_mem hx
    rw [putsU_fst s _ _ (Nat.le_refl _)] at h1
    obtain ⟨i, -, hi⟩ := List.mem_map.1 h1
    have h2 := Nat.mod_lt (s.head + i) hP
    have h3 := h.sec
    show x.1 < ds.flush.secs.length
    rw [f4]
    omega
  · show s.P + 1 ≤ ds.flush.secs.length
    rw [f4]
    exact h.sec
  · intro id p hp
    rw [← datB_moved hM]
    exact holds_after h.live ⟨h.nn, h.ee, h.ss, h.tt, hq⟩ hall a2 hlen h.jat.ep (by omega) h.up h.hold a5 id p hp
  · intro id hid
    rw [a5] at hid
    by_cases hm : id ∈ idsN (E ++ M)
    · rw [if_pos hm] at hid
      cases hid
    · rw [if_neg hm] at hid
      have hm' : id ∉ idsN E := fun hx => hm (by simp only [idsN, List.map_append, List.mem_append] at hx ⊢; exact .inl hx)
      have e1 : E[(idsN E).idxOf id]? = none := by
        rw [List.idxOf_eq_length hm']
        simp [idsN]
      unfold datB
      rw [e1]
      exact h.non id hid
  · have := h.tt
    show s.st ≤ s.sq + 1 + 1
    omega
  · show (ds.flush.waits ++ putsU s (E ++ M) (E ++ M).length).length ≤ 72
    rw [f5, List.nil_append, putsU_len]
    exact hlen
end
end Jn
end Go.Proofs.YthapggobpfcmjaaGreat
