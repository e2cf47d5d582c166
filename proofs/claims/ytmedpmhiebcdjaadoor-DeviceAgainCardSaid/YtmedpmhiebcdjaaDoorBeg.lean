/- The way into each operation of a device: begin; has; Down, Start, Arm, Counts. -/
import Derived.Test.YtmedpmhiebcdjaaDoorCra
import Derived.BigQuiet
import Derived.Deep.QuietTactic
namespace Go.Proofs.YtmedpmhiebcdjaaDoor
open Go.RowKit

/-- What each operation does first. -/
def DSt.fired (s : DSt) : DSt := if s.armed = true ∧ s.left = 0 ∧ s.down = false then s.crash s.keep else s
def DSt.ticked (s : DSt) : DSt := if s.armed = true then { s with left := s.left - 1 } else s
def DSt.begin_ (s : DSt) : DSt := if s.fired.down = true then s.fired else s.fired.ticked
def DSt.err (s : DSt) : Int := if s.fired.down = true then 2 else 0

theorem Ints.reads {w : World} {F : Nat → Prop} {v : Value} {l : List Int} (h : Ints w F v l) : ∃ g, IReads w v l g ∧ (l ≠ [] → ∃ c, w.heap[g]? = some (.cells c 3 (0, 0))) := by
  rcases h with ⟨g, cap, c, rfl, _, hg, hc⟩ | ⟨ha, rfl⟩
  · refine ⟨g, ⟨0, cap, .inl ⟨rfl, fun i hi => ?_⟩⟩, fun _ => ⟨c, hg⟩⟩
    rw [cell_of_row w g _ _ _ _ hg]
    have := congrArg (·[i]?) hc
    simp only [List.getElem?_take, hi, if_true, List.getElem?_map, Array.getElem?_toList] at this
    rw [Nat.zero_add, this]
    simp [hi]
  · obtain ⟨a, cap, rfl⟩ := ha
    exact ⟨0, ⟨0, cap, .inr ⟨⟨a, rfl⟩, rfl⟩⟩, fun h => absurd rfl h⟩

set_option maxHeartbeats 400000 in
theorem has_any (b gs n : Nat) (at_ : Int) (w : World) (hc : w.cell? ⟨b, 0, none⟩ = some (.slice (some ⟨gs, 0, none⟩) n n)) :
    Calls Tryd.prog 19 #[.pointer (some ⟨b, 0, none⟩), .int .i64 at_] w fun e w' => e = .returned (.bool (decide (0 ≤ at_ ∧ at_ < n))) ∧ w = w' := by
  by_cases h0 : 0 ≤ at_
  · by_cases h1 : at_ < n
    · have h2 : (decide (0 ≤ at_ ∧ at_ < n)) = true := by simp [h0, h1]
      rw [h2]
      clear h2
      go_enter Tryd.func19, Tryd.ntmps19
      go_wp2
      go_ret
      exact ⟨rfl, rfl⟩
    · have h2 : (decide (0 ≤ at_ ∧ at_ < n)) = false := by simp [h1]
      rw [h2]
      clear h2
      go_enter Tryd.func19, Tryd.ntmps19
      go_wp2
      go_ret
      exact ⟨rfl, rfl⟩
  · have h2 : (decide (0 ≤ at_ ∧ at_ < n)) = false := by simp [h0]
    rw [h2]
    clear h2
    go_enter Tryd.func19, Tryd.ntmps19
    go_wp2
    go_ret
    exact ⟨rfl, rfl⟩

set_option maxHeartbeats 400000 in
theorem begin_fired {F : Nat → Prop} {w : World} {b : Nat} {s : DSt} (h : Dev w F b s) (hsz : s.waits.length < 4294967296) (ha : s.armed = true) (hl : s.left = 0) (hdn : s.down = false) :
    Calls Tryd.prog 20 #[.pointer (some ⟨b, 0, none⟩)] w fun e w' => e = .returned (.int .i64 2) ∧ Touch F w w' ∧ Dev w' F b (s.crash s.keep) := by
  obtain ⟨gs, S, wv, W, bm, es, clk, kv, h⟩ := h
  obtain ⟨g, hr, hg⟩ := h.keep.reads
  have hc := crash_any h kv s.keep g hr (fun h0 => by obtain ⟨c, hc⟩ := hg h0; exact h.int_ne hc) hsz
  have HC := Lib.hid hc
  have d6 := h.cell 6
  have d7 := h.cell 7
  have d8 := h.cell 8
  have d9 := h.cell 9
  simp only [devC, List.getElem?_toArray, List.getElem?_cons_succ, List.getElem?_cons_zero, ha, hl, hdn] at d6 d7 d8 d9
  clear h hr hg hc ha hl hdn hsz
  go_enter Tryd.func20, Tryd.ntmps20
  go_wp2_with fail
  refine HC.out.mono ?_
  rintro e w1 ⟨rfl, ht, hd⟩
  have d6' : w1.cell? ⟨b, 6, none⟩ = some (.bool true) := by
    obtain ⟨gs, S, wv, W, bm, es, clk, kv, hd⟩ := hd
    rw [hd.cell]; rfl
  go_wp2
  go_ret
  exact ⟨rfl, ht, hd⟩

set_option maxHeartbeats 400000 in
theorem begin_down {F : Nat → Prop} {w : World} {b : Nat} {s : DSt} (h : Dev w F b s) (hdn : s.down = true) :
    Calls Tryd.prog 20 #[.pointer (some ⟨b, 0, none⟩)] w fun e w' => e = .returned (.int .i64 2) ∧ w = w' := by
  obtain ⟨gs, S, wv, W, bm, es, clk, kv, h⟩ := h
  have d6 := h.cell 6
  have d7 := h.cell 7
  have d8 := h.cell 8
  simp only [devC, List.getElem?_toArray, List.getElem?_cons_succ, List.getElem?_cons_zero, hdn] at d6 d7 d8
  clear h hdn
  cases ha : s.armed
  · rw [ha] at d7
    clear ha
    go_enter Tryd.func20, Tryd.ntmps20
    go_wp2
    go_ret
    exact ⟨rfl, rfl⟩
  · rw [ha] at d7
    clear ha
    by_cases hl : s.left = 0
    · rw [hl] at d8
      clear hl
      go_enter Tryd.func20, Tryd.ntmps20
      go_wp2
      go_ret
      exact ⟨rfl, rfl⟩
    · have hlb : (s.left == 0) = false := by simpa using hl
      go_enter Tryd.func20, Tryd.ntmps20
      go_wp2
      go_ret
      exact ⟨rfl, rfl⟩

set_option maxHeartbeats 400000 in
theorem begin_idle {F : Nat → Prop} {w : World} {b : Nat} {s : DSt} (h : Dev w F b s) (hdn : s.down = false) (ha : s.armed = false) :
    Calls Tryd.prog 20 #[.pointer (some ⟨b, 0, none⟩)] w fun e w' => e = .returned (.int .i64 0) ∧ w = w' := by
  obtain ⟨gs, S, wv, W, bm, es, clk, kv, h⟩ := h
  have d6 := h.cell 6
  have d7 := h.cell 7
  simp only [devC, List.getElem?_toArray, List.getElem?_cons_succ, List.getElem?_cons_zero, hdn, ha] at d6 d7
  clear h hdn ha
  go_enter Tryd.func20, Tryd.ntmps20
  go_wp2
  go_ret
  exact ⟨rfl, rfl⟩

set_option maxHeartbeats 400000 in
theorem begin_tick {F : Nat → Prop} {w : World} {b : Nat} {s : DSt} (h : Dev w F b s) (hdn : s.down = false) (ha : s.armed = true) (hl : ¬ s.left = 0) :
    Calls Tryd.prog 20 #[.pointer (some ⟨b, 0, none⟩)] w fun e w' => e = .returned (.int .i64 0) ∧ Touch F w w' ∧ Dev w' F b { s with left := s.left - 1 } := by
  obtain ⟨gs, S, wv, W, bm, es, clk, kv, h⟩ := h
  have H := Lib.hid h
  have d6 := h.cell 6
  have d7 := h.cell 7
  have d8 := h.cell 8
  have f8 := h.free 8
  simp only [devC, List.getElem?_toArray, List.getElem?_cons_succ, List.getElem?_cons_zero, hdn, ha] at d6 d7 d8
  have h0 := h.left ha
  have h1 := h.left2
  have hlb : (s.left == 0) = false := by simpa using hl
  clear h hdn
  go_enter Tryd.func20, Tryd.ntmps20
  go_wp2
  go_ret
  have ht : Touch (fun k => k = b) w (w.setCell ⟨b, 8, none⟩ (.int .i64 (s.left - 1))) := (Touch.refl (fun k => k = b) w).setCell (a := ⟨b, 8, none⟩) (.inl rfl) _
  refine ⟨rfl, ht.mono fun k _ hk => hk ▸ H.out.ownD, gs, S, wv, W, bm, es, clk, kv, H.out.put1 ht ?_ rfl rfl rfl rfl (fun _ => by show (0 : Int) ≤ s.left - 1; omega) (by show s.left - 1 ≤ _; omega)⟩
  rw [heap_setCell_same _ _ _ _ _ _ H.out.dev]
  simp [devC]

theorem begin_any {F : Nat → Prop} {w : World} {b : Nat} {s : DSt} (h : Dev w F b s) (hsz : s.waits.length < 4294967296) :
    Calls Tryd.prog 20 #[.pointer (some ⟨b, 0, none⟩)] w fun e w' => e = .returned (.int .i64 s.err) ∧ Touch F w w' ∧ Dev w' F b s.begin_ := by
  by_cases hf : s.armed = true ∧ s.left = 0 ∧ s.down = false
  · have e1 : s.fired = s.crash s.keep := if_pos hf
    have e2 : s.fired.down = true := by rw [e1]; rfl
    rw [DSt.err, if_pos e2, DSt.begin_, if_pos e2, e1]
    exact begin_fired h hsz hf.1 hf.2.1 hf.2.2
  · have e1 : s.fired = s := if_neg hf
    cases hdn : s.down
    · have e2 : ¬ s.fired.down = true := by rw [e1, hdn]; simp
      rw [DSt.err, if_neg e2, DSt.begin_, if_neg e2, e1]
      cases ha : s.armed
      · have e3 : s.ticked = s := if_neg (by rw [ha]; simp)
        rw [e3]
        refine (begin_idle h hdn ha).mono ?_
        rintro e w' ⟨he, rfl⟩
        exact ⟨he, Touch.refl _ _, h⟩
      · have e3 : s.ticked = { s with left := s.left - 1 } := if_pos ha
        rw [e3]
        exact begin_tick h hdn ha fun hl => hf ⟨ha, hl, hdn⟩
    · have e2 : s.fired.down = true := by rw [e1, hdn]
      rw [DSt.err, if_pos e2, DSt.begin_, if_pos e2, e1]
      refine (begin_down h hdn).mono ?_
      rintro e w' ⟨he, rfl⟩
      exact ⟨he, Touch.refl _ _, h⟩

end Go.Proofs.YtmedpmhiebcdjaaDoor
