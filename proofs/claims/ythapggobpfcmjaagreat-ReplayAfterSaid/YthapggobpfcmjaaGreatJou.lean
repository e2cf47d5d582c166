/- A journal's room: plain mathematics (JournalNever, TopFull): with twice places at least five times blocks and 240, a batch is never refused. Imports nothing of the dump. -/
import Derived.Test.YthapggobpfcmjaaGreatRows
namespace Go.Proofs.YthapggobpfcmjaaGreat
namespace Jou

/-- As many as there are unlike ones below N that fit. -/
theorem nodup_le (p : Nat → Bool) : ∀ (N : Nat) (l : List Nat), l.Nodup → (∀ x ∈ l, x < N ∧ p x = true) → l.length ≤ (List.range N).countP p
  | 0, [], _, _ => Nat.le_refl _
  | 0, x :: _, _, h => absurd (h x (by simp)).1 (by omega)
  | N + 1, l, hn, h => by
    rw [List.range_succ, List.countP_append]
    by_cases hm : N ∈ l
    · have h1 := nodup_le p N (l.erase N) (hn.erase N) (fun x hx => by
        have := (hn.mem_erase_iff).1 hx
        have h2 := h x this.2
        exact ⟨by omega, h2.2⟩)
      rw [List.length_erase_of_mem hm] at h1
      have hp := (h N hm).2
      simp only [List.countP_cons, List.countP_nil, hp, if_true]
      have : 0 < l.length := List.length_pos_of_mem hm
      omega
    · have h1 := nodup_le p N l hn (fun x hx => by
        have h2 := h x hx
        refine ⟨?_, h2.2⟩
        have : x ≠ N := fun e => hm (e ▸ hx)
        omega)
      omega

abbrev Places := Nat → Option Nat
/-- Is block id at one of the places from lo on, below hi? (Places counted on, never round.) -/
def inP (at_ : Places) (lo hi : Nat) (id : Nat) : Bool := match at_ id with
  | some a => decide (lo ≤ a) && decide (a < hi)
  | none => false
def cnt (N : Nat) (at_ : Places) (lo hi : Nat) : Nat := (List.range N).countP (inP at_ lo hi)

theorem inP_iff {at_ : Places} {lo hi id : Nat} : inP at_ lo hi id = true ↔ ∃ a, at_ id = some a ∧ lo ≤ a ∧ a < hi := by
  unfold inP
  cases at_ id <;> simp
theorem countP_split (p q r : Nat → Bool) (h : ∀ x, p x = (q x || r x)) (hd : ∀ x, ¬ (q x = true ∧ r x = true)) : ∀ l : List Nat, l.countP p = l.countP q + l.countP r
  | [] => rfl
  | x :: l => by
    simp only [List.countP_cons]
    rw [countP_split p q r h hd l, h x]
    have := hd x
    cases hq : q x <;> cases hr : r x <;> simp_all <;> omega
theorem cnt_split (N : Nat) (at_ : Places) (a b c : Nat) (h1 : a ≤ b) (h2 : b ≤ c) : cnt N at_ a c = cnt N at_ a b + cnt N at_ b c := by
  refine countP_split _ _ _ (fun x => ?_) (fun x => ?_) _
  · rw [Bool.eq_iff_iff, Bool.or_eq_true, inP_iff, inP_iff, inP_iff]
    constructor
    · rintro ⟨p, e, h3, h4⟩
      by_cases hb : p < b
      · exact .inl ⟨p, e, h3, hb⟩
      · exact .inr ⟨p, e, by omega, h4⟩
    · rintro (⟨p, e, h3, h4⟩ | ⟨p, e, h3, h4⟩)
      · exact ⟨p, e, h3, by omega⟩
      · exact ⟨p, e, by omega, h4⟩
  · rw [inP_iff, inP_iff]
    rintro ⟨⟨p, e, h3, h4⟩, ⟨q, e', h5, h6⟩⟩
    rw [e] at e'; cases e'; omega
theorem cnt_le (N : Nat) (at_ : Places) (a b : Nat) : cnt N at_ a b ≤ N := by
  have := List.countP_le_length (p := inP at_ a b) (l := List.range N)
  rwa [List.length_range] at this
theorem countP_mono (p q : Nat → Bool) (h : ∀ x, p x = true → q x = true) (l : List Nat) : l.countP p ≤ l.countP q := List.countP_mono_left fun x _ => h x

/-- A journal, as numbers: places from T on, below H, are in use (counted on, never round); lag of them were set free last. -/
structure St where
  T : Nat
  H : Nat
  lag : Nat
  at_ : Places

/-- What is always so. -/
structure Inv (N : Nat) (s : St) : Prop where
  le : s.T ≤ s.H
  used : ∀ id a, s.at_ id = some a → s.T ≤ a ∧ a < s.H
  inj : ∀ i j a, s.at_ i = some a → s.at_ j = some a → i = j
  bound : ∀ i, i ≤ s.H - s.T → 2 * (s.H - s.T) + 2 * cnt N s.at_ s.T (s.T + i) ≤ 5 * N + i
  lag : s.lag ≤ 48

/-- One batch: 'ids' are written, 'moves' are those that are live among the cleaned and are not written. -/
structure Step (N : Nat) (s : St) (ids moves : List Nat) (s' : St) : Prop where
  T : s'.T = s.T + min (2 * ids.length) (s.H - s.T)
  H : s'.H = s.H + (ids ++ moves).length
  lag : s'.lag = min (2 * ids.length) (s.H - s.T)
  at_new : ∀ k (h : k < (ids ++ moves).length), s'.at_ (ids ++ moves)[k] = some (s.H + k)
  at_old : ∀ id, id ∉ ids ++ moves → s'.at_ id = s.at_ id

theorem fresh (N : Nat) : Inv N ⟨0, 0, 0, fun _ => none⟩ := by
  refine ⟨Nat.le_refl _, fun _ _ h => by simp at h, fun _ _ _ h => by simp at h, fun i hi => ?_, by simp⟩
  have : cnt N (fun _ => none) 0 (0 + i) = 0 := by
    unfold cnt
    rw [List.countP_eq_zero]
    intro x _; simp [inP]
  simp only at hi ⊢
  rw [this]; omega

section
variable {N : Nat} {s s' : St} {ids moves : List Nat}
/-- What moves is not more than what is live among the cleaned. -/
theorem moves_le (hm : ∀ x, x ∈ moves ↔ inP s.at_ s.T (s.T + min (2 * ids.length) (s.H - s.T)) x = true ∧ x ∉ ids) (hn : moves.Nodup) (hN : ∀ id a, s.at_ id = some a → id < N) :
    moves.length ≤ cnt N s.at_ s.T (s.T + min (2 * ids.length) (s.H - s.T)) :=
  nodup_le _ N moves hn fun x hx => by
    have h := ((hm x).1 hx).1
    obtain ⟨a, e, _⟩ := inP_iff.1 h
    exact ⟨hN _ _ e, h⟩

theorem all_nodup (hi : ids.Nodup) (hn : moves.Nodup) (hm : ∀ x, x ∈ moves → x ∉ ids) : (ids ++ moves).Nodup :=
  List.nodup_append.2 ⟨hi, hn, fun _ ha b hb e => hm b hb (e ▸ ha)⟩

theorem step (h : Inv N s) (hs : Step N s ids moves s') (hi : ids.Nodup) (hid : ∀ x ∈ ids, x < N) (hlen : ids.length ≤ 24) (hN : ∀ id a, s.at_ id = some a → id < N)
    (hn : moves.Nodup) (hm : ∀ x, x ∈ moves ↔ inP s.at_ s.T (s.T + min (2 * ids.length) (s.H - s.T)) x = true ∧ x ∉ ids) :
    Inv N s' ∧ (∀ id a, s'.at_ id = some a → id < N) ∧ 2 * ((ids ++ moves).length + (s.H - s.T) + s.lag) ≤ 5 * N + 192 := by
  have hall := all_nodup hi hn fun x hx => ((hm x).1 hx).2
  have hml := moves_le hm hn hN
  have hlt : ∀ x ∈ ids ++ moves, x < N := fun x hx => (List.mem_append.1 hx).elim (hid x) fun hx => by
    obtain ⟨a, e, _⟩ := inP_iff.1 ((hm x).1 hx).1
    exact hN _ _ e
  have hallN : (ids ++ moves).length ≤ N := by
    have := nodup_le (fun _ => true) N (ids ++ moves) hall fun x hx => ⟨hlt x hx, rfl⟩
    have h2 := List.countP_le_length (p := fun _ : Nat => true) (l := List.range N)
    rw [List.length_range] at h2
    omega
  have hc : min (2 * ids.length) (s.H - s.T) ≤ s.H - s.T := Nat.min_le_right _ _
  have hc2 : min (2 * ids.length) (s.H - s.T) ≤ 2 * ids.length := Nat.min_le_left _ _
  have hcc : min (2 * ids.length) (s.H - s.T) = 2 * ids.length ∨ min (2 * ids.length) (s.H - s.T) = s.H - s.T := by omega
  have hTT := hs.T
  have hlag := hs.lag
  generalize hcd : min (2 * ids.length) (s.H - s.T) = c at hc hc2 hcc hml hm hTT hlag
  have hHT := h.le
  have hL : (ids ++ moves).length = ids.length + moves.length := List.length_append
  -- the new places
  have hmem : ∀ id a, s'.at_ id = some a → (id ∈ ids ++ moves ∧ ∃ k, k < (ids ++ moves).length ∧ (ids ++ moves)[k]? = some id ∧ a = s.H + k) ∨ (id ∉ ids ++ moves ∧ s.at_ id = some a) := fun id a e => by
    by_cases hx : id ∈ ids ++ moves
    · obtain ⟨k, hk, rfl⟩ := List.mem_iff_getElem.1 hx
      rw [hs.at_new k hk] at e
      exact .inl ⟨hx, k, hk, List.getElem?_eq_getElem hk, (Option.some.inj e).symm⟩
    · rw [hs.at_old id hx] at e
      exact .inr ⟨hx, e⟩
  have hold : ∀ id a, id ∉ ids ++ moves → s.at_ id = some a → s'.T ≤ a := fun id a hx e => by
    have hu := h.used id a e
    by_cases hlo : s.T + c ≤ a
    · rw [hTT]; exact hlo
    · have : id ∈ moves := (hm id).2 ⟨inP_iff.2 ⟨a, e, hu.1, by omega⟩, fun hx' => hx (List.mem_append.2 (.inl hx'))⟩
      exact absurd (List.mem_append.2 (.inr this)) hx
  have hN' : ∀ id a, s'.at_ id = some a → id < N := fun id a e => (hmem id a e).elim (fun h1 => hlt id h1.1) fun h1 => hN id a h1.2
  -- what is in a prefix of what is left
  have hpre : ∀ x, x ≤ s.H → cnt N s'.at_ s'.T x ≤ cnt N s.at_ s'.T x := fun x hx => countP_mono _ _ (fun id hid => by
    obtain ⟨a, e, h1, h2⟩ := inP_iff.1 hid
    rcases hmem id a e with ⟨_, k, _, _, rfl⟩ | ⟨_, e'⟩
    · omega
    · exact inP_iff.2 ⟨a, e', h1, h2⟩) _
  have hsuf : ∀ j, j ≤ (ids ++ moves).length → cnt N s'.at_ s'.T (s.H + j) + ((ids ++ moves).length - j) ≤ N := fun j hj => by
    have h1 := cnt_split N s'.at_ s'.T (s.H + j) (s.H + (ids ++ moves).length) (by omega) (by omega)
    have h2 : (ids ++ moves).length - j ≤ cnt N s'.at_ (s.H + j) (s.H + (ids ++ moves).length) := by
      have := nodup_le (inP s'.at_ (s.H + j) (s.H + (ids ++ moves).length)) N ((ids ++ moves).drop j) ((List.drop_sublist _ _).nodup hall) fun x hx => by
        obtain ⟨k, hk, rfl⟩ := List.mem_iff_getElem.1 hx
        rw [List.length_drop] at hk
        rw [List.getElem_drop]
        refine ⟨hlt _ (List.getElem_mem _), inP_iff.2 ⟨_, hs.at_new _ _, by omega, by omega⟩⟩
      rwa [List.length_drop] at this
    have h3 := cnt_le N s'.at_ s'.T (s.H + (ids ++ moves).length)
    omega
  have hc0 := cnt_split N s.at_ s.T (s.T + c)
  have hb0 := h.bound c hc
  have hHH := hs.H
  have hml2 : moves.length ≤ N := by omega
  refine ⟨⟨by omega, fun id a e => ?_, fun i j a hi' hj' => ?_, fun i hi' => ?_, by rw [hlag]; omega⟩, hN', ?_⟩
  · rcases hmem id a e with ⟨_, k, hk, _, rfl⟩ | ⟨hx, e'⟩
    · omega
    · have := h.used id a e'
      exact ⟨hold id a hx e', by omega⟩
  · rcases hmem i a hi' with ⟨_, k, hk, hk2, rfl⟩ | ⟨hx, e'⟩
    · rcases hmem j _ hj' with ⟨_, k', hk', hk2', e2⟩ | ⟨hx, e'⟩
      · obtain rfl : k = k' := by omega
        rw [hk2] at hk2'; exact Option.some.inj hk2'
      · have := h.used j _ e'; omega
    · rcases hmem j _ hj' with ⟨_, k', hk', hk2', e2⟩ | ⟨hx, e2⟩
      · have := h.used i _ e'; omega
      · exact h.inj i j a e' e2
  · -- the bound
    have hU : s'.H - s'.T = (s.H - s.T - c) + (ids ++ moves).length := by omega
    by_cases hio : i ≤ s.H - s.T - c
    · -- within what is left
      have h1 := hpre (s'.T + i) (by omega)
      have h2 := cnt_split N s.at_ s.T (s.T + c) (s.T + c + i) (by omega) (by omega)
      rw [← hTT] at h2
      have h3 := h.bound (c + i) (by omega)
      rw [show s.T + (c + i) = s'.T + i by omega] at h3
      rw [hTT] at h1 h2 h3 ⊢
      rcases hcc with hcc | hcc
      · omega
      · -- all were cleaned
        have h4 := cnt_le N s.at_ s.T (s.T + c + i)
        have h5 : i = 0 := by omega
        subst h5
        have h6 : cnt N s'.at_ (s.T + c) (s.T + c + 0) = 0 := by
          unfold cnt; rw [List.countP_eq_zero]; intro x _ hx
          obtain ⟨a, _, h7, h8⟩ := inP_iff.1 hx
          omega
        omega
    · -- beyond it
      obtain ⟨j, hj⟩ : ∃ j, i = (s.H - s.T - c) + j := ⟨i - (s.H - s.T - c), by omega⟩
      have h1 := hsuf j (by omega)
      rw [show s'.T + i = s.H + j by omega]
      have h0 := cnt_split N s.at_ s.T (s.T + c) (s.T + c) (by omega) (by omega)
      rcases hcc with hcc | hcc
      · omega
      · omega
  · -- room
    have hlg := h.lag
    rcases hcc with hcc | hcc
    · omega
    · omega
end

end Jou
end Go.Proofs.YthapggobpfcmjaaGreat
