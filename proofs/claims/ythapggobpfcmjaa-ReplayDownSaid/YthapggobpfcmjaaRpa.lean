/- What places tell: tags, stale and true ones; where epochs start and end. Plain mathematics. No condition. -/
import Derived.Test.YthapggobpfcmjaaTnb
set_option maxRecDepth 100000
namespace Go.Proofs.Ythapggobpfcmjaa
namespace Rp

theorem snoc_ind {α : Type} {p : List α → Prop} (nil : p []) (snoc : ∀ l x, p l → p (l ++ [x])) (l : List α) : p l := by
  have h : ∀ r : List α, p r.reverse := fun r => by
    induction r with
    | nil => exact nil
    | cons x r ih => rw [List.reverse_cons]; exact snoc _ _ ih
  have := h l.reverse
  rwa [List.reverse_reverse] at this

/-- A tag, and its place. -/
abbrev Fo := Tg.T × Nat
def staleB (all : List Fo) (t : Tg.T) : Bool := all.any fun x => decide (t.e < x.1.e) && decide (x.1.s ≤ t.q)
/-- The true ones. -/
def trueL (all : List Fo) : List Fo := all.filter fun x => !staleB all x.1
theorem stale_not {all : List Fo} {t : Tg.T} : staleB all t = false ↔ ∀ x ∈ all, t.e < x.1.e → t.q < x.1.s := by
  unfold staleB
  rw [List.any_eq_false]
  constructor
  · intro h x hx he
    have := h x hx
    simp [he] at this
    omega
  · intro h x hx
    by_cases he : t.e < x.1.e
    · have := h x hx he
      simp [he]
      omega
    · simp [he]

/-- A map from numbers to numbers, its entries in the order in which they came. -/
abbrev UM := List (Nat × Nat)
def getA (m : UM) (k : Nat) : Option Nat := (m.find? fun p => p.1 == k).map (·.2)
def putA (m : UM) (k v : Nat) : UM := if k ∈ m.map (·.1) then m.map (fun p => if p.1 = k then (k, v) else p) else m ++ [(k, v)]
theorem getA_none {m : UM} {k : Nat} : getA m k = none ↔ k ∉ m.map (·.1) := by
  unfold getA
  simp only [Option.map_eq_none_iff, List.find?_eq_none, List.mem_map, not_exists, not_and]
  constructor
  · intro h p hp e; exact h p hp (by simp [e])
  · intro h p hp e; exact h p hp (by simpa using e)
theorem getA_get (m : UM) (k v x : Nat) : getA (putA m k v) x = if x = k then some v else getA m x := by
  unfold putA
  split
  · rename_i hk
    induction m with
    | nil => simp at hk
    | cons p m ih =>
      by_cases hp : p.1 = k
      · by_cases hx : x = k
        · subst hx; simp [getA, hp]
        · rw [if_neg hx]
          by_cases hk' : k ∈ m.map (·.1)
          · have := ih hk'
            rw [if_neg hx] at this
            simp only [getA, List.map_cons, if_pos hp, List.find?_cons] at this ⊢
            rw [show (k == x) = false by simpa using Ne.symm hx, show (p.1 == x) = false by rw [hp]; simpa using Ne.symm hx]
            exact this
          · have : m.map (fun p => if p.1 = k then (k, v) else p) = m := by
              refine (List.map_congr_left fun q hq => ?_).trans (List.map_id m)
              rw [if_neg fun e => hk' (List.mem_map.2 ⟨q, hq, e⟩)]; rfl
            simp only [getA, List.map_cons, if_pos hp, List.find?_cons, this]
            rw [show (k == x) = false by simpa using Ne.symm hx, show (p.1 == x) = false by rw [hp]; simpa using Ne.symm hx]
      · have hk' : k ∈ m.map (·.1) := by
          rcases List.mem_cons.1 (show k ∈ p.1 :: m.map (·.1) from hk) with e | h
          · exact absurd e.symm hp
          · exact h
        have := ih hk'
        simp only [getA, List.map_cons, if_neg hp, List.find?_cons] at this ⊢
        by_cases hx : p.1 = x
        · have : x ≠ k := fun e => hp (hx.trans e)
          simp [hx, this]
        · rw [show (p.1 == x) = false by simpa using hx]
          exact this
  · rename_i hk
    unfold getA
    rw [List.find?_append]
    by_cases hx : x = k
    · subst hx
      have : (m.find? fun p => p.1 == x) = none := by
        have := getA_none.2 hk
        simpa [getA] using this
      simp [this]
    · rw [if_neg hx]
      simp [Ne.symm hx]
theorem putA_keys (m : UM) (k v : Nat) : (putA m k v).map (·.1) = if k ∈ m.map (·.1) then m.map (·.1) else m.map (·.1) ++ [k] := by
  unfold putA
  split
  · rw [List.map_map]
    refine List.map_congr_left fun q _ => ?_
    simp only [Function.comp]
    split <;> simp_all
  · simp
theorem putA_nodup {m : UM} (h : (m.map (·.1)).Nodup) (k v : Nat) : ((putA m k v).map (·.1)).Nodup := by
  rw [putA_keys]
  split
  · exact h
  · rename_i hk
    exact List.nodup_append.2 ⟨h, by simp, fun a ha b hb e => hk (by rw [← List.mem_singleton.1 hb, ← e]; exact ha)⟩
theorem putA_mem {m : UM} {k v x : Nat} : x ∈ (putA m k v).map (·.1) ↔ x ∈ m.map (·.1) ∨ x = k := by
  rw [putA_keys]
  split
  · rename_i hk
    constructor
    · exact .inl
    · rintro (h | rfl)
      · exact h
      · exact hk
  · simp [List.mem_append]

/-- Where epochs start. -/
def stStep (m : UM) (x : Fo) : UM := match getA m x.1.e with
  | none => putA m x.1.e x.1.s
  | some s => if x.1.s < s then putA m x.1.e x.1.s else m
def startsA (l : List Fo) : UM := l.foldl stStep []
theorem starts_snoc (l : List Fo) (x : Fo) : startsA (l ++ [x]) = stStep (startsA l) x := by simp [startsA]
def MinOf (l : List Fo) (e : Nat) : Option Nat → Prop
  | none => ∀ x ∈ l, x.1.e ≠ e
  | some s => (∃ x ∈ l, x.1.e = e ∧ x.1.s = s) ∧ ∀ x ∈ l, x.1.e = e → s ≤ x.1.s
theorem min_skip {l : List Fo} {e : Nat} {o : Option Nat} (h : MinOf l e o) {x : Fo} (hx : x.1.e ≠ e) : MinOf (l ++ [x]) e o := by
  cases o with
  | none =>
    intro y hy
    rcases List.mem_append.1 hy with h1 | h1
    · exact h y h1
    · rw [List.mem_singleton.1 h1]; exact hx
  | some s =>
    obtain ⟨⟨y, hy, e1, e2⟩, h2⟩ := h
    refine ⟨⟨y, List.mem_append.2 (.inl hy), e1, e2⟩, fun z hz hze => ?_⟩
    rcases List.mem_append.1 hz with h1 | h1
    · exact h2 z h1 hze
    · rw [List.mem_singleton.1 h1] at hze; exact absurd hze hx
theorem starts_min (l : List Fo) (e : Nat) : MinOf l e (getA (startsA l) e) := by
  induction l using snoc_ind with
  | nil => exact fun x hx => absurd hx (by simp)
  | snoc l x ih =>
    rw [starts_snoc]
    unfold stStep
    by_cases he : x.1.e = e
    · rw [he]
      cases hg : getA (startsA l) e with
      | none =>
        rw [hg] at ih
        simp only [getA_get, if_true]
        refine ⟨⟨x, by simp, he, rfl⟩, fun y hy hye => ?_⟩
        rcases List.mem_append.1 hy with h1 | h1
        · exact absurd hye (ih y h1)
        · rw [List.mem_singleton.1 h1]; exact Nat.le_refl _
      | some s =>
        rw [hg] at ih
        obtain ⟨⟨y, hy, e1, e2⟩, h2⟩ := ih
        by_cases hs : x.1.s < s
        · simp only [if_pos hs, getA_get, if_true]
          refine ⟨⟨x, by simp, he, rfl⟩, fun z hz hze => ?_⟩
          rcases List.mem_append.1 hz with h1 | h1
          · have := h2 z h1 hze; omega
          · rw [List.mem_singleton.1 h1]; exact Nat.le_refl _
        · simp only [if_neg hs, hg]
          refine ⟨⟨y, List.mem_append.2 (.inl hy), e1, e2⟩, fun z hz hze => ?_⟩
          rcases List.mem_append.1 hz with h1 | h1
          · exact h2 z h1 hze
          · rw [List.mem_singleton.1 h1]; omega
    · have hn := min_skip ih he
      cases hg : getA (startsA l) x.1.e with
      | none => simp only [getA_get, if_neg (Ne.symm he)]; exact hn
      | some s =>
        by_cases hs : x.1.s < s
        · simp only [if_pos hs, getA_get, if_neg (Ne.symm he)]; exact hn
        · simp only [if_neg hs]; exact hn
theorem starts_nodup (l : List Fo) : ((startsA l).map (·.1)).Nodup := by
  induction l using snoc_ind with
  | nil => exact List.nodup_nil
  | snoc l x ih =>
    rw [starts_snoc]
    unfold stStep
    split
    · exact putA_nodup ih _ _
    · split
      · exact putA_nodup ih _ _
      · exact ih
theorem starts_mem (l : List Fo) (e : Nat) : e ∈ (startsA l).map (·.1) ↔ ∃ x ∈ l, x.1.e = e := by
  have h := starts_min l e
  cases hg : getA (startsA l) e with
  | none =>
    rw [hg] at h
    constructor
    · exact fun hm => absurd hm (getA_none.1 hg)
    · rintro ⟨x, hx, he⟩; exact absurd he (h x hx)
  | some s =>
    rw [hg] at h
    obtain ⟨⟨y, hy, e1, -⟩, -⟩ := h
    refine ⟨fun _ => ⟨y, hy, e1⟩, fun _ => Classical.byContradiction fun hn => ?_⟩
    rw [getA_none.2 hn] at hg
    cases hg
theorem starts_len (l : List Fo) : (startsA l).length ≤ l.length := by
  induction l using snoc_ind with
  | nil => exact Nat.le_refl _
  | snoc l x ih =>
    rw [starts_snoc, List.length_append, List.length_singleton]
    have hp : ∀ v, (putA (startsA l) x.1.e v).length ≤ l.length + 1 := fun v => by
      have := congrArg List.length (putA_keys (startsA l) x.1.e v)
      rw [List.length_map] at this
      rw [this]
      split <;> simp <;> omega
    unfold stStep
    split
    · exact hp _
    · split
      · exact hp _
      · omega

/-- Where epochs end; of these, the greatest first. -/
def top : Nat := 281474976710656
def endStep (m : UM) (p : UM × Nat) (k : Nat) : UM × Nat := (putA p.1 k p.2, min p.2 ((getA m k).getD 0))
def endsA (m : UM) (ks : List Nat) : UM × Nat := ks.foldl (endStep m) ([], top)
theorem ends_snoc (m : UM) (ks : List Nat) (k : Nat) : endsA m (ks ++ [k]) = endStep m (endsA m ks) k := by simp [endsA]
theorem ends_says (m : UM) (ks : List Nat) (hd : ks.Pairwise (· > ·)) :
    (∀ q, q < top → (q < (endsA m ks).2 ↔ ∀ k ∈ ks, q < (getA m k).getD 0)) ∧
    ∀ k ∈ ks, ∃ v, getA (endsA m ks).1 k = some v ∧ ∀ q, q < top → (q < v ↔ ∀ k' ∈ ks, k < k' → q < (getA m k').getD 0) := by
  induction ks using snoc_ind with
  | nil => exact ⟨fun q hq => by simp [endsA, hq], fun k hk => absurd hk (by simp)⟩
  | snoc ks z ih =>
    obtain ⟨hp, -, hz⟩ := List.pairwise_append.1 hd
    obtain ⟨h1, h2⟩ := ih hp
    have hgt : ∀ k ∈ ks, z < k := fun k hk => hz k hk z (by simp)
    rw [ends_snoc]
    refine ⟨fun q hq => ?_, fun k hk => ?_⟩
    · simp only [endStep]
      rw [Nat.lt_min, h1 q hq]
      constructor
      · rintro ⟨ha, hb⟩ k hk
        rcases List.mem_append.1 hk with h | h
        · exact ha k h
        · rw [List.mem_singleton.1 h]; exact hb
      · intro h
        exact ⟨fun k hk => h k (List.mem_append.2 (.inl hk)), h z (by simp)⟩
    · simp only [endStep, getA_get]
      by_cases hkz : k = z
      · subst hkz
        rw [if_pos rfl]
        refine ⟨_, rfl, fun q hq => ?_⟩
        rw [h1 q hq]
        constructor
        · intro h k' hk' hlt
          rcases List.mem_append.1 hk' with h' | h'
          · exact h k' h'
          · rw [List.mem_singleton.1 h'] at hlt; omega
        · intro h k' hk'
          exact h k' (List.mem_append.2 (.inl hk')) (hgt k' hk')
      · rw [if_neg hkz]
        have hk' : k ∈ ks := (List.mem_append.1 hk).elim id fun h => absurd (List.mem_singleton.1 h) hkz
        obtain ⟨v, hv, hq⟩ := h2 k hk'
        refine ⟨v, hv, fun q hq' => ?_⟩
        rw [hq q hq']
        constructor
        · intro h k' hk2 hlt
          rcases List.mem_append.1 hk2 with h' | h'
          · exact h k' h' hlt
          · rw [List.mem_singleton.1 h'] at hlt; have := hgt k hk'; omega
        · intro h k' hk2 hlt
          exact h k' (List.mem_append.2 (.inl hk2)) hlt
theorem ends_mem (m : UM) (ks : List Nat) (x : Nat) : x ∈ (endsA m ks).1.map (·.1) ↔ x ∈ ks := by
  induction ks using snoc_ind with
  | nil => simp [endsA]
  | snoc ks z ih => rw [ends_snoc]; simp only [endStep]; rw [putA_mem, ih]; simp
theorem ends_nodup (m : UM) (ks : List Nat) : ((endsA m ks).1.map (·.1)).Nodup := by
  induction ks using snoc_ind with
  | nil => exact List.nodup_nil
  | snoc ks z ih => rw [ends_snoc]; exact putA_nodup ih _ _
/-- Who is true, by where its epoch ends. -/
theorem true_ends {all : List Fo} {ks : List Nat} (hd : ks.Pairwise (· > ·)) (hk : ∀ e, e ∈ ks ↔ ∃ x ∈ all, x.1.e = e) {x : Fo} (hx : x ∈ all) (hq : x.1.q < top) :
    ∃ v, getA (endsA (startsA all) ks).1 x.1.e = some v ∧ (x.1.q < v ↔ staleB all x.1 = false) := by
  obtain ⟨v, hv, hs⟩ := (ends_says (startsA all) ks hd).2 x.1.e ((hk _).2 ⟨x, hx, rfl⟩)
  refine ⟨v, hv, ?_⟩
  rw [hs _ hq, stale_not]
  constructor
  · intro h y hy hlt
    have := h y.1.e ((hk _).2 ⟨y, hy, rfl⟩) hlt
    have hm := starts_min all y.1.e
    cases hg : getA (startsA all) y.1.e with
    | none => rw [hg] at hm; exact absurd rfl (hm y hy)
    | some s =>
      rw [hg] at hm this
      have := hm.2 y hy rfl
      simp at *
      omega
  · intro h k' hk' hlt
    obtain ⟨y, hy, rfl⟩ := (hk k').1 hk'
    have hm := starts_min all y.1.e
    cases hg : getA (startsA all) y.1.e with
    | none => rw [hg] at hm; exact absurd rfl (hm y hy)
    | some s =>
      rw [hg] at hm
      obtain ⟨⟨z, hz, e1, e2⟩, -⟩ := hm
      have := h z hz (by omega)
      simp
      omega
theorem true_len (all : List Fo) : (trueL all).length ≤ all.length := List.length_filter_le _ _

end Rp
end Go.Proofs.Ythapggobpfcmjaa
