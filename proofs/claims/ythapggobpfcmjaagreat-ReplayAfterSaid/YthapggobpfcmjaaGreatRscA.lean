/- replay.Scan: tags, the map, starts, wholes, the newest. -/
import Derived.Test.YthapggobpfcmjaaGreatTnb
import Derived.Test.YthapggobpfcmjaaGreatDvc
import Derived.Maps.Range
import Derived.Test.YthapggobpfcmjaaGreatBit
import Derived.Laws.CopyRow
import Derived.Laws.IdiomCopy
import Derived.Deep.RegionWith
import Derived.Lib.Hide
import Derived.BigQuiet
set_option maxRecDepth 100000
namespace Go.Proofs.YthapggobpfcmjaaGreat
namespace Rp

theorem snoc_ind {α : Type} {p : List α → Prop} (nil : p []) (snoc : ∀ l x, p l → p (l ++ [x])) (l : List α) : p l := by
  have h : ∀ r : List α, p r.reverse := fun r => by
    induction r with
    | nil => exact nil
    | cons x r ih => rw [List.reverse_cons]; exact snoc _ _ ih
  have := h l.reverse
  rwa [List.reverse_reverse] at this

/-- A tag, and its place. -/
abbrev Fo := Tg.T × Nat
def staleB (all : List Fo) (t : Tg.T) : Bool := all.any fun x => decide (t.e < x.1.e) && decide (x.1.s ≤ t.q)
/-- The true ones. -/
def trueL (all : List Fo) : List Fo := all.filter fun x => !staleB all x.1
theorem stale_not {all : List Fo} {t : Tg.T} : staleB all t = false ↔ ∀ x ∈ all, t.e < x.1.e → t.q < x.1.s := by
  unfold staleB
  rw [List.any_eq_false]
  constructor
  · intro h x hx he
    have := h x hx
    simp [he] at this
    omega
  · intro h x hx
    by_cases he : t.e < x.1.e
    · have := h x hx he
      simp [he]
      omega
    · simp [he]

/-- A map from numbers to numbers, its entries in the order in which they came. -/
abbrev UM := List (Nat × Nat)
def getA (m : UM) (k : Nat) : Option Nat := (m.find? fun p => p.1 == k).map (·.2)
def putA (m : UM) (k v : Nat) : UM := if k ∈ m.map (·.1) then m.map (fun p => if p.1 = k then (k, v) else p) else m ++ [(k, v)]
theorem getA_none {m : UM} {k : Nat} : getA m k = none ↔ k ∉ m.map (·.1) := by
  unfold getA
  simp only [Option.map_eq_none_iff, List.find?_eq_none, List.mem_map, not_exists, not_and]
  constructor
  · intro h p hp e; exact h p hp (by simp [e])
  · intro h p hp e; exact h p hp (by simpa using e)
theorem getA_get (m : UM) (k v x : Nat) : getA (putA m k v) x = if x = k then some v else getA m x := by
  unfold putA
  split
  · rename_i hk
    induction m with
    | nil => simp at hk
    | cons p m ih =>
      by_cases hp : p.1 = k
      · by_cases hx : x = k
        · subst hx; simp [getA, hp]
        · rw [if_neg hx]
          by_cases hk' : k ∈ m.map (·.1)
          · have := ih hk'
            rw [if_neg hx] at this
            simp only [getA, List.map_cons, if_pos hp, List.find?_cons] at this ⊢
            rw [show (k == x) = false by simpa using Ne.symm hx, show (p.1 == x) = false by rw [hp]; simpa using Ne.symm hx]
            exact this
          · have : m.map (fun p => if p.1 = k then (k, v) else p) = m := by
              refine (List.map_congr_left fun q hq => ?_).trans (List.map_id m)
              rw [if_neg fun e => hk' (List.mem_map.2 ⟨q, hq, e⟩)]; rfl
            simp only [getA, List.map_cons, if_pos hp, List.find?_cons, this]
            rw [show (k == x) = false by simpa using Ne.symm hx, show (p.1 == x) = false by rw [hp]; simpa using Ne.symm hx]
      · have hk' : k ∈ m.map (·.1) := by
          rcases List.mem_cons.1 (show k ∈ p.1 :: m.map (·.1) from hk) with e | h
          · exact absurd e.symm hp
          · exact h
        have := ih hk'
        simp only [getA, List.map_cons, if_neg hp, List.find?_cons] at this ⊢
        by_cases hx : p.1 = x
        · have : x ≠ k := fun e => hp (hx.trans e)
          simp [hx, this]
        · rw [show (p.1 == x) = false by simpa using hx]
          exact this
  · rename_i hk
    unfold getA
    rw [List.find?_append]
    by_cases hx : x = k
    · subst hx
      have : (m.find? fun p => p.1 == x) = none := by
        have := getA_none.2 hk
        simpa [getA] using this
      simp [this]
    · rw [if_neg hx]
      simp [Ne.symm hx]
theorem putA_keys (m : UM) (k v : Nat) : (putA m k v).map (·.1) = if k ∈ m.map (·.1) then m.map (·.1) else m.map (·.1) ++ [k] := by
  unfold putA
  split
  · rw [List.map_map]
    refine List.map_congr_left fun q _ => ?_
    simp only [Function.comp]
    split <;> simp_all
  · simp
theorem putA_nodup {m : UM} (h : (m.map (·.1)).Nodup) (k v : Nat) : ((putA m k v).map (·.1)).Nodup := by
  rw [putA_keys]
  split
  · exact h
  · rename_i hk
    exact List.nodup_append.2 ⟨h, by simp, fun a ha b hb e => hk (by rw [← List.mem_singleton.1 hb, ← e]; exact ha)⟩
theorem putA_mem {m : UM} {k v x : Nat} : x ∈ (putA m k v).map (·.1) ↔ x ∈ m.map (·.1) ∨ x = k := by
  rw [putA_keys]
  split
  · rename_i hk
    constructor
    · exact .inl
    · rintro (h | rfl)
      · exact h
      · exact hk
  · simp [List.mem_append]

/-- Where epochs start. -/
def stStep (m : UM) (x : Fo) : UM := match getA m x.1.e with
  | none => putA m x.1.e x.1.s
  | some s => if x.1.s < s then putA m x.1.e x.1.s else m
def startsA (l : List Fo) : UM := l.foldl stStep []
theorem starts_snoc (l : List Fo) (x : Fo) : startsA (l ++ [x]) = stStep (startsA l) x := by simp [startsA]
def MinOf (l : List Fo) (e : Nat) : Option Nat → Prop
  | none => ∀ x ∈ l, x.1.e ≠ e
  | some s => (∃ x ∈ l, x.1.e = e ∧ x.1.s = s) ∧ ∀ x ∈ l, x.1.e = e → s ≤ x.1.s
theorem min_skip {l : List Fo} {e : Nat} {o : Option Nat} (h : MinOf l e o) {x : Fo} (hx : x.1.e ≠ e) : MinOf (l ++ [x]) e o := by
  cases o with
  | none =>
    intro y hy
    rcases List.mem_append.1 hy with h1 | h1
    · exact h y h1
    · rw [List.mem_singleton.1 h1]; exact hx
  | some s =>
    obtain ⟨⟨y, hy, e1, e2⟩, h2⟩ := h
    refine ⟨⟨y, List.mem_append.2 (.inl hy), e1, e2⟩, fun z hz hze => ?_⟩
    rcases List.mem_append.1 hz with h1 | h1
    · exact h2 z h1 hze
    · rw [List.mem_singleton.1 h1] at hze; exact absurd hze hx
theorem starts_min (l : List Fo) (e : Nat) : MinOf l e (getA (startsA l) e) := by
  induction l using snoc_ind with
  | nil => exact fun x hx => absurd hx (by simp)
  | snoc l x ih =>
    rw [starts_snoc]
    unfold stStep
    by_cases he : x.1.e = e
    · rw [he]
      cases hg : getA (startsA l) e with
      | none =>
        rw [hg] at ih
        simp only [getA_get, if_true]
        refine ⟨⟨x, by simp, he, rfl⟩, fun y hy hye => ?_⟩
        rcases List.mem_append.1 hy with h1 | h1
        · exact absurd hye (ih y h1)
        · rw [List.mem_singleton.1 h1]; exact Nat.le_refl _
      | some s =>
        rw [hg] at ih
        obtain ⟨⟨y, hy, e1, e2⟩, h2⟩ := ih
        by_cases hs : x.1.s < s
        · simp only [if_pos hs, getA_get, if_true]
          refine ⟨⟨x, by simp, he, rfl⟩, fun z hz hze => ?_⟩
          rcases List.mem_append.1 hz with h1 | h1
          · have := h2 z h1 hze; omega
          · rw [List.mem_singleton.1 h1]; exact Nat.le_refl _
        · simp only [if_neg hs, hg]
          refine ⟨⟨y, List.mem_append.2 (.inl hy), e1, e2⟩, fun z hz hze => ?_⟩
          rcases List.mem_append.1 hz with h1 | h1
          · exact h2 z h1 hze
          · rw [List.mem_singleton.1 h1]; omega
    · have hn := min_skip ih he
      cases hg : getA (startsA l) x.1.e with
      | none => simp only [getA_get, if_neg (Ne.symm he)]; exact hn
      | some s =>
        by_cases hs : x.1.s < s
        · simp only [if_pos hs, getA_get, if_neg (Ne.symm he)]; exact hn
        · simp only [if_neg hs]; exact hn
theorem starts_nodup (l : List Fo) : ((startsA l).map (·.1)).Nodup := by
  induction l using snoc_ind with
  | nil => exact List.nodup_nil
  | snoc l x ih =>
    rw [starts_snoc]
    unfold stStep
    split
    · exact putA_nodup ih _ _
    · split
      · exact putA_nodup ih _ _
      · exact ih
theorem starts_mem (l : List Fo) (e : Nat) : e ∈ (startsA l).map (·.1) ↔ ∃ x ∈ l, x.1.e = e := by
  have h := starts_min l e
  cases hg : getA (startsA l) e with
  | none =>
    rw [hg] at h
    constructor
    · exact fun hm => absurd hm (getA_none.1 hg)
    · rintro ⟨x, hx, he⟩; exact absurd he (h x hx)
  | some s =>
    rw [hg] at h
    obtain ⟨⟨y, hy, e1, -⟩, -⟩ := h
    refine ⟨fun _ => ⟨y, hy, e1⟩, fun _ => Classical.byContradiction fun hn => ?_⟩
    rw [getA_none.2 hn] at hg
    cases hg
theorem starts_len (l : List Fo) : (startsA l).length ≤ l.length := by
  induction l using snoc_ind with
  | nil => exact Nat.le_refl _
  | snoc l x ih =>
    rw [starts_snoc, List.length_append, List.length_singleton]
    have hp : ∀ v, (putA (startsA l) x.1.e v).length ≤ l.length + 1 := fun v => by
      have := congrArg List.length (putA_keys (startsA l) x.1.e v)
      rw [List.length_map] at this
      rw [this]
      split <;> simp <;> omega
    unfold stStep
    split
    · exact hp _
    · split
      · exact hp _
      · omega

/-- Where epochs end; of these, the greatest first. -/
def top : Nat := 281474976710656
def endStep (m : UM) (p : UM × Nat) (k : Nat) : UM × Nat := (putA p.1 k p.2, min p.2 ((getA m k).getD 0))
def endsA (m : UM) (ks : List Nat) : UM × Nat := ks.foldl (endStep m) ([], top)
theorem ends_snoc (m : UM) (ks : List Nat) (k : Nat) : endsA m (ks ++ [k]) = endStep m (endsA m ks) k := by simp [endsA]
theorem ends_says (m : UM) (ks : List Nat) (hd : ks.Pairwise (· > ·)) :
    (∀ q, q < top → (q < (endsA m ks).2 ↔ ∀ k ∈ ks, q < (getA m k).getD 0)) ∧
    ∀ k ∈ ks, ∃ v, getA (endsA m ks).1 k = some v ∧ ∀ q, q < top → (q < v ↔ ∀ k' ∈ ks, k < k' → q < (getA m k').getD 0) := by
  induction ks using snoc_ind with
  | nil => exact ⟨fun q hq => by simp [endsA, hq], fun k hk => absurd hk (by simp)⟩
  | snoc ks z ih =>
    obtain ⟨hp, -, hz⟩ := List.pairwise_append.1 hd
    obtain ⟨h1, h2⟩ := ih hp
    have hgt : ∀ k ∈ ks, z < k := fun k hk => hz k hk z (by simp)
    rw [ends_snoc]
    refine ⟨fun q hq => ?_, fun k hk => ?_⟩
    · simp only [endStep]
      rw [Nat.lt_min, h1 q hq]
      constructor
      · rintro ⟨ha, hb⟩ k hk
        rcases List.mem_append.1 hk with h | h
        · exact ha k h
        · rw [List.mem_singleton.1 h]; exact hb
      · intro h
        exact ⟨fun k hk => h k (List.mem_append.2 (.inl hk)), h z (by simp)⟩
    · simp only [endStep, getA_get]
      by_cases hkz : k = z
      · subst hkz
        rw [if_pos rfl]
        refine ⟨_, rfl, fun q hq => ?_⟩
        rw [h1 q hq]
        constructor
        · intro h k' hk' hlt
          rcases List.mem_append.1 hk' with h' | h'
          · exact h k' h'
          · rw [List.mem_singleton.1 h'] at hlt; omega
        · intro h k' hk'
          exact h k' (List.mem_append.2 (.inl hk')) (hgt k' hk')
      · rw [if_neg hkz]
        have hk' : k ∈ ks := (List.mem_append.1 hk).elim id fun h => absurd (List.mem_singleton.1 h) hkz
        obtain ⟨v, hv, hq⟩ := h2 k hk'
        refine ⟨v, hv, fun q hq' => ?_⟩
        rw [hq q hq']
        constructor
        · intro h k' hk2 hlt
          rcases List.mem_append.1 hk2 with h' | h'
          · exact h k' h' hlt
          · rw [List.mem_singleton.1 h'] at hlt; have := hgt k hk'; omega
        · intro h k' hk2 hlt
          exact h k' (List.mem_append.2 (.inl hk2)) hlt
theorem ends_mem (m : UM) (ks : List Nat) (x : Nat) : x ∈ (endsA m ks).1.map (·.1) ↔ x ∈ ks := by
  induction ks using snoc_ind with
  | nil => simp [endsA]
  | snoc ks z ih => rw [ends_snoc]; simp only [endStep]; rw [putA_mem, ih]; simp
theorem ends_nodup (m : UM) (ks : List Nat) : ((endsA m ks).1.map (·.1)).Nodup := by
  induction ks using snoc_ind with
  | nil => exact List.nodup_nil
  | snoc ks z ih => rw [ends_snoc]; exact putA_nodup ih _ _
/-- Who is true, by where its epoch ends. -/
theorem true_ends {all : List Fo} {ks : List Nat} (hd : ks.Pairwise (· > ·)) (hk : ∀ e, e ∈ ks ↔ ∃ x ∈ all, x.1.e = e) {x : Fo} (hx : x ∈ all) (hq : x.1.q < top) :
    ∃ v, getA (endsA (startsA all) ks).1 x.1.e = some v ∧ (x.1.q < v ↔ staleB all x.1 = false) := by
  obtain ⟨v, hv, hs⟩ := (ends_says (startsA all) ks hd).2 x.1.e ((hk _).2 ⟨x, hx, rfl⟩)
  refine ⟨v, hv, ?_⟩
  rw [hs _ hq, stale_not]
  constructor
  · intro h y hy hlt
    have := h y.1.e ((hk _).2 ⟨y, hy, rfl⟩) hlt
    have hm := starts_min all y.1.e
    cases hg : getA (startsA all) y.1.e with
    | none => rw [hg] at hm; exact absurd rfl (hm y hy)
    | some s =>
      rw [hg] at hm this
      have := hm.2 y hy rfl
      simp at *
      omega
  · intro h k' hk' hlt
    obtain ⟨y, hy, rfl⟩ := (hk k').1 hk'
    have hm := starts_min all y.1.e
    cases hg : getA (startsA all) y.1.e with
    | none => rw [hg] at hm; exact absurd rfl (hm y hy)
    | some s =>
      rw [hg] at hm
      obtain ⟨⟨z, hz, e1, e2⟩, -⟩ := hm
      have := h z hz (by omega)
      simp
      omega
theorem true_len (all : List Fo) : (trueL all).length ≤ all.length := List.length_filter_le _ _

end Rp
end Go.Proofs.YthapggobpfcmjaaGreat

set_option maxRecDepth 100000
namespace Go.Proofs.YthapggobpfcmjaaGreat
namespace Rp
open Go.RowKit

/-- Whatever a map's element is, it may be ranged over. -/
def RN (_ : Value) : Option (DataW Nat × List MemPlace) := some (.nil, [])
abbrev OwnM (w : World) (b n : Nat) (D : DataW Nat) : Prop := w.ownsMap Tryz.prog 31 RN b n D
theorem keyU : Maps.Keyed Tryz.prog 31 := Maps.int_keyed Tryz.underlying31
theorem keyOf_u {e : Nat} (h : e < 4294967296) : keyOf Tryz.prog 31 (.int .u32 (e : Int)) = some (.int .u32 (e : Int)) := by
  have hw : (Lit.int .u32 (e : Int)).wf = true := by
    simp [Lit.wf, IntKind.min, IntKind.max, IntKind.signed, IntKind.bits]
    omega
  simp [keyOf, Tryz.underlying31, mapKey, hw]

def kvU (p : Nat × Nat) : Value × Value := (.int .u32 (p.1 : Int), .int .u64 (p.2 : Int))
/-- The entries of a map are these, in this order. -/
def UMap (es : Array MapEntry) (m : UM) : Prop := es.toList.map (fun e => (e.key, e.val)) = m.map kvU
theorem UMap_nil : UMap #[] [] := rfl
theorem getA_cons (p : Nat × Nat) (m : UM) (k : Nat) : getA (p :: m) k = if p.1 = k then some p.2 else getA m k := by
  unfold getA
  by_cases h : p.1 = k
  · simp [h]
  · rw [List.find?_cons, show (p.1 == k) = false by simpa using h, if_neg h]
theorem findNow_u (k : Nat) : ∀ (es : List MapEntry) (m : UM) (i : Nat), es.map (fun e => (e.key, e.val)) = m.map kvU →
    Instr.findNow (.int .u32) (.int .u32 (k : Int)) es i = some ((getA m k).map fun (v : Nat) => (i + (m.map (·.1)).idxOf k, Value.int .u64 (v : Int)))
  | [], m, i, h => by
    obtain rfl : m = [] := by simpa using h.symm
    simp [Instr.findNow, getA]
  | e :: es, [], i, h => by simp at h
  | e :: es, x :: m, i, h => by
    simp only [List.map_cons, List.cons.injEq, kvU, Prod.mk.injEq] at h
    obtain ⟨⟨hk, hv⟩, ht⟩ := h
    have ih := findNow_u k es m (i + 1) ht
    rw [getA_cons]
    by_cases hx : x.1 = k
    · subst hx
      simp [Instr.findNow, hk, hv, Instr.sameNow]
    · have hx' : ¬ ((k : Int) = (x.1 : Int)) := by omega
      have hb : ((k : Int) == (x.1 : Int)) = false := by simpa using hx'
      have hxk : (x.1 == k) = false := by simpa using hx
      rw [if_neg hx]
      simp only [Instr.findNow, hk, Instr.sameNow, if_true, hb, ih, List.map_cons, List.idxOf_cons, hxk, cond_false]
      cases getA m k with
      | none => rfl
      | some v => simp only [Option.map_some]; congr 2; simp; omega
theorem UMap_at {es : Array MapEntry} {m : UM} (hs : UMap es m) {k v : Nat} (hg : getA m k = some v) :
    ∃ e, es[(m.map (·.1)).idxOf k]? = some e ∧ e.key = .int .u32 (k : Int) ∧ e.val = .int .u64 (v : Int) := by
  have hp : ∀ m : UM, getA m k = some v → m[(m.map (·.1)).idxOf k]? = some (k, v) := fun m => by
    induction m with
    | nil => intro h; simp [getA] at h
    | cons p m ih =>
      intro h
      rw [getA_cons] at h
      by_cases hx : p.1 = k
      · rw [if_pos hx] at h
        simp only [Option.some.injEq] at h
        subst hx; subst h
        simp
      · rw [if_neg hx] at h
        have hxk : (p.1 == k) = false := by simpa using hx
        simp only [List.map_cons, List.idxOf_cons, hxk, cond_false, List.getElem?_cons_succ]
        exact ih h
  have h := congrArg (·[(m.map (·.1)).idxOf k]?) hs
  simp only [List.getElem?_map, Array.getElem?_toList] at h
  rw [hp m hg] at h
  obtain ⟨e, he, hkv⟩ := Option.map_eq_some_iff.1 h
  simp only [kvU, Prod.mk.injEq] at hkv
  exact ⟨e, he, hkv.1, hkv.2⟩
theorem map_modify_at {α β : Type} (f : α → β) (g : α → α) (b : β) : ∀ (l : List α) (i : Nat), (∀ x, l[i]? = some x → f (g x) = b) → (l.modify i g).map f = (l.map f).modify i fun _ => b
  | [], i, _ => by simp
  | x :: l, 0, h => by simp [h x (by simp)]
  | x :: l, i + 1, h => by simp [map_modify_at f g b l i (fun y hy => h y (by simpa using hy))]
theorem put_modify (k v : Nat) : ∀ m : UM, (m.map (·.1)).Nodup → k ∈ m.map (·.1) → (m.map kvU).modify ((m.map (·.1)).idxOf k) (fun _ => kvU (k, v)) = (m.map fun p => if p.1 = k then (k, v) else p).map kvU
  | [], _, h => by simp at h
  | p :: m, hn, h => by
    rw [List.map_cons, List.nodup_cons] at hn
    by_cases hx : p.1 = k
    · have hm : m.map (fun p => if p.1 = k then (k, v) else p) = m := by
        refine (List.map_congr_left fun q hq => ?_).trans (List.map_id m)
        rw [if_neg fun e => hn.1 (by rw [hx]; exact List.mem_map.2 ⟨q, hq, e⟩)]; rfl
      simp only [List.map_cons, hx, if_true, List.idxOf_cons_self, List.modify_zero_cons]
      rw [hm]
    · have hxk : (p.1 == k) = false := by simpa using hx
      have hk : k ∈ m.map (·.1) := by
        rcases List.mem_cons.1 (show k ∈ p.1 :: m.map (·.1) from h) with e | h
        · exact absurd e.symm hx
        · exact h
      simp only [List.map_cons, if_neg hx, List.idxOf_cons, hxk, cond_false, List.modify_succ_cons]
      rw [put_modify k v m hn.2 hk]

theorem Tryz.mapU : Tryz.prog.underlying 142 = some (.map 31 32) := Tryz.underlying142
theorem run_checkKey_u (c : Bool) (q : IntKind) (k : Int) (w : World) : (Instr.checkKey c 10000 31 (.int q k)).run Tryz.prog w = .ok () w := by
  have : ∀ n, (Instr.checkKey c (n + 1) 31 (.int q k)).run Tryz.prog w = .ok () w := by
    intro n
    simp [Instr.checkKey, run_underlying Tryz.underlying31]
  exact this 9999
theorem zero_u64 (w : World) : (zeroValue 32).run Tryz.prog w = .ok (.int .u64 0) w := by kernel_rfl
section
variable {es : Array MapEntry} {clk : Nat} {m : UM} (hs : UMap es m)
include hs
/-- What a map says of a key; 0, if it has none. -/
theorem run_lookup_u {bm : Nat} (k : Nat) (w : World) (hb : w.heap[bm]? = some (.map es clk)) :
    (Instr.lookup 142 (.map (some bm)) (.int .u32 (k : Int)) false).run Tryz.prog w = .ok (.int .u64 (((getA m k).getD 0 : Nat) : Int)) w := by
  have hf := findNow_u k es.toList m 0 hs
  cases hg : getA m k with
  | none =>
    rw [hg] at hf
    simp [Instr.lookup, run_underlying Tryz.mapU, run_getObj_mp hb, run_checkKey_u, run_underlying Tryz.underlying31, Instr.findKey, hf, zero_u64 w]
  | some v =>
    rw [hg] at hf
    simp [Instr.lookup, run_underlying Tryz.mapU, run_getObj_mp hb, run_checkKey_u, run_underlying Tryz.underlying31, Instr.findKey, hf]
/-- .. and whether it has any. -/
theorem run_lookup_ok {bm : Nat} (k : Nat) (w : World) (hb : w.heap[bm]? = some (.map es clk)) :
    (Instr.lookup 142 (.map (some bm)) (.int .u32 (k : Int)) true).run Tryz.prog w = .ok (.tuple #[.int .u64 (((getA m k).getD 0 : Nat) : Int), .bool (getA m k).isSome]) w := by
  have hf := findNow_u k es.toList m 0 hs
  cases hg : getA m k with
  | none =>
    rw [hg] at hf
    simp [Instr.lookup, run_underlying Tryz.mapU, run_getObj_mp hb, run_checkKey_u, run_underlying Tryz.underlying31, Instr.findKey, hf, zero_u64 w]
  | some v =>
    rw [hg] at hf
    simp [Instr.lookup, run_underlying Tryz.mapU, run_getObj_mp hb, run_checkKey_u, run_underlying Tryz.underlying31, Instr.findKey, hf]
theorem run_update_u (hn : (m.map (·.1)).Nodup) (k v : Nat) :
    ∃ es' clk', UMap es' (putA m k v) ∧ ∀ (bm : Nat) (w : World), w.heap[bm]? = some (.map es clk) →
      (Instr.mapUpdate 142 (.map (some bm)) (.int .u32 (k : Int)) (.int .u64 (v : Int))).run Tryz.prog w = .ok () (ChangeMaps.setBlock w bm (.map es' clk')) := by
  have hf := findNow_u k es.toList m 0 hs
  cases hg : getA m k with
  | some v0 =>
    rw [hg] at hf
    have hm : k ∈ m.map (·.1) := Classical.byContradiction fun h => by rw [getA_none.2 h] at hg; cases hg
    obtain ⟨e, he, hk, hv⟩ := UMap_at hs hg
    refine ⟨es.modify ((m.map (·.1)).idxOf k) (fun e => { e with key := .int .u32 (k : Int), val := .int .u64 (v : Int) }), clk, ?_, ?_⟩
    · simp only [UMap, putA, if_pos hm]
      rw [Array.toList_modify, map_modify_at (fun e : MapEntry => (e.key, e.val)) (fun e => { e with key := .int .u32 (k : Int), val := .int .u64 (v : Int) }) (kvU (k, v)) _ _ (fun x _ => rfl), show es.toList.map (fun e => (e.key, e.val)) = m.map kvU from hs]
      exact put_modify k v m hn hm
    · intro bm w hb
      have hst : (Instr.keyThatStays (.int .u32 (k : Int)) (.int .u32 (k : Int))).run Tryz.prog w = .ok (.int .u32 (k : Int)) w := by
        have : ∀ n, Instr.sameBits (n + 1) (.int .u32 (k : Int)) (.int .u32 (k : Int)) = true := by intro n; simp [Instr.sameBits]
        have h2 : Instr.sameBits 10000 (.int .u32 (k : Int)) (.int .u32 (k : Int)) = true := this 9999
        simp [Instr.keyThatStays, h2]
      simp [Instr.mapUpdate, run_underlying Tryz.mapU, run_getObj_mp hb, run_setObj_mp _ hb, run_checkKey_u, run_underlying Tryz.underlying31, Instr.findKey, hf, he, hk, hst]
  | none =>
    rw [hg] at hf
    have hm := getA_none.1 hg
    refine ⟨es.push { key := .int .u32 (k : Int), val := .int .u64 (v : Int), born := clk }, clk + 1, ?_, ?_⟩
    · simp only [UMap, putA, if_neg hm, Array.toList_push, List.map_append, List.map_cons, List.map_nil]
      rw [show List.map (fun e : MapEntry => (e.key, e.val)) es.toList = m.map kvU from hs]
      rfl
    · intro bm w hb
      simp [Instr.mapUpdate, run_underlying Tryz.mapU, run_getObj_mp hb, run_setObj_mp _ hb, run_checkKey_u, run_underlying Tryz.underlying31, Instr.findKey, hf]
end
/-- How many a set has. -/
theorem run_len_iset {es : Array MapEntry} {clk : Nat} {l : List Nat} (hs : ISet es l) (ty : TypeId) {bm : Nat} (w : World) (hb : w.heap[bm]? = some (.map es clk)) :
    (Builtin.len_ #[61] ty #[.map (some bm)]).run Tryz.prog w = .ok (.int .i64 (l.length : Int)) w := by
  have := congrArg List.length hs
  simp only [List.length_map, Array.length_toList] at this
  rw [← this]
  simp [Builtin.len_, run_getObj_mp hb, goInt]

/-- A tag and its place as they lie in memory. -/
def foC (x : Fo) : List Value := [.int .u32 (x.1.e : Int), .int .u64 (x.1.s : Int), .int .u64 (x.1.q : Int), .int .u64 (x.1.f : Int), .int .i64 x.1.i, .int .i64 x.1.c, .int .i64 x.1.d, .int .i64 (x.2 : Int)]
theorem foC_at : ∀ (l : List Fo) (k : Nat) (h : k < l.length) (j : Nat), j < 8 → (l.flatMap foC)[k * 8 + j]? = (foC l[k])[j]?
  | [], k, h, _, _ => by simp at h
  | x :: l, 0, _, j, hj => by
    rw [List.flatMap_cons, Nat.zero_mul, Nat.zero_add, List.getElem?_append_left (by simpa [foC] using hj)]; rfl
  | x :: l, k + 1, h, j, hj => by
    have := foC_at l k (by simpa using h) j hj
    rw [List.flatMap_cons, show (k + 1) * 8 + j = (foC x).length + (k * 8 + j) by simp [foC]; omega, List.getElem?_append_right (by omega), show (foC x).length + (k * 8 + j) - (foC x).length = k * 8 + j by omega]
    exact this
/-- A slice that reads as these, row g. -/
structure FV (w : World) (v : Value) (l : List Fo) (g : Nat) : Prop where
  form : ∃ a cap, v = .slice a l.length cap ∧ l.length ≤ cap ∧ (a = none → cap = 0) ∧ (l ≠ [] → a = some ⟨g, 0, none⟩)
  cell : ∀ i (h : i < l.length) j, j < 8 → w.cell? ⟨g, i * 8 + j, none⟩ = (foC l[i])[j]?
  lt : l ≠ [] → g < w.heap.size
theorem FV.nil (w : World) (g : Nat) : FV w (.slice none 0 0) [] g := ⟨⟨none, 0, rfl, Nat.le_refl _, fun _ => rfl, fun h => absurd rfl h⟩, fun i h => absurd h (by simp), fun h => absurd rfl h⟩
section
variable {F : Nat → Prop} {w w1 : World} {v : Value} {l : List Fo} {g : Nat}
theorem FV.touch (h : FV w v l g) (ht : Touch F w w1) (hF : l ≠ [] → ¬ F g) : FV w1 v l g := by
  refine ⟨h.form, fun i hi j hj => ?_, fun hl => Nat.lt_of_lt_of_le (h.lt hl) ht.size⟩
  have hl : l ≠ [] := by intro e; subst e; simp at hi
  rw [← h.cell i hi j hj]
  exact World.cell?_of_block (ht.block g (h.lt hl) (hF hl))
theorem FV.low (h : FV w v l g) {B : Nat} (hb : Below B w w1) (hB : l ≠ [] → g < B) : FV w1 v l g := by
  refine ⟨h.form, fun i hi j hj => ?_, fun hl => Nat.lt_of_lt_of_le (h.lt hl) hb.size⟩
  have hl : l ≠ [] := by intro e; subst e; simp at hi
  rw [← h.cell i hi j hj]
  exact World.cell?_of_block (hb.block g (hB hl))
theorem FV.below (h : FV w v l g) (hb : Below w.heap.size w w1) : FV w1 v l g := h.low hb h.lt
theorem FV.drew (h : FV w v l g) : FV w.drew v l g := h.below (Below.refl _ w).drew
/-- What lies at one of its places. -/
theorem FV.at (h : FV w v l g) {i : Nat} (hi : i < l.length) : ∃ cap, v = .slice (some ⟨g, 0, none⟩) l.length cap ∧ l.length ≤ cap ∧ w.cell? ⟨g, i * 8, none⟩ = some (.int .u32 (l[i].1.e : Int)) ∧ w.cell? ⟨g, i * 8 + 1, none⟩ = some (.int .u64 (l[i].1.s : Int)) ∧
    w.cell? ⟨g, i * 8 + 2, none⟩ = some (.int .u64 (l[i].1.q : Int)) ∧ w.cell? ⟨g, i * 8 + 3, none⟩ = some (.int .u64 (l[i].1.f : Int)) ∧ w.cell? ⟨g, i * 8 + 4, none⟩ = some (.int .i64 l[i].1.i) ∧ w.cell? ⟨g, i * 8 + 5, none⟩ = some (.int .i64 l[i].1.c) ∧
    w.cell? ⟨g, i * 8 + 6, none⟩ = some (.int .i64 l[i].1.d) ∧ w.cell? ⟨g, i * 8 + 7, none⟩ = some (.int .i64 (l[i].2 : Int)) := by
  obtain ⟨a, cap, rfl, h1, -, h2⟩ := h.form
  have hl : l ≠ [] := by intro e; subst e; simp at hi
  rw [h2 hl]
  have := h.cell i hi
  exact ⟨cap, rfl, h1, this 0 (by omega), this 1 (by omega), this 2 (by omega), this 3 (by omega), this 4 (by omega), this 5 (by omega), this 6 (by omega), this 7 (by omega)⟩
/-- One that the call made itself. -/
theorem FV.own {base : Nat} (h : w.ownsRow base 122 8 v l.length (l.flatMap foC)) : ∃ g, FV w v l g ∧ (l ≠ [] → base ≤ g) := by
  rcases h.2 with ⟨rfl, h0⟩ | ⟨g, cap, cur, rfl, hb, hg, hc, -, -, htk⟩
  · obtain rfl : l = [] := List.eq_nil_of_length_eq_zero h0
    exact ⟨0, FV.nil w 0, fun h => absurd rfl h⟩
  · refine ⟨g, ⟨⟨_, cap, rfl, hc, (fun e => by cases e), fun _ => rfl⟩, fun i hi j hj => ?_, fun _ => lt_of_heap hg⟩, fun _ => hb⟩
    have hcells := h.cells (g := g) rfl
    have h1 := foC_at l i hi j hj
    have hj8 : j < (foC l[i]).length := by simpa [foC] using hj
    rw [List.getElem?_eq_getElem hj8] at h1 ⊢
    have k1 := hcells _ _ h1
    rw [add_lit] at k1
    simpa using k1
end
end Rp
end Go.Proofs.YthapggobpfcmjaaGreat

set_option maxRecDepth 100000
namespace Go.Proofs.YthapggobpfcmjaaGreat
namespace Rp
open Go.RowKit

/-- While starts runs. -/
structure StI (w : World) (v : Value) (l : List Fo) (g k : Nat) (wr : World) : Prop where
  map : ∃ es clk, wr.heap[w.heap.size]? = some (.map es clk) ∧ UMap es (startsA (l.take k))
  fv : FV wr v l g
  below : Below w.heap.size w wr
  own : ∃ n D, n ≤ k ∧ OwnM wr w.heap.size n D
def foV (x : Fo) : Array Value := #[.int .u32 (x.1.e : Int), .int .u64 (x.1.s : Int), .int .u64 (x.1.q : Int), .int .u64 (x.1.f : Int), .int .i64 x.1.i, .int .i64 x.1.c, .int .i64 x.1.d, .int .i64 (x.2 : Int)]

set_option maxHeartbeats 4000000 in
theorem starts_ok {w : World} {v : Value} {l : List Fo} {g : Nat} (h : FV w v l g) (hlen : l.length ≤ 4294967296) (he : ∀ x ∈ l, x.1.e < 4294967296) :
    Calls Tryz.prog 91 #[v] w fun e w' => (∃ es clk, e = .returned (.map (some w.heap.size)) ∧ w'.heap[w.heap.size]? = some (.map es clk) ∧ UMap es (startsA l)) ∧ (∃ n D, n ≤ l.length ∧ OwnM w' w.heap.size n D) ∧ Below w.heap.size w w' := by
  have H := Lib.hid h
  have HE := Lib.hid he
  obtain ⟨a, cap, rfl, hcap, hnil, hne⟩ := h.form
  clear h hne hnil hcap he
  go_enter Tryz.func91, Tryz.ntmps91
  have hmm := @run_makeMap Tryz.prog
  go_wp2
  go_loopw [11] (fun i wr => ∃ k : Nat, k ≤ l.length ∧ i = .int .i64 k ∧ StI w (.slice a l.length cap) l g k wr) (fun i _ => l.length - (intOf i).toNat)
  case atStart => exact ⟨0, Nat.zero_le _, rfl, ⟨⟨#[], 0, heap_alloc_new w _, UMap_nil⟩, H.out.below ((Below.refl _ w).alloc (Nat.le_refl _) _), (Below.refl _ w).alloc (Nat.le_refl _) _, 0, _, Nat.le_refl _, World.ownsMap_made w _ _ _⟩⟩
  case round =>
    obtain ⟨k, hk, rfl, hI⟩ := hrel
    by_cases hlt : k < l.length
    · obtain ⟨cap', e1, -, w0, w1, w2, w3, w4, w5, w6, w7⟩ := hI.fv.at hlt
      obtain ⟨rfl, rfl⟩ : a = some ⟨g, 0, none⟩ ∧ cap = cap' := by simpa using e1
      obtain ⟨es, clk, hm, hs⟩ := hI.map
      have hgs : g < wr.heap.size := World.block_lt_of_cell? wr _ w1
      have hml := lt_of_heap hm
      have hk' : (k : Int) < (l.length : Int) := by omega
      generalize hek : l[k] = ek at w0 w1 w2 w3 w4 w5 w6 w7
      have htk : l.take (k + 1) = l.take k ++ [ek] := by rw [List.take_add_one, List.getElem?_eq_getElem hlt, hek]; rfl
      have hm2 : (wr.alloc (.cells (foV ek) 122)).heap[w.heap.size]? = some (.map es clk) := (Below.heap_alloc _ _ _ hml).trans hm
      have hlu := run_lookup_ok hs ek.1.e _ hm2
      obtain ⟨es', clk', hs', hup⟩ := run_update_u (clk := clk) hs (starts_nodup _) ek.1.e ek.1.s
      have hup2 := hup w.heap.size _ hm2
      have hb2 : Below w.heap.size w (wr.alloc (.cells (foV ek) 122)) := hI.below.alloc hI.below.size _
      have htb : Touch (fun j => j = w.heap.size) _ _ := (Touch.refl (fun j => j = w.heap.size) (wr.alloc (.cells (foV ek) 122))).setBlock (g := w.heap.size) (.inl rfl) (.map es' clk')
      have HI := Lib.hid hI
      have HS := Lib.hid hs
      have HS2 := Lib.hid hs'
      have HM := Lib.hid hm2
      have HB := Lib.hid hb2
      have HT := Lib.hid htb
      have HTK := Lib.hid htk
      have HMM := Lib.hid (show ek ∈ l by rw [← hek]; exact List.getElem_mem _)
      have keepI : StI w (.slice (some ⟨g, 0, none⟩) l.length cap) l g k wr → startsA (l.take (k + 1)) = startsA (l.take k) → StI w (.slice (some ⟨g, 0, none⟩) l.length cap) l g (k + 1) (wr.alloc (.cells (foV ek) 122)) := fun h e =>
        ⟨⟨es, clk, HM.out, by rw [e]; exact HS.out⟩, h.fv.below ((Below.refl _ _).alloc (Nat.le_refl _) _), HB.out, by obtain ⟨n, D, h1, h2⟩ := h.own; exact ⟨n, D, by omega, h2.alloc _⟩⟩
      have putI : StI w (.slice (some ⟨g, 0, none⟩) l.length cap) l g k wr → startsA (l.take (k + 1)) = putA (startsA (l.take k)) ek.1.e ek.1.s → StI w (.slice (some ⟨g, 0, none⟩) l.length cap) l g (k + 1) (ChangeMaps.setBlock (wr.alloc (.cells (foV ek) 122)) w.heap.size (.map es' clk')) := fun h e =>
        ⟨⟨es', clk', heap_setBlock_same HM.out, by rw [e]; exact HS2.out⟩, (h.fv.below ((Below.refl _ _).alloc (Nat.le_refl _) _)).touch HT.out (fun hl e => by
          have := H.out.lt hl; omega), ((Touch.of_below (F := Emp) HB.out).trans HT.out (fun j hj hlt2 => by omega)).below, by
          obtain ⟨n, D, h1, h2⟩ := h.own
          obtain ⟨w', hr, h3, -⟩ := (h2.alloc (.cells (foV ek) 122)).update keyU Tryz.mapU (by unfold maxLen; omega) (keyOf_u (HE.out _ HMM.out)) (val := .int .u64 (ek.1.s : Int)) rfl
          rw [hup w.heap.size _ HM.out] at hr
          simp only [Result.ok.injEq, true_and] at hr
          subst hr
          exact ⟨n + 1, _, by omega, h3⟩⟩
      clear hI e1 hs hs' hup hm2 hb2 htb htk
      cases hg : getA (startsA (l.take k)) ek.1.e with
      | none =>
        rw [hg] at hlu
        simp only [Option.getD_none, Option.isSome_none] at hlu
        have hst : startsA (l.take (k + 1)) = putA (startsA (l.take k)) ek.1.e ek.1.s := by rw [HTK.out, starts_snoc]; unfold stStep; rw [hg]
        have PU := Lib.hid (putI HI.out hst)
        clear hg hst putI keepI
        unfold foV at *
        go_wp2_with fail
        exact ⟨⟨k + 1, by omega, by go_num, PU.out⟩, by simp [intOf]; omega⟩
      | some s0 =>
        rw [hg] at hlu
        simp only [Option.getD_some, Option.isSome_some] at hlu
        by_cases hlt0 : ek.1.s < s0
        · have hst : startsA (l.take (k + 1)) = putA (startsA (l.take k)) ek.1.e ek.1.s := by rw [HTK.out, starts_snoc]; unfold stStep; rw [hg]; simp only [if_pos hlt0]
          have PU := Lib.hid (putI HI.out hst)
          have hlt1 : (ek.1.s : Int) < (s0 : Int) := by omega
          clear hg hst putI keepI hlt0
          unfold foV at *
          go_wp2_with fail
          exact ⟨⟨k + 1, by omega, by go_num, PU.out⟩, by simp [intOf]; omega⟩
        · have hst : startsA (l.take (k + 1)) = startsA (l.take k) := by rw [HTK.out, starts_snoc]; unfold stStep; rw [hg]; simp only [if_neg hlt0]
          have PU := Lib.hid (keepI HI.out hst)
          have hlt1 : ¬ (ek.1.s : Int) < (s0 : Int) := by omega
          clear hg hst putI keepI hlt0
          unfold foV at *
          go_wp2_with fail
          exact ⟨⟨k + 1, by omega, by go_num, PU.out⟩, by simp [intOf]; omega⟩
    · obtain rfl : k = l.length := by omega
      have HI := Lib.hid hI
      clear hI hk
      go_wp2
      go_ret
      obtain ⟨es, clk, hm, hs⟩ := HI.out.map
      rw [List.take_length] at hs
      exact ⟨⟨es, clk, rfl, hm, hs⟩, HI.out.own, HI.out.below⟩
end Rp
end Go.Proofs.YthapggobpfcmjaaGreat

set_option maxRecDepth 100000
namespace Go.Proofs.YthapggobpfcmjaaGreat
namespace Rp
open Go.RowKit

theorem len_sub : ∀ (l m : List Nat), l.Nodup → (∀ x ∈ l, x ∈ m) → l.length ≤ m.length
  | [], _, _, _ => Nat.zero_le _
  | x :: l, m, hn, hs => by
    rw [List.nodup_cons] at hn
    have hx := hs x (by simp)
    have := len_sub l (m.erase x) hn.2 fun y hy => (List.mem_erase_of_ne fun e => hn.1 (by rw [← e]; exact hy)).2 (hs y (by simp [hy]))
    rw [List.length_erase_of_mem hx] at this
    have := List.length_pos_of_mem hx
    simp only [List.length_cons]; omega
theorem all_there {l : List Nat} {n : Nat} (hn : l.Nodup) (hb : ∀ x ∈ l, x < n) : l.length = n ↔ ∀ k, k < n → k ∈ l := by
  constructor
  · intro he k hk
    refine Classical.byContradiction fun hc => ?_
    have := len_sub (k :: l) (List.range n) (List.nodup_cons.2 ⟨hc, hn⟩) fun x hx => by
      rcases List.mem_cons.1 hx with rfl | hx
      · simpa using hk
      · simpa using hb x hx
    simp at this; omega
  · intro h
    have h1 := len_sub l (List.range n) hn fun x hx => by simpa using hb x hx
    have h2 := len_sub (List.range n) l List.nodup_range fun x hx => h x (by simpa using hx)
    simp at h1 h2; omega
theorem insT_mem {k x : Nat} {l : List Nat} : x ∈ insT k l ↔ x ∈ l ∨ x = k := by
  unfold insT
  split
  · exact ⟨.inl, fun h => h.elim id fun e => by subst e; assumption⟩
  · simp
theorem insT_nodup {k : Nat} {l : List Nat} (h : l.Nodup) : (insT k l).Nodup := by
  unfold insT
  split
  · exact h
  · rename_i hk
    exact List.nodup_append.2 ⟨h, by simp, fun a ha b hb e => hk (by rw [← List.mem_singleton.1 hb, ← e]; exact ha)⟩

/-- The tags of one batch, in order. -/
def batL (l : List Fo) (seq : Nat) : List Fo := l.filter fun x => x.1.q == seq
theorem batL_in {l : List Fo} {seq : Nat} {x : Fo} (h : x.1.q = seq) : batL (l ++ [x]) seq = batL l seq ++ [x] := by simp [batL, h]
theorem batL_out {l : List Fo} {seq : Nat} {x : Fo} (h : x.1.q ≠ seq) : batL (l ++ [x]) seq = batL l seq := by simp [batL, h]
def seenL (b : List Fo) : List Nat := b.foldl (fun s x => insT x.1.i.toNat s) []
theorem seenL_snoc (b : List Fo) (x : Fo) : seenL (b ++ [x]) = insT x.1.i.toNat (seenL b) := by simp [seenL]
theorem seenL_mem (b : List Fo) (n : Nat) : n ∈ seenL b ↔ ∃ x ∈ b, x.1.i.toNat = n := by
  induction b using snoc_ind with
  | nil => simp [seenL]
  | snoc b x ih =>
    rw [seenL_snoc, insT_mem, ih]
    constructor
    · rintro (⟨y, hy, e⟩ | e)
      · exact ⟨y, by simp [hy], e⟩
      · exact ⟨x, by simp, e.symm⟩
    · rintro ⟨y, hy, e⟩
      rcases List.mem_append.1 hy with h | h
      · exact .inl ⟨y, h, e⟩
      · rw [List.mem_singleton.1 h] at e; exact .inr e.symm
theorem seenL_nodup (b : List Fo) : (seenL b).Nodup := by
  induction b using snoc_ind with
  | nil => exact List.nodup_nil
  | snoc b x ih => rw [seenL_snoc]; exact insT_nodup ih
theorem seenL_nil {b : List Fo} : seenL b = [] ↔ b = [] := by
  constructor
  · intro h
    cases b with
    | nil => rfl
    | cons x b => have := (seenL_mem (x :: b) x.1.i.toNat).2 ⟨x, by simp, rfl⟩; rw [h] at this; simp at this
  · intro h; subst h; rfl
theorem seenL_len (b : List Fo) : (seenL b).length ≤ b.length := by
  induction b using snoc_ind with
  | nil => exact Nat.le_refl _
  | snoc b x ih =>
    rw [seenL_snoc, List.length_append]
    unfold insT
    split
    · simp; omega
    · simp; omega
/-- A batch is whole: its tags have one count, and there is one of each index. -/
def Whole (l : List Fo) (seq : Nat) : Prop := ∃ x ∈ batL l seq, (∀ y ∈ batL l seq, y.1.c = x.1.c) ∧ ∀ k : Nat, (k : Int) < x.1.c → ∃ y ∈ batL l seq, y.1.i = (k : Int)
/-- How many the last one says that there are. -/
def cntL (b : List Fo) : Int := (b.getLast?.map (·.1.c)).getD 0
theorem cntL_snoc (b : List Fo) (x : Fo) : cntL (b ++ [x]) = x.1.c := by simp [cntL]
def RightL (l : List Fo) : Prop := ∀ x ∈ l, Tg.rightB x.1 = true
theorem whole_iff {l : List Fo} (hr : RightL l) {seq : Nat} {c : Int} (hc : ∀ y ∈ batL l seq, y.1.c = c) (h0 : batL l seq = [] → c = 0) : Whole l seq ↔ 0 < c ∧ ((seenL (batL l seq)).length : Int) = c := by
  have hin : ∀ y ∈ batL l seq, 0 ≤ y.1.i ∧ y.1.i < c := fun y hy => by
    have := (Tg.right_iff _).1 (hr y (List.mem_filter.1 hy).1)
    have := hc y hy
    omega
  have hb : ∀ n ∈ seenL (batL l seq), n < c.toNat := fun n hn => by
    obtain ⟨y, hy, rfl⟩ := (seenL_mem _ _).1 hn
    have := hin y hy
    omega
  have ha := all_there (seenL_nodup (batL l seq)) hb
  constructor
  · rintro ⟨x, hx, -, h2⟩
    have hcx := hc x hx
    have := hin x hx
    refine ⟨by omega, ?_⟩
    have := ha.2 fun k hk => (seenL_mem _ _).2 (by
      obtain ⟨y, hy, e⟩ := h2 k (by omega)
      exact ⟨y, hy, by omega⟩)
    omega
  · rintro ⟨hp, hl⟩
    have hne : batL l seq ≠ [] := fun e => by have := h0 e; omega
    obtain ⟨x, hx⟩ := List.exists_mem_of_ne_nil _ hne
    refine ⟨x, hx, fun y hy => (hc y hy).trans (hc x hx).symm, fun k hk => ?_⟩
    have hcx := hc x hx
    obtain ⟨y, hy, e⟩ := (seenL_mem _ _).1 (ha.1 (by omega) k (by omega))
    have := hin y hy
    exact ⟨y, hy, by omega⟩

def SaysB (e : Ending) (p : Prop) : Prop := ∃ b : Bool, e = .returned (.bool b) ∧ (b = true ↔ p)
/-- While whole runs. -/
structure WhI (w : World) (v : Value) (l : List Fo) (g seq k : Nat) (c : Int) (wr : World) : Prop where
  map : ∃ es clk, wr.heap[w.heap.size]? = some (.map es clk) ∧ ISet es (seenL (batL (l.take k) seq))
  fv : FV wr v l g
  below : Below w.heap.size w wr
  one : ∀ y ∈ batL (l.take k) seq, y.1.c = c
  nil : batL (l.take k) seq = [] → c = 0

theorem WhI.skip {w wr wr' : World} {v : Value} {l : List Fo} {g seq k : Nat} {c : Int} {x : Fo} (h : WhI w v l g seq k c wr) (ht : l.take (k + 1) = l.take k ++ [x]) (hx : x.1.q ≠ seq) (hb : Below wr.heap.size wr wr') : WhI w v l g seq (k + 1) c wr' := by
  obtain ⟨es, clk, hm, hs⟩ := h.map
  have e : batL (l.take (k + 1)) seq = batL (l.take k) seq := by rw [ht, batL_out hx]
  exact ⟨⟨es, clk, (hb.block _ (lt_of_heap hm)).trans hm, by rw [e]; exact hs⟩, h.fv.below hb, ⟨hb.os.trans h.below.os, hb.tape.trans h.below.tape, hb.output.trans h.below.output, Nat.le_trans h.below.size hb.size, fun j hj => (hb.block j (Nat.lt_of_lt_of_le hj h.below.size)).trans (h.below.block j hj)⟩, by rw [e]; exact h.one, by rw [e]; exact h.nil⟩

set_option maxHeartbeats 4000000 in
theorem whole_ok {w : World} {v : Value} {l : List Fo} {g : Nat} (h : FV w v l g) (hlen : l.length ≤ 4294967296) (hr : RightL l) (seq : Nat) :
    Calls Tryz.prog 60 #[v, .int .u64 (seq : Int)] w fun e w' => SaysB e (Whole l seq) ∧ Below w.heap.size w w' := by
  have H := Lib.hid h
  have HR := Lib.hid hr
  obtain ⟨a, cap, rfl, hcap, hnil, hne⟩ := h.form
  clear h hne hnil hcap hr
  go_enter Tryz.func60, Tryz.ntmps60
  have hmm := @run_makeMap Tryz.prog
  go_wp2
  go_loopw [12, 5] (fun i c wr => ∃ (k : Nat) (c' : Int), k ≤ l.length ∧ i = .int .i64 k ∧ c = .int .i64 c' ∧ WhI w (.slice a l.length cap) l g seq k c' wr) (fun i c _ => l.length - (intOf i).toNat)
  case atStart => exact ⟨0, 0, Nat.zero_le _, rfl, rfl, ⟨⟨#[], 0, heap_alloc_new w _, ISet_nil⟩, H.out.below ((Below.refl _ w).alloc (Nat.le_refl _) _), (Below.refl _ w).alloc (Nat.le_refl _) _, (fun y hy => by simp [batL] at hy), fun _ => rfl⟩⟩
  case round =>
    obtain ⟨k, c0, hk, rfl, rfl, hI⟩ := hrel
    by_cases hlt : k < l.length
    · obtain ⟨cap', e1, -, w0, w1, w2, w3, w4, w5, w6, w7⟩ := hI.fv.at hlt
      obtain ⟨rfl, rfl⟩ : a = some ⟨g, 0, none⟩ ∧ cap = cap' := by simpa using e1
      obtain ⟨es, clk, hm, hs⟩ := hI.map
      have hgs : g < wr.heap.size := World.block_lt_of_cell? wr _ w1
      have hml := lt_of_heap hm
      have hk' : (k : Int) < (l.length : Int) := by omega
      have hin := (Tg.right_iff _).1 (HR.out _ (List.getElem_mem hlt))
      generalize hek : l[k] = ek at w0 w1 w2 w3 w4 w5 w6 w7 hin
      have htk : l.take (k + 1) = l.take k ++ [ek] := by rw [List.take_add_one, List.getElem?_eq_getElem hlt, hek]; rfl
      have hmem : ek ∈ l := by rw [← hek]; exact List.getElem_mem _
      have hm2 : (wr.alloc (.cells (foV ek) 122)).heap[w.heap.size]? = some (.map es clk) := (Below.heap_alloc _ _ _ hml).trans hm
      have hln := fun ty => run_len_iset hs ty _ hm2
      have hbA : Below wr.heap.size wr (wr.alloc (.cells (foV ek) 122)) := (Below.refl _ _).alloc (Nat.le_refl _) _
      have HI := Lib.hid hI
      have HTK := Lib.hid htk
      have HIN := Lib.hid hin
      have HMM := Lib.hid hmem
      clear e1 htk hin hmem
      by_cases hq : ek.1.q = seq
      · have hq1 : ((ek.1.q : Int) == (seq : Int)) = true := by simp [hq]
        have hq2 : ((ek.1.q : Int) != (seq : Int)) = false := by simp [hq]
        have HQ := Lib.hid hq
        clear hq
        have hpos : ((seenL (batL (l.take k) seq)).length : Int) > 0 ↔ batL (l.take k) seq ≠ [] := by
          constructor
          · intro h1 h2; rw [h2] at h1; simp [seenL] at h1
          · intro h1
            have := List.length_pos_iff.2 fun e => h1 (seenL_nil.1 e)
            omega
        by_cases hbad : batL (l.take k) seq ≠ [] ∧ ek.1.c ≠ c0
        · have hp := hpos.2 hbad.1
          have hc1 : (ek.1.c != c0) = true := by simp [hbad.2]
          have hc2 : (ek.1.c == c0) = false := by simp [hbad.2]
          have HN := Lib.hid (show ¬ Whole l seq from fun ⟨x, hx, h1, _⟩ => by
            obtain ⟨y, hy⟩ := List.exists_mem_of_ne_nil _ hbad.1
            have hyl : y ∈ batL l seq := by
              obtain ⟨h1, h2⟩ := List.mem_filter.1 hy
              exact List.mem_filter.2 ⟨List.mem_of_mem_take h1, h2⟩
            have e1 := h1 y hyl
            have e2 := h1 ek (List.mem_filter.2 ⟨HMM.out, by simpa using HQ.out⟩)
            have e3 := HI.out.one y hy
            exact hbad.2 (by omega))
          have HB := Lib.hid hbA
          clear hI hs hm hm2 hbad hpos hbA
          unfold foV at *
          go_wp2_with fail
          go_ret
          exact ⟨⟨false, rfl, by simp [HN.out]⟩, HI.out.below.alloc HI.out.below.size _⟩
        · obtain ⟨n, hn⟩ : ∃ n : Nat, ek.1.i = (n : Int) := ⟨ek.1.i.toNat, by have := HIN.out; omega⟩
          obtain ⟨es', clk', hs', hup⟩ := run_update_iset (P := Tryz.prog) Tryz.underlying61 Tryz.underlying3 (clk := clk) hs n
          rw [← hn] at hup
          have hup2 := hup w.heap.size _ hm2
          have PU := Lib.hid (show WhI w (.slice (some ⟨g, 0, none⟩) l.length cap) l g seq (k + 1) ek.1.c (ChangeMaps.setBlock (wr.alloc (.cells (foV ek) 122)) w.heap.size (.map es' clk')) from by
            have hbt : batL (l.take (k + 1)) seq = batL (l.take k) seq ++ [ek] := by rw [HTK.out, batL_in HQ.out]
            have htb : Touch (fun j => j = w.heap.size) _ _ := (Touch.refl (fun j => j = w.heap.size) (wr.alloc (.cells (foV ek) 122))).setBlock (g := w.heap.size) (.inl rfl) (.map es' clk')
            have hb2 : Below w.heap.size w (wr.alloc (.cells (foV ek) 122)) := hI.below.alloc hI.below.size _
            refine ⟨⟨es', clk', heap_setBlock_same hm2, ?_⟩, (hI.fv.below hbA).touch htb (fun hl e => by have := H.out.lt hl; omega), ((Touch.of_below (F := Emp) hb2).trans htb (fun j hj hlt2 => by omega)).below, ?_, ?_⟩
            · rw [hbt, seenL_snoc, show ek.1.i.toNat = n by omega]; exact hs'
            · rw [hbt]
              intro y hy
              rcases List.mem_append.1 hy with h1 | h1
              · have h2 := hI.one y h1
                have h3 : batL (l.take k) seq ≠ [] := List.ne_nil_of_mem h1
                have : ek.1.c = c0 := Classical.byContradiction fun h => hbad ⟨h3, h⟩
                omega
              · rw [List.mem_singleton.1 h1]
            · rw [hbt]; intro h; simp at h)
          by_cases hz : batL (l.take k) seq = []
          · have hp : ¬ ((seenL (batL (l.take k) seq)).length : Int) > 0 := fun h => (hpos.1 h) hz
            clear hI hs hm hm2 hbad hpos hz hup hs' hbA hn
            unfold foV at *
            go_wp2_with fail
            exact ⟨⟨k + 1, _, by omega, by go_num, rfl, PU.out⟩, by simp [intOf]; omega⟩
          · have hp := hpos.2 hz
            have hcc : ek.1.c = c0 := Classical.byContradiction fun h => hbad ⟨hz, h⟩
            have hc1 : (ek.1.c != c0) = false := by simp [hcc]
            have hc2 : (ek.1.c == c0) = true := by simp [hcc]
            clear hI hs hm hm2 hbad hpos hz hup hs' hbA hcc hn
            unfold foV at *
            go_wp2_with fail
            exact ⟨⟨k + 1, _, by omega, by go_num, rfl, PU.out⟩, by simp [intOf]; omega⟩
      · have hq1 : ((ek.1.q : Int) == (seq : Int)) = false := by simp; omega
        have hq2 : ((ek.1.q : Int) != (seq : Int)) = true := by simp; omega
        have PU := Lib.hid (hI.skip HTK.out hq hbA)
        clear hI hs hm hm2 hq hbA
        unfold foV at *
        go_wp2_with fail
        exact ⟨⟨k + 1, _, by omega, by go_num, rfl, PU.out⟩, by simp [intOf]; omega⟩
    · obtain rfl : k = l.length := by omega
      obtain ⟨es, clk, hm, hs⟩ := hI.map
      have hln := fun ty => run_len_iset hs ty _ hm
      have h1 := hI.one
      have h2 := hI.nil
      rw [List.take_length] at hln h1 h2
      have HW := Lib.hid (whole_iff HR.out h1 h2)
      have HB := Lib.hid hI.below
      clear hI hm hs h1 h2 hk
      by_cases hp : c0 > 0
      · have hd : ∀ z : Int, (z == c0) = decide (z = c0) := fun z => by by_cases h : z = c0 <;> simp [h]
        go_wp2
        go_ret
        refine ⟨⟨_, rfl, ?_⟩, HB.out⟩
        rw [HW.out]
        simp [hp]
      · go_wp2
        go_ret
        refine ⟨⟨_, rfl, ?_⟩, HB.out⟩
        rw [HW.out]
        simp [hp]
        omega
end Rp
end Go.Proofs.YthapggobpfcmjaaGreat

set_option maxRecDepth 100000
namespace Go.Proofs.YthapggobpfcmjaaGreat
namespace Rq
open Go.RowKit

theorem and_low32 (x : Nat) (h : x < 4294967296) : bits .and .u64 (x : Int) 4294967295 = (x : Int) := by
  have h1 : (BitVec.ofInt 64 (x : Int)).toNat = x := by
    rw [BitVec.ofInt_natCast, BitVec.toNat_ofNat]; exact Nat.mod_eq_of_lt (by omega)
  have h2 : (BitVec.ofInt 64 (4294967295 : Int)).toNat = 2 ^ 32 - 1 := by decide
  show IntKind.u64.wrap ((BitVec.ofInt 64 (x : Int) &&& BitVec.ofInt 64 (4294967295 : Int)).toNat : Int) = _
  rw [BitVec.toNat_and, h1, h2, Nat.and_two_pow_sub_one_eq_mod, Nat.mod_eq_of_lt (by omega)]
  rw [IntKind.wrap_u64]
  omega

set_option maxHeartbeats 400000 in
theorem mul64_one (n : Nat) (w : World) (hn : n ≤ 1048576) :
    Calls Tryz.prog 94 #[.int .u64 1, .int .u64 (n : Int)] w fun e w' => e = .returned (.tuple #[.int .u64 0, .int .u64 (n : Int)]) ∧ w = w' := by
  have ha := and_low32 n (by omega)
  have hb : bits .and .u64 1 4294967295 = 1 := by decide
  have hz : bits .and .u64 0 4294967295 = 0 := by decide
  have h1 : (1 : Int) * (n : Int) = (n : Int) := by omega
  have hs : (n : Int) / 4294967296 = 0 := by omega
  go_enter Tryz.func94, Tryz.ntmps94
  go_wp2
  go_ret2
  exact ⟨rfl, rfl⟩


set_option maxHeartbeats 400000 in
theorem mul_one (n : Nat) (w : World) (hn : n ≤ 1048576) :
    Calls Tryz.prog 64 #[.int .u64 1, .int .u64 (n : Int)] w fun e w' => e = .returned (.tuple #[.int .u64 0, .int .u64 (n : Int)]) ∧ w = w' := by
  have M := Lib.hid (mul64_one n w hn)
  go_enter Tryz.func64, Tryz.ntmps64
  go_wp2_with fail
  refine M.out.mono ?_
  rintro e w' ⟨rfl, rfl⟩
  go_wp2
  go_ret2
  exact ⟨rfl, rfl⟩

theorem madeCells_one' (z : Value) (n : Nat) : madeCells #[z] n = Array.replicate n z := by
  unfold madeCells
  apply Array.ext
  · simp
  · intro i h1 h2
    simp [Nat.mod_one]
/-- A row that is filled: k cells of m. -/
def fillR (v z : Value) (m k : Nat) : List Value := List.replicate k v ++ List.replicate (m - k) z
theorem fillR_zero (v z : Value) (m : Nat) : fillR v z m 0 = List.replicate m z := by simp [fillR]
theorem fillR_full (v z : Value) (m : Nat) : fillR v z m m = List.replicate m v := by simp [fillR]
theorem fillR_length (v z : Value) (m k : Nat) (h : k ≤ m) : (fillR v z m k).length = m := by simp [fillR]; omega
theorem fillR_get (v z : Value) {m k i : Nat} (hi : i < k) : (fillR v z m k)[i]? = some v := by simp [fillR, hi, List.getElem?_append]
theorem fillR_copy (v z : Value) (m k j : Nat) (h : k + j ≤ m) : ((fillR v z m k).toArray.toList.take k ++ List.replicate j v ++ (fillR v z m k).toArray.toList.drop (k + j)).toArray = (fillR v z m (k + j)).toArray := by
  congr 1
  simp only [fillR]
  rw [List.take_append_of_le_length (by simp), List.drop_append, List.length_replicate]
  rw [List.drop_eq_nil_of_le (by simp), List.nil_append, List.drop_replicate, List.take_of_length_le (by simp), List.replicate_append_replicate]
  congr 2
  omega
theorem Tryz.infoRq : (Tryz.prog.info? 3).map (fun i => (i.zero, i.size, i.bytes)) = some (some (.int .i64 0), 1, 8) := by kernel_rfl
theorem make_i (w : World) (m : Nat) (hm : m ≤ 1048576) :
    (Instr.makeSlice 33 (.int .i64 (m : Int)) (.int .i64 (m : Int))).run Tryz.prog w = .ok (.slice (some ⟨w.heap.size, 0, none⟩) m m) (w.alloc (.cells (List.replicate m (.int .i64 0)).toArray 3)) := by
  obtain ⟨i0, hi, hz0, hz1, hz2⟩ := info_parts Tryz.infoRq
  have := run_make (P := Tryz.prog) w 33 3 i0 (.int .i64 0) Tryz.underlying33 hi hz0 .i64 .i64 m m (by omega) (by omega) (by rw [hz2]; omega) (by omega)
  rw [this, hz1]
  simp only [Value.cells, madeCells_one', Nat.mul_one, Int.toNat_natCast, List.toArray_replicate]
theorem size_i : (Tryz.prog.info? 3).map (·.size) = some 1 := by
  obtain ⟨i0, hi, hz0, hz1, hz2⟩ := info_parts Tryz.infoRq
  rw [hi]; simp [hz1]
/-- The first copy: one number, or none. -/
theorem copy_first (w : World) (g N m c : Nat) (x : Int) (ty : TypeId) (hx : w.cell? ⟨g, 0, none⟩ = some (.int .i64 x)) (hN : w.heap[N]? = some (.cells (fillR (.int .i64 x) (.int .i64 0) m 0).toArray 3 (0, 0))) :
    (Builtin.copy_ #[33, 33] ty #[.slice (some ⟨N, 0, none⟩) m m, .slice (some ⟨g, 0, none⟩) 1 c]).run Tryz.prog w = .ok (goInt (min 1 m : Nat)) (w.setRow N (fillR (.int .i64 x) (.int .i64 0) m (min 1 m)).toArray) := by
  have hl : (List.replicate (min 1 m) (Value.int .i64 x)).length = Nat.min 1 m := by simp
  have := run_copy_row (P := Tryz.prog) w 33 33 ty 3 N 0 m m ⟨g, 0, none⟩ 1 c _ 3 (List.replicate (min 1 m) (.int .i64 x))
    Tryz.underlying33 size_i hN hl (by
      intro j v hj
      rw [List.getElem?_replicate] at hj
      split at hj
      · cases hj
        obtain rfl : j = 0 := by omega
        exact hx
      · cases hj) (by simp [fillR]; omega) (by intro v hv; rw [List.eq_of_mem_replicate hv]; rfl)
  rw [this, List.length_replicate, fillR_copy _ _ _ _ _ (by omega), Nat.zero_add]
/-- The later copies: what is there is laid behind itself. -/
theorem copy_more (w : World) (N m k : Nat) (x : Int) (ty : TypeId) (hk : k ≤ m) (hN : w.heap[N]? = some (.cells (fillR (.int .i64 x) (.int .i64 0) m k).toArray 3 (0, 0))) :
    (Builtin.copy_ #[33, 33] ty #[.slice (some ⟨N, k, none⟩) (m - k) (m - k), .slice (some ⟨N, 0, none⟩) k m]).run Tryz.prog w = .ok (goInt (min k (m - k) : Nat)) (w.setRow N (fillR (.int .i64 x) (.int .i64 0) m (k + min k (m - k))).toArray) := by
  have hl : (List.replicate (min k (m - k)) (Value.int .i64 x)).length = Nat.min k (m - k) := by simp
  have := run_copy_row (P := Tryz.prog) w 33 33 ty 3 N k (m - k) (m - k) ⟨N, 0, none⟩ k m _ 3 (List.replicate (min k (m - k)) (.int .i64 x))
    Tryz.underlying33 size_i hN hl (by
      intro j v hj
      rw [List.getElem?_replicate] at hj
      split at hj
      · cases hj
        have e : (⟨N, 0, none⟩ : Addr).add j = ⟨N, j, none⟩ := by unfold Addr.add; split <;> simp_all
        rw [e, cell_of_row w N j _ _ _ hN]
        simpa using fillR_get (.int .i64 x) (.int .i64 0) (show j < k by omega)
      · cases hj) (by rw [List.size_toArray, fillR_length _ _ _ _ hk, List.length_replicate]; omega) (by intro v hv; rw [List.eq_of_mem_replicate hv]; rfl)
  rw [this, List.length_replicate, fillR_copy _ _ _ _ _ (by omega)]

/-- What Repeat has built so far. -/
structure Rep (w : World) (x : Int) (m k : Nat) (wr : World) : Prop where
  below : Below w.heap.size w wr
  row : wr.heap[w.heap.size]? = some (.cells (fillR (.int .i64 x) (.int .i64 0) m k).toArray 3 (0, 0))
theorem Rep.step {w wr : World} {x : Int} {m k : Nat} (h : Rep w x m k wr) (k' : Nat) : Rep w x m k' (wr.setRow w.heap.size (fillR (.int .i64 x) (.int .i64 0) m k').toArray) :=
  ⟨((Touch.of_below (F := Emp) h.below).setRow (.inr (Nat.le_refl _)) _).below, setRow_heap wr _ _ _ _ _ h.row⟩
theorem Rep.drewN {w wr : World} {x : Int} {m k : Nat} (h : Rep w x m k wr) (n : Nat) : Rep w x m k (wr.drewN n) :=
  ⟨((Touch.of_below (F := Emp) h.below).drewN n).below, h.row⟩
theorem Rep.start (w : World) (x : Int) (m : Nat) : Rep w x m 0 (w.alloc (.cells (List.replicate m (.int .i64 0)).toArray 3)) :=
  ⟨(Below.refl _ w).alloc (Nat.le_refl _) _, by rw [fillR_zero]; exact heap_alloc_new w _⟩

set_option maxRecDepth 100000 in
set_option maxHeartbeats 1000000 in
theorem repeat_one (g m : Nat) (x : Int) (w : World) (hm : m ≤ 1048576) (hx : w.cell? ⟨g, 0, none⟩ = some (.int .i64 x)) :
    Calls Tryz.prog 33 #[.slice (some ⟨g, 0, none⟩) 1 1, .int .i64 (m : Int)] w fun e w' => e = .returned (.slice (some ⟨w.heap.size, 0, none⟩) m m) ∧ Rep w x m m w' := by
  have MU := Lib.hid (mul_one m w hm)
  have hmk := make_i w m hm
  have R0 := Lib.hid (Rep.start w x m)
  have hx1 : (w.alloc (.cells (List.replicate m (.int .i64 0)).toArray 3)).cell? ⟨g, 0, none⟩ = some (.int .i64 x) := by
    rw [World.cell?_alloc_lt _ _ _ (World.block_lt_of_cell? w ⟨g, 0, none⟩ hx)]; exact hx
  have hcp := fun ty => copy_first _ g w.heap.size m 1 x ty hx1 R0.out.row
  have R1 := Lib.hid (R0.out.step (min 1 m))
  clear hx hx1
  generalize (w.alloc (.cells (List.replicate m (.int .i64 0)).toArray 3)) = W0 at *
  have hk1 : min 1 m ≤ m ∧ (1 ≤ min 1 m ∨ m = 0) := by omega
  generalize min 1 m = k1 at *
  go_enter Tryz.func33, Tryz.ntmps33
  go_wp2_with fail
  refine MU.out.mono ?_
  rintro e w' ⟨rfl, rfl⟩
  go_wp2
  go_loopw [8] (fun i wr => ∃ k : Nat, k ≤ m ∧ (1 ≤ k ∨ m = 0) ∧ i = .int .i64 k ∧ Rep w x m k wr) (fun i _ => m - (intOf i).toNat)
  case atStart => exact ⟨k1, hk1.1, hk1.2, rfl, R1.out⟩
  case round =>
    obtain ⟨k, hk, hk0, rfl, hF⟩ := hrel
    have HF := Lib.hid hF
    by_cases hlt : k < m
    · have hcm := fun ty => copy_more wr.drew w.heap.size m k x ty hk hF.row
      have HK := Lib.hid hk0
      clear hF hk0
      go_wp2_with fail
      go_region
      go_roundw
      case rel => exact ⟨.int .i64 ((k : Int) + (min k (m - k) : Nat)), _, _, _, _, _, _, _, _, _, _, _, _, _, ⟨k + min k (m - k), by omega, by have := HK.out; omega, rfl, (HF.out.drewN 1).step _⟩, rfl⟩
      case measure =>
        have := HK.out
        simp [intOf]
        omega
    · obtain rfl : k = m := by omega
      clear hk hF
      go_wp2
      go_ret
      exact ⟨rfl, HF.out⟩


end Rq
end Go.Proofs.YthapggobpfcmjaaGreat

set_option maxRecDepth 100000
namespace Go.Proofs.YthapggobpfcmjaaGreat
namespace Rp
open Go.RowKit

/-- The greatest number of a batch, not above seq, that wrote a block, and its place; of several the first one. -/
def bestF (l : List Fo) (seq id : Nat) : Nat × Int := l.foldl (fun p x => if x.1.d = (id : Int) ∧ x.1.q ≤ seq ∧ p.1 < x.1.q then (x.1.q, (x.2 : Int)) else p) (0, -1)
theorem best_snoc (l : List Fo) (x : Fo) (seq id : Nat) : bestF (l ++ [x]) seq id = if x.1.d = (id : Int) ∧ x.1.q ≤ seq ∧ (bestF l seq id).1 < x.1.q then (x.1.q, (x.2 : Int)) else bestF l seq id := by
  unfold bestF; rw [List.foldl_append]; rfl
/-- A row of n values. -/
def rowF (n : Nat) (f : Nat → Value) : Array Value := ((List.range n).map f).toArray
theorem rowF_at {n i : Nat} {f : Nat → Value} (h : i < n) : (rowF n f)[i]? = some (f i) := by simp [rowF, h]
theorem rowF_set {n i : Nat} {f g : Nat → Value} (v : Value) (hi : g i = v) (ho : ∀ j, j < n → j ≠ i → g j = f j) : (rowF n f).setIfInBounds i v = rowF n g := by
  apply Array.ext
  · simp [rowF]
  · intro j h1 h2
    have hj : j < n := by simpa [rowF] using h2
    rw [Array.getElem_setIfInBounds (by simpa [rowF] using hj)]
    by_cases e : i = j
    · subst e; simp [rowF, hi]
    · rw [if_neg e]; simp [rowF, ho j hj (Ne.symm e)]
theorem rowF_same {n : Nat} {f g : Nat → Value} (h : ∀ j, j < n → f j = g j) : rowF n f = rowF n g := by
  unfold rowF; rw [List.map_congr_left fun j hj => h j (by simpa using hj)]
theorem rowF_rep (n : Nat) (v : Value) : (List.replicate n v).toArray = rowF n fun _ => v := by simp [rowF, List.map_const']
theorem Tryz.infou64 : (Tryz.prog.info? 32).map (fun i => (i.zero, i.size, i.bytes)) = some (some (.int .u64 0), 1, 8) := by kernel_rfl
theorem make_u (w : World) (m : Nat) (hm : m ≤ 1048576) :
    (Instr.makeSlice 145 (.int .i64 (m : Int)) (.int .i64 (m : Int))).run Tryz.prog w = .ok (.slice (some ⟨w.heap.size, 0, none⟩) m m) (w.alloc (.cells (rowF m fun _ => .int .u64 0) 32)) := by
  obtain ⟨i0, hi, hz0, hz1, hz2⟩ := info_parts Tryz.infou64
  have := run_make (P := Tryz.prog) w 145 32 i0 (.int .u64 0) Tryz.underlying145 hi hz0 .i64 .i64 m m (by omega) (by omega) (by rw [hz2]; omega) (by omega)
  rw [this, hz1, ← rowF_rep]
  simp only [Value.cells, Rq.madeCells_one', Nat.mul_one, Int.toNat_natCast, List.toArray_replicate]

def atV (l : List Fo) (seq : Nat) (id : Nat) : Value := .int .i64 (bestF l seq id).2
def seqV (l : List Fo) (seq : Nat) (id : Nat) : Value := .int .u64 ((bestF l seq id).1 : Int)
/-- While newest runs: its two rows. -/
structure NwI (w : World) (v : Value) (l : List Fo) (g seq N k gA gB : Nat) (wr : World) : Prop where
  loA : w.heap.size ≤ gA
  ne : gA < gB
  rowA : wr.heap[gA]? = some (.cells (rowF N (atV (l.take k) seq)) 3 (0, 0))
  rowB : wr.heap[gB]? = some (.cells (rowF N (seqV (l.take k) seq)) 32 (0, 0))
  fv : FV wr v l g
  below : Below w.heap.size w wr
theorem NwI.keep {w wr wr' : World} {v : Value} {l : List Fo} {g seq N k gA gB : Nat} (h : NwI w v l g seq N k gA gB wr) (hb : Below wr.heap.size wr wr') (he : ∀ id, id < N → bestF (l.take (k + 1)) seq id = bestF (l.take k) seq id) : NwI w v l g seq N (k + 1) gA gB wr' := by
  have e1 : rowF N (atV (l.take (k + 1)) seq) = rowF N (atV (l.take k) seq) := rowF_same fun j hj => by unfold atV; rw [he j hj]
  have e2 : rowF N (seqV (l.take (k + 1)) seq) = rowF N (seqV (l.take k) seq) := rowF_same fun j hj => by unfold seqV; rw [he j hj]
  exact ⟨h.loA, h.ne, by rw [e1]; exact (hb.block _ (lt_of_heap h.rowA)).trans h.rowA, by rw [e2]; exact (hb.block _ (lt_of_heap h.rowB)).trans h.rowB, h.fv.below hb,
    ((Touch.of_below (F := Emp) h.below).trans (Touch.of_below (F := Emp) hb) (fun _ h _ => h)).below⟩
theorem NwI.store {w wr wr' : World} {v : Value} {l : List Fo} {g seq N k gA gB d : Nat} (h : NwI w v l g seq N k gA gB wr) (hg : l ≠ [] → g < w.heap.size) {x : Fo} (hx : l.take (k + 1) = l.take k ++ [x]) (hd : x.1.d = (d : Int)) (hq : x.1.q ≤ seq) (hlt : (bestF (l.take k) seq d).1 < x.1.q)
    (hb : Below wr.heap.size wr wr') : NwI w v l g seq N (k + 1) gA gB ((wr'.setCell ⟨gA, d, none⟩ (.int .i64 (x.2 : Int))).setCell ⟨gB, d, none⟩ (.int .u64 (x.1.q : Int))) := by
  have hA := (hb.block _ (lt_of_heap h.rowA)).trans h.rowA
  have hB := (hb.block _ (lt_of_heap h.rowB)).trans h.rowB
  have hn := h.ne
  have hs : bestF (l.take (k + 1)) seq d = (x.1.q, (x.2 : Int)) := by rw [hx, best_snoc, if_pos ⟨hd, hq, hlt⟩]
  have ho : ∀ j, j ≠ d → bestF (l.take (k + 1)) seq j = bestF (l.take k) seq j := fun j hj => by rw [hx, best_snoc, if_neg fun hc => hj (by have := hc.1; omega)]
  have ht : Touch (fun j => j = gA ∨ j = gB) wr' ((wr'.setCell ⟨gA, d, none⟩ (.int .i64 (x.2 : Int))).setCell ⟨gB, d, none⟩ (.int .u64 (x.1.q : Int))) :=
    ((Touch.refl (fun j => j = gA ∨ j = gB) wr').setCell (a := ⟨gA, d, none⟩) (.inl (.inl rfl)) _).setCell (a := ⟨gB, d, none⟩) (.inl (.inr rfl)) _
  refine ⟨h.loA, h.ne, ?_, ?_, (h.fv.below hb).touch ht (fun hl e => by have := h.loA; have := hg hl; omega), ((Touch.of_below (F := Emp) h.below).trans ((Touch.of_below (F := fun j => j = gA ∨ j = gB) hb).trans ht (fun _ h _ => h)) (fun j hj hlt => by have := h.loA; rcases hj with e | e <;> omega)).below⟩
  · rw [heap_setCell_other _ _ _ _ (by show gA ≠ gB; omega), heap_setCell_same _ _ _ _ _ _ hA]
    congr 2
    exact rowF_set _ (by unfold atV; rw [hs]) fun j _ hj => by unfold atV; rw [ho j hj]
  · rw [heap_setCell_same _ _ _ _ _ _ (by rw [heap_setCell_other _ _ _ _ (by show gB ≠ gA; omega)]; exact hB)]
    congr 2
    exact rowF_set _ (by unfold seqV; rw [hs]) fun j _ hj => by unfold seqV; rw [ho j hj]

set_option maxHeartbeats 4000000 in
theorem newest_ok {w : World} {v : Value} {l : List Fo} {g : Nat} (h : FV w v l g) (hlen : l.length ≤ 4294967296) (hr : RightL l) (seq N : Nat) (hN : ∀ x ∈ l, x.1.d < (N : Int)) (hN2 : N ≤ 1048576) :
    Calls Tryz.prog 61 #[v, .int .u64 (seq : Int), .int .i64 (N : Int)] w fun e w' =>
      (∃ gA, e = .returned (.slice (some ⟨gA, 0, none⟩) N N) ∧ w.heap.size ≤ gA ∧ w'.heap[gA]? = some (.cells (rowF N (atV l seq)) 3 (0, 0))) ∧ Below w.heap.size w w' := by
  have H := Lib.hid h
  have HR := Lib.hid hr
  have HN := Lib.hid hN
  obtain ⟨a, cap, rfl, hcap, hnil, hne⟩ := h.form
  have RP := Lib.hid (Rq.repeat_one w.heap.size N (-1) (w.alloc (.cells #[.int .i64 (-1)] 3)) hN2 (by simp))
  have hmk := fun W => make_u W N hN2
  clear h hne hnil hcap hr hN
  go_enter Tryz.func61, Tryz.ntmps61
  go_wp2_with fail
  refine RP.out.mono ?_
  rintro e w1 ⟨rfl, hrep⟩
  have hbr := hrep.below
  have hrow := hrep.row
  rw [Rq.fillR_full, rowF_rep] at hrow
  have hb1 : Below w.heap.size w w1 := ((Touch.of_below (F := Emp) ((Below.refl _ w).alloc (Nat.le_refl _) (.cells #[.int .i64 (-1)] 3))).trans (Touch.of_below (F := Emp) hbr) (fun _ h _ => h)).below
  rw [World.size_alloc] at hrow
  have HB1 := Lib.hid hb1
  have HRW := Lib.hid hrow
  have hsz : w.heap.size + 1 < w1.heap.size := lt_of_heap hrow
  clear hrep hbr hrow hb1
  go_wp2
  go_loopw [18] (fun i wr => ∃ k : Nat, k ≤ l.length ∧ i = .int .i64 k ∧ NwI w (.slice a l.length cap) l g seq N k (w.heap.size + 1) w1.heap.size wr) (fun i _ => l.length - (intOf i).toNat)
  case atStart =>
    have hb := (Below.refl w1.heap.size w1).alloc (Nat.le_refl _) (.cells (rowF N fun _ => .int .u64 0) 32)
    exact ⟨0, Nat.zero_le _, rfl, ⟨by omega, hsz, (hb.block _ hsz).trans HRW.out, heap_alloc_new w1 _, (H.out.below HB1.out).below hb, ((Touch.of_below (F := Emp) HB1.out).trans (Touch.of_below (F := Emp) hb) (fun _ h _ => h)).below⟩⟩
  case round =>
    obtain ⟨k, hk, rfl, hI⟩ := hrel
    by_cases hlt : k < l.length
    · obtain ⟨cap', e1, -, w0, w1', w2, w3, w4, w5, w6, w7⟩ := hI.fv.at hlt
      obtain ⟨rfl, rfl⟩ : a = some ⟨g, 0, none⟩ ∧ cap = cap' := by simpa using e1
      have hgs : g < wr.heap.size := World.block_lt_of_cell? wr _ w0
      have hk' : (k : Int) < (l.length : Int) := by omega
      have hin := (Tg.right_iff _).1 (HR.out _ (List.getElem_mem hlt))
      have hdN := HN.out _ (List.getElem_mem hlt)
      generalize hek : l[k] = ek at w0 w1' w2 w3 w4 w5 w6 w7 hin hdN
      have htk : l.take (k + 1) = l.take k ++ [ek] := by rw [List.take_add_one, List.getElem?_eq_getElem hlt, hek]; rfl
      obtain ⟨d, hd⟩ : ∃ d : Nat, ek.1.d = (d : Int) := ⟨ek.1.d.toNat, by omega⟩
      have hdn : (d : Int) < (N : Int) := by omega
      have hd0 : (0 : Int) ≤ (d : Int) := Int.natCast_nonneg _
      have hdn' : d < N := by omega
      have cB : wr.cell? ⟨w1.heap.size, d, none⟩ = some (.int .u64 ((bestF (l.take k) seq d).1 : Int)) := by rw [cell_of_row _ _ _ _ _ _ hI.rowB]; exact rowF_at hdn'
      have fA := frozen_of_row wr (w.heap.size + 1) d _ _ hI.rowA
      have fB := frozen_of_row wr w1.heap.size d _ _ hI.rowB
      obtain ⟨cA, hcA⟩ : ∃ z, wr.cell? ⟨w.heap.size + 1, d, none⟩ = some z := ⟨_, by rw [cell_of_row _ _ _ _ _ _ hI.rowA]; exact rowF_at hdn'⟩
      have hA := lt_of_heap hI.rowA
      have hB := lt_of_heap hI.rowB
      have hbA : Below wr.heap.size wr (wr.alloc (.cells (foV ek) 122)) := (Below.refl _ _).alloc (Nat.le_refl _) _
      have HI := Lib.hid hI
      have HTK := Lib.hid htk
      have HIN := Lib.hid hin
      have HD := Lib.hid hd
      rw [hd] at w6
      clear e1 htk hin hI hdN
      by_cases hq : ek.1.q ≤ seq
      · have hq1 : (ek.1.q : Int) ≤ (seq : Int) := by omega
        by_cases hbt : (bestF (l.take k) seq d).1 < ek.1.q
        · have hbt1 : (ek.1.q : Int) > ((bestF (l.take k) seq d).1 : Int) := by omega
          have hq2 : decide ((ek.1.q : Int) ≤ (seq : Int)) = true := by simpa using hq1
          have HB2 := Lib.hid (And.intro hq hbt)
          clear hq hbt hd
          unfold foV at *
          go_wp2_with fail
          go_quiet (fail)
          go_wp2_with fail
          go_region
          go_wp2
          obtain ⟨h1, h2⟩ := HB2.out
          exact ⟨⟨k + 1, by omega, by go_num, HI.out.store H.out.lt HTK.out HD.out h1 h2 (((Touch.refl Emp wr).alloc _).drewN _).below⟩, by simp [intOf]; omega⟩
        · have hbt1 : ¬ (ek.1.q : Int) > ((bestF (l.take k) seq d).1 : Int) := by omega
          have hq2 : decide ((ek.1.q : Int) ≤ (seq : Int)) = true := by simpa using hq1
          have HB2 := Lib.hid hbt
          clear hq hbt hd
          unfold foV at *
          go_wp2_with fail
          go_quiet (fail)
          go_wp2
          exact ⟨⟨k + 1, by omega, by go_num, HI.out.keep (((Touch.refl Emp wr).alloc _).drewN _).below fun id hid => by
            rw [HTK.out, best_snoc]
            refine if_neg fun hc => HB2.out ?_
            have e : id = d := by have := hc.1; rw [HD.out] at this; omega
            rw [← e]; exact hc.2.2⟩, by simp [intOf]; omega⟩
      · have hq1 : ¬ (ek.1.q : Int) ≤ (seq : Int) := by omega
        have hq2 : decide (ek.1.q ≤ seq) = false := by simpa using hq
        have HB2 := Lib.hid hq
        clear hq hd hq1
        unfold foV at *
        go_wp2_with fail
        go_quiet (fail)
        go_wp2
        exact ⟨⟨k + 1, by omega, by go_num, HI.out.keep (((Touch.refl Emp wr).alloc _).drewN _).below fun id hid => by
          rw [HTK.out, best_snoc]
          exact if_neg fun hc => HB2.out hc.2.1⟩, by simp [intOf]; omega⟩
    · obtain rfl : k = l.length := by omega
      have HI := Lib.hid hI
      clear hI hk
      go_wp2
      go_ret
      have h1 := HI.out.rowA
      rw [List.take_length] at h1
      exact ⟨⟨_, rfl, HI.out.loA, h1⟩, HI.out.below⟩
end Rp
end Go.Proofs.YthapggobpfcmjaaGreat

