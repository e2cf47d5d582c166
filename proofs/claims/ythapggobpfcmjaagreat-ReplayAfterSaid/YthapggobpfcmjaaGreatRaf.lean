/- ReplayAfter: what places have by batches, and its walk. -/
import Derived.Test.YthapggobpfcmjaaGreatRscC
import Derived.Test.YthapggobpfcmjaaGreatJst
import Derived.Test.YthapggobpfcmjaaGreatJmo
import Derived.Test.YthapggobpfcmjaaGreatJge
import Derived.Test.YthapggobpfcmjaaGreatJgo
import Derived.Test.YthapggobpfcmjaaGreatJfr
import Derived.Test.YthapggobpfcmjaaGreatJbl
import Derived.Test.YthapggobpfcmjaaGreatNum
import Derived.Test.YthapggobpfcmjaaGreatBit
import Derived.Test.YthapggobpfcmjaaGreatFit
import Derived.Deep.Slices
set_option maxRecDepth 100000
namespace Go.Proofs.YthapggobpfcmjaaGreat
namespace Jn
open Go.RowKit

/-- tg: the tag that was written at a place (counted on); lo: where a batch begins. -/
structure Hist (s : JSt) (t : Jou.St) (ds : DSt) (tg : Nat → Tg.T) (lo : Nat → Nat) : Prop where
  ep : s.ep = 1
  st : s.st = 1
  lo1 : lo 1 = 0
  loH : lo (s.sq + 1) = t.H
  loS : ∀ q, 1 ≤ q → q ≤ s.sq → lo q < lo (q + 1) ∧ lo (q + 1) ≤ lo q + 72
  tag : ∀ q A, 1 ≤ q → q ≤ s.sq → lo q ≤ A → A < lo (q + 1) → (tg A).e = 1 ∧ (tg A).s = 1 ∧ (tg A).q = q ∧ (tg A).f = q - 1 ∧ (tg A).i = ((A - lo q : Nat) : Int) ∧ (tg A).c = ((lo (q + 1) - lo q : Nat) : Int) ∧ 0 ≤ (tg A).d ∧ (tg A).d < (s.N : Int)
  cov : ∀ A, A < t.H → ∃ q, 1 ≤ q ∧ q ≤ s.sq ∧ lo q ≤ A ∧ A < lo (q + 1)
  dis : ∀ A B, A < t.H → B < t.H → (tg A).q = (tg B).q → (tg A).d = (tg B).d → A = B
  look : ∀ A, A < t.H → t.H ≤ A + s.P → ∃ l, l.length = 480 ∧ ds.look (A % s.P + 1) = (0, Tg.enc (tg A) l)
  zero : ∀ p, p < s.P → t.H ≤ p → ds.look (p + 1) = (0, zerosL 512)
  at1 : ∀ id A, t.at_ id = some A → A < t.H ∧ (tg A).d = (id : Int)
  at2 : ∀ B, B < t.H → ∃ A, t.at_ (tg B).d.toNat = some A ∧ B ≤ A

theorem Hist.start (P N n : Nat) (o : Nat → Option Nat) (hn : P + 1 ≤ n) : Hist (s0 P 1 1 0 0 0 N (fun _ => none) o) ⟨0, 0, 0, fun _ => none⟩ (DSt.new n) (fun _ => ⟨0, 0, 0, 0, 0, 0, 0⟩) (fun _ => 0) := by
  refine ⟨rfl, rfl, rfl, rfl, fun q h1 h2 => ?_, fun q A h1 h2 => ?_, fun A hA => absurd hA (by simp), fun A B hA => absurd hA (by simp), fun A hA => absurd hA (by simp), fun p hp _ => Rp.new_look n (p + 1) (by have : p < P := hp; omega), fun id A h => by simp at h, fun B hB => absurd hB (by simp)⟩
  · have : q ≤ 0 := h2
    omega
  · have : q ≤ 0 := h2
    omega
section
variable {s s' : JSt} {t t' : Jou.St} {ds ds' : DSt} {tg : Nat → Tg.T} {lo : Nat → Nat}
theorem Hist.mono (h : Hist s t ds tg lo) {q r : Nat} (h1 : 1 ≤ q) (hqr : q ≤ r) (h2 : r ≤ s.sq + 1) : lo q ≤ lo r := by
  induction r with
  | zero => omega
  | succ r ih =>
    by_cases e : q = r + 1
    · rw [e]; exact Nat.le_refl _
    · have := ih (by omega) (by omega)
      have := (h.loS r (by omega) (by omega)).1
      omega
theorem Hist.strict (h : Hist s t ds tg lo) {q r : Nat} (h1 : 1 ≤ q) (hqr : q < r) (h2 : r ≤ s.sq + 1) : lo q < lo r := by
  have h3 := (h.loS q h1 (by omega)).1
  have h4 := h.mono (q := q + 1) (r := r) (by omega) (by omega) h2
  omega
/-- The batch of a place, by its tag. -/
theorem Hist.at (h : Hist s t ds tg lo) {A : Nat} (hA : A < t.H) : 1 ≤ (tg A).q ∧ (tg A).q ≤ s.sq ∧ lo (tg A).q ≤ A ∧ A < lo ((tg A).q + 1) := by
  obtain ⟨q, h1, h2, h3, h4⟩ := h.cov A hA
  have := (h.tag q A h1 h2 h3 h4).2.2.1
  rw [this]
  exact ⟨h1, h2, h3, h4⟩
theorem Hist.right (h : Hist s t ds tg lo) (hq : s.sq ≤ 281474976710655) (hN : s.N ≤ 3840) {A : Nat} (hA : A < t.H) : Tg.rightB (tg A) = true ∧ (tg A).e < 4294967296 := by
  obtain ⟨h1, h2, h3, h4⟩ := h.at hA
  obtain ⟨a1, a2, a3, a4, a5, a6, a7, a8⟩ := h.tag _ A h1 h2 h3 h4
  have h5 := h.loS _ h1 h2
  rw [Tg.right_iff]
  refine ⟨⟨by omega, by omega, by omega, by omega, by omega, by omega, by omega, by omega, by omega, a7, by omega⟩, by omega⟩

theorem Hist.step (h : Hist s t ds tg lo) (hl : Live s t) (hP : 1 ≤ s.P) (hw : Wrote s t ds s' t' ds') (hu : ds.Up) :
    ∃ tg' lo', Hist s' t' ds' tg' lo' ∧ (∀ A, A < t.H → tg' A = tg A) ∧ ∀ q, q ≤ s.sq + 1 → lo' q = lo q := by
  obtain ⟨L, c, m, rfl, rfl, rfl, hE, hroom, hnd, hn1, hn2, hc⟩ := hw
  have hidl : (idsN L).length = L.length := by simp [idsN]
  have hH : (nextT t c (idsN L)).H = t.H + L.length := by show t.H + (idsN L).length = _; rw [hidl]
  have hhd := hl.head
  let tg' : Nat → Tg.T := fun A => if A < t.H then tg A else match L[A - t.H]? with | some e => tagI s L.length (A - t.H) e.id | none => tg A
  let lo' : Nat → Nat := fun q => if q ≤ s.sq + 1 then lo q else t.H + L.length
  have told : ∀ A, A < t.H → tg' A = tg A := fun A hA => if_pos hA
  have tnew : ∀ k (hk : k < L.length), tg' (t.H + k) = tagI s L.length k L[k].id := fun k hk => by
    show (if t.H + k < t.H then _ else _) = _
    rw [if_neg (by omega), show t.H + k - t.H = k by omega, List.getElem?_eq_getElem hk]
  have lold : ∀ q, q ≤ s.sq + 1 → lo' q = lo q := fun q hq => if_pos hq
  have lnew : lo' (s.sq + 1 + 1) = t.H + L.length := if_neg (by omega)
  have hsq : (after s L c).sq = s.sq + 1 := rfl
  have loL : lo' (s.sq + 1) = t.H := (lold _ (Nat.le_refl _)).trans h.loH
  have upto : ∀ q, 1 ≤ q → q ≤ s.sq → lo (q + 1) ≤ t.H := fun q h1 h2 => by rw [← h.loH]; exact h.mono (by omega) (by omega) (Nat.le_refl _)
  have newA : ∀ A, t.H ≤ A → A < t.H + L.length → ∃ k, ∃ hk : k < L.length, A = t.H + k := fun A h1 h2 => ⟨A - t.H, by omega, by omega⟩
  have hids : ∀ k (hk : k < L.length), (idsN L)[k]? = some L[k].id.toNat := fun k hk => by simp [idsN, hk]
  have hidx : ∀ k (hk : k < L.length), (idsN L).idxOf L[k].id.toNat = k := fun k hk => by
    obtain ⟨h1, h2⟩ := List.getElem?_eq_some_iff.1 (hids k hk)
    rw [← h2]; exact hnd.idxOf_getElem k h1
  have lk : ∀ a, (((DSt.more ds.flush m).puts (putsU s L L.length)).look a) = match lastW (putsU s L L.length) a with | some l => (0, l) | none => ds.look a := fun a => by
    rw [DSt.look_puts, more_look, hu.flush_look]
    cases lastW (putsU s L L.length) a <;> rfl
  have lkN : ∀ k (hk : k < L.length), ((DSt.more ds.flush m).puts (putsU s L L.length)).look ((t.H + k) % s.P + 1) = (0, Tg.enc (tagI s L.length k L[k].id) L[k].l) := fun k hk => by
    have hkp : k < (putsU s L L.length).length := by rw [putsU_len]; exact hk
    have hlw := lastW_at (putsU_nodup s L (by omega)) hkp
    have hput : (putsU s L L.length)[k] = ((s.head + k) % s.P + 1, Tg.enc (tagI s L.length k L[k].id) L[k].l) := by simp [putsU, putI, hk]
    rw [hput] at hlw
    simp only at hlw
    rw [show (t.H + k) % s.P = (s.head + k) % s.P by rw [hhd, Nat.mod_add_mod], lk, hlw]
  have lkO : ∀ p, (∀ k, k < L.length → (t.H + k) % s.P ≠ p) → ((DSt.more ds.flush m).puts (putsU s L L.length)).look (p + 1) = ds.look (p + 1) := fun p hp => by
    have hln : lastW (putsU s L L.length) (p + 1) = none := lastW_none fun x hx' he => by
      have : x.1 ∈ (putsU s L L.length).map (·.1) := List.mem_map_of_mem hx'
      rw [putsU_fst s L _ (Nat.le_refl _)] at this
      obtain ⟨i, hi, hie⟩ := List.mem_map.1 this
      have hi' := List.mem_range.1 hi
      refine hp i hi' ?_
      rw [show (t.H + i) % s.P = (s.head + i) % s.P by rw [hhd, Nat.mod_add_mod]]
      omega
    rw [lk, hln]
  refine ⟨tg', lo', ⟨h.ep, h.st, (lold 1 (by omega)).trans h.lo1, ?_, fun q h1 h2 => ?_, fun q A h1 h2 h3 h4 => ?_, fun A hA => ?_, fun A B hA hB hq hd => ?_, fun A hA hw => ?_, fun p hp hge => ?_, fun id A ha => ?_, fun B hB => ?_⟩, told, lold⟩
  · rw [hsq, hH]; exact lnew
  · rw [hsq] at h2
    by_cases e : q = s.sq + 1
    · subst e; rw [lnew, loL]; omega
    · rw [lold q (by omega), lold (q + 1) (by omega)]; exact h.loS q h1 (by omega)
  · rw [hsq] at h2
    by_cases e : q = s.sq + 1
    · subst e
      rw [lnew] at h4
      rw [loL] at h3
      obtain ⟨k, hk, rfl⟩ := newA A h3 h4
      have hEk := hE L[k] (List.getElem_mem _)
      rw [tnew k hk, lnew, loL]
      refine ⟨h.ep, h.st, rfl, rfl, ?_, ?_, hEk.1, hEk.2.1⟩
      · show ((k : Nat) : Int) = _; congr 1; omega
      · show ((L.length : Nat) : Int) = _; congr 1; omega
    · rw [lold q (by omega)] at h3 ⊢
      rw [lold (q + 1) (by omega)] at h4 ⊢
      have := upto q h1 (by omega)
      rw [told A (by omega)]
      exact h.tag q A h1 (by omega) h3 h4
  · rw [hH] at hA
    by_cases e : A < t.H
    · obtain ⟨q, h1, h2, h3, h4⟩ := h.cov A e
      exact ⟨q, h1, by rw [hsq]; omega, by rw [lold q (by omega)]; exact h3, by rw [lold (q + 1) (by omega)]; exact h4⟩
    · exact ⟨s.sq + 1, by omega, Nat.le_refl _, by rw [loL]; omega, by rw [lnew]; omega⟩
  · rw [hH] at hA hB
    by_cases eA : A < t.H <;> by_cases eB : B < t.H
    · rw [told A eA, told B eB] at hq hd
      exact h.dis A B eA eB hq hd
    · obtain ⟨k, hk, rfl⟩ := newA B (by omega) hB
      rw [told A eA, tnew k hk] at hq
      have h1 := (h.at eA).2.1
      have h2 : (tg A).q = s.sq + 1 := hq
      omega
    · obtain ⟨k, hk, rfl⟩ := newA A (by omega) hA
      rw [told B eB, tnew k hk] at hq
      have h1 := (h.at eB).2.1
      have h2 : s.sq + 1 = (tg B).q := hq
      omega
    · obtain ⟨k, hk, rfl⟩ := newA A (by omega) hA
      obtain ⟨j, hj, rfl⟩ := newA B (by omega) hB
      rw [tnew k hk, tnew j hj] at hd
      have hd' : L[k].id = L[j].id := hd
      have h1 := hidx k hk
      have h2 := hidx j hj
      rw [hd'] at h1
      omega
  · rw [hH] at hA hw
    have hw' : t.H + L.length ≤ A + s.P := hw
    by_cases e : A < t.H
    · obtain ⟨l, hl1, hl2⟩ := h.look A e (by omega)
      refine ⟨l, hl1, ?_⟩
      rw [told A e, ← hl2]
      refine lkO _ fun k hk he => ?_
      have := mod_eq he (by omega) (by show A < t.H + k + s.P; omega)
      omega
    · obtain ⟨k, hk, rfl⟩ := newA A (by omega) hA
      rw [tnew k hk]
      exact ⟨L[k].l, (hE L[k] (List.getElem_mem _)).2.2, lkN k hk⟩
  · rw [hH] at hge
    have hp' : p < s.P := hp
    rw [← h.zero p hp (by omega)]
    refine lkO p fun k hk he => ?_
    rw [Nat.mod_eq_of_lt (by omega)] at he
    omega
  · rw [hH]
    have ha' : (if id ∈ idsN L then some (t.H + (idsN L).idxOf id) else t.at_ id) = some A := ha
    by_cases hid : id ∈ idsN L
    · rw [if_pos hid] at ha'
      obtain ⟨hk, hke⟩ := ids_idx hid
      obtain rfl := Option.some.inj ha'
      refine ⟨by omega, ?_⟩
      rw [tnew _ hk]
      show L[(idsN L).idxOf id].id = _
      have := (hE L[(idsN L).idxOf id] (List.getElem_mem _)).1
      omega
    · rw [if_neg hid] at ha'
      obtain ⟨h1, h2⟩ := h.at1 id A ha'
      exact ⟨by omega, by rw [told A h1]; exact h2⟩
  · rw [hH] at hB
    show ∃ A, (if (tg' B).d.toNat ∈ idsN L then some (t.H + (idsN L).idxOf (tg' B).d.toNat) else t.at_ (tg' B).d.toNat) = some A ∧ B ≤ A
    by_cases e : B < t.H
    · by_cases hid : (tg' B).d.toNat ∈ idsN L
      · rw [if_pos hid]; exact ⟨_, rfl, by omega⟩
      · rw [if_neg hid, told B e]; exact h.at2 B e
    · obtain ⟨k, hk, rfl⟩ := newA B (by omega) hB
      rw [tnew k hk]
      have hm : (tagI s L.length k L[k].id).d.toNat ∈ idsN L := by
        have := List.mem_of_getElem? (hids k hk)
        exact this
      rw [if_pos hm]
      exact ⟨_, rfl, by have := hidx k hk; show t.H + k ≤ t.H + (idsN L).idxOf L[k].id.toNat; omega⟩
end
end Jn
end Go.Proofs.YthapggobpfcmjaaGreat

set_option maxRecDepth 100000
namespace Go.Proofs.YthapggobpfcmjaaGreat
namespace Jn
open Go.RowKit Rp

theorem fold_max (f : Fo → Nat) (l : List Fo) (m : Nat) (h1 : ∀ x ∈ l, f x ≤ m) (h2 : m = 0 ∨ ∃ x ∈ l, f x = m) : l.foldl (fun e x => max e (f x)) 0 = m := by
  have up : ∀ l : List Fo, (∀ x ∈ l, f x ≤ m) → l.foldl (fun e x => max e (f x)) 0 ≤ m := fun l => by
    induction l using snoc_ind with
    | nil => exact fun _ => Nat.zero_le _
    | snoc l x ih => intro h; rw [List.foldl_append]; have := ih fun y hy => h y (by simp [hy]); have := h x (by simp); show max _ _ ≤ _; omega
  have lowr : ∀ l : List Fo, ∀ x ∈ l, f x ≤ l.foldl (fun e x => max e (f x)) 0 := fun l => by
    induction l using snoc_ind with
    | nil => intro x hx; simp at hx
    | snoc l y ih =>
      intro x hx
      rw [List.foldl_append]
      show _ ≤ max _ _
      rcases List.mem_append.1 hx with h | h
      · have := ih x h; omega
      · rw [List.mem_singleton.1 h]; omega
  have := up l h1
  rcases h2 with h | ⟨x, hx, h⟩
  · omega
  · have := lowr l x hx; omega
theorem true_all {l : List Fo} {k : Nat} (h : ∀ x ∈ l, x.1.e = k) : trueL l = l := by
  unfold trueL
  rw [List.filter_eq_self]
  intro x hx
  rw [show staleB l x.1 = false from stale_not.2 fun y hy hlt => by have := h x hx; have := h y hy; omega]; rfl
/-- Of several values the greatest one. -/
theorem head_max {l : List Fo} {seq P : Nat} {x : Fo} (hx : x ∈ l) (hq : x.1.q = seq) (h0 : 0 ≤ x.1.i) (hm : ∀ y ∈ l, y.1.q = seq → y.1.i ≤ x.1.i ∧ (y.1.i = x.1.i → y = x)) : headF l seq P = (((x.2 : Int) + (x.1.c - x.1.i)) % (P : Int), x.1.i) := by
  have inv : ∀ l : List Fo, (∀ y ∈ l, y.1.q = seq → y.1.i ≤ x.1.i ∧ (y.1.i = x.1.i → y = x)) → (headF l seq P).2 ≤ x.1.i ∧ ((headF l seq P).2 = x.1.i → headF l seq P = (((x.2 : Int) + (x.1.c - x.1.i)) % (P : Int), x.1.i)) ∧ (x ∈ l → (headF l seq P).2 = x.1.i) := fun l => by
    induction l using snoc_ind with
    | nil => intro _; exact ⟨by show (-1 : Int) ≤ _; omega, fun h => by have : (-1 : Int) = x.1.i := h; omega, fun h => by simp at h⟩
    | snoc l z ih =>
      intro h
      obtain ⟨i1, i2, i3⟩ := ih fun y hy => h y (by simp [hy])
      rw [head_snoc]
      by_cases hz : z.1.q = seq ∧ (headF l seq P).2 < z.1.i
      · rw [if_pos hz]
        obtain ⟨z1, z2⟩ := h z (by simp) hz.1
        refine ⟨z1, fun e => ?_, fun hm => ?_⟩
        · have := z2 e; subst this; rfl
        · rcases List.mem_append.1 hm with h' | h'
          · have := i3 h'; show z.1.i = _; omega
          · rw [List.mem_singleton.1 h']
      · rw [if_neg hz]
        refine ⟨i1, i2, fun hm => ?_⟩
        rcases List.mem_append.1 hm with h' | h'
        · exact i3 h'
        · have e := List.mem_singleton.1 h'
          subst e
          have : ¬ (headF l seq P).2 < x.1.i := fun h => hz ⟨hq, h⟩
          omega
  obtain ⟨-, i2, i3⟩ := inv l hm
  exact i2 (i3 hx)
theorem best_none {l : List Fo} {seq id : Nat} (h : ∀ x ∈ l, x.1.d = (id : Int) → x.1.q ≤ seq → False) : bestF l seq id = (0, -1) := by
  induction l using snoc_ind with
  | nil => rfl
  | snoc l x ih =>
    rw [best_snoc, if_neg fun hc => h x (by simp) hc.1 hc.2.1]
    exact ih fun y hy => h y (by simp [hy])
theorem best_max {l : List Fo} {seq id : Nat} {x : Fo} (hx : x ∈ l) (hd : x.1.d = (id : Int)) (hq : x.1.q ≤ seq) (h0 : 1 ≤ x.1.q) (hm : ∀ y ∈ l, y.1.d = (id : Int) → y.1.q ≤ seq → y.1.q ≤ x.1.q ∧ (y.1.q = x.1.q → y = x)) : bestF l seq id = (x.1.q, (x.2 : Int)) := by
  have inv : ∀ l : List Fo, (∀ y ∈ l, y.1.d = (id : Int) → y.1.q ≤ seq → y.1.q ≤ x.1.q ∧ (y.1.q = x.1.q → y = x)) → (bestF l seq id).1 ≤ x.1.q ∧ ((bestF l seq id).1 = x.1.q → bestF l seq id = (x.1.q, (x.2 : Int))) ∧ (x ∈ l → (bestF l seq id).1 = x.1.q) := fun l => by
    induction l using snoc_ind with
    | nil => intro _; exact ⟨Nat.zero_le _, fun h => by have : 0 = x.1.q := h; omega, fun h => by simp at h⟩
    | snoc l z ih =>
      intro h
      obtain ⟨i1, i2, i3⟩ := ih fun y hy => h y (by simp [hy])
      rw [best_snoc]
      by_cases hz : z.1.d = (id : Int) ∧ z.1.q ≤ seq ∧ (bestF l seq id).1 < z.1.q
      · rw [if_pos hz]
        obtain ⟨z1, z2⟩ := h z (by simp) hz.1 hz.2.1
        refine ⟨z1, fun e => ?_, fun hm => ?_⟩
        · have := z2 e; subst this; rfl
        · rcases List.mem_append.1 hm with h' | h'
          · have := i3 h'; show z.1.q = _; omega
          · rw [List.mem_singleton.1 h']
      · rw [if_neg hz]
        refine ⟨i1, i2, fun hm => ?_⟩
        rcases List.mem_append.1 hm with h' | h'
        · exact i3 h'
        · have e := List.mem_singleton.1 h'
          subst e
          have : ¬ (bestF l seq id).1 < x.1.q := fun h => hz ⟨hd, hq, h⟩
          omega
  obtain ⟨-, i2, i3⟩ := inv l hm
  exact i2 (i3 hx)
theorem span_le {A : List Int} {head : Int} {P : Nat} {u : Int} (h0 : 0 ≤ u) (h : ∀ p ∈ A, p ≠ -1 → (head - 1 - p) % (P : Int) + 1 ≤ u) : spanF A head P ≤ u := by
  induction A using snoc_ind with
  | nil => exact h0
  | snoc A p ih =>
    have := ih fun y hy => h y (by simp [hy])
    rw [span_snoc]
    split
    · exact this
    · rename_i hp; have := h p (by simp) hp; omega

/-- What is found are the tags of the places S. -/
def Cont (l : List Fo) (tg : Nat → Tg.T) (P : Nat) (S : Nat → Prop) : Prop := ∀ x, x ∈ l ↔ ∃ A, S A ∧ x = (tg A, A % P)
section
variable {s : JSt} {t : Jou.St} {ds : DSt} {tg : Nat → Tg.T} {lo : Nat → Nat}
theorem found_mem (h : Hist s t ds tg lo) (hP : 1 ≤ s.P) (hq : s.sq ≤ 281474976710655) (hN : s.N ≤ 3840) : Cont (foundL ds s.N s.P) tg s.P fun A => A < t.H ∧ t.H ≤ A + s.P := by
  have at_ : ∀ A, A < t.H → t.H ≤ A + s.P → foundAt ds s.N (A % s.P) = some (tg A, A % s.P) := fun A h1 h2 => by
    obtain ⟨l, hl, hk⟩ := h.look A h1 h2
    obtain ⟨r1, r2⟩ := h.right hq hN h1
    obtain ⟨b1, b2, b3, b4⟩ := h.at h1
    have hd := (h.tag _ A b1 b2 b3 b4).2.2.2.2.2.2.2
    unfold foundAt
    rw [hk]
    simp only [Tg.dec_enc _ l r1 r2, Tg.told_enc _ l r1 r2]
    rw [if_pos ⟨trivial, trivial, hd⟩]
  intro x
  unfold foundL
  rw [List.mem_filterMap]
  constructor
  · rintro ⟨p, hp, hf⟩
    have hp' : p < s.P := by simpa using hp
    by_cases hz : t.H ≤ p
    · unfold foundAt at hf
      rw [h.zero p hp' hz, zeros_dec] at hf
      simp at hf
    · have hm : (t.H - 1 - p) % s.P < s.P := Nat.mod_lt _ hP
      have hdm := Nat.div_add_mod (t.H - 1 - p) s.P
      have hA : (t.H - 1 - (t.H - 1 - p) % s.P) % s.P = p := by
        have e : t.H - 1 - (t.H - 1 - p) % s.P = p + s.P * ((t.H - 1 - p) / s.P) := by
          generalize s.P * ((t.H - 1 - p) / s.P) = K at hdm ⊢
          omega
        rw [e, Nat.add_mul_mod_self_left, Nat.mod_eq_of_lt hp']
      have h3 : (t.H - 1 - p) % s.P ≤ t.H - 1 - p := Nat.mod_le _ _
      have := at_ (t.H - 1 - (t.H - 1 - p) % s.P) (by omega) (by omega)
      rw [hA, hf] at this
      exact ⟨t.H - 1 - (t.H - 1 - p) % s.P, ⟨by omega, by omega⟩, by rw [hA]; exact Option.some.inj this⟩
  · rintro ⟨A, ⟨h1, h2⟩, rfl⟩
    exact ⟨A % s.P, by simpa using Nat.mod_lt A hP, at_ A h1 h2⟩

section
variable {l : List Fo} {S : Nat → Prop} (hC : Cont l tg s.P S) (h : Hist s t ds tg lo) (hS : ∀ A, S A → A < t.H)
include hC h hS
theorem cont_e : ∀ x ∈ l, x.1.e = 1 := fun x hx => by
  obtain ⟨A, hA, rfl⟩ := (hC x).1 hx
  obtain ⟨b1, b2, b3, b4⟩ := h.at (hS A hA)
  exact (h.tag _ A b1 b2 b3 b4).1
theorem cont_whole (q : Nat) : Whole l q ↔ 1 ≤ q ∧ q ≤ s.sq ∧ ∀ A, lo q ≤ A → A < lo (q + 1) → S A := by
  constructor
  · rintro ⟨x, hx, hc, hk⟩
    obtain ⟨hxl, hxq⟩ := List.mem_filter.1 hx
    obtain ⟨A, hA, rfl⟩ := (hC x).1 hxl
    obtain ⟨b1, b2, b3, b4⟩ := h.at (hS A hA)
    have hxq' : (tg A).q = q := by simpa using hxq
    rw [hxq'] at b1 b2 b3 b4
    refine ⟨b1, b2, fun B hB1 hB2 => ?_⟩
    have ht := h.tag q A b1 b2 b3 b4
    obtain ⟨y, hy, hyi⟩ := hk (B - lo q) (by show _ < (tg A).c; rw [ht.2.2.2.2.2.1]; omega)
    obtain ⟨hyl, hyq⟩ := List.mem_filter.1 hy
    obtain ⟨B', hB', rfl⟩ := (hC y).1 hyl
    obtain ⟨c1, c2, c3, c4⟩ := h.at (hS B' hB')
    have hyq' : (tg B').q = q := by simpa using hyq
    rw [hyq'] at c1 c2 c3 c4
    have ht' := (h.tag q B' c1 c2 c3 c4).2.2.2.2.1
    have hyi' : (tg B').i = ((B - lo q : Nat) : Int) := hyi
    have : B' = B := by omega
    rwa [this] at hB'
  · rintro ⟨h1, h2, h3⟩
    have hlo := h.loS q h1 h2
    have mem : ∀ A, lo q ≤ A → A < lo (q + 1) → (tg A, A % s.P) ∈ batL l q := fun A a1 a2 => List.mem_filter.2 ⟨(hC _).2 ⟨A, h3 A a1 a2, rfl⟩, by simpa using (h.tag q A h1 h2 a1 a2).2.2.1⟩
    have ht := h.tag q (lo q) h1 h2 (Nat.le_refl _) hlo.1
    refine ⟨_, mem (lo q) (Nat.le_refl _) hlo.1, fun y hy => ?_, fun k hk => ?_⟩
    · obtain ⟨hyl, hyq⟩ := List.mem_filter.1 hy
      obtain ⟨B, hB, rfl⟩ := (hC y).1 hyl
      obtain ⟨c1, c2, c3, c4⟩ := h.at (hS B hB)
      have hyq' : (tg B).q = q := by simpa using hyq
      rw [hyq'] at c1 c2 c3 c4
      show (tg B).c = (tg (lo q)).c
      rw [(h.tag q B c1 c2 c3 c4).2.2.2.2.2.1, ht.2.2.2.2.2.1]
    · have hk' : (k : Int) < (tg (lo q)).c := hk
      rw [ht.2.2.2.2.2.1] at hk'
      refine ⟨_, mem (lo q + k) (by omega) (by omega), ?_⟩
      show (tg (lo q + k)).i = _
      rw [(h.tag q (lo q + k) h1 h2 (by omega) (by omega)).2.2.2.2.1]
      congr 1; omega
omit hC hS in
theorem q_mono {A B : Nat} (hAB : A ≤ B) (hB : B < t.H) : (tg A).q ≤ (tg B).q := by
  obtain ⟨a1, a2, a3, a4⟩ := h.at (show A < t.H by omega)
  obtain ⟨b1, b2, b3, b4⟩ := h.at hB
  refine Classical.byContradiction fun hc => ?_
  have := h.mono (q := (tg B).q + 1) (r := (tg A).q) (by omega) (by omega) (by omega)
  omega
theorem cont_best {seq id A : Nat} (hA : S A) (hd : (tg A).d = (id : Int)) (hq : (tg A).q ≤ seq) (hm : ∀ B, S B → (tg B).d = (id : Int) → (tg B).q ≤ seq → B ≤ A) : bestF l seq id = ((tg A).q, ((A % s.P : Nat) : Int)) := by
  refine best_max (x := (tg A, A % s.P)) ((hC _).2 ⟨A, hA, rfl⟩) hd hq (h.at (hS A hA)).1 fun y hy hyd hyq => ?_
  obtain ⟨B, hB, rfl⟩ := (hC y).1 hy
  have hBA := hm B hB hyd hyq
  refine ⟨q_mono h hBA (hS A hA), fun e => ?_⟩
  have := h.dis B A (hS B hB) (hS A hA) e (by rw [hd]; exact hyd)
  rw [this]
theorem cont_head {q : Nat} (h1 : 1 ≤ q) (h2 : q ≤ s.sq) (hA : S (lo (q + 1) - 1)) : (headF l q s.P).1 = ((lo (q + 1) % s.P : Nat) : Int) := by
  have hlo := h.loS q h1 h2
  have ht := h.tag q (lo (q + 1) - 1) h1 h2 (by omega) (by omega)
  have := head_max (P := s.P) (x := (tg (lo (q + 1) - 1), (lo (q + 1) - 1) % s.P)) ((hC _).2 ⟨_, hA, rfl⟩) (seq := q) ht.2.2.1 (by show 0 ≤ (tg _).i; rw [ht.2.2.2.2.1]; omega) fun y hy hyq => by
    obtain ⟨B, hB, rfl⟩ := (hC y).1 hy
    obtain ⟨c1, c2, c3, c4⟩ := h.at (hS B hB)
    have hyq' : (tg B).q = q := hyq
    rw [hyq'] at c1 c2 c3 c4
    have ht' := h.tag q B c1 c2 c3 c4
    refine ⟨by show (tg B).i ≤ (tg _).i; rw [ht'.2.2.2.2.1, ht.2.2.2.2.1]; omega, fun e => ?_⟩
    have e' : (tg B).i = (tg (lo (q + 1) - 1)).i := e
    rw [ht'.2.2.2.2.1, ht.2.2.2.2.1] at e'
    have : B = lo (q + 1) - 1 := by omega
    rw [this]
  rw [this]
  show (((lo (q + 1) - 1) % s.P : Nat) + ((tg (lo (q + 1) - 1)).c - (tg (lo (q + 1) - 1)).i) : Int) % (s.P : Int) = _
  rw [ht.2.2.2.2.2.1, ht.2.2.2.2.1]
  have e : (((lo (q + 1) - 1) % s.P : Nat) : Int) + (((lo (q + 1) - lo q : Nat) : Int) - ((lo (q + 1) - 1 - lo q : Nat) : Int)) = (((lo (q + 1) - 1) % s.P + 1 : Nat) : Int) := by omega
  rw [e, show (((lo (q + 1) - 1) % s.P + 1 : Nat) : Int) % (s.P : Int) = ((((lo (q + 1) - 1) % s.P + 1) % s.P : Nat) : Int) from rfl, Nat.mod_add_mod, show lo (q + 1) - 1 + 1 = lo (q + 1) by omega]
end
end
end Jn
end Go.Proofs.YthapggobpfcmjaaGreat

set_option maxRecDepth 100000
namespace Go.Proofs.YthapggobpfcmjaaGreat
namespace Jn
open Go.RowKit Rp

theorem far_back {H A P : Nat} (h1 : A < H) (h2 : H ≤ A + P) : (((H % P : Nat) : Int) - 1 - ((A % P : Nat) : Int)) % (P : Int) = ((H - 1 - A : Nat) : Int) := by
  have e1 := Nat.div_add_mod H P
  have e2 := Nat.div_add_mod A P
  have e1' : (P : Int) * ((H / P : Nat) : Int) + ((H % P : Nat) : Int) = (H : Int) := by exact_mod_cast e1
  have e2' : (P : Int) * ((A / P : Nat) : Int) + ((A % P : Nat) : Int) = (A : Int) := by exact_mod_cast e2
  have e3 : ((H % P : Nat) : Int) - 1 - ((A % P : Nat) : Int) = ((H - 1 - A : Nat) : Int) + (P : Int) * (((A / P : Nat) : Int) - ((H / P : Nat) : Int)) := by
    rw [Int.mul_sub]
    omega
  rw [e3, Int.add_mul_emod_self_left, Int.emod_eq_of_lt (by omega) (by omega)]
section
variable {s : JSt} {t : Jou.St} {ds : DSt} {tg : Nat → Tg.T} {lo : Nat → Nat}
/-- Where the blocks are, as the tags of S tell it: as they are. -/
theorem cont_at {l : List Fo} {S : Nat → Prop} (hC : Cont l tg s.P S) (h : Hist s t ds tg lo) (hS : ∀ A, S A → A < t.H) (hl : Live s t) (hin : ∀ id A, t.at_ id = some A → S A) (id : Nat) : (bestF l s.sq id).2 = Tb.enc (s.a id) := by
  rw [hl.a]
  cases ha : t.at_ id with
  | some A =>
    obtain ⟨h1, h2⟩ := h.at1 id A ha
    have := cont_best hC h hS (hin id A ha) h2 (h.at h1).2.1 fun B hB hd _ => by
      obtain ⟨A', e1, e2⟩ := h.at2 B (hS B hB)
      rw [hd, Int.toNat_natCast, ha] at e1
      rw [Option.some.inj e1]; exact e2
    rw [this]; rfl
  | none =>
    rw [best_none fun x hx hd _ => by
      obtain ⟨B, hB, rfl⟩ := (hC x).1 hx
      obtain ⟨A', e1, -⟩ := h.at2 B (hS B hB)
      have hd' : (tg B).d = (id : Int) := hd
      rw [hd', Int.toNat_natCast, ha] at e1
      cases e1]
    rfl
theorem cont_span {l : List Fo} {S : Nat → Prop} (hC : Cont l tg s.P S) (h : Hist s t ds tg lo) (hS : ∀ A, S A → A < t.H) (hl : Live s t) (hin : ∀ id A, t.at_ id = some A → S A) (hu : s.used ≤ s.P) : spanF (atL l s.sq s.N) ((t.H % s.P : Nat) : Int) s.P ≤ (s.used : Int) := by
  refine span_le (by omega) fun p hp hne => ?_
  obtain ⟨id, -, rfl⟩ := List.mem_map.1 hp
  rw [cont_at hC h hS hl hin id] at hne ⊢
  rw [hl.a] at hne ⊢
  have hus := hl.used
  cases ha : t.at_ id with
  | some A =>
    have h1 := hl.inv.used id A ha
    show (((t.H % s.P : Nat) : Int) - 1 - ((A % s.P : Nat) : Int)) % (s.P : Int) + 1 ≤ _
    rw [far_back h1.2 (by omega)]
    omega
  | none => rw [ha] at hne; exact absurd rfl hne
/-- Of a journal that has written something, and whose device has lost nothing. -/
theorem told_after {w w' : World} {e : Ending} (h : Hist s t ds tg lo) (hl : Live s t) (hP : 72 ≤ s.P) (hP2 : s.used ≤ s.P) (hq1 : 1 ≤ s.sq) (hq : s.sq < 281474976710655) (hN : s.N ≤ 3840) (ht : Rp.Told w w' e (foundL ds s.N s.P) s.P s.N) :
    ∃ (g : Nat) (us : Int), e = .returned (.tuple #[stA 2 (s.sq + 1) s.sq (s.head : Int) us (.slice (some ⟨g, 0, none⟩) s.N s.N), .int .i64 0]) ∧ us ≤ (s.used : Int) ∧ w.heap.size ≤ g ∧ w'.heap[g]? = some (.cells (Tb.rowT s.N s.a).toArray 3 (0, 0)) := by
  have hC := found_mem h (by omega) (by omega) hN
  have hS : ∀ A, (A < t.H ∧ t.H ≤ A + s.P) → A < t.H := fun A hA => hA.1
  have hus := hl.used
  have hin : ∀ id A, t.at_ id = some A → (A < t.H ∧ t.H ≤ A + s.P) := fun id A ha => by
    have := hl.inv.used id A ha
    exact ⟨this.2, by omega⟩
  have hlast := h.loS s.sq hq1 (Nat.le_refl _)
  have hloH := h.loH
  have htr := true_all (cont_e hC h hS)
  have ht1 := h.tag s.sq (t.H - 1) hq1 (Nat.le_refl _) (by omega) (by omega)
  have hm1 : (tg (t.H - 1), (t.H - 1) % s.P) ∈ foundL ds s.N s.P := (hC _).2 ⟨t.H - 1, ⟨by omega, by omega⟩, rfl⟩
  have hfl : floorM (foundL ds s.N s.P) = s.sq - 1 := fold_max (fun x => x.1.f) _ _ (fun x hx => by
    obtain ⟨A, hA, rfl⟩ := (hC x).1 hx
    obtain ⟨b1, b2, b3, b4⟩ := h.at hA.1
    have := (h.tag _ A b1 b2 b3 b4).2.2.2.1
    show (tg A).f ≤ s.sq - 1
    omega) (.inr ⟨_, hm1, ht1.2.2.2.1⟩)
  have hep : epochM (foundL ds s.N s.P) = 1 := fold_max (fun x => x.1.e) _ _ (fun x hx => by rw [cont_e hC h hS x hx]; exact Nat.le_refl _) (.inr ⟨_, hm1, ht1.1⟩)
  have hw : Whole (foundL ds s.N s.P) s.sq := (cont_whole hC h hS s.sq).2 ⟨hq1, Nat.le_refl _, fun A h1 h2 => ⟨by omega, by omega⟩⟩
  obtain ⟨seq, hs, ht⟩ := ht
  have hseq : seq = s.sq := by
    unfold SeqOf at hs
    rw [htr, hfl, Nat.sub_add_cancel hq1] at hs
    rcases hs with ⟨-, hn⟩ | ⟨hs, -⟩
    · exact absurd hw hn
    · exact hs
  subst hseq
  rw [htr, hep] at ht
  have hhd := cont_head hC h hS hq1 (Nat.le_refl _) (show (lo (s.sq + 1) - 1 < t.H ∧ t.H ≤ lo (s.sq + 1) - 1 + s.P) from ⟨by omega, by omega⟩)
  rw [hloH] at hhd
  rw [hhd] at ht
  rcases ht with ⟨hb, -⟩ | ⟨-, g, he, hg, hrow⟩
  · rcases hb with hb | hb
    · exact absurd hb (by decide)
    · rw [hb] at hq; exact absurd hq (by decide)
  · refine ⟨g, _, he.trans ?_, cont_span hC h hS hl hin hP2, hg, ?_⟩
    · rw [hl.head]
    · rw [hrow]
      congr 2
      unfold rowF Tb.rowT
      congr 1
      refine List.map_congr_left fun id _ => ?_
      unfold atV
      rw [cont_at hC h hS hl hin id]
end
end Jn
end Go.Proofs.YthapggobpfcmjaaGreat

set_option maxRecDepth 100000
namespace Go.Proofs.YthapggobpfcmjaaGreat
namespace Jn
open Go.RowKit

theorem devF_new {w w' : World} {n : Nat} (h : Dev w' (NewF w) (w.heap.size + 2) (DSt.new n)) (hs : w'.heap.size = w.heap.size + 3) : DevF w' (NewF w) (w.heap.size + 2) (DSt.new n) :=
  ⟨h, fun k hk => by rw [hs]; exact hk.2⟩

theorem goes_start {w0 w w1 w2 w3 : World} {A : Ad} {n P N : Nat} {o : Nat → Option Nat} (h0 : Below w0.heap.size w0 w) (hab : A.b = w.heap.size + 2) (hd : Dev w1 (NewF w) (w.heap.size + 2) (DSt.new n)) (hs : w1.heap.size = w.heap.size + 3) (hb1 : Below w.heap.size w w1) (hb2 : Below w1.heap.size w1 w2) (hb3 : Below w2.heap.size w2 w3)
    (hlo : ∀ k, A.own k → w2.heap.size ≤ k) (hj : JAt w3 A (s0 P 1 1 0 0 0 N (fun _ => none) o)) (hn : P + 1 ≤ n) (hr : 5 * N + 240 ≤ 2 * P) (hN : N ≤ 3840) :
    Goes w0 A w3.heap.size (s0 P 1 1 0 0 0 N (fun _ => none) o) ⟨0, 0, 0, fun _ => none⟩ (DSt.new n) (fun _ => zerosL 480) 0 w3 := by
  have D1 := devF_new hd hs
  rw [← hab] at D1
  have k0 := h0.size
  have k1 := hb1.size
  have k2 := hb2.size
  have k3 := hb3.size
  have hF3 : ∀ k, A.own k → ¬ NewF w k := fun k hk hf => by
    have h1 := hlo k hk
    have h4 := hf.2
    omega
  refine ⟨⟨_, jl_start hj ((D1.below hb2).below hb3) hF3 hn hr hN, fun k hk => ⟨by have := hk.1; omega, by have := hk.2; omega⟩⟩, fun k hk => ⟨by have := hlo k hk; omega, hj.lt k hk⟩, Nat.le_refl _, ?_, Nat.le_refl _, Nat.le_refl _, Nat.le_refl _, Nat.le_refl _⟩
  exact h0.trans ((hb1.trans ((hb2.mono k1).trans (hb3.mono (by omega)))).mono k0)

structure Gs (w0 : World) (A : Ad) (Y : Nat → Prop) (s : JSt) (t : Jou.St) (ds : DSt) (dat : Nat → List UInt8) (c : Nat) (wr : World) : Prop where
  jl : ∃ F, Jl wr A F s t ds dat ∧ ∀ k, F k → w0.heap.size ≤ k ∧ ¬ Y k
  own : ∀ k, A.own k → w0.heap.size ≤ k ∧ ¬ Y k
  ylt : ∀ k, Y k → w0.heap.size ≤ k ∧ k < wr.heap.size
  below : Below w0.heap.size w0 wr
  sq : s.sq ≤ c
  reads : ds.reads ≤ 100 * c
  writes : ds.writes ≤ 100 * c
  flushes : ds.flushes ≤ 100 * c
section
variable {w0 wr w1 : World} {A : Ad} {Y Z : Nat → Prop} {s : JSt} {t : Jou.St} {ds : DSt} {dat : Nat → List UInt8} {c : Nat}
theorem Goes.gs {B : Nat} (h : Goes w0 A B s t ds dat c wr) : Gs w0 A Emp s t ds dat c wr := by
  obtain ⟨F, hj, hF⟩ := h.jl
  exact ⟨⟨F, hj, fun k hk => ⟨(hF k hk).1, id⟩⟩, fun k hk => ⟨(h.own k hk).1, id⟩, fun k hk => hk.elim, h.below, h.sq, h.reads, h.writes, h.flushes⟩
/-- What touches Y alone, or what is younger, leaves it as it is. -/
theorem Gs.touch {G : Nat → Prop} (h : Gs w0 A Y s t ds dat c wr) (ht : Touch G wr w1) (hG : ∀ k, G k → Y k ∨ wr.heap.size ≤ k) : Gs w0 A Y s t ds dat c w1 := by
  obtain ⟨F, hj, hF⟩ := h.jl
  refine ⟨⟨F, hj.touch ht (fun k hk hg => ?_) (fun k hk hg => ?_), hF⟩, h.own, fun k hk => ⟨(h.ylt k hk).1, Nat.lt_of_lt_of_le (h.ylt k hk).2 ht.size⟩, h.below.trans (ht.to_below (fun j hj2 hg => ?_) h.below.size), h.sq, h.reads, h.writes, h.flushes⟩
  · rcases hG k hg with hy | hy
    · exact (hF k hk).2 hy
    · have := hj.dev.lt k hk; omega
  · rcases hG k hg with hy | hy
    · exact (h.own k hk).2 hy
    · have := hj.jat.lt k hk; omega
  · rcases hG j hg with hy | hy
    · exact (h.ylt j hy).1
    · exact Nat.le_trans h.below.size hy
theorem Gs.low (h : Gs w0 A Y s t ds dat c wr) (hb : Below wr.heap.size wr w1) : Gs w0 A Y s t ds dat c w1 := h.touch (Touch.of_below (F := Emp) hb) fun _ h => h.elim
theorem Gs.alloc (h : Gs w0 A Y s t ds dat c wr) (o : Obj) : Gs w0 A Y s t ds dat c (wr.alloc o) := h.low ((Below.refl _ wr).alloc (Nat.le_refl _) o)
/-- New blocks may be the law's. -/
theorem Gs.grow (h : Gs w0 A Y s t ds dat c wr) (hb : Below wr.heap.size wr w1) (hZ : ∀ k, Z k → Y k ∨ wr.heap.size ≤ k ∧ k < w1.heap.size) : Gs w0 A Z s t ds dat c w1 := by
  obtain ⟨F, hj, hF⟩ := h.jl
  have h1 := h.low hb
  have hs := h.below.size
  refine ⟨⟨F, hj.touch (Touch.of_below (F := Emp) hb) (fun _ _ => id) (fun _ _ => id), fun k hk => ⟨(hF k hk).1, fun hz => ?_⟩⟩, fun k hk => ⟨(h.own k hk).1, fun hz => ?_⟩, fun k hk => ?_, h1.below, h.sq, h.reads, h.writes, h.flushes⟩
  · rcases hZ k hz with hy | hy
    · exact (hF k hk).2 hy
    · have := hj.dev.lt k hk; omega
  · rcases hZ k hz with hy | hy
    · exact (h.own k hk).2 hy
    · have := hj.jat.lt k hk; omega
  · rcases hZ k hk with hy | hy
    · exact ⟨(h.ylt k hy).1, Nat.lt_of_lt_of_le (h.ylt k hy).2 hb.size⟩
    · exact ⟨by omega, hy.2⟩
theorem Gs.sub (h : Gs w0 A Y s t ds dat c wr) (hZ : ∀ k, Z k → Y k) : Gs w0 A Z s t ds dat c wr := h.grow (Below.refl _ _) fun k hk => .inl (hZ k hk)
theorem Gs.jat (h : Gs w0 A Y s t ds dat c wr) : JAt wr A s := by
  obtain ⟨F, hj, -⟩ := h.jl
  exact hj.jat
theorem Gs.broken (h : Gs w0 A Y s t ds dat c wr) : s.broken = false := by
  obtain ⟨F, hj, -⟩ := h.jl
  exact hj.br
theorem Gs.dev (h : Gs w0 A Y s t ds dat c wr) : ∃ F, Dev wr F A.b ds := by
  obtain ⟨F, hj, -⟩ := h.jl
  exact ⟨F, hj.dev.dev⟩
theorem Gs.more (h : Gs w0 A Y s t ds dat c wr) {c' : Nat} (hc : c ≤ c') : Gs w0 A Y s t ds dat c' wr :=
  ⟨h.jl, h.own, h.ylt, h.below, by have := h.sq; omega, by have := h.reads; omega, by have := h.writes; omega, by have := h.flushes; omega⟩

theorem Gs.commit (h : Gs w0 A Y s t ds dat c wr) (hc : c < 1000000) {v : Value} {E : List WE} {X : Nat → Prop} (hw : WL wr v E X) (hX : ∀ k, X k → Y k) (hE : MayE s.N E) :
    Calls Tryz.prog 9 #[.pointer (some ⟨A.J, 0, none⟩), v] wr fun e w' => e = .returned (.int .i64 0) ∧ Touch (fun k => w0.heap.size ≤ k ∧ ¬ Y k) wr w' ∧
      ∃ s' t' ds', Gs w0 A Y s' t' ds' (datB E dat) (c + 1) w' ∧ s'.N = s.N ∧ s'.P = s.P ∧ s'.ep = s.ep ∧ s'.st = s.st ∧ s'.sq = s.sq + 1 ∧
        ds'.reads ≤ ds.reads + 2 * E.length ∧ ds.reads ≤ ds'.reads ∧ ds'.writes ≤ ds.writes + 3 * E.length ∧ ds.writes ≤ ds'.writes ∧ ds'.flushes = ds.flushes + 1 ∧ Nxt t t' (idsN E) := by
  obtain ⟨F, hj, hF⟩ := h.jl
  have hr := h.reads
  have hwr := h.writes
  have hfl := h.flushes
  have hsq := h.sq
  refine (commit_ok hj hw (fun k hk => ⟨(h.ylt k (hX k hk)).2, fun hf => (hF k hf).2 (hX k hk), fun hf => (h.own k hf).2 (hX k hk)⟩) hE (by omega) (by omega) (by omega) (by omega)).mono ?_
  rintro e w' ⟨he, ht, G, s', t', ds', hj', hG, q1, q2, q3, q4, q5, r1, r2, r3, r4, r5⟩
  have hl : E.length ≤ 24 := hE.2.1
  have hbo : ∀ k, Both F A k → w0.heap.size ≤ k ∧ ¬ Y k := fun k hk => hk.elim (hF k) (h.own k)
  have hs0 : w0.heap.size ≤ wr.heap.size := h.below.size
  refine ⟨he, ht.mono fun k _ hk => hbo k hk, s', t', ds', ⟨⟨G, hj', fun k hk => ?_⟩, h.own, fun k hk => ⟨(h.ylt k hk).1, Nat.lt_of_lt_of_le (h.ylt k hk).2 ht.size⟩, h.below.trans (ht.to_below (fun j _ hj => (hbo j hj).1) hs0), by omega, by omega, by omega, by omega⟩, q1, q2, q3, q4, q5, r1, r2, r3, r4, r5⟩
  by_cases hk2 : k < wr.heap.size
  · exact hF k (hG k hk2 hk)
  · exact ⟨by omega, fun hy => by have := (h.ylt k hy).2; omega⟩
theorem Gs.read (h : Gs w0 A Y s t ds dat c wr) (hc : c < 1000000) {id : Nat} (hid : id < s.N) :
    Calls Tryz.prog 16 #[.pointer (some ⟨A.J, 0, none⟩), .int .i64 (id : Int)] wr fun e w' => (∃ v, e = .returned (.tuple #[v, .int .i64 0]) ∧ OwnB wr.heap.size w' v (dat id)) ∧ Touch (fun k => w0.heap.size ≤ k ∧ ¬ Y k) wr w' ∧
      ∃ ds' : DSt, ∃ F', Jl w' A F' s t ds' dat ∧ (∀ k, F' k → w0.heap.size ≤ k ∧ ¬ Y k ∧ k < wr.heap.size) ∧ Gs w0 A Y s t ds' dat (c + 1) w' ∧ ds'.flushes = ds.flushes ∧ ds'.writes = ds.writes ∧ ds'.reads = ds.reads + (if (s.a id).isSome then 1 else 0) := by
  obtain ⟨F, hj, hF⟩ := h.jl
  have hr := h.reads
  have hwr := h.writes
  have hfl := h.flushes
  have hsq := h.sq
  cases ha : s.a id with
  | none =>
    refine (read_never hj.jat hj.br id hid ha).mono ?_
    rintro e w' ⟨rfl, rfl⟩
    have hb : Below wr.heap.size wr (wr.alloc (.cells (rowA (zerosL 480)) 5)) := (Below.refl _ wr).alloc (Nat.le_refl _) _
    refine ⟨⟨_, rfl, ?_⟩, (Touch.refl _ wr).alloc _, ds, F, hj.touch (Touch.of_below (F := Emp) hb) (fun _ _ h => h) (fun _ _ h => h), fun k hk => ⟨(hF k hk).1, (hF k hk).2, hj.dev.lt k hk⟩, (h.low hb).more (by omega), rfl, rfl, rfl⟩
    rw [hj.non id ha]
    refine ⟨wr.heap.size, 480, by rw [zerosL_length], by rw [zerosL_length]; exact Nat.le_refl _, Nat.le_refl _, _, heap_alloc_new wr _, ?_⟩
    simp only [rowA]
    exact List.take_of_length_le (by simp)
  | some p =>
    refine (read_has hj.jat hj.dev hj.off hj.br hj.up ⟨by have := hj.wt; omega, by omega, by omega, by omega⟩ hj.sec id p hid ha _ (hj.hold id p ha)).mono ?_
    rintro e w' ⟨⟨v, rfl, hv⟩, ht, hd⟩
    have hj' := hj.incR ht hj.off hd
    refine ⟨⟨v, rfl, hv⟩, ht.mono fun k _ hk => hF k hk, ds.incR, F, hj', fun k hk => ⟨(hF k hk).1, (hF k hk).2, hj.dev.lt k hk⟩, ⟨⟨F, hj', hF⟩, h.own, fun k hk => ⟨(h.ylt k hk).1, Nat.lt_of_lt_of_le (h.ylt k hk).2 ht.size⟩, h.below.trans (ht.to_below (fun j _ hj2 => (hF j hj2).1) h.below.size), by omega, ?_, ?_, ?_⟩, rfl, rfl, rfl⟩
    · show ds.reads + 1 ≤ _
      omega
    · show ds.writes ≤ _
      omega
    · show ds.flushes ≤ _
      omega
end
theorem run_makeInts (w : World) (n : Nat) (h1 : n ≤ 100000) :
    (Instr.makeSlice 33 (.int .i64 n) (.int .i64 n)).run Tryz.prog w = .ok (.slice (some ⟨w.heap.size, 0, none⟩) n n) (w.alloc (.cells (Tb.rowT n (fun _ => some 0)).toArray 3)) := by
  obtain ⟨i0, hi, hz0, hz1, hz2⟩ := info_parts infoI
  have := run_make (P := Tryz.prog) w 33 3 i0 (.int .i64 0) Tryz.underlying33 hi hz0 .i64 .i64 n n (by omega) (by omega) (by rw [hz2]; omega) (by omega)
  simp only [Int.toNat_natCast] at this
  rw [this, hz1]
  simp only [Value.cells, madeCells_one, Nat.mul_one]
  have e : Array.replicate n (Value.int IntKind.i64 0) = (Tb.rowT n (fun _ => some 0)).toArray := by
    apply Array.ext
    · simp [Tb.rowT]
    · intro i h1 h2
      simp [Tb.rowT, Tb.enc]
  rw [e]
theorem set_none {W : World} {g N i : Nat} {f : Nat → Option Nat} (h : W.heap[g]? = some (.cells (Tb.rowT N f).toArray 3 (0, 0))) : (W.setCell ⟨g, i, none⟩ (.int .i64 (-1))).heap[g]? = some (.cells (Tb.rowT N (Tb.upd f i none)).toArray 3 (0, 0)) := by
  rw [heap_setCell_same _ _ i _ _ _ h, ← Tb.rowT_set]
  simp [Tb.enc]
theorem rowT_same {N : Nat} {f g : Nat → Option Nat} (h : ∀ i, i < N → f i = g i) : Tb.rowT N f = Tb.rowT N g := rowT_congr h
theorem row_cell {W : World} {g N i : Nat} {f : Nat → Option Nat} (h : W.heap[g]? = some (.cells (Tb.rowT N f).toArray 3 (0, 0))) (hi : i < N) : W.cell? ⟨g, i, none⟩ = some (.int .i64 (Tb.enc (f i))) := by
  rw [cell_of_row W g i _ _ _ h]
  have := Tb.rowT_get f hi
  simpa using this

/-- Behind a Read: what it told may be the law's, too. -/
theorem Gs.of_read {w0 wr w' : World} {A : Ad} {Y Z F' : Nat → Prop} {s : JSt} {t : Jou.St} {ds ds' : DSt} {dat : Nat → List UInt8} {c c' : Nat} (h : Gs w0 A Y s t ds dat c wr) (hj : Jl w' A F' s t ds' dat) (hF : ∀ k, F' k → w0.heap.size ≤ k ∧ ¬ Y k ∧ k < wr.heap.size)
    (h' : Gs w0 A Y s t ds' dat c' w') (hZ : ∀ k, Z k → Y k ∨ wr.heap.size ≤ k ∧ k < w'.heap.size) : Gs w0 A Z s t ds' dat c' w' := by
  have hs := h.below.size
  refine ⟨⟨F', hj, fun k hk => ⟨(hF k hk).1, fun hz => ?_⟩⟩, fun k hk => ⟨(h.own k hk).1, fun hz => ?_⟩, fun k hk => ?_, h'.below, h'.sq, h'.reads, h'.writes, h'.flushes⟩
  · rcases hZ k hz with hy | hy
    · exact (hF k hk).2.1 hy
    · have := (hF k hk).2.2; omega
  · rcases hZ k hz with hy | hy
    · exact (h.own k hk).2 hy
    · have := h.jat.lt k hk; omega
  · rcases hZ k hk with hy | hy
    · exact h'.ylt k hy
    · exact ⟨by omega, hy.2⟩

/-- Blocks made since a world are a law's, if it likes. -/
theorem Gs.grow2 {w0 w5 wr : World} {A : Ad} {Y Z G : Nat → Prop} {s : JSt} {t : Jou.St} {ds : DSt} {dat : Nat → List UInt8} {c : Nat} (h : Gs w0 A Y s t ds dat c w5) (ht : Touch G w5 wr) (hG : ∀ k, G k → Y k) (hZ : ∀ k, Z k → Y k ∨ w5.heap.size ≤ k ∧ k < wr.heap.size) : Gs w0 A Z s t ds dat c wr := by
  obtain ⟨F, hj, hF⟩ := h.jl
  have h1 := h.touch ht (fun k hk => .inl (hG k hk))
  have hs := h.below.size
  refine ⟨⟨F, hj.touch ht (fun k hk hg => (hF k hk).2 (hG k hg)) (fun k hk hg => (h.own k hk).2 (hG k hg)), fun k hk => ⟨(hF k hk).1, fun hz => ?_⟩⟩, fun k hk => ⟨(h.own k hk).1, fun hz => ?_⟩, fun k hk => ?_, h1.below, h.sq, h.reads, h.writes, h.flushes⟩
  · rcases hZ k hz with hy | hy
    · exact (hF k hk).2 hy
    · have := hj.dev.lt k hk; omega
  · rcases hZ k hz with hy | hy
    · exact (h.own k hk).2 hy
    · have := hj.jat.lt k hk; omega
  · rcases hZ k hk with hy | hy
    · exact ⟨(h.ylt k hy).1, Nat.lt_of_lt_of_le (h.ylt k hy).2 ht.size⟩
    · exact ⟨by omega, hy.2⟩
/-- A row of bools. -/
def rowB (N : Nat) (f : Nat → Bool) : Array Value := ((List.range N).map fun i => Value.bool (f i)).toArray
theorem rowB_get {N i : Nat} (f : Nat → Bool) (h : i < N) : (rowB N f)[i]? = some (.bool (f i)) := by simp [rowB, h]
theorem rowB_cell {W : World} {g N i : Nat} {f : Nat → Bool} (h : W.heap[g]? = some (.cells (rowB N f) 4 (0, 0))) (hi : i < N) : W.cell? ⟨g, i, none⟩ = some (.bool (f i)) := by
  rw [cell_of_row W g i _ _ _ h]
  exact rowB_get f hi
theorem rowB_set {W : World} {g N i : Nat} {f : Nat → Bool} {b : Bool} (h : W.heap[g]? = some (.cells (rowB N f) 4 (0, 0))) : (W.setCell ⟨g, i, none⟩ (.bool b)).heap[g]? = some (.cells (rowB N (fun j => if j = i then b else f j)) 4 (0, 0)) := by
  rw [heap_setCell_same _ _ i _ _ _ h]
  congr 2
  apply Array.ext
  · simp [rowB]
  · intro j h1 h2
    rw [Array.getElem_setIfInBounds]
    · by_cases e : i = j
      · subst e; simp [rowB]
      · have e' : ¬ j = i := fun h => e h.symm
        simp [rowB, e, e']
    · simpa [rowB] using h2
theorem infoB : (Tryz.prog.info? 4).map (fun i => (i.zero, i.size, i.bytes)) = some (some (.bool false), 1, 1) := by kernel_rfl
theorem run_makeBools (w : World) (n : Nat) (h1 : n ≤ 100000) :
    (Instr.makeSlice 38 (.int .i64 n) (.int .i64 n)).run Tryz.prog w = .ok (.slice (some ⟨w.heap.size, 0, none⟩) n n) (w.alloc (.cells (rowB n (fun _ => false)) 4)) := by
  obtain ⟨i0, hi, hz0, hz1, hz2⟩ := info_parts infoB
  have := run_make (P := Tryz.prog) w 38 4 i0 (.bool false) Tryz.underlying38 hi hz0 .i64 .i64 n n (by omega) (by omega) (by rw [hz2]; omega) (by omega)
  simp only [Int.toNat_natCast] at this
  rw [this, hz1]
  simp only [Value.cells, madeCells_one, Nat.mul_one]
  have e : Array.replicate n (Value.bool false) = rowB n (fun _ => false) := by
    apply Array.ext
    · simp [rowB]
    · intro i h1 h2
      simp [rowB]
  rw [e]


end Jn
end Go.Proofs.YthapggobpfcmjaaGreat

set_option maxRecDepth 100000
namespace Go.Proofs.YthapggobpfcmjaaGreat
namespace Jn
open Go.RowKit Rp

theorem starts_one {l : List Fo} (h : ∀ x ∈ l, x.1.e = 1) : (startsA l).length ≤ 1 := by
  have := len_sub ((startsA l).map (·.1)) [1] (starts_nodup l) fun k hk => by
    obtain ⟨x, hx, e⟩ := (starts_mem l k).1 hk
    rw [← e, h x hx]; simp
  simpa using this
section
variable {s : JSt} {t : Jou.St} {ds : DSt} {tg : Nat → Tg.T} {lo : Nat → Nat} {w0 wr : World} {A : Ad} {Y : Nat → Prop} {dat : Nat → List UInt8} {c : Nat}
theorem Hist.moreR (h : Hist s t ds tg lo) (n : Nat) : Hist s t (Rp.moreR ds n) tg lo := ⟨h.ep, h.st, h.lo1, h.loH, h.loS, h.tag, h.cov, h.dis, h.look, h.zero, h.at1, h.at2⟩
theorem Jl.moreR {w w1 : World} {F G : Nat → Prop} (h : Jl w A F s t ds dat) {n : Nat} (ht : Touch G w w1) (h2 : ∀ k, A.own k → ¬ G k) (hd : DevF w1 F A.b (Rp.moreR ds n)) : Jl w1 A F s t (Rp.moreR ds n) dat :=
  ⟨h.jat.touch ht h2, hd, h.off, h.br, moreR_up h.up n, h.sec, h.live, h.rule, h.hold, h.non, h.nn, h.ee, h.ss, h.tt, h.wt⟩
theorem Gs.commits (h : Gs w0 A Y s t ds dat c wr) (hh : Hist s t ds tg lo) (hc : c < 1000000) {v : Value} {E : List WE} {X : Nat → Prop} (hw : WL wr v E X) (hX : ∀ k, X k → Y k) (hE : MayE s.N E) :
    Calls Tryz.prog 9 #[.pointer (some ⟨A.J, 0, none⟩), v] wr fun e w' => e = .returned (.int .i64 0) ∧ Touch (fun k => w0.heap.size ≤ k ∧ ¬ Y k) wr w' ∧
      ∃ s' t' ds' tg' lo', Gs w0 A Y s' t' ds' (datB E dat) (c + 1) w' ∧ Hist s' t' ds' tg' lo' ∧ s'.N = s.N ∧ s'.P = s.P ∧ s'.sq = s.sq + 1 ∧ ds'.secs.length = ds.secs.length := by
  obtain ⟨F, hj, hF⟩ := h.jl
  have hr := h.reads
  have hwr := h.writes
  have hfl := h.flushes
  have hsq := h.sq
  refine (commit_says hj hw (fun k hk => ⟨(h.ylt k (hX k hk)).2, fun hf => (hF k hf).2 (hX k hk), fun hf => (h.own k hf).2 (hX k hk)⟩) hE (by omega) (by omega) (by omega) (by omega)).mono ?_
  rintro e w' ⟨he, ht, G, s', t', ds', hj', hG, q1, q2, q3, q4, q5, r1, r2, r3, r4, r5, r6, r7⟩
  obtain ⟨tg', lo', hh', -, -⟩ := hh.step hj.live hj.jat.p1 r7 hj.up
  have hsl : ds'.secs.length = ds.secs.length := by
    obtain ⟨L, cc, m, -, -, rfl, -⟩ := r7
    obtain ⟨-, -, -, -, f4, -⟩ := hj.up.flush_up
    exact f4
  have hl : E.length ≤ 24 := hE.2.1
  have hbo : ∀ k, Both F A k → w0.heap.size ≤ k ∧ ¬ Y k := fun k hk => hk.elim (hF k) (h.own k)
  have hs0 : w0.heap.size ≤ wr.heap.size := h.below.size
  refine ⟨he, ht.mono fun k _ hk => hbo k hk, s', t', ds', tg', lo', ⟨⟨G, hj', fun k hk => ?_⟩, h.own, fun k hk => ⟨(h.ylt k hk).1, Nat.lt_of_lt_of_le (h.ylt k hk).2 ht.size⟩, h.below.trans (ht.to_below (fun j _ hj => (hbo j hj).1) hs0), by omega, by omega, by omega, by omega⟩, hh', q1, q2, q5, hsl⟩
  by_cases hk2 : k < wr.heap.size
  · exact hF k (hG k hk2 hk)
  · exact ⟨by omega, fun hy => by have := (h.ylt k hy).2; omega⟩
theorem Gs.scan (h : Gs w0 A Y s t ds dat c wr) (hh : Hist s t ds tg lo) (hc : c < 1000000) (hP : s.P = 160) (hN : s.N = 12) (hq : 1 ≤ s.sq) (hsec : ds.secs.length = 161) :
    Calls Tryz.prog 10 #[.pointer (some ⟨A.b, 0, none⟩), .int .i64 160, .int .i64 12] wr fun e w' =>
      (∃ (g : Nat) (us : Int), e = .returned (.tuple #[stA 2 (s.sq + 1) s.sq (s.head : Int) us (.slice (some ⟨g, 0, none⟩) 12 12), .int .i64 0]) ∧ us ≤ (s.used : Int) ∧ wr.heap.size ≤ g ∧ w'.heap[g]? = some (.cells (Tb.rowT 12 s.a).toArray 3 (0, 0))) ∧
      Touch (fun k => w0.heap.size ≤ k ∧ ¬ Y k) wr w' ∧ Gs w0 A Y s t (Rp.moreR ds 160) dat (c + 2) w' ∧ Hist s t (Rp.moreR ds 160) tg lo := by
  obtain ⟨F, hj, hF⟩ := h.jl
  have hr := h.reads
  have hwr := h.writes
  have hfl := h.flushes
  have hsq := h.sq
  have hwt := hj.wt
  have hC := found_mem hh hj.jat.p1 (by omega) (by omega)
  have hall := cont_e hC hh fun A hA => hA.1
  rw [hP, hN] at hC hall
  have SC := scan_ok sorts_few ⟨hj.dev.dev, hj.dev.lt⟩ hj.up 160 12 ⟨by decide, by rw [hsec]; decide, by decide, by decide⟩ (by omega) (by simp only [DSt.Fit, Rp.moreR]; omega) (starts_one hall)
  refine SC.mono ?_
  rintro e w' ⟨hto, ht, hd⟩
  have hto2 : Rp.Told wr w' e (foundL ds s.N s.P) s.P s.N := by rw [hP, hN]; exact hto
  obtain ⟨g, us, he, h1, h2, h3⟩ := told_after hh hj.live (by omega) (by have := hj.jat.us; omega) hq (by omega) (by omega) hto2
  rw [hN] at he h3
  have ht2 : Touch (fun k => w0.heap.size ≤ k ∧ ¬ Y k) wr w' := ht.mono fun k _ hk => hF k hk
  have hs0 : w0.heap.size ≤ wr.heap.size := h.below.size
  refine ⟨⟨g, us, he, h1, h2, h3⟩, ht2, ⟨⟨F, hj.moreR ht hj.off ⟨hd.dev, hd.lt⟩, hF⟩, h.own, fun k hk => ⟨(h.ylt k hk).1, Nat.lt_of_lt_of_le (h.ylt k hk).2 ht.size⟩, h.below.trans (ht2.to_below (fun j _ hj => hj.1) hs0), by omega, ?_, ?_, ?_⟩, hh.moreR 160⟩
  · show ds.reads + 160 ≤ _; omega
  · show ds.writes ≤ _; omega
  · show ds.flushes ≤ _; omega
end
end Jn
end Go.Proofs.YthapggobpfcmjaaGreat

set_option maxRecDepth 100000
namespace Go.Proofs.YthapggobpfcmjaaGreat
namespace Jn
open Go.RowKit Rp

/-- A row of numbers of a list of rows that came in. -/
structure RowAt (w : World) (a : Option Addr) (i : Nat) (vids : Value) (ids : List Int) (g : Nat) : Prop where
  at_ : ∃ b off, a = some ⟨b, off, none⟩ ∧ w.cell? ⟨b, off + i, none⟩ = some vids
  nv : NV .i64 w vids ids g
  len : ids.length ≤ 140737488355328
theorem RowAt.below {w w1 : World} {a : Option Addr} {i : Nat} {vids : Value} {ids : List Int} {g : Nat} (h : RowAt w a i vids ids g) (hb : Below w.heap.size w w1) : RowAt w1 a i vids ids g := by
  obtain ⟨b, off, e, h1⟩ := h.at_
  refine ⟨⟨b, off, e, ?_⟩, h.nv.touch (Touch.of_below (F := Emp) hb) fun _ => id, h.len⟩
  rw [World.cell?_of_block (hb.block b (World.block_lt_of_cell? w ⟨b, off + i, none⟩ h1))]
  exact h1
theorem app_we {w w1 : World} {base : Nat} {v v' : Value} {E : List WE} {e : WE} (hown : OwnW base w v E) (he : BV w e.v e.l e.g ∧ (e.l ≠ [] → base ≤ e.g ∧ ∃ c f, w.heap[e.g]? = some (.cells c 5 f)))
    (hown' : w1.ownsRow base 41 2 v' (E.length + 1) (E.flatMap cellsE ++ cellsE e)) (hgrow : w.grownBy w1 v.ownBlock) : OwnW base w1 v' (E ++ [e]) ∧ Touch (fun j => v.ownBlock = some j) w w1 := by
  have ht : Touch (fun j => v.ownBlock = some j) w w1 := Touch.of_grown hgrow (fun k e => e)
  have hne : ∀ (g : Nat) (c : Array Value) (f : Nat × Nat), w.heap[g]? = some (.cells c 5 f) → ¬ (v.ownBlock = some g) := by
    intro g c f hg ho
    obtain ⟨cur, hc⟩ := ownsRow_block hown.own ho
    rw [hg] at hc
    simp at hc
  refine ⟨⟨by simpa using hown', fun x hx => ?_⟩, ht⟩
  have hx' : BV w x.v x.l x.g ∧ (x.l ≠ [] → base ≤ x.g ∧ ∃ c f, w.heap[x.g]? = some (.cells c 5 f)) := (List.mem_append.1 hx).elim (hown.data x) fun h => by rw [List.mem_singleton.1 h]; exact he
  refine ⟨hx'.1.touch ht (fun hl => ?_), fun hl => ?_⟩
  · obtain ⟨-, c, f, hc⟩ := hx'.2 hl
    exact hne _ c f hc
  · obtain ⟨h1, c, f, hc⟩ := hx'.2 hl
    exact ⟨h1, c, f, ht.at hc (hne _ c f hc)⟩
theorem mod12 (x : Int) : ∃ id : Nat, x % 65536 % 12 = (id : Int) ∧ id < 12 := ⟨(x % 65536 % 12).toNat, by omega, by omega⟩

set_option maxHeartbeats 16000000 in
theorem after_walk (a0 : Option Addr) (n0 c0 : Nat) (w : World) (hs0 : ∀ i, i < n0 → ∃ vids ids g, RowAt w a0 i vids ids g) (hn0 : n0 ≤ 140737488355328) :
    Calls Tryz.prog 3 #[.slice a0 n0 c0] w fun e w' => e = .returned (.bool true) ∧ Below w.heap.size w w' := by
  have HS0 := Lib.hid hs0
  clear hs0
  have hmz := fun W => run_makeBytes W 480 (by omega) (by omega)
  have hZ : rowA (zerosL 480) = rowA (zerosL (480 : Int).toNat) := rfl
  generalize rowA (zerosL (480 : Int).toNat) = Z at hmz hZ
  have HBZ := Lib.hid (show ∀ W : World, BV (W.alloc (.cells Z 5)) (.slice (some ⟨W.heap.size, 0, none⟩) 480 480) (zerosL 480) W.heap.size by rw [← hZ]; exact bv_zeros)
  have HMZ := Lib.hid hmz
  clear hZ hmz
  have SH := Lib.hid (shown_ok w)
  go_enter Tryz.func3, Tryz.ntmps3
  go_wp2_with fail
  refine SH.out.mono ?_
  rintro e wS ⟨rfl, hbS⟩
  have BS := Lib.hid hbS
  have ND := Lib.hid (show Calls Tryz.prog 6 #[.int .i64 161] wS _ from new_any 161 wS (by omega) (by omega))
  clear SH hbS
  go_wp2_with fail
  refine ND.out.mono ?_
  rintro e w1 ⟨rfl, ht1, hs1, hd1⟩
  have D1 := Lib.hid (And.intro hd1 (And.intro hs1 ht1.below))
  have D1f := Lib.hid (devF_new hd1 hs1)
  clear ND ht1 hs1 hd1
  obtain ⟨b, hb⟩ : ∃ b, wS.heap.size + 2 = b := ⟨_, rfl⟩
  rw [hb] at D1f ⊢
  have HBB := Lib.hid hb
  clear hb
  have FR := Lib.hid (show Calls Tryz.prog 8 #[.int .i64 12] w1 _ from fresh_any 12 w1 (by omega))
  go_wp2_with fail
  refine FR.out.mono ?_
  rintro e w2 ⟨⟨v2, g2, rfl, hv2, hg2⟩, hb2⟩
  have NW : Calls Tryz.prog 7 #[.pointer (some ⟨b, 0, none⟩), .int .i64 160, .agg (stI 1 1 0 0 0 v2)] w2 fun e w' =>
      ∃ A o, e = .returned (.tuple #[.pointer (some ⟨A.J, 0, none⟩), .int .i64 0]) ∧ A.b = b ∧ (∀ j, A.own j → w2.heap.size ≤ j) ∧ JAt w' A (s0 160 1 1 0 0 0 12 (fun _ => none) o) ∧ Below w2.heap.size w2 w' := by
    have h := new_ok (P := 160) (ep := 1) (st := 1) (sq := 0) (hd := 0) (us := 0) (D1f.out.below hb2) hv2 (by simp [DSt.new]) (by omega) (by omega) (by simp [DSt.new]) (right_none (by omega) (by omega))
    rw [List.length_replicate, aL_none] at h
    exact h
  have NW := Lib.hid NW
  have B2 := Lib.hid hb2
  clear FR hv2 hg2 hb2
  go_wp2_with fail
  refine NW.out.mono ?_
  rintro e w3 ⟨A, o, rfl, hab, hlo, hj, hb3⟩
  subst hab
  have G0 := Lib.hid (goes_start BS.out HBB.out.symm D1.out.1 D1.out.2.1 D1.out.2.2 B2.out hb3 hlo hj (by omega) (by omega) (by omega)).gs
  have H0 := Lib.hid (Hist.start 160 12 161 o (by omega))
  clear NW hlo hj hb3 D1 D1f B2 BS
  go_wp2_with fail
  go_loopw [8] (fun i wr => ∃ (k : Nat) (s : JSt) (t : Jou.St) (ds : DSt) (dat : Nat → List UInt8) (tg : Nat → Tg.T) (lo : Nat → Nat), k ≤ min n0 50 ∧ i = .int .i64 k ∧ Gs w A Emp s t ds dat (4 * k) wr ∧ Hist s t ds tg lo ∧ s.N = 12 ∧ s.P = 160 ∧ ds.secs.length = 161) (fun i _ => min n0 50 - (intOf i).toNat)
  case atStart => exact ⟨0, _, _, _, _, _, _, Nat.zero_le _, rfl, G0.out, H0.out, rfl, rfl, by simp [DSt.new]⟩
  case round =>
    obtain ⟨k, s, t, ds, dat, tg, lo, hk, rfl, hG, hH, hsN, hsP, hsl⟩ := hrel
    by_cases hlt : k < min n0 50
    · have hk1 : (k : Int) < (n0 : Int) := by omega
      have hk2 : (k : Int) < 50 := by omega
      obtain ⟨vids, ids, gi, hst0⟩ := HS0.out k (by omega)
      have HST0 := Lib.hid hst0
      obtain ⟨b0, off, rfl, -⟩ := hst0.at_
      obtain ⟨ai, capi, rfl, hci, -⟩ := hst0.nv.form
      have hidl : (ids.length : Int) ≤ 140737488355328 := by have := hst0.len; omega
      have hmk : (Instr.makeSlice 38 (.int .i64 12) (.int .i64 12)).run Tryz.prog wr = .ok (.slice (some ⟨wr.heap.size, 0, none⟩) 12 12) (wr.alloc (.cells (rowB 12 (fun _ => false)) 4)) := run_makeBools wr 12 (by omega)
      have HN := Lib.hid (And.intro hH (And.intro hsN (And.intro hsP hsl)))
      have G3 := Lib.hid (hG.grow (Z := fun j => j = wr.heap.size) ((Below.refl _ wr).alloc (Nat.le_refl _) (.cells (rowB 12 (fun _ => false)) 4)) (fun j e => .inr ⟨by omega, by simp; omega⟩))
      have R3 := Lib.hid (heap_alloc_new wr (.cells (rowB 12 (fun _ => false)) 4))
      clear hG hH hsN hsP hsl hst0
      go_wp2_with fail
      generalize hgS : wr.heap.size = gS at G3 R3 ⊢
      clear hgS hmk
      generalize wr.alloc (.cells (rowB 12 (fun _ => false)) 4) = w5 at G3 R3 ⊢
      go_loopw [9, 11] (fun v i wr4 => ∃ (q : Nat) (E : List WE), q ≤ ids.length ∧ i = .int .i64 q ∧ OwnW w5.heap.size wr4 v E ∧ (∀ e ∈ E, 0 ≤ e.id ∧ e.id < 12 ∧ e.l.length = 480) ∧ (E.map (·.id)).Nodup ∧
        Touch (fun j => j = gS) w5 wr4 ∧ wr4.heap[gS]? = some (.cells (rowB 12 (fun j => decide ((j : Int) ∈ E.map (·.id)))) 4 (0, 0))) (fun _ i _ => ids.length - (intOf i).toNat)
      case atStart => exact ⟨0, [], Nat.zero_le _, rfl, ⟨World.ownsRow_nil _ _ _ _, by simp⟩, by simp, by simp, Touch.refl _ _, by simpa using R3.out⟩
      case round =>
        obtain ⟨q, E, hq, rfl, how, hfine, hnd, ht4, hS4⟩ := hrel
        have hG4 := G3.out.touch ht4 (fun j hj => .inl hj)
        obtain ⟨b0', off', e0, q0⟩ := (HST0.out.below hG4.below).at_
        cases e0
        obtain ⟨av, capv, rfl, hcv, -⟩ := how.wl.form
        have hlen12 : E.length ≤ 12 := by
          have := len_sub (E.map fun e => e.id.toNat) (List.range 12) (by
            refine List.pairwise_map.2 ((List.pairwise_map.1 hnd).imp_of_mem fun {x y} hx hy hne e => hne ?_)
            have := (hfine x hx).1
            have := (hfine y hy).1
            omega) fun x hx => by
            obtain ⟨e, he, rfl⟩ := List.mem_map.1 hx
            have := hfine e he
            simp; omega
          simpa using this
        have H4 := Lib.hid (And.intro how (And.intro hfine (And.intro hnd (And.intro ht4 (And.intro hS4 hG4)))))
        obtain ⟨len, hlen⟩ : ∃ len, E.length = len := ⟨_, rfl⟩
        rw [hlen] at hcv hlen12 ⊢
        have HL := Lib.hid hlen
        by_cases hltq : q < ids.length
        · have hq1 : (q : Int) < (ids.length : Int) := by omega
          have hnvq := HST0.out.nv.below hG4.below
          obtain ⟨offi, e1, ck⟩ := hnvq.cell_at hltq
          subst e1
          generalize hidq : ids[q] = iq at ck
          have hand := and_65535 iq
          obtain ⟨id, hid, hidN⟩ := mod12 iq
          have hr1 : 0 ≤ iq % 65536 := by omega
          have hr2 : iq % 65536 < 65536 := by omega
          generalize iq % 65536 = iq' at hand hid hr1 hr2
          have hid1 : (id : Int) < 12 := by omega
          have cS := rowB_cell hS4 hidN
          have fS := frozen_of_row wr gS id _ _ hS4
          have hb0S : b0 ≠ gS := fun e => by
            obtain ⟨b0'', off'', e1, q0'⟩ := HST0.out.at_
            cases e1
            have h1 : b0 < w.heap.size := World.block_lt_of_cell? _ _ q0'
            have h2 := (G3.out.ylt gS rfl).1
            omega
          clear hnvq hidq hG4 how hfine hnd ht4 hS4 hlen
          by_cases hin : (id : Int) ∈ E.map (·.id)
          · rw [decide_eq_true hin] at cS
            clear hin
            go_wp2_with fail
            obtain ⟨how, hfine, hnd, ht4, hS4, hG4⟩ := H4.out
            exact ⟨⟨q + 1, E, by omega, by go_num, by rw [HL.out] at how; exact how, hfine, hnd, ht4, hS4⟩, by simp [intOf]; omega⟩
          · rw [decide_eq_false hin] at cS
            have HIN := Lib.hid hin
            clear hin
            obtain ⟨how, hfine, hnd, ht4, hS4, hG4⟩ := H4.out
            have t6 : Touch (fun j => j = gS) wr (wr.setCell ⟨gS, id, none⟩ (.bool true)) := (Touch.refl (fun j => j = gS) wr).setCell (a := ⟨gS, id, none⟩) (.inl rfl) _
            have S6 := rowB_set (i := id) (b := true) hS4
            have hgS5 : gS < w5.heap.size := lt_of_heap R3.out
            have how6 := how.touch t6 (fun j hj e => by have := (how.own.lt j hj).1; omega) (fun e he hl hg => by have := ((how.data e he).2 hl).1; omega)
            rw [HL.out] at how6
            have sz6 : w5.heap.size ≤ wr.heap.size := ht4.size
            have hmz := HMZ.out
            have he : BV (((wr.setCell ⟨gS, id, none⟩ (.bool true)).alloc (.cells Z 5)).alloc (.cells #[.int .i64 (id : Int), .slice (some ⟨wr.heap.size, 0, none⟩) 480 480] 41)) (.slice (some ⟨wr.heap.size, 0, none⟩) 480 480) (zerosL 480) wr.heap.size ∧ (zerosL 480 ≠ [] → w5.heap.size ≤ wr.heap.size ∧ ∃ c f, (((wr.setCell ⟨gS, id, none⟩ (.bool true)).alloc (.cells Z 5)).alloc (.cells #[.int .i64 (id : Int), .slice (some ⟨wr.heap.size, 0, none⟩) 480 480] 41)).heap[wr.heap.size]? = some (.cells c 5 f)) :=
              ⟨(by have := HBZ.out (wr.setCell ⟨gS, id, none⟩ (.bool true)); rw [World.size_setCell] at this; exact this.alloc _), fun _ => ⟨sz6, _, _, (Below.heap_alloc _ _ _ (by simp)).trans (by have := heap_alloc_new (wr.setCell ⟨gS, id, none⟩ (.bool true)) (.cells Z 5); rw [World.size_setCell] at this; exact this)⟩⟩
            have how7 := (how6.touch ((Touch.refl Emp (wr.setCell ⟨gS, id, none⟩ (.bool true))).alloc (.cells Z 5)) (fun _ _ h => h) (fun _ _ _ h => h)).touch ((Touch.refl Emp ((wr.setCell ⟨gS, id, none⟩ (.bool true)).alloc (.cells Z 5))).alloc (.cells #[.int .i64 (id : Int), .slice (some ⟨wr.heap.size, 0, none⟩) 480 480] 41)) (fun _ _ h => h) (fun _ _ _ h => h)
            have hnew : ∀ j u, ([.int .i64 (id : Int), .slice (some ⟨wr.heap.size, 0, none⟩) 480 480] : List Value)[j]? = some u → (((wr.setCell ⟨gS, id, none⟩ (.bool true)).alloc (.cells Z 5)).alloc (.cells #[.int .i64 (id : Int), .slice (some ⟨wr.heap.size, 0, none⟩) 480 480] 41)).cell? ((⟨wr.heap.size + 1, 0, none⟩ : Addr).add j) = some u := fun j u hj => by
              have hh := heap_alloc_new ((wr.setCell ⟨gS, id, none⟩ (.bool true)).alloc (.cells Z 5)) (.cells #[.int .i64 (id : Int), .slice (some ⟨wr.heap.size, 0, none⟩) 480 480] 41)
              rw [World.size_alloc, World.size_setCell] at hh
              rw [add_lit, cell_of_row _ _ j _ _ _ hh]
              simpa using hj
            have hszE : w5.heap.size ≤ (((wr.setCell ⟨gS, id, none⟩ (.bool true)).alloc (.cells Z 5)).alloc (.cells #[.int .i64 (id : Int), .slice (some ⟨wr.heap.size, 0, none⟩) 480 480] 41)).heap.size := by simp; omega
            have t67 : Touch (fun j => j = gS) wr (((wr.setCell ⟨gS, id, none⟩ (.bool true)).alloc (.cells Z 5)).alloc (.cells #[.int .i64 (id : Int), .slice (some ⟨wr.heap.size, 0, none⟩) 480 480] 41)) := (t6.alloc _).alloc _
            have S67 := (Below.heap_alloc ((wr.setCell ⟨gS, id, none⟩ (.bool true)).alloc (.cells Z 5)) (.cells #[.int .i64 (id : Int), .slice (some ⟨wr.heap.size, 0, none⟩) 480 480] 41) _ (by have := lt_of_heap S6; rw [World.size_setCell] at this; simp; omega)).trans ((Below.heap_alloc (wr.setCell ⟨gS, id, none⟩ (.bool true)) (.cells Z 5) _ (lt_of_heap S6)).trans S6)
            have HNW := Lib.hid hnew
            have HOW := Lib.hid how7
            have HE := Lib.hid he
            have HSZ := Lib.hid hszE
            have H6 := Lib.hid (And.intro t67 S67)
            have hmxl : len + 1 ≤ maxLen := by simp only [maxLen]; omega
            have hbyl : (len + 1) * 32 ≤ 140737488355328 := by omega
            obtain ⟨i0, hi0, hz0, hz1, hz2⟩ := info_parts Tryz.infoW
            clear how hfine hnd ht4 hS4 hG4 t6 S6 how6 sz6 he how7 hnew hszE t67 S67
            go_wp2_with (at_builtin; refine wpList_append_own _ rfl _ _ 37 rfl w5.heap.size 41 i0 (.agg #[.int .i64 0, .slice none 0 0]) 2 32 Tryz.underlying37 hi0 hz0 hz1 hz2 rfl (by decide) _ _ _ rfl (by have := HOW.out.own; rw [HL.out] at this; exact this) ⟨wr.heap.size + 1, 0, none⟩ 1 1 [.int .i64 (id : Int), .slice (some ⟨wr.heap.size, 0, none⟩) 480 480] rfl (by simp) HNW.out (by simp [Value.oneCell']) hmxl hbyl HSZ.out ?_; intro v2' w7 hown' hgrow _; obtain ⟨g4, cap4, rfl⟩ := own_succ hown'; have HAP := Lib.hid (And.intro hown' hgrow); clear hown' hgrow)
            obtain ⟨hown', hgrow⟩ := HAP.out
            obtain ⟨how, hfine, hnd, ht4, hS4, hG4⟩ := H4.out
            obtain ⟨o7, t7⟩ := app_we (e := ⟨(id : Int), .slice (some ⟨wr.heap.size, 0, none⟩) 480 480, zerosL 480, wr.heap.size⟩) HOW.out HE.out (by rw [HL.out]; exact hown') hgrow
            have hlo7 : ∀ j, (Value.slice av len capv).ownBlock = some j → w5.heap.size ≤ j := fun j hj => (HOW.out.own.lt j hj).1
            have S7 := t7.at H6.out.2 (fun e => by have := hlo7 gS e; have := lt_of_heap R3.out; omega)
            refine ⟨⟨q + 1, E ++ [⟨(id : Int), .slice (some ⟨wr.heap.size, 0, none⟩) 480 480, zerosL 480, wr.heap.size⟩], by omega, by go_num, o7, ?_, ?_, (ht4.trans H6.out.1 (fun _ h _ => h)).trans t7 (fun j hj hlt => by have := hlo7 j hj; omega), ?_⟩, by simp [intOf]; omega⟩
            · intro e he
              rcases List.mem_append.1 he with he | he
              · exact hfine e he
              · rw [List.mem_singleton.1 he]
                exact ⟨by show (0 : Int) ≤ (id : Int); omega, hid1, zerosL_length 480⟩
            · rw [List.map_append, List.nodup_append]
              refine ⟨hnd, by simp, fun a ha b hb e' => ?_⟩
              obtain rfl : b = (id : Int) := by simpa using hb
              exact HIN.out (by rw [← e']; exact ha)
            · rw [S7]
              congr 3
              funext j
              by_cases e : j = id
              · subst e; simp
              · have e2 : ¬ (j : Int) = (id : Int) := by omega
                simp [e, e2]
        · obtain rfl : q = ids.length := by omega
          clear hltq
          by_cases hl0 : len = 0
          · obtain rfl : E = [] := List.eq_nil_of_length_eq_zero (by rw [HL.out]; exact hl0)
            have G9 := Lib.hid ((hG4.sub (Z := Emp) (fun j hj => hj.elim)).more (c' := 4 * (k + 1)) (by omega))
            subst hl0
            clear how hfine hnd ht4 hS4 hG4 hlen
            go_wp2_with fail
            exact ⟨⟨k + 1, s, t, ds, dat, tg, lo, by omega, by go_num, G9.out, HN.out.1, HN.out.2.1, HN.out.2.2.1, HN.out.2.2.2⟩, by simp [intOf]; omega⟩
          · have hl1 : ((len : Int) == 0) = false := by simp; omega
            have hl2 : ¬ (len : Int) = 0 := by omega
            have G5 := G3.out.grow2 (Z := fun j => w5.heap.size ≤ j ∧ j < wr.heap.size) ht4 (fun j hj => hj) (fun j hj => .inr hj)
            have hmay : MayE s.N E := ⟨by rw [HL.out]; omega, by rw [HL.out]; omega, by rw [HN.out.2.1]; exact hfine, hnd⟩
            have CM := G5.commits HN.out.1 (by omega) how.wl (fun j hj => hj) hmay
            rw [HL.out] at CM
            have CM := Lib.hid CM
            clear how hfine hnd ht4 hS4 hG4 hmay hlen G5
            go_wp2_with fail
            refine CM.out.mono ?_
            rintro e wD ⟨rfl, -, s1, t1, ds1, tg1, lo1, hG1, hH1, f1, f2, f3, f4⟩
            rw [HN.out.2.1] at f1
            rw [HN.out.2.2.1] at f2
            rw [HN.out.2.2.2] at f4
            have SC := Lib.hid ((hG1.sub (Z := Emp) (fun j hj => hj.elim)).scan hH1 (by omega) f2 f1 (by omega) f4)
            clear CM hG1 f3
            go_wp2_with fail
            refine SC.out.mono ?_
            rintro e wE ⟨⟨g, us, he, hus, hge, hrow⟩, -, hG2, hH2⟩
            have he2 : stA 2 (s1.sq + 1) s1.sq (s1.head : Int) us (.slice (some ⟨g, 0, none⟩) 12 12) = .agg #[.int .u32 2, .int .u64 ((s1.sq : Int) + 1), .int .u64 (s1.sq : Int), .int .i64 (s1.head : Int), .int .i64 us, .slice (some ⟨g, 0, none⟩) 12 12] := by simp [stA]
            rw [he2] at he
            subst he
            have bE := (Below.refl wE.heap.size wE).alloc (Nat.le_refl _) (.cells #[.int .u32 2, .int .u64 ((s1.sq : Int) + 1), .int .u64 (s1.sq : Int), .int .i64 (s1.head : Int), .int .i64 us, .slice (some ⟨g, 0, none⟩) 12 12] 35)
            have sE := heap_alloc_new wE (.cells #[.int .u32 2, .int .u64 ((s1.sq : Int) + 1), .int .u64 (s1.sq : Int), .int .i64 (s1.head : Int), .int .i64 us, .slice (some ⟨g, 0, none⟩) 12 12] 35)
            have rE := (bE.block _ (lt_of_heap hrow)).trans hrow
            have GS := hG2.low bE
            have STT := state_any GS.jat
            rw [f1] at STT
            have STT := Lib.hid STT
            have hq1 : (s1.sq : Int) ≤ 281474976710655 := by have := hG2.jat.sq; omega
            have H7 := Lib.hid (And.intro hH2 (And.intro f1 (And.intro f2 f4)))
            have G7 := Lib.hid GS
            have R7 := Lib.hid (And.intro sE rE)
            clear SC he2 hge hrow hG2 hH2 bE sE rE GS hH1 f1 f2 f4
            go_wp2_with fail
            generalize hpS : wE.heap.size = pS at R7 ⊢
            clear hpS
            generalize wE.alloc (.cells #[.int .u32 2, .int .u64 ((s1.sq : Int) + 1), .int .u64 (s1.sq : Int), .int .i64 (s1.head : Int), .int .i64 us, .slice (some ⟨g, 0, none⟩) 12 12] 35) = wF at R7 G7 STT ⊢
            refine STT.out.mono ?_
            rintro e wG ⟨⟨gT, rfl, hgT, hrT⟩, hbG⟩
            have bG : Below wF.heap.size wF (wG.alloc (.cells #[.int .u32 (s1.ep : Int), .int .u64 (s1.st : Int), .int .u64 (s1.sq : Int), .int .i64 (s1.head : Int), .int .i64 (s1.used : Int), .slice (some ⟨gT, 0, none⟩) 12 12] 35)) := hbG.alloc hbG.size _
            have G8 := Lib.hid (G7.out.low bG)
            have R8 := Lib.hid (And.intro ((bG.block _ (lt_of_heap R7.out.1)).trans R7.out.1) (And.intro ((bG.block _ (lt_of_heap R7.out.2)).trans R7.out.2)
              (And.intro (heap_alloc_new wG (.cells #[.int .u32 (s1.ep : Int), .int .u64 (s1.st : Int), .int .u64 (s1.sq : Int), .int .i64 (s1.head : Int), .int .i64 (s1.used : Int), .slice (some ⟨gT, 0, none⟩) 12 12] 35)) ((((Below.refl wG.heap.size wG).alloc (Nat.le_refl _) (.cells #[.int .u32 (s1.ep : Int), .int .u64 (s1.st : Int), .int .u64 (s1.sq : Int), .int .i64 (s1.head : Int), .int .i64 (s1.used : Int), .slice (some ⟨gT, 0, none⟩) 12 12] 35)).block _ (lt_of_heap hrT)).trans hrT))))
            obtain ⟨z1, z2, z3, z4⟩ := R8.out
            have x0 : (wG.alloc (.cells #[.int .u32 (s1.ep : Int), .int .u64 (s1.st : Int), .int .u64 (s1.sq : Int), .int .i64 (s1.head : Int), .int .i64 (s1.used : Int), .slice (some ⟨gT, 0, none⟩) 12 12] 35)).cell? ⟨pS, 0, none⟩ = some (.int .u32 2) := cell_of_row _ pS 0 _ _ _ z1
            have x1 : (wG.alloc (.cells #[.int .u32 (s1.ep : Int), .int .u64 (s1.st : Int), .int .u64 (s1.sq : Int), .int .i64 (s1.head : Int), .int .i64 (s1.used : Int), .slice (some ⟨gT, 0, none⟩) 12 12] 35)).cell? ⟨pS, 1, none⟩ = some (.int .u64 ((s1.sq : Int) + 1)) := cell_of_row _ pS 1 _ _ _ z1
            have x2 : (wG.alloc (.cells #[.int .u32 (s1.ep : Int), .int .u64 (s1.st : Int), .int .u64 (s1.sq : Int), .int .i64 (s1.head : Int), .int .i64 (s1.used : Int), .slice (some ⟨gT, 0, none⟩) 12 12] 35)).cell? ⟨pS, 2, none⟩ = some (.int .u64 (s1.sq : Int)) := cell_of_row _ pS 2 _ _ _ z1
            have x3 : (wG.alloc (.cells #[.int .u32 (s1.ep : Int), .int .u64 (s1.st : Int), .int .u64 (s1.sq : Int), .int .i64 (s1.head : Int), .int .i64 (s1.used : Int), .slice (some ⟨gT, 0, none⟩) 12 12] 35)).cell? ⟨pS, 3, none⟩ = some (.int .i64 (s1.head : Int)) := cell_of_row _ pS 3 _ _ _ z1
            have x4 : (wG.alloc (.cells #[.int .u32 (s1.ep : Int), .int .u64 (s1.st : Int), .int .u64 (s1.sq : Int), .int .i64 (s1.head : Int), .int .i64 (s1.used : Int), .slice (some ⟨gT, 0, none⟩) 12 12] 35)).cell? ⟨pS, 4, none⟩ = some (.int .i64 us) := cell_of_row _ pS 4 _ _ _ z1
            have x5 : (wG.alloc (.cells #[.int .u32 (s1.ep : Int), .int .u64 (s1.st : Int), .int .u64 (s1.sq : Int), .int .i64 (s1.head : Int), .int .i64 (s1.used : Int), .slice (some ⟨gT, 0, none⟩) 12 12] 35)).cell? ⟨pS, 5, none⟩ = some (.slice (some ⟨g, 0, none⟩) 12 12) := cell_of_row _ pS 5 _ _ _ z1
            have y2 : (wG.alloc (.cells #[.int .u32 (s1.ep : Int), .int .u64 (s1.st : Int), .int .u64 (s1.sq : Int), .int .i64 (s1.head : Int), .int .i64 (s1.used : Int), .slice (some ⟨gT, 0, none⟩) 12 12] 35)).cell? ⟨wG.heap.size, 2, none⟩ = some (.int .u64 (s1.sq : Int)) := cell_of_row _ wG.heap.size 2 _ _ _ z3
            have y3 : (wG.alloc (.cells #[.int .u32 (s1.ep : Int), .int .u64 (s1.st : Int), .int .u64 (s1.sq : Int), .int .i64 (s1.head : Int), .int .i64 (s1.used : Int), .slice (some ⟨gT, 0, none⟩) 12 12] 35)).cell? ⟨wG.heap.size, 3, none⟩ = some (.int .i64 (s1.head : Int)) := cell_of_row _ wG.heap.size 3 _ _ _ z3
            have y4 : (wG.alloc (.cells #[.int .u32 (s1.ep : Int), .int .u64 (s1.st : Int), .int .u64 (s1.sq : Int), .int .i64 (s1.head : Int), .int .i64 (s1.used : Int), .slice (some ⟨gT, 0, none⟩) 12 12] 35)).cell? ⟨wG.heap.size, 4, none⟩ = some (.int .i64 (s1.used : Int)) := cell_of_row _ wG.heap.size 4 _ _ _ z3
            have hq0 : (0 : Int) ≤ (s1.sq : Int) := by omega
            have hwq : IntKind.u64.wrap ((s1.sq : Int) + 1) = (s1.sq : Int) + 1 := by rw [IntKind.wrap_u64]; omega
            have hus2 : decide ((s1.used : Int) < us) = false := decide_eq_false (by omega)
            have hus3 : ¬ (s1.used : Int) < us := by omega
            clear z1 z2 z3 z4 STT hgT hrT hbG bG
            go_wp2_with fail
            generalize hpT : wG.heap.size = pT at R8 ⊢
            clear hpT x0 x1 x2 x3 x4 x5 y2 y3 y4
            generalize wG.alloc (.cells #[.int .u32 (s1.ep : Int), .int .u64 (s1.st : Int), .int .u64 (s1.sq : Int), .int .i64 (s1.head : Int), .int .i64 (s1.used : Int), .slice (some ⟨gT, 0, none⟩) 12 12] 35) = wH at R8 G8 ⊢
            go_loopw [17] (fun i wr9 => ∃ k9 : Nat, k9 ≤ 12 ∧ i = .int .i64 k9 ∧ Below wH.heap.size wH wr9) (fun i _ => 12 - (intOf i).toNat)
            case atStart => exact ⟨0, Nat.zero_le _, rfl, Below.refl _ wH⟩
            case round =>
              obtain ⟨k9, hk9, rfl, hb9⟩ := hrel
              have H9 := Lib.hid hb9
              by_cases hlt9 : k9 < 12
              · have hlt9' : (k9 : Int) < 12 := by omega
                obtain ⟨z1, z2, z3, z4⟩ := R8.out
                have q1 := (hb9.block _ (lt_of_heap z1)).trans z1
                have q2 := (hb9.block _ (lt_of_heap z2)).trans z2
                have q3 := (hb9.block _ (lt_of_heap z3)).trans z3
                have q4 := (hb9.block _ (lt_of_heap z4)).trans z4
                have x5 : wr.cell? ⟨pS, 5, none⟩ = some (.slice (some ⟨g, 0, none⟩) 12 12) := cell_of_row _ pS 5 _ _ _ q1
                have y5 : wr.cell? ⟨pT, 5, none⟩ = some (.slice (some ⟨gT, 0, none⟩) 12 12) := cell_of_row _ pT 5 _ _ _ q3
                have x6 : wr.cell? ⟨g, k9, none⟩ = some (.int .i64 (Tb.enc (s1.a k9))) := by rw [cell_of_row _ g k9 _ _ _ q2]; simpa using Tb.rowT_get s1.a hlt9
                have y6 : wr.cell? ⟨gT, k9, none⟩ = some (.int .i64 (Tb.enc (s1.a k9))) := by rw [cell_of_row _ gT k9 _ _ _ q4]; simpa using Tb.rowT_get s1.a hlt9
                generalize Tb.enc (s1.a k9) = en at x6 y6
                clear q1 q2 q3 q4 z1 z2 z3 z4 hb9
                go_wp2_with fail
                go_region
                go_wp2_with fail
                exact ⟨⟨k9 + 1, by omega, by go_num, H9.out.drew⟩, by simp [intOf]; omega⟩
              · obtain rfl : k9 = 12 := by omega
                have G10 := Lib.hid ((G8.out.low hb9).more (c' := 4 * (k + 1)) (by omega))
                clear hb9
                try rw [show ((12 : Nat) : Int) = 12 from rfl]
                go_wp2_with fail
                exact ⟨⟨k + 1, _, _, _, _, _, _, by omega, by go_num, G10.out, H7.out.1, H7.out.2.1, H7.out.2.2.1, H7.out.2.2.2⟩, by simp [intOf]; omega⟩
    · have hkk : n0 ≤ 50 ∧ k = n0 ∧ (n0 : Int) ≤ 50 ∨ 50 < n0 ∧ k = 50 ∧ (50 : Int) < (n0 : Int) := by omega
      have BE := Lib.hid hG.below
      clear hG hH hsN hsP hsl hlt hk
      rcases hkk with ⟨h5, rfl, h6⟩ | ⟨h5, rfl, h6⟩
      all_goals
        try rw [show ((50 : Nat) : Int) = 50 from rfl]
        go_wp2_with fail
        go_ret
        exact ⟨rfl, BE.out⟩
end Jn
end Go.Proofs.YthapggobpfcmjaaGreat

set_option maxRecDepth 100000
namespace Go.Proofs.YthapggobpfcmjaaGreat
namespace Jn
open Go.ChangeShapes Go.WideShapes Go.ChangeAt Go.RowKit

section
variable {H : Type} {enc : TypeId × Value → H} {P : Program}
/-- What a slice of numbers is that lies in a cell of what came in. -/
theorem cell_nums {k : IntKind} {W : World} {t e : TypeId} {u : Value} {n : Nat} {y : DataW H × List MemPlace} (ht : P.underlying t = some (.slice e)) (he : P.underlying e = some (.int k)) (hc : P.cellsOf e = 1)
    (hf : DataW.trod enc P W 0 (fun _ => true) true n t [u] = some y) :
    ∃ l g a cap, u = .slice a l.length cap ∧ NV k W u l g ∧ l.length ≤ maxLen := by
  rcases open_ints ht he hc hf with ⟨hcs, hx⟩ | ⟨a, len', cap', zs, hcs, _, hl, hm, hz, hx, hcell, hwz⟩
  · obtain rfl : u = .slice none 0 0 := by simpa using hcs
    exact ⟨[], 0, none, 0, rfl, ⟨⟨none, 0, rfl, Nat.le_refl _, fun _ => rfl, fun h => absurd rfl h⟩, fun h => absurd rfl h⟩, Nat.zero_le _⟩
  · obtain rfl : u = .slice (some a) len' cap' := by simpa using hcs
    simp only [if_true] at hz
    by_cases h0 : len' = 0
    · subst h0
      exact ⟨[], 0, some a, cap', rfl, ⟨⟨some a, cap', rfl, Nat.zero_le _, (fun h => by cases h), fun h => absurd rfl h⟩, fun h => absurd rfl h⟩, Nat.zero_le _⟩
    · obtain ⟨b, off, rfl, hc2⟩ := ints_at hcell (by omega)
      have hlen : (zs.take len').length = len' := by rw [List.length_take]; omega
      refine ⟨zs.take len', b, some ⟨b, off, none⟩, cap', by rw [hlen], ⟨⟨_, cap', by rw [hlen], by rw [hlen]; exact hl, (fun h => by cases h), fun _ => ⟨off, rfl, fun i hi => ?_⟩⟩, fun _ => ?_⟩, by rw [hlen]; omega⟩
      · rw [hlen] at hi
        rw [hc2 i (by omega)]
        simp [List.getD, List.getElem?_eq_getElem (show i < zs.length by omega)]
      · have := hc2 0 (by omega)
        exact World.block_lt_of_cell? W ⟨b, off + 0, none⟩ this
theorem cell_told {k : IntKind} {W : World} {t e : TypeId} {a : Option Addr} {len cap n : Nat} {y : DataW H × List MemPlace} (ht : P.underlying t = some (.slice e)) (he : P.underlying e = some (.int k)) (hc : P.cellsOf e = 1)
    (hf : DataW.trod enc P W 0 (fun _ => true) true n t [.slice a len cap] = some y) : len ≠ 0 → ∃ el sp, y.1 = .slice el sp ∧ len ≤ el.length := by
  intro h0
  rcases open_ints ht he hc hf with ⟨hcs, hx⟩ | ⟨a', len', cap', zs, hcs, _, hl, hm, hz, hx, hcell, hwz⟩
  · obtain ⟨-, rfl, -⟩ : a = none ∧ len = 0 ∧ cap = 0 := by simpa using hcs
    exact absurd rfl h0
  · obtain ⟨rfl, rfl, rfl⟩ : a = some a' ∧ len = len' ∧ cap = cap' := by simpa using hcs
    simp only [if_true] at hz
    exact ⟨_, _, congrArg Prod.fst hx, by simp [lits]; omega⟩
end
theorem arg_table {H : Type} {enc : TypeId × Value → H} {W : World} {base : Nat} {v : Value} {d : DataW H} {p : List MemPlace} (hv : Value.okWide Tryz.prog W .any base 22 v) (h : DataW.Trod enc Tryz.prog W 0 (fun _ => true) true 22 v d p)
    (hw : ∀ n ∈ d.weights Tryz.prog 22, n ≤ reachBytes) :
    ∃ a n c, v = .slice a n c ∧ n ≤ 140737488355328 ∧ ∀ i, i < n → ∃ vids ids g, RowAt W a i vids ids g := by
  obtain ⟨a0, len, cap, rfl⟩ := okWide_slice Tryz.underlying22 hv
  obtain ⟨fuel, hf⟩ := h
  refine ⟨a0, len, cap, rfl, ?_⟩
  rcases Deep.open_slice1 Tryz.underlying22 (by kernel_rfl) hf with ⟨hcs, hx⟩ | ⟨a, len', cap', m, n, V, D, Pl, hcs, _, hl, hm, hmm, hx, hi⟩
  · have e1 : a0 = none ∧ len = 0 ∧ cap = 0 := by simpa [Value.cells] using hcs
    obtain ⟨rfl, rfl, rfl⟩ := e1
    exact ⟨by omega, fun i hi => by omega⟩
  · have e1 : a0 = some a ∧ len = len' ∧ cap = cap' := by simpa [Value.cells] using hcs
    obtain ⟨rfl, rfl, rfl⟩ := e1
    simp only [if_true] at hmm
    subst hmm
    have hd : d = .slice ((List.range len).map D) ((List.range (m - len)).map fun j => D (len + j)) := congrArg Prod.fst hx
    refine ⟨?_, fun i hil => ?_⟩
    · have := weight_nums (P := Tryz.prog) (n := 24) (l := List.replicate len 0) Tryz.underlying22 (by kernel_rfl) (fun _ => ⟨_, _, hd, by simp⟩) hw
      simp only [List.length_replicate] at this
      omega
    · obtain ⟨hc, ht⟩ := hi i (by omega)
      have hspot : a.spot = none := by
        have := World.cell?_spot (hi 0 (by omega)).1
        simpa [Addr.add] using this
      obtain ⟨b, off, spot⟩ := a
      simp only at hspot
      subst hspot
      obtain ⟨l, gl, al, cl, he, hnv, -⟩ := cell_nums (k := .i64) Tryz.underlying33 Tryz.underlying3 (by kernel_rfl) ht
      rw [he] at ht
      have htold := cell_told (k := .i64) Tryz.underlying33 Tryz.underlying3 (by kernel_rfl) ht
      have hwi : ∀ n ∈ (D i).weights Tryz.prog 33, n ≤ reachBytes := fun n hn => by
        refine hw n ?_
        rw [hd, DataW.weights, Tryz.underlying22]
        simp only [List.mem_cons, List.mem_append]
        exact .inr (.inl (weightsAll_mem (List.mem_map_of_mem (List.mem_range.2 hil)) hn))
      have hwt := weight_nums (P := Tryz.prog) (n := 8) (l := l) Tryz.underlying33 (by kernel_rfl) (fun hl => htold (fun e => hl (List.eq_nil_of_length_eq_zero e))) hwi
      refine ⟨V i, l, gl, ⟨b, off, rfl, ?_⟩, hnv, by omega⟩
      rw [← hc, Go.WideShapes.add_plain]
end Jn
end Go.Proofs.YthapggobpfcmjaaGreat

