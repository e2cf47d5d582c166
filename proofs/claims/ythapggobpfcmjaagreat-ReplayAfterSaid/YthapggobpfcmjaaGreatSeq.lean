/- A range over a function whose rounds all go on: which values come, and when, is known ahead; the function may range over others itself. No condition. -/
import Derived.Test.YthapggobpfcmjaaGreatMem
import Derived.RangeFuncBox
import Derived.RangeFuncNested
import Derived.Lib.Hide
set_option maxRecDepth 100000
namespace Go.Proofs.YthapggobpfcmjaaGreat
open Go.RowKit

/-- A step leaves alone whatever is neither in G nor a row of T. -/
def KeeF (G : Nat → Prop) (T : TypeId) (W : World) (k : Nat) : Prop := G k ∨ ∃ c f, W.heap[k]? = some (.cells c T f)
def Kee (G : Nat → Prop) (T : TypeId) (W W' : World) : Prop := Touch (KeeF G T W) W W'
theorem not_kee {G : Nat → Prop} {T t : TypeId} {W : World} {k : Nat} {c : Array Value} {f : Nat × Nat} (hG : ¬ G k) (hk : W.heap[k]? = some (.cells c t f)) (ht : t ≠ T) : ¬ KeeF G T W k := by
  rintro (h | ⟨c', f', h⟩)
  · exact hG h
  · rw [hk] at h; cases h; exact ht rfl
theorem not_kee' {G : Nat → Prop} {T : TypeId} {W : World} {k : Nat} {o : Obj} (hG : ¬ G k) (hk : W.heap[k]? = some o) (ho : o.isCells = false) : ¬ KeeF G T W k := by
  rintro (h | ⟨c', f', h⟩)
  · exact hG h
  · rw [hk] at h; cases h; cases ho
theorem Kee.of_touch {G : Nat → Prop} {T : TypeId} {W W' : World} (h : Touch G W W') : Kee G T W W' := h.mono fun _ _ hk => .inl hk
theorem Kee.refl (G : Nat → Prop) (T : TypeId) (W : World) : Kee G T W W := Touch.refl _ _
theorem Kee.mono {G G' : Nat → Prop} {T : TypeId} {W W' : World} (h : Kee G T W W') (hG : ∀ k, G k → G' k) : Kee G' T W W' := Touch.mono h fun k _ hk => hk.imp (hG k) id
theorem Kee.trans {G : Nat → Prop} {T : TypeId} {A B C : World} (h : Kee G T A B) (h' : Kee G T B C) : Kee G T A C := by
  refine Touch.trans h h' ?_
  rintro k (hk | ⟨c, f, hk⟩) hlt
  · exact .inl hk
  · by_cases hA : KeeF G T A k
    · exact hA
    · exact .inr ⟨c, f, ((Touch.block h k hlt hA).symm.trans hk)⟩

/-- A function hands out these values, in this order, to a loop whose rounds all go on; J k: what holds when k of them are over. -/
def SeqOn {α : Type} (F : Fence) (n : Nat) (P : Program) (gf : Nat) (lb : Array Value) (encs : α → Array Value) (vs : List α) (Kp : World → World → Prop) (w : World) : Prop :=
  ∀ (l : Nat) (J : Nat → World → Prop) (W : World), Below w.heap.size w W → w.heap.size + 2 ≤ W.heap.size → OwnFrom W.heap.size J →
    (∀ k (h : k < vs.length) W1, J k W1 → YieldAt F (n - 1) P l (encs vs[k]) W1 fun e W' => e = .returned (.bool true) ∧ J (k + 1) W' ∧ Kp W1 W') →
    J 0 W → CallsIn F n P gf (#[.func (.yield l) #[] #[]] ++ lb) W fun e W' => (∃ v, e = .returned v) ∧ J vs.length W'

/-- How a round must end. -/
def RoundOn (B : Nat) (Kp : World → World → Prop) (I : Nat → World → Prop) (k : Nat) (W : World) : Exit → Act → World → Prop
  | .normal, _, W' => KeepsFrom B W W' ∧ Kp W W' ∧ I (k + 1) W'
  | _, _, _ => False

/-- The two blocks that an outermost loop keeps for itself. -/
structure Book (p : Nat) (r : Loop) (W : World) : Prop where
  def_ : W.heap[p]? = some (.deferred (some []))
  rec_ : W.heap[p + 1]? = some (.loop r)
theorem Book.grown {p : Nat} {r : Loop} {W W' : World} {row : Option Nat} (h : Book p r W) (hg : W.grownBy W' row) (hr : ∀ k, row = some k → p + 2 ≤ k) : Book p r W' :=
  ⟨(hg.block p (lt_of_heap h.def_) fun e => by have := hr p e.symm; omega).trans h.def_, (hg.block (p + 1) (lt_of_heap h.rec_) fun e => by have := hr (p + 1) e.symm; omega).trans h.rec_⟩
theorem Book.turn {p : Nat} {r r' : Loop} {W : World} (h : Book p r W) : Book p r' (W.putObj (p + 1) (.loop r')) :=
  ⟨(World.putObj_heap_other (by omega)).trans h.def_, World.putObj_heap_same (lt_of_heap h.rec_)⟩
theorem Book.keeps {p : Nat} {r : Loop} {W W' : World} (h : Book p r W) (hk : KeepsFrom p W W') : Book p r W' :=
  ⟨hk.same p _ (Nat.le_refl _) h.def_ rfl, hk.same (p + 1) _ (by omega) h.rec_ rfl⟩

section
variable {F : Fence} {n : Nat} {P : Program}
theorem wpIn_range_on {α : Type} {g : Operand} {ps : Array Tmp} {assign body : Code} {Q : Exit → Act → World → Prop} {a : Act} {w : World}
    (hro : F.round = none) (h1 : 1 ≤ n) {gf : Nat} {lb : Array Value} (hg : a.eval g = .func (.func gf) #[] lb) (hFg : F.fn gf) (eg : ∀ args w, (callFunc gf args).run P w = .ok (.enter gf args) w)
    {encs : α → Array Value} {vs : List α} {Kp : World → World → Prop} {w0 : World} (hseq : SeqOn F (n - 1) P gf lb encs vs Kp w0)
    (hKt : ∀ {A B C : World}, Kp A B → Kp B C → Kp A C) (hKb : ∀ (W : World) (o : Obj), Kp W (W.putObj (w.heap.size + 1) o)) (hb0 : Below w0.heap.size w0 w) (hps : ∀ x, (encs x).size = ps.size)
    (I : Nat → World → Prop) (hI : OwnFrom w.heap.size I) (h0 : I 0 w) (a₁ : α → Act)
    (hassign : ∀ (l : Nat) (x : α) (W : World) (K : Act → World → Prop), K (a₁ x) W →
      assign.wpIn (F.inRound l) (n - 1 - 1) P (Exit.then K (fun _ _ _ => False)) { tmps := (ps.zip (encs x)).foldl (fun t (p, v) => t.setIfInBounds p v) a.tmps, defers := [] } W)
    (hbody : ∀ (l k : Nat) (x : α) (W : World), vs[k]? = some x → w.heap.size + 2 ≤ W.heap.size → I k W → body.wpIn (F.inRound l) (n - 1 - 1) P (RoundOn w.heap.size Kp I k W) (a₁ x) W)
    (hdone : ∀ (D : Nat) (W : World), w.heap.size ≤ D → I vs.length W → W.heap[D]? = some (.deferred (some [])) → Q .normal { a with defers := { target := .collected D, args := #[] } :: a.defers } W) :
    (Code.rangeFunc g ps assign body).wpIn F n P Q a w := by
  refine wpIn_rangeFunc fun fn hfn => ?_
  rw [hro]
  obtain ⟨p, hp⟩ : ∃ p, w.heap.size = p := ⟨_, rfl⟩
  obtain ⟨rec, hrec⟩ : ∃ rec : LoopState → Loop, ∀ s, rec s = { state := s, pending := none, fn := fn, tmps := a.tmps, params := ps, assign := assign, body := body, defers := p } := ⟨_, fun _ => rfl⟩
  have henter := run_enterLoop_outer (P := P) (w := w) fn a.tmps ps assign body
  have hbook : Book p (rec .ready) ((w.alloc (.deferred (some []))).alloc (.loop (rec .ready))) := by
    refine ⟨(Below.heap_alloc _ _ _ (by simp; omega)).trans (hp ▸ World.alloc_heap_new w _), ?_⟩
    have := World.alloc_heap_new (w.alloc (.deferred (some []))) (.loop (rec .ready))
    rwa [World.size_alloc, hp] at this
  have hI1 : I 0 ((w.alloc (.deferred (some []))).alloc (.loop (rec .ready))) := hI.alloc _ (hI.alloc _ h0)
  have hb1 : Below w0.heap.size w0 ((w.alloc (.deferred (some []))).alloc (.loop (rec .ready))) := hb0.trans ((((Below.refl _ w).alloc (Nat.le_refl _) _).alloc (by simp) _).mono hb0.size)
  have hs1 : ((w.alloc (.deferred (some []))).alloc (.loop (rec .ready))).heap.size = p + 2 := by simp; omega
  rw [hp, ← hrec] at henter
  rw [hp] at hI hKb hbody hdone
  generalize (w.alloc (.deferred (some []))).alloc (.loop (rec .ready)) = W1 at henter hbook hI1 hb1 hs1
  refine ⟨p + 1, [{ target := .collected p, args := #[] }], W1, { target := .fn (.func gf) lb, args := #[.func (.yield (p + 1)) #[] #[]] }, W1, gf, #[.func (.yield (p + 1)) #[] #[]] ++ lb, W1, henter, ?_, ?_, ?_, fun _ => h1, ?_⟩
  · simp only [resolve, hg]
    simp [go_sem]
  · intro f' hf'; simp [Target.leads] at hf'; subst hf'; exact hFg
  · simp [invoke, go_sem, eg]
  refine (hseq (p + 1) (fun k W => I k W ∧ Book p (rec .ready) W) W1 hb1 (by have := hb0.size; omega) (fun s A B row hs hgr hr => ⟨hI s A B row hs.1 hgr (fun r e => ⟨by have := (hr r e).1; omega, (hr r e).2⟩), hs.2.grown hgr (fun k e => by have := (hr k e).1; omega)⟩) ?_ ⟨hI1, hbook⟩).mono ?_
  · rintro k hk W ⟨hi, hb⟩
    have hy := run_yield (P := P) (args := encs vs[k]) hb.rec_ (by rw [hrec]; exact hps _)
    have hbeg := run_beginRound (P := P) hb.rec_ (by rw [hrec])
    simp only [hrec] at hy hbeg
    refine ⟨fn, _, assign, body, hy, roundIn_of_wpIn hfn (hassign _ _ W _ ⟨_, hbeg, ?_⟩)⟩
    have hb2 : Book p (rec .busy) (W.putObj (p + 1) (.loop (rec .busy))) := hb.turn
    have hi2 := hI.putObj (.loop (rec .busy)) hi (by omega) hb.rec_ rfl
    have hk2 := hKb W (.loop (rec .busy))
    have hlt : p + 2 ≤ (W.putObj (p + 1) (.loop (rec .busy))).heap.size := by have := lt_of_heap hb2.rec_; omega
    rw [hrec .busy] at hi2 hk2 hb2 hlt
    refine wpIn_mono (hbody _ k _ _ (List.getElem?_eq_getElem hk) hlt hi2) ?_
    rintro e a3 W3 hpost
    cases e with
    | normal =>
      obtain ⟨h3, hp3, hi3⟩ := hpost
      have hb3 := hb2.keeps h3
      have hend := run_endRound (P := P) none hb3.rec_
      refine ⟨_, _, hend, rfl, ⟨hI.putObj _ hi3 (by omega) hb3.rec_ rfl, ?_⟩, hKt (hKt hk2 hp3) (hKb _ _)⟩
      have := hb3.turn (r' := rec .ready)
      rw [hrec] at this ⊢
      exact this
    | _ => exact hpost.elim
  · rintro e W2 ⟨⟨v, rfl⟩, hi, hb⟩
    have hend := run_endLoop (P := P) hb.rec_ (by rw [hrec]; simp)
    have hpn : (rec .ready).pending = none := by rw [hrec]
    rw [hpn] at hend
    exact ⟨none, _, hend, hdone p _ (Nat.le_refl _) (hI.putObj _ hi (by omega) hb.rec_ rfl) hb.turn.def_⟩
end

end Go.Proofs.YthapggobpfcmjaaGreat
