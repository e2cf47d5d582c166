/- State of a journal. No condition. -/
import Derived.Test.YthapggobpfcmjaaGreatJma
import Derived.Test.YthapggobpfcmjaaGreatTbo
import Derived.ControlIn
import Derived.Outline
set_option maxRecDepth 100000
namespace Go.Proofs.YthapggobpfcmjaaGreat
namespace Jn
open Go.RowKit Go.Shelf

/-- A list of blocks and places, laid into a table one behind the other. -/
def laid (f : Nat → Option Nat) (l : List (Nat × Nat)) : Nat → Option Nat := l.foldl (fun f z => Tb.upd f z.1 (some z.2)) f
theorem laid_snoc (f : Nat → Option Nat) (l : List (Nat × Nat)) (z : Nat × Nat) : laid f (l ++ [z]) = Tb.upd (laid f l) z.1 (some z.2) := by simp [laid]
theorem laid_tells (a : Nat → Option Nat) (n i : Nat) : laid (fun _ => none) (Tb.tells a n) i = if i < n then a i else none := by
  induction n generalizing i with
  | zero => simp [Tb.tells, laid]
  | succ n ih =>
    cases e : a n with
    | none =>
      rw [Tb.tells_none e, ih]
      by_cases h : i = n
      · subst h; simp [e]
      · have h2 : (i < n) = (i < n + 1) := by simp; omega
        simp [h2]
    | some p =>
      rw [Tb.tells_some e, laid_snoc]
      by_cases h : i = n
      · subst h; rw [Tb.upd_same]; simp [e]
      · rw [Tb.upd_other _ _ h, ih]
        have h2 : (i < n) = (i < n + 1) := by simp; omega
        simp [h2]
theorem rowT_congr {n : Nat} {f g : Nat → Option Nat} (h : ∀ i, i < n → f i = g i) : Tb.rowT n f = Tb.rowT n g := by
  unfold Tb.rowT
  apply List.map_congr_left
  intro i hi
  rw [h i (List.mem_range.1 hi)]

abbrev zeroS : Array Value := #[.int .u32 0, .int .u64 0, .int .u64 0, .int .i64 0, .int .i64 0, .slice none 0 0]
abbrev stC (s : JSt) (v : Value) : Array Value := #[.int .u32 (s.ep : Int), .int .u64 (s.st : Int), .int .u64 (s.sq : Int), .int .i64 (s.head : Int), .int .i64 (s.used : Int), v]
/-- While State runs: its result's block, its own state's block. -/
structure StB (w W : World) (A : Ad) (s : JSt) (p : Nat) (v : Value) : Prop where
  lo : w.heap.size ≤ p
  res : W.heap[p]? = some (.cells zeroS 35 (0, 0))
  cur : W.heap[p + 1]? = some (.cells (stC s v) 35 (0, 0))
  jat : JAt W A s
  below : Below w.heap.size w W
section
variable {w W W1 : World} {A : Ad} {s : JSt} {p : Nat} {v : Value} {F : Nat → Prop}
theorem StB.touch (h : StB w W A s p v) (ht : Touch F W W1) (hF : ∀ k, F k → p + 2 ≤ k ∧ ¬ A.own k) : StB w W1 A s p v :=
  ⟨h.lo, ht.at h.res (fun e => by have := (hF _ e).1; omega), ht.at h.cur (fun e => by have := (hF _ e).1; omega), h.jat.touch ht (fun k hk e => (hF k e).2 hk),
    ((Touch.of_below (F := Emp) h.below).trans ht (fun k hk hlt => by have := (hF k hk).1; have := h.lo; omega)).below⟩
theorem StB.alloc (h : StB w W A s p v) (o : Obj) : StB w (W.alloc o) A s p v := h.touch ((Touch.refl Emp W).alloc o) (fun _ h => h.elim)
theorem StB.set (h : StB w W A s p v) (hj : ∀ k, A.own k → k < p) (u : Value) : StB w (W.setCell ⟨p + 1, 5, none⟩ u) A s p u := by
  have ht : Touch (fun k => k = p + 1) W (W.setCell ⟨p + 1, 5, none⟩ u) := (Touch.refl (fun k => k = p + 1) W).setCell (a := ⟨p + 1, 5, none⟩) (.inl rfl) u
  refine ⟨h.lo, ht.at h.res (by omega), ?_, h.jat.touch ht (fun k hk e => by have := hj k hk; omega), ((Touch.of_below (F := Emp) h.below).trans ht (fun k hk hlt => by have := h.lo; omega)).below⟩
  rw [heap_setCell_same _ _ 5 _ _ u h.cur]; rfl
end
theorem set_row {W : World} {g N i x : Nat} {f : Nat → Option Nat} (h : W.heap[g]? = some (.cells (Tb.rowT N f).toArray 3 (0, 0))) : (W.setCell ⟨g, i, none⟩ (.int .i64 (x : Int))).heap[g]? = some (.cells (Tb.rowT N (Tb.upd f i (some x))).toArray 3 (0, 0)) := by
  rw [heap_setCell_same _ _ i _ _ _ h, ← Tb.rowT_set]
  simp [Tb.enc]

/-- Six stores into one block. -/
def six (W : World) (p : Nat) (v0 v1 v2 v3 v4 v5 : Value) : World :=
  (((((W.setCell ⟨p, 0, none⟩ v0).setCell ⟨p, 1, none⟩ v1).setCell ⟨p, 2, none⟩ v2).setCell ⟨p, 3, none⟩ v3).setCell ⟨p, 4, none⟩ v4).setCell ⟨p, 5, none⟩ v5
theorem six_at {W : World} {p : Nat} {t : TypeId} (h : W.heap[p]? = some (.cells zeroS t (0, 0))) (v0 v1 v2 v3 v4 v5 : Value) : (six W p v0 v1 v2 v3 v4 v5).heap[p]? = some (.cells #[v0, v1, v2, v3, v4, v5] t (0, 0)) := by
  have := heap_setCell_same _ p 5 _ _ v5 (heap_setCell_same _ p 4 _ _ v4 (heap_setCell_same _ p 3 _ _ v3 (heap_setCell_same _ p 2 _ _ v2 (heap_setCell_same _ p 1 _ _ v1 (heap_setCell_same _ p 0 _ _ v0 h)))))
  simpa [six] using this
theorem six_touch (W : World) (p : Nat) (v0 v1 v2 v3 v4 v5 : Value) : Touch (fun k => k = p) W (six W p v0 v1 v2 v3 v4 v5) :=
  ((((((Touch.refl (fun k => k = p) W).setCell (a := ⟨p, 0, none⟩) (.inl rfl) v0).setCell (a := ⟨p, 1, none⟩) (.inl rfl) v1).setCell (a := ⟨p, 2, none⟩) (.inl rfl) v2).setCell (a := ⟨p, 3, none⟩) (.inl rfl) v3).setCell (a := ⟨p, 4, none⟩) (.inl rfl) v4).setCell (a := ⟨p, 5, none⟩) (.inl rfl) v5

attribute [local go_sem] Oper.semAt_some

set_option maxHeartbeats 4000000 in
theorem state_any {w : World} {A : Ad} {s : JSt} (h : JAt w A s) :
    Calls Tryz.prog 11 #[.pointer (some ⟨A.J, 0, none⟩)] w fun e w' =>
      (∃ g, e = .returned (.agg #[.int .u32 (s.ep : Int), .int .u64 (s.st : Int), .int .u64 (s.sq : Int), .int .i64 (s.head : Int), .int .i64 (s.used : Int), .slice (some ⟨g, 0, none⟩) s.N s.N]) ∧ w.heap.size ≤ g ∧ w'.heap[g]? = some (.cells (Tb.rowT s.N s.a).toArray 3 (0, 0))) ∧ Below w.heap.size w w' := by
  obtain ⟨c0, c1, c2, c3, c4, c5, c6, c7, c8, c9, c10, c11⟩ := h.cells
  have H := Lib.hid h
  have HO := Lib.hid h.lt
  have hJ : A.J < w.heap.size := h.lt _ (.inl rfl)
  have hJ1 : A.J < w.heap.size + 1 := by omega
  have hJ2 : A.J < w.heap.size + 1 + 1 := by omega
  have hN : s.N ≤ 1048576 := h.tab.mB
  clear h c0 c1 c10 c11
  refine (callsIn_wide (n := 5)).1 ?_
  refine callsIn_of_wp_marks Tryz.func11 rfl trivial ?_ rfl
  simp only [Tryz.ntmps11, List.size_toArray, List.length_cons, List.length_nil, Nat.reduceAdd, Nat.reduceSub, Array.replicate_succ, Array.replicate_zero, List.push_toArray, List.append_toArray, List.nil_append, List.cons_append]
  gi_wp2_with fail
  have SB := Lib.hid (show StB w (((w.alloc (.cells zeroS 35)).alloc (.cells (stC s (.slice none 0 0)) 35)).alloc (.cells #[.int .i64 (-1)] 3)) A s w.heap.size (.slice none 0 0) from
    ⟨Nat.le_refl _, (Below.heap_alloc _ _ _ (by simp; omega)).trans ((Below.heap_alloc _ _ _ (by simp)).trans (heap_alloc_new w _)), (Below.heap_alloc _ _ _ (by simp)).trans (by have := heap_alloc_new (w.alloc (.cells zeroS 35)) (.cells (stC s (.slice none 0 0)) 35); simpa using this),
      ((H.out.alloc _).alloc _).alloc _, (((Below.refl _ w).alloc (Nat.le_refl _) _).alloc (by simp) _).alloc (by simp; omega) _⟩)
  have hm1 : (((w.alloc (.cells zeroS 35)).alloc (.cells (stC s (.slice none 0 0)) 35)).alloc (.cells #[.int .i64 (-1)] 3)).cell? ⟨w.heap.size + 1 + 1, 0, none⟩ = some (.int .i64 (-1)) := by
    have := heap_alloc_new ((w.alloc (.cells zeroS 35)).alloc (.cells (stC s (.slice none 0 0)) 35)) (.cells #[.int .i64 (-1)] 3)
    simp only [World.size_alloc] at this
    rw [cell_of_row _ _ 0 _ _ _ this]; rfl
  have hsz : (((w.alloc (.cells zeroS 35)).alloc (.cells (stC s (.slice none 0 0)) 35)).alloc (.cells #[.int .i64 (-1)] 3)).heap.size = w.heap.size + 3 := by simp
  clear c3 c4 c5 c6 c7 c8 c9 hJ hJ1 hJ2 c2
  generalize ((w.alloc (.cells zeroS 35)).alloc (.cells (stC s (.slice none 0 0)) 35)).alloc (.cells #[.int .i64 (-1)] 3) = W3 at SB hm1 hsz ⊢
  obtain ⟨p, hp⟩ : ∃ p, p = w.heap.size := ⟨_, rfl⟩
  rw [← hp] at SB HO hm1 hsz ⊢
  have HP := Lib.hid hp
  clear hp
  refine ⟨trivial, ?_⟩
  gi_at_call 33
  refine (callsIn_wide.2 (Tb.repeat_one (p + 1 + 1) s.N (-1) W3 hN hm1)).mono ?_
  rintro e w4 ⟨rfl, hr⟩
  have SB4 := Lib.hid (SB.out.touch (Touch.of_below (F := Emp) hr.below) (fun _ h => h.elim))
  have hrow := hr.row
  rw [Tb.none_row, hsz] at hrow
  have HR := Lib.hid hrow
  rw [hsz]
  clear hr hm1 hsz SB hrow W3
  have c5 := cell_of_row _ _ 5 _ _ _ SB4.out.cur
  have f5 := frozen_of_row _ _ 5 _ _ SB4.out.cur
  have c2 := SB4.out.jat.cells.2.2.1
  have hJp : A.J ≠ p + 1 := by have := HO.out _ (.inl rfl); omega
  gi_wp2_with fail
  have S5 := SB4.out.set (fun k hk => HO.out k hk) (.slice (some ⟨p + 3, 0, none⟩) s.N s.N)
  have hR5 : (w4.setCell ⟨p + 1, 5, none⟩ (.slice (some ⟨p + 3, 0, none⟩) s.N s.N)).heap[p + 3]? = some (.cells (Tb.rowT s.N (fun _ => none)).toArray 3 (0, 0)) := by
    rw [heap_setCell_other _ _ _ _ (by simp)]; exact HR.out
  refine ⟨trivial, ?_⟩
  gi_at_call 34
  refine (callsIn_wide.2 (Tb.all_i A.T _)).mono ?_
  rintro e w6 ⟨rfl, rfl⟩
  clear c2 c5 f5 SB4 HR
  generalize w4.setCell ⟨p + 1, 5, none⟩ (.slice (some ⟨p + 3, 0, none⟩) s.N s.N) = W5 at S5 hR5 ⊢
  have SB6 := Lib.hid (S5.alloc (.cells #[.pointer (some ⟨A.T, 0, none⟩)] 70))
  have HR6 := Lib.hid ((Below.heap_alloc W5 (.cells #[.pointer (some ⟨A.T, 0, none⟩)] 70) _ (lt_of_heap hR5)).trans hR5)
  have BX := Lib.hid (Boxed.new W5 70 (.pointer (some ⟨A.T, 0, none⟩)))
  have hq := lt_of_heap hR5
  clear S5 hR5
  generalize W5.alloc (.cells #[.pointer (some ⟨A.T, 0, none⟩)] 70) = W6 at SB6 HR6 BX ⊢
  obtain ⟨q, hq2⟩ : ∃ q, q = W5.heap.size := ⟨_, rfl⟩
  rw [← hq2] at BX hq ⊢
  clear hq2 W5 w4
  gi_wp2_with fail
  have hbq := BX.out.lt
  have hlt := HO.out
  have STP := Lib.hid (Tb.all1_on (5 - 1) (by omega) (fun k => k = p + 3 ∨ k = W6.heap.size + 1) q A.T A.gp A.go s.N s.P s.a s.o
    ⟨by omega, by have := hlt A.T (.inr (.inr (.inl rfl))); omega, by have := hlt A.gp (.inr (.inr (.inr (.inl rfl)))); omega, by have := hlt A.go (.inr (.inr (.inr (.inr rfl)))); omega⟩ W6 BX.out SB6.out.jat.tab)
  refine wpIn_range_on (hro := rfl) (h1 := by omega) (gf := 65) (lb := #[.pointer (some ⟨q, 0, none⟩)]) rfl trivial (enters_of Tryz.func65 (by kernel_rfl) rfl)
    STP.out (fun h1 h2 => h1.trans h2 fun _ h _ => h) (fun W o => Touch.of_grown (grownBy_putObj' W _ o) (fun k e => by cases e; exact .inr rfl)) (Below.refl _ _) (fun _ => rfl)
    (fun k W => StB w W A s p (.slice (some ⟨p + 3, 0, none⟩) s.N s.N) ∧ W.heap[p + 3]? = some (.cells (Tb.rowT s.N (laid (fun _ => none) ((Tb.tells s.a s.N).take k))).toArray 3 (0, 0)))
    (fun k W W' row hI hg hr => by
      have ht : Touch (fun k => W6.heap.size ≤ k) W W' := Touch.of_grown hg fun k e => (hr k e).1
      exact ⟨hI.1.touch ht (fun k hk => ⟨by omega, fun ho => by have := hlt k ho; omega⟩), ht.at hI.2 (by omega)⟩)
    ⟨SB6.out, HR6.out⟩ ?a1 ?assign ?body ?done
  case assign =>
    intro l x W K hK
    simp only [Tb.told2]
    gi_wp2
    exact hK
  case body =>
    rintro l k ⟨x1, x2⟩ W hx hbig ⟨hS, hg⟩
    have hx1 : x1 < s.N := Tb.tells_lt (List.mem_of_getElem? hx)
    have hx1' : (x1 : Int) < (s.N : Int) := by omega
    have c5 := cell_of_row _ _ 5 _ _ _ hS.cur
    have cg := cell_of_row _ _ x1 _ _ _ hg
    have fg := frozen_of_row _ _ x1 _ _ hg
    rw [show (Tb.rowT s.N (laid (fun _ => none) ((Tb.tells s.a s.N).take k))).toArray[x1]? = some (.int .i64 (Tb.enc (laid (fun _ => none) ((Tb.tells s.a s.N).take k) x1))) from by simpa using Tb.rowT_get _ hx1] at cg
    have hS' := hS.touch ((Touch.refl (fun k => k = p + 3) W).setCell (a := ⟨p + 3, x1, none⟩) (.inl rfl) (.int .i64 (x2 : Int))) (fun k hk => ⟨by omega, fun ho => by have := hlt k ho; omega⟩)
    have hg' := set_row (i := x1) (x := x2) hg
    have htk : (Tb.tells s.a s.N).take (k + 1) = (Tb.tells s.a s.N).take k ++ [(x1, x2)] := by rw [List.take_add_one, hx]; rfl
    have HS := Lib.hid hS'
    have HG := Lib.hid (show (W.setCell ⟨p + 3, x1, none⟩ (.int .i64 (x2 : Int))).heap[p + 3]? = some (.cells (Tb.rowT s.N (laid (fun _ => none) ((Tb.tells s.a s.N).take (k + 1)))).toArray 3 (0, 0)) by rw [htk, laid_snoc]; exact hg')
    clear hS hg hx hS' hg' htk
    gi_wp2
    exact ⟨(KeepsOthers.setCell _ _ _).from _, (Touch.refl _ W).setCell (a := ⟨p + 3, x1, none⟩) (.inl (.inl rfl)) _, HS.out, HG.out⟩
  case done =>
    rintro D W hD ⟨hS, hg⟩ hK
    have hc : ∀ i, W.cell? ⟨p + 1, i, none⟩ = (stC s (.slice (some ⟨p + 3, 0, none⟩) s.N s.N))[i]? := fun i => cell_of_row _ _ i _ _ _ hS.cur
    have d0 := hc 0
    have d1 := hc 1
    have d2 := hc 2
    have d3 := hc 3
    have d4 := hc 4
    have d5 := hc 5
    have hf : ∀ i, W.frozen? ⟨p, i, none⟩ = false := fun i => frozen_of_row _ _ i _ _ hS.res
    have e0 := hf 0
    have e1 := hf 1
    have e2 := hf 2
    have e3 := hf 3
    have e4 := hf 4
    have e5 := hf 5
    have hr : ∀ i, W.cell? ⟨p, i, none⟩ = (zeroS)[i]? := fun i => cell_of_row _ _ i _ _ _ hS.res
    have r0 := hr 0
    have r1 := hr 1
    have r2 := hr 2
    have r3 := hr 3
    have r4 := hr 4
    have r5 := hr 5
    simp only [List.getElem?_toArray, List.getElem?_cons_succ, List.getElem?_cons_zero] at d0 d1 d2 d3 d4 d5 r0 r1 r2 r3 r4 r5
    clear hc hf hr
    have HS := Lib.hid hS
    have HG := Lib.hid hg
    have HK := Lib.hid hK
    clear hS hg hK
    gi_wp2
    have hX := six_at HS.out.res (.int .u32 (s.ep : Int)) (.int .u64 (s.st : Int)) (.int .u64 (s.sq : Int)) (.int .i64 (s.head : Int)) (.int .i64 (s.used : Int)) (.slice (some ⟨p + 3, 0, none⟩) s.N s.N)
    have hT := six_touch W p (.int .u32 (s.ep : Int)) (.int .u64 (s.st : Int)) (.int .u64 (s.sq : Int)) (.int .i64 (s.head : Int)) (.int .i64 (s.used : Int)) (.slice (some ⟨p + 3, 0, none⟩) s.N s.N)
    rw [show (((((W.setCell ⟨p, 0, none⟩ (.int .u32 (s.ep : Int))).setCell ⟨p, 1, none⟩ (.int .u64 (s.st : Int))).setCell ⟨p, 2, none⟩ (.int .u64 (s.sq : Int))).setCell ⟨p, 3, none⟩ (.int .i64 (s.head : Int))).setCell ⟨p, 4, none⟩ (.int .i64 (s.used : Int))).setCell ⟨p, 5, none⟩ (.slice (some ⟨p + 3, 0, none⟩) s.N s.N) =
      six W p (.int .u32 (s.ep : Int)) (.int .u64 (s.st : Int)) (.int .u64 (s.sq : Int)) (.int .i64 (s.head : Int)) (.int .i64 (s.used : Int)) (.slice (some ⟨p + 3, 0, none⟩) s.N s.N) from rfl]
    generalize six W p (.int .u32 (s.ep : Int)) (.int .u64 (s.st : Int)) (.int .u64 (s.sq : Int)) (.int .i64 (s.head : Int)) (.int .i64 (s.used : Int)) (.slice (some ⟨p + 3, 0, none⟩) s.N s.N) = W7 at hX hT ⊢
    have hDp : D ≠ p := by
      rintro rfl
      have := HK.out
      rw [HS.out.res] at this
      cases this
    have hK7 : W7.heap[D]? = some (.deferred (some [])) := hT.at HK.out hDp
    have hg7 := hT.at HG.out (by omega)
    refine ⟨by simp, .inl ⟨_, _, rfl, run_takeDeferred hK7, ?_⟩⟩
    have hX8 : (W7.putObj D (.deferred none)).heap[p]? = _ := (World.putObj_heap_other (fun e => hDp e.symm)).trans hX
    have hg8 : (W7.putObj D (.deferred none)).heap[p + 3]? = _ := (World.putObj_heap_other (fun e => by have := HK.out; rw [← e, HG.out] at this; cases this)).trans hg7
    have hlo := HS.out.lo
    have hpl := lt_of_heap SB6.out.res
    have t1 : Touch (fun k => w.heap.size ≤ k) W (W7.putObj D (.deferred none)) := (hT.mono (fun k _ e => by omega)).trans (Touch.of_grown (F := fun k => w.heap.size ≤ k) (grownBy_putObj' W7 D _) (fun k e => by cases e; show w.heap.size ≤ D; omega)) (fun k hk _ => hk)
    have hb8 : Below w.heap.size w (W7.putObj D (.deferred none)) := ((Touch.of_below (F := Emp) HS.out.below).trans t1 (fun k hk hlt => by omega)).below
    have hrow : Tb.rowT s.N (laid (fun _ => none) ((Tb.tells s.a s.N).take (Tb.tells s.a s.N).length)) = Tb.rowT s.N s.a := by
      rw [List.take_length]
      exact rowT_congr fun i hi => by rw [laid_tells, if_pos hi]
    rw [hrow] at hg8
    have k0 := cell_of_row _ _ 0 _ _ _ hX8
    have k1 := cell_of_row _ _ 1 _ _ _ hX8
    have k2 := cell_of_row _ _ 2 _ _ _ hX8
    have k3 := cell_of_row _ _ 3 _ _ _ hX8
    have k4 := cell_of_row _ _ 4 _ _ _ hX8
    have k5 := cell_of_row _ _ 5 _ _ _ hX8
    simp only [List.getElem?_toArray, List.getElem?_cons_succ, List.getElem?_cons_zero] at k0 k1 k2 k3 k4 k5
    refine ⟨.agg (stC s (.slice (some ⟨p + 3, 0, none⟩) s.N s.N)), ?_, ⟨p + 3, rfl, by omega, hg8⟩, hb8⟩
    clear hX8 hg8 hb8 t1 hX hT hK7 hg7 hrow
    simp [results, Tryz.results11, go_sem, k0, k1, k2, k3, k4, k5]

end Jn
end Go.Proofs.YthapggobpfcmjaaGreat
