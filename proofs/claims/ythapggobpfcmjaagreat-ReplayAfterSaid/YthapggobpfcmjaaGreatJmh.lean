/- What has to be written once more: moved. Over a device that is up. -/
import Derived.Test.YthapggobpfcmjaaGreatJmg
import Derived.Test.YthapggobpfcmjaaGreatJmd
set_option maxRecDepth 100000
namespace Go.Proofs.YthapggobpfcmjaaGreat
namespace Jn
open Go.RowKit Go.Shelf

def cellsE (e : WE) : List Value := [.int .i64 e.id, e.v]
theorem cellsE_at : ∀ (E : List WE) (k : Nat) (h : k < E.length), (E.flatMap cellsE)[k * 2]? = some (.int .i64 E[k].id) ∧ (E.flatMap cellsE)[k * 2 + 1]? = some E[k].v
  | [], k, h => by simp at h
  | e :: E, 0, _ => ⟨rfl, rfl⟩
  | e :: E, k + 1, h => by
    have := cellsE_at E k (by simpa using h)
    simp only [List.flatMap_cons, cellsE, List.getElem_cons_succ]
    rw [show (k + 1) * 2 = k * 2 + 2 by omega]
    exact this
/-- A slice of blocks to write that lies among the call's own blocks. -/
structure OwnW (base : Nat) (w : World) (v : Value) (E : List WE) : Prop where
  own : w.ownsRow base 41 2 v E.length (E.flatMap cellsE)
  data : ∀ e ∈ E, BV w e.v e.l e.g ∧ (e.l ≠ [] → base ≤ e.g ∧ ∃ c f, w.heap[e.g]? = some (.cells c 5 f))
theorem OwnW.touch {base : Nat} {w w1 : World} {v : Value} {E : List WE} {G : Nat → Prop} (h : OwnW base w v E) (ht : Touch G w w1) (h1 : ∀ j, v.ownBlock = some j → ¬ G j) (h2 : ∀ e ∈ E, e.l ≠ [] → ¬ G e.g) : OwnW base w1 v E :=
  ⟨ownsRow_touch h.own ht h1, fun e he => ⟨(h.data e he).1.touch ht (h2 e he), fun hl => by
    obtain ⟨hb, c, f, hc⟩ := (h.data e he).2 hl
    exact ⟨hb, c, f, ht.at hc (h2 e he hl)⟩⟩⟩
theorem OwnW.wl {base : Nat} {w : World} {v : Value} {E : List WE} (h : OwnW base w v E) : WL w v E (fun k => base ≤ k ∧ k < w.heap.size) := by
  have hd : ∀ e ∈ E, BV w e.v e.l e.g ∧ (e.l ≠ [] → base ≤ e.g ∧ e.g < w.heap.size) := fun e he => ⟨(h.data e he).1, fun hl => ⟨((h.data e he).2 hl).1, (h.data e he).1.lt hl⟩⟩
  rcases h.own.2 with ⟨rfl, h0⟩ | ⟨g, cap, cur, rfl, hb, hg, hc, -, -, htk⟩
  · obtain rfl : E = [] := List.eq_nil_of_length_eq_zero h0
    exact ⟨⟨none, 0, rfl, by simp, (fun _ => rfl), fun h => absurd rfl h⟩, fun i hi => absurd hi (by simp), hd⟩
  · refine ⟨⟨_, cap, rfl, hc, (fun e => by cases e), fun _ => ⟨g, 0, rfl, hb, lt_of_heap hg⟩⟩, fun i hi g' off cap' e => ?_, hd⟩
    obtain ⟨⟨rfl, rfl⟩, rfl⟩ : (g = g' ∧ 0 = off) ∧ cap = cap' := by simpa using e
    have hcells := h.own.cells (g := g) rfl
    obtain ⟨h1, h2⟩ := cellsE_at E i hi
    have k1 := hcells _ _ h1
    have k2 := hcells _ _ h2
    rw [add_lit] at k1 k2
    simpa using ⟨k1, k2⟩

/-- The blocks that move, of the first k that are live. -/
def mvL (s : JSt) (n : Nat) (bl : List Nat) (k : Nat) : List Nat := ((liveL s n).take k).filter fun id => decide (id ∉ bl)
theorem mvL_in {s : JSt} {n : Nat} {bl : List Nat} {k x : Nat} (hx : (liveL s n)[k]? = some x) (h : x ∈ bl) : mvL s n bl (k + 1) = mvL s n bl k := by
  unfold mvL; rw [List.take_add_one, hx]; simp [h]
theorem mvL_out {s : JSt} {n : Nat} {bl : List Nat} {k x : Nat} (hx : (liveL s n)[k]? = some x) (h : x ∉ bl) : mvL s n bl (k + 1) = mvL s n bl k ++ [x] := by
  unfold mvL; rw [List.take_add_one, hx]; simp [h]

def DSt.more (ds : DSt) (n : Nat) : DSt := { ds with reads := ds.reads + n }
theorem more_zero (ds : DSt) : DSt.more ds 0 = ds := rfl
theorem more_succ (ds : DSt) (n : Nat) : (DSt.more ds n).incR = DSt.more ds (n + 1) := rfl
theorem more_look (ds : DSt) (n a : Nat) : (DSt.more ds n).look a = ds.look a := rfl
theorem more_up {ds : DSt} (h : ds.Up) (n : Nat) : (DSt.more ds n).Up := ⟨h.down, h.armed, h.nod, h.fits⟩

/-- While moved runs: its boxes; what has been read so far. -/
structure Mov (w W : World) (A : Ad) (s : JSt) (F : Nat → Prop) (ds : DSt) (n p m : Nat) (bl : List Nat) (dat : Nat → List UInt8) (v : Value) (E : List WE) (k : Nat) : Prop where
  lo : w.heap.size ≤ p
  bj : Boxed W p 28 (.pointer (some ⟨A.J, 0, none⟩))
  bm : Boxed W (p + 1) 61 (.map (some m))
  r6 : Boxed W (p + 2) 37 (.slice none 0 0)
  r7 : Boxed W (p + 3) 25 (.int .i64 0)
  bx : Boxed W (p + 4) 37 v
  own : OwnW p W v E
  jat : JAt W A s
  dev : DevF W F A.b (DSt.more ds E.length)
  map : ∃ es clk, W.heap[m]? = some (.map es clk) ∧ ISet es bl
  tch : Touch F w W
  says : E.map (fun e => (e.id, e.l)) = (mvL s n bl k).map fun (id : Nat) => ((id : Int), dat id)

theorem Tryz.infoW : (Tryz.prog.info? 41).map (fun i => (i.zero, i.size, i.bytes)) = some (some (.agg #[.int .i64 0, .slice none 0 0]), 2, 32) := by kernel_rfl
theorem own_succ {w : World} {base n size : Nat} {e : TypeId} {v : Value} {xs : List Value} (h : w.ownsRow base e size v (n + 1) xs) : ∃ g cap, v = .slice (some ⟨g, 0, none⟩) (n + 1) cap := by
  rcases h.2 with ⟨_, h0⟩ | ⟨g, cap, cur, rfl, _⟩
  · omega
  · exact ⟨g, cap, rfl⟩
/-- Behind an append of one block to write, and the store of the longer slice. -/
theorem app_step {X w1 : World} {p b : Nat} {v v' : Value} {E : List WE} {e : WE} (hb : Boxed X b 37 v) (hpb : p ≤ b) (hown : OwnW p X v E) (he : BV X e.v e.l e.g ∧ (e.l ≠ [] → p ≤ e.g ∧ ∃ c f, X.heap[e.g]? = some (.cells c 5 f)))
    (hown' : w1.ownsRow p 41 2 v' (E.length + 1) (E.flatMap cellsE ++ cellsE e)) (hgrow : (X.alloc (.cells #[.int .i64 e.id, e.v] 41)).grownBy w1 v.ownBlock) :
    OwnW p (w1.setCell ⟨b, 0, none⟩ v') v' (E ++ [e]) ∧ Boxed w1 b 37 v ∧ Boxed (w1.setCell ⟨b, 0, none⟩ v') b 37 v' ∧ KeepsOthers X (w1.setCell ⟨b, 0, none⟩ v') ∧ Touch (fun j => j = b ∨ v.ownBlock = some j) X (w1.setCell ⟨b, 0, none⟩ v') ∧
      ∀ G : Nat → Prop, G b → Kee G 41 X (w1.setCell ⟨b, 0, none⟩ v') := by
  have hpX : p ≤ X.heap.size := by have := hb.lt; omega
  obtain ⟨a1, a2, a3, a4, -⟩ := hb.appended (by decide) hown.own hpX hpb hown' hgrow
  have ht : Touch (fun j => j = b ∨ v.ownBlock = some j) X (w1.setCell ⟨b, 0, none⟩ v') :=
    (((Touch.refl (fun j => j = b ∨ v.ownBlock = some j) X).alloc _).trans (Touch.of_grown (F := fun j => j = b ∨ v.ownBlock = some j) hgrow (fun k e => .inr e)) (fun _ h _ => h)).setCell (a := ⟨b, 0, none⟩) (.inl (.inl rfl)) v'
  have hne : ∀ (g : Nat) (c : Array Value) (f : Nat × Nat), X.heap[g]? = some (.cells c 5 f) → ¬ (g = b ∨ v.ownBlock = some g) := by
    rintro g c f hg (rfl | ho)
    · have hb' : X.heap[g]? = _ := hb
      rw [hg] at hb'
      simp at hb'
    · obtain ⟨cur, hc⟩ := ownsRow_block hown.own ho
      rw [hg] at hc
      simp at hc
  refine ⟨⟨by simpa using a3, fun x hx => ?_⟩, a1, a2, a4, ht, fun G hG => ht.mono ?_⟩
  · have hx' : BV X x.v x.l x.g ∧ (x.l ≠ [] → p ≤ x.g ∧ ∃ c f, X.heap[x.g]? = some (.cells c 5 f)) := (List.mem_append.1 hx).elim (hown.data x) fun h => by rw [List.mem_singleton.1 h]; exact he
    refine ⟨hx'.1.touch ht (fun hl => ?_), fun hl => ?_⟩
    · obtain ⟨-, c, f, hc⟩ := hx'.2 hl
      exact hne _ c f hc
    · obtain ⟨h1, c, f, hc⟩ := hx'.2 hl
      exact ⟨h1, c, f, ht.at hc (hne _ c f hc)⟩
  · rintro k - (rfl | ho)
    · exact .inl hG
    · obtain ⟨cur, hc⟩ := ownsRow_block hown.own ho
      exact .inr ⟨cur, _, hc⟩
/-- A step that leaves alone what moved stands on. -/
theorem Mov.touch {w W W1 : World} {A : Ad} {s : JSt} {F G : Nat → Prop} {ds : DSt} {n p m : Nat} {bl : List Nat} {dat : Nat → List UInt8} {v : Value} {E : List WE} {k : Nat} (h : Mov w W A s F ds n p m bl dat v E k) (ht : Touch G W W1)
    (h0 : ∀ j, G j → w.heap.size ≤ j ∧ j ≠ p ∧ j ≠ p + 1 ∧ j ≠ p + 2 ∧ j ≠ p + 3 ∧ j ≠ p + 4 ∧ ¬ A.own j ∧ ¬ F j ∧ j ≠ m) (h1 : ∀ j, v.ownBlock = some j → ¬ G j) (h2 : ∀ e ∈ E, e.l ≠ [] → ¬ G e.g) : Mov w W1 A s F ds n p m bl dat v E k := by
  refine ⟨h.lo, ht.at h.bj (fun e => (h0 _ e).2.1 rfl), ht.at h.bm (fun e => (h0 _ e).2.2.1 rfl), ht.at h.r6 (fun e => (h0 _ e).2.2.2.1 rfl), ht.at h.r7 (fun e => (h0 _ e).2.2.2.2.1 rfl), ht.at h.bx (fun e => (h0 _ e).2.2.2.2.2.1 rfl),
    h.own.touch ht h1 h2, h.jat.touch ht (fun j hj e => (h0 _ e).2.2.2.2.2.2.1 hj), h.dev.touch ht (fun j hj e => (h0 _ e).2.2.2.2.2.2.2.1 hj), ?_, h.tch.trans ht (fun j hj hlt => absurd (h0 j hj).1 (by omega)), h.says⟩
  obtain ⟨es, clk, e1, e2⟩ := h.map
  exact ⟨es, clk, ht.at e1 (fun e => (h0 _ e).2.2.2.2.2.2.2.2 rfl), e2⟩
theorem Mov.alloc {w W : World} {A : Ad} {s : JSt} {F : Nat → Prop} {ds : DSt} {n p m : Nat} {bl : List Nat} {dat : Nat → List UInt8} {v : Value} {E : List WE} {k : Nat} (h : Mov w W A s F ds n p m bl dat v E k) (o : Obj) : Mov w (W.alloc o) A s F ds n p m bl dat v E k :=
  h.touch (G := Emp) ((Touch.refl Emp W).alloc o) (fun _ h => h.elim) (fun _ _ h => h.elim) (fun _ _ _ h => h.elim)
theorem Mov.len {w W : World} {A : Ad} {s : JSt} {F : Nat → Prop} {ds : DSt} {n p m : Nat} {bl : List Nat} {dat : Nat → List UInt8} {v : Value} {E : List WE} {k : Nat} (h : Mov w W A s F ds n p m bl dat v E k) : E.length ≤ k ∧ E.length ≤ n := by
  have h1 := congrArg List.length h.says
  simp only [List.length_map] at h1
  have h2 : (mvL s n bl k).length ≤ ((liveL s n).take k).length := List.length_filter_le _ _
  have h3 : (liveL s n).length ≤ n := by
    have := List.length_filterMap_le (fun i => s.o ((tl s + i) % s.P)) (List.range n)
    simpa [liveL] using this
  simp only [List.length_take] at h2
  omega
theorem live_place {w : World} {A : Ad} {s : JSt} (h : JAt w A s) {n k x : Nat} (hx : (liveL s n)[k]? = some x) : ∃ q, s.a x = some q ∧ x < s.N ∧ q < s.P := by
  obtain ⟨i, -, hi⟩ := List.mem_filterMap.1 (List.mem_of_getElem? hx)
  have ha := (h.tab.good.back x _).2 hi
  exact ⟨_, ha, h.tab.good.lt x _ ha⟩

attribute [local go_sem] Oper.semAt_some

set_option maxHeartbeats 4000000 in
theorem moved_any {w : World} {A : Ad} {s : JSt} {F : Nat → Prop} {ds : DSt} (h : JAt w A s) (hD : DevF w F A.b ds) (hoff : ∀ k, A.own k → ¬ F k) (hb : s.broken = false) (hu : ds.Up) (n m : Nat) (hn : n ≤ s.P)
    (hf : (DSt.more ds n).Fit) (hsec : s.P + 1 ≤ ds.secs.length) (dat : Nat → List UInt8) (hh : ∀ id p, s.a id = some p → Holds ds p id (dat id)) (bl : List Nat) (hm : ∃ es clk, w.heap[m]? = some (.map es clk) ∧ ISet es bl) (hmF : ¬ F m) :
    Calls Tryz.prog 26 #[.pointer (some ⟨A.J, 0, none⟩), .int .i64 (n : Int), .map (some m)] w fun e w' =>
      ∃ v E, e = .returned (.tuple #[v, .int .i64 0]) ∧ OwnW w.heap.size w' v E ∧ E.map (fun e => (e.id, e.l)) = (mvL s n bl (liveL s n).length).map (fun (id : Nat) => ((id : Int), dat id)) ∧
        Touch F w w' ∧ DevF w' F A.b (DSt.more ds E.length) ∧ JAt w' A s := by
  have hJ : A.J < w.heap.size := h.lt _ (.inl rfl)
  have H := Lib.hid h
  have HD := Lib.hid hD
  have HO := Lib.hid hoff
  have HH := Lib.hid hh
  have HM := Lib.hid hm
  have HU := Lib.hid hu
  have HF := Lib.hid hf
  clear h hD hoff hh hm hu hf
  refine (callsIn_wide (n := 5)).1 ?_
  refine callsIn_of_wp_marks Tryz.func26 rfl trivial ?_ rfl
  simp only [Tryz.ntmps26, List.size_toArray, List.length_cons, List.length_nil, Nat.reduceAdd, Nat.reduceSub, Array.replicate_succ, Array.replicate_zero, List.push_toArray, List.append_toArray, List.nil_append, List.cons_append]
  gi_wp2_with fail
  have e1 : (w.alloc (.cells #[.pointer (some ⟨A.J, 0, none⟩)] 28)).heap.size = w.heap.size + 1 := by simp
  have e2 : ((w.alloc (.cells #[.pointer (some ⟨A.J, 0, none⟩)] 28)).alloc (.cells #[.map (some m)] 61)).heap.size = w.heap.size + 2 := by simp
  have e3 : (((w.alloc (.cells #[.pointer (some ⟨A.J, 0, none⟩)] 28)).alloc (.cells #[.map (some m)] 61)).alloc (.cells #[.slice none 0 0] 37)).heap.size = w.heap.size + 3 := by simp
  have e4 : ((((w.alloc (.cells #[.pointer (some ⟨A.J, 0, none⟩)] 28)).alloc (.cells #[.map (some m)] 61)).alloc (.cells #[.slice none 0 0] 37)).alloc (.cells #[.int .i64 0] 25)).heap.size = w.heap.size + 4 := by simp
  have b1 := ((((Boxed.new w 28 (.pointer (some ⟨A.J, 0, none⟩))).alloc (.cells #[.map (some m)] 61)).alloc (.cells #[.slice none 0 0] 37)).alloc (.cells #[.int .i64 0] 25)).alloc (.cells #[.slice none 0 0] 37)
  have b2 := (((Boxed.new (w.alloc (.cells #[.pointer (some ⟨A.J, 0, none⟩)] 28)) 61 (.map (some m))).alloc (.cells #[.slice none 0 0] 37)).alloc (.cells #[.int .i64 0] 25)).alloc (.cells #[.slice none 0 0] 37)
  have b3 := ((Boxed.new ((w.alloc (.cells #[.pointer (some ⟨A.J, 0, none⟩)] 28)).alloc (.cells #[.map (some m)] 61)) 37 (.slice none 0 0)).alloc (.cells #[.int .i64 0] 25)).alloc (.cells #[.slice none 0 0] 37)
  have b4 := (Boxed.new (((w.alloc (.cells #[.pointer (some ⟨A.J, 0, none⟩)] 28)).alloc (.cells #[.map (some m)] 61)).alloc (.cells #[.slice none 0 0] 37)) 25 (.int .i64 0)).alloc (.cells #[.slice none 0 0] 37)
  have b5 := Boxed.new ((((w.alloc (.cells #[.pointer (some ⟨A.J, 0, none⟩)] 28)).alloc (.cells #[.map (some m)] 61)).alloc (.cells #[.slice none 0 0] 37)).alloc (.cells #[.int .i64 0] 25)) 37 (.slice none 0 0)
  rw [e1] at b2
  rw [e2] at b3
  rw [e3] at b4
  rw [e4] at b5
  have bb : Below w.heap.size w (((((w.alloc (.cells #[.pointer (some ⟨A.J, 0, none⟩)] 28)).alloc (.cells #[.map (some m)] 61)).alloc (.cells #[.slice none 0 0] 37)).alloc (.cells #[.int .i64 0] 25)).alloc (.cells #[.slice none 0 0] 37)) :=
    (((((Below.refl _ w).alloc (Nat.le_refl _) _).alloc (by simp) _).alloc (by simp; omega) _).alloc (by simp; omega) _).alloc (by simp; omega) _
  clear e1 e2 e3 e4
  generalize ((((w.alloc (.cells #[.pointer (some ⟨A.J, 0, none⟩)] 28)).alloc (.cells #[.map (some m)] 61)).alloc (.cells #[.slice none 0 0] 37)).alloc (.cells #[.int .i64 0] 25)).alloc (.cells #[.slice none 0 0] 37) = W5 at b1 b2 b3 b4 b5 bb ⊢
  obtain ⟨p, hp⟩ : ∃ p, p = w.heap.size := ⟨_, rfl⟩
  have M0 : Mov w W5 A s F ds n p m bl dat (.slice none 0 0) [] 0 := by
    rw [← hp] at b1 b2 b3 b4 b5
    refine ⟨by omega, b1, b2, b3, b4, b5, ⟨World.ownsRow_nil _ _ _ _, by simp⟩, H.out.below bb, HD.out.below bb, ?_, Touch.of_below bb, by simp [mvL]⟩
    obtain ⟨es, clk, h1, h2⟩ := HM.out
    exact ⟨es, clk, (bb.block m (lt_of_heap h1)).trans h1, h2⟩
  simp only [show w.heap.size + 1 + 1 = w.heap.size + 2 from rfl, show w.heap.size + 1 + 1 + 1 = w.heap.size + 3 from rfl, show w.heap.size + 1 + 1 + 1 + 1 = w.heap.size + 4 from rfl]
  rw [← hp]
  have HP := Lib.hid hp
  clear b1 b2 b3 b4 b5 bb hp
  refine ⟨trivial, ?_⟩
  gi_at_call 54
  refine (callsIn_wide.2 (live_any M0.jat n)).mono ?_
  rintro e w2 ⟨bj, bt, bn, rfl, hla, hbj, hbt, hbn, hb2⟩
  have M2 : Mov w w2 A s F ds n p m bl dat (.slice none 0 0) [] 0 := by
    have ht : Touch Emp W5 w2 := Touch.of_below hb2
    refine ⟨M0.lo, ht.at M0.bj id, ht.at M0.bm id, ht.at M0.r6 id, ht.at M0.r7 id, ht.at M0.bx id, ⟨World.ownsRow_nil _ _ _ _, by simp⟩, M0.jat.below hb2, M0.dev.below hb2, ?_, M0.tch.trans (G := Emp) ht (fun _ h _ => h.elim), M0.says⟩
    obtain ⟨es, clk, h1, h2⟩ := M0.map
    exact ⟨es, clk, ht.at h1 id, h2⟩
  have hlt5 : p + 5 ≤ W5.heap.size := by have := M0.bx.lt; omega
  have HB := Lib.hid (show p + 5 ≤ bj ∧ p + 5 ≤ bt ∧ p + 5 ≤ bn ∧ p + 5 ≤ w2.heap.size from ⟨by omega, by omega, by omega, by have := hb2.size; omega⟩)
  have LA := Lib.hid hla
  have M2 := Lib.hid M2
  clear M0 hla hbj hbt hbn hb2 hlt5
  gi_wp2_with fail
  have STP := Lib.hid (live1_on (fun k => F k ∨ k = p + 4 ∨ k = w2.heap.size + 1) 41 ⟨by decide, by decide, by decide, by decide, by decide, by decide, by decide⟩ bj bt bn n A s hn w2 LA.out M2.out.jat
    (by
      have hbj := HB.out.1
      have hw2 := HB.out.2.2.2
      have hpw := HP.out
      rintro k (hk | rfl | rfl)
      · refine ⟨by have := M2.out.dev.lt k hk; omega, fun ho => HO.out k ho hk, ?_⟩
        have := HD.out.lt k hk
        omega
      · exact ⟨by omega, fun ho => by have := H.out.lt _ ho; omega, by omega⟩
      · refine ⟨by omega, fun ho => by have := M2.out.jat.lt _ ho; omega, ?_⟩
        have := LA.out.j.lt
        omega))
  refine wpIn_range_on (hro := rfl) (h1 := by omega) (gf := 86) (lb := #[.pointer (some ⟨bj, 0, none⟩), .pointer (some ⟨bt, 0, none⟩), .pointer (some ⟨bn, 0, none⟩)]) rfl trivial (enters_of Tryz.func86 (by kernel_rfl) rfl)
    STP.out (fun h1 h2 => h1.trans h2) (fun W o => Kee.of_touch (Touch.of_grown (grownBy_putObj' W _ o) (fun k e => by cases e; exact .inr (.inr rfl)))) (Below.refl _ _) (fun _ => rfl)
    (fun k W' => ∃ v E, Mov w W' A s F ds n p m bl dat v E k)
    (by
      rintro k X X' row ⟨v, E, hI⟩ hg hr
      have hpw := HP.out
      have hw2 := HB.out.2.2.2
      obtain ⟨es, clk, hm, -⟩ := HM.out
      have hml := lt_of_heap hm
      refine ⟨v, E, hI.touch (G := fun k => row = some k) (Touch.of_grown hg fun k e => e) ?_ ?_ ?_⟩
      · intro j hj
        have hrj := (hr j hj).1
        have n1 := fun k (hk : A.own k) => H.out.lt k hk
        have n2 := fun k (hk : F k) => HD.out.lt k hk
        refine ⟨by omega, by omega, by omega, by omega, by omega, by omega, fun ho => by have := n1 j ho; omega, fun hf => by have := n2 j hf; omega, by omega⟩
      · intro j hj hrow
        obtain ⟨cur, hc⟩ := ownsRow_block hI.own.own hj
        exact not_turned hc hr hrow
      · intro e he hl hrow
        obtain ⟨-, c, f, hc⟩ := (hI.own.data e he).2 hl
        exact not_turned hc hr hrow)
    ⟨_, _, M2.out⟩ ?a1 ?assign ?body ?done
  case assign =>
    intro l x W K hK
    gi_wp2
    exact hK
  case body =>
    rintro l2 k x X hx hbig ⟨v, E, hI⟩
    have c5 := hI.bm.cell
    obtain ⟨es, clk, hm, hs⟩ := hI.map
    have hlu := look_any hs (x : Int) X hm
    by_cases hxb : x ∈ bl
    · rw [decide_eq_true (by simpa using hxb)] at hlu
      have HI := Lib.hid (show ∃ v E, Mov w (X.alloc (.cells #[] 69)) A s F ds n p m bl dat v E (k + 1) from ⟨v, E, { hI.alloc (.cells #[] 69) with says := by rw [mvL_in hx hxb]; exact hI.says }⟩)
      clear hI hm hs hx hbig
      gi_wp2
      exact ⟨(KeepsOthers.alloc X _).from _, Kee.of_touch ((Touch.refl _ X).alloc _), HI.out⟩
    · rw [decide_eq_false (by simpa using hxb)] at hlu
      have hA := hI.alloc (.cells #[] 69)
      obtain ⟨q, hq, hxN, hqP⟩ := live_place hI.jat hx
      have hle := hI.len
      have hEl : E.length ≤ 1048576 := by have := hle.2; have := H.out.pm; omega
      have hlv : k < (liveL s n).length := (List.getElem?_eq_some_iff.1 hx).1
      have RD := Lib.hid (read_has hA.jat hA.dev HO.out hb (more_up HU.out _) (by
        have := HF.out
        simp only [DSt.Fit, DSt.more] at this ⊢
        omega) hsec x q hxN hq (dat x) ((HH.out x q hq).imp id fun ⟨t, h1, h2, h3, h4⟩ => ⟨t, h1, h2, h3, h4⟩))
      have HI := Lib.hid hA
      have HS := Lib.hid (mvL_out hx hxb)
      have c3 := hI.bj.cell
      have hpX := hI.bj.lt
      have HXS := Lib.hid hbig
      clear hI hm hs hx hbig hA hq
      obtain ⟨i0, hi, hz0, hz1, hz2⟩ := info_parts Tryz.infoW
      gi_wp2_with fail
      refine ⟨trivial, ?_⟩
      gi_at_call 16
      refine (CallsIn.inRound l2 (callsIn_wide.2 RD.out)).mono ?_
      rintro e X2 ⟨⟨v', rfl, hv'⟩, ht, hd⟩
      obtain ⟨g3, cap3, rfl, hcap, hbase, hoa⟩ := hv'
      have hpw := HP.out
      have hFp : ∀ j, F j → j < p := fun j hj => by have := HD.out.lt j hj; omega
      have hMX := HI.out
      have hBX : Boxed X2 (p + 4) 37 v := ht.at hMX.bx (fun h => by have := hFp _ h; omega)
      have hOW : OwnW p X2 v E := hMX.own.touch ht (fun j hj hf => by
        have h1 := (hMX.own.own.lt j hj).1
        have h2 := hFp j hf
        omega) (fun e he hl hf => by
        have h1 := ((hMX.own.data e he).2 hl).1
        have h2 := hFp _ hf
        omega)
      have hbv : BV X2 (.slice (some ⟨g3, 0, none⟩) (dat x).length cap3) (dat x) g3 := hoa.bv _ cap3 rfl hcap
      have hb8 := hBX.cell
      have hnew : ∀ j u, ([.int .i64 (x : Int), .slice (some ⟨g3, 0, none⟩) (dat x).length cap3] : List Value)[j]? = some u → (X2.alloc (.cells #[.int .i64 (x : Int), .slice (some ⟨g3, 0, none⟩) (dat x).length cap3] 41)).cell? ((⟨X2.heap.size, 0, none⟩ : Addr).add j) = some u := fun j u hj => by
        rw [add_lit, cell_of_row _ _ j _ _ _ (heap_alloc_new X2 _)]
        simpa using hj
      have HN := Lib.hid hnew
      have HXX := Lib.hid (And.intro ht hd)
      have HB2 := Lib.hid hBX
      have HOW := Lib.hid hOW
      have HBV := Lib.hid (And.intro hbv (fun _ : dat x ≠ [] => (show p ≤ g3 ∧ ∃ c f, X2.heap[g3]? = some (.cells c 5 f) from ⟨by have h : (X.alloc (.cells #[] 69)).heap.size ≤ g3 := hbase; simp at h; omega, by obtain ⟨cur, hc, -⟩ := hoa; exact ⟨cur, _, hc⟩⟩)))
      have hX2 : p + 4 < X2.heap.size := hBX.lt
      clear ht hd hoa hMX hBX hOW hbv hnew hbase hpw hFp
      gi_wp2_with (gi_at_builtin; refine wpListIn_append_own _ rfl _ _ 37 rfl p 41 i0 (.agg #[.int .i64 0, .slice none 0 0]) 2 32 Tryz.underlying37 hi hz0 hz1 hz2 rfl (by decide) _ _ _ rfl (HOW.out.own.alloc _) ⟨X2.heap.size, 0, none⟩ 1 1 [.int .i64 (x : Int), .slice (some ⟨g3, 0, none⟩) (dat x).length cap3] rfl rfl HN.out (by simp [Value.oneCell']) (by simp only [maxLen]; omega) (by omega) (by simp; omega) ?_; intro v'' w1 hown' hgrow _; obtain ⟨g4, cap4, rfl⟩ := own_succ hown'; obtain ⟨a1, a2, a3, a4, a5, a6⟩ := app_step (e := ⟨(x : Int), .slice (some ⟨g3, 0, none⟩) (dat x).length cap3, dat x, g3⟩) HB2.out (by omega) HOW.out HBV.out hown' hgrow; have hc1 := a2.cell; have hf1 := a2.frozen; have HZ := Lib.hid (And.intro a1 (And.intro a3 (And.intro a4 (And.intro a5 a6)))); clear a1 a2 a3 a4 a5 a6 hown' hgrow)
      obtain ⟨z1, z2, z3, z4, z5⟩ := HZ.out
      obtain ⟨ht, hd⟩ := HXX.out
      have hMX := HI.out
      have hpw := HP.out
      have hFp : ∀ j, F j → j < p := fun j hj => by have := HD.out.lt j hj; omega
      have hown : ∀ j, v.ownBlock = some j → p ≤ j := fun j hj => (hMX.own.own.lt j hj).1
      have hw2 := HB.out.2.2.2
      refine ⟨⟨?_, ?_⟩, ?_, .slice (some ⟨g4, 0, none⟩) (E.length + 1) cap4, E ++ [⟨(x : Int), .slice (some ⟨g3, 0, none⟩) (dat x).length cap3, dat x, g3⟩], ?_⟩
      · have e1 := ht.size
        have e2 := z4.size
        simp only [World.size_alloc] at e1
        omega
      · intro j o hj hjo hoc
        have e1 : X2.heap[j]? = some o := ht.at ((Below.heap_alloc _ _ _ (lt_of_heap hjo)).trans hjo) (fun hf => by have := hFp j hf; omega)
        exact z3.same j o e1 hoc
      · exact (Kee.of_touch ((Touch.refl _ X).alloc (.cells #[] 69))).trans ((Kee.of_touch (ht.mono fun _ _ hf => .inl hf)).trans (z5 _ (.inr (.inl rfl))))
      · have hq : ∀ j, (j = p + 4 ∨ v.ownBlock = some j) → p ≤ j ∧ ¬ F j := fun j hj => by
          have : p ≤ j := hj.elim (fun e => by omega) (hown j)
          exact ⟨this, fun hf => by have := hFp j hf; omega⟩
        have hqo : ∀ j, A.own j → ¬ (j = p + 4 ∨ v.ownBlock = some j) := fun j hj hh => by
          have := (hq j hh).1
          have := H.out.lt j hj
          omega
        have hbx : ∀ (j : Nat) (t : TypeId) (u : Value), Boxed X2 j t u → j ≠ p + 4 → t ≠ 41 → ¬ (j = p + 4 ∨ v.ownBlock = some j) := by
          rintro j t u hb hj ht2 (h | h)
          · exact hj h
          · obtain ⟨cur, hc⟩ := ownsRow_block HOW.out.own h
            have hb' : X2.heap[j]? = _ := hb
            rw [hc] at hb'
            simp at hb'
            exact ht2 hb'.2.symm
        have f1 : ∀ j, p ≤ j → ¬ F j := fun j hj hf => by have := hFp j hf; omega
        have g0 : Boxed X2 p _ _ := ht.at hMX.bj (f1 p (by omega))
        have g1 : Boxed X2 (p + 1) _ _ := ht.at hMX.bm (f1 _ (by omega))
        have g2 : Boxed X2 (p + 2) _ _ := ht.at hMX.r6 (f1 _ (by omega))
        have g3' : Boxed X2 (p + 3) _ _ := ht.at hMX.r7 (f1 _ (by omega))
        obtain ⟨es2, clk2, hm2, hs2⟩ := hMX.map
        obtain ⟨es0, clk0, hm0, -⟩ := HM.out
        have hml := lt_of_heap hm0
        refine ⟨hMX.lo, z4.at g0 (hbx _ _ _ g0 (by omega) (by decide)), z4.at g1 (hbx _ _ _ g1 (by omega) (by decide)), z4.at g2 (hbx _ _ _ g2 (by omega) (by decide)), z4.at g3' (hbx _ _ _ g3' (by omega) (by decide)), z2, z1,
          (hMX.jat.touch ht HO.out).touch z4 hqo, ?_, ⟨es2, clk2, z4.at (ht.at hm2 hmF) (fun hh => by have := (hq m hh).1; omega), hs2⟩, (hMX.tch.trans ht (fun _ h _ => h)).trans z4 (fun j hj hlt => by have := (hq j hj).1; omega), ?_⟩
        · have := hd.touch z4 (fun j hj hh => (hq j hh).2 hj)
          rw [List.length_append]
          exact this
        · rw [HS.out, List.map_append, List.map_append, hMX.says]
          rfl
  case done =>
    rintro D X hD ⟨v, E, hI⟩ hK
    have k8 := hI.bx.cell
    have k6 := hI.r6.frozen
    have k6c := hI.r6.cell
    have k7 := hI.r7.frozen
    have k7c := hI.r7.cell
    have HI := Lib.hid hI
    have HK := Lib.hid hK
    have HE := Lib.hid (show v = .slice none 0 0 ∧ E.length = 0 ∨ ∃ g cap, v = .slice (some ⟨g, 0, none⟩) E.length cap from hI.own.own.2.imp id (fun ⟨g, cap, _, e, _⟩ => ⟨g, cap, e⟩))
    clear hI hK
    have fin : ∀ (V : World), V = ((X.setCell ⟨p + 2, 0, none⟩ v).setCell ⟨p + 3, 0, none⟩ (.int .i64 0)) → V.heap[D]? = some (.deferred (some [])) ∧ (V.putObj D (.deferred none)).cell? ⟨p + 2, 0, none⟩ = some v ∧ (V.putObj D (.deferred none)).cell? ⟨p + 3, 0, none⟩ = some (.int .i64 0) ∧
        OwnW w.heap.size (V.putObj D (.deferred none)) v E ∧ E.map (fun e => (e.id, e.l)) = (mvL s n bl (liveL s n).length).map (fun (id : Nat) => ((id : Int), dat id)) ∧ Touch F w (V.putObj D (.deferred none)) ∧ DevF (V.putObj D (.deferred none)) F A.b (DSt.more ds E.length) ∧ JAt (V.putObj D (.deferred none)) A s := by
      rintro V rfl
      have hpw := HP.out
      have hI := HI.out
      have hD := HK.out
      have q2 : X.heap[p + 2]? = _ := hI.r6
      have q3 : X.heap[p + 3]? = _ := hI.r7
      have d2 : D ≠ p + 2 := by rintro rfl; rw [hD] at q2; cases q2
      have d3 : D ≠ p + 3 := by rintro rfl; rw [hD] at q3; cases q3
      have t1 : Touch (fun j => j = p + 2 ∨ j = p + 3) X ((X.setCell ⟨p + 2, 0, none⟩ v).setCell ⟨p + 3, 0, none⟩ (.int .i64 0)) := ((Touch.refl (fun j => j = p + 2 ∨ j = p + 3) X).setCell (a := ⟨p + 2, 0, none⟩) (.inl (.inl rfl)) v).setCell (a := ⟨p + 3, 0, none⟩) (.inl (.inr rfl)) _
      have x2 := ((hI.r6.set v).other (B' := p + 3) (by omega) (.int .i64 0))
      have x3 := ((hI.r7.other (B' := p + 2) (by omega) v).set (.int .i64 0))
      have hDV := t1.at hD (by omega)
      have t2 : Touch (fun j => j = p + 2 ∨ j = p + 3 ∨ j = D) X (((X.setCell ⟨p + 2, 0, none⟩ v).setCell ⟨p + 3, 0, none⟩ (.int .i64 0)).putObj D (.deferred none)) :=
        (t1.mono fun k _ h => h.elim .inl fun h => .inr (.inl h)).trans (Touch.of_grown (F := fun j => j = p + 2 ∨ j = p + 3 ∨ j = D) (grownBy_putObj' _ D _) (fun k e => by cases e; exact .inr (.inr rfl))) (fun _ h _ => h)
      have hne : ∀ (g : Nat) (c : Array Value) (t : TypeId) (f : Nat × Nat), X.heap[g]? = some (.cells c t f) → t ≠ 37 → t ≠ 25 → ¬ (g = p + 2 ∨ g = p + 3 ∨ g = D) := by
        rintro g c t f hg h1 h2 (rfl | rfl | rfl)
        · rw [hg] at q2; simp at q2; exact h1 q2.2.1
        · rw [hg] at q3; simp at q3; exact h2 q3.2.1
        · rw [hg] at hD; cases hD
      have hwD := hD
      have hDlt : p + 5 ≤ D := by have := HB.out.2.2.2; omega
      generalize (X.setCell ⟨p + 2, 0, none⟩ v).setCell ⟨p + 3, 0, none⟩ (.int .i64 0) = V at *
      have y2 : Boxed (V.putObj D (.deferred none)) (p + 2) _ _ := (World.putObj_heap_other (by omega)).trans x2
      have y3 : Boxed (V.putObj D (.deferred none)) (p + 3) _ _ := (World.putObj_heap_other (by omega)).trans x3
      refine ⟨hDV, y2.cell, y3.cell, ?_, hI.says, hI.tch.trans t2 (fun j hj hlt => by omega), hI.dev.touch t2 (fun j hj hh => by have := HD.out.lt j hj; omega), hI.jat.touch t2 (fun j hj hh => by have := H.out.lt j hj; omega)⟩
      rw [← hpw]
      exact hI.own.touch t2 (fun j hj => by obtain ⟨cur, hc⟩ := ownsRow_block hI.own.own hj; exact hne j _ _ _ hc (by decide) (by decide)) (fun e he hl => by obtain ⟨-, c, f, hc⟩ := (hI.own.data e he).2 hl; exact hne _ _ _ _ hc (by decide) (by decide))
    have FIN := Lib.hid fin
    clear fin
    rcases HE.out with ⟨rfl, h0⟩ | ⟨g5, cap5, rfl⟩
    · gi_wp2
      obtain ⟨hK', y2, y3, hfin⟩ := FIN.out _ rfl
      refine ⟨by simp, .inl ⟨_, _, rfl, run_takeDeferred hK', ?_⟩⟩
      refine ⟨.tuple #[.slice none 0 0, .int .i64 0], ?_, ⟨.slice none 0 0, rfl, E, hfin⟩⟩
      simp [results, Tryz.results26, go_sem, y2, y3]
    · gi_wp2
      obtain ⟨hK', y2, y3, hfin⟩ := FIN.out _ rfl
      refine ⟨by simp, .inl ⟨_, _, rfl, run_takeDeferred hK', ?_⟩⟩
      refine ⟨.tuple #[.slice (some ⟨g5, 0, none⟩) E.length cap5, .int .i64 0], ?_, ⟨_, E, rfl, hfin⟩⟩
      simp [results, Tryz.results26, go_sem, y2, y3]

end Jn
end Go.Proofs.YthapggobpfcmjaaGreat
