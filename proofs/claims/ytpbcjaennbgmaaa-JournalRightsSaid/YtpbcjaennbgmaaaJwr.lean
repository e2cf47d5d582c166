/- The laws' helper 'writes': of a step, the blocks that it writes. -/
import Derived.Test.YtpbcjaennbgmaaaJsh
import Derived.Test.YtpbcjaennbgmaaaNum
import Derived.Deep.Onto
set_option maxRecDepth 100000
namespace Go.Proofs.Ytpbcjaennbgmaaa
namespace Jn
open Go.RowKit

theorem byteI_wrap (x : Int) (i : Nat) : byteI (IntKind.i64.wrap x + i) = byteI (x + i) := by
  unfold byteI
  rw [IntKind.wrap_i64]
  congr 2
  omega
theorem blk_wrap (x : Int) : blk (IntKind.i64.wrap x) = blk x := by
  unfold blk blkR
  refine List.map_congr_left fun i _ => ?_
  by_cases h : i < 480
  · rw [if_pos h, if_pos h, byteI_wrap]
  · rw [if_neg h, if_neg h]

section
variable {w : World} {base : Nat} {v v' : Value} {E : List WE} {e : WE}
/-- Behind an append of one block to write. -/
theorem app_w {w1 : World} (hown : OwnW base w v E) (he : BV w e.v e.l e.g ∧ (e.l ≠ [] → base ≤ e.g ∧ ∃ c f, w.heap[e.g]? = some (.cells c 5 f)))
    (hown' : w1.ownsRow base 44 2 v' (E.length + 1) (E.flatMap cellsE ++ cellsE e)) (hgrow : w.grownBy w1 v.ownBlock) : OwnW base w1 v' (E ++ [e]) ∧ Touch (fun j => v.ownBlock = some j) w w1 ∧ ∀ (g : Nat) (c : Array Value) (f : Nat × Nat), w.heap[g]? = some (.cells c 5 f) → w1.heap[g]? = some (.cells c 5 f) := by
  have ht : Touch (fun j => v.ownBlock = some j) w w1 := Touch.of_grown hgrow (fun k e => e)
  have hne : ∀ (g : Nat) (c : Array Value) (f : Nat × Nat), w.heap[g]? = some (.cells c 5 f) → ¬ (v.ownBlock = some g) := by
    intro g c f hg ho
    obtain ⟨cur, hc⟩ := ownsRow_block hown.own ho
    rw [hg] at hc
    simp at hc
  refine ⟨⟨by simpa using hown', fun x hx => ?_⟩, ht, fun g c f hg => ht.at hg (hne g c f hg)⟩
  have hx' : BV w x.v x.l x.g ∧ (x.l ≠ [] → base ≤ x.g ∧ ∃ c f, w.heap[x.g]? = some (.cells c 5 f)) := (List.mem_append.1 hx).elim (hown.data x) fun h => by rw [List.mem_singleton.1 h]; exact he
  refine ⟨hx'.1.touch ht (fun hl => ?_), fun hl => ?_⟩
  · obtain ⟨-, c, f, hc⟩ := hx'.2 hl
    exact hne _ c f hc
  · obtain ⟨h1, c, f, hc⟩ := hx'.2 hl
    exact ⟨h1, c, f, ht.at hc (hne _ c f hc)⟩
theorem step_append_w {ops : Array Oper} {o : Oper} {a : Act} {K : Act → World → Prop} {Q : Exit → Act → World → Prop} {C : Prop} (hgd : o.guard = none) (s x : Operand)
    (ho : o.op = .call { callee := .builtin .append, args := #[s, x], argTypes := #[37, 37] })
    (hs : a.eval s = v) (hown : OwnW base w v E) (e : WE) (gx : Nat) (hx : a.eval x = .slice (some ⟨gx, 0, none⟩) 1 1) (hcell : w.heap[gx]? = some (.cells #[.int .i64 e.id, e.v] 44 (0, 0)))
    (he : BV w e.v e.l e.g ∧ (e.l ≠ [] → base ≤ e.g ∧ ∃ c f, w.heap[e.g]? = some (.cells c 5 f))) (hlen : E.length ≤ 1048576) (hbase : base ≤ w.heap.size)
    (h : ∀ v' w', OwnW base w' v' (E ++ [e]) → Touch (fun j => v.ownBlock = some j) w w' → (∀ (g : Nat) (c : Array Value) (f : Nat × Nat), w.heap[g]? = some (.cells c 5 f) → w'.heap[g]? = some (.cells c 5 f)) → K (a.put o.dst v') w') :
    if Region.wanted o (yielded ops a.tmps) = true then Oper.wp Try.prog o a w K Q else C := by
  have hw : Region.wanted o (yielded ops a.tmps) = true := by simp [Region.wanted, hgd]
  rw [if_pos hw]
  obtain ⟨i0, hi, hz0, hz1, hz2⟩ := info_parts Try.infoW
  obtain ⟨da, dcap, hdv, -⟩ := he.1.form
  refine wp_append_own w s x 37 ho base 44 i0 (.agg #[.int .i64 0, .slice none 0 0]) 2 32 Try.underlying37 hi hz0 hz1 hz2 rfl (by decide) v E.length (E.flatMap cellsE) hs hown.own ⟨gx, 0, none⟩ 1 1 [.int .i64 e.id, e.v] hx (by simp) (fun j u hj => ?_) (by rw [hdv]; simp [Value.oneCell']) (by simp only [maxLen]; omega) (by omega) hbase fun v' w' h2 h3 _ => ?_
  · rw [add_lit, cell_of_row _ _ j _ _ _ hcell]
    simpa using hj
  · obtain ⟨a1, a2, a3⟩ := app_w hown he h2 h3
    exact h v' w' a1 a2 a3
end

/-- Each block to write lies in a row of its own kind, whole. -/
def FormE (w : World) (E : List WE) : Prop := ∀ e ∈ E, e.v = .slice (some ⟨e.g, 0, none⟩) 480 480 ∧ ∃ c, w.heap[e.g]? = some (.cells c 5 (0, 0)) ∧ c.size = 480
structure WsI (w : World) (p : Nat) (vids : Value) (ids : List Int) (g : Nat) (d n : Int) (v : Value) (E : List WE) (k : Nat) (wr : World) : Prop where
  box : wr.heap[p]? = some (.cells #[vids, .int .i64 d, .int .i64 n] 40 (0, 0))
  nv : NV .i64 wr vids ids g
  own : OwnW (p + 1) wr v E
  form : FormE wr E
  says : E.map (·.id) = ids.take k
  dat : ∀ i (h : i < E.length), E[i].l = blk (d + i)
  len : E.length = k
  lo : ids ≠ [] → g < p
  size : p + 1 ≤ wr.heap.size
  below : Below p w wr

set_option maxHeartbeats 4000000 in
theorem writes_any {w : World} {vids : Value} {ids : List Int} {g : Nat} (d n : Int) (hv : NV .i64 w vids ids g) :
    Calls Try.prog 21 #[.agg #[vids, .int .i64 d, .int .i64 n]] w fun e w' =>
      (∃ v E, e = .returned v ∧ OwnW w.heap.size w' v E ∧ FormE w' E ∧ E.map (·.id) = ids.take 30 ∧ (∀ i (h : i < E.length), E[i].l = blk (d + i)) ∧ E.length = min ids.length 30) ∧ Below w.heap.size w w' := by
  obtain ⟨a, cap, rfl, -⟩ := hv.form
  obtain ⟨p, hp⟩ : ∃ p, p = w.heap.size := ⟨_, rfl⟩
  have W0 := Lib.hid (show WsI w p (.slice a ids.length cap) ids g d n (.slice none 0 0) [] 0 (w.alloc (.cells #[.slice a ids.length cap, .int .i64 d, .int .i64 n] 40)) from by
    rw [hp]
    exact ⟨heap_alloc_new w _, hv.alloc _, ⟨World.ownsRow_nil _ _ _ _, by simp⟩, by intro e he; simp at he, rfl, fun i h => by simp at h, rfl, fun hl => hv.lt hl, by simp, (Below.refl _ w).alloc (Nat.le_refl _) _⟩)
  clear hv
  go_enter Try.func21, Try.ntmps21
  go_wp2
  rw [← hp]
  generalize w.alloc (.cells #[.slice a ids.length cap, .int .i64 d, .int .i64 n] 40) = W at W0 ⊢
  have HP := Lib.hid hp
  clear hp
  go_loopw [3, 4] (fun v i wr => ∃ (k : Nat) (E : List WE), k ≤ min ids.length 30 ∧ i = .int .i64 k ∧ WsI w p (.slice a ids.length cap) ids g d n v E k wr) (fun _ i _ => min ids.length 30 - (intOf i).toNat)
  case atStart => exact ⟨0, [], Nat.zero_le _, rfl, W0.out⟩
  case round =>
    obtain ⟨k, E, hk, rfl, hI⟩ := hrel
    have c0 : wr.cell? ⟨p, 0, none⟩ = some (.slice a ids.length cap) := cell_of_row wr p 0 _ _ _ hI.box
    by_cases hlt : k < min ids.length 30
    · have hk1 : (k : Int) < (ids.length : Int) := by omega
      have hk2 : (k : Int) < 30 := by omega
      have hk3 : k < ids.length := by omega
      obtain ⟨off, rfl, ck⟩ := hI.nv.cell_at hk3
      have HI := Lib.hid hI
      have hpw : p < wr.heap.size := by have := hI.size; omega
      clear hI hk
      go_upto_region 2 with fail
      have hS : ∀ W : World, Below wr.heap.size wr W → W.cell? ⟨p, 0, none⟩ = some (.slice (some ⟨g, off, none⟩) ids.length cap) ∧ W.cell? ⟨p, 1, none⟩ = some (.int .i64 d) ∧ W.cell? ⟨g, off + k, none⟩ = some (.int .i64 ids[k]) := fun W h => by
        have kb := (h.block _ (lt_of_heap HI.out.box)).trans HI.out.box
        obtain ⟨off', e, hc⟩ := (HI.out.nv.below h).cell_at hk3
        cases e
        exact ⟨cell_of_row W p 0 _ _ _ kb, cell_of_row W p 1 _ _ _ kb, hc⟩
      have k0 := fun (W : World) (h : W.cell? ⟨p, 0, none⟩ = some (.slice (some ⟨g, off, none⟩) ids.length cap) ∧ W.cell? ⟨p, 1, none⟩ = some (.int .i64 d) ∧ W.cell? ⟨g, off + k, none⟩ = some (.int .i64 ids[k])) => h.1
      have k1 := fun (W : World) (h : W.cell? ⟨p, 0, none⟩ = some (.slice (some ⟨g, off, none⟩) ids.length cap) ∧ W.cell? ⟨p, 1, none⟩ = some (.int .i64 d) ∧ W.cell? ⟨g, off + k, none⟩ = some (.int .i64 ids[k])) => h.2.1
      have ki := fun (W : World) (h : W.cell? ⟨p, 0, none⟩ = some (.slice (some ⟨g, off, none⟩) ids.length cap) ∧ W.cell? ⟨p, 1, none⟩ = some (.int .i64 d) ∧ W.cell? ⟨g, off + k, none⟩ = some (.int .i64 ids[k])) => h.2.2
      refine wp_region_held_drew (S := fun W => W.cell? ⟨p, 0, none⟩ = some (.slice (some ⟨g, off, none⟩) ids.length cap) ∧ W.cell? ⟨p, 1, none⟩ = some (.int .i64 d) ∧ W.cell? ⟨g, off + k, none⟩ = some (.int .i64 ids[k])) (by kernel_rfl) (hS _ (Below.refl _ wr).drew) (fun hHeld => ?_)
      refine wpAnyH_take (i := 0) (oi := { dst := some 16, op := Go.Op.move (Go.Operand.tmp 3), type := 37, pos := "law.go:58", after := #[], guard := none }) (v := ?_) rfl (by kernel_rfl) (by kernel_rfl) (by kernel_rfl) (fun _ _ _ h => h) (Or.inl ⟨by rfl, ?_⟩) (by assumption) ?_
      rotate_left
      · intro W hSW
        go_simp
        try with_reducible rfl
      try simp only [Act.put, List.setIfInBounds_toArray, List.set_cons_zero, List.set_cons_succ]
      refine wpAnyH_take (i := 1) (oi := { dst := some 17, op := Go.Op.fieldAddr 40 (Go.Operand.tmp 1) 0, type := 0, pos := "law.go:58", after := #[], guard := none }) (v := ?_) rfl (by kernel_rfl) (by kernel_rfl) (by kernel_rfl) (fun _ _ _ h => h) (Or.inl ⟨by rfl, ?_⟩) (by assumption) ?_
      rotate_left
      · intro W hSW
        go_simp
        try with_reducible rfl
      try simp only [Act.put, List.setIfInBounds_toArray, List.set_cons_zero, List.set_cons_succ]
      refine wpAnyH_take (i := 2) (oi := { dst := some 18, op := Go.Op.load 33 (Go.Operand.tmp 17), type := 33, pos := "law.go:58", after := #[{ on := 1, ground := Go.Ground.data }], guard := none }) (v := ?_) rfl (by kernel_rfl) (by kernel_rfl) (by kernel_rfl) (fun _ _ _ h => h) (Or.inl ⟨by rfl, ?_⟩) (by assumption) ?_
      rotate_left
      · intro W hSW
        have e0 := k0 W hSW
        go_simp
        try with_reducible rfl
      try simp only [Act.put, List.setIfInBounds_toArray, List.set_cons_zero, List.set_cons_succ]
      refine wpAnyH_take (i := 3) (oi := { dst := some 19, op := Go.Op.move (Go.Operand.tmp 4), type := 3, pos := "law.go:58", after := #[], guard := none }) (v := ?_) rfl (by kernel_rfl) (by kernel_rfl) (by kernel_rfl) (fun _ _ _ h => h) (Or.inl ⟨by rfl, ?_⟩) (by assumption) ?_
      rotate_left
      · intro W hSW
        go_simp
        try with_reducible rfl
      try simp only [Act.put, List.setIfInBounds_toArray, List.set_cons_zero, List.set_cons_succ]
      refine wpAnyH_take (i := 4) (oi := { dst := some 20, op := Go.Op.indexAddr 33 (Go.Operand.tmp 18) (Go.Operand.tmp 19), type := 0, pos := "law.go:58", after := #[{ on := 2, ground := Go.Ground.data }, { on := 3, ground := Go.Ground.data }], guard := none }) (v := ?_) rfl (by kernel_rfl) (by kernel_rfl) (by kernel_rfl) (fun _ _ _ h => h) (Or.inl ⟨by rfl, ?_⟩) (by assumption) ?_
      rotate_left
      · intro W hSW
        go_simp
        try with_reducible rfl
      try simp only [Act.put, List.setIfInBounds_toArray, List.set_cons_zero, List.set_cons_succ]
      refine wpAnyH_take (i := 5) (oi := { dst := some 21, op := Go.Op.load 3 (Go.Operand.tmp 20), type := 3, pos := "law.go:58", after := #[{ on := 4, ground := Go.Ground.data }], guard := none }) (v := ?_) rfl (by kernel_rfl) (by kernel_rfl) (by kernel_rfl) (fun _ _ _ h => h) (Or.inl ⟨by rfl, ?_⟩) (by assumption) ?_
      rotate_left
      · intro W hSW
        have e0 := ki W hSW
        go_simp
        try with_reducible rfl
      try simp only [Act.put, List.setIfInBounds_toArray, List.set_cons_zero, List.set_cons_succ]
      refine wpAnyH_take (i := 6) (oi := { dst := some 22, op := Go.Op.fieldAddr 40 (Go.Operand.tmp 1) 1, type := 0, pos := "law.go:58", after := #[], guard := none }) (v := ?_) rfl (by kernel_rfl) (by kernel_rfl) (by kernel_rfl) (fun _ _ _ h => h) (Or.inl ⟨by rfl, ?_⟩) (by assumption) ?_
      rotate_left
      · intro W hSW
        go_simp
        try with_reducible rfl
      try simp only [Act.put, List.setIfInBounds_toArray, List.set_cons_zero, List.set_cons_succ]
      refine wpAnyH_take (i := 7) (oi := { dst := some 23, op := Go.Op.load 3 (Go.Operand.tmp 22), type := 3, pos := "law.go:58", after := #[{ on := 6, ground := Go.Ground.data }], guard := none }) (v := ?_) rfl (by kernel_rfl) (by kernel_rfl) (by kernel_rfl) (fun _ _ _ h => h) (Or.inl ⟨by rfl, ?_⟩) (by assumption) ?_
      rotate_left
      · intro W hSW
        have e0 := k1 W hSW
        go_simp
        try with_reducible rfl
      try simp only [Act.put, List.setIfInBounds_toArray, List.set_cons_zero, List.set_cons_succ]
      refine wpAnyH_take (i := 8) (oi := { dst := some 24, op := Go.Op.move (Go.Operand.tmp 4), type := 3, pos := "law.go:58", after := #[], guard := none }) (v := ?_) rfl (by kernel_rfl) (by kernel_rfl) (by kernel_rfl) (fun _ _ _ h => h) (Or.inl ⟨by rfl, ?_⟩) (by assumption) ?_
      rotate_left
      · intro W hSW
        go_simp
        try with_reducible rfl
      try simp only [Act.put, List.setIfInBounds_toArray, List.set_cons_zero, List.set_cons_succ]
      refine wpAnyH_take (i := 9) (oi := { dst := some 25, op := Go.Op.binOp Go.BinOp.add 3 (Go.Operand.tmp 23) (Go.Operand.tmp 24) 3, type := 3, pos := "law.go:58", after := #[{ on := 7, ground := Go.Ground.data }, { on := 8, ground := Go.Ground.data }], guard := none }) (v := ?_) rfl (by kernel_rfl) (by kernel_rfl) (by kernel_rfl) (fun _ _ _ h => h) (Or.inl ⟨by rfl, ?_⟩) (by assumption) ?_
      rotate_left
      · intro W hSW
        go_simp
        try with_reducible rfl
      try simp only [Act.put, List.setIfInBounds_toArray, List.set_cons_zero, List.set_cons_succ]
      refine wpAnyH_ready (rs := [10]) (by kernel_rfl) (by simp) ?_
      refine AllReadyH.cons (o := { dst := some 26, op := Go.Op.call { callee := Go.Callee.value (Go.Operand.func 12), args := #[Go.Operand.tmp 25], argTypes := #[3] }, type := 41, pos := "law.go:58", after := #[{ on := 9, ground := Go.Ground.data }], guard := none }) rfl (fun K hK => ?_) AllReadyH.nil
      go_simp
      go_at_call 12
      refine (block_any _ _).mono ?_
      rintro e wE ⟨rfl, hrE, hbE⟩
      have hE : Below wr.heap.size wr wE := (Below.refl _ wr).drew.trans (hbE.mono (Nat.le_refl _))
      replace hrE : wE.heap[wr.heap.size]? = some (.cells (rowA (blk (d + k))) 5 (0, 0)) := by rw [blk_wrap] at hrE; exact hrE
      refine hK.out _ _ (hS _ hE) (fun hHeld => ?_)
      clear hK K
      try simp only [Act.put, List.setIfInBounds_toArray, List.set_cons_zero, List.set_cons_succ]
      refine wpAnyH_take (i := 11) (oi := { dst := some 27, op := Go.Op.build 44 #[(0, Go.Operand.tmp 21), (1, Go.Operand.tmp 26)], type := 44, pos := "law.go:58", after := #[{ on := 5, ground := Go.Ground.data }, { on := 10, ground := Go.Ground.data }], guard := none }) (v := ?_) rfl (by kernel_rfl) (by kernel_rfl) (by kernel_rfl) (fun _ _ _ h => h) (Or.inl ⟨by rfl, ?_⟩) (by assumption) ?_
      rotate_left
      · intro W hSW
        go_simp
        try with_reducible rfl
      try simp only [Act.put, List.setIfInBounds_toArray, List.set_cons_zero, List.set_cons_succ]
      refine wpAnyH_ready (rs := [12]) (by kernel_rfl) (by simp) ?_
      refine AllReadyH.cons (o := { dst := some 28, op := Go.Op.buildSlice 37 1 #[(0, Go.Operand.tmp 27)], type := 37, pos := "law.go:58", after := #[{ on := 11, ground := Go.Ground.data }], guard := none }) rfl (fun K hK => ?_) AllReadyH.nil
      go_simp
      refine hK.out _ _ (hS _ (hE.alloc hE.size _)) (fun hHeld => ?_)
      clear hK K
      try simp only [Act.put, List.setIfInBounds_toArray, List.set_cons_zero, List.set_cons_succ]
      have hwr : WsI w p (.slice (some ⟨g, off, none⟩) ids.length cap) ids g d n u3 E k wr := HI.out
      have how := (hwr.own.touch (Touch.of_below (F := Emp) hE) (fun _ _ => id) (fun _ _ _ => id)).touch ((Touch.refl Emp wE).alloc (.cells #[.int .i64 ids[k], .slice (some ⟨wr.heap.size, 0, none⟩) 480 480] 44)) (fun _ _ => id) (fun _ _ _ => id)
      have hbv := (blk_bv hrE).alloc (.cells #[.int .i64 ids[k], .slice (some ⟨wr.heap.size, 0, none⟩) 480 480] 44)
      have hrE2 := (Below.heap_alloc wE (.cells #[.int .i64 ids[k], .slice (some ⟨wr.heap.size, 0, none⟩) 480 480] 44) _ (lt_of_heap hrE)).trans hrE
      have hlo : ∀ j, u3.ownBlock = some j → p + 1 ≤ j := fun j hj => (hwr.own.own.lt j hj).1
      refine wpAnyH_ready (rs := [13]) (by kernel_rfl) (by simp) ?_
      refine AllReadyH.cons (o := { dst := some 29, op := Go.Op.call { callee := Go.Callee.builtin Go.Builtin.append, args := #[Go.Operand.tmp 16, Go.Operand.tmp 28], argTypes := #[37, 37] }, type := 37, pos := "law.go:58", after := #[{ on := 0, ground := Go.Ground.data }, { on := 12, ground := Go.Ground.data }, { on := 10, ground := Go.Ground.chain }], guard := none }) rfl (fun K hK => ?_) AllReadyH.nil
      refine step_append_w (e := ⟨ids[k], .slice (some ⟨wr.heap.size, 0, none⟩) 480 480, blk (d + k), wr.heap.size⟩) (by rfl) _ _ (by rfl) (by rfl) how wE.heap.size (by rfl) (heap_alloc_new wE _) ⟨hbv, fun _ => ⟨hwr.size, _, _, hrE2⟩⟩ (by have := hwr.len; omega) (by have := hwr.size; have := hE.size; simp; omega) ?_
      intro v2 w2 ho2 ht2 hk2
      have t1 : Touch (fun j => u3.ownBlock = some j) wr w2 := ((Touch.of_below hE).alloc _).trans ht2 fun _ h _ => h
      have hbx : w2.heap[p]? = some (.cells #[.slice (some ⟨g, off, none⟩) ids.length cap, .int .i64 d, .int .i64 n] 40 (0, 0)) := t1.at hwr.box fun e => by have := hlo p e; omega
      have hnv2 := hwr.nv.touch t1 fun hl e => by have := hwr.lo hl; have := hlo g e; omega
      have hS2 : w2.cell? ⟨p, 0, none⟩ = some (.slice (some ⟨g, off, none⟩) ids.length cap) ∧ w2.cell? ⟨p, 1, none⟩ = some (.int .i64 d) ∧ w2.cell? ⟨g, off + k, none⟩ = some (.int .i64 ids[k]) := by
        obtain ⟨off', e, hc⟩ := hnv2.cell_at hk3
        cases e
        exact ⟨cell_of_row w2 p 0 _ _ _ hbx, cell_of_row w2 p 1 _ _ _ hbx, hc⟩
      have hf2 : FormE w2 (E ++ [⟨ids[k], .slice (some ⟨wr.heap.size, 0, none⟩) 480 480, blk (d + k), wr.heap.size⟩]) := by
        intro x hx
        rcases List.mem_append.1 hx with hx | hx
        · obtain ⟨e1, c, e2, e3⟩ := hwr.form x hx
          exact ⟨e1, c, hk2 _ _ _ ((Below.heap_alloc wE (.cells #[.int .i64 ids[k], .slice (some ⟨wr.heap.size, 0, none⟩) 480 480] 44) _ (Nat.lt_of_lt_of_le (lt_of_heap e2) hE.size)).trans ((hE.block _ (lt_of_heap e2)).trans e2)), e3⟩
        · rw [List.mem_singleton.1 hx]
          exact ⟨rfl, _, hk2 _ _ _ hrE2, by simp [rowA, blk_len]⟩
      have hb2 : Below p w w2 := hwr.below.trans (t1.to_below (fun j _ e => by have := hlo j e; omega) (by have := hwr.size; omega))
      have WN := Lib.hid (show WsI w p (.slice (some ⟨g, off, none⟩) ids.length cap) ids g d n v2 (E ++ [⟨ids[k], .slice (some ⟨wr.heap.size, 0, none⟩) 480 480, blk (d + k), wr.heap.size⟩]) (k + 1) w2 from ⟨hbx, hnv2, ho2, hf2, by
        rw [List.map_append, hwr.says, List.take_add_one, List.getElem?_eq_getElem hk3]
        rfl, fun i hi => by
        rw [List.length_append] at hi
        have hl := hwr.len
        by_cases h : i < E.length
        · rw [List.getElem_append_left h]; exact hwr.dat i h
        · rw [List.getElem_append_right (by omega)]
          obtain rfl : i = k := by simp at hi; omega
          simp, by rw [List.length_append, hwr.len]; rfl, hwr.lo, Nat.le_trans hwr.size t1.size, hb2⟩)
      refine hK.out _ _ (hS2) (fun hHeld => ?_)
      clear hK K
      try simp only [Act.put, List.setIfInBounds_toArray, List.set_cons_zero, List.set_cons_succ]
      refine wpAnyH_take (i := 14) (oi := { dst := some 3, op := Go.Op.assign (Go.Operand.tmp 29), type := 37, pos := "law.go:58", after := #[{ on := 13, ground := Go.Ground.data }, { on := 13, ground := Go.Ground.chain }, { on := 0, ground := Go.Ground.phase }, { on := 1, ground := Go.Ground.phase }, { on := 2, ground := Go.Ground.phase }, { on := 3, ground := Go.Ground.phase }, { on := 4, ground := Go.Ground.phase }, { on := 5, ground := Go.Ground.phase }, { on := 6, ground := Go.Ground.phase }, { on := 7, ground := Go.Ground.phase }, { on := 8, ground := Go.Ground.phase }, { on := 9, ground := Go.Ground.phase }, { on := 10, ground := Go.Ground.phase }, { on := 11, ground := Go.Ground.phase }, { on := 12, ground := Go.Ground.phase }, { on := 13, ground := Go.Ground.phase }], guard := none }) (v := ?_) rfl (by kernel_rfl) (by kernel_rfl) (by kernel_rfl) (fun _ _ _ h => h) (Or.inl ⟨by rfl, ?_⟩) (by assumption) ?_
      rotate_left
      · intro W hSW
        go_simp
        try with_reducible rfl
      try simp only [Act.put, List.setIfInBounds_toArray, List.set_cons_zero, List.set_cons_succ]
      refine wpAnyH_done (by kernel_rfl) ?_ _
      clear hHeld hS2 hf2 hb2 hnv2 hbx t1 hk2 ht2 ho2 hlo hrE2 hbv how hwr hrE hE k0 k1 ki hS
      go_wp2
      exact ⟨⟨k + 1, _, by omega, by go_num, WN.out⟩, by simp [intOf]; omega⟩
    · obtain ⟨k0, hk0⟩ : ∃ k0, min ids.length 30 = k0 := ⟨_, rfl⟩
      obtain rfl : k = k0 := by omega
      have HI := Lib.hid hI
      have hfin : ∀ m, k = m → (∃ v E', Ending.returned u3 = .returned v ∧ OwnW w.heap.size wr v E' ∧ FormE wr E' ∧ E'.map (·.id) = ids.take 30 ∧ (∀ i (h : i < E'.length), E'[i].l = blk (d + i)) ∧ E'.length = min ids.length 30) ∧ Below w.heap.size w wr := fun m hm => by
        refine ⟨⟨_, E, rfl, ⟨Go.World.ownsRow.mono HI.out.own.own (by rw [← HP.out]; omega), fun e he => ⟨(HI.out.own.data e he).1, fun hl => ?_⟩⟩, HI.out.form, ?_, HI.out.dat, HI.out.len.trans hk0.symm⟩, by rw [← HP.out]; exact HI.out.below⟩
        · obtain ⟨h1, h2⟩ := (HI.out.own.data e he).2 hl
          exact ⟨by rw [← HP.out]; omega, h2⟩
        · rw [HI.out.says, ← hk0]
          by_cases h : ids.length ≤ 30
          · rw [Nat.min_eq_left h, List.take_length, List.take_of_length_le h]
          · rw [Nat.min_eq_right (by omega)]
      have FIN := Lib.hid (hfin k rfl)
      by_cases h30 : ids.length ≤ 30
      · have e1 : k = ids.length := by omega
        rw [e1]
        clear hI hk e1 hlt hfin hk0
        go_wp2
        go_ret
        exact FIN.out
      · have e1 : k = 30 := by omega
        rw [e1]
        have h32 : (30 : Int) < (ids.length : Int) := by omega
        clear hI hk e1 hlt hfin hk0
        go_wp2
        go_ret
        exact FIN.out

end Jn
end Go.Proofs.Ytpbcjaennbgmaaa
