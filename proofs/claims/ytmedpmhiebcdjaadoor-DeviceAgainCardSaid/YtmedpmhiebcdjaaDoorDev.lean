/- What a device is in memory, and what its steps do to it. -/
import Derived.Test.YtmedpmhiebcdjaaDoorSec
import Derived.Test.YtmedpmhiebcdjaaDoorSet
namespace Go.Proofs.YtmedpmhiebcdjaaDoor
open Go.RowKit

/-- A device as the document has it. -/
structure DSt where
  secs : List (List UInt8)
  waits : List (Nat × List UInt8)
  torn : List Nat
  reads : Nat
  writes : Nat
  flushes : Nat
  down : Bool
  armed : Bool
  left : Int
  keep : List Int

def secV : Option Nat → Value
  | none => .slice none 0 0
  | some g => .slice (some ⟨g, 0, none⟩) 512 512
def SecOk (w : World) (F : Nat → Prop) (o : Option Nat) (l : List UInt8) : Prop :=
  l.length = 512 ∧ ((o = none ∧ l = zerosL 512) ∨ ∃ g, o = some g ∧ F g ∧ ByteRow w g l)
def waitC (x : Nat × Nat × List UInt8) : List Value := [.int .i64 (x.1 : Int), .slice (some ⟨x.2.1, 0, none⟩) 512 512]
/-- A slice of ints that belongs to F. -/
def Ints (w : World) (F : Nat → Prop) (v : Value) (l : List Int) : Prop :=
  (∃ g cap c, v = .slice (some ⟨g, 0, none⟩) l.length cap ∧ F g ∧ w.heap[g]? = some (.cells c 3 (0, 0)) ∧ c.toList.take l.length = l.map (Value.int .i64)) ∨ ((∃ a cap, v = .slice a 0 cap) ∧ l = [])
def devC (s : DSt) (gs : Nat) (wv : Value) (bm : Nat) (kv : Value) : Array Value :=
  #[.slice (some ⟨gs, 0, none⟩) s.secs.length s.secs.length, wv, .map (some bm), .int .i64 s.reads, .int .i64 s.writes, .int .i64 s.flushes, .bool s.down, .bool s.armed, .int .i64 s.left, kv]

structure DevAt (w : World) (F : Nat → Prop) (b : Nat) (s : DSt) (gs : Nat) (S : List (Option Nat)) (wv : Value) (W : List (Nat × Nat × List UInt8)) (bm : Nat) (es : Array MapEntry) (clk : Nat) (kv : Value) : Prop where
  ownD : F b
  ownS : F gs
  ownM : F bm
  dev : w.heap[b]? = some (.cells (devC s gs wv bm kv) 49 (0, 0))
  rowS : w.heap[gs]? = some (.cells (S.map secV).toArray 38 (0, 0))
  lenS : S.length = s.secs.length
  secs : ∀ (i : Nat) o l, S[i]? = some o → s.secs[i]? = some l → SecOk w F o l
  rowW : w.ownsRow 0 55 2 wv W.length (W.flatMap waitC)
  ownW : ∀ k, wv.ownBlock = some k → F k
  waits : W.map (fun x => (x.1, x.2.2)) = s.waits
  data : ∀ x ∈ W, F x.2.1 ∧ ByteRow w x.2.1 x.2.2 ∧ x.2.2.length = 512 ∧ x.1 < s.secs.length
  map : w.heap[bm]? = some (.map es clk)
  torn : ISet es s.torn
  keep : Ints w F kv s.keep
  left : s.armed = true → 0 ≤ s.left
  left2 : s.left ≤ 9223372036854775807
  size : s.secs.length ≤ 20000

def Dev (w : World) (F : Nat → Prop) (b : Nat) (s : DSt) : Prop := ∃ gs S wv W bm es clk kv, DevAt w F b s gs S wv W bm es clk kv

section
variable {F G : Nat → Prop} {w w1 : World} {b gs bm clk : Nat} {s : DSt} {S : List (Option Nat)} {wv kv : Value} {W : List (Nat × Nat × List UInt8)} {es : Array MapEntry}

theorem SecOk.mono {o : Option Nat} {l : List UInt8} (h : SecOk w F o l) (hf : ∀ k, F k → G k) : SecOk w G o l :=
  ⟨h.1, h.2.imp id fun ⟨g, h1, h2, h3⟩ => ⟨g, h1, hf g h2, h3⟩⟩
theorem SecOk.touch {o : Option Nat} {l : List UInt8} (h : SecOk w F o l) (ht : Touch G w w1) (hd : ∀ k, F k → ¬ G k) : SecOk w1 F o l :=
  ⟨h.1, h.2.imp id fun ⟨g, h1, h2, h3⟩ => ⟨g, h1, h2, h3.touch ht (hd g h2)⟩⟩
theorem Ints.mono {v : Value} {l : List Int} (h : Ints w F v l) (hf : ∀ k, F k → G k) : Ints w G v l :=
  h.imp (fun ⟨g, cap, c, h1, h2, h3⟩ => ⟨g, cap, c, h1, hf g h2, h3⟩) id
theorem Ints.touch {v : Value} {l : List Int} (h : Ints w F v l) (ht : Touch G w w1) (hd : ∀ k, F k → ¬ G k) : Ints w1 F v l :=
  h.imp (fun ⟨g, cap, c, h1, h2, h3, h4⟩ => ⟨g, cap, c, h1, h2, ht.at h3 (hd g h2), h4⟩) id

theorem ownsRow_touch {base e size n : Nat} {v : Value} {xs : List Value} (h : w.ownsRow base e size v n xs) (ht : Touch G w w1) (hd : ∀ k, v.ownBlock = some k → ¬ G k) : w1.ownsRow base e size v n xs := by
  refine ⟨h.1, ?_⟩
  rcases h.2 with hn | ⟨g, cap, cur, rfl, hb, hgg, rest⟩
  · exact .inl hn
  · exact .inr ⟨g, cap, cur, rfl, hb, ht.at hgg (hd g rfl), rest⟩

theorem DevAt.mono (h : DevAt w F b s gs S wv W bm es clk kv) (hf : ∀ k, F k → G k) : DevAt w G b s gs S wv W bm es clk kv :=
  ⟨hf _ h.ownD, hf _ h.ownS, hf _ h.ownM, h.dev, h.rowS, h.lenS, fun i o l h1 h2 => (h.secs i o l h1 h2).mono hf, h.rowW, fun k hk => hf k (h.ownW k hk), h.waits,
    fun x hx => ⟨hf _ (h.data x hx).1, (h.data x hx).2⟩, h.map, h.torn, h.keep.mono hf, h.left, h.left2, h.size⟩
theorem DevAt.touch (h : DevAt w F b s gs S wv W bm es clk kv) (ht : Touch G w w1) (hd : ∀ k, F k → ¬ G k) : DevAt w1 F b s gs S wv W bm es clk kv :=
  ⟨h.ownD, h.ownS, h.ownM, ht.at h.dev (hd _ h.ownD), ht.at h.rowS (hd _ h.ownS), h.lenS, fun i o l h1 h2 => (h.secs i o l h1 h2).touch ht hd, ownsRow_touch h.rowW ht fun k hk => hd k (h.ownW k hk), h.ownW, h.waits,
    fun x hx => ⟨(h.data x hx).1, (h.data x hx).2.1.touch ht (hd _ (h.data x hx).1), (h.data x hx).2.2⟩, ht.at h.map (hd _ h.ownM), h.torn, h.keep.touch ht hd, h.left, h.left2, h.size⟩
theorem Dev.mono (h : Dev w F b s) (hf : ∀ k, F k → G k) : Dev w G b s := by
  obtain ⟨gs, S, wv, W, bm, es, clk, kv, h⟩ := h
  exact ⟨gs, S, wv, W, bm, es, clk, kv, h.mono hf⟩
theorem Dev.touch (h : Dev w F b s) (ht : Touch G w w1) (hd : ∀ k, F k → ¬ G k) : Dev w1 F b s := by
  obtain ⟨gs, S, wv, W, bm, es, clk, kv, h⟩ := h
  exact ⟨gs, S, wv, W, bm, es, clk, kv, h.touch ht hd⟩
end

theorem ne_of_obj {w : World} {a b : Nat} {o1 o2 : Obj} (h1 : w.heap[a]? = some o1) (h2 : w.heap[b]? = some o2) (h : o1 ≠ o2) : a ≠ b := by
  rintro rfl
  exact h (Option.some.inj (h1.symm.trans h2))
theorem cells_ne {c1 c2 : Array Value} {t1 t2 : TypeId} {f1 f2 : Nat × Nat} (h : t1 ≠ t2) : Obj.cells c1 t1 f1 ≠ Obj.cells c2 t2 f2 := fun e => h (by injection e)
theorem cells_ne_map {c1 : Array Value} {t1 : TypeId} {f1 : Nat × Nat} {es : Array MapEntry} {k : Nat} : Obj.cells c1 t1 f1 ≠ Obj.map es k := fun e => by cases e
theorem ownsRow_block {w : World} {base e size n : Nat} {v : Value} {xs : List Value} (h : w.ownsRow base e size v n xs) {k : Nat} (hk : v.ownBlock = some k) : ∃ cur, w.heap[k]? = some (.cells cur e (0, 0)) := by
  rcases h.2 with ⟨rfl, _⟩ | ⟨g, cap, cur, rfl, hb, hgg, rest⟩
  · simp [Value.ownBlock] at hk
  · simp [Value.ownBlock] at hk
    subst hk
    exact ⟨cur, hgg⟩

section
variable {F G : Nat → Prop} {w w1 : World} {b gs bm clk : Nat} {s : DSt} {S : List (Option Nat)} {wv kv : Value} {W : List (Nat × Nat × List UInt8)} {es : Array MapEntry}

theorem DevAt.b_gs (h : DevAt w F b s gs S wv W bm es clk kv) : gs ≠ b := ne_of_obj h.rowS h.dev (cells_ne (by decide))
theorem DevAt.b_bm (h : DevAt w F b s gs S wv W bm es clk kv) : bm ≠ b := (ne_of_obj h.dev h.map cells_ne_map).symm
theorem DevAt.gs_bm (h : DevAt w F b s gs S wv W bm es clk kv) : gs ≠ bm := ne_of_obj h.rowS h.map cells_ne_map
theorem DevAt.wv_ne (h : DevAt w F b s gs S wv W bm es clk kv) {k : Nat} (hk : wv.ownBlock = some k) : k ≠ b ∧ k ≠ gs ∧ k ≠ bm := by
  obtain ⟨cur, hc⟩ := ownsRow_block h.rowW hk
  exact ⟨ne_of_obj hc h.dev (cells_ne (by decide)), ne_of_obj hc h.rowS (cells_ne (by decide)), ne_of_obj hc h.map cells_ne_map⟩
theorem DevAt.data_ne (h : DevAt w F b s gs S wv W bm es clk kv) {k : Nat} {l : List UInt8} (hk : ByteRow w k l) : k ≠ b ∧ k ≠ gs ∧ k ≠ bm :=
  ⟨ne_of_obj hk h.dev (cells_ne (by decide)), ne_of_obj hk h.rowS (cells_ne (by decide)), ne_of_obj hk h.map cells_ne_map⟩
theorem SecOk.touch' {o : Option Nat} {l : List UInt8} (h : SecOk w F o l) (ht : Touch G w w1) (hd : ∀ k l, ByteRow w k l → ¬ G k) : SecOk w1 F o l :=
  ⟨h.1, h.2.imp id fun ⟨g, h1, h2, h3⟩ => ⟨g, h1, h2, h3.touch ht (hd g _ h3)⟩⟩
theorem Ints.touch' {v : Value} {l : List Int} (h : Ints w F v l) (ht : Touch G w w1) (hd : ∀ k c, w.heap[k]? = some (.cells c 3 (0, 0)) → ¬ G k) : Ints w1 F v l :=
  h.imp (fun ⟨g, cap, c, h1, h2, h3, h4⟩ => ⟨g, cap, c, h1, h2, ht.at h3 (hd g _ h3), h4⟩) id
theorem DevAt.int_ne (h : DevAt w F b s gs S wv W bm es clk kv) {k : Nat} {c : Array Value} (hk : w.heap[k]? = some (.cells c 3 (0, 0))) : k ≠ b ∧ k ≠ gs ∧ k ≠ bm :=
  ⟨ne_of_obj hk h.dev (cells_ne (by decide)), ne_of_obj hk h.rowS (cells_ne (by decide)), ne_of_obj hk h.map cells_ne_map⟩

/-- A cell of the device's own row. -/
theorem DevAt.cell (h : DevAt w F b s gs S wv W bm es clk kv) (i : Nat) : w.cell? ⟨b, i, none⟩ = (devC s gs wv bm kv)[i]? := cell_of_row w b i _ _ _ h.dev
theorem DevAt.free (h : DevAt w F b s gs S wv W bm es clk kv) (i : Nat) : w.frozen? ⟨b, i, none⟩ = false := frozen_of_row w b i _ _ h.dev
theorem DevAt.secCell (h : DevAt w F b s gs S wv W bm es clk kv) {i : Nat} (hi : i < s.secs.length) : ∃ o, S[i]? = some o ∧ w.cell? ⟨gs, i, none⟩ = some (secV o) := by
  have hi' : i < S.length := by rw [h.lenS]; exact hi
  exact ⟨S[i], List.getElem?_eq_getElem hi', by rw [cell_of_row w gs i _ _ _ h.rowS]; simp [hi']⟩

/-- The device's own row is written: what it points at stays. -/
theorem DevAt.put (h : DevAt w F b s gs S wv W bm es clk kv) (ht : Touch (fun k => k = b) w w1) {s' : DSt} {wv' kv' : Value} {W' : List (Nat × Nat × List UInt8)}
    (hdev : w1.heap[b]? = some (.cells (devC s' gs wv' bm kv') 49 (0, 0))) (hs : s'.secs = s.secs) (hto : s'.torn = s.torn)
    (hrow : w1.ownsRow 0 55 2 wv' W'.length (W'.flatMap waitC)) (hown : ∀ k, wv'.ownBlock = some k → F k) (hw : W'.map (fun x => (x.1, x.2.2)) = s'.waits)
    (hdata : ∀ x ∈ W', F x.2.1 ∧ ByteRow w1 x.2.1 x.2.2 ∧ x.2.2.length = 512 ∧ x.1 < s.secs.length) (hk : Ints w1 F kv' s'.keep) (hl : s'.armed = true → 0 ≤ s'.left) (hl2 : s'.left ≤ 9223372036854775807) :
    DevAt w1 F b s' gs S wv' W' bm es clk kv' :=
  ⟨h.ownD, h.ownS, h.ownM, hdev, ht.at h.rowS h.b_gs, by rw [hs]; exact h.lenS, fun i o l h1 h2 => (h.secs i o l h1 (hs ▸ h2)).touch' ht fun k l hk => (h.data_ne hk).1, hrow, hown, hw,
    fun x hx => by rw [hs]; exact hdata x hx, ht.at h.map h.b_bm, by rw [hto]; exact h.torn, hk, hl, hl2, by rw [hs]; exact h.size⟩
/-- The same, where the waits and the keep stay. -/
theorem DevAt.put1 (h : DevAt w F b s gs S wv W bm es clk kv) (ht : Touch (fun k => k = b) w w1) {s' : DSt}
    (hdev : w1.heap[b]? = some (.cells (devC s' gs wv bm kv) 49 (0, 0))) (hs : s'.secs = s.secs) (hto : s'.torn = s.torn) (hw : s'.waits = s.waits) (hk : s'.keep = s.keep)
    (hl : s'.armed = true → 0 ≤ s'.left) (hl2 : s'.left ≤ 9223372036854775807) : DevAt w1 F b s' gs S wv W bm es clk kv :=
  h.put ht hdev hs hto (ownsRow_touch h.rowW ht fun k hk => (h.wv_ne hk).1) h.ownW (by rw [hw]; exact h.waits)
    (fun x hx => ⟨(h.data x hx).1, (h.data x hx).2.1.touch ht (h.data_ne (h.data x hx).2.1).1, (h.data x hx).2.2⟩)
    (by rw [hk]; exact h.keep.touch' ht fun k c hc => (h.int_ne hc).1) hl hl2
end

def DSt.settle (s : DSt) (at_ : Nat) (l : List UInt8) : DSt := { s with secs := s.secs.set at_ l, torn := s.torn.erase at_ }

set_option maxHeartbeats 400000 in
theorem settle_walk (b gs bm n at_ g : Nat) (w Wf : World) (v0 : Value) (hat : at_ < n) (_hn : n ≤ 20000)
    (hc0 : w.cell? ⟨b, 0, none⟩ = some (.slice (some ⟨gs, 0, none⟩) n n)) (hc2 : w.cell? ⟨b, 2, none⟩ = some (.map (some bm)))
    (hcs : w.cell? ⟨gs, at_, none⟩ = some v0) (hfs : w.frozen? ⟨gs, at_, none⟩ = false) (hne : gs ≠ b) (hb : b < w.heap.size) (hg : gs < w.heap.size)
    (hdel : ∀ ty, (Builtin.delete_ #[46, 3] ty #[.map (some bm), .int .i64 (at_ : Int)]).run Tryd.prog
      ((w.setCell ⟨gs, at_, none⟩ (.slice (some ⟨g, 0, none⟩) 512 512)).alloc (.cells #[.int .i64 (at_ : Int), .slice (some ⟨g, 0, none⟩) 512 512] 55)).drew.drew = .ok (.tuple #[]) Wf) :
    Calls Tryd.prog 22 #[.pointer (some ⟨b, 0, none⟩), .agg #[.int .i64 (at_ : Int), .slice (some ⟨g, 0, none⟩) 512 512]] w fun e w' =>
      e = .returned (.tuple #[]) ∧ Wf = w' := by
  go_enter Tryd.func22, Tryd.ntmps22
  go_wp2
  go_region
  go_wp2
  go_region
  all_goals (go_wp2; go_end0; exact ⟨rfl, rfl⟩)


theorem heap_setBlock_same {w : World} {b : Nat} {o o' : Obj} (h : w.heap[b]? = some o) : (ChangeMaps.setBlock w b o').heap[b]? = some o' := by
  simp [ChangeMaps.setBlock, Array.getElem?_setIfInBounds, lt_of_heap h]
theorem heap_setBlock_other {w : World} {b k : Nat} {o' : Obj} (h : k ≠ b) : (ChangeMaps.setBlock w b o').heap[k]? = w.heap[k]? := by
  simp only [ChangeMaps.setBlock]; exact Array.getElem?_setIfInBounds_ne h.symm

theorem settle_any {F : Nat → Prop} {w : World} {b gs bm clk : Nat} {s : DSt} {S : List (Option Nat)} {wv kv : Value} {W : List (Nat × Nat × List UInt8)} {es : Array MapEntry}
    (h : DevAt w F b s gs S wv W bm es clk kv) (at_ g : Nat) (l : List UInt8) (hat : at_ < s.secs.length) (hg : F g) (hl : ByteRow w g l) (hlen : l.length = 512) :
    Calls Tryd.prog 22 #[.pointer (some ⟨b, 0, none⟩), .agg #[.int .i64 (at_ : Int), .slice (some ⟨g, 0, none⟩) 512 512]] w fun e w' =>
      e = .returned (.tuple #[]) ∧ ∃ S' es', Touch (fun k => k = gs ∨ k = bm) w w' ∧ DevAt w' F b (s.settle at_ l) gs S' wv W bm es' clk kv := by
  obtain ⟨o, hS, hcs⟩ := h.secCell hat
  obtain ⟨es', hes', hrun⟩ := run_delete_iset (P := Tryd.prog) Tryd.underlying46 Tryd.underlying3 (clk := clk) h.torn at_
  have hgs := lt_of_heap h.rowS
  have hbm := lt_of_heap h.map
  have hst := heap_setCell_same w gs at_ _ _ (secV (some g)) h.rowS
  have ht : Touch (fun k => k = gs ∨ k = bm) w (((w.setCell ⟨gs, at_, none⟩ (.slice (some ⟨g, 0, none⟩) 512 512)).alloc (.cells #[.int .i64 (at_ : Int), .slice (some ⟨g, 0, none⟩) 512 512] 55)).drew.drew) :=
    ((((Touch.refl _ w).setCell (a := ⟨gs, at_, none⟩) (.inl (.inl rfl)) _).alloc _).drew).drew
  have hm2 : (((w.setCell ⟨gs, at_, none⟩ (.slice (some ⟨g, 0, none⟩) 512 512)).alloc (.cells #[.int .i64 (at_ : Int), .slice (some ⟨g, 0, none⟩) 512 512] 55)).drew.drew).heap[bm]? = some (.map es clk) := by
    show ((w.setCell ⟨gs, at_, none⟩ (.slice (some ⟨g, 0, none⟩) 512 512)).alloc _).heap[bm]? = _
    rw [Below.heap_alloc _ _ _ (by simpa using hbm), heap_setCell_other _ _ _ _ (by exact h.gs_bm.symm)]
    exact h.map
  refine (settle_walk b gs bm s.secs.length at_ g w _ _ hat h.size (by rw [h.cell]; rfl) (by rw [h.cell]; rfl) hcs (frozen_of_row _ _ _ _ _ h.rowS) h.b_gs (lt_of_heap h.dev) hgs
    (fun ty => hrun ty bm _ hm2)).mono ?_
  rintro e w' ⟨he, rfl⟩
  refine ⟨he, S.set at_ (some g), es', ht.setBlock (.inl (.inr rfl)) _, ?_⟩
  have ht' : Touch (fun k => k = gs ∨ k = bm) w _ := ht.setBlock (g := bm) (.inl (.inr rfl)) (.map es' clk)
  have hdat : ∀ k l, ByteRow w k l → ¬ (k = gs ∨ k = bm) := fun k l hk => by have := h.data_ne hk; omega
  refine ⟨h.ownD, h.ownS, h.ownM, ?_, ?_, ?_, ?_, ?_, h.ownW, h.waits, ?_, heap_setBlock_same hm2, hes', ?_, h.left, h.left2, ?_⟩
  · have := ht'.at h.dev (by have := h.b_gs; have := h.b_bm; omega)
    simpa [devC, DSt.settle] using this
  · rw [heap_setBlock_other h.gs_bm]
    show ((w.setCell ⟨gs, at_, none⟩ (.slice (some ⟨g, 0, none⟩) 512 512)).alloc _).heap[gs]? = _
    rw [Below.heap_alloc _ _ _ (by simpa using hgs)]
    refine hst.trans ?_
    simp [List.map_set]
  · simp [DSt.settle, h.lenS]
  · intro i o' l' h1 h2
    simp only [DSt.settle, List.getElem?_set] at h1 h2
    by_cases hi : at_ = i
    · subst hi
      simp [hat, h.lenS] at h1 h2
      subst h1 h2
      exact ⟨hlen, .inr ⟨g, rfl, hg, hl.touch ht' (hdat g _ hl)⟩⟩
    · simp [hi] at h1 h2
      exact (h.secs i o' l' h1 h2).touch' ht' hdat
  · exact ownsRow_touch h.rowW ht' fun k hk => by have := h.wv_ne hk; omega
  · intro x hx
    have hd := h.data x hx
    exact ⟨hd.1, hd.2.1.touch ht' (hdat _ _ hd.2.1), hd.2.2.1, by simpa [DSt.settle] using hd.2.2.2⟩
  · exact h.keep.touch' ht' fun k c hc => by have := h.int_ne hc; omega
  · simpa [DSt.settle] using h.size

end Go.Proofs.YtmedpmhiebcdjaaDoor
