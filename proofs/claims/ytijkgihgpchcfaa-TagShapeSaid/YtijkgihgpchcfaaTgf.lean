/- The fields of a sector: what they are, what each tells and lays. No condition. -/
import Derived.Test.YtijkgihgpchcfaaTgp
namespace Go.Proofs.Ytijkgihgpchcfaa
open Go.RowKit

def getF : Nat → Nat
  | 0 => 22
  | 1 => 24
  | 2 => 26
  | 3 => 28
  | 4 => 30
  | 5 => 32
  | _ => 34
def setF : Nat → Nat
  | 0 => 23
  | 1 => 25
  | 2 => 27
  | 3 => 29
  | 4 => 31
  | 5 => 33
  | _ => 35
def fldC (k : Nat) : Array Value := #[.int .i64 (Tg.size k : Int), .func (.func (getF k)) #[] #[], .func (.func (setF k)) #[] #[]]
theorem setRow_alloc_new (w : World) (c cs : Array Value) (t : TypeId) : (w.alloc (.cells c t)).setRow w.heap.size cs = w.alloc (.cells cs t) := by
  unfold World.setRow World.alloc
  congr 1
  apply Array.ext_getElem?
  intro k
  rw [Array.getElem?_modify]
  by_cases hk : w.heap.size = k
  · subst hk
    simp
  · have hk' : k ≠ w.heap.size := fun e => hk e.symm
    simp [hk, hk', Array.getElem?_push]
def fieldsC : Array Value := fldC 0 ++ fldC 1 ++ fldC 2 ++ fldC 3 ++ fldC 4 ++ fldC 5 ++ fldC 6
def fieldsV : Value := .agg fieldsC
theorem fieldsC_eq : fieldsC = #[.int .i64 4, .func (.func (getF 0)) #[] #[], .func (.func (setF 0)) #[] #[], .int .i64 6, .func (.func (getF 1)) #[] #[], .func (.func (setF 1)) #[] #[],
    .int .i64 6, .func (.func (getF 2)) #[] #[], .func (.func (setF 2)) #[] #[], .int .i64 6, .func (.func (getF 3)) #[] #[], .func (.func (setF 3)) #[] #[],
    .int .i64 1, .func (.func (getF 4)) #[] #[], .func (.func (setF 4)) #[] #[], .int .i64 1, .func (.func (getF 5)) #[] #[], .func (.func (setF 5)) #[] #[],
    .int .i64 2, .func (.func (getF 6)) #[] #[], .func (.func (setF 6)) #[] #[]] := rfl

theorem info_arr : (Try.prog.info? 47).map (·.size) = some fieldsC.size := by kernel_rfl
set_option maxHeartbeats 400000 in
theorem fields_any (w : World) : Calls Try.prog 15 #[] w fun e w' => e = .returned fieldsV ∧ Below w.heap.size w w' := by
  have hst := fun (C Z : Array Value) => setRow_alloc_new w Z C 47
  have hhd := fun (C : Array Value) => heap_alloc_new w (.cells C 47)
  go_enter Try.func15, Try.ntmps15
  go_wp2_with (with_reducible refine wpList_store_row rfl 47 (.tmp 0) (.tmp 8) rfl w.heap.size _ rfl rfl 47 _ (heap_alloc_new w _) (by kernel_rfl) (by kernel_rfl) (by kernel_rfl) ?_)
  rw [setRow_alloc_new]
  exact bodyPost_ret (v := fieldsV) (results_cell_row rfl _ _ w.heap.size 47 fieldsC (0, 0) _ rfl (heap_alloc_new w _) Try.underlying47 rfl info_arr) rfl ⟨rfl, (Below.refl _ _).alloc (Nat.le_refl _) _⟩

theorem index_f0 : ∀ w, (Instr.index 47 fieldsV (.int .i64 0)).run Try.prog w = .ok (.agg (fldC 0)) w := fun _ => by kernel_rfl
theorem index_f1 : ∀ w, (Instr.index 47 fieldsV (.int .i64 1)).run Try.prog w = .ok (.agg (fldC 1)) w := fun _ => by kernel_rfl
theorem index_f2 : ∀ w, (Instr.index 47 fieldsV (.int .i64 2)).run Try.prog w = .ok (.agg (fldC 2)) w := fun _ => by kernel_rfl
theorem index_f3 : ∀ w, (Instr.index 47 fieldsV (.int .i64 3)).run Try.prog w = .ok (.agg (fldC 3)) w := fun _ => by kernel_rfl
theorem index_f4 : ∀ w, (Instr.index 47 fieldsV (.int .i64 4)).run Try.prog w = .ok (.agg (fldC 4)) w := fun _ => by kernel_rfl
theorem index_f5 : ∀ w, (Instr.index 47 fieldsV (.int .i64 5)).run Try.prog w = .ok (.agg (fldC 5)) w := fun _ => by kernel_rfl
theorem index_f6 : ∀ w, (Instr.index 47 fieldsV (.int .i64 6)).run Try.prog w = .ok (.agg (fldC 6)) w := fun _ => by kernel_rfl
theorem index_fields (k : Nat) (hk : k < 7) (w : World) : (Instr.index 47 fieldsV (.int .i64 (k : Int))).run Try.prog w = .ok (.agg (fldC k)) w := by
  have : k = 0 ∨ k = 1 ∨ k = 2 ∨ k = 3 ∨ k = 4 ∨ k = 5 ∨ k = 6 := by omega
  rcases this with rfl | rfl | rfl | rfl | rfl | rfl | rfl
  · exact index_f0 w
  · exact index_f1 w
  · exact index_f2 w
  · exact index_f3 w
  · exact index_f4 w
  · exact index_f5 w
  · exact index_f6 w

theorem index_fields' (k : Nat) (hk : k < 7) (w : World) : (Instr.index 47 fieldsV (.int .i64 (k : Int))).run Try.prog w = .ok (.agg #[.int .i64 (Tg.size k : Int), .func (.func (getF k)) #[] #[], .func (.func (setF k)) #[] #[]]) w := index_fields k hk w

theorem call_of {f : FuncId} {fn : Func} (h : Try.prog.funcs[f]? = some fn) (h1 : (fn.name == "runtime.NumGoroutine") = false) (h2 : fn.body.isNone = false) (args : Array Value) (w : World) : (callFunc f args).run Try.prog w = .ok (.enter f args) w := by
  simp only [callFunc, Sem.run_bind, run_program, Result.andThen_ok, h, h1, h2, Bool.false_eq_true, if_false, Sem.run_pure]
theorem call_g0 (args : Array Value) (w : World) : (callFunc 22 args).run Try.prog w = .ok (.enter 22 args) w := call_of Try.func22 (by kernel_rfl) (by kernel_rfl) args w
theorem call_s0 (args : Array Value) (w : World) : (callFunc 23 args).run Try.prog w = .ok (.enter 23 args) w := call_of Try.func23 (by kernel_rfl) (by kernel_rfl) args w
theorem call_g1 (args : Array Value) (w : World) : (callFunc 24 args).run Try.prog w = .ok (.enter 24 args) w := call_of Try.func24 (by kernel_rfl) (by kernel_rfl) args w
theorem call_s1 (args : Array Value) (w : World) : (callFunc 25 args).run Try.prog w = .ok (.enter 25 args) w := call_of Try.func25 (by kernel_rfl) (by kernel_rfl) args w
theorem call_g2 (args : Array Value) (w : World) : (callFunc 26 args).run Try.prog w = .ok (.enter 26 args) w := call_of Try.func26 (by kernel_rfl) (by kernel_rfl) args w
theorem call_s2 (args : Array Value) (w : World) : (callFunc 27 args).run Try.prog w = .ok (.enter 27 args) w := call_of Try.func27 (by kernel_rfl) (by kernel_rfl) args w
theorem call_g3 (args : Array Value) (w : World) : (callFunc 28 args).run Try.prog w = .ok (.enter 28 args) w := call_of Try.func28 (by kernel_rfl) (by kernel_rfl) args w
theorem call_s3 (args : Array Value) (w : World) : (callFunc 29 args).run Try.prog w = .ok (.enter 29 args) w := call_of Try.func29 (by kernel_rfl) (by kernel_rfl) args w
theorem call_g4 (args : Array Value) (w : World) : (callFunc 30 args).run Try.prog w = .ok (.enter 30 args) w := call_of Try.func30 (by kernel_rfl) (by kernel_rfl) args w
theorem call_s4 (args : Array Value) (w : World) : (callFunc 31 args).run Try.prog w = .ok (.enter 31 args) w := call_of Try.func31 (by kernel_rfl) (by kernel_rfl) args w
theorem call_g5 (args : Array Value) (w : World) : (callFunc 32 args).run Try.prog w = .ok (.enter 32 args) w := call_of Try.func32 (by kernel_rfl) (by kernel_rfl) args w
theorem call_s5 (args : Array Value) (w : World) : (callFunc 33 args).run Try.prog w = .ok (.enter 33 args) w := call_of Try.func33 (by kernel_rfl) (by kernel_rfl) args w
theorem call_g6 (args : Array Value) (w : World) : (callFunc 34 args).run Try.prog w = .ok (.enter 34 args) w := call_of Try.func34 (by kernel_rfl) (by kernel_rfl) args w
theorem call_s6 (args : Array Value) (w : World) : (callFunc 35 args).run Try.prog w = .ok (.enter 35 args) w := call_of Try.func35 (by kernel_rfl) (by kernel_rfl) args w
theorem call_get (k : Nat) (hk : k < 7) (args : Array Value) (w : World) : (callFunc (getF k) args).run Try.prog w = .ok (.enter (getF k) args) w := by
  have : k = 0 ∨ k = 1 ∨ k = 2 ∨ k = 3 ∨ k = 4 ∨ k = 5 ∨ k = 6 := by omega
  rcases this with rfl | rfl | rfl | rfl | rfl | rfl | rfl
  · exact call_g0 args w
  · exact call_g1 args w
  · exact call_g2 args w
  · exact call_g3 args w
  · exact call_g4 args w
  · exact call_g5 args w
  · exact call_g6 args w
theorem call_set (k : Nat) (hk : k < 7) (args : Array Value) (w : World) : (callFunc (setF k) args).run Try.prog w = .ok (.enter (setF k) args) w := by
  have : k = 0 ∨ k = 1 ∨ k = 2 ∨ k = 3 ∨ k = 4 ∨ k = 5 ∨ k = 6 := by omega
  rcases this with rfl | rfl | rfl | rfl | rfl | rfl | rfl
  · exact call_s0 args w
  · exact call_s1 args w
  · exact call_s2 args w
  · exact call_s3 args w
  · exact call_s4 args w
  · exact call_s5 args w
  · exact call_s6 args w

/-- What a field tells. -/
theorem get_any (t : Tg.T) (k : Nat) (hk : k < 7) (w : World) (hi : 0 ≤ t.i ∧ t.i < 256) (hc : 0 ≤ t.c ∧ t.c < 256) (hd : 0 ≤ t.d ∧ t.d < 65536) (he : t.e < 4294967296) :
    Calls Try.prog (getF k) #[tagV t] w fun e w' => e = .returned (.int .u64 (Tg.val t k : Int)) ∧ Below w.heap.size w w' := by
  obtain ⟨e, s, q, f, i, c, d⟩ := t
  simp only at hi hc hd he
  have : k = 0 ∨ k = 1 ∨ k = 2 ∨ k = 3 ∨ k = 4 ∨ k = 5 ∨ k = 6 := by omega
  rcases this with rfl | rfl | rfl | rfl | rfl | rfl | rfl
  · have hw : IntKind.u64.wrap (e : Int) = (e : Int) := by rw [IntKind.wrap_u64]; omega
    clear hi hc hd he
    go_enter Try.func22, Try.ntmps22
    go_wp2
    go_ret
    exact ⟨rfl, (Below.refl _ _).alloc (Nat.le_refl _) _⟩
  · clear hi hc hd he
    go_enter Try.func24, Try.ntmps24
    go_wp2
    go_ret
    exact ⟨rfl, (Below.refl _ _).alloc (Nat.le_refl _) _⟩
  · clear hi hc hd he
    go_enter Try.func26, Try.ntmps26
    go_wp2
    go_ret
    exact ⟨rfl, (Below.refl _ _).alloc (Nat.le_refl _) _⟩
  · clear hi hc hd he
    go_enter Try.func28, Try.ntmps28
    go_wp2
    go_ret
    exact ⟨rfl, (Below.refl _ _).alloc (Nat.le_refl _) _⟩
  · obtain ⟨m, rfl⟩ : ∃ m : Nat, i = (m : Int) := ⟨i.toNat, by omega⟩
    have hw : IntKind.u64.wrap (m : Int) = (m : Int) := by rw [IntKind.wrap_u64]; omega
    clear hi hc hd he
    go_enter Try.func30, Try.ntmps30
    go_wp2
    go_ret
    exact ⟨rfl, (Below.refl _ _).alloc (Nat.le_refl _) _⟩
  · obtain ⟨m, rfl⟩ : ∃ m : Nat, c = (m : Int) := ⟨c.toNat, by omega⟩
    have hw : IntKind.u64.wrap (m : Int) = (m : Int) := by rw [IntKind.wrap_u64]; omega
    clear hi hc hd he
    go_enter Try.func32, Try.ntmps32
    go_wp2
    go_ret
    exact ⟨rfl, (Below.refl _ _).alloc (Nat.le_refl _) _⟩
  · obtain ⟨m, rfl⟩ : ∃ m : Nat, d = (m : Int) := ⟨d.toNat, by omega⟩
    have hw : IntKind.u64.wrap (m : Int) = (m : Int) := by rw [IntKind.wrap_u64]; omega
    clear hi hc hd he
    go_enter Try.func34, Try.ntmps34
    go_wp2
    go_ret
    exact ⟨rfl, (Below.refl _ _).alloc (Nat.le_refl _) _⟩

/-- A field laid into a tag that lies in memory. -/
def tagC (t : Tg.T) : Array Value := #[.int .u32 (t.e : Int), .int .u64 (t.s : Int), .int .u64 (t.q : Int), .int .u64 (t.f : Int), .int .i64 t.i, .int .i64 t.c, .int .i64 t.d]
def TagAt (w : World) (b : Nat) (t : Tg.T) : Prop := w.heap[b]? = some (.cells (tagC t) 25 (0, 0))
def setT (t : Tg.T) (k n : Nat) : Tg.T :=
  match k with
  | 0 => { t with e := n }
  | 1 => { t with q := n }
  | 2 => { t with f := n }
  | 3 => { t with s := n }
  | 4 => { t with i := n }
  | 5 => { t with c := n }
  | _ => { t with d := n }
theorem setT_part (l : List UInt8) (k : Nat) (hk : k < 7) : setT (Tg.part l k) k (Tg.fld l k) = Tg.part l (k + 1) := by
  have : k = 0 ∨ k = 1 ∨ k = 2 ∨ k = 3 ∨ k = 4 ∨ k = 5 ∨ k = 6 := by omega
  rcases this with rfl | rfl | rfl | rfl | rfl | rfl | rfl <;> simp [setT, Tg.part]

set_option maxHeartbeats 1000000 in
theorem set_any (b : Nat) (t : Tg.T) (k n : Nat) (hk : k < 7) (w : World) (h : TagAt w b t) (hn : n < 256 ^ Tg.size k) :
    Calls Try.prog (setF k) #[.pointer (some ⟨b, 0, none⟩), .int .u64 (n : Int)] w fun e w' => e = .returned (.tuple #[]) ∧ Touch (fun k => k = b) w w' ∧ TagAt w' b (setT t k n) ∧ w'.heap.size = w.heap.size := by
  have H := Lib.hid h
  have HC := Lib.hid (fun j => cell_of_row w b j _ _ _ h)
  have HF := Lib.hid (fun j => frozen_of_row w b j _ _ h)
  have hlt := lt_of_heap h
  clear h
  have : k = 0 ∨ k = 1 ∨ k = 2 ∨ k = 3 ∨ k = 4 ∨ k = 5 ∨ k = 6 := by omega
  rcases this with rfl | rfl | rfl | rfl | rfl | rfl | rfl
  · have hc := HC.out 0
    have hf := HF.out 0
    simp only [tagC, List.getElem?_toArray, List.getElem?_cons_succ, List.getElem?_cons_zero] at hc
    have hw : IntKind.u32.wrap (n : Int) = (n : Int) := by rw [IntKind.wrap_u32]; have : n < 4294967296 := hn; omega
    clear hn hk
    go_enter Try.func23, Try.ntmps23
    go_wp2
    go_end0
    exact ⟨rfl, (Touch.refl (fun k => k = b) w).setCell (a := ⟨b, 0, none⟩) (.inl rfl) _, by unfold TagAt; rw [heap_setCell_same w b 0 _ _ _ H.out]; rfl, by simp⟩
  · have hc := HC.out 2
    have hf := HF.out 2
    simp only [tagC, List.getElem?_toArray, List.getElem?_cons_succ, List.getElem?_cons_zero] at hc
    clear hn hk
    go_enter Try.func25, Try.ntmps25
    go_wp2
    go_end0
    exact ⟨rfl, (Touch.refl (fun k => k = b) w).setCell (a := ⟨b, 2, none⟩) (.inl rfl) _, by unfold TagAt; rw [heap_setCell_same w b 2 _ _ _ H.out]; rfl, by simp⟩
  · have hc := HC.out 3
    have hf := HF.out 3
    simp only [tagC, List.getElem?_toArray, List.getElem?_cons_succ, List.getElem?_cons_zero] at hc
    clear hn hk
    go_enter Try.func27, Try.ntmps27
    go_wp2
    go_end0
    exact ⟨rfl, (Touch.refl (fun k => k = b) w).setCell (a := ⟨b, 3, none⟩) (.inl rfl) _, by unfold TagAt; rw [heap_setCell_same w b 3 _ _ _ H.out]; rfl, by simp⟩
  · have hc := HC.out 1
    have hf := HF.out 1
    simp only [tagC, List.getElem?_toArray, List.getElem?_cons_succ, List.getElem?_cons_zero] at hc
    clear hn hk
    go_enter Try.func29, Try.ntmps29
    go_wp2
    go_end0
    exact ⟨rfl, (Touch.refl (fun k => k = b) w).setCell (a := ⟨b, 1, none⟩) (.inl rfl) _, by unfold TagAt; rw [heap_setCell_same w b 1 _ _ _ H.out]; rfl, by simp⟩
  · have hc := HC.out 4
    have hf := HF.out 4
    simp only [tagC, List.getElem?_toArray, List.getElem?_cons_succ, List.getElem?_cons_zero] at hc
    have hw : IntKind.i64.wrap (n : Int) = (n : Int) := by rw [IntKind.wrap_i64]; have : n < 256 := hn; omega
    clear hn hk
    go_enter Try.func31, Try.ntmps31
    go_wp2
    go_end0
    exact ⟨rfl, (Touch.refl (fun k => k = b) w).setCell (a := ⟨b, 4, none⟩) (.inl rfl) _, by unfold TagAt; rw [heap_setCell_same w b 4 _ _ _ H.out]; rfl, by simp⟩
  · have hc := HC.out 5
    have hf := HF.out 5
    simp only [tagC, List.getElem?_toArray, List.getElem?_cons_succ, List.getElem?_cons_zero] at hc
    have hw : IntKind.i64.wrap (n : Int) = (n : Int) := by rw [IntKind.wrap_i64]; have : n < 256 := hn; omega
    clear hn hk
    go_enter Try.func33, Try.ntmps33
    go_wp2
    go_end0
    exact ⟨rfl, (Touch.refl (fun k => k = b) w).setCell (a := ⟨b, 5, none⟩) (.inl rfl) _, by unfold TagAt; rw [heap_setCell_same w b 5 _ _ _ H.out]; rfl, by simp⟩
  · have hc := HC.out 6
    have hf := HF.out 6
    simp only [tagC, List.getElem?_toArray, List.getElem?_cons_succ, List.getElem?_cons_zero] at hc
    have hw : IntKind.i64.wrap (n : Int) = (n : Int) := by rw [IntKind.wrap_i64]; have : n < 65536 := hn; omega
    clear hn hk
    go_enter Try.func35, Try.ntmps35
    go_wp2
    go_end0
    exact ⟨rfl, (Touch.refl (fun k => k = b) w).setCell (a := ⟨b, 6, none⟩) (.inl rfl) _, by unfold TagAt; rw [heap_setCell_same w b 6 _ _ _ H.out]; rfl, by simp⟩

end Go.Proofs.Ytijkgihgpchcfaa
