/- RingFrom: places from one on come in order, each once, with what they have. -/
import Derived.Test.YtaldkjlmaajapaaRgc
import Derived.Outline
namespace Go.Proofs.Ytaldkjlmaajapaa
open Go.RowKit Go.Shelf

attribute [local go_sem] Oper.semAt_some

theorem from_stops (d : Nat) (hd : 1 ≤ d) (F : Nat → Prop) (br ba bn R g n N : Nat) (L : List Value) (a : Int) (hn : 1 ≤ n) (hm : n ≤ 1048576) (hN : N ≤ n) (pl : Nat → Nat) (x : Nat → Int) (hpl : ∀ i, (a + i) % n = (pl i : Int)) (hx : ∀ i, L[pl i]? = some (.int .i64 (x i)))
    (hF : FromFree F br ba bn R g) (w0 : World) (hA : FromAt w0 br ba bn R N a) (hR : Ringi w0 R g n L) :
    SeqStopsK Fence.wide d Try.prog 27 #[.pointer (some ⟨bn, 0, none⟩), .pointer (some ⟨br, 0, none⟩), .pointer (some ⟨ba, 0, none⟩)] (fun y : Nat × Int => #[.int .i64 (y.1 : Int), .int .i64 y.2]) (Touch F)
      (fun ys => ys = upto (fun j => (pl j, x j)) N) (fun pre => ∃ k, k ≤ N ∧ pre = upto (fun j => (pl j, x j)) k) N w0 :=
  fun l J Jx W hW _ _ hY h0 => from1_in d hd l F br ba bn R g n N L a hn hm hN pl x hpl hx hF J Jx hY W (hA.touch (F := Emp) (Touch.of_below hW) id id id) (hR.below hW) h0

/-- The law's own boxes: n, at, stop, the answer. -/
structure Fb (w W : World) (B : Nat) (n at_ stop : Int) (r : Bool) : Prop where
  n : Boxed W B 3 (.int .i64 n)
  a : Boxed W (B + 1) 3 (.int .i64 at_)
  s : Boxed W (B + 1 + 1) 3 (.int .i64 stop)
  r : Boxed W (B + 1 + 1 + 1) 4 (.bool r)
  below : Below w.heap.size w W
section
variable {w W W1 : World} {B : Nat} {n at_ stop : Int} {r : Bool}
theorem Fb.next {F : Nat → Prop} (h : Fb w W B n at_ stop r) (ht : Touch F W W1) (hF : ∀ k, F k → B + 1 + 1 + 1 < k ∧ w.heap.size ≤ k) : Fb w W1 B n at_ stop r :=
  ⟨ht.at h.n (fun e => by have := hF _ e; omega), ht.at h.a (fun e => by have := hF _ e; omega), ht.at h.s (fun e => by have := hF _ e; omega), ht.at h.r (fun e => by have := hF _ e; omega),
    ((Touch.of_below (F := Emp) h.below).trans ht (fun k hk hlt => by have := hF k hk; omega)).below⟩
theorem Fb.low (h : Fb w W B n at_ stop r) (hb : Below W.heap.size W W1) : Fb w W1 B n at_ stop r := h.next (F := Emp) (Touch.of_below hb) (fun _ h => h.elim)
theorem Fb.setn (h : Fb w W B n at_ stop r) (hB : w.heap.size ≤ B) (x : Int) : Fb w (W.setCell ⟨B, 0, none⟩ (.int .i64 x)) B x at_ stop r :=
  ⟨h.n.set _, h.a.other (by omega) _, h.s.other (by omega) _, h.r.other (by omega) _, h.below.setCell (p := ⟨B, 0, none⟩) hB _⟩
theorem Fb.seta (h : Fb w W B n at_ stop r) (hB : w.heap.size ≤ B) (x : Int) : Fb w (W.setCell ⟨B + 1, 0, none⟩ (.int .i64 x)) B n x stop r :=
  ⟨h.n.other (by omega) _, h.a.set _, h.s.other (by omega) _, h.r.other (by omega) _, h.below.setCell (p := ⟨B + 1, 0, none⟩) (by simp; omega) _⟩
theorem Fb.sets (h : Fb w W B n at_ stop r) (hB : w.heap.size ≤ B) (x : Int) : Fb w (W.setCell ⟨B + 1 + 1, 0, none⟩ (.int .i64 x)) B n at_ x r :=
  ⟨h.n.other (by omega) _, h.a.other (by omega) _, h.s.set _, h.r.other (by omega) _, h.below.setCell (p := ⟨B + 1 + 1, 0, none⟩) (by simp; omega) _⟩
theorem Fb.setr (h : Fb w W B n at_ stop r) (hB : w.heap.size ≤ B) (x : Bool) : Fb w (W.setCell ⟨B + 1 + 1 + 1, 0, none⟩ (.bool x)) B n at_ stop x :=
  ⟨h.n.other (by omega) _, h.a.other (by omega) _, h.s.other (by omega) _, h.r.set _, h.below.setCell (p := ⟨B + 1 + 1 + 1, 0, none⟩) (by simp; omega) _⟩
end
theorem Fb.start (w : World) (n at_ stop : Int) : Fb w ((((w.alloc (.cells #[.int .i64 n] 3)).alloc (.cells #[.int .i64 at_] 3)).alloc (.cells #[.int .i64 stop] 3)).alloc (.cells #[.bool false] 4)) w.heap.size n at_ stop false := by
  have e1 : (w.alloc (.cells #[.int .i64 n] 3)).heap.size = w.heap.size + 1 := by simp
  have e2 : ((w.alloc (.cells #[.int .i64 n] 3)).alloc (.cells #[.int .i64 at_] 3)).heap.size = w.heap.size + 1 + 1 := by simp
  have e3 : (((w.alloc (.cells #[.int .i64 n] 3)).alloc (.cells #[.int .i64 at_] 3)).alloc (.cells #[.int .i64 stop] 3)).heap.size = w.heap.size + 1 + 1 + 1 := by simp
  have b1 := (((Boxed.new w 3 (.int .i64 n)).alloc (.cells #[.int .i64 at_] 3)).alloc (.cells #[.int .i64 stop] 3)).alloc (.cells #[.bool false] 4)
  have b2 := ((Boxed.new (w.alloc (.cells #[.int .i64 n] 3)) 3 (.int .i64 at_)).alloc (.cells #[.int .i64 stop] 3)).alloc (.cells #[.bool false] 4)
  have b3 := (Boxed.new ((w.alloc (.cells #[.int .i64 n] 3)).alloc (.cells #[.int .i64 at_] 3)) 3 (.int .i64 stop)).alloc (.cells #[.bool false] 4)
  have b4 := Boxed.new (((w.alloc (.cells #[.int .i64 n] 3)).alloc (.cells #[.int .i64 at_] 3)).alloc (.cells #[.int .i64 stop] 3)) 4 (.bool false)
  rw [e1] at b2
  rw [e2] at b3
  rw [e3] at b4
  exact ⟨b1, b2, b3, b4, ((((Below.refl _ w).alloc (Nat.le_refl _) _).alloc (by simp) _).alloc (by simp; omega) _).alloc (by simp; omega) _⟩

/-- The ring's values: those of the first k places are set. -/
def triA (m k : Nat) : List Value := (List.range m).map fun j => .int .i64 (if j < k then 3 * (j : Int) else 0)
theorem triA_zero (m : Nat) : List.replicate m (Value.int .i64 0) = triA m 0 := by
  apply List.ext_getElem <;> simp [triA]
theorem triA_set (m k : Nat) : (triA m k).set k (.int .i64 (3 * (k : Int))) = triA m (k + 1) := by
  apply List.ext_getElem
  · simp [triA]
  · intro i h1 h2
    rw [List.getElem_set]
    by_cases h : k = i
    · subst h; simp [triA]
    · simp only [h, if_false, triA, List.getElem_map, List.getElem_range]
      congr 1
      by_cases h3 : i < k
      · rw [if_pos h3, if_pos (by omega)]
      · rw [if_neg h3, if_neg (by omega)]
theorem triA_full (m i : Nat) (h : i < m) : (triA m m)[i]? = some (.int .i64 (3 * (i : Int))) := by
  simp [triA, h]
/-- Where the blocks lie. -/
structure Lies (B p R g q : Nat) : Prop where
  lp : B ≤ p
  lR : p + 1 + 1 + 1 < R
  lg : p + 1 + 1 + 1 < g
  Rq : R < q
  gq : g < q
/-- Boxes, ring and the ring's box. -/
structure Fr (w W : World) (p R g q m : Nat) (n a stop : Int) (r : Bool) (L : List Value) : Prop where
  fb : Fb w W p n a stop r
  ring : Ringi W R g m L
  box : Boxed W q 29 (.pointer (some ⟨R, 0, none⟩))
theorem Fr.next {F : Nat → Prop} {w W W1 : World} {p R g q m : Nat} {n a stop : Int} {r : Bool} {L : List Value} (h : Fr w W p R g q m n a stop r L) (ht : Touch F W W1) (hl : Lies w.heap.size p R g q) (hF : ∀ k, F k → q < k) : Fr w W1 p R g q m n a stop r L :=
  ⟨h.fb.next ht (fun k hk => by have := hF k hk; have := hl.lp; have := hl.lR; have := hl.Rq; omega), h.ring.touch ht (fun e => by have := hF _ e; have := hl.Rq; omega) (fun e => by have := hF _ e; have := hl.gq; omega), ht.at h.box (fun e => by have := hF _ e; omega)⟩
theorem Fr.low {w W W1 : World} {p R g q m : Nat} {n a stop : Int} {r : Bool} {L : List Value} (h : Fr w W p R g q m n a stop r L) (hb : Below W.heap.size W W1) (hl : Lies w.heap.size p R g q) : Fr w W1 p R g q m n a stop r L := h.next (F := Emp) (Touch.of_below hb) hl (fun _ h => h.elim)
theorem Fr.sets {w W : World} {p R g q m : Nat} {n a stop : Int} {r : Bool} {L : List Value} (h : Fr w W p R g q m n a stop r L) (hl : Lies w.heap.size p R g q) (x : Int) : Fr w (W.setCell ⟨p + 1 + 1, 0, none⟩ (.int .i64 x)) p R g q m n a x r L :=
  ⟨h.fb.sets hl.lp x, h.ring.touch ((Touch.refl (fun k => k = p + 1 + 1) W).setCell (a := ⟨p + 1 + 1, 0, none⟩) (.inl rfl) _) (fun e => by have := hl.lR; omega) (fun e => by have := hl.lg; omega), h.box.other (by have := hl.lR; have := hl.Rq; omega) _⟩
theorem Fr.set {w W W1 : World} {p R g q m : Nat} {n a stop : Int} {r : Bool} {L L' : List Value} (h : Fr w W p R g q m n a stop r L) (hr : Ringi W1 R g m L') (ht : Touch (fun k => k = g) W W1) (hl : Lies w.heap.size p R g q) : Fr w W1 p R g q m n a stop r L' :=
  ⟨h.fb.next ht (fun k hk => by subst hk; have := hl.lg; have := hl.lp; omega), hr, ht.at h.box (fun e => by have := hl.gq; omega)⟩

theorem min_run (a b c : Nat) (h : min a b = c) : ∀ W : World, (Builtin.min_ #[3, 3] 3 #[.int .i64 (a : Int), .int .i64 (b : Int)]).run Try.prog W = .ok (.int .i64 (c : Int)) W := fun W => by
  simp [Builtin.min_, Builtin.min2]
  split <;> omega
/-- Between two rounds: what came are the first places; so many are counted. -/
structure Mid (w : World) (p R g q m : Nat) (a : Int) (s kb : Nat) (L : List Value) (f : Nat → Nat × Int) (pre : List (Nat × Int)) (W : World) : Prop where
  good : pre = upto f pre.length
  lt : pre.length < s
  box : Boxed W kb 3 (.int .i64 (pre.length : Int))
  fr : Fr w W p R g q m m a s false L
/-- A round has left: by a break behind the last one that was asked for; or by a return, which no round of ours does. -/
def Lft (w : World) (p R g q m : Nat) (a : Int) (s kb : Nat) (L : List Value) (f : Nat → Nat × Int) (c : Code) (pre : List (Nat × Int)) (W : World) : Prop :=
  (c = .exit 2 ∧ pre.length = s ∧ Boxed W kb 3 (.int .i64 (s : Int)) ∧ Fr w W p R g q m m a s false L) ∨ (c = .ret ∧ pre ≠ upto f pre.length)
section
variable {w W W1 : World} {p R g q m s kb B : Nat} {a : Int} {L : List Value} {f : Nat → Nat × Int}
theorem Mid.own (hl : Lies w.heap.size p R g q) (hq : q < kb) (hB : kb < B) : OwnFrom B (Mid w p R g q m a s kb L f) := fun pre W W' row h hg hr => by
  have ht : Touch (fun k => B ≤ k) W W' := Touch.of_grown hg fun k e => (hr k e).1
  exact ⟨h.good, h.lt, ht.at h.box (by omega), h.fr.next ht hl (fun k hk => by omega)⟩
theorem Lft.own (hl : Lies w.heap.size p R g q) (hq : q < kb) (hB : kb < B) (c : Code) : OwnFrom B (Lft w p R g q m a s kb L f c) := fun pre W W' row h hg hr => by
  have ht : Touch (fun k => B ≤ k) W W' := Touch.of_grown hg fun k e => (hr k e).1
  rcases h with ⟨h1, h2, h3, h4⟩ | h
  · exact .inl ⟨h1, h2, ht.at h3 (by omega), h4.next ht hl (fun k hk => by omega)⟩
  · exact .inr h
theorem upto_good {pre : List (Nat × Int)} (h : pre = upto f pre.length) (x : Nat × Int) : pre ++ [x] = upto f (pre ++ [x]).length ↔ x = f pre.length := by
  rw [List.length_append, List.length_singleton, upto_succ]
  constructor
  · intro e
    have := (List.append_inj' e rfl).2
    simpa using this
  · intro e
    rw [← h, e]
end
theorem and_255 (x : Int) : bits .and .i64 x 255 = x % 256 := by
  have := and_mask_i64 x 8 (by omega)
  simp only [Nat.reducePow, Nat.reduceSub] at this
  rw [show ((255 : Nat) : Int) = 255 from rfl] at this
  rw [this]; omega
set_option maxRecDepth 100000 in
set_option maxHeartbeats 4000000 in
theorem from_walk (n a many stop : Int) (w : World) :
    Calls Try.prog 5 #[.int .i64 n, .int .i64 a, .int .i64 many, .int .i64 stop] w fun e w' => e = .returned (.bool true) ∧ Below w.heap.size w w' := by
  obtain ⟨m, hm, hm1, hm2⟩ := few_bd n
  have HM := Lib.hid hm
  clear hm
  obtain ⟨a', ha, ha1, ha2⟩ := tmod_bd a 1000000 (by omega)
  replace ha : a.tmod 1000000 = a' := ha
  replace ha1 : -1000000 < a' := ha1
  replace ha2 : a' < 1000000 := ha2
  have FB := Lib.hid (Fb.start w n a stop)
  refine (callsIn_wide (n := 5)).1 ?_
  refine callsIn_of_wp_marks Try.func5 rfl trivial ?_ rfl
  simp only [Try.ntmps5, List.size_toArray, List.length_cons, List.length_nil, Nat.reduceAdd, Nat.reduceSub, Array.replicate_succ, Array.replicate_zero, List.push_toArray, List.append_toArray, List.nil_append, List.cons_append]
  gi_wp2_with fail
  generalize ((((w.alloc (.cells #[.int .i64 n] 3)).alloc (.cells #[.int .i64 a] 3)).alloc (.cells #[.int .i64 stop] 3)).alloc (.cells #[.bool false] 4)) = W1 at FB ⊢
  obtain ⟨p, hp⟩ : ∃ p, p = w.heap.size := ⟨_, rfl⟩
  rw [← hp] at FB ⊢
  have HP := Lib.hid hp
  have hp2 : w.heap.size ≤ p := by omega
  clear hp
  refine ⟨trivial, ?_⟩
  gi_at_call 8
  refine (callsIn_wide.2 (shown_any W1)).mono ?_
  rintro e w1 ⟨rfl, hb⟩
  replace FB := Lib.hid (FB.out.low hb)
  clear hb W1
  have c1 := FB.out.n.cell
  have f1 := FB.out.n.frozen
  have c2 := FB.out.a.cell
  have f2 := FB.out.a.frozen
  gi_wp2_with fail
  refine ⟨trivial, ?_⟩
  gi_at_call 9
  refine (callsIn_wide.2 (few_any n m _ HM.out)).mono ?_
  rintro e w' ⟨rfl, rfl⟩
  gi_wp2_with fail
  have FB2 := Lib.hid ((FB.out.setn hp2 (m : Int)).seta hp2 a')
  refine ⟨trivial, ?_⟩
  gi_at_call 13
  refine (callsIn_wide.2 (new_i m m 0 _ (by omega))).mono ?_
  rintro e w2 ⟨⟨R, g, rfl, hr, hR, hg⟩, hb⟩
  replace FB := Lib.hid (FB2.out.low hb)
  have HR := Lib.hid (hr.alloc (.cells #[.pointer (some ⟨R, 0, none⟩)] 29))
  have hsz : p + 1 + 1 + 1 < w1.heap.size := by have := FB2.out.r.lt; simpa using this
  clear c1 c2 f1 f2
  replace FB := Lib.hid (FB.out.next ((Touch.refl Emp w2).alloc (.cells #[.pointer (some ⟨R, 0, none⟩)] 29)) (fun _ h => h.elim))
  have BR := Lib.hid (Boxed.new w2 29 (.pointer (some ⟨R, 0, none⟩)))
  gi_wp2_with fail
  have LI := Lib.hid (show Lies w.heap.size p R g w2.heap.size from ⟨hp2, by have := hR; simp at this; omega, by have := hg; simp at this; omega, hr.lt.1, hr.lt.2⟩)
  have FR := Lib.hid (show Fr w _ p R g w2.heap.size m m a' stop false (triA m 0) from ⟨FB.out, by have := HR.out; rwa [triA_zero] at this, BR.out⟩)
  clear FB HR BR FB2 hR hg hr hb hsz HM
  generalize w2.alloc (.cells #[.pointer (some ⟨R, 0, none⟩)] 29) = W3 at FR ⊢
  generalize w2.heap.size = q at FR LI ⊢
  have hmm : m ≤ 1048576 := by omega
  gi_loopw [11] (fun i wr => ∃ k : Nat, k ≤ m ∧ i = .int .i64 k ∧ Fr w wr p R g q m m a' stop false (triA m k)) (fun i _ => m - (intOf i).toNat)
  case atStart => exact ⟨0, Nat.zero_le _, rfl, FR.out⟩
  case round =>
    clear FR W3
    obtain ⟨k, hk, rfl, hF⟩ := hrel
    have FR := Lib.hid hF
    have c1 := hF.fb.n.cell
    have c2 := hF.box.cell
    clear hF
    by_cases hlt : k < m
    · have S1 := Lib.hid (set_i R g m k (triA m k) k (3 * (k : Int)) wr FR.out.ring hm1 hmm (Int.emod_eq_of_lt (by omega) (by omega)))
      gi_wp2_with (refine ⟨trivial, ?_⟩; gi_at_call 14; refine (callsIn_wide.2 S1.out).mono ?_; rintro e w' ⟨rfl, hr, ht⟩)
      rw [triA_set] at hr
      have FR1 := Lib.hid (FR.out.set hr ht LI.out)
      clear hr ht
      gi_wp2
      go_roundw
      case rel => exact ⟨k + 1, by omega, by go_num, FR1.out⟩
      case measure => simp [intOf]; omega
    · obtain rfl : k = m := by omega
      clear hk hlt
      obtain ⟨N, hN, hNm⟩ : ∃ N : Nat, min (max many 0) (k : Int) = (N : Int) ∧ N ≤ k := ⟨(min (max many 0) (k : Int)).toNat, by omega, by omega⟩
      have c3 := FR.out.fb.a.cell
      have HN := Lib.hid hN
      clear hN
      have hfn : ∀ (W : World) (e : Array Value), (binOp .eql 34 (.func (.func 27) #[] e) .nilFunc).run Try.prog W = .ok (.bool false) W := fun _ _ => by kernel_rfl
      gi_wp2_with fail
      refine ⟨trivial, ?_⟩
      gi_at_call 16
      refine (callsIn_wide.2 (from_i R g k (triA k k) a' many N wr FR.out.ring HN.out)).mono ?_
      rintro e w4 ⟨⟨br, ba, bn, rfl, -, -, -, -⟩, hb⟩
      replace FR := Lib.hid (FR.out.low hb LI.out)
      clear hb c1 c2 c3
      have c1 := FR.out.fb.s.cell
      have f1 := FR.out.fb.s.frozen
      have has := and_255 stop
      obtain ⟨s, hs, hs1, hs2⟩ : ∃ s : Nat, 1 + stop % 256 = (s : Int) ∧ 1 ≤ s ∧ s ≤ 256 := ⟨(1 + stop % 256).toNat, by omega, by omega, by omega⟩
      have hs3 : 0 ≤ stop % 256 ∧ stop % 256 < 256 := by omega
      obtain ⟨hs3, hs4⟩ := hs3
      have FS := Lib.hid (((FR.out.sets LI.out (s : Int))).next ((Touch.refl Emp _).alloc (.cells #[.int .i64 0] 3)) LI.out (fun _ h => h.elim))
      have BK := Lib.hid (Boxed.new (w4.setCell ⟨p + 1 + 1, 0, none⟩ (.int .i64 (s : Int))) 3 (.int .i64 0))
      have c4 := FS.out.fb.a.cell
      have c5 := FS.out.box.cell
      have hkb : q < w4.heap.size := FR.out.box.lt
      gi_wp2_with fail
      refine ⟨trivial, ?_⟩
      gi_at_call 16
      refine (callsIn_wide.2 (from_i R g k (triA k k) a' many N _ FS.out.ring HN.out)).mono ?_
      rintro e w5 ⟨⟨br, ba, bn, rfl, hfa, hbr, hba, hbn⟩, hb⟩
      have ekb : (w4.setCell ⟨p + 1 + 1, 0, none⟩ (.int .i64 (s : Int))).heap.size = w4.heap.size := by simp
      replace FR := Lib.hid (FS.out.low hb LI.out)
      replace BK := Lib.hid (show Boxed w5 _ _ _ from (hb.block _ BK.out.lt).trans BK.out)
      rw [ekb] at BK
      have FA := Lib.hid hfa
      have hbr' : w4.heap.size < br := by have := hbr; simp at this; omega
      have hba' : w4.heap.size < ba := by have := hba; simp at this; omega
      have hbn' : w4.heap.size < bn := by have := hbn; simp at this; omega
      clear hfa hbr hba hbn ekb hb c1 f1 c4 c5 FS hs hs3 hs4 has hfn ha ha1 ha2
      generalize w4.heap.size = kb at *
      gi_wp2_with fail
      obtain ⟨pl, hpl⟩ : ∃ pl : Nat → Nat, ∀ i : Nat, (a' + i) % k = (pl i : Int) := ⟨fun i => ((a' + i) % k).toNat, fun i => (Int.toNat_of_nonneg (place_bd (a' + i) k hm1).1).symm⟩
      have hplk : ∀ i, pl i < k := fun i => by have := hpl i; have := place_bd (a' + i) k hm1; omega
      have PL := Lib.hid hpl
      have PK := Lib.hid hplk
      clear hpl hplk
      obtain ⟨f, hf⟩ : ∃ f : Nat → Nat × Int, f = fun j => (pl j, 3 * ((pl j : Nat) : Int)) := ⟨_, rfl⟩
      have HF := Lib.hid hf
      clear hf
      have hbB : kb < w5.heap.size := BK.out.lt
      have hN5 : br < w5.heap.size ∧ ba < w5.heap.size ∧ bn < w5.heap.size := ⟨FA.out.r.lt, FA.out.a.lt, FA.out.n.lt⟩
      have STP := Lib.hid (from_stops (5 - 1) (by omega) (fun b => b = kb ∨ w5.heap.size ≤ b) br ba bn R g k N (triA k k) a' hm1 hmm hNm pl (fun j => 3 * ((pl j : Nat) : Int)) PL.out (fun i => triA_full k (pl i) (PK.out i))
        ⟨by omega, by omega, by omega, by have := LI.out.Rq; have := FR.out.ring.lt.1; omega, by have := LI.out.gq; have := FR.out.ring.lt.2; omega⟩ w5 FA.out FR.out.ring)
      rw [← HF.out] at STP
      refine wpIn_rangeFunc_ownG (hro := rfl) (h1 := by omega) (gf := 27) (lb := #[.pointer (some ⟨bn, 0, none⟩), .pointer (some ⟨br, 0, none⟩), .pointer (some ⟨ba, 0, none⟩)]) rfl trivial (enters_of Try.func27 (by kernel_rfl) rfl)
        STP.out (fun h1 h2 => h1.trans h2 fun _ h _ => h) (fun W l o o' hl _ _ _ => Touch.of_grown (grownBy_putObj' W l o') (fun k e => by cases e; exact .inr hl)) (Below.refl _ _) (fun _ => rfl)
        (Mid w p R g q k a' s kb (triA k k) f) (Lft w p R g q k a' s kb (triA k k) f) (Mid.own LI.out hkb hbB) (Lft.own LI.out hkb hbB) ⟨rfl, hs1, BK.out, FR.out⟩ ?a1 ?assign ?body ?done ?stop
      case assign =>
        intro l x W K hK
        gi_wp2
        exact hK
      case body =>
        rintro l pre ⟨x1, x2⟩ W hI hlt
        have I := Lib.hid hI
        have hlk : pre.length < k := by omega
        have hls := hI.lt
        have G := Lib.hid (goq_i R g k (pl pre.length) _ a' pre.length W hI.fr.ring hm1 hmm (PL.out pre.length))
        have c1 := hI.box.cell
        have f1 := hI.box.frozen
        have c2 := hI.fr.fb.n.cell
        have c3 := hI.fr.box.cell
        have c4 := hI.fr.fb.a.cell
        have c5 := hI.fr.fb.s.cell
        have c6 := hI.fr.fb.r.cell
        have f6 := hI.fr.fb.r.frozen
        have hpk := PK.out pre.length
        have UG := Lib.hid (upto_good hI.good (x1, x2))
        have hff : f pre.length = (pl pre.length, 3 * ((pl pre.length : Nat) : Int)) := by rw [HF.out]
        rw [hff] at UG
        clear hI hff
        generalize pl pre.length = P at G hpk UG
        have F1 := Lib.hid (I.out.fr.next ((Touch.refl (fun k => k = kb) W).setCell (a := ⟨kb, 0, none⟩) (.inl rfl) (.int .i64 ((pre.length : Int) + 1))) LI.out (fun k e => by omega))
        have B1 := Lib.hid (I.out.box.set (.int .i64 ((pre.length : Int) + 1)))
        have c7 := F1.out.fb.s.cell
        have c8 := B1.out.cell
        have eL : ((pre ++ [(x1, x2)]).length : Int) = (pre.length : Int) + 1 := by simp
        have EL := Lib.hid eL
        clear eL
        by_cases hx1 : x1 = P
        · subst hx1
          by_cases hx2 : x2 = 3 * (x1 : Int)
          · subst hx2
            have UG1 := Lib.hid (UG.out.2 rfl)
            by_cases hbr : pre.length + 1 = s
            · have hb1 : (((pre.length : Int) + 1) == (s : Int)) = true := by rw [beq_iff_eq]; omega
              have HB1 := Lib.hid hbr
              clear hbr
              gi_wp2_with (refine ⟨trivial, ?_⟩; gi_at_call 17; refine (CallsIn.inRound l (callsIn_wide.2 G.out)).mono ?_; rintro e w' ⟨rfl, rfl⟩)
              refine ⟨(KeepsOthers.setCell _ _ _).from _, .inl ⟨rfl, by have := HB1.out; simp; omega, ?_, F1.out⟩⟩
              have e : Value.int .i64 (s : Int) = Value.int .i64 ((pre.length : Int) + 1) := by rw [show (s : Int) = (pre.length : Int) + 1 by have := HB1.out; omega]
              rw [e]
              exact B1.out
            · have hb1 : (((pre.length : Int) + 1) == (s : Int)) = false := by rw [beq_eq_false_iff_ne]; omega
              gi_wp2_with (refine ⟨trivial, ?_⟩; gi_at_call 17; refine (CallsIn.inRound l (callsIn_wide.2 G.out)).mono ?_; rintro e w' ⟨rfl, rfl⟩)
              refine ⟨(KeepsOthers.setCell _ _ _).from _, (Touch.refl _ W).setCell (a := ⟨kb, 0, none⟩) (.inl (.inl rfl)) _, ⟨UG1.out, by simp; omega, ?_, F1.out⟩⟩
              rw [EL.out]
              exact B1.out
          · have hb1 : (x2 == 3 * (x1 : Int)) = false := by rw [beq_eq_false_iff_ne]; exact hx2
            have hb2 : (x2 != 3 * (x1 : Int)) = true := by rw [bne_iff_ne]; exact hx2
            gi_wp2_with (refine ⟨trivial, ?_⟩; gi_at_call 17; refine (CallsIn.inRound l (callsIn_wide.2 G.out)).mono ?_; rintro e w' ⟨rfl, rfl⟩)
            exact ⟨(KeepsOthers.setCell _ _ _).from _, .inr ⟨rfl, fun e => hx2 (by have := UG.out.1 e; simpa using this)⟩⟩
        · have hb1 : ((x1 : Int) == (P : Int)) = false := by rw [beq_eq_false_iff_ne]; omega
          have hb2 : ((x1 : Int) != (P : Int)) = true := by rw [bne_iff_ne]; omega
          gi_wp2_with (refine ⟨trivial, ?_⟩; gi_at_call 17; refine (CallsIn.inRound l (callsIn_wide.2 G.out)).mono ?_; rintro e w' ⟨rfl, rfl⟩)
          exact ⟨(KeepsOthers.setCell _ _ _).from _, .inr ⟨rfl, fun e => hx1 (by have := UG.out.1 e; simp at this; exact this.1)⟩⟩
      case done =>
        rintro D ys W hD hys hI hK
        have hlen : ys.length = N := by rw [hys, upto_length]
        have hls := hI.lt
        rw [hlen] at hls
        have hbx := hI.box
        rw [hlen] at hbx
        obtain ⟨x, hx, hy⟩ := clamp0_run many k N HN.out
        have hz := min_run N s N (by omega)
        have hc1 := hbx.cell
        have hc2 := hI.fr.fb.n.cell
        have hc3 := hI.fr.fb.s.cell
        have hc4 := hI.fr.fb.r.cell
        have hf4 := hI.fr.fb.r.frozen
        have FE := Lib.hid (hI.fr.fb.setr LI.out.lp true)
        have HK := Lib.hid hK
        clear hI hbx hys hlen hls hK
        gi_wp2
        have hK' := (KeepsOthers.setCell W ⟨p + 1 + 1 + 1, 0, none⟩ (.bool true)).same D _ HK.out rfl
        refine ⟨by simp, .inl ⟨_, _, rfl, run_takeDeferred hK', ?_⟩⟩
        have hc5 := cell_kept FE.out.r.cell (grownBy_putObj' _ D (.deferred none)) (fun r e => by cases e; exact ⟨_, hK', rfl⟩)
        refine ⟨.bool true, ?_, rfl, FE.out.below.trans (belowK_b (w := w) (Nat.le_refl _) _ D _ _ (by have := FR.out.fb.below.size; omega) hK' rfl rfl)⟩
        simp [results, Try.results5, go_sem, hc5]
      case stop =>
        rintro D c pre W hD ⟨z, hz, hpre⟩ hI hK
        rcases hI with ⟨rfl, hlen, hbx, hfr⟩ | ⟨rfl, hne⟩
        · have hsN : s ≤ N := by rw [← hlen, hpre, upto_length]; exact hz
          obtain ⟨x, hx, hy⟩ := clamp0_run many k N HN.out
          have hw := min_run N s s (by omega)
          have hc1 := hbx.cell
          have hc2 := hfr.fb.n.cell
          have hc3 := hfr.fb.s.cell
          have hc4 := hfr.fb.r.cell
          have hf4 := hfr.fb.r.frozen
          have FE := Lib.hid (hfr.fb.setr LI.out.lp true)
          have HK := Lib.hid hK
          clear hfr hbx hpre hlen hsN hK
          gi_wp2
          have hK' := (KeepsOthers.setCell W ⟨p + 1 + 1 + 1, 0, none⟩ (.bool true)).same D _ HK.out rfl
          refine ⟨by simp, .inl ⟨_, _, rfl, run_takeDeferred hK', ?_⟩⟩
          have hc5 := cell_kept FE.out.r.cell (grownBy_putObj' _ D (.deferred none)) (fun r e => by cases e; exact ⟨_, hK', rfl⟩)
          refine ⟨.bool true, ?_, rfl, FE.out.below.trans (belowK_b (w := w) (Nat.le_refl _) _ D _ _ (by have := FR.out.fb.below.size; omega) hK' rfl rfl)⟩
          simp [results, Try.results5, go_sem, hc5]
        · exact (hne (by rw [hpre, upto_length])).elim

end Go.Proofs.Ytaldkjlmaajapaa
