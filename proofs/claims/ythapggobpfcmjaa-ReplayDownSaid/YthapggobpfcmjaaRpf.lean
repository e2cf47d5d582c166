/- Where the next batch begins, and how many places ahead of it are taken: behind, span. Of right tags; at most 2^20 places. -/
import Derived.Test.YthapggobpfcmjaaRpe
import Derived.Test.YthapggobpfcmjaaRge
import Derived.Test.YthapggobpfcmjaaNum
set_option maxRecDepth 100000
namespace Go.Proofs.Ythapggobpfcmjaa
namespace Rp
open Go.RowKit

set_option maxHeartbeats 400000 in
theorem far_c (R g n : Nat) (a b : Int) (w : World) (hc : w.cell? ⟨R, 0, none⟩ = some (.slice (some ⟨g, 0, none⟩) n n)) (hn : 1 ≤ n) (hm : n ≤ 1048576) :
    Calls Try.prog 67 #[.pointer (some ⟨R, 0, none⟩), .int .i64 a, .int .i64 b] w fun e w' => e = .returned (.int .i64 ((b - a) % n)) ∧ w = w' := by
  have P1 := Lib.hid (Rg.place_c R g n b w hc hn hm)
  have P2 := Lib.hid (Rg.place_c R g n a w hc hn hm)
  have P3 := Lib.hid (Rg.place_c R g n (b % n - a % n) w hc hn hm)
  have HP := Lib.hid (far_place a b n)
  obtain ⟨a1, a2⟩ := place_bd a n hn
  obtain ⟨b1, b2⟩ := place_bd b n hn
  clear hc
  go_enter Try.func67, Try.ntmps67
  go_wp2_with fail
  refine P1.out.mono ?_
  rintro e w' ⟨rfl, rfl⟩
  go_wp2_with fail
  refine P2.out.mono ?_
  rintro e w' ⟨rfl, rfl⟩
  go_wp2_with fail
  refine P3.out.mono ?_
  rintro e w' ⟨rfl, rfl⟩
  go_wp2
  go_ret
  exact ⟨rfl, rfl⟩

/-- Behind the tag of the greatest index of a batch, and that index; -1: none. -/
def headF (l : List Fo) (seq P : Nat) : Int × Int := l.foldl (fun p x => if x.1.q = seq ∧ p.2 < x.1.i then (((x.2 : Int) + (x.1.c - x.1.i)) % (P : Int), x.1.i) else p) (0, -1)
theorem head_snoc (l : List Fo) (x : Fo) (seq P : Nat) : headF (l ++ [x]) seq P = if x.1.q = seq ∧ (headF l seq P).2 < x.1.i then (((x.2 : Int) + (x.1.c - x.1.i)) % (P : Int), x.1.i) else headF l seq P := by
  unfold headF; rw [List.foldl_append]; rfl
theorem head_in (l : List Fo) (seq P : Nat) (hP : 1 ≤ P) : 0 ≤ (headF l seq P).1 ∧ (headF l seq P).1 < P := by
  induction l using snoc_ind with
  | nil => exact ⟨Int.le_refl _, by show (0 : Int) < P; omega⟩
  | snoc l x ih =>
    rw [head_snoc]
    split
    · exact place_bd _ P hP
    · exact ih
/-- How many places ahead of a head have these in them. -/
def spanF (A : List Int) (head : Int) (P : Nat) : Int := A.foldl (fun u p => if p = -1 then u else max u ((head - 1 - p) % (P : Int) + 1)) 0
theorem span_snoc (A : List Int) (p head : Int) (P : Nat) : spanF (A ++ [p]) head P = if p = -1 then spanF A head P else max (spanF A head P) ((head - 1 - p) % (P : Int) + 1) := by
  unfold spanF; rw [List.foldl_append]; rfl
theorem span_in (A : List Int) (head : Int) (P : Nat) (hP : 1 ≤ P) : 0 ≤ spanF A head P ∧ spanF A head P ≤ P := by
  induction A using snoc_ind with
  | nil => exact ⟨Int.le_refl _, by show (0 : Int) ≤ P; omega⟩
  | snoc A p ih =>
    rw [span_snoc]
    split
    · exact ih
    · have := place_bd (head - 1 - p) P hP; omega

/-- While behind runs. -/
structure BhI (w : World) (v : Value) (l : List Fo) (g R gr P : Nat) (wr : World) : Prop where
  fv : FV wr v l g
  ring : Rg.RingE wr R gr P
  below : Below w.heap.size w wr
theorem BhI.next {w wr wr' : World} {v : Value} {l : List Fo} {g R gr P : Nat} (h : BhI w v l g R gr P wr) (hb : Below wr.heap.size wr wr') : BhI w v l g R gr P wr' :=
  ⟨h.fv.below hb, h.ring.below hb, ((Touch.of_below (F := Emp) h.below).trans (Touch.of_below (F := Emp) hb) (fun _ h _ => h)).below⟩

set_option maxHeartbeats 4000000 in
theorem behind_ok {w : World} {v : Value} {l : List Fo} {g R gr P : Nat} (h : FV w v l g) (hlen : l.length ≤ 4294967296) (hr : RightL l) (seq : Nat) (hR : Rg.RingE w R gr P) (hP : 1 ≤ P) (hP2 : P ≤ 1048576) :
    Calls Try.prog 56 #[v, .int .u64 (seq : Int), .pointer (some ⟨R, 0, none⟩)] w fun e w' => e = .returned (.int .i64 (headF l seq P).1) ∧ Below w.heap.size w w' := by
  have H := Lib.hid h
  have HR := Lib.hid hr
  have HRg := Lib.hid hR
  obtain ⟨a, cap, rfl, hcap, hnil, hne⟩ := h.form
  clear h hne hnil hcap hr hR
  go_enter Try.func56, Try.ntmps56
  go_wp2
  go_loopw [13, 7, 8] (fun i p q wr => ∃ k : Nat, k ≤ l.length ∧ i = .int .i64 k ∧ p = .int .i64 (headF (l.take k) seq P).1 ∧ q = .int .i64 (headF (l.take k) seq P).2 ∧ BhI w (.slice a l.length cap) l g R gr P wr) (fun i _ _ _ => l.length - (intOf i).toNat)
  case atStart => exact ⟨0, Nat.zero_le _, rfl, rfl, rfl, ⟨H.out, HRg.out, Below.refl _ _⟩⟩
  case round =>
    obtain ⟨k, hk, rfl, rfl, rfl, hI⟩ := hrel
    by_cases hlt : k < l.length
    · obtain ⟨cap', e1, -, w0, w1, w2, w3, w4, w5, w6, w7⟩ := hI.fv.at hlt
      obtain ⟨rfl, rfl⟩ : a = some ⟨g, 0, none⟩ ∧ cap = cap' := by simpa using e1
      have hgs : g < wr.heap.size := World.block_lt_of_cell? wr _ w0
      have hk' : (k : Int) < (l.length : Int) := by omega
      have hin := (Tg.right_iff _).1 (HR.out _ (List.getElem_mem hlt))
      generalize hek : l[k] = ek at w0 w1 w2 w3 w4 w5 w6 w7 hin
      have htk : l.take (k + 1) = l.take k ++ [ek] := by rw [List.take_add_one, List.getElem?_eq_getElem hlt, hek]; rfl
      have hs := head_snoc (l.take k) ek seq P
      rw [← htk] at hs
      have hd1 : ek.1.c - ek.1.i ≤ 72 := by omega
      have hd0 : 0 ≤ ek.1.c - ek.1.i := by omega
      have hcell : (wr.alloc (.cells (foV ek) 96)).cell? ⟨R, 0, none⟩ = some (.slice (some ⟨gr, 0, none⟩) P P) := (hI.ring.below ((Below.refl _ _).alloc (Nat.le_refl _) _)).hcell
      have GO := Lib.hid (fun nn => Rg.go_c R gr P (ek.2 : Int) (ek.1.c - ek.1.i) ((wr.alloc (.cells (foV ek) 96)).drewN nn) hcell hP hP2)
      have NX := Lib.hid (fun nn => hI.next (((Touch.refl Emp wr).alloc (.cells (foV ek) 96)).drewN nn).below)
      generalize headF (l.take k) seq P = hp at hs
      obtain ⟨h1, h2⟩ := hp
      clear e1 htk hin hcell hI
      by_cases hq : ek.1.q = seq
      · have hq1 : ((ek.1.q : Int) == (seq : Int)) = true := by simp [hq]
        by_cases hi : h2 < ek.1.i
        · have hi1 : ek.1.i > h2 := hi
          rw [if_pos ⟨hq, hi⟩] at hs
          have HS := Lib.hid hs
          clear hs hq hi
          unfold foV at *
          go_wp2_with fail
          go_quiet ((go_at_call 66; exact Calls.quiet_of_same ((GO.out _).mono fun e w' (hh : _ ∧ _) => (⟨hh.1, hh.2.symm⟩ : _ ∧ _))))
          go_wp2
          exact ⟨⟨k + 1, by omega, by go_num, by rw [HS.out], by rw [HS.out], NX.out _⟩, by simp [intOf]; omega⟩
        · have hi1 : ¬ ek.1.i > h2 := hi
          rw [if_neg fun hc => hi hc.2] at hs
          have HS := Lib.hid hs
          clear hs hq hi GO
          unfold foV at *
          go_wp2_with fail
          exact ⟨⟨k + 1, by omega, by go_num, by rw [HS.out], by rw [HS.out], NX.out 0⟩, by simp [intOf]; omega⟩
      · have hq1 : ((ek.1.q : Int) == (seq : Int)) = false := by simp; omega
        rw [if_neg fun hc => hq hc.1] at hs
        have HS := Lib.hid hs
        clear hs hq GO
        unfold foV at *
        go_wp2_with fail
        exact ⟨⟨k + 1, by omega, by go_num, by rw [HS.out], by rw [HS.out], NX.out 0⟩, by simp [intOf]; omega⟩
    · obtain rfl : k = l.length := by omega
      have HI := Lib.hid hI
      clear hI hk
      go_wp2
      go_ret
      exact ⟨by rw [List.take_length]; rfl, HI.out.below⟩

theorem max_run (a b : Int) (t : TypeId) : ∃ r : Int, r = max a b ∧ ∀ W : World, (Builtin.max_ #[3, 3] t #[.int .i64 a, .int .i64 b]).run Try.prog W = .ok (.int .i64 r) W := by
  refine ⟨max a b, rfl, fun W => ?_⟩
  simp [Builtin.max_, Builtin.max2]
  split <;> omega

set_option maxHeartbeats 4000000 in
theorem span_ok {w : World} {v : Value} {A : List Int} {g R gr P : Nat} (h : NV .i64 w v A g) (hlen : A.length ≤ 4294967296) (hA : ∀ p ∈ A, -1 ≤ p ∧ p < P) (head : Int) (hh : 0 ≤ head ∧ head < P) (hR : Rg.RingE w R gr P) (hP : 1 ≤ P) (hP2 : P ≤ 1048576) :
    Calls Try.prog 57 #[v, .int .i64 head, .pointer (some ⟨R, 0, none⟩)] w fun e w' => e = .returned (.int .i64 (spanF A head P)) ∧ w = w' := by
  obtain ⟨a, cap, rfl, hcap, hnil, hne⟩ := h.form
  have HA := Lib.hid hA
  have hcell := hR.hcell
  obtain ⟨hh0, hh1⟩ := hh
  have hh2 : head ≤ 1048576 := by omega
  clear hnil hcap hA hR
  go_enter Try.func57, Try.ntmps57
  go_wp2
  go_loopw [12, 7] (fun i u wr => ∃ k : Nat, k ≤ A.length ∧ i = .int .i64 k ∧ u = .int .i64 (spanF (A.take k) head P) ∧ w = wr) (fun i _ _ => A.length - (intOf i).toNat)
  case atStart => exact ⟨0, Nat.zero_le _, rfl, rfl, rfl⟩
  case round =>
    obtain ⟨k, hk, rfl, rfl, rfl⟩ := hrel
    by_cases hlt : k < A.length
    · obtain ⟨off, rfl, hc⟩ := hne (by intro e; subst e; simp at hlt)
      have w0 := hc k hlt
      have hk' : (k : Int) < (A.length : Int) := by omega
      have hpa := HA.out _ (List.getElem_mem hlt)
      generalize hek : A[k] = p at w0 hpa
      have htk : A.take (k + 1) = A.take k ++ [p] := by rw [List.take_add_one, List.getElem?_eq_getElem hlt, hek]; rfl
      have hs := span_snoc (A.take k) p head P
      rw [← htk] at hs
      have hsp := span_in (A.take k) head P hP
      generalize spanF (A.take k) head P = u at hs hsp
      have hpb := place_bd (head - 1 - p) P hP
      have FA := Lib.hid (far_c R gr P p (head - 1) w hcell hP hP2)
      obtain ⟨r, hr, hmx⟩ := max_run u ((head - 1 - p) % (P : Int) + 1) 3
      rw [← hr] at hs
      have hfb : (head - 1 - p) % (P : Int) + 1 ≤ 1048576 := by omega
      have hfb0 : 0 ≤ (head - 1 - p) % (P : Int) := by omega
      clear hc hne htk hek hpb hr
      by_cases hn : p = -1
      · rw [if_pos hn] at hs
        have hn1 : (p == -1) = true := by simp [hn]
        have hn2 : (p != -1) = false := by simp [hn]
        have HS := Lib.hid hs
        clear hs hn hpa
        go_wp2_with fail
        exact ⟨⟨k + 1, by omega, by go_num, by rw [HS.out], trivial⟩, by simp [intOf]; omega⟩
      · rw [if_neg hn] at hs
        have hn1 : (p == -1) = false := by simp [hn]
        have hn2 : (p != -1) = true := by simp [hn]
        have HS := Lib.hid hs
        clear hs hn hpa
        go_wp2_with fail
        refine FA.out.mono ?_
        rintro e w' ⟨rfl, rfl⟩
        go_wp2_with fail
        exact ⟨⟨k + 1, by omega, by go_num, by rw [HS.out], trivial⟩, by simp [intOf]; omega⟩
    · obtain rfl : k = A.length := by omega
      clear hk
      go_wp2
      go_ret
      exact ⟨by rw [List.take_length]; rfl, rfl⟩
end Rp
end Go.Proofs.Ythapggobpfcmjaa
