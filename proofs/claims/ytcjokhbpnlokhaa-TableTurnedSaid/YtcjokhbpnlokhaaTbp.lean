/- Tables: Drop, Put. Tables of at most 2^20 blocks and places. -/
import Derived.Test.YtcjokhbpnlokhaaTbf
import Derived.RegionTactic
import Derived.BigRegion
namespace Go.Proofs.Ytcjokhbpnlokhaa
open Go.RowKit

section
variable {w : World} {T gp go B S : Nat} {a o : Nat → Option Nat}
/-- Three stores: a block's place, a place's block, how many there are. -/
theorem TabAt.store3 (h : TabAt w T gp go B S a o) {i q c : Nat} {u v : Option Nat} (hg : Good B S (upd a i u) (upd o q v)) (hc : cnt (upd a i u) B = c) :
    TabAt (((w.setCell ⟨gp, i, none⟩ (.int .i64 (enc u))).setCell ⟨go, q, none⟩ (.int .i64 (enc v))).setCell ⟨T, 2, none⟩ (.int .i64 (c : Int))) T gp go B S (upd a i u) (upd o q v) := by
  have e1 := heap_setCell_same w gp i _ _ (.int .i64 (enc u)) h.rowp
  have e2 : (w.setCell ⟨gp, i, none⟩ (.int .i64 (enc u))).heap[go]? = _ := (heap_setCell_other w ⟨gp, i, none⟩ go _ (fun e => h.n3 e.symm)).trans h.rowo
  have e3 : (w.setCell ⟨gp, i, none⟩ (.int .i64 (enc u))).heap[T]? = _ := (heap_setCell_other w ⟨gp, i, none⟩ T _ h.n1).trans h.head
  generalize (w.setCell ⟨gp, i, none⟩ (.int .i64 (enc u))) = w1 at *
  have f1 := heap_setCell_same w1 go q _ _ (.int .i64 (enc v)) e2
  have f2 : (w1.setCell ⟨go, q, none⟩ (.int .i64 (enc v))).heap[gp]? = _ := (heap_setCell_other w1 ⟨go, q, none⟩ gp _ h.n3).trans e1
  have f3 : (w1.setCell ⟨go, q, none⟩ (.int .i64 (enc v))).heap[T]? = _ := (heap_setCell_other w1 ⟨go, q, none⟩ T _ h.n2).trans e3
  generalize (w1.setCell ⟨go, q, none⟩ (.int .i64 (enc v))) = w2 at *
  have g1 := heap_setCell_same w2 T 2 _ _ (.int .i64 (c : Int)) f3
  refine ⟨hg, ?_, ?_, ?_, h.n1, h.n2, h.n3, h.mB, h.mS⟩
  · rw [g1, hc]; rfl
  · rw [heap_setCell_other w2 ⟨T, 2, none⟩ gp _ (fun e => h.n1 e.symm), f2, ← rowT_set]; simp
  · rw [heap_setCell_other w2 ⟨T, 2, none⟩ go _ (fun e => h.n2 e.symm), f1, ← rowT_set]; simp
/-- The block of how many there are, behind the two stores. -/
theorem TabAt.after2 (h : TabAt w T gp go B S a o) (i q : Nat) (x y : Value) :
    ((w.setCell ⟨gp, i, none⟩ x).setCell ⟨go, q, none⟩ y).cell? ⟨T, 2, none⟩ = some (.int .i64 (cnt a B : Nat)) ∧ ((w.setCell ⟨gp, i, none⟩ x).setCell ⟨go, q, none⟩ y).frozen? ⟨T, 2, none⟩ = false := by
  have f3 : ((w.setCell ⟨gp, i, none⟩ x).setCell ⟨go, q, none⟩ y).heap[T]? = _ := (heap_setCell_other _ ⟨go, q, none⟩ T y h.n2).trans ((heap_setCell_other w ⟨gp, i, none⟩ T x h.n1).trans h.head)
  exact ⟨by rw [cell_of_row _ T 2 _ _ _ f3]; rfl, frozen_of_row _ T 2 _ _ f3⟩
/-- The second store's cell, behind the first one. -/
theorem TabAt.after1 (h : TabAt w T gp go B S a o) (i : Nat) {q : Nat} (hq : q < S) (x : Value) :
    (w.setCell ⟨gp, i, none⟩ x).cell? ⟨go, q, none⟩ = some (.int .i64 (enc (o q))) ∧ (w.setCell ⟨gp, i, none⟩ x).frozen? ⟨go, q, none⟩ = false := by
  have f3 : (w.setCell ⟨gp, i, none⟩ x).heap[go]? = _ := (heap_setCell_other w ⟨gp, i, none⟩ go x (fun e => h.n3 e.symm)).trans h.rowo
  exact ⟨by rw [cell_of_row _ go q _ _ _ f3]; simpa using rowT_get o hq, frozen_of_row _ go q _ _ f3⟩

def Own3 (T gp go k : Nat) : Prop := k = T ∨ k = gp ∨ k = go
theorem touch3 (w : World) (T gp go i q : Nat) (x y z : Value) (n : Nat) : Touch (Own3 T gp go) w ((((w.drewN n).setCell ⟨gp, i, none⟩ x).setCell ⟨go, q, none⟩ y).setCell ⟨T, 2, none⟩ z) :=
  ((((Touch.refl _ w).drewN n).setCell (a := ⟨gp, i, none⟩) (.inl (.inr (.inl rfl))) x).setCell (a := ⟨go, q, none⟩) (.inl (.inr (.inr rfl))) y).setCell (a := ⟨T, 2, none⟩) (.inl (.inl rfl)) z

set_option maxRecDepth 100000 in
set_option maxHeartbeats 1000000 in
theorem drop_any (h : TabAt w T gp go B S a o) (id : Int) :
    Calls Try.prog 9 #[.pointer (some ⟨T, 0, none⟩), .int .i64 id] w fun e w' => e = .returned (.bool (lookI a id).isSome) ∧ (∃ a' o', TabAt w' T gp go B S a' o' ∧ (0 ≤ id → a' = upd a id.toNat none ∧ o' = dropO a o id.toNat) ∧ (id < 0 → a' = a ∧ o' = o)) ∧ Touch (Own3 T gp go) w w' := by
  have A := Lib.hid (at_any h id)
  have H := Lib.hid h
  cases e : lookI a id with
  | none =>
    rw [e] at A
    simp only [ans, Option.isSome] at A ⊢
    have E := Lib.hid e
    clear h e
    go_enter Try.func9, Try.ntmps9
    go_wp2_with fail
    refine A.out.mono ?_
    rintro e w' ⟨rfl, rfl⟩
    go_wp2
    go_ret
    refine ⟨rfl, ⟨a, o, H.out, fun h0 => ?_, fun _ => ⟨rfl, rfl⟩⟩, Touch.refl _ _⟩
    have he := E.out
    simp only [lookI, h0, if_true] at he
    exact ⟨by rw [← he, upd_self], by simp [dropO, he]⟩
  | some q =>
    rw [e] at A
    simp only [ans, Option.isSome] at A ⊢
    obtain ⟨i, rfl⟩ : ∃ i : Nat, id = (i : Int) := ⟨id.toNat, by
      by_cases h0 : 0 ≤ id
      · omega
      · simp [lookI, h0] at e⟩
    rw [lookI_nat] at e
    obtain ⟨hi, hq⟩ := h.good.lt i q e
    have hi' : (i : Int) < (B : Int) := by omega
    have hq' : (q : Int) < (S : Int) := by omega
    have c0 := h.c0
    have c1 := h.c1
    have cp := h.cp hi
    have fp := h.fp i
    obtain ⟨co, fo⟩ := h.after1 i hq (.int .i64 (-1))
    obtain ⟨c2, f2⟩ := h.after2 i q (.int .i64 (-1)) (.int .i64 (-1))
    have hcd := h.good.cnt_drop i
    rw [e] at hcd
    simp only [Option.isSome, if_true] at hcd
    have HG := Lib.hid (h.good.drop i)
    have E := Lib.hid e
    have hle := cnt_le a B
    have hmB := h.mB
    obtain ⟨c, hc⟩ : ∃ c : Nat, cnt (upd a i none) B = c := ⟨_, rfl⟩
    have hcc : cnt a B = c + 1 := by omega
    have HC := Lib.hid hc
    have hcb : c ≤ 1048576 := by omega
    rw [hcc] at c2
    clear h e hcd hcc hc
    go_enter Try.func9, Try.ntmps9
    go_wp2_with fail
    refine A.out.mono ?_
    rintro e w' ⟨rfl, rfl⟩
    go_wp2
    go_region
    go_wp2
    go_ret
    refine ⟨rfl, ⟨upd a i none, dropO a o i, ?_, fun _ => ⟨rfl, rfl⟩, fun h0 => by omega⟩, ?_⟩
    · have hs := (H.out.store3 (i := i) (q := q) (c := c) (u := none) (v := none) (by have := HG.out; simp only [dropO, E.out] at this; exact this) HC.out).drewN 1
      simp only [dropO, E.out]
      exact hs
    · exact touch3 w T gp go i q _ _ _ 1

set_option maxRecDepth 100000 in
set_option maxHeartbeats 1000000 in
theorem put_no (h : TabAt w T gp go B S a o) (id p : Int) (hno : ¬ (0 ≤ id ∧ id < B ∧ 0 ≤ p ∧ p < S ∧ (o p.toNat = none ∨ o p.toNat = some id.toNat))) :
    Calls Try.prog 10 #[.pointer (some ⟨T, 0, none⟩), .int .i64 id, .int .i64 p] w fun e w' => e = .returned (.bool false) ∧ w = w' := by
  have H1 := Lib.hid (has_any gp B id w h.mB)
  have H2 := Lib.hid (has_any go S p w h.mS)
  have c0 := h.c0
  have c1 := h.c1
  have HO := Lib.hid (fun q (hq : q < S) => h.co hq)
  by_cases hi : 0 ≤ id ∧ id < B
  · have hd : decide (0 ≤ id ∧ id < (B : Int)) = true := by simp [hi]
    rw [hd] at H1
    by_cases hp : 0 ≤ p ∧ p < S
    · have hd : decide (0 ≤ p ∧ p < (S : Int)) = true := by simp [hp]
      rw [hd] at H2
      obtain ⟨q, rfl⟩ : ∃ q : Nat, p = (q : Int) := ⟨p.toNat, by omega⟩
      obtain ⟨i, rfl⟩ : ∃ i : Nat, id = (i : Int) := ⟨id.toNat, by omega⟩
      simp only [Int.toNat_natCast] at hno
      have hq : q < S := by omega
      have hq' : (q : Int) < (S : Int) := by omega
      have co := HO.out q hq
      cases e : o q with
      | none => exact (hno ⟨hi.1, hi.2, hp.1, hp.2, .inl e⟩).elim
      | some j =>
        rw [e] at co
        simp only [enc] at co
        have hji : j ≠ i := fun e' => hno ⟨hi.1, hi.2, hp.1, hp.2, .inr (by rw [e, e'])⟩
        have b1 : ((j : Int) != -1) = true := by rw [bne_iff_ne]; omega
        have b2 : ((j : Int) != (i : Int)) = true := by rw [bne_iff_ne]; omega
        have b3 : ((j : Int) == -1) = false := by rw [beq_eq_false_iff_ne]; omega
        have b4 : ((j : Int) == (i : Int)) = false := by rw [beq_eq_false_iff_ne]; omega
        clear h hno hi hp hd e hq HO
        go_enter Try.func10, Try.ntmps10
        go_wp2_with fail
        refine H1.out.mono ?_
        rintro e w' ⟨rfl, rfl⟩
        go_wp2_with fail
        refine H2.out.mono ?_
        rintro e w' ⟨rfl, rfl⟩
        go_wp2
        go_ret
        exact ⟨rfl, rfl⟩
    · have hd : decide (0 ≤ p ∧ p < (S : Int)) = false := by simp; omega
      rw [hd] at H2
      clear h hno hi hp hd HO
      go_enter Try.func10, Try.ntmps10
      go_wp2_with fail
      refine H1.out.mono ?_
      rintro e w' ⟨rfl, rfl⟩
      go_wp2_with fail
      refine H2.out.mono ?_
      rintro e w' ⟨rfl, rfl⟩
      go_wp2
      go_ret
      exact ⟨rfl, rfl⟩
  · have hd : decide (0 ≤ id ∧ id < (B : Int)) = false := by simp; omega
    rw [hd] at H1
    clear h hno hi hd HO
    go_enter Try.func10, Try.ntmps10
    go_wp2_with fail
    refine H1.out.mono ?_
    rintro e w' ⟨rfl, rfl⟩
    go_wp2
    go_ret
    exact ⟨rfl, rfl⟩

set_option maxRecDepth 100000 in
set_option maxHeartbeats 1000000 in
theorem put_ok (h : TabAt w T gp go B S a o) {i p : Nat} (hi : i < B) (hp : p < S) (hf : o p = none ∨ o p = some i) :
    Calls Try.prog 10 #[.pointer (some ⟨T, 0, none⟩), .int .i64 (i : Int), .int .i64 (p : Int)] w fun e w' => e = .returned (.bool true) ∧ TabAt w' T gp go B S (upd a i (some p)) (putO a o i p) ∧ Touch (Own3 T gp go) w w' := by
  have H1 := Lib.hid (has_any gp B i w h.mB)
  have H2 := Lib.hid (has_any go S p w h.mS)
  have hd : decide (0 ≤ (i : Int) ∧ (i : Int) < (B : Int)) = true := by simp [hi]
  rw [hd] at H1
  have hd : decide (0 ≤ (p : Int) ∧ (p : Int) < (S : Int)) = true := by simp [hp]
  rw [hd] at H2
  have c0 := h.c0
  have c1 := h.c1
  have co := h.co hp
  have hp' : (p : Int) < (S : Int) := by omega
  have hi' : (i : Int) < (B : Int) := by omega
  have D := Lib.hid (drop_any h (i : Int))
  have HGP := Lib.hid (h.good.put hi hp hf)
  have HCP := Lib.hid (cnt_put (a := a) hi p)
  have HFR := Lib.hid (h.good.free hf)
  have hcle := cnt_le (upd a i (some p)) B
  have hmB := h.mB
  have hb : ((enc (o p)) != -1 && (enc (o p)) != (i : Int)) = false := by
    rcases hf with e | e <;> rw [e] <;> simp [enc]
  have HE := Lib.hid (show enc (o p) = -1 ∨ enc (o p) = (i : Int) by rcases hf with e | e <;> rw [e] <;> simp [enc])
  generalize enc (o p) = E at *
  clear h hf hd hb
  have b1 : ((i : Int) != -1) = true := by rw [bne_iff_ne]; omega
  have b2 : ((i : Int) == -1) = false := by rw [beq_eq_false_iff_ne]; omega
  rcases HE.out with e | e <;> subst e
  all_goals
    clear HE
    go_enter Try.func10, Try.ntmps10
    go_wp2_with fail
    refine H1.out.mono ?_
    rintro e w' ⟨rfl, rfl⟩
    go_wp2_with fail
    refine H2.out.mono ?_
    rintro e w' ⟨rfl, rfl⟩
    go_wp2_with fail
    refine D.out.mono ?_
    rintro e w1 ⟨rfl, ⟨a', o', ht, hx, -⟩, htc⟩
    obtain ⟨rfl, rfl⟩ := hx (by omega)
    simp only [Int.toNat_natCast] at ht
    have HT := Lib.hid ht
    have TC := Lib.hid htc
    clear c0 c1 co ht htc hx
    have c0 := HT.out.c0
    have c1 := HT.out.c1
    have cp := HT.out.cp hi
    have fp := HT.out.fp i
    obtain ⟨co, fo⟩ := HT.out.after1 i hp (.int .i64 (p : Int))
    obtain ⟨c2, f2⟩ := HT.out.after2 i p (.int .i64 (p : Int)) (.int .i64 (i : Int))
    have hcc := HCP.out
    obtain ⟨c, hc⟩ : ∃ c : Nat, cnt (upd a i none) B = c := ⟨_, rfl⟩
    rw [hc] at c2
    have hcb : c ≤ 1048576 := by omega
    have HC := Lib.hid hc
    clear hc hcc hcle
    go_wp2
    go_region
    go_wp2
    go_ret
    refine ⟨rfl, ?_, ?_⟩
    · have hs := (HT.out.store3 (i := i) (q := p) (c := c + 1) (u := some p) (v := some i) (by rw [upd_upd]; exact HGP.out) (by rw [upd_upd, HCP.out, HC.out])).drewN 1
      rw [upd_upd] at hs
      exact hs
    · exact TC.out.trans (touch3 w1 T gp go i p _ _ _ 1) (fun k hk _ => hk)

end

end Go.Proofs.Ytcjokhbpnlokhaa
