/- Rings: the iterator that From hands out. Rings of 1 to 2^20 places. -/
import Derived.Test.YtaldkjlmaajapaaRgb
namespace Go.Proofs.Ytaldkjlmaajapaa
open Go.RowKit Go.Shelf

/-- What has come when k rounds are over. -/
def upto {α : Type} (f : Nat → α) (k : Nat) : List α := (List.range k).map f
theorem upto_succ {α : Type} (f : Nat → α) (k : Nat) : upto f (k + 1) = upto f k ++ [f k] := by simp [upto, List.range_succ]
theorem upto_length {α : Type} (f : Nat → α) (k : Nat) : (upto f k).length = k := by simp [upto]

/-- The iterator's blocks: none of them is touched by the body of a round. -/
structure FromFree (F : Nat → Prop) (br ba bn R g : Nat) : Prop where
  r : ¬ F br
  a : ¬ F ba
  n : ¬ F bn
  R : ¬ F R
  g : ¬ F g
theorem FromAt.touch {F : Nat → Prop} {w w1 : World} {br ba bn R N : Nat} {a : Int} (h : FromAt w br ba bn R N a) (ht : Touch F w w1) (h1 : ¬ F br) (h2 : ¬ F ba) (h3 : ¬ F bn) : FromAt w1 br ba bn R N a :=
  ⟨ht.at h.r h1, ht.at h.a h2, ht.at h.n h3⟩

attribute [local go_sem] Oper.semAt_some

set_option maxRecDepth 100000 in
set_option maxHeartbeats 2000000 in
/-- The iterator: for every body that touches F alone. pl: the places; x: their values. -/
theorem from1_in (d : Nat) (hd : 1 ≤ d) (l : Nat) (F : Nat → Prop) (br ba bn R g n N : Nat) (L : List Value) (a : Int) (hn : 1 ≤ n) (hm : n ≤ 1048576) (hN : N ≤ n) (pl : Nat → Nat) (x : Nat → Int) (hpl : ∀ i, (a + i) % n = (pl i : Int)) (hx : ∀ i, L[pl i]? = some (.int .i64 (x i)))
    (hF : FromFree F br ba bn R g) (J Jx : List (Nat × Int) → World → Prop)
    (hY : ∀ pre y W, J pre W → pre.length < N → YieldAt Fence.wide (d - 1) Try.prog l #[.int .i64 (y.1 : Int), .int .i64 y.2] W fun e W' =>
      (e = .returned (.bool true) ∧ J (pre ++ [y]) W' ∧ Touch F W W') ∨ (e = .returned (.bool false) ∧ Jx (pre ++ [y]) W'))
    (W : World) (hA : FromAt W br ba bn R N a) (hR : Ringi W R g n L) (h0 : J [] W) :
    CallsIn Fence.wide d Try.prog 27 #[.func (.yield l) #[] #[], .pointer (some ⟨bn, 0, none⟩), .pointer (some ⟨br, 0, none⟩), .pointer (some ⟨ba, 0, none⟩)] W fun e W' => (∃ v, e = .returned v) ∧
      ((∃ ys, ys = upto (fun j => (pl j, x j)) N ∧ J ys W') ∨ (∃ pre, (∃ k, k ≤ N ∧ pre = upto (fun j => (pl j, x j)) k) ∧ Jx pre W')) := by
  have hcn := hA.n.cell
  refine callsIn_of_wp Try.func27 rfl trivial ?_ rfl
  simp only [Try.ntmps27, List.size_toArray, List.length_cons, List.length_nil, Nat.reduceAdd, Nat.reduceSub, Array.replicate_succ, Array.replicate_zero, List.push_toArray, List.append_toArray, List.nil_append, List.cons_append]
  have HA := Lib.hid hA
  have HR := Lib.hid hR
  have HY := Lib.hid hY
  have H0 := Lib.hid h0
  have HP := Lib.hid hpl
  have HX := Lib.hid hx
  have HF := Lib.hid hF
  clear hA hR hY h0 hpl hx hF
  gi_wp2
  gi_loopw [8] (fun i wr => ∃ k : Nat, k ≤ N ∧ i = .int .i64 k ∧ J (upto (fun j => (pl j, x j)) k) wr ∧ FromAt wr br ba bn R N a ∧ Ringi wr R g n L)
    (fun i _ => N - (intOf i).toNat)
  case atStart => exact ⟨0, Nat.zero_le _, rfl, H0.out, HA.out, HR.out⟩
  case round =>
    obtain ⟨k, hk, rfl, hJ, hA, hR⟩ := hrel
    by_cases hlt : k < N
    · have G := Lib.hid (goq_i R g n (pl k) L a k wr hR hn hm (HP.out k))
      have hc1 := hA.r.cell
      have hc2 := hA.a.cell
      have hc3 := hR.hcell
      have hc4 := (hR.cell (pl k)).trans (HX.out k)
      have hpk : ((pl k : Nat) : Int) < (n : Int) := by have := HP.out k; have := place_bd (a + k) n hn; omega
      obtain ⟨fn, tmps, assign, body, hy, hRd⟩ := HY.out _ (pl k, x k) wr hJ (by rw [upto_length]; exact hlt)
      dsimp only at hy
      replace HA := Lib.hid hA
      replace HR := Lib.hid hR
      have RD := Lib.hid hRd
      clear hA hR hJ H0 hRd
      gi_wp2_with (refine ⟨trivial, ?_⟩; gi_at_call 17; refine (callsIn_wide.2 G.out).mono ?_; rintro e w' ⟨rfl, rfl⟩)
      refine RD.out.mono ?_
      rintro e W3 (⟨rfl, hJ3, hk3⟩ | ⟨rfl, hJx3⟩)
      · have J3 := Lib.hid hJ3
        have HA3 := Lib.hid (HA.out.touch hk3 HF.out.r HF.out.a HF.out.n)
        have HR3 := Lib.hid (HR.out.touch hk3 HF.out.R HF.out.g)
        clear hJ3 hk3
        gi_wp2
        go_roundw
        case rel => exact ⟨k + 1, by omega, by go_num, by rw [upto_succ]; exact J3.out, HA3.out, HR3.out⟩
        case measure => simp [intOf]; omega
      · have J3 := Lib.hid hJx3
        clear hJx3
        gi_wp2
        refine bodyPost_ret (results_none rfl _ _ _) rfl ?_
        exact ⟨⟨_, rfl⟩, .inr ⟨_, ⟨k + 1, by omega, (upto_succ _ _).symm⟩, J3.out⟩⟩
    · obtain rfl : k = N := by omega
      have J3 := Lib.hid hJ
      clear hJ hA hR H0
      gi_wp2
      go_end0
      exact ⟨⟨_, rfl⟩, .inl ⟨_, rfl, J3.out⟩⟩

end Go.Proofs.Ytaldkjlmaajapaa
