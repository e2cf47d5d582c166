/- Which blocks are live: the iterator goes over places, and tells their blocks. No condition. -/
import Derived.Test.YthapggobpfcmjaaGreatJmf
import Derived.ControlIn
import Derived.StillTailTactics
import Derived.Outline
set_option maxRecDepth 100000
namespace Go.Proofs.YthapggobpfcmjaaGreat
namespace Jn
open Go.RowKit Go.Shelf

theorem liveL_prefix (s : JSt) : ∀ (d k : Nat), ∃ t, liveL s (k + d) = liveL s k ++ t
  | 0, k => ⟨[], by simp⟩
  | d + 1, k => by
    obtain ⟨t, ht⟩ := liveL_prefix s d k
    refine ⟨t ++ (match s.o ((tl s + (k + d)) % s.P) with | some x => [x] | none => []), ?_⟩
    rw [← List.append_assoc, ← ht]
    exact liveL_succ s (k + d)
/-- A block of cells is not one that a turn of something else has turned. -/
theorem not_turned {W : World} {B k : Nat} {row : Option Nat} {c : Array Value} {t : TypeId} {f : Nat × Nat} (hk : W.heap[k]? = some (.cells c t f)) (hr : ∀ r, row = some r → B ≤ r ∧ ∃ o : Obj, W.heap[r]? = some o ∧ o.isCells = false) : ¬ row = some k := fun e => by
  obtain ⟨-, o, ho, hc⟩ := hr k e
  rw [hk] at ho
  cases ho
  cases hc
theorem JAt.turn {W W' : World} {A : Ad} {s : JSt} {B : Nat} {row : Option Nat} (h : JAt W A s) (hg : W.grownBy W' row) (hr : ∀ r, row = some r → B ≤ r ∧ ∃ o : Obj, W.heap[r]? = some o ∧ o.isCells = false) : JAt W' A s := by
  refine h.touch (F := fun k => row = some k) (Touch.of_grown hg fun k e => e) ?_
  rintro k (rfl | rfl | rfl | rfl | rfl)
  · exact not_turned h.head hr
  · exact not_turned h.ring hr
  · exact not_turned h.tab.head hr
  · exact not_turned h.tab.rowp hr
  · exact not_turned h.tab.rowo hr
theorem Boxed.turn' {W W' : World} {B b : Nat} {t : TypeId} {v : Value} {row : Option Nat} (h : Boxed W b t v) (hg : W.grownBy W' row) (hr : ∀ r, row = some r → B ≤ r ∧ ∃ o : Obj, W.heap[r]? = some o ∧ o.isCells = false) : Boxed W' b t v :=
  (Touch.of_grown (F := fun k => row = some k) hg fun _ e => e).at h (not_turned h hr)

theorem grown_of_below {W W' : World} (h : Below W.heap.size W W') : W.grownBy W' none := ⟨h.os, h.tape, h.output, h.size, fun k hk _ => h.block k hk⟩
theorem RoundIn.any {m m' : Nat} {P : Program} {l : Nat} {f : FuncId} {tmps : Array Value} {assign body : Code} {w : World} {R : Ending → World → Prop}
    (h : RoundIn Fence.wide m P l f tmps assign body w R) : RoundIn Fence.wide m' P l f tmps assign body w R := ⟨h.1, fun c cs _ => h.2 c cs (room_wide _)⟩
theorem pl_int (t P i : Nat) : ((t : Int) + (i : Int)) % (P : Int) = (((t + i) % P : Nat) : Int) := by simp

/-- While the iterator goes over places: the journal, the iterator's box, the loop's own function. -/
structure GoI (W : World) (A : Ad) (s : JSt) (bj q : Nat) (l : Nat) : Prop where
  jat : JAt W A s
  j : Boxed W bj 28 (.pointer (some ⟨A.J, 0, none⟩))
  f : Boxed W q 92 (.func (.yield l) #[] #[])
theorem GoI.touch {W W1 : World} {A : Ad} {s : JSt} {bj q l : Nat} {F : Nat → Prop} (h : GoI W A s bj q l) (ht : Touch F W W1) (h1 : ∀ k, A.own k → ¬ F k) (h2 : ¬ F bj) (h3 : ¬ F q) : GoI W1 A s bj q l :=
  ⟨h.jat.touch ht h1, ht.at h.j h2, ht.at h.f h3⟩

theorem JAt.keep {W W1 : World} {A : Ad} {s : JSt} {G : Nat → Prop} {T : TypeId} (h : JAt W A s) (ht : Kee G T W W1) (hT : 109 ≠ T ∧ 3 ≠ T ∧ 73 ≠ T ∧ 112 ≠ T) (h1 : ∀ k, A.own k → ¬ G k) : JAt W1 A s := by
  refine h.touch ht ?_
  rintro k hk
  have hg := h1 k hk
  rcases hk with rfl | rfl | rfl | rfl | rfl
  · exact not_kee hg h.head hT.2.2.1
  · exact not_kee hg h.ring hT.1
  · exact not_kee hg h.tab.head hT.2.2.2
  · exact not_kee hg h.tab.rowp hT.2.1
  · exact not_kee hg h.tab.rowo hT.2.1
theorem GoI.keep {W W1 : World} {A : Ad} {s : JSt} {bj q l : Nat} {G : Nat → Prop} {T : TypeId} (h : GoI W A s bj q l) (ht : Kee G T W W1) (hT : 67 ≠ T ∧ 3 ≠ T ∧ 109 ≠ T ∧ 28 ≠ T ∧ 92 ≠ T ∧ 73 ≠ T ∧ 112 ≠ T)
    (h1 : ∀ k, A.own k → ¬ G k) (h2 : ¬ G bj) (h3 : ¬ G q) : GoI W1 A s bj q l :=
  ⟨h.jat.keep ht ⟨hT.2.2.1, hT.2.1, hT.2.2.2.2.2.1, hT.2.2.2.2.2.2⟩ h1, Touch.at ht h.j (not_kee h2 h.j hT.2.2.2.1), Touch.at ht h.f (not_kee h3 h.f hT.2.2.2.2.1)⟩

attribute [local go_sem] Oper.semAt_some

set_option maxHeartbeats 4000000 in
theorem live1_on (G : Nat → Prop) (T : TypeId) (hT : 67 ≠ T ∧ 3 ≠ T ∧ 109 ≠ T ∧ 28 ≠ T ∧ 92 ≠ T ∧ 73 ≠ T ∧ 112 ≠ T) (bj bt bn n : Nat) (A : Ad) (s : JSt) (hn : n ≤ s.P) (w0 : World) (hA : LiveAt w0 bj bt bn A.J n (tl s)) (hR : JAt w0 A s)
    (hG : ∀ k, G k → k < w0.heap.size + 2 ∧ ¬ A.own k ∧ k ≠ bj) :
    SeqOn Fence.wide 4 Tryz.prog 86 #[.pointer (some ⟨bj, 0, none⟩), .pointer (some ⟨bt, 0, none⟩), .pointer (some ⟨bn, 0, none⟩)]
      (fun id : Nat => #[.int .i64 (id : Int)]) (liveL s n) (Kee G T) w0 := by
  intro l J W hW hW2 hJo hY h0
  replace hA : LiveAt W bj bt bn A.J n (tl s) := hA.touch (Touch.of_below (F := Emp) hW) id id id
  replace hR : JAt W A s := hR.below hW
  replace hG : ∀ k, G k → k < W.heap.size ∧ ¬ A.own k ∧ k ≠ bj := fun k hk => ⟨Nat.lt_of_lt_of_le (hG k hk).1 hW2, (hG k hk).2⟩
  rw [show (#[.func (.yield l) #[] #[]] ++ #[.pointer (some ⟨bj, 0, none⟩), .pointer (some ⟨bt, 0, none⟩), .pointer (some ⟨bn, 0, none⟩)] : Array Value) = #[.func (.yield l) #[] #[], .pointer (some ⟨bj, 0, none⟩), .pointer (some ⟨bt, 0, none⟩), .pointer (some ⟨bn, 0, none⟩)] from rfl]
  have HA := Lib.hid hA
  have HR := Lib.hid hR
  have HY := Lib.hid hY
  have HJ := Lib.hid hJo
  have H0 := Lib.hid h0
  have HG := Lib.hid hG
  clear hA hR hY h0 hJo hW hG hW2
  refine callsIn_of_wp_marks Tryz.func86 rfl trivial ?_ rfl
  simp only [Tryz.ntmps86, List.size_toArray, List.length_cons, List.length_nil, Nat.reduceAdd, Nat.reduceSub, Array.replicate_succ, Array.replicate_zero, List.push_toArray, List.append_toArray, List.nil_append, List.cons_append]
  gi_wp2_with fail
  have I1 := Lib.hid (show GoI (W.alloc (.cells #[.func (.yield l) #[] #[]] 92)) A s bj W.heap.size l from ⟨HR.out.alloc _, (Touch.refl Emp W).alloc _ |>.at HA.out.j id, Boxed.new W _ _⟩)
  have J1 := Lib.hid (HJ.out.alloc (.cells #[.func (.yield l) #[] #[]] 92) H0.out)
  have A1 := Lib.hid (HA.out.touch ((Touch.refl Emp W).alloc (.cells #[.func (.yield l) #[] #[]] 92)) id id id)
  have hs1 : (W.alloc (.cells #[.func (.yield l) #[] #[]] 92)).heap.size = W.heap.size + 1 := by simp
  have HQ := Lib.hid hs1
  clear hs1
  generalize W.alloc (.cells #[.func (.yield l) #[] #[]] 92) = W1 at I1 J1 A1 HQ ⊢
  obtain ⟨q, hq⟩ : ∃ q, q = W.heap.size := ⟨_, rfl⟩
  rw [← hq] at HG HJ I1 HQ ⊢
  have HGE := Lib.hid hq
  clear hq
  have c1 := A1.out.j.cell
  have c2 := A1.out.t.cell
  have c3 := A1.out.n.cell
  have d1 := I1.out.jat.cells.2.1
  refine wpIn_wide.2 ?_
  go_still_tail 6, (by kernel_rfl)
  change wpList _ _ _ _ _ (W1.drewN 1)
  have hpP := HR.out.p1
  have FR := Rg.from_e A.R A.gr s.P (tl s : Int) (n : Int) n (W1.drewN 1) (I1.out.jat.ring.drewN 1) (by omega)
  go_wp2_with fail
  refine FR.mono ?_
  rintro e w2 ⟨⟨br, ba, bf, rfl, hfa, hbr, hba, hbf⟩, hb2⟩
  have hbw : Below W1.heap.size W1 w2 := ((Below.refl _ W1).drew).trans hb2
  have I2 := Lib.hid (I1.out.touch (Touch.of_below (F := Emp) hbw) (fun _ _ => id) id id)
  have J2 := Lib.hid (HJ.out 0 _ w2 none J1.out (grown_of_below hbw) (fun r e => by cases e))
  have FA := Lib.hid hfa
  have h0b := hbw.size
  have h1b := HQ.out
  have LB := Lib.hid (show br < w2.heap.size ∧ ba < w2.heap.size ∧ bf < w2.heap.size from ⟨hfa.r.lt, hfa.a.lt, hfa.n.lt⟩)
  replace hbr : q < br := by have h : W1.heap.size ≤ br := hbr; omega
  replace hba : q < ba := by have h : W1.heap.size ≤ ba := hba; omega
  replace hbf : q < bf := by have h : W1.heap.size ≤ bf := hbf; omega
  have LQ := Lib.hid (And.intro hbr (And.intro hba hbf))
  have hq2 : q < w2.heap.size := by omega
  clear c1 c2 c3 d1 FR hfa hb2 hbw hbr hba hbf J1 I1 A1 h0b h1b HQ
  gi_wp2
  apply wpList_nil
  gi_wp2_with fail
  have hge := HGE.out
  have hjw := I2.out.jat.lt
  have STP := Lib.hid (Rg.from1_on (4 - 1) (by omega) (fun k => G k ∨ k = w2.heap.size + 1) T ⟨hT.1, hT.2.1, hT.2.2.1⟩ br ba bf A.R A.gr s.P n (tl s : Int) hpP HR.out.pm hn (fun i => (tl s + i) % s.P) (pl_int (tl s) s.P)
    ⟨fun h => h.elim (fun h => by have := (HG.out _ h).1; have := LQ.out.1; omega) (fun h => by have := LB.out.1; omega), fun h => h.elim (fun h => by have := (HG.out _ h).1; have := LQ.out.2.1; omega) (fun h => by have := LB.out.2.1; omega), fun h => h.elim (fun h => by have := (HG.out _ h).1; have := LQ.out.2.2; omega) (fun h => by have := LB.out.2.2; omega),
      fun h => h.elim (fun h => (HG.out _ h).2.1 (.inr (.inl rfl))) (fun h => by have := hjw A.R (.inr (.inl rfl)); omega)⟩ w2 FA.out I2.out.jat.ring)
  clear hge hjw
  refine wpIn_range_on (hro := rfl) (h1 := by omega) (gf := 97) (lb := #[.pointer (some ⟨bf, 0, none⟩), .pointer (some ⟨br, 0, none⟩), .pointer (some ⟨ba, 0, none⟩)]) rfl trivial (enters_of Tryz.func97 (by kernel_rfl) rfl)
    STP.out (fun h1 h2 => h1.trans h2) (fun W o => Kee.of_touch (Touch.of_grown (grownBy_putObj' W _ o) (fun k e => by cases e; exact .inr rfl))) (Below.refl _ _) (fun _ => rfl)
    (fun k W' => J (liveL s k).length W' ∧ GoI W' A s bj q l)
    (fun k X X' row hI hg hr => ⟨HJ.out _ _ _ row hI.1 hg (fun r e => ⟨by have := (hr r e).1; omega, (hr r e).2⟩), hI.2.jat.turn hg hr, Boxed.turn' hI.2.j hg hr, Boxed.turn' hI.2.f hg hr⟩)
    ⟨J2.out, I2.out⟩ ?a1 ?assign ?body ?done
  case assign =>
    intro l x W K hK
    gi_wp2
    exact hK
  case body =>
    intro l2 k x X hx hbig hI
    have hlen : ((List.range n).map (fun i => (tl s + i) % s.P)).length = n := by simp
    have hkn : k < n := by
      have := (List.getElem?_eq_some_iff.1 hx).1
      rwa [hlen] at this
    obtain rfl : (tl s + k) % s.P = x := by
      have := (List.getElem?_eq_some_iff.1 hx).2
      simpa using this
    have hsucc := liveL_succ s k
    have OW := Tb.owner_any hI.2.jat.tab (((tl s + k) % s.P : Nat) : Int)
    rw [Tb.lookI_nat] at OW
    have c1 := hI.2.j.cell
    have c2 := hI.2.jat.cells.2.2.1
    have c4 := hI.2.f.cell
    cases e : s.o ((tl s + k) % s.P) with
    | none =>
      rw [e] at OW hsucc
      have OW := Lib.hid OW
      have HI := Lib.hid (show J (liveL s (k + 1)).length X ∧ GoI X A s bj q l by rw [hsucc]; simpa using hI)
      clear hI hsucc hx hlen e
      generalize (tl s + k) % s.P = pk at *
      gi_wp2_with fail
      refine ⟨trivial, ?_⟩
      gi_at_call 88
      refine (CallsIn.inRound l2 (callsIn_wide.2 OW.out)).mono ?_
      rintro e w' ⟨rfl, rfl⟩
      simp only [Tb.ans, Option.isSome]
      gi_wp2
      refine ⟨(fun _ h => by cases h), ?_⟩
      gi_wp2
      exact ⟨KeepsFrom.refl _ _, Kee.refl _ _ _, HI.out⟩
    | some id =>
      rw [e] at OW hsucc
      have OW := Lib.hid OW
      have hpos : ∃ hlt : (liveL s k).length < (liveL s n).length, (liveL s n)[(liveL s k).length] = id := by
        obtain ⟨t, ht⟩ := liveL_prefix s (n - (k + 1)) (k + 1)
        rw [show k + 1 + (n - (k + 1)) = n by omega, hsucc] at ht
        refine ⟨by rw [ht]; simp, ?_⟩
        have : (liveL s n)[(liveL s k).length]? = some id := by rw [ht]; simp
        exact (List.getElem?_eq_some_iff.1 this).2
      obtain ⟨hlt, hat⟩ := hpos
      have hyk := HY.out _ hlt X hI.1
      rw [hat] at hyk
      obtain ⟨fn, tmps, assign, body, hy, hRd⟩ := hyk
      have RD := Lib.hid (RoundIn.any (m' := 4 - 1 - 1 - 1) hRd)
      have HI := Lib.hid hI.2
      have HS := Lib.hid hsucc
      have HB := Lib.hid hbig
      clear hI hsucc hx hlen e hRd hat hlt hbig
      generalize (tl s + k) % s.P = pk at *
      gi_wp2_with fail
      refine ⟨trivial, ?_⟩
      gi_at_call 88
      refine (CallsIn.inRound l2 (callsIn_wide.2 OW.out)).mono ?_
      rintro e w' ⟨rfl, rfl⟩
      simp only [Tb.ans, Option.isSome]
      gi_wp2_with fail
      refine (show RoundIn (Fence.wide.inRound l2) 1 Tryz.prog l fn tmps assign body X _ from RoundIn.any RD.out).mono ?_
      rintro e X3 ⟨rfl, hJ3, hk3⟩
      have hq3 := HGE.out
      have FIN := Lib.hid (show KeepsFrom w2.heap.size X X3 ∧ Kee (fun k => G k ∨ k = w2.heap.size + 1) T X X3 ∧ J (liveL s (k + 1)).length X3 ∧ GoI X3 A s bj q l from
        ⟨⟨Touch.size hk3, fun j o hB hj ho => (Touch.block hk3 j (lt_of_heap hj) (not_kee' (fun hg => by have := (HG.out j hg).1; omega) hj ho)).trans hj⟩, Kee.mono hk3 (fun _ h => .inl h), by rw [HS.out, List.length_append]; exact hJ3,
          HI.out.keep hk3 hT (fun k hk hg => (HG.out k hg).2.1 hk) (fun hg => (HG.out _ hg).2.2 rfl) (fun hg => by have := (HG.out _ hg).1; omega)⟩)
      clear hJ3 hk3 hq3
      gi_wp2
      exact FIN.out
  case done =>
    rintro D X hD ⟨hJ3, -⟩ hK
    have J3 := Lib.hid hJ3
    have HK := Lib.hid hK
    clear hJ3 hK
    gi_wp2
    refine ⟨by simp, .inl ⟨_, _, rfl, run_takeDeferred HK.out, ?_⟩⟩
    have J4 := HJ.out.putObj (.deferred none) J3.out (by omega) HK.out rfl
    rw [show ((List.range n).map (fun i => (tl s + i) % s.P)).length = n by simp] at J4
    exact ⟨_, results_none rfl _ _ _, ⟨_, rfl⟩, J4⟩

end Jn
end Go.Proofs.YthapggobpfcmjaaGreat
