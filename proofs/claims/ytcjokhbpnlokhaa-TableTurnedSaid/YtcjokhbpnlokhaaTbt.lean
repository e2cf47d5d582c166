/- TableTurned: a block is at the place whose block it is. -/
import Derived.Test.YtcjokhbpnlokhaaTbi
import Derived.Deep.RegionWith
import Derived.ControlIn
import Derived.StillTailTactics
import Derived.Outline
namespace Go.Proofs.Ytcjokhbpnlokhaa
open Go.RowKit Go.Shelf

attribute [local go_sem] Oper.semAt_some

/-- A step that was handed in. -/
def StepIn (w : World) (a : Option Addr) (i : Nat) : Prop :=
  ∃ (g off : Nat) (b : Bool) (id p : Int), a = some ⟨g, off, none⟩ ∧ w.cell? ⟨g, off + i * 3, none⟩ = some (.bool b) ∧ w.cell? ⟨g, off + i * 3 + 1, none⟩ = some (.int .i64 id) ∧ w.cell? ⟨g, off + i * 3 + 2, none⟩ = some (.int .i64 p)
theorem StepIn.below {w w1 : World} {a : Option Addr} {i : Nat} (h : StepIn w a i) (hb : Below w.heap.size w w1) : StepIn w1 a i := by
  obtain ⟨g, off, b, id, p, e, h1, h2, h3⟩ := h
  have hg := hb.block g (World.block_lt_of_cell? w _ h1)
  exact ⟨g, off, b, id, p, e, (World.cell?_of_block hg).trans h1, (World.cell?_of_block hg).trans h2, (World.cell?_of_block hg).trans h3⟩

/-- Where the blocks lie. -/
structure Lies (B p T gp go q : Nat) : Prop where
  lp : B ≤ p
  lT : p < T
  lgp : p < gp
  lgo : p < go
  qT : T < q
  qp : gp < q
  qo : go < q
/-- The law's boxes, and the table. -/
structure Tr (w W : World) (p T gp go q : Nat) (a o : Nat → Option Nat) : Prop where
  res : Boxed W p 4 (.bool false)
  tab : TabAt W T gp go 50 50 a o
  box : Boxed W q 24 (.pointer (some ⟨T, 0, none⟩))
  below : Below w.heap.size w W
section
variable {w W W1 : World} {p T gp go q : Nat} {a o a' o' : Nat → Option Nat} {F : Nat → Prop}
theorem Tr.next (h : Tr w W p T gp go q a o) (l : Lies w.heap.size p T gp go q) (ht : Touch F W W1) (hF : ∀ k, F k → q < k) : Tr w W1 p T gp go q a o :=
  ⟨ht.at h.res (fun e => by have := hF _ e; have := l.lT; have := l.qT; omega), h.tab.touch ht (fun e => by have := hF _ e; have := l.qT; omega) (fun e => by have := hF _ e; have := l.qp; omega) (fun e => by have := hF _ e; have := l.qo; omega),
    ht.at h.box (fun e => by have := hF _ e; omega), ((Touch.of_below (F := Emp) h.below).trans ht (fun k hk hlt => by have := hF k hk; have := l.lp; have := l.lT; have := l.qT; omega)).below⟩
theorem Tr.turn (h : Tr w W p T gp go q a o) (l : Lies w.heap.size p T gp go q) (hn : TabAt W1 T gp go 50 50 a' o') (ht : Touch (Own3 T gp go) W W1) : Tr w W1 p T gp go q a' o' :=
  ⟨ht.at h.res (fun e => by have := l.lT; have := l.lgp; have := l.lgo; rcases e with e | e | e <;> omega), hn, ht.at h.box (fun e => by have := l.qT; have := l.qp; have := l.qo; rcases e with e | e | e <;> omega),
    ((Touch.of_below (F := Emp) h.below).trans ht (fun k e hlt => by have := l.lp; have := l.lT; have := l.lgp; have := l.lgo; rcases e with e | e | e <;> omega)).below⟩
theorem Tr.drewN (h : Tr w W p T gp go q a o) (n : Nat) : Tr w (W.drewN n) p T gp go q a o :=
  ⟨h.res, h.tab.drewN n, h.box, ((Touch.of_below (F := Emp) h.below).drewN n).below⟩
end
theorem put_tot {w : World} {T gp go B S : Nat} {a o : Nat → Option Nat} (h : TabAt w T gp go B S a o) (id p : Int) :
    Calls Try.prog 10 #[.pointer (some ⟨T, 0, none⟩), .int .i64 id, .int .i64 p] w fun e w' => (∃ b, e = .returned (.bool b)) ∧ (∃ a' o', TabAt w' T gp go B S a' o') ∧ Touch (Own3 T gp go) w w' := by
  by_cases hok : 0 ≤ id ∧ id < B ∧ 0 ≤ p ∧ p < S ∧ (o p.toNat = none ∨ o p.toNat = some id.toNat)
  · obtain ⟨h1, h2, h3, h4, h5⟩ := hok
    have := put_ok h (i := id.toNat) (p := p.toNat) (by omega) (by omega) h5
    rw [Int.toNat_of_nonneg h1, Int.toNat_of_nonneg h3] at this
    exact this.mono fun e w' ⟨he, ht, hc⟩ => ⟨⟨_, he⟩, ⟨_, _, ht⟩, hc⟩
  · exact (put_no h id p hok).mono fun e w' ⟨he, hw⟩ => ⟨⟨_, he⟩, ⟨a, o, hw ▸ h⟩, hw ▸ Touch.refl _ _⟩
theorem drop_tot {w : World} {T gp go B S : Nat} {a o : Nat → Option Nat} (h : TabAt w T gp go B S a o) (id : Int) :
    Calls Try.prog 9 #[.pointer (some ⟨T, 0, none⟩), .int .i64 id] w fun e w' => (∃ b, e = .returned (.bool b)) ∧ (∃ a' o', TabAt w' T gp go B S a' o') ∧ Touch (Own3 T gp go) w w' :=
  (drop_any h id).mono fun e w' ⟨he, ⟨a', o', ht, _, _⟩, hc⟩ => ⟨⟨_, he⟩, ⟨a', o', ht⟩, hc⟩

theorem at_tot {w : World} {T gp go B S : Nat} {a o : Nat → Option Nat} (h : TabAt w T gp go B S a o) (id : Int) :
    Calls Try.prog 11 #[.pointer (some ⟨T, 0, none⟩), .int .i64 id] w fun e w' => (∃ v b, e = .returned (.tuple #[.int .i64 v, .bool b])) ∧ w = w' :=
  (at_any h id).mono fun e w' ⟨he, hw⟩ => ⟨⟨_, _, he⟩, hw⟩

/-- Between two rounds: the last one's number, how many came. -/
structure Mid (w : World) (p T gp go q bl bk : Nat) (a o : Nat → Option Nat) (pre : List (Nat × Nat)) (W : World) : Prop where
  la : Boxed W bl 3 (.int .i64 (lastI pre))
  ct : Boxed W bk 3 (.int .i64 (pre.length : Int))
  tr : Tr w W p T gp go q a o
/-- A round has left: by a return, which no round of ours does. -/
def Lft (a : Nat → Option Nat) (c : Code) (pre : List (Nat × Nat)) (_ : World) : Prop := c = .ret ∧ ¬ Told a 50 pre
section
variable {w W W1 : World} {p T gp go q bl bk B : Nat} {a o : Nat → Option Nat}
theorem Mid.own (hl : Lies w.heap.size p T gp go q) (h1 : q < bl) (h2 : bl < bk) (h3 : bk < B) : OwnFrom B (Mid w p T gp go q bl bk a o) := fun pre W W' row h hg hr => by
  have ht : Touch (fun k => B ≤ k) W W' := Touch.of_grown hg fun k e => (hr k e).1
  exact ⟨ht.at h.la (by omega), ht.at h.ct (by omega), h.tr.next hl ht (fun k hk => by omega)⟩
theorem Lft.own (c : Code) : OwnFrom B (Lft a c) := fun _ _ _ _ h _ _ => h
end
theorem all_stops (d : Nat) (hd : 1 ≤ d) (F : Nat → Prop) (br T gp go B S : Nat) (a o : Nat → Option Nat) (hF : AllFree F br T gp go) (w0 : World) (hA : Boxed w0 br 24 (.pointer (some ⟨T, 0, none⟩))) (hR : TabAt w0 T gp go B S a o) :
    SeqStopsK Fence.wide d Try.prog 18 #[.pointer (some ⟨br, 0, none⟩)] (fun y : Nat × Nat => #[.int .i64 (y.1 : Int), .int .i64 (y.2 : Int)]) (Touch F)
      (fun ys => ys = tells a B) (fun pre => Told a B pre) B w0 :=
  fun l J Jx W hW _ _ hY h0 => all1_in d hd l F br T gp go B S a o hF J Jx hY W ((Touch.of_below (F := Emp) hW).at hA id) (hR.below hW) h0

set_option maxRecDepth 100000 in
set_option maxHeartbeats 4000000 in
theorem turned_walk (ad : Option Addr) (n cap : Nat) (w : World) (hs : ∀ i, i < n → StepIn w ad i) :
    Calls Try.prog 3 #[.slice ad n cap] w fun e w' => e = .returned (.bool true) ∧ Below w.heap.size w w' := by
  have HS := Lib.hid hs
  clear hs
  refine (callsIn_wide (n := 5)).1 ?_
  refine callsIn_of_wp_marks Try.func3 rfl trivial ?_ rfl
  simp only [Try.ntmps3, List.size_toArray, List.length_cons, List.length_nil, Nat.reduceAdd, Nat.reduceSub, Array.replicate_succ, Array.replicate_zero, List.push_toArray, List.append_toArray, List.nil_append, List.cons_append]
  gi_wp2_with fail
  have RB := Lib.hid (Boxed.new w 4 (.bool false))
  have BE := Lib.hid ((Below.refl _ w).alloc (Nat.le_refl _) (.cells #[.bool false] 4))
  obtain ⟨p, hp⟩ : ∃ p, p = w.heap.size := ⟨_, rfl⟩
  rw [← hp] at RB ⊢
  generalize w.alloc (.cells #[.bool false] 4) = W1 at RB BE ⊢
  have hp2 : w.heap.size ≤ p := by omega
  clear hp
  refine ⟨trivial, ?_⟩
  gi_at_call 7
  refine (callsIn_wide.2 (shown_any W1)).mono ?_
  rintro e w1 ⟨rfl, hb⟩
  replace BE := Lib.hid (BE.out.trans (hb.mono BE.out.size))
  replace RB := Lib.hid (show Boxed w1 p 4 (.bool false) from (Touch.of_below (F := Emp) hb).at RB.out id)
  clear hb W1
  gi_wp2_with fail
  refine ⟨trivial, ?_⟩
  gi_at_call 8
  refine (callsIn_wide.2 (new_any 50 50 50 50 w1 (by decide) (by decide))).mono ?_
  rintro e w2 ⟨⟨T, gp, go, rfl, h2, hT, hgp, hgo⟩, hb⟩
  have hlp := RB.out.lt
  have LI := Lib.hid (show Lies w.heap.size p T gp go w2.heap.size from ⟨hp2, by omega, by omega, by omega, h2.lt.1, h2.lt.2.1, h2.lt.2.2⟩)
  have TR := Lib.hid (show Tr w (w2.alloc (.cells #[.pointer (some ⟨T, 0, none⟩)] 24)) p T gp go w2.heap.size nil0 nil0 from
    ⟨(Touch.of_below (F := Emp) (hb.alloc (hb.size) _)).at RB.out id, h2.alloc _, Boxed.new w2 _ _, (BE.out.trans (hb.mono BE.out.size)).alloc (Nat.le_trans BE.out.size hb.size) _⟩)
  clear h2 hT hgp hgo hb hlp RB BE hp2
  gi_wp2_with fail
  generalize w2.alloc (.cells #[.pointer (some ⟨T, 0, none⟩)] 24) = W3 at TR ⊢
  generalize w2.heap.size = q at TR LI ⊢
  have c1 := TR.out.box.cell
  gi_wp2_with fail
  gi_loopw [5] (fun i wr => ∃ (k : Nat) (a o : Nat → Option Nat), k ≤ n ∧ k ≤ 300 ∧ i = .int .i64 k ∧ Tr w wr p T gp go q a o) (fun i _ => n - (intOf i).toNat)
  case atStart => exact ⟨0, _, _, Nat.zero_le _, Nat.zero_le _, rfl, TR.out⟩
  case round =>
    clear TR c1 W3
    obtain ⟨k, a, o, hk, hk2, rfl, hF⟩ := hrel
    have TR := Lib.hid hF
    clear hF
    have c1 := TR.out.box.cell
    by_cases hlt : k < n ∧ k < 300
    · obtain ⟨hlt1, hlt2⟩ := hlt
      obtain ⟨g, off, b, id, pl, rfl, s1, s2, s3⟩ := (HS.out k hlt1).below TR.out.below
      have D := Lib.hid (drop_tot (TR.out.tab.drewN 1) id)
      have PT := Lib.hid (put_tot (TR.out.tab.drewN 1) id pl)
      cases b with
      | true =>
        gi_wp2_with fail
        refine wpIn_wide.2 ?_
        go_still_tail 6, (by kernel_rfl)
        change wpList _ _ _ _ _ (wr.drewN 1)
        go_wp2_with fail
        refine D.out.mono ?_
        rintro e w4 ⟨⟨b, rfl⟩, ⟨a', o', ht⟩, htc⟩
        have TR2 := Lib.hid ((TR.out.drewN 1).turn LI.out ht htc)
        clear ht htc
        gi_wp2
        apply wpList_nil
        gi_wp2
        go_roundw
        case rel => exact ⟨k + 1, _, _, by omega, by omega, by go_num, TR2.out⟩
        case measure => simp [intOf]; omega
      | false =>
        gi_wp2_with fail
        refine wpIn_wide.2 ?_
        go_still_tail 11, (by kernel_rfl)
        change wpList _ _ _ _ _ (wr.drewN 1)
        go_wp2_with fail
        refine PT.out.mono ?_
        rintro e w4 ⟨⟨b, rfl⟩, ⟨a', o', ht⟩, htc⟩
        have TR2 := Lib.hid ((TR.out.drewN 1).turn LI.out ht htc)
        clear ht htc
        gi_wp2
        apply wpList_nil
        gi_wp2
        go_roundw
        case rel => exact ⟨k + 1, _, _, by omega, by omega, by go_num, TR2.out⟩
        case measure => simp [intOf]; omega
    · have hend : k = n ∨ (k < n ∧ 300 ≤ k) := by omega
      clear hlt
      rcases hend with rfl | ⟨e, e2⟩
      · gi_wp2_with fail
        gi_loopw [6, 7] (fun c i wx => ∃ j : Nat, j ≤ 50 ∧ c = .int .i64 (cnt a j : Nat) ∧ i = .int .i64 j ∧ wx = wr) (fun _ i _ => 50 - (intOf i).toNat)
        case atStart => exact ⟨0, Nat.zero_le _, rfl, rfl, rfl⟩
        case round =>
          obtain ⟨j, hj, rfl, rfl, rfl⟩ := hrel
          have c1 := TR.out.box.cell
          have hcle := cnt_le a j
          by_cases hj5 : j < 50
          · have AJ := Lib.hid (atq TR.out.tab (j : Int) (a j) (lookI_nat a j))
            have OJ := Lib.hid (ownerq TR.out.tab (j : Int) (o j) (lookI_nat o j))
            have hcs : cnt a (j + 1) = cnt a j + if (a j).isSome then 1 else 0 := rfl
            have HCS := Lib.hid hcs
            clear hcs
            generalize cnt a j = C at *
            cases e1 : a j with
            | none =>
              rw [e1] at AJ HCS
              gi_wp2_with fail
              refine ⟨trivial, ?_⟩
              gi_at_call 11
              refine (callsIn_wide.2 AJ.out).mono ?_
              rintro e w' ⟨rfl, rfl⟩
              simp only [ans, Option.isSome]
              cases e2 : o j with
              | none =>
                rw [e2] at OJ
                gi_wp2_with fail
                refine ⟨trivial, ?_⟩
                gi_at_call 12
                refine (callsIn_wide.2 OJ.out).mono ?_
                rintro e w' ⟨rfl, rfl⟩
                simp only [ans, Option.isSome]
                gi_wp2_with fail
                refine ⟨trivial, ?_⟩
                gi_at_call 11
                refine (callsIn_wide.2 (at_tot TR.out.tab 0)).mono ?_
                rintro e w' ⟨⟨v0, b0, rfl⟩, rfl⟩
                gi_wp2
                go_roundw
                case rel => exact ⟨j + 1, by omega, by rw [HCS.out]; rfl, by go_num, by first | rfl | trivial⟩
                case measure => simp [intOf]; omega
              | some z =>
                rw [e2] at OJ
                have AZ := Lib.hid (atq TR.out.tab (z : Int) (some j) (by rw [lookI_nat]; exact (TR.out.tab.good.back z j).2 e2))
                gi_wp2_with fail
                refine ⟨trivial, ?_⟩
                gi_at_call 12
                refine (callsIn_wide.2 OJ.out).mono ?_
                rintro e w' ⟨rfl, rfl⟩
                simp only [ans, Option.isSome]
                gi_wp2_with fail
                refine ⟨trivial, ?_⟩
                gi_at_call 11
                refine (callsIn_wide.2 AZ.out).mono ?_
                rintro e w' ⟨rfl, rfl⟩
                simp only [ans, Option.isSome]
                gi_wp2
                go_roundw
                case rel => exact ⟨j + 1, by omega, by rw [HCS.out]; rfl, by go_num, by first | rfl | trivial⟩
                case measure => simp [intOf]; omega
            | some p1 =>
              rw [e1] at AJ HCS
              have OP := Lib.hid (ownerq TR.out.tab (p1 : Int) (some j) (by rw [lookI_nat]; exact (TR.out.tab.good.back j p1).1 e1))
              gi_wp2_with fail
              refine ⟨trivial, ?_⟩
              gi_at_call 11
              refine (callsIn_wide.2 AJ.out).mono ?_
              rintro e w' ⟨rfl, rfl⟩
              simp only [ans, Option.isSome]
              gi_wp2_with fail
              refine ⟨trivial, ?_⟩
              gi_at_call 12
              refine (callsIn_wide.2 OP.out).mono ?_
              rintro e w' ⟨rfl, rfl⟩
              simp only [ans, Option.isSome]
              cases e2 : o j with
              | none =>
                rw [e2] at OJ
                gi_wp2_with fail
                refine ⟨trivial, ?_⟩
                gi_at_call 12
                refine (callsIn_wide.2 OJ.out).mono ?_
                rintro e w' ⟨rfl, rfl⟩
                simp only [ans, Option.isSome]
                gi_wp2_with fail
                refine ⟨trivial, ?_⟩
                gi_at_call 11
                refine (callsIn_wide.2 (at_tot TR.out.tab 0)).mono ?_
                rintro e w' ⟨⟨v0, b0, rfl⟩, rfl⟩
                gi_wp2
                go_roundw
                case rel => exact ⟨j + 1, by omega, by rw [HCS.out]; rfl, by go_num, by first | rfl | trivial⟩
                case measure => simp [intOf]; omega
              | some z =>
                rw [e2] at OJ
                have AZ := Lib.hid (atq TR.out.tab (z : Int) (some j) (by rw [lookI_nat]; exact (TR.out.tab.good.back z j).2 e2))
                gi_wp2_with fail
                refine ⟨trivial, ?_⟩
                gi_at_call 12
                refine (callsIn_wide.2 OJ.out).mono ?_
                rintro e w' ⟨rfl, rfl⟩
                simp only [ans, Option.isSome]
                gi_wp2_with fail
                refine ⟨trivial, ?_⟩
                gi_at_call 11
                refine (callsIn_wide.2 AZ.out).mono ?_
                rintro e w' ⟨rfl, rfl⟩
                simp only [ans, Option.isSome]
                gi_wp2
                go_roundw
                case rel => exact ⟨j + 1, by omega, by rw [HCS.out]; rfl, by go_num, by first | rfl | trivial⟩
                case measure => simp [intOf]; omega
          · obtain rfl : j = 50 := by omega
            clear hj hj5
            have hfn : ∀ (W : World) (e : Array Value), (binOp .eql 33 (.func (.func 18) #[] e) .nilFunc).run Try.prog W = .ok (.bool false) W := fun _ _ => by kernel_rfl
            obtain ⟨C, hC⟩ : ∃ C, cnt a 50 = C := ⟨_, rfl⟩
            rw [hC] at hcle ⊢
            have HC := Lib.hid hC
            clear hC
            gi_wp2_with fail
            refine ⟨trivial, ?_⟩
            gi_at_call 13
            refine (callsIn_wide.2 (all_i T _)).mono ?_
            rintro e w4 ⟨rfl, rfl⟩
            have TR1 := Lib.hid (TR.out.next (W1 := wr.alloc (.cells #[.pointer (some ⟨T, 0, none⟩)] 24)) LI.out ((Touch.refl Emp wr).alloc _) (fun _ h => h.elim))
            have c2 := TR1.out.box.cell
            have LN := Lib.hid (lenq TR1.out.tab C HC.out)
            gi_wp2_with fail
            refine ⟨trivial, ?_⟩
            gi_at_call 14
            refine (callsIn_wide.2 LN.out).mono ?_
            rintro e w' ⟨rfl, rfl⟩
            clear c1 c2 TR LN
            generalize wr.alloc (.cells #[.pointer (some ⟨T, 0, none⟩)] 24) = W4 at TR1 ⊢
            have TR2 := Lib.hid ((TR1.out.next (W1 := W4.alloc (.cells #[.int .i64 (-1)] 3)) LI.out ((Touch.refl Emp W4).alloc _) (fun _ h => h.elim)).next (W1 := (W4.alloc (.cells #[.int .i64 (-1)] 3)).alloc (.cells #[.int .i64 0] 3)) LI.out ((Touch.refl Emp _).alloc _) (fun _ h => h.elim))
            have BL := Lib.hid ((Boxed.new W4 3 (.int .i64 (-1))).alloc (.cells #[.int .i64 0] 3))
            have BK := Lib.hid (Boxed.new (W4.alloc (.cells #[.int .i64 (-1)] 3)) 3 (.int .i64 0))
            have hq := TR1.out.box.lt
            have c1 := TR2.out.box.cell
            gi_wp2_with fail
            refine ⟨trivial, ?_⟩
            gi_at_call 13
            refine (callsIn_wide.2 (all_i T _)).mono ?_
            rintro e w6 ⟨rfl, rfl⟩
            have e4 : (W4.alloc (.cells #[.int .i64 (-1)] 3)).heap.size = W4.heap.size + 1 := by simp
            have e5 : ((W4.alloc (.cells #[.int .i64 (-1)] 3)).alloc (.cells #[.int .i64 0] 3)).heap.size = W4.heap.size + 1 + 1 := by simp
            have br := Boxed.new ((W4.alloc (.cells #[.int .i64 (-1)] 3)).alloc (.cells #[.int .i64 0] 3)) 24 (.pointer (some ⟨T, 0, none⟩))
            rw [e5] at br
            have BR := Lib.hid br
            have BL2 := Lib.hid (BL.out.alloc (.cells #[.pointer (some ⟨T, 0, none⟩)] 24))
            have bk := BK.out.alloc (.cells #[.pointer (some ⟨T, 0, none⟩)] 24)
            rw [e4] at bk
            have BK2 := Lib.hid bk
            have TR3 := Lib.hid (TR2.out.next (W1 := ((W4.alloc (.cells #[.int .i64 (-1)] 3)).alloc (.cells #[.int .i64 0] 3)).alloc (.cells #[.pointer (some ⟨T, 0, none⟩)] 24)) LI.out ((Touch.refl Emp _).alloc _) (fun _ h => h.elim))
            rw [e5]
            clear c1 TR2 BL BK br bk e4 e5 TR1
            generalize ((W4.alloc (.cells #[.int .i64 (-1)] 3)).alloc (.cells #[.int .i64 0] 3)).alloc (.cells #[.pointer (some ⟨T, 0, none⟩)] 24) = w6 at TR3 BR BL2 BK2 ⊢
            obtain ⟨bl, hbl⟩ : ∃ b, b = W4.heap.size := ⟨_, rfl⟩
            rw [← hbl] at hq BR BL2 BK2 ⊢
            clear hbl W4
            gi_wp2_with fail
            have hbr := BR.out.lt
            have STP := Lib.hid (all_stops (5 - 1) (by omega) (fun b => b = bl ∨ b = bl + 1 ∨ w6.heap.size ≤ b) (bl + 1 + 1) T gp go 50 50 a o
              ⟨by omega, by have := LI.out.qT; have := TR3.out.tab.lt.1; omega, by have := LI.out.qp; have := TR3.out.tab.lt.2.1; omega, by have := LI.out.qo; have := TR3.out.tab.lt.2.2; omega⟩ w6 BR.out TR3.out.tab)
            refine wpIn_rangeFunc_ownG (hro := rfl) (h1 := by omega) (gf := 18) (lb := #[.pointer (some ⟨bl + 1 + 1, 0, none⟩)]) rfl trivial (enters_of Try.func18 (by kernel_rfl) rfl)
              STP.out (fun h1 h2 => h1.trans h2 fun _ h _ => h) (fun W l o o' hl _ _ _ => Touch.of_grown (grownBy_putObj' W l o') (fun k e => by cases e; exact .inr (.inr hl))) (Below.refl _ _) (fun _ => rfl)
              (Mid w p T gp go q bl (bl + 1) a o) (Lft a) (Mid.own LI.out hq (by omega) (by omega)) Lft.own ⟨BL2.out, BK2.out, TR3.out⟩ ?a11 ?assign1 ?body1 ?done1 ?stop1
            case assign1 =>
              intro l x W K hK
              gi_wp2
              exact hK
            case body1 =>
              rintro l pre ⟨x1, x2⟩ W hI hlt
              have I := Lib.hid hI
              have c1 := hI.tr.box.cell
              have c2 := hI.la.cell
              have f2 := hI.la.frozen
              have c3 := hI.ct.cell
              have f3 := hI.ct.frozen
              have c4 := hI.tr.res.cell
              have f4 := hI.tr.res.frozen
              have A := Lib.hid (atq hI.tr.tab (x1 : Int) (a x1) (lookI_nat a x1))
              have TL := Lib.hid (fun (h : Told a 50 (pre ++ [(x1, x2)])) => (told_last h.choose_spec.2 : a x1 = some x2 ∧ lastI pre < (x1 : Int)))
              have hlb := lastI_bd pre
              have LA := Lib.hid (lastI_append pre (x1, x2))
              have M1 := Lib.hid (show Mid w p T gp go q bl (bl + 1) a o (pre ++ [(x1, x2)]) ((W.setCell ⟨bl, 0, none⟩ (.int .i64 (x1 : Int))).setCell ⟨bl + 1, 0, none⟩ (.int .i64 ((pre.length : Int) + 1))) from
                ⟨by rw [lastI_append]; exact (hI.la.set _).other (by omega) _, by rw [show ((pre ++ [(x1, x2)]).length : Int) = (pre.length : Int) + 1 by simp]; exact (hI.ct.other (by omega) _).set _,
                  hI.tr.next LI.out (((Touch.refl (fun b => b = bl ∨ b = bl + 1) W).setCell (a := ⟨bl, 0, none⟩) (.inl (.inl rfl)) _).setCell (a := ⟨bl + 1, 0, none⟩) (.inl (.inr rfl)) _) (fun b hb => by omega)⟩)
              have c5 := (hI.ct.other (B' := bl) (by omega) (.int .i64 (x1 : Int))).cell
              have f5 := (hI.ct.other (B' := bl) (by omega) (.int .i64 (x1 : Int))).frozen
              clear hI LA
              generalize lastI pre = lp at *
              obtain ⟨ax, hax⟩ : ∃ ax, a x1 = ax := ⟨_, rfl⟩
              rw [hax] at A TL
              clear hax
              by_cases h1 : (x1 : Int) ≤ lp
              · cases ax
                all_goals
                  gi_wp2_with fail
                  refine ⟨trivial, ?_⟩
                  gi_at_call 11
                  refine (CallsIn.inRound l (callsIn_wide.2 A.out)).mono ?_
                  rintro e w' ⟨rfl, rfl⟩
                  simp only [ans, Option.isSome]
                  gi_wp2
                  exact ⟨(KeepsOthers.setCell _ _ _).from _, ⟨rfl, fun e => by have := (TL.out e).2; omega⟩⟩
              · cases ax with
                | none =>
                  gi_wp2_with fail
                  refine ⟨trivial, ?_⟩
                  gi_at_call 11
                  refine (CallsIn.inRound l (callsIn_wide.2 A.out)).mono ?_
                  rintro e w' ⟨rfl, rfl⟩
                  simp only [ans, Option.isSome]
                  gi_wp2
                  exact ⟨(KeepsOthers.setCell _ _ _).from _, ⟨rfl, fun e => by have := (TL.out e).1; simp at this⟩⟩
                | some z =>
                  by_cases h2 : z = x2
                  · subst h2
                    gi_wp2_with fail
                    refine ⟨trivial, ?_⟩
                    gi_at_call 11
                    refine (CallsIn.inRound l (callsIn_wide.2 A.out)).mono ?_
                    rintro e w' ⟨rfl, rfl⟩
                    simp only [ans, Option.isSome]
                    gi_wp2
                    exact ⟨((KeepsOthers.setCell _ _ _).trans (KeepsOthers.setCell _ _ _)).from _, ((Touch.refl _ W).setCell (a := ⟨bl, 0, none⟩) (.inl (.inl rfl)) _).setCell (a := ⟨bl + 1, 0, none⟩) (.inl (.inr (.inl rfl))) _, M1.out⟩
                  · have b1 : ((z : Int) != (x2 : Int)) = true := by rw [bne_iff_ne]; omega
                    have b2 : ((z : Int) == (x2 : Int)) = false := by rw [beq_eq_false_iff_ne]; omega
                    gi_wp2_with fail
                    refine ⟨trivial, ?_⟩
                    gi_at_call 11
                    refine (CallsIn.inRound l (callsIn_wide.2 A.out)).mono ?_
                    rintro e w' ⟨rfl, rfl⟩
                    simp only [ans, Option.isSome]
                    gi_wp2
                    exact ⟨(KeepsOthers.setCell _ _ _).from _, ⟨rfl, fun e => h2 (by have := (TL.out e).1; simpa using this)⟩⟩
            case done1 =>
              rintro D ys W hD hys hI hK
              have hlen : ys.length = C := by rw [hys, tells_length]; exact HC.out
              have hct := hI.ct
              rw [hlen] at hct
              have hc1 := hct.cell
              have hc4 := hI.tr.res.cell
              have hf4 := hI.tr.res.frozen
              have FE := Lib.hid (hI.tr.res.set (.bool true))
              have BB := Lib.hid (hI.tr.below.setCell (p := ⟨p, 0, none⟩) LI.out.lp (.bool true))
              have HK := Lib.hid hK
              clear hI hct hys hlen hK
              gi_wp2
              have hK' := (KeepsOthers.setCell W ⟨p, 0, none⟩ (.bool true)).same D _ HK.out rfl
              refine ⟨by simp, .inl ⟨_, _, rfl, run_takeDeferred hK', ?_⟩⟩
              have hc5 := cell_kept FE.out.cell (grownBy_putObj' _ D (.deferred none)) (fun r e => by cases e; exact ⟨_, hK', rfl⟩)
              refine ⟨.bool true, ?_, rfl, BB.out.trans (belowK_b (w := w) (Nat.le_refl _) _ D _ _ (by have := TR3.out.below.size; omega) hK' rfl rfl)⟩
              simp [results, Try.results3, go_sem, hc5]
            case stop1 =>
              rintro D c pre W hD ⟨z, hz, hpre⟩ ⟨rfl, hne⟩ hK
              exact (hne ⟨z, hz, hpre⟩).elim
      · gi_wp2_with fail
        clear e e2
        gi_loopw [6, 7] (fun c i wx => ∃ j : Nat, j ≤ 50 ∧ c = .int .i64 (cnt a j : Nat) ∧ i = .int .i64 j ∧ wx = wr) (fun _ i _ => 50 - (intOf i).toNat)
        case atStart => exact ⟨0, Nat.zero_le _, rfl, rfl, rfl⟩
        case round =>
          obtain ⟨j, hj, rfl, rfl, rfl⟩ := hrel
          have c1 := TR.out.box.cell
          have hcle := cnt_le a j
          by_cases hj5 : j < 50
          · have AJ := Lib.hid (atq TR.out.tab (j : Int) (a j) (lookI_nat a j))
            have OJ := Lib.hid (ownerq TR.out.tab (j : Int) (o j) (lookI_nat o j))
            have hcs : cnt a (j + 1) = cnt a j + if (a j).isSome then 1 else 0 := rfl
            have HCS := Lib.hid hcs
            clear hcs
            generalize cnt a j = C at *
            cases e1 : a j with
            | none =>
              rw [e1] at AJ HCS
              gi_wp2_with fail
              refine ⟨trivial, ?_⟩
              gi_at_call 11
              refine (callsIn_wide.2 AJ.out).mono ?_
              rintro e w' ⟨rfl, rfl⟩
              simp only [ans, Option.isSome]
              cases e2 : o j with
              | none =>
                rw [e2] at OJ
                gi_wp2_with fail
                refine ⟨trivial, ?_⟩
                gi_at_call 12
                refine (callsIn_wide.2 OJ.out).mono ?_
                rintro e w' ⟨rfl, rfl⟩
                simp only [ans, Option.isSome]
                gi_wp2_with fail
                refine ⟨trivial, ?_⟩
                gi_at_call 11
                refine (callsIn_wide.2 (at_tot TR.out.tab 0)).mono ?_
                rintro e w' ⟨⟨v0, b0, rfl⟩, rfl⟩
                gi_wp2
                go_roundw
                case rel => exact ⟨j + 1, by omega, by rw [HCS.out]; rfl, by go_num, by first | rfl | trivial⟩
                case measure => simp [intOf]; omega
              | some z =>
                rw [e2] at OJ
                have AZ := Lib.hid (atq TR.out.tab (z : Int) (some j) (by rw [lookI_nat]; exact (TR.out.tab.good.back z j).2 e2))
                gi_wp2_with fail
                refine ⟨trivial, ?_⟩
                gi_at_call 12
                refine (callsIn_wide.2 OJ.out).mono ?_
                rintro e w' ⟨rfl, rfl⟩
                simp only [ans, Option.isSome]
                gi_wp2_with fail
                refine ⟨trivial, ?_⟩
                gi_at_call 11
                refine (callsIn_wide.2 AZ.out).mono ?_
                rintro e w' ⟨rfl, rfl⟩
                simp only [ans, Option.isSome]
                gi_wp2
                go_roundw
                case rel => exact ⟨j + 1, by omega, by rw [HCS.out]; rfl, by go_num, by first | rfl | trivial⟩
                case measure => simp [intOf]; omega
            | some p1 =>
              rw [e1] at AJ HCS
              have OP := Lib.hid (ownerq TR.out.tab (p1 : Int) (some j) (by rw [lookI_nat]; exact (TR.out.tab.good.back j p1).1 e1))
              gi_wp2_with fail
              refine ⟨trivial, ?_⟩
              gi_at_call 11
              refine (callsIn_wide.2 AJ.out).mono ?_
              rintro e w' ⟨rfl, rfl⟩
              simp only [ans, Option.isSome]
              gi_wp2_with fail
              refine ⟨trivial, ?_⟩
              gi_at_call 12
              refine (callsIn_wide.2 OP.out).mono ?_
              rintro e w' ⟨rfl, rfl⟩
              simp only [ans, Option.isSome]
              cases e2 : o j with
              | none =>
                rw [e2] at OJ
                gi_wp2_with fail
                refine ⟨trivial, ?_⟩
                gi_at_call 12
                refine (callsIn_wide.2 OJ.out).mono ?_
                rintro e w' ⟨rfl, rfl⟩
                simp only [ans, Option.isSome]
                gi_wp2_with fail
                refine ⟨trivial, ?_⟩
                gi_at_call 11
                refine (callsIn_wide.2 (at_tot TR.out.tab 0)).mono ?_
                rintro e w' ⟨⟨v0, b0, rfl⟩, rfl⟩
                gi_wp2
                go_roundw
                case rel => exact ⟨j + 1, by omega, by rw [HCS.out]; rfl, by go_num, by first | rfl | trivial⟩
                case measure => simp [intOf]; omega
              | some z =>
                rw [e2] at OJ
                have AZ := Lib.hid (atq TR.out.tab (z : Int) (some j) (by rw [lookI_nat]; exact (TR.out.tab.good.back z j).2 e2))
                gi_wp2_with fail
                refine ⟨trivial, ?_⟩
                gi_at_call 12
                refine (callsIn_wide.2 OJ.out).mono ?_
                rintro e w' ⟨rfl, rfl⟩
                simp only [ans, Option.isSome]
                gi_wp2_with fail
                refine ⟨trivial, ?_⟩
                gi_at_call 11
                refine (callsIn_wide.2 AZ.out).mono ?_
                rintro e w' ⟨rfl, rfl⟩
                simp only [ans, Option.isSome]
                gi_wp2
                go_roundw
                case rel => exact ⟨j + 1, by omega, by rw [HCS.out]; rfl, by go_num, by first | rfl | trivial⟩
                case measure => simp [intOf]; omega
          · obtain rfl : j = 50 := by omega
            clear hj hj5
            have hfn : ∀ (W : World) (e : Array Value), (binOp .eql 33 (.func (.func 18) #[] e) .nilFunc).run Try.prog W = .ok (.bool false) W := fun _ _ => by kernel_rfl
            obtain ⟨C, hC⟩ : ∃ C, cnt a 50 = C := ⟨_, rfl⟩
            rw [hC] at hcle ⊢
            have HC := Lib.hid hC
            clear hC
            gi_wp2_with fail
            refine ⟨trivial, ?_⟩
            gi_at_call 13
            refine (callsIn_wide.2 (all_i T _)).mono ?_
            rintro e w4 ⟨rfl, rfl⟩
            have TR1 := Lib.hid (TR.out.next (W1 := wr.alloc (.cells #[.pointer (some ⟨T, 0, none⟩)] 24)) LI.out ((Touch.refl Emp wr).alloc _) (fun _ h => h.elim))
            have c2 := TR1.out.box.cell
            have LN := Lib.hid (lenq TR1.out.tab C HC.out)
            gi_wp2_with fail
            refine ⟨trivial, ?_⟩
            gi_at_call 14
            refine (callsIn_wide.2 LN.out).mono ?_
            rintro e w' ⟨rfl, rfl⟩
            clear c1 c2 TR LN
            generalize wr.alloc (.cells #[.pointer (some ⟨T, 0, none⟩)] 24) = W4 at TR1 ⊢
            have TR2 := Lib.hid ((TR1.out.next (W1 := W4.alloc (.cells #[.int .i64 (-1)] 3)) LI.out ((Touch.refl Emp W4).alloc _) (fun _ h => h.elim)).next (W1 := (W4.alloc (.cells #[.int .i64 (-1)] 3)).alloc (.cells #[.int .i64 0] 3)) LI.out ((Touch.refl Emp _).alloc _) (fun _ h => h.elim))
            have BL := Lib.hid ((Boxed.new W4 3 (.int .i64 (-1))).alloc (.cells #[.int .i64 0] 3))
            have BK := Lib.hid (Boxed.new (W4.alloc (.cells #[.int .i64 (-1)] 3)) 3 (.int .i64 0))
            have hq := TR1.out.box.lt
            have c1 := TR2.out.box.cell
            gi_wp2_with fail
            refine ⟨trivial, ?_⟩
            gi_at_call 13
            refine (callsIn_wide.2 (all_i T _)).mono ?_
            rintro e w6 ⟨rfl, rfl⟩
            have e4 : (W4.alloc (.cells #[.int .i64 (-1)] 3)).heap.size = W4.heap.size + 1 := by simp
            have e5 : ((W4.alloc (.cells #[.int .i64 (-1)] 3)).alloc (.cells #[.int .i64 0] 3)).heap.size = W4.heap.size + 1 + 1 := by simp
            have br := Boxed.new ((W4.alloc (.cells #[.int .i64 (-1)] 3)).alloc (.cells #[.int .i64 0] 3)) 24 (.pointer (some ⟨T, 0, none⟩))
            rw [e5] at br
            have BR := Lib.hid br
            have BL2 := Lib.hid (BL.out.alloc (.cells #[.pointer (some ⟨T, 0, none⟩)] 24))
            have bk := BK.out.alloc (.cells #[.pointer (some ⟨T, 0, none⟩)] 24)
            rw [e4] at bk
            have BK2 := Lib.hid bk
            have TR3 := Lib.hid (TR2.out.next (W1 := ((W4.alloc (.cells #[.int .i64 (-1)] 3)).alloc (.cells #[.int .i64 0] 3)).alloc (.cells #[.pointer (some ⟨T, 0, none⟩)] 24)) LI.out ((Touch.refl Emp _).alloc _) (fun _ h => h.elim))
            rw [e5]
            clear c1 TR2 BL BK br bk e4 e5 TR1
            generalize ((W4.alloc (.cells #[.int .i64 (-1)] 3)).alloc (.cells #[.int .i64 0] 3)).alloc (.cells #[.pointer (some ⟨T, 0, none⟩)] 24) = w6 at TR3 BR BL2 BK2 ⊢
            obtain ⟨bl, hbl⟩ : ∃ b, b = W4.heap.size := ⟨_, rfl⟩
            rw [← hbl] at hq BR BL2 BK2 ⊢
            clear hbl W4
            gi_wp2_with fail
            have hbr := BR.out.lt
            have STP := Lib.hid (all_stops (5 - 1) (by omega) (fun b => b = bl ∨ b = bl + 1 ∨ w6.heap.size ≤ b) (bl + 1 + 1) T gp go 50 50 a o
              ⟨by omega, by have := LI.out.qT; have := TR3.out.tab.lt.1; omega, by have := LI.out.qp; have := TR3.out.tab.lt.2.1; omega, by have := LI.out.qo; have := TR3.out.tab.lt.2.2; omega⟩ w6 BR.out TR3.out.tab)
            refine wpIn_rangeFunc_ownG (hro := rfl) (h1 := by omega) (gf := 18) (lb := #[.pointer (some ⟨bl + 1 + 1, 0, none⟩)]) rfl trivial (enters_of Try.func18 (by kernel_rfl) rfl)
              STP.out (fun h1 h2 => h1.trans h2 fun _ h _ => h) (fun W l o o' hl _ _ _ => Touch.of_grown (grownBy_putObj' W l o') (fun k e => by cases e; exact .inr (.inr hl))) (Below.refl _ _) (fun _ => rfl)
              (Mid w p T gp go q bl (bl + 1) a o) (Lft a) (Mid.own LI.out hq (by omega) (by omega)) Lft.own ⟨BL2.out, BK2.out, TR3.out⟩ ?a12 ?assign2 ?body2 ?done2 ?stop2
            case assign2 =>
              intro l x W K hK
              gi_wp2
              exact hK
            case body2 =>
              rintro l pre ⟨x1, x2⟩ W hI hlt
              have I := Lib.hid hI
              have c1 := hI.tr.box.cell
              have c2 := hI.la.cell
              have f2 := hI.la.frozen
              have c3 := hI.ct.cell
              have f3 := hI.ct.frozen
              have c4 := hI.tr.res.cell
              have f4 := hI.tr.res.frozen
              have A := Lib.hid (atq hI.tr.tab (x1 : Int) (a x1) (lookI_nat a x1))
              have TL := Lib.hid (fun (h : Told a 50 (pre ++ [(x1, x2)])) => (told_last h.choose_spec.2 : a x1 = some x2 ∧ lastI pre < (x1 : Int)))
              have hlb := lastI_bd pre
              have LA := Lib.hid (lastI_append pre (x1, x2))
              have M1 := Lib.hid (show Mid w p T gp go q bl (bl + 1) a o (pre ++ [(x1, x2)]) ((W.setCell ⟨bl, 0, none⟩ (.int .i64 (x1 : Int))).setCell ⟨bl + 1, 0, none⟩ (.int .i64 ((pre.length : Int) + 1))) from
                ⟨by rw [lastI_append]; exact (hI.la.set _).other (by omega) _, by rw [show ((pre ++ [(x1, x2)]).length : Int) = (pre.length : Int) + 1 by simp]; exact (hI.ct.other (by omega) _).set _,
                  hI.tr.next LI.out (((Touch.refl (fun b => b = bl ∨ b = bl + 1) W).setCell (a := ⟨bl, 0, none⟩) (.inl (.inl rfl)) _).setCell (a := ⟨bl + 1, 0, none⟩) (.inl (.inr rfl)) _) (fun b hb => by omega)⟩)
              have c5 := (hI.ct.other (B' := bl) (by omega) (.int .i64 (x1 : Int))).cell
              have f5 := (hI.ct.other (B' := bl) (by omega) (.int .i64 (x1 : Int))).frozen
              clear hI LA
              generalize lastI pre = lp at *
              obtain ⟨ax, hax⟩ : ∃ ax, a x1 = ax := ⟨_, rfl⟩
              rw [hax] at A TL
              clear hax
              by_cases h1 : (x1 : Int) ≤ lp
              · cases ax
                all_goals
                  gi_wp2_with fail
                  refine ⟨trivial, ?_⟩
                  gi_at_call 11
                  refine (CallsIn.inRound l (callsIn_wide.2 A.out)).mono ?_
                  rintro e w' ⟨rfl, rfl⟩
                  simp only [ans, Option.isSome]
                  gi_wp2
                  exact ⟨(KeepsOthers.setCell _ _ _).from _, ⟨rfl, fun e => by have := (TL.out e).2; omega⟩⟩
              · cases ax with
                | none =>
                  gi_wp2_with fail
                  refine ⟨trivial, ?_⟩
                  gi_at_call 11
                  refine (CallsIn.inRound l (callsIn_wide.2 A.out)).mono ?_
                  rintro e w' ⟨rfl, rfl⟩
                  simp only [ans, Option.isSome]
                  gi_wp2
                  exact ⟨(KeepsOthers.setCell _ _ _).from _, ⟨rfl, fun e => by have := (TL.out e).1; simp at this⟩⟩
                | some z =>
                  by_cases h2 : z = x2
                  · subst h2
                    gi_wp2_with fail
                    refine ⟨trivial, ?_⟩
                    gi_at_call 11
                    refine (CallsIn.inRound l (callsIn_wide.2 A.out)).mono ?_
                    rintro e w' ⟨rfl, rfl⟩
                    simp only [ans, Option.isSome]
                    gi_wp2
                    exact ⟨((KeepsOthers.setCell _ _ _).trans (KeepsOthers.setCell _ _ _)).from _, ((Touch.refl _ W).setCell (a := ⟨bl, 0, none⟩) (.inl (.inl rfl)) _).setCell (a := ⟨bl + 1, 0, none⟩) (.inl (.inr (.inl rfl))) _, M1.out⟩
                  · have b1 : ((z : Int) != (x2 : Int)) = true := by rw [bne_iff_ne]; omega
                    have b2 : ((z : Int) == (x2 : Int)) = false := by rw [beq_eq_false_iff_ne]; omega
                    gi_wp2_with fail
                    refine ⟨trivial, ?_⟩
                    gi_at_call 11
                    refine (CallsIn.inRound l (callsIn_wide.2 A.out)).mono ?_
                    rintro e w' ⟨rfl, rfl⟩
                    simp only [ans, Option.isSome]
                    gi_wp2
                    exact ⟨(KeepsOthers.setCell _ _ _).from _, ⟨rfl, fun e => h2 (by have := (TL.out e).1; simpa using this)⟩⟩
            case done2 =>
              rintro D ys W hD hys hI hK
              have hlen : ys.length = C := by rw [hys, tells_length]; exact HC.out
              have hct := hI.ct
              rw [hlen] at hct
              have hc1 := hct.cell
              have hc4 := hI.tr.res.cell
              have hf4 := hI.tr.res.frozen
              have FE := Lib.hid (hI.tr.res.set (.bool true))
              have BB := Lib.hid (hI.tr.below.setCell (p := ⟨p, 0, none⟩) LI.out.lp (.bool true))
              have HK := Lib.hid hK
              clear hI hct hys hlen hK
              gi_wp2
              have hK' := (KeepsOthers.setCell W ⟨p, 0, none⟩ (.bool true)).same D _ HK.out rfl
              refine ⟨by simp, .inl ⟨_, _, rfl, run_takeDeferred hK', ?_⟩⟩
              have hc5 := cell_kept FE.out.cell (grownBy_putObj' _ D (.deferred none)) (fun r e => by cases e; exact ⟨_, hK', rfl⟩)
              refine ⟨.bool true, ?_, rfl, BB.out.trans (belowK_b (w := w) (Nat.le_refl _) _ D _ _ (by have := TR3.out.below.size; omega) hK' rfl rfl)⟩
              simp [results, Try.results3, go_sem, hc5]
            case stop2 =>
              rintro D c pre W hD ⟨z, hz, hpre⟩ ⟨rfl, hne⟩ hK
              exact (hne ⟨z, hz, hpre⟩).elim

end Go.Proofs.Ytcjokhbpnlokhaa
