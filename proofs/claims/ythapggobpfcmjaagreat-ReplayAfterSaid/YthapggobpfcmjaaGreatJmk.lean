/- What was written and cleaned is taken over: settle. No condition. -/
import Derived.Test.YthapggobpfcmjaaGreatJmh
import Derived.Deep.RegionWith
import Derived.Deep.RegionHeld3
import Derived.RegionTactic
import Derived.BigRegion
set_option maxRecDepth 100000
namespace Go.Proofs.YthapggobpfcmjaaGreat
namespace Jn
open Go.RowKit

/-- The table behind the first k blocks of a batch. -/
def stepT (s : JSt) (E : List WE) : Nat → (Nat → Option Nat) × (Nat → Option Nat)
  | 0 => (s.a, s.o)
  | k + 1 => match E[k]? with
    | some e => (Tb.upd (stepT s E k).1 e.id.toNat (some ((s.head + k) % s.P)), Tb.putO (stepT s E k).1 (stepT s E k).2 e.id.toNat ((s.head + k) % s.P))
    | none => stepT s E k
def after (s : JSt) (E : List WE) (c : Nat) : JSt := { s with sq := s.sq + 1, head := (s.head + E.length) % s.P, used := s.used + E.length - c, freed := c, a := (stepT s E E.length).1, o := (stepT s E E.length).2 }
theorem stepT_succ {s : JSt} {E : List WE} {k : Nat} (hk : k < E.length) : stepT s E (k + 1) = (Tb.upd (stepT s E k).1 E[k].id.toNat (some ((s.head + k) % s.P)), Tb.putO (stepT s E k).1 (stepT s E k).2 E[k].id.toNat ((s.head + k) % s.P)) := by
  simp [stepT, hk]

/-- While settle runs. -/
structure SetI (w : World) (A : Ad) (s : JSt) (v : Value) (E : List WE) (X : Nat → Prop) (k : Nat) (wr : World) : Prop where
  jat : JAt wr A { s with a := (stepT s E k).1, o := (stepT s E k).2 }
  wl : WL wr v E X
  tch : Touch A.own w wr

theorem not_own3 {w : World} {A : Ad} {s : JSt} (h : JAt w A s) : ¬ Tb.Own3 A.T A.gp A.go A.J ∧ ¬ Tb.Own3 A.T A.gp A.go A.R :=
  ⟨fun e => e.elim (ne_of_obj h.head h.tab.head (cells_ne (by decide))) fun e => e.elim (ne_of_obj h.head h.tab.rowp (cells_ne (by decide))) (ne_of_obj h.head h.tab.rowo (cells_ne (by decide))),
   fun e => e.elim (ne_of_obj h.ring h.tab.head (cells_ne (by decide))) fun e => e.elim (ne_of_obj h.ring h.tab.rowp (cells_ne (by decide))) (ne_of_obj h.ring h.tab.rowo (cells_ne (by decide)))⟩
theorem JAt.put {w w1 : World} {A : Ad} {s : JSt} (h : JAt w A s) {a o : Nat → Option Nat} (ht : Touch (Tb.Own3 A.T A.gp A.go) w w1) (hn : Tb.TabAt w1 A.T A.gp A.go s.N s.P a o) : JAt w1 A { s with a := a, o := o } := by
  have n1 : A.J ≠ A.T := ne_of_obj h.head h.tab.head (cells_ne (by decide))
  have n2 : A.J ≠ A.gp := ne_of_obj h.head h.tab.rowp (cells_ne (by decide))
  have n3 : A.J ≠ A.go := ne_of_obj h.head h.tab.rowo (cells_ne (by decide))
  have m1 : A.R ≠ A.T := ne_of_obj h.ring h.tab.head (cells_ne (by decide))
  have m2 : A.R ≠ A.gp := ne_of_obj h.ring h.tab.rowp (cells_ne (by decide))
  have m3 : A.R ≠ A.go := ne_of_obj h.ring h.tab.rowo (cells_ne (by decide))
  exact ⟨ht.at h.head (fun e => e.elim n1 fun e => e.elim n2 n3), ht.at h.ring (fun e => e.elim m1 fun e => e.elim m2 m3), hn, h.p1, h.hd, h.us, h.sq, h.ep, h.st⟩

set_option maxHeartbeats 4000000 in
theorem settle_any {w : World} {A : Ad} {s : JSt} {v : Value} {E : List WE} {X : Nat → Prop} (h : JAt w A s) (hw : WL w v E X) (hX : ∀ k, X k → ¬ A.own k) (c : Nat) (hc : c ≤ s.used) (hroom : s.used + E.length ≤ s.P) (hsq : s.sq < 281474976710655)
    (hE : ∀ e ∈ E, 0 ≤ e.id ∧ e.id < s.N) (hfree : ∀ k (hk : k < E.length), (stepT s E k).2 ((s.head + k) % s.P) = none ∨ (stepT s E k).2 ((s.head + k) % s.P) = some E[k].id.toNat) :
    Calls Tryz.prog 30 #[.pointer (some ⟨A.J, 0, none⟩), v, .int .i64 (c : Int)] w fun e w' => e = .returned (.tuple #[]) ∧ Touch A.own w w' ∧ JAt w' A (after s E c) := by
  obtain ⟨a, cap, rfl, -⟩ := hw.form
  have hPm : s.P ≤ 1048576 := h.pm
  have H := Lib.hid h
  have HW := Lib.hid hw
  have HXF := Lib.hid hX
  have HE := Lib.hid hE
  have HF := Lib.hid hfree
  obtain ⟨len, hl⟩ : ∃ len, E.length = len := ⟨_, rfl⟩
  rw [hl] at hroom ⊢
  have HL := Lib.hid hl
  clear h hw hX hE hfree
  go_enter Tryz.func30, Tryz.ntmps30
  clear hl
  go_wp2
  go_loopw [10] (fun i wr => ∃ k : Nat, k ≤ len ∧ i = .int .i64 k ∧ SetI w A s (.slice a len cap) E X k wr) (fun i _ => len - (intOf i).toNat)
  case atStart => exact ⟨0, Nat.zero_le _, rfl, ⟨H.out, by have := HW.out; rwa [HL.out] at this, Touch.refl _ _⟩⟩
  case round =>
    obtain ⟨k, hk, rfl, hI⟩ := hrel
    by_cases hlt : k < len
    · have hltE : k < E.length := by rw [HL.out]; exact hlt
      obtain ⟨g, off, cap', e1, hg, w1, w2⟩ := hI.wl.at hltE
      rw [HL.out] at e1
      obtain ⟨rfl, rfl⟩ : a = some ⟨g, off, none⟩ ∧ cap = cap' := by simpa using e1
      obtain ⟨da, dcap, hdv, -⟩ := (hI.wl.data E[k] (List.getElem_mem _)).1.form
      have hfin := HE.out E[k] (List.getElem_mem _)
      have hsu := stepT_succ (s := s) hltE
      have hfr := HF.out k hltE
      generalize hek : E[k] = ek at w1 w2 hdv hfin hsu hfr
      obtain ⟨eid, ev, el, eg⟩ := ek
      simp only at hdv w1 w2 hfin hsu hfr
      subst hdv
      obtain ⟨d, rfl⟩ := Int.eq_ofNat_of_zero_le hfin.1
      simp only [Int.toNat_natCast] at hsu hfr
      have hidN : d < s.N := by omega
      have hgl : g < wr.heap.size := World.block_lt_of_cell? wr _ w1
      have hmod := Nat.mod_lt (s.head + k) H.out.p1
      have hJ4 := (hI.jat.alloc (.cells #[.int .i64 (d : Int), .slice da el.length dcap] 41)).drew
      have PT := Tb.put_ok hJ4.tab (i := d) (p := (s.head + k) % s.P) hidN hmod hfr
      have GO := fun (V : World) (hc : V.cell? ⟨A.R, 0, none⟩ = some (.slice (some ⟨A.gr, 0, none⟩) s.P s.P)) => (Rg.go_c A.R A.gr s.P s.head k V hc H.out.p1 H.out.pm).mono fun e w' (hh : _ ∧ _) => (⟨by rw [hh.1]; rfl, hh.2⟩ : e = .returned (.int .i64 (((s.head + k) % s.P : Nat) : Int)) ∧ V = w')
      have hJl : A.J < wr.heap.size := hI.jat.lt _ (.inl rfl)
      have hd0 : (wr.alloc (.cells #[.int .i64 (d : Int), .slice da el.length dcap] 41)).drew.cell? ⟨wr.heap.size, 0, none⟩ = some (.int .i64 (d : Int)) := by
        simp
      have hcc := hJ4.cells
      have hJ4c := And.intro hcc.2.1 (And.intro hcc.2.2.1 (And.intro hcc.2.2.2.2.2.2.2.1 hJ4.ring.hcell))
      have KS := Lib.hid (fun (V : World) (ht : Touch (Tb.Own3 A.T A.gp A.go) (wr.alloc (.cells #[.int .i64 (d : Int), .slice da el.length dcap] 41)).drew V) =>
        (show V.cell? ⟨A.J, 1, none⟩ = some (.pointer (some ⟨A.R, 0, none⟩)) ∧ V.cell? ⟨A.J, 2, none⟩ = some (.pointer (some ⟨A.T, 0, none⟩)) ∧ V.cell? ⟨A.J, 7, none⟩ = some (.int .i64 (s.head : Int)) ∧ V.cell? ⟨A.R, 0, none⟩ = some (.slice (some ⟨A.gr, 0, none⟩) s.P s.P) ∧ V.cell? ⟨wr.heap.size, 0, none⟩ = some (.int .i64 (d : Int)) from by
          have hb := fun (j : Nat) (hj : j < (wr.alloc (.cells #[.int .i64 (d : Int), .slice da el.length dcap] 41)).drew.heap.size) (hn : ¬ Tb.Own3 A.T A.gp A.go j) => ht.block j hj hn
          have hJn := not_own3 hJ4 
          have l1 := hJ4.lt _ (.inl rfl)
          have l2 := hJ4.ring.lt
          have hnew : ¬ Tb.Own3 A.T A.gp A.go wr.heap.size := by
            have n1 := hI.jat.lt A.T (.inr (.inr (.inl rfl)))
            have n2 := hI.jat.lt A.gp (.inr (.inr (.inr (.inl rfl))))
            have n3 := hI.jat.lt A.go (.inr (.inr (.inr (.inr rfl))))
            rintro (e | e | e) <;> omega
          refine ⟨(World.cell?_of_block (a := ⟨A.J, 1, none⟩) (hb _ l1 hJn.1)).trans hcc.2.1, (World.cell?_of_block (a := ⟨A.J, 2, none⟩) (hb _ l1 hJn.1)).trans hcc.2.2.1, (World.cell?_of_block (a := ⟨A.J, 7, none⟩) (hb _ l1 hJn.1)).trans hcc.2.2.2.2.2.2.2.1, (World.cell?_of_block (a := ⟨A.R, 0, none⟩) (hb _ l2 hJn.2)).trans hJ4.ring.hcell, (World.cell?_of_block (a := ⟨wr.heap.size, 0, none⟩) (hb _ (by show wr.heap.size < (wr.alloc _).heap.size; simp) hnew)).trans hd0⟩))
      have HI := Lib.hid hI
      have HPT := Lib.hid PT
      have HGO := Lib.hid GO
      have HSU := Lib.hid hsu
      have HJ4 := Lib.hid hJ4
      clear hI PT GO hsu hfr hek hg e1 hfin hJ4 hcc
      generalize hpl : (s.head + k) % s.P = pl at *
      go_wp2_with fail
      have e1 := hJ4c.1
      have e2 := hJ4c.2.1
      have e7 := hJ4c.2.2.1
      have eR := hJ4c.2.2.2
      clear hJ4c
      go_region_held3 (fun V => V.cell? ⟨A.J, 1, none⟩ = some (.pointer (some ⟨A.R, 0, none⟩)) ∧ V.cell? ⟨A.J, 2, none⟩ = some (.pointer (some ⟨A.T, 0, none⟩)) ∧ V.cell? ⟨A.J, 7, none⟩ = some (.int .i64 (s.head : Int)) ∧ V.cell? ⟨A.R, 0, none⟩ = some (.slice (some ⟨A.gr, 0, none⟩) s.P s.P) ∧ V.cell? ⟨wr.heap.size, 0, none⟩ = some (.int .i64 (d : Int)))
        (refine ⟨?_, ?_, ?_, ?_, ?_⟩ <;> assumption)
        (first
          | (go_at_call 57; refine (HGO.out _ ?hs).mono ?_; (case hs => first | assumption | simp [*]); rintro e w7 ⟨rfl, rfl⟩)
          | (go_at_call 23; refine HPT.out.mono ?_; rintro e W6 ⟨rfl, htab, ht6⟩; obtain ⟨s1, s2, s3, s4, s5⟩ := KS.out W6 ht6))
      have FIN := Lib.hid (show SetI w A s (.slice (some ⟨g, off, none⟩) len cap) E X (k + 1) W6 by
        have tb : Touch Emp wr (wr.alloc (.cells #[.int .i64 (d : Int), .slice da el.length dcap] 41)).drew := ((Touch.refl Emp wr).alloc _).drew
        have hown : ∀ j, Tb.Own3 A.T A.gp A.go j → A.own j := fun j hj => hj.elim (fun e => .inr (.inr (.inl e))) (fun e => e.elim (fun e => .inr (.inr (.inr (.inl e)))) (fun e => .inr (.inr (.inr (.inr e)))))
        refine ⟨?_, (HI.out.wl.touch tb (fun _ _ h => h)).touch ht6 (fun j hj h => HXF.out j hj (hown j h)), (HI.out.tch.trans tb (fun _ h _ => h.elim)).trans (ht6.mono fun j _ h => hown j h) (fun _ h _ => h)⟩
        have := JAt.put HJ4.out ht6 htab
        rw [HSU.out]
        exact this)
      clear HPT htab ht6 HGO
      go_wp2
      exact ⟨⟨k + 1, by omega, by go_num, FIN.out⟩, by simp [intOf]; omega⟩
    · obtain rfl : k = len := by omega
      have HI := Lib.hid hI
      have hJl : A.J < wr.heap.size := hI.jat.lt _ (.inl rfl)
      have hcs := hI.jat.cells
      obtain ⟨-, c1, -, -, -, -, c6, c7, c8, -, c10, -⟩ := hcs
      have f6 := hI.jat.free 6
      have f7 := hI.jat.free 7
      have f8 := hI.jat.free 8
      have f10 := hI.jat.free 10
      have hsqI : (s.sq : Int) + 1 ≤ 281474976710655 := by omega
      have hne : A.R ≠ A.J := ne_of_obj hI.jat.ring hI.jat.head (cells_ne (by decide))
      have GO := (Rg.go_e A.R A.gr s.P s.head k (wr.setCell ⟨A.J, 6, none⟩ (.int .u64 ((s.sq : Int) + 1))).drew ((hI.jat.ring.touch (F := fun j => j = A.J) ((Touch.refl (fun j => j = A.J) wr).setCell (a := ⟨A.J, 6, none⟩) (.inl rfl) _) hne).drew) H.out.p1 H.out.pm).mono fun e w' (hh : _ ∧ _) => (⟨by rw [hh.1]; rfl, hh.2⟩ : e = .returned (.int .i64 (((s.head + k) % s.P : Nat) : Int)) ∧ (wr.setCell ⟨A.J, 6, none⟩ (.int .u64 ((s.sq : Int) + 1))).drew = w')
      have HGO := Lib.hid GO
      have hw1 : IntKind.u64.wrap ((s.sq : Int) + 1) = (s.sq : Int) + 1 := by rw [IntKind.wrap_u64]; omega
      clear hI GO hk hlt
      generalize hpl : (s.head + k) % s.P = pl at *
      have HPL := Lib.hid hpl
      clear hpl
      go_wp2_with fail
      go_region_with (go_at_call 57; refine HGO.out.mono ?_; rintro e w4 ⟨rfl, rfl⟩)
      all_goals
        go_wp2
        go_end0
        have hj := HI.out.jat
        have tJ : Touch (fun j => j = A.J) wr ((((wr.setCell ⟨A.J, 6, none⟩ (.int .u64 ((s.sq : Int) + 1))).setCell ⟨A.J, 7, none⟩ (.int .i64 (pl : Int))).setCell ⟨A.J, 8, none⟩ (.int .i64 ((s.used : Int) + ((k : Int) - (c : Int))))).setCell ⟨A.J, 10, none⟩ (.int .i64 (c : Int))).drew :=
          (((((Touch.refl (fun j => j = A.J) wr).setCell (a := ⟨A.J, 6, none⟩) (.inl rfl) _).setCell (a := ⟨A.J, 7, none⟩) (.inl rfl) _).setCell (a := ⟨A.J, 8, none⟩) (.inl rfl) _).setCell (a := ⟨A.J, 10, none⟩) (.inl rfl) _).drew
        refine ⟨rfl, HI.out.tch.trans (tJ.mono fun j _ e => .inl e) (fun _ h _ => h), ?_⟩
        have hhead := heap_setCell_same _ A.J 10 _ _ (.int .i64 (c : Int)) (heap_setCell_same _ A.J 8 _ _ (.int .i64 ((s.used : Int) + ((k : Int) - (c : Int)))) (heap_setCell_same _ A.J 7 _ _ (.int .i64 (pl : Int)) (heap_setCell_same _ A.J 6 _ _ (.int .u64 ((s.sq : Int) + 1)) hj.head)))
        have hlk := HL.out
        have hplk := HPL.out
        have hnT := not_own3 hj
        refine ⟨?_, hj.ring.touch tJ hne, ?_, hj.p1, ?_, ?_, ?_, hj.ep, ?_⟩
        · refine (show _ = _ from hhead).trans ?_
          have e1 : ((s.used + E.length - c : Nat) : Int) = (s.used : Int) + ((k : Int) - (c : Int)) := by omega
          simp only [after, jC, hlk] at e1 ⊢
          rw [hplk]
          simp [e1]
        · have := hj.tab.touch tJ (fun e => hnT.1 (.inl e.symm)) (fun e => hnT.1 (.inr (.inl e.symm))) (fun e => hnT.1 (.inr (.inr e.symm)))
          simp only [after, hlk]
          exact this
        · exact Nat.mod_lt _ hj.p1
        · simp only [after]
          omega
        · simp only [after]
          omega
        · exact H.out.st

end Jn
end Go.Proofs.YthapggobpfcmjaaGreat
