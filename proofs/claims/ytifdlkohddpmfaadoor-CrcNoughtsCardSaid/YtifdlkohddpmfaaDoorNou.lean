/- CrcNoughts: noughts count, ahead and behind. -/
import Derived.Test.YtifdlkohddpmfaaDoorApb
namespace Go.Proofs.YtifdlkohddpmfaaDoor
open Go.RowKit

theorem zeros_reads (w : World) (n : Nat) : Reads (w.alloc (.cells (rowA (zerosL n)) 5)) (.slice (some ⟨w.heap.size, 0, none⟩) n n) (zerosL n) w.heap.size :=
  lit_reads w _ _ _ n n rfl (zerosL_length n).symm

/-- An operation that stands under a guard that holds is as one without. -/
theorem wpList_guarded {P : Program} {ops : Array Oper} {Q : Exit → Act → World → Prop} {a : Act} {w : World} {rest : List Oper} {o : Oper} (hw : Region.wanted o (yielded ops a.tmps) = true) (h : wpList P ops Q ({ o with guard := none } :: rest) a w) : wpList P ops Q (o :: rest) a w := by
  unfold wpList at h ⊢
  rw [if_pos hw]
  rw [if_pos (by simp [Region.wanted])] at h
  exact h

/-- What the last statement goes on from. -/
structure NSt (w W : World) (L : List UInt8) (vL : Value) (g n : Nat) (vz : Value) (gz : Nat) : Prop where
  half : Half W
  tot : Below w.heap.size w W
  rl : Reads W vL L g
  gl : L ≠ [] → g < W.heap.size
  rz : Reads W vz (zerosL n) gz
  gzl : gz < W.heap.size
theorem NSt.next {w W W' : World} {L : List UInt8} {vL : Value} {g n : Nat} {vz : Value} {gz : Nat} (h : NSt w W L vL g n vz gz) (hb : Below W.heap.size W W') : NSt w W' L vL g n vz gz :=
  ⟨h.half.below hb, h.tot.trans (hb.mono h.tot.size), h.rl.below h.gl hb, fun hl => Nat.lt_of_lt_of_le (h.gl hl) hb.size, h.rz.below (fun _ => h.gzl) hb, Nat.lt_of_lt_of_le h.gzl hb.size⟩
/-- Two appends to a row of one's own. -/
theorem NSt.two {w W W4 W5 : World} {L : List UInt8} {vL : Value} {g n : Nat} {vz : Value} {gz : Nat} (h : NSt w W L vL g n vz gz) {v1 : Value} {M : List UInt8}
    (hg1 : (W.alloc (.cells #[] 5)).grownBy W4 (Value.slice (some ⟨W.heap.size, 0, none⟩) 0 0).ownBlock) (ho : W4.ownsRow W.heap.size 5 1 v1 M.length (M.map byteV)) :
    NSt w W4 L vL g n vz gz ∧ W.heap.size ≤ W4.heap.size ∧ (W4.grownBy W5 v1.ownBlock → NSt w W5 L vL g n vz gz) := by
  have hb : Below W.heap.size W W4 := ((Below.refl W.heap.size W).alloc (Nat.le_refl _) (.cells #[] 5)).grown hg1 (by simp) (by intro k hk; simp [Value.ownBlock] at hk; omega)
  obtain ⟨_, _, _, _, _, _, _, hob, _⟩ := own_bytes ho
  exact ⟨h.next hb, hb.size, fun hg2 => h.next (hb.grown hg2 hb.size hob)⟩

set_option maxRecDepth 100000 in
set_option maxHeartbeats 1000000 in
theorem noughts_walk (a : Option Addr) (l : List UInt8) (cap g : Nat) (n0 : Int) (w : World) (hh : Half w) (hr : Reads w (.slice a l.length cap) l g) (hg : l ≠ [] → g < w.heap.size) (hc : l.length ≤ cap) (hn : a = none → cap = 0) (hw : l.length ≤ 140737488351232) :
    Calls Tryd.prog 8 #[.slice a l.length cap, .int .i64 n0] w fun e w' => e = .returned (.bool true) ∧ Below w.heap.size w w' := by
  obtain ⟨m, hm1, hm2, hmin⟩ : ∃ n : Nat, n ≤ 300 ∧ n ≤ l.length ∧ (if (300 : Int) < (l.length : Int) then (300 : Int) else (l.length : Int)) = (n : Int) := ⟨min l.length 300, by omega, by omega, min_nat l.length 300⟩
  obtain ⟨z, hz⟩ : ∃ z : Nat, (z : Int) = n0 % 65536 := ⟨(n0 % 65536).toNat, by omega⟩
  have hz1 : bits .and .i64 n0 65535 = (z : Int) := by rw [and_65535, hz]
  obtain ⟨p, hp, hz2⟩ : ∃ p : Nat, p < 100 ∧ (z : Int).tmod 100 = (p : Int) := ⟨z % 100, by omega, by rw [Int.tmod_eq_emod_of_nonneg (by omega)]; rfl⟩
  obtain ⟨n, hn3, hn4⟩ : ∃ n : Nat, (1 : Int) + (p : Int) = (n : Int) ∧ n ≤ 100 := ⟨p + 1, by omega, by omega⟩
  have HH := Lib.hid hh
  have HR := Lib.hid hr
  have HG := Lib.hid hg
  clear hh hr hg hz
  have hmk := fun W => run_makeBytes W (n : Int) (by omega) (by omega)
  have hmk2 := fun W => run_makeBytes W ((n : Int) + 1) (by omega) (by omega)
  simp only [Int.toNat_natCast] at hmk
  rw [show ((n : Int) + 1).toNat = n + 1 by omega] at hmk2
  go_enter Tryd.func8, Tryd.ntmps8
  go_wp2_with fail
  refine (shown_any w HH.out).mono ?_
  rintro e w1 ⟨rfl, hT⟩
  have NIL := Lib.hid (show ∀ k c', Value.slice a m cap = .slice none k c' → c' = 0 by intro k c' h; cases h; exact hn rfl)
  have hlm : (l.take m).length = m := by rw [List.length_take]; omega
  have hgm : l.take m ≠ [] → g < w1.heap.size := fun h => Nat.lt_of_lt_of_le (HG.out (by rintro rfl; simp at h)) hT.size
  have hrm := (HR.out.below HG.out hT).take (c' := cap) m hm2
  have R := Lib.hid (hrm.alloc hgm (.cells (rowA (zerosL n)) 5))
  replace HH := Lib.hid ((HH.out.below hT).alloc (.cells (rowA (zerosL n)) 5))
  have RZ := Lib.hid (zeros_reads w1 n)
  have HT := Lib.hid (hT.alloc hT.size (.cells (rowA (zerosL n)) 5))
  have GM := Lib.hid (show l.take m ≠ [] → g < (w1.alloc (.cells (rowA (zerosL n)) 5)).heap.size from fun h => Nat.lt_of_lt_of_le (hgm h) (by simp))
  have hzl : (zerosL n).length = n := zerosL_length n
  have hone := Crc.sum_noughts n (l.take m)
  clear hT hn hgm hrm
  generalize l.take m = L at hlm R GM hone
  go_wp2_with fail
  refine (sum_any _ (zerosL n) w1.heap.size _ HH.out RZ.out (by omega)).mono ?_
  rintro e w2 ⟨rfl, rfl⟩
  go_wp2_with fail
  refine (more_any _ _ L g _ HH.out R.out (by omega)).mono ?_
  rintro e w2 ⟨rfl, rfl⟩
  go_wp2_with fail
  refine (sum_any _ L g _ HH.out R.out (by omega)).mono ?_
  rintro e w2 ⟨rfl, rfl⟩
  go_wp2_with fail
  refine (more_any _ _ (zerosL n) w1.heap.size _ HH.out RZ.out (by omega)).mono ?_
  rintro e w2 ⟨rfl, rfl⟩
  rw [Crc.sum_more, Crc.sum_more]
  have HZB := Lib.hid (show w1.heap.size < (w1.alloc (.cells (rowA (zerosL n)) 5)).heap.size by simp)
  generalize w1.alloc (.cells (rowA (zerosL n)) 5) = w2 at HH HT R RZ GM HZB ⊢
  generalize w1.heap.size = gz at RZ HZB ⊢
  go_wp2_with fail
  refine (sum_any _ (zerosL (n + 1)) w2.heap.size _ (HH.out.alloc _) (zeros_reads w2 (n + 1)) (by rw [zerosL_length]; omega)).mono ?_
  rintro e w3 ⟨rfl, rfl⟩
  have R2 := Lib.hid (R.out.alloc GM.out (.cells (rowA (zerosL (n + 1))) 5))
  go_wp2_with fail
  refine (more_any _ _ L g _ (HH.out.alloc _) R2.out (by omega)).mono ?_
  rintro e w3 ⟨rfl, rfl⟩
  rw [Crc.sum_more]
  have hx : (num (Crc.sum (zerosL n ++ L)) != num (Crc.sum (zerosL (n + 1) ++ L))) = true := by
    rw [bne, num_beq]
    have : (Crc.sum (zerosL n ++ L) == Crc.sum (zerosL (n + 1) ++ L)) = false := beq_eq_false_iff_ne.2 hone
    rw [this]; rfl
  replace HH := Lib.hid (HH.out.alloc (.cells (rowA (zerosL (n + 1))) 5))
  replace RZ := Lib.hid (RZ.out.alloc (fun _ => HZB.out) (.cells (rowA (zerosL (n + 1))) 5))
  replace HT := Lib.hid (HT.out.alloc HT.out.size (.cells (rowA (zerosL (n + 1))) 5))
  replace GM := Lib.hid (show L ≠ [] → g < (w2.alloc (.cells (rowA (zerosL (n + 1))) 5)).heap.size from fun h => Nat.lt_of_lt_of_le (GM.out h) (by simp))
  replace HZB := Lib.hid (show gz < (w2.alloc (.cells (rowA (zerosL (n + 1))) 5)).heap.size from Nat.lt_of_lt_of_le HZB.out (by simp))
  clear R hone
  generalize w2.alloc (.cells (rowA (zerosL (n + 1))) 5) = w3 at HH HT R2 RZ GM HZB ⊢
  clear hmk hmk2
  have N : Go.RowKit.Hid (NSt w w3 L (.slice a m cap) g n (.slice (some ⟨gz, 0, none⟩) n n) gz) := Lib.hid ⟨HH.out, HT.out, R2.out, GM.out, RZ.out, HZB.out⟩
  clear HH HT R2 RZ GM HZB
  go_wp2_with (at_builtin; refine wpList_guarded (by kernel_rfl) ?_; refine Go.RowKit.Hid.out ?_)
  refine Lib.hid ?_
  refine wpList_append_b rfl (.tmp 38) (.tmp 39) rfl w3.heap.size (.slice (some ⟨w3.heap.size, 0, none⟩) 0 0) [] rfl (own_none w3) _ (zerosL n) gz rfl (N.out.next ((Below.refl _ w3).alloc (Nat.le_refl _) (.cells #[] 5))).rz (fun _ _ h => by cases h) (by simp; omega) (by simp) ?_
  intro v1 w3a hown hgrow
  rw [List.nil_append] at hown
  have htwo := fun W' => N.out.two (W5 := W') hgrow hown
  have HO := Lib.hid hown
  have HTW := Lib.hid htwo
  clear hown hgrow htwo
  go_wp2_with (at_builtin; refine wpList_guarded (by kernel_rfl) ?_; refine Go.RowKit.Hid.out ?_)
  refine Lib.hid ?_
  refine wpList_append_b rfl (.tmp 40) (.tmp 41) rfl w3.heap.size v1 (zerosL n) rfl HO.out _ L g rfl (HTW.out w3a).1.rl NIL.out (by omega) (HTW.out w3a).2.1 ?_
  intro v2 w3b hown hgrow
  have Nb := Lib.hid ((HTW.out w3b).2.2 hgrow)
  obtain ⟨a2, c2, g2, rfl, hr2, -⟩ := own_bytes hown
  simp only [List.length_append, hzl, hlm] at hr2
  have HR2 := Lib.hid hr2
  clear hown hgrow hr2 HO HTW
  go_wp2_with fail
  refine (sum_any _ ((zerosL n) ++ L) g2 _ Nb.out.half HR2.out (by rw [List.length_append]; omega)).mono ?_
  rintro e w9 ⟨rfl, rfl⟩
  go_wp2_with (at_builtin; refine wpList_guarded (by kernel_rfl) ?_; refine Go.RowKit.Hid.out ?_)
  refine Lib.hid ?_
  refine wpList_append_b rfl (.tmp 48) (.tmp 49) rfl w3b.heap.size (.slice (some ⟨w3b.heap.size, 0, none⟩) 0 0) [] rfl (own_none w3b) _ L g rfl (Nb.out.next ((Below.refl _ w3b).alloc (Nat.le_refl _) (.cells #[] 5))).rl NIL.out (by simp; omega) (by simp) ?_
  intro v1 w3ba hown hgrow
  rw [List.nil_append] at hown
  have htwo := fun W' => Nb.out.two (W5 := W') hgrow hown
  have HO := Lib.hid hown
  have HTW := Lib.hid htwo
  clear hown hgrow htwo
  go_wp2_with (at_builtin; refine wpList_guarded (by kernel_rfl) ?_; refine Go.RowKit.Hid.out ?_)
  refine Lib.hid ?_
  refine wpList_append_b rfl (.tmp 50) (.tmp 51) rfl w3b.heap.size v1 L rfl HO.out _ (zerosL n) gz rfl (HTW.out w3ba).1.rz (fun _ _ h => by cases h) (by omega) (HTW.out w3ba).2.1 ?_
  intro v2 w3bb hown hgrow
  have Nbb := Lib.hid ((HTW.out w3bb).2.2 hgrow)
  obtain ⟨a2, c2, g2, rfl, hr2, -⟩ := own_bytes hown
  simp only [List.length_append, hzl, hlm] at hr2
  have HR2 := Lib.hid hr2
  clear hown hgrow hr2 HO HTW
  go_wp2_with fail
  refine (sum_any _ (L ++ (zerosL n)) g2 _ Nbb.out.half HR2.out (by rw [List.length_append]; omega)).mono ?_
  rintro e w9 ⟨rfl, rfl⟩
  go_wp2
  go_ret
  exact ⟨rfl, Nbb.out.tot⟩

end Go.Proofs.YtifdlkohddpmfaaDoor
