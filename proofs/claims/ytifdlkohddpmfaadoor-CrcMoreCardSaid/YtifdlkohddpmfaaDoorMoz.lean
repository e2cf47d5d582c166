/- CrcMore: a sum goes on. -/
import Derived.Test.YtifdlkohddpmfaaDoorSli
namespace Go.Proofs.YtifdlkohddpmfaaDoor
open Go.RowKit

set_option maxRecDepth 100000 in
set_option maxHeartbeats 1000000 in
theorem more_walk (a : Option Addr) (l : List UInt8) (cap g : Nat) (at_ : Int) (w : World) (hh : Half w) (hr : Reads w (.slice a l.length cap) l g) (hg : l ≠ [] → g < w.heap.size) (hc : l.length ≤ cap) (hw : l.length ≤ 140737488351232) :
    Calls Tryd.prog 4 #[.slice a l.length cap, .int .i64 at_] w fun e w' => e = .returned (.bool true) ∧ Below w.heap.size w w' := by
  obtain ⟨n, hn1, hn2, hmin⟩ : ∃ n : Nat, n ≤ 600 ∧ n ≤ l.length ∧ (if (600 : Int) < (l.length : Int) then (600 : Int) else (l.length : Int)) = (n : Int) := ⟨min l.length 600, by omega, by omega, min_nat l.length 600⟩
  obtain ⟨z, hz⟩ : ∃ z : Nat, (z : Int) = at_ % 65536 := ⟨(at_ % 65536).toNat, by omega⟩
  have hz1 : bits .and .i64 at_ 65535 = (z : Int) := by rw [and_65535, hz]
  obtain ⟨p, hp, hz2⟩ : ∃ p : Nat, p ≤ n ∧ (z : Int).tmod ((n : Int) + 1) = (p : Int) :=
    ⟨z % (n + 1), by have := Nat.mod_lt z (show 0 < n + 1 by omega); omega, by rw [Int.tmod_eq_emod_of_nonneg (by omega)]; rfl⟩
  have HH := Lib.hid hh
  have HR := Lib.hid hr
  have HG := Lib.hid hg
  clear hh hr hg hz
  go_enter Tryd.func4, Tryd.ntmps4
  go_wp2_with fail
  refine (shown_any w HH.out).mono ?_
  rintro e w1 ⟨rfl, hT⟩
  have kc := run_convBytes ((HR.out.below HG.out hT).take (c' := cap) n hn2)
  replace HH := Lib.hid (HH.out.below hT)
  replace HR := Lib.hid (HR.out.below HG.out hT)
  have HT := Lib.hid hT
  clear hT
  go_wp2_with fail
  have hu := run_upto w1.drew a n cap p (by omega)
  have hf := run_from w1.drew a n cap p hp
  have kd := run_convBytes (show Reads w1.drew _ _ _ from HR.out.take (c' := cap) n hn2)
  have R1 := Lib.hid (show Reads w1.drew _ _ _ from HR.out.take (c' := cap) n hn2)
  have R2 := Lib.hid (show Reads w1.drew _ _ _ from HR.out.take (c' := cap) p (by omega))
  have hlt : (l.take n).length = n := by rw [List.length_take, Nat.min_eq_left hn2]
  have R3 := Lib.hid (show Reads w1.drew _ _ _ from Reads.drop (c' := cap - p) (l := l.take n) (by rw [hlt]; exact HR.out.take (c' := cap) n hn2) (by omega) n p hlt.symm hp)
  have HH := Lib.hid (show Half w1.drew from HH.out)
  have hlp : (l.take p).length ≤ 4294967296 := by rw [List.length_take]; omega
  have hld : ((l.take n).drop p).length ≤ 4294967296 := by rw [List.length_drop]; omega
  have S1 := Lib.hid (sum_any _ _ _ _ HH.out R1.out (by omega))
  have S2 := Lib.hid (sum_any _ _ _ _ HH.out R2.out hlp)
  have m3 := more_any (Crc.sum (l.take p)) _ _ _ _ HH.out R3.out hld
  have hj : l.take p ++ (l.take n).drop p = l.take n := by
    rw [show l.take p = (l.take n).take p by rw [List.take_take, Nat.min_eq_left hp], List.take_append_drop]
  rw [Crc.sum_more, hj] at m3
  have m0 := more_any (Crc.sum (l.take n)) _ _ _ _ HH.out (Reads.nil w1.drew) (by decide)
  rw [Crc.more_nil] at m0
  have M3 := Lib.hid m3
  have M0 := Lib.hid m0
  clear hlp hld hlt hj m3 m0 R1 R2 R3
  generalize (if cap = p then a else a.map (·.add p)) = A at hf M3
  go_region_held3 (fun w' => w' = w1.drew) (first | rfl | assumption) (first | (go_at_call_of 12 (Value.slice a n cap); refine S1.out.mono ?_; rintro e w4 ⟨rfl, rfl⟩) | (go_at_call_of 12 (Value.slice a p cap); refine S2.out.mono ?_; rintro e w4 ⟨rfl, rfl⟩) | (go_at_call_of 14 (Value.slice A (n - p) (cap - p)); refine M3.out.mono ?_; rintro e w4 ⟨rfl, rfl⟩) | (go_at_call_of 14 (Value.slice none 0 0); refine M0.out.mono ?_; rintro e w4 ⟨rfl, rfl⟩))
  go_wp2
  go_ret
  exact ⟨rfl, HT.out.drew⟩

end Go.Proofs.YtifdlkohddpmfaaDoor
