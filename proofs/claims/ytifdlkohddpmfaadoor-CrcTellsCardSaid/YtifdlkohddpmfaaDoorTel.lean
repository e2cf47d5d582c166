/- CrcTells: a sum is what the document says. -/
import Derived.Test.YtifdlkohddpmfaaDoorRef
namespace Go.Proofs.YtifdlkohddpmfaaDoor
open Go.RowKit

set_option maxRecDepth 100000 in
set_option maxHeartbeats 1000000 in
theorem tells_walk (a : Option Addr) (l : List UInt8) (cap g : Nat) (w : World) (hh : Half w) (hr : Reads w (.slice a l.length cap) l g) (hg : l ≠ [] → g < w.heap.size) (hc : l.length ≤ cap) (hw : l.length ≤ 140737488351232) :
    Calls Tryd.prog 3 #[.slice a l.length cap] w fun e w' => e = .returned (.bool true) ∧ Below w.heap.size w w' := by
  obtain ⟨n, hn1, hn2, hmin⟩ : ∃ n : Nat, n ≤ 600 ∧ n ≤ l.length ∧ (if (600 : Int) < (l.length : Int) then (600 : Int) else (l.length : Int)) = (n : Int) := ⟨min l.length 600, by omega, by omega, min_nat l.length 600⟩
  have HH := Lib.hid hh
  have HR := Lib.hid hr
  have HG := Lib.hid hg
  clear hh hr hg
  go_enter Tryd.func3, Tryd.ntmps3
  go_wp2_with fail
  refine (shown_any w HH.out).mono ?_
  rintro e w1 ⟨rfl, hT⟩
  have R := Lib.hid ((HR.out.below HG.out hT).take (c' := cap) n hn2)
  replace HH := Lib.hid (HH.out.below hT)
  have HT := Lib.hid hT
  clear hT
  have hl : (l.take n).length ≤ 4294967296 := by rw [List.length_take]; omega
  have HL := Lib.hid hl
  clear hl
  go_wp2_with fail
  refine (sum_any _ (l.take n) g _ HH.out R.out HL.out).mono ?_
  rintro e w2 ⟨rfl, rfl⟩
  go_wp2_with fail
  refine (ref_any _ (l.take n) g _ R.out HL.out).mono ?_
  rintro e w2 ⟨rfl, rfl⟩
  generalize num (Crc.sum (l.take n)) = S
  go_wp2
  go_ret
  exact ⟨rfl, HT.out⟩

end Go.Proofs.YtifdlkohddpmfaaDoor
