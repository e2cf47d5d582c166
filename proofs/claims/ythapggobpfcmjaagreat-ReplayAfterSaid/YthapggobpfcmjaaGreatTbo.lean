/- Tables: the iterator of All, for a loop whose rounds all go on. Tables of at most 2^20 blocks and places. -/
import Derived.Test.YthapggobpfcmjaaGreatTba
import Derived.Test.YthapggobpfcmjaaGreatSeq
set_option maxRecDepth 100000
namespace Go.Proofs.YthapggobpfcmjaaGreat
namespace Tb
open Go.RowKit Go.Shelf

theorem tells_prefix (a : Nat → Option Nat) : ∀ (d k : Nat), ∃ t, tells a (k + d) = tells a k ++ t
  | 0, k => ⟨[], by simp⟩
  | d + 1, k => by
    obtain ⟨t, ht⟩ := tells_prefix a d k
    refine ⟨t ++ (match a (k + d) with | some p => [(k + d, p)] | none => []), ?_⟩
    rw [← List.append_assoc, ← ht]
    rfl
theorem tells_at {a : Nat → Option Nat} {k p B : Nat} (h : a k = some p) (hk : k < B) : ∃ h' : (tells a k).length < (tells a B).length, (tells a B)[(tells a k).length] = (k, p) := by
  obtain ⟨t, ht⟩ := tells_prefix a (B - (k + 1)) (k + 1)
  rw [show k + 1 + (B - (k + 1)) = B by omega, tells_some h] at ht
  refine ⟨by rw [ht]; simp, ?_⟩
  have : (tells a B)[(tells a k).length]? = some (k, p) := by rw [ht]; simp
  exact (List.getElem?_eq_some_iff.1 this).2
def told2 (z : Nat × Nat) : Array Value := #[.int .i64 (z.1 : Int), .int .i64 (z.2 : Int)]

attribute [local go_sem] Oper.semAt_some

set_option maxHeartbeats 2000000 in
/-- The iterator: for every body that touches G alone. -/
theorem all1_on (d : Nat) (hd : 1 ≤ d) (G : Nat → Prop) (br T gp go B S : Nat) (a o : Nat → Option Nat) (hF : AllFree G br T gp go) (w0 : World)
    (hA : Boxed w0 br 70 (.pointer (some ⟨T, 0, none⟩))) (hR : TabAt w0 T gp go B S a o) :
    SeqOn Fence.wide d Tryz.prog 65 #[.pointer (some ⟨br, 0, none⟩)] told2 (tells a B) (Touch G) w0 := by
  intro l J W hW _ hJo hY h0
  replace hA : Boxed W br 70 (.pointer (some ⟨T, 0, none⟩)) := (Touch.of_below (F := Emp) hW).at hA id
  replace hR : TabAt W T gp go B S a o := hR.below hW
  rw [show (#[.func (.yield l) #[] #[]] ++ #[.pointer (some ⟨br, 0, none⟩)] : Array Value) = #[.func (.yield l) #[] #[], .pointer (some ⟨br, 0, none⟩)] from rfl]
  have hc0 := hA.cell
  have hc1 := hR.c0
  have hmB := hR.mB
  refine callsIn_of_wp Tryz.func65 rfl trivial ?_ rfl
  simp only [Tryz.ntmps65, List.size_toArray, List.length_cons, List.length_nil, Nat.reduceAdd, Nat.reduceSub, Array.replicate_succ, Array.replicate_zero, List.push_toArray, List.append_toArray, List.nil_append, List.cons_append]
  have HA := Lib.hid hA
  have HR := Lib.hid hR
  have HY := Lib.hid hY
  have H0 := Lib.hid h0
  have HF := Lib.hid hF
  clear hA hR hY h0 hF hJo hW
  gi_wp2
  gi_loopw [10] (fun i wr => ∃ k : Nat, k ≤ B ∧ i = .int .i64 k ∧ J (tells a k).length wr ∧ TabAt wr T gp go B S a o)
    (fun i _ => B - (intOf i).toNat)
  case atStart => exact ⟨0, Nat.zero_le _, rfl, H0.out, HR.out⟩
  case round =>
    obtain ⟨k, hk, rfl, hJ, hR⟩ := hrel
    by_cases hlt : k < B
    · have hc4 := hR.cp hlt
      cases e : a k with
      | none =>
        have J3 := Lib.hid hJ
        replace HR := Lib.hid hR
        rw [e] at hc4
        simp only [enc] at hc4
        clear hJ hR H0
        gi_wp2
        refine ⟨(fun _ h => by cases h), ?_⟩
        gi_wp2
        go_roundw
        case rel => exact ⟨k + 1, by omega, by go_num, by rw [tells_none e]; exact J3.out, HR.out⟩
        case measure => simp [intOf]; omega
      | some p =>
        rw [e] at hc4
        simp only [enc] at hc4
        have hb : ((p : Int) != -1) = true := by rw [bne_iff_ne]; omega
        obtain ⟨hlt2, hat⟩ := tells_at e hlt
        have hyk := HY.out _ hlt2 wr hJ
        rw [hat] at hyk
        obtain ⟨fn, tmps, assign, body, hy, hRd⟩ := hyk
        simp only [told2] at hy
        replace HR := Lib.hid hR
        have RD := Lib.hid hRd
        clear hR hJ H0 hRd hat hlt2
        gi_wp2_with fail
        refine RD.out.mono ?_
        rintro e' W3 ⟨rfl, hJ3, hk3⟩
        have J3 := Lib.hid hJ3
        have HR3 := Lib.hid (HR.out.touch hk3 HF.out.T HF.out.p HF.out.o)
        clear hJ3 hk3
        gi_wp2
        go_roundw
        case rel => exact ⟨k + 1, by omega, by go_num, by rw [tells_some e, List.length_append]; exact J3.out, HR3.out⟩
        case measure => simp [intOf]; omega
    · obtain rfl : k = B := by omega
      have J3 := Lib.hid hJ
      clear hJ hR H0
      gi_wp2
      go_end0
      exact ⟨⟨_, rfl⟩, J3.out⟩

end Tb
end Go.Proofs.YthapggobpfcmjaaGreat
