/- DeviceAgain: the loop. -/
import Derived.Test.YtmedpmhiebcdjaaDoorAgn
namespace Go.Proofs.YtmedpmhiebcdjaaDoor
open Go.RowKit

theorem AInv.same {w wr : World} {ba bb n k : Nat} (h : AInv w ba bb n k wr) : ∃ (d : Bool) (r x f : Nat),
    (Calls Tryd.prog 7 #[.pointer (some ⟨bb, 0, none⟩)] wr fun e w' => e = .returned (.int .i64 n) ∧ wr = w') ∧
    (Calls Tryd.prog 8 #[.pointer (some ⟨ba, 0, none⟩)] wr fun e w' => e = .returned (.bool d) ∧ wr = w') ∧
    (Calls Tryd.prog 8 #[.pointer (some ⟨bb, 0, none⟩)] wr fun e w' => e = .returned (.bool d) ∧ wr = w') ∧
    (Calls Tryd.prog 9 #[.pointer (some ⟨ba, 0, none⟩)] wr fun e w' => e = .returned (.agg #[.int .i64 r, .int .i64 x, .int .i64 f]) ∧ Touch Emp wr w') ∧
    (∀ wq, Touch Emp wr wq → Calls Tryd.prog 9 #[.pointer (some ⟨bb, 0, none⟩)] wq fun e w' => e = .returned (.agg #[.int .i64 r, .int .i64 x, .int .i64 f]) ∧ Touch Emp wq w') := by
  obtain ⟨s, ⟨F1, F2, h1, h2, -⟩, hS, hB⟩ := h
  have hs := sectors_any h2
  rw [hS.secs] at hs
  exact ⟨s.down, s.reads, s.writes, s.flushes, hs, down_any h1, down_any h2, counts_any h1, fun wq ht => counts_any (h2.touch ht fun _ _ h => h)⟩
theorem AInv.emp {w wr wq : World} {ba bb n k : Nat} (h : AInv w ba bb n k wr) (ht : Touch Emp wr wq) : AInv w ba bb n k wq := by
  obtain ⟨s, h1, h2, h3⟩ := h
  exact ⟨s, h1.emp ht, h2, h3.trans (ht.below.mono h3.size)⟩

theorem AHalf.below {w wr : World} {ba bb n k : Nat} {kind at_ data : Int} {keep : List Int} {S : ByteArray} (h : AHalf w ba bb n k kind at_ data keep S wr) : Below w.heap.size w wr := by
  obtain ⟨s, h1, h2, h3, h4⟩ := h
  exact h3
/-- A step that came in. -/
def StepIn (w : World) (a : Option Addr) (i : Nat) : Prop :=
  ∃ (g off : Nat) (kind at_ data size : Int) (odd : Bool) (kv : Value) (keep : List Int) (gk : Nat), a = some ⟨g, off, none⟩ ∧
    (w.cell? ⟨g, off + i * 6, none⟩ = some (.int .i64 kind) ∧ w.cell? ⟨g, off + i * 6 + 1, none⟩ = some (.int .i64 at_) ∧ w.cell? ⟨g, off + i * 6 + 2, none⟩ = some (.int .i64 data) ∧ w.cell? ⟨g, off + i * 6 + 3, none⟩ = some (.int .i64 size) ∧
      w.cell? ⟨g, off + i * 6 + 4, none⟩ = some (.bool odd) ∧ w.cell? ⟨g, off + i * 6 + 5, none⟩ = some kv) ∧
    IReads w kv keep gk ∧ (keep ≠ [] → gk < w.heap.size) ∧ keep.length * 8 ≤ 140737488351232 ∧ at_ ≤ 9223372036854775807

set_option maxRecDepth 100000 in
set_option maxHeartbeats 4000000 in
theorem again_walk (n0 : Int) (a1 : Option Addr) (n1 c1 : Nat) (w : World) (h1 : ∀ i, i < n1 → StepIn w a1 i) :
    Calls Tryd.prog 3 #[.int .i64 n0, .slice a1 n1 c1] w fun e w' => e = .returned (.bool true) ∧ Below w.heap.size w w' := by
  have H1 := Lib.hid h1
  clear h1
  obtain ⟨y, hy, hy3⟩ : ∃ y : Nat, bits .and .i64 n0 65535 = (y : Int) ∧ y < 65536 := ⟨(n0 % 65536).toNat, by rw [and_65535]; omega, by omega⟩
  obtain ⟨z, hz, hz2⟩ : ∃ z : Nat, (y : Int) % 40 = (z : Int) ∧ z < 40 := ⟨y % 40, by omega, by omega⟩
  obtain ⟨n, hn⟩ : ∃ n, n = z + 1 := ⟨_, rfl⟩
  have hzn : 1 + (z : Int) = (n : Int) := by omega
  have hn1 : 1 ≤ n := by omega
  have hn40 : n ≤ 40 := by omega
  clear hn hz2
  go_enter Tryd.func3, Tryd.ntmps3
  go_wp2_with fail
  refine (shown_any w).mono ?_
  rintro e w1 ⟨rfl, hT⟩
  go_wp2_with fail
  refine (new_has n w1 hn1 (by omega)).mono ?_
  rintro e w2 ⟨rfl, ht1, -, hq1⟩
  go_wp2_with fail
  refine (new_has n w2 hn1 (by omega)).mono ?_
  rintro e w3 ⟨rfl, ht2, -, hq2⟩
  have hD := two_new (w := w2) hq1 hq2 rfl ht2
  replace hD := hD.mono (Y := fun k => k < w.heap.size) fun k hk => Nat.lt_of_lt_of_le hk hT.size
  replace hT := (hT.trans (ht1.below.mono hT.size))
  replace hT := hT.trans (ht2.below.mono hT.size)
  have hK : AInv w (w1.heap.size + 2) (w2.heap.size + 2) n 0 w3 := ⟨DSt.new n, hD, new_small n, hT⟩
  have HK := Lib.hid hK
  clear hK hD hT ht1 ht2 hq1 hq2
  generalize w1.heap.size + 2 = ba at HK ⊢
  generalize w2.heap.size + 2 = bb at HK ⊢
  go_wp2_with fail
  go_loopw [10] (fun i wr => ∃ k : Nat, k ≤ n1 ∧ k ≤ 100 ∧ i = .int .i64 k ∧ AInv w ba bb n k wr) (fun i _ => n1 - (intOf i).toNat)
  case atStart => exact ⟨0, Nat.zero_le _, Nat.zero_le _, rfl, HK.out⟩
  case round =>
    obtain ⟨k, hk1, hk2, rfl, hI⟩ := hrel
    replace HK := Lib.hid hI
    clear hI
    by_cases hlt : k < n1
    · by_cases hlt2 : k < 100
      · obtain ⟨g, off, kind, at_, data, size, odd, kv, keep, gk, rfl, ⟨c0, c1', c2, c3, c4, c5⟩, hr, hg, hl, hat⟩ := H1.out k hlt
        have hgs := World.block_lt_of_cell? w _ c0
        have hB := HK.out.below
        have e0 := (hB.cell (p := ⟨g, off + k * 6, none⟩) hgs).trans c0
        have e1 := (hB.cell (p := ⟨g, off + k * 6 + 1, none⟩) hgs).trans c1'
        have e2 := (hB.cell (p := ⟨g, off + k * 6 + 2, none⟩) hgs).trans c2
        have e3 := (hB.cell (p := ⟨g, off + k * 6 + 3, none⟩) hgs).trans c3
        have e4 := (hB.cell (p := ⟨g, off + k * 6 + 4, none⟩) hgs).trans c4
        have e5 := (hB.cell (p := ⟨g, off + k * 6 + 5, none⟩) hgs).trans c5
        have C0 := Lib.hid c0
        have C1 := Lib.hid c1'
        have C2 := Lib.hid c2
        have C3 := Lib.hid c3
        have C4 := Lib.hid c4
        have C5 := Lib.hid c5
        have HR := Lib.hid hr
        have HG := Lib.hid hg
        have HL := Lib.hid hl
        have HAT := Lib.hid hat
        have HGS := Lib.hid hgs
        clear c0 c1' c2 c3 c4 c5 hr hg hl hat hgs hB
        go_wp2_with fail
        refine (HK.out.does1 hk2 kind at_ data size odd kv keep gk HR.out HG.out HL.out HAT.out).mono ?_
        rintro e w4 ⟨S, rfl, hI⟩
        have HH := Lib.hid hI
        have hB := hI.below
        replace e0 := (hB.cell (p := ⟨g, off + k * 6, none⟩) HGS.out).trans C0.out
        replace e1 := (hB.cell (p := ⟨g, off + k * 6 + 1, none⟩) HGS.out).trans C1.out
        replace e2 := (hB.cell (p := ⟨g, off + k * 6 + 2, none⟩) HGS.out).trans C2.out
        replace e3 := (hB.cell (p := ⟨g, off + k * 6 + 3, none⟩) HGS.out).trans C3.out
        replace e4 := (hB.cell (p := ⟨g, off + k * 6 + 4, none⟩) HGS.out).trans C4.out
        replace e5 := (hB.cell (p := ⟨g, off + k * 6 + 5, none⟩) HGS.out).trans C5.out
        clear hI hB
        go_wp2_with fail
        refine (HH.out.does2 hk2 size odd kv gk HR.out HG.out HL.out HAT.out).mono ?_
        rintro e w5 ⟨rfl, hI⟩
        replace HK := Lib.hid hI
        obtain ⟨d, r, x, f, hs1, hs2, hs3, hs4, hs5⟩ := hI.same
        have S1 := Lib.hid hs1
        have S2 := Lib.hid hs2
        have S3 := Lib.hid hs3
        have S4 := Lib.hid hs4
        have S5 := Lib.hid hs5
        clear hI hs1 hs2 hs3 hs4 hs5 e0 e1 e2 e3 e4 e5
        go_wp2_with fail
        refine S1.out.mono ?_
        rintro e w6 ⟨rfl, rfl⟩
        go_wp2_with fail
        refine S2.out.mono ?_
        rintro e w6 ⟨rfl, rfl⟩
        go_wp2_with fail
        refine S3.out.mono ?_
        rintro e w6 ⟨rfl, rfl⟩
        go_wp2_with fail
        refine S4.out.mono ?_
        rintro e w6 ⟨rfl, ht⟩
        have HT := Lib.hid ht
        clear ht
        go_wp2_with fail
        refine (S5.out w6 HT.out).mono ?_
        rintro e w7 ⟨rfl, ht⟩
        replace HK := Lib.hid ((HK.out.emp HT.out).emp ht)
        clear ht
        go_wp2
        go_roundw
        case rel => exact ⟨k + 1, by omega, by omega, by go_num, HK.out⟩
        case measure => simp [intOf]; omega
      · go_wp2
        go_ret
        exact ⟨rfl, HK.out.below⟩
    · go_wp2
      go_ret
      exact ⟨rfl, HK.out.below⟩

end Go.Proofs.YtmedpmhiebcdjaaDoor
