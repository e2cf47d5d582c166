/- OctetsBack: what was put is read. -/
import Derived.Test.YticgojkfkplfoaaMid
import Derived.Test.YticgojkfkplfoaaNum
namespace Go.Proofs.Yticgojkfkplfoaa
open Go.RowKit

/-- Numbers, each with a size, one behind the other. -/
def packL (K : List Int) (M : List UInt8) (n : Nat) : List (List UInt8) := ((K.zip M).take n).map fun x => Oct.le (x.2.toNat % 9) x.1.toNat
theorem packL_length (K : List Int) (M : List UInt8) (n : Nat) (h1 : n ≤ K.length) (h2 : n ≤ M.length) : (packL K M n).length = n := by
  simp [packL]; omega
theorem packL_at (K : List Int) (M : List UInt8) (n i : Nat) (hi : i < n) (h1 : n ≤ K.length) (h2 : n ≤ M.length) : (packL K M n)[i]? = some (Oct.le ((M[i]'(by omega)).toNat % 9) (K[i]'(by omega)).toNat) := by
  unfold packL
  have e : (K.zip M)[i]? = some (K[i]'(by omega), M[i]'(by omega)) := List.getElem?_zip_eq_some.2 ⟨List.getElem?_eq_getElem (by omega : i < K.length), List.getElem?_eq_getElem (by omega : i < M.length)⟩
  rw [List.getElem?_map, List.getElem?_take, if_pos hi, e]
  rfl
theorem packL_succ (K : List Int) (M : List UInt8) (n i : Nat) (hi : i < n) (h1 : n ≤ K.length) (h2 : n ≤ M.length) :
    ((packL K M n).take (i + 1)).flatten = ((packL K M n).take i).flatten ++ Oct.le ((M[i]'(by omega)).toNat % 9) (K[i]'(by omega)).toNat := by
  have h := packL_at K M n i hi h1 h2
  obtain ⟨hlt, he⟩ := List.getElem?_eq_some_iff.1 h
  rw [List.take_succ_eq_append_getElem hlt, he, List.flatten_append]; simp
theorem packL_drop (K : List Int) (M : List UInt8) (n i : Nat) (hi : i < n) (h1 : n ≤ K.length) (h2 : n ≤ M.length) :
    ((packL K M n).drop i).flatten = Oct.le ((M[i]'(by omega)).toNat % 9) (K[i]'(by omega)).toNat ++ ((packL K M n).drop (i + 1)).flatten := by
  have h := packL_at K M n i hi h1 h2
  obtain ⟨hlt, he⟩ := List.getElem?_eq_some_iff.1 h
  rw [List.drop_eq_getElem_cons hlt, he]; simp
theorem packL_len (K : List Int) (M : List UInt8) (n i : Nat) : (((packL K M n).take i).flatten).length ≤ 8 * i := by
  have : ∀ (L : List (Int × UInt8)), (L.map fun x => Oct.le (x.2.toNat % 9) x.1.toNat).flatten.length ≤ 8 * L.length := by
    intro L
    induction L with
    | nil => simp
    | cons x L ih => simp only [List.map_cons, List.flatten_cons, List.length_append, Oct.le_length, List.length_cons]; omega
  unfold packL
  rw [← List.map_take]
  refine Nat.le_trans (this _) ?_
  simp; omega
theorem min3_nat (a b : Nat) : ∃ n : Nat, n ≤ 50 ∧ n ≤ a ∧ n ≤ b ∧ ∀ W : World, (Builtin.min_ #[3, 3, 3] 3 #[.int .i64 (a : Int), .int .i64 (b : Int), .int .i64 50]).run Try.prog W = .ok (.int .i64 (n : Int)) W := by
  refine ⟨min (min a b) 50, by omega, by omega, by omega, fun W => ?_⟩
  simp [Builtin.min_, Builtin.min2]
  split <;> split <;> omega

/-- What holds at a round's head. -/
structure BckI (w : World) (vb : Value) (B : List UInt8) (g : Nat) (vk : Value) (K : List Int) (g1 : Nat) (vm : Value) (M : List UInt8) (g2 : Nat) (wr : World) : Prop where
  row : BV wr vb B g
  nums : NV .u64 wr vk K g1
  sizes : BV wr vm M g2
  tot : Below w.heap.size w wr
theorem BckI.drewN {w : World} {vb : Value} {B : List UInt8} {g : Nat} {vk : Value} {K : List Int} {g1 : Nat} {vm : Value} {M : List UInt8} {g2 : Nat} {wr : World} (h : BckI w vb B g vk K g1 vm M g2 wr) (n : Nat) : BckI w vb B g vk K g1 vm M g2 (wr.drewN n) :=
  ⟨h.row.drewN n, h.nums.drewN n, h.sizes.drewN n, Below_drewN h.tot n⟩

theorem cells2_keep {w3 : World} {a b : Addr} {x y : Value} (ha : w3.cell? a = some x) (hb : w3.cell? b = some y) {W : World} (h : Below w3.heap.size w3 W) : W.cell? a = some x ∧ W.cell? b = some y :=
  ⟨by rw [← ha]; exact h.cell (World.block_lt_of_cell? w3 _ ha), by rw [← hb]; exact h.cell (World.block_lt_of_cell? w3 _ hb)⟩

theorem mask_u64 (X s : Nat) (hX : X < 18446744073709551616) (hs : s < 8) : bits .and .u64 (X : Int) (IntKind.u64.wrap (IntKind.u64.wrap (2 ^ (8 * s)) - 1)) = ((Oct.unle (Oct.le s X) : Nat) : Int) := by
  have hp : 2 ^ (8 * s) ≤ 2 ^ 56 := Nat.pow_le_pow_right (by omega) (by omega)
  have hp0 : 0 < 2 ^ (8 * s) := Nat.pow_pos (by omega)
  have e1 : (IntKind.u64.wrap (IntKind.u64.wrap ((2 : Int) ^ (8 * s)) - 1)) = ((2 ^ (8 * s) - 1 : Nat) : Int) := by
    have e : ((2 : Int) ^ (8 * s)) = ((2 ^ (8 * s) : Nat) : Int) := by push_cast; rfl
    rw [e, IntKind.wrap_u64, IntKind.wrap_u64]; omega
  rw [e1, bits_and_u64_nat _ _ hX (by omega), Nat.and_two_pow_sub_one_eq_mod, Oct.unle_le, Nat.pow_mul]
theorem number_pre {size : Int} {k b : Nat} {l m r : List UInt8} {s : Bool} {g : Nat} {w : World} (h : Rdr w b l s g) (hk : min (max size 0) 8 = (k : Int)) (hl : l = m ++ r) (hm : m.length = k) :
    Calls Try.prog 15 #[.pointer (some ⟨b, 0, none⟩), .int .i64 size] w fun e w' => e = .returned (.int .u64 (Oct.unle m : Int)) ∧ Touch (fun k => k = b) w w' ∧ Rdr w' b r s g := by
  subst hl hm
  refine (number_ok size m.length b _ s g w h hk (by simp)).mono ?_
  rintro e w' ⟨h1, h2, h3⟩
  rw [List.take_left] at h1
  rw [List.drop_left] at h3
  exact ⟨h1, h2, h3⟩
/-- What holds at a round's head, as the bytes are read. -/
structure RckI (w : World) (b : Nat) (B : List UInt8) (gr : Nat) (vk : Value) (K : List Int) (g1 : Nat) (vm : Value) (M : List UInt8) (g2 : Nat) (wr : World) : Prop where
  rdr : Rdr wr b B false gr
  nums : NV .u64 wr vk K g1
  sizes : BV wr vm M g2
  tot : Below w.heap.size w wr
  nk : K ≠ [] → g1 ≠ b
  nm : M ≠ [] → g2 ≠ b
  high : w.heap.size ≤ b

set_option maxRecDepth 100000 in
set_option maxHeartbeats 2000000 in
theorem back_walk (a1 : Option Addr) (K : List Int) (c1 g1 : Nat) (a2 : Option Addr) (M : List UInt8) (c2 g2 : Nat) (w : World) (h1 : NV .u64 w (.slice a1 K.length c1) K g1) (h2 : BV w (.slice a2 M.length c2) M g2) (hK : K.length * 8 ≤ 140737488351232) (hM : M.length ≤ 140737488351232) (hwf : ∀ x ∈ K, (Lit.int .u64 x).wf = true) :
    Calls Try.prog 4 #[.slice a1 K.length c1, .slice a2 M.length c2] w fun e w' => e = .returned (.bool true) ∧ Below w.heap.size w w' := by
  obtain ⟨n, hn5, hnK, hnM, hmin⟩ := min3_nat K.length M.length
  have S := Lib.hid (shown_any w)
  have H1 := Lib.hid h1
  have H2 := Lib.hid h2
  have HWF := Lib.hid hwf
  clear h1 h2 hwf
  go_enter Try.func4, Try.ntmps4
  go_wp2_with fail
  refine S.out.mono ?_
  rintro e w1 ⟨rfl, hT⟩
  have I := Lib.hid (show BckI w (.slice none 0 0) [] 0 (.slice a1 K.length c1) K g1 (.slice a2 M.length c2) M g2 w1 from ⟨BV.nil _ 0, H1.out.below hT, H2.out.below hT, hT⟩)
  clear hT S H1 H2
  go_wp2_with fail
  go_loopw [6, 8] (fun vb i wr => ∃ (q g : Nat), q ≤ n ∧ i = .int .i64 q ∧ BckI w vb ((packL K M n).take q).flatten g (.slice a1 K.length c1) K g1 (.slice a2 M.length c2) M g2 wr) (fun _ i _ => n - (intOf i).toNat)
  case atStart => exact ⟨0, 0, Nat.zero_le _, rfl, by simpa using I.out⟩
  case round =>
    obtain ⟨q, g, hq, rfl, hI⟩ := hrel
    replace I := Lib.hid hI
    clear hI
    by_cases hlt : q < n
    · have HS := Lib.hid (packL_succ K M n q hlt hnK hnM)
      obtain ⟨ok, rfl, hck⟩ := I.out.nums.cell_at (show q < K.length by omega)
      obtain ⟨om, rfl, hcm⟩ := I.out.sizes.reads.cellk (show q < M.length by omega)
      obtain ⟨hX1, hX2⟩ := nat_of_u64 (HWF.out _ (List.getElem_mem (show q < K.length by omega)))
      have hlen := packL_len K M n q
      have hz1 : (M[q].toNat : Int) ≤ 255 := by have := M[q].toNat_lt; omega
      have hz2 : (0 : Int) ≤ (M[q].toNat : Int) := by omega
      obtain ⟨s, hs8, hs, hs9⟩ : ∃ s : Nat, s ≤ 8 ∧ ((M[q].toNat : Int).tmod 9) = (s : Int) ∧ M[q].toNat % 9 = s := ⟨M[q].toNat % 9, by omega, by rw [Int.tmod_eq_emod_of_nonneg hz2]; rfl, rfl⟩
      have hs3 : IntKind.i64.wrap (s : Int) = (s : Int) := by rw [IntKind.wrap_i64]; omega
      generalize K[q].toNat = X at hX1 hX2 HS
      rw [hX1] at hck
      clear hX1
      rw [hs9] at HS
      clear hs9
      generalize (M[q].toNat : Int) = z at hcm hs hz1 hz2
      have hq1 : (q : Int) < (K.length : Int) := by omega
      have hq2 : (q : Int) < (M.length : Int) := by omega
      generalize hB : ((packL K M n).take q).flatten = B at I HS hlen
      have HP := Lib.hid (put_any u6 B g (s : Int) s X wr.drew I.out.row.drew (by omega) (by omega) hX2)
      have HKF := Lib.hid (fun (W : World) (h : Below wr.heap.size wr W) => cells2_keep hck hcm h)
      have hB0 : Below wr.heap.size wr wr.drew := (Below.refl _ _).drew
      clear hB hck hcm
      go_wp2_with fail
      go_region_held3 (fun W => W.cell? ⟨g1, ok + q, none⟩ = some (.int .u64 (X : Int)) ∧ W.cell? ⟨g2, om + q, none⟩ = some (.int .u8 z)) (exact HKF.out _ (by assumption)) (first
        | (go_at_call 10; refine HP.out.mono ?_; rintro e w3 ⟨⟨vc, rfl, gc, hc, -⟩, hb⟩; have hB3 : Below wr.heap.size wr w3 := hB0.trans hb))
      have HB3 := Lib.hid hB3
      have HC := Lib.hid hc
      clear hB3 hB0 hb hc
      go_wp2
      go_roundw
      case rel => exact ⟨q + 1, gc, by omega, by go_num, by rw [HS.out]; exact ⟨HC.out, I.out.nums.below HB3.out, I.out.sizes.below HB3.out, I.out.tot.trans (HB3.out.mono I.out.tot.size)⟩⟩
      case measure => simp [intOf]; omega
    · obtain rfl : q = n := by omega
      have hlen := packL_len K M q q
      rw [List.take_of_length_le (show (packL K M q).length ≤ q by rw [packL_length K M q hnK hnM]; exact Nat.le_refl _)] at I hlen
      have hRD := Lib.hid (read_any u6 (packL K M q).flatten g wr I.out.row (by omega))
      go_wp2_with fail
      refine hRD.out.mono ?_
      rintro e w3 ⟨⟨b, gr, rfl, hr, hb1, -⟩, hb⟩
      have J := Lib.hid (show RckI w b ((packL K M q).drop 0).flatten gr (.slice a1 K.length c1) K g1 (.slice a2 M.length c2) M g2 w3 from
        ⟨by rw [List.drop_zero]; exact hr, I.out.nums.below hb, I.out.sizes.below hb, I.out.tot.trans (hb.mono I.out.tot.size), fun h => by have := I.out.nums.lt h; omega, fun h => by have := I.out.sizes.lt h; omega, Nat.le_trans I.out.tot.size hb1⟩)
      clear hr hb1 hb I hRD hlen
      go_wp2_with fail
      go_loopw [10, 11, 12] (fun i s_ x_ wx => ∃ (p : Nat), p ≤ q ∧ i = .int .i64 p ∧ RckI w b ((packL K M q).drop p).flatten gr (.slice a1 K.length c1) K g1 (.slice a2 M.length c2) M g2 wx) (fun i _ _ _ => q - (intOf i).toNat)
      case atStart => exact ⟨0, Nat.zero_le _, rfl, J.out⟩
      case round =>
        obtain ⟨p, hp, rfl, hJ⟩ := hrel
        replace J := Lib.hid hJ
        clear hJ
        by_cases hlt : p < q
        · have HS := Lib.hid (packL_drop K M q p hlt hnK hnM)
          obtain ⟨ok, rfl, hck⟩ := J.out.nums.cell_at (show p < K.length by omega)
          obtain ⟨om, rfl, hcm⟩ := J.out.sizes.reads.cellk (show p < M.length by omega)
          obtain ⟨hX1, hX2⟩ := nat_of_u64 (HWF.out _ (List.getElem_mem (show p < K.length by omega)))
          have hz1 : (M[p].toNat : Int) ≤ 255 := by have := M[p].toNat_lt; omega
          have hz2 : (0 : Int) ≤ (M[p].toNat : Int) := by omega
          obtain ⟨s, hs8, hs, hs9⟩ : ∃ s : Nat, s ≤ 8 ∧ ((M[p].toNat : Int) % 9) = (s : Int) ∧ M[p].toNat % 9 = s := ⟨M[p].toNat % 9, by omega, by omega, rfl⟩
          have hs3 : IntKind.i64.wrap (s : Int) = (s : Int) := by rw [IntKind.wrap_i64]; omega
          generalize K[p].toNat = X at hX1 hX2 HS
          rw [hX1] at hck
          clear hX1
          rw [hs9] at HS
          clear hs9
          generalize (M[p].toNat : Int) = z at hcm hs hz1 hz2
          have hq1 : (p : Int) < (K.length : Int) := by omega
          have hq2 : (p : Int) < (M.length : Int) := by omega
          have HN := Lib.hid (number_pre (size := (s : Int)) (k := s) J.out.rdr (by omega) HS.out (Oct.le_length s X))
          by_cases h8 : s < 8
          · have h8i : (s : Int) < 8 := by omega
            have hmk := mask_u64 X s hX2 h8
            generalize Oct.unle (Oct.le s X) = V at hmk HN
            go_wp2_with fail
            refine HN.out.mono ?_
            rintro e w4 ⟨rfl, ht, hr⟩
            have J2 := Lib.hid (show RckI w b ((packL K M q).drop (p + 1)).flatten gr (.slice (some ⟨g1, ok, none⟩) K.length c1) K g1 (.slice (some ⟨g2, om, none⟩) M.length c2) M g2 w4 from
              ⟨hr, J.out.nums.touch ht J.out.nk, J.out.sizes.touch ht J.out.nm, below_touch1 J.out.tot ht J.out.high (Nat.le_refl _), J.out.nk, J.out.nm, J.out.high⟩)
            have HFI := Lib.hid (fine_any b _ false gr w4 hr)
            clear ht hr HN hmk hck hcm
            go_wp2_with fail
            refine HFI.out.mono ?_
            rintro e w5 ⟨rfl, rfl⟩
            go_wp2
            go_roundw
            case rel => exact ⟨p + 1, by omega, by go_num, J2.out⟩
            case measure => simp [intOf]; omega
          · obtain rfl : s = 8 := by omega
            have hu : Oct.unle (Oct.le 8 X) = X := by rw [Oct.unle_le]; exact Nat.mod_eq_of_lt hX2
            rw [hu] at HN
            clear hu
            have h8i : ¬ ((8 : Nat) : Int) < 8 := by decide
            go_wp2_with fail
            refine HN.out.mono ?_
            rintro e w4 ⟨rfl, ht, hr⟩
            have J2 := Lib.hid (show RckI w b ((packL K M q).drop (p + 1)).flatten gr (.slice (some ⟨g1, ok, none⟩) K.length c1) K g1 (.slice (some ⟨g2, om, none⟩) M.length c2) M g2 w4 from
              ⟨hr, J.out.nums.touch ht J.out.nk, J.out.sizes.touch ht J.out.nm, below_touch1 J.out.tot ht J.out.high (Nat.le_refl _), J.out.nk, J.out.nm, J.out.high⟩)
            have HFI := Lib.hid (fine_any b _ false gr w4 hr)
            clear ht hr HN hck hcm
            go_wp2_with fail
            refine HFI.out.mono ?_
            rintro e w5 ⟨rfl, rfl⟩
            go_wp2
            go_roundw
            case rel => exact ⟨p + 1, by omega, by go_num, J2.out⟩
            case measure => simp [intOf]; omega
        · obtain rfl : p = q := by omega
          have HL := Lib.hid (left_any b _ false gr wr J.out.rdr)
          rw [List.drop_eq_nil_of_le (show (packL K M p).length ≤ p by rw [packL_length K M p hnK hnM]; exact Nat.le_refl _)] at HL
          go_wp2_with fail
          refine HL.out.mono ?_
          rintro e w4 ⟨rfl, rfl⟩
          go_wp2
          go_ret
          exact ⟨rfl, J.out.tot⟩

end Go.Proofs.Yticgojkfkplfoaa
