/- OctetsTells: numbers and fields are what the document says. -/
import Derived.Test.YticgojkfkplfoaaMid
import Derived.Test.YticgojkfkplfoaaRfo
import Derived.Test.YticgojkfkplfoaaStp
namespace Go.Proofs.Yticgojkfkplfoaa
open Go.RowKit

theorem conv3_keep {w3 : World} {v1 v2 v3 : Value} {l1 l2 l3 : List UInt8} {g1 g2 g3 : Nat} (h1 : BV w3 v1 l1 g1) (h2 : BV w3 v2 l2 g2) (h3 : BV w3 v3 l3 g3) {W : World} (hb : Below w3.heap.size w3 W) :
    (convert 22 9 v1).run Try.prog W = .ok (.string ⟨l1.toArray⟩) W ∧ (convert 22 9 v2).run Try.prog W = .ok (.string ⟨l2.toArray⟩) W ∧ (convert 22 9 v3).run Try.prog W = .ok (.string ⟨l3.toArray⟩) W :=
  ⟨run_convBytes (h1.below hb).reads, run_convBytes (h2.below hb).reads, run_convBytes (h3.below hb).reads⟩

/-- What a region asks of the worlds that it passes through may be made narrower on the way. -/
theorem wpAnyH_weaken {P : Program} {md : Region.Mode} {ops : Array Oper} {Q : Exit → Act → World → Prop} {S S' : World → Prop} (h : ∀ W, S' W → S W) :
    ∀ (fuel : Nat) (listed : Array Bool) (a : Act) (w : World), wpAnyH P md ops Q S' fuel listed a w → wpAnyH P md ops Q S fuel listed a w
  | 0, _, _, _, hh => hh
  | fuel + 1, _, _, _, hh => ⟨hh.1, fun i hi => wpOp_mono (fun a' w' h' => ⟨h _ h'.1, wpAnyH_weaken h fuel _ a' w' h'.2⟩) (hh.2 i hi)⟩

set_option maxRecDepth 100000 in
set_option maxHeartbeats 2000000 in
theorem tells_walk (a : Option Addr) (l : List UInt8) (cap g : Nat) (n0 : Int) (X : Nat) (f0 : Int) (w : World) (h : BV w (.slice a l.length cap) l g) (hX : X < 18446744073709551616) :
    Calls Try.prog 3 #[.slice a l.length cap, .int .i64 n0, .int .u64 (X : Int), .int .i64 f0] w fun e w' => e = .returned (.bool true) ∧ Below w.heap.size w w' := by
  obtain ⟨k, hk1, hk2, hmin⟩ : ∃ n : Nat, n ≤ 200 ∧ n ≤ l.length ∧ (if (200 : Int) < (l.length : Int) then (200 : Int) else (l.length : Int)) = (n : Int) := ⟨min l.length 200, by omega, by omega, min_nat l.length 200⟩
  obtain ⟨s, hs8, hs⟩ : ∃ (s : Nat), s ≤ 8 ∧ min (max n0 0) 8 = (s : Int) := ⟨(min (max n0 0) 8).toNat, by omega, by omega⟩
  obtain ⟨f, hf4, hf⟩ : ∃ (f : Nat), f ≤ 4096 ∧ min (max f0 0) 4096 = (f : Int) := ⟨(min (max f0 0) 4096).toNat, by omega, by omega⟩
  obtain ⟨Y, hY, hY1⟩ : ∃ Y : Nat, Y < 18446744073709551616 ∧ IntKind.u64.wrap ((X : Int) + 1) = (Y : Int) := ⟨(X + 1) % 18446744073709551616, by omega, by rw [IntKind.wrap_u64]; omega⟩
  have hcap : k ≤ cap := by obtain ⟨_, c, e, h1, _⟩ := h.form; cases e; omega
  have S := Lib.hid (shown_any w)
  have H := Lib.hid h
  have HS := Lib.hid hs
  have HF := Lib.hid hf
  clear h hs hf
  have hmk := fun W => run_makeRoom W 300 (by omega) (by omega)
  rw [show (300 : Int).toNat = 300 from rfl] at hmk
  go_enter Try.func3, Try.ntmps3
  go_wp2_with fail
  refine S.out.mono ?_
  rintro e w1 ⟨rfl, hT⟩
  replace H := Lib.hid ((H.out.below hT).take k hk2 cap hcap (Nat.le_refl _))
  have HT := Lib.hid hT
  clear hT S
  have hlk : (l.take k).length = k := by rw [List.length_take]; omega
  generalize l.take k = L at H hlk
  have HLK := Lib.hid hlk
  have hl3 : ([] : List UInt8).length + L.length ≤ 4294967296 := by rw [hlk]; simp; omega
  clear hlk
  have hu := fun W => run_upto W a l.length cap k (by omega)
  have HA := Lib.hid ((H.out.alloc (.cells (rowA (zerosL 300)) 5)).drew)
  have HO := Lib.hid (own_room w1 300 (by omega)).drew
  have HB := Lib.hid ((Below.refl w1.heap.size w1).alloc (Nat.le_refl _) (.cells (rowA (zerosL 300)) 5)).drew
  generalize zerosL 300 = Z at hmk HA HO HB
  go_upto_region 2 with fail
  go_cut [0] (fun vb wx => ∃ (ab : Option Addr) (cb gb : Nat), vb = .slice ab k cb ∧ BV wx (.slice ab k cb) L gb ∧ Below w1.heap.size w1 wx)
  case first =>
    go_region_law (refine step_append_b (by rfl) _ _ (by rfl) w1.heap.size (.slice (some ⟨w1.heap.size, 0, none⟩) 0 300) [] (by rfl) HO.out _ L g (by rfl) HA.out hl3 (by simp) ?_; intro v1 w2 hown hgrow; have HO2 := Lib.hid hown; have HG := Lib.hid hgrow; clear hown hgrow)
    all_goals
      go_wp2_with fail
      go_meet
      obtain ⟨gb, hvb, -⟩ := BV.of_own HO2.out
      obtain ⟨ab, cb, e, -⟩ := hvb.form
      rw [List.nil_append] at e hvb
      rw [HLK.out] at e
      subst e
      exact ⟨ab, cb, gb, rfl, hvb, HB.out.grown HG.out (by simp) (by intro k hk; simp [Value.ownBlock] at hk; omega)⟩
  case rest =>
    obtain ⟨ab, cb, gb, rfl, hvb, hb⟩ := hcut
    have kw := run_convBytes hvb.reads
    have R := Lib.hid hvb
    replace HT := Lib.hid (HT.out.trans (hb.mono HT.out.size))
    have hl4 : L.length + 8 ≤ 4294967296 := by rw [HLK.out]; omega
    clear hvb hb H HA HO HB hu hmk
    go_wp2_with fail
    refine (put_any _ L gb n0 s X wc R.out hl4 HS.out hX).mono ?_
    rintro e w3 ⟨⟨vx, rfl, gx, hx, -⟩, hb⟩
    have XX := Lib.hid hx
    replace R := Lib.hid (R.out.below hb)
    replace HT := Lib.hid (HT.out.trans (hb.mono HT.out.size))
    clear hx hb kw
    go_wp2_with fail
    refine (put_any _ L gb n0 s Y w3 R.out hl4 HS.out hY).mono ?_
    rintro e w4 ⟨⟨vy, rfl, gy, hy, -⟩, hb⟩
    have YY := Lib.hid hy
    replace XX := Lib.hid (XX.out.below hb)
    replace R := Lib.hid (R.out.below hb)
    replace HT := Lib.hid (HT.out.trans (hb.mono HT.out.size))
    clear hy hb
    go_wp2_with fail
    refine (field_any _ L gb f0 f w4 R.out HF.out).mono ?_
    rintro e w5 ⟨rfl, hw⟩
    have FF := Lib.hid (field_fresh w4 L f)
    have NF := Lib.hid (show L ≠ [] → ¬ gb = w4.heap.size from fun h => by have := R.out.lt h; omega)
    have NG := Lib.hid HT.out.size
    replace YY := Lib.hid (YY.out.alloc (.cells (rowA (Oct.fieldL L f)) 5))
    replace XX := Lib.hid (XX.out.alloc (.cells (rowA (Oct.fieldL L f)) 5))
    replace R := Lib.hid (R.out.alloc (.cells (rowA (Oct.fieldL L f)) 5))
    replace HT := Lib.hid (HT.out.alloc HT.out.size (.cells (rowA (Oct.fieldL L f)) 5))
    have RF := Lib.hid (heap_alloc_new w4 (.cells (rowA (Oct.fieldL L f)) 5))
    rw [hw] at FF XX YY R HT RF
    clear hw
    generalize w4.heap.size = gf at FF RF NF NG ⊢
    have HKF := Lib.hid (fun (W : World) (h : Below w5.heap.size w5 W) => conv3_keep XX.out YY.out FF.out h)
    have P1 := Lib.hid (fun (W : World) (h : Below w5.heap.size w5 W) => refPut_any (.slice ab k cb) L gb n0 s X W (R.out.below h) hl4 HS.out hX)
    have P2 := Lib.hid (fun (W : World) (h : Below w5.heap.size w5 W) => refPut_any (.slice ab k cb) L gb n0 s Y W (R.out.below h) hl4 HS.out hY)
    have P3 := Lib.hid (fun (W : World) (h : Below w5.heap.size w5 W) => refField_any (.slice ab k cb) L gb f0 f W (R.out.below h) HF.out)
    clear XX YY FF
    generalize L ++ Oct.le s X = XL at HKF P1
    generalize L ++ Oct.le s Y = YL at HKF P2
    have hfl : (Oct.fieldL L f).length = f := Oct.fieldL_length L f
    generalize Oct.fieldL L f = FL at HKF P3 RF hfl
    have HFL := Lib.hid hfl
    clear hfl
    have hB5 : Below w5.heap.size w5 w5.drew := (Below.refl _ _).drew
    go_wp2_with fail
    have kx := fun (W : World) (h : Below w5.heap.size w5 W) => (HKF.out W h).1
    refine wp_region_held_drew (S := fun W => Below w5.heap.size w5 W) (by kernel_rfl) (hB5) (fun hHeld => ?_)
    refine wpAnyH_take (i := 0) (oi := { dst := some 38, op := Go.Op.move (Go.Operand.tmp 11), type := 22, pos := "law.go:31", after := #[], guard := none }) (v := ?_) rfl (by kernel_rfl) (by kernel_rfl) (by kernel_rfl) (fun _ _ _ h => h) (Or.inl ⟨by rfl, ?_⟩) (by assumption) ?_
    rotate_left
    · intro W hSW
      go_simp
      try with_reducible rfl
    try simp only [Act.put, List.setIfInBounds_toArray, List.set_cons_zero, List.set_cons_succ]
    refine wpAnyH_take (i := 1) (oi := { dst := some 39, op := Go.Op.convert 22 9 (Go.Operand.tmp 38), type := 9, pos := "law.go:31", after := #[{ on := 0, ground := Go.Ground.data }], guard := none }) (v := ?_) rfl (by kernel_rfl) (by kernel_rfl) (by kernel_rfl) (fun _ _ _ h => h) (Or.inl ⟨by rfl, ?_⟩) (by assumption) ?_
    rotate_left
    · intro W hSW
      have e0 := kx W hSW
      go_simp
      try with_reducible rfl
    try simp only [Act.put, List.setIfInBounds_toArray, List.set_cons_zero, List.set_cons_succ]
    refine wpAnyH_take (i := 2) (oi := { dst := some 40, op := Go.Op.move (Go.Operand.tmp 0), type := 22, pos := "law.go:31", after := #[], guard := none }) (v := ?_) rfl (by kernel_rfl) (by kernel_rfl) (by kernel_rfl) (fun _ _ _ h => h) (Or.inl ⟨by rfl, ?_⟩) (by assumption) ?_
    rotate_left
    · intro W hSW
      go_simp
      try with_reducible rfl
    try simp only [Act.put, List.setIfInBounds_toArray, List.set_cons_zero, List.set_cons_succ]
    refine wpAnyH_take (i := 3) (oi := { dst := some 41, op := Go.Op.move (Go.Operand.tmp 1), type := 3, pos := "law.go:31", after := #[], guard := none }) (v := ?_) rfl (by kernel_rfl) (by kernel_rfl) (by kernel_rfl) (fun _ _ _ h => h) (Or.inl ⟨by rfl, ?_⟩) (by assumption) ?_
    rotate_left
    · intro W hSW
      go_simp
      try with_reducible rfl
    try simp only [Act.put, List.setIfInBounds_toArray, List.set_cons_zero, List.set_cons_succ]
    refine wpAnyH_take (i := 4) (oi := { dst := some 42, op := Go.Op.move (Go.Operand.tmp 2), type := 23, pos := "law.go:31", after := #[], guard := none }) (v := ?_) rfl (by kernel_rfl) (by kernel_rfl) (by kernel_rfl) (fun _ _ _ h => h) (Or.inl ⟨by rfl, ?_⟩) (by assumption) ?_
    rotate_left
    · intro W hSW
      go_simp
      try with_reducible rfl
    try simp only [Act.put, List.setIfInBounds_toArray, List.set_cons_zero, List.set_cons_succ]
    refine wpAnyH_ready (rs := [5]) (by kernel_rfl) (by simp) ?_
    refine AllReadyH.cons (o := { dst := some 43, op := Go.Op.call { callee := Go.Callee.value (Go.Operand.func 12), args := #[Go.Operand.tmp 40, Go.Operand.tmp 41, Go.Operand.tmp 42], argTypes := #[22, 3, 23] }, type := 22, pos := "law.go:31", after := #[{ on := 2, ground := Go.Ground.data }, { on := 3, ground := Go.Ground.data }, { on := 4, ground := Go.Ground.data }], guard := none }) rfl (fun K hK => ?_) AllReadyH.nil
    go_simp
    go_at_call 12
    refine (P1.out _ hB5).mono ?_
    rintro e w6 ⟨⟨v6, rfl, g6, hv6, -⟩, hb⟩
    have hB6 : Below w5.heap.size w5 w6 := hB5.trans hb
    have k6 := fun (W : World) (h : Below w6.heap.size w6 W) => run_convBytes (hv6.below h).reads
    clear hb
    refine hK.out _ _ (hB6) (fun hHeld => ?_)
    clear hK K
    try simp only [Act.put, List.setIfInBounds_toArray, List.set_cons_zero, List.set_cons_succ]
    refine wpAnyH_weaken (S' := fun W => Below w6.heap.size w6 W) (fun W h => hB6.trans (h.mono hB6.size)) _ _ _ _ ?_
    replace hHeld := Below.refl w6.heap.size w6
    have ky := fun (W : World) (h : Below w6.heap.size w6 W) => (HKF.out W (hB6.trans (h.mono hB6.size))).2.1
    refine wpAnyH_take (i := 6) (oi := { dst := some 44, op := Go.Op.convert 22 9 (Go.Operand.tmp 43), type := 9, pos := "law.go:31", after := #[{ on := 5, ground := Go.Ground.data }], guard := none }) (v := ?_) rfl (by kernel_rfl) (by kernel_rfl) (by kernel_rfl) (fun _ _ _ h => h) (Or.inl ⟨by rfl, ?_⟩) (by assumption) ?_
    rotate_left
    · intro W hSW
      have e0 := k6 W hSW
      go_simp
      try with_reducible rfl
    try simp only [Act.put, List.setIfInBounds_toArray, List.set_cons_zero, List.set_cons_succ]
    refine wpAnyH_take (i := 7) (oi := { dst := some 45, op := Go.Op.binOp Go.BinOp.eql 9 (Go.Operand.tmp 39) (Go.Operand.tmp 44) 9, type := 4, pos := "law.go:31", after := #[{ on := 1, ground := Go.Ground.data }, { on := 6, ground := Go.Ground.data }], guard := none }) (v := ?_) rfl (by kernel_rfl) (by kernel_rfl) (by kernel_rfl) (fun _ _ _ h => h) (Or.inl ⟨by rfl, ?_⟩) (by assumption) ?_
    rotate_left
    · intro W hSW
      go_simp
      try with_reducible rfl
    try simp only [Act.put, List.setIfInBounds_toArray, List.set_cons_zero, List.set_cons_succ]
    refine wpAnyH_take (i := 8) (oi := { dst := some 46, op := Go.Op.move (Go.Operand.tmp 45), type := 4, pos := "law.go:31", after := #[{ on := 7, ground := Go.Ground.data }, { on := 5, ground := Go.Ground.chain }], guard := none }) (v := ?_) rfl (by kernel_rfl) (by kernel_rfl) (by kernel_rfl) (fun _ _ _ h => h) (Or.inl ⟨by rfl, ?_⟩) (by assumption) ?_
    rotate_left
    · intro W hSW
      go_simp
      try with_reducible rfl
    try simp only [Act.put, List.setIfInBounds_toArray, List.set_cons_zero, List.set_cons_succ]
    refine wpAnyH_take (i := 9) (oi := { dst := some 47, op := Go.Op.move (Go.Operand.tmp 12), type := 22, pos := "law.go:31", after := #[{ on := 8, ground := Go.Ground.guard }], guard := some (8, true) }) (v := ?_) rfl (by kernel_rfl) (by kernel_rfl) (by kernel_rfl) (fun _ _ _ h => h) (Or.inl ⟨by rfl, ?_⟩) (by assumption) ?_
    rotate_left
    · intro W hSW
      go_simp
      try with_reducible rfl
    try simp only [Act.put, List.setIfInBounds_toArray, List.set_cons_zero, List.set_cons_succ]
    refine wpAnyH_take (i := 10) (oi := { dst := some 48, op := Go.Op.convert 22 9 (Go.Operand.tmp 47), type := 9, pos := "law.go:31", after := #[{ on := 9, ground := Go.Ground.data }, { on := 8, ground := Go.Ground.guard }], guard := some (8, true) }) (v := ?_) rfl (by kernel_rfl) (by kernel_rfl) (by kernel_rfl) (fun _ _ _ h => h) (Or.inl ⟨by rfl, ?_⟩) (by assumption) ?_
    rotate_left
    · intro W hSW
      have e0 := ky W hSW
      go_simp
      try with_reducible rfl
    try simp only [Act.put, List.setIfInBounds_toArray, List.set_cons_zero, List.set_cons_succ]
    refine wpAnyH_take (i := 11) (oi := { dst := some 49, op := Go.Op.move (Go.Operand.tmp 0), type := 22, pos := "law.go:31", after := #[{ on := 8, ground := Go.Ground.guard }], guard := some (8, true) }) (v := ?_) rfl (by kernel_rfl) (by kernel_rfl) (by kernel_rfl) (fun _ _ _ h => h) (Or.inl ⟨by rfl, ?_⟩) (by assumption) ?_
    rotate_left
    · intro W hSW
      go_simp
      try with_reducible rfl
    try simp only [Act.put, List.setIfInBounds_toArray, List.set_cons_zero, List.set_cons_succ]
    refine wpAnyH_take (i := 12) (oi := { dst := some 50, op := Go.Op.move (Go.Operand.tmp 1), type := 3, pos := "law.go:31", after := #[{ on := 8, ground := Go.Ground.guard }], guard := some (8, true) }) (v := ?_) rfl (by kernel_rfl) (by kernel_rfl) (by kernel_rfl) (fun _ _ _ h => h) (Or.inl ⟨by rfl, ?_⟩) (by assumption) ?_
    rotate_left
    · intro W hSW
      go_simp
      try with_reducible rfl
    try simp only [Act.put, List.setIfInBounds_toArray, List.set_cons_zero, List.set_cons_succ]
    refine wpAnyH_take (i := 13) (oi := { dst := some 51, op := Go.Op.move (Go.Operand.tmp 2), type := 23, pos := "law.go:31", after := #[{ on := 8, ground := Go.Ground.guard }], guard := some (8, true) }) (v := ?_) rfl (by kernel_rfl) (by kernel_rfl) (by kernel_rfl) (fun _ _ _ h => h) (Or.inl ⟨by rfl, ?_⟩) (by assumption) ?_
    rotate_left
    · intro W hSW
      go_simp
      try with_reducible rfl
    try simp only [Act.put, List.setIfInBounds_toArray, List.set_cons_zero, List.set_cons_succ]
    refine wpAnyH_take (i := 14) (oi := { dst := some 52, op := Go.Op.binOp Go.BinOp.add 23 (Go.Operand.tmp 51) (Go.Operand.const (Go.Value.int Go.IntKind.u64 1)) 23, type := 23, pos := "law.go:31", after := #[{ on := 13, ground := Go.Ground.data }, { on := 8, ground := Go.Ground.guard }], guard := some (8, true) }) (v := ?_) rfl (by kernel_rfl) (by kernel_rfl) (by kernel_rfl) (fun _ _ _ h => h) (Or.inl ⟨by rfl, ?_⟩) (by assumption) ?_
    rotate_left
    · intro W hSW
      go_simp
      try with_reducible rfl
    try simp only [Act.put, List.setIfInBounds_toArray, List.set_cons_zero, List.set_cons_succ]
    refine wpAnyH_ready (rs := [15]) (by kernel_rfl) (by simp) ?_
    refine AllReadyH.cons (o := { dst := some 53, op := Go.Op.call { callee := Go.Callee.value (Go.Operand.func 12), args := #[Go.Operand.tmp 49, Go.Operand.tmp 50, Go.Operand.tmp 52], argTypes := #[22, 3, 23] }, type := 22, pos := "law.go:31", after := #[{ on := 11, ground := Go.Ground.data }, { on := 12, ground := Go.Ground.data }, { on := 14, ground := Go.Ground.data }, { on := 8, ground := Go.Ground.chain }, { on := 8, ground := Go.Ground.guard }], guard := some (8, true) }) rfl (fun K hK => ?_) AllReadyH.nil
    go_simp
    go_at_call 12
    refine (P2.out _ hB6).mono ?_
    rintro e w7 ⟨⟨v7, rfl, g7, hv7, -⟩, hb⟩
    have hB7 : Below w5.heap.size w5 w7 := hB6.trans (hb.mono hB6.size)
    have hC7 : Below w6.heap.size w6 w7 := hb
    have k7 := fun (W : World) (h : Below w7.heap.size w7 W) => run_convBytes (hv7.below h).reads
    clear hb
    refine hK.out _ _ (hC7) (fun hHeld => ?_)
    clear hK K
    try simp only [Act.put, List.setIfInBounds_toArray, List.set_cons_zero, List.set_cons_succ]
    refine wpAnyH_weaken (S' := fun W => Below w7.heap.size w7 W) (fun W h => hC7.trans (h.mono hC7.size)) _ _ _ _ ?_
    replace hHeld := Below.refl w7.heap.size w7
    have kf := fun (W : World) (h : Below w7.heap.size w7 W) => (HKF.out W (hB7.trans (h.mono hB7.size))).2.2
    refine wpAnyH_take (i := 16) (oi := { dst := some 54, op := Go.Op.convert 22 9 (Go.Operand.tmp 53), type := 9, pos := "law.go:31", after := #[{ on := 15, ground := Go.Ground.data }, { on := 8, ground := Go.Ground.guard }], guard := some (8, true) }) (v := ?_) rfl (by kernel_rfl) (by kernel_rfl) (by kernel_rfl) (fun _ _ _ h => h) (Or.inl ⟨by rfl, ?_⟩) (by assumption) ?_
    rotate_left
    · intro W hSW
      have e0 := k7 W hSW
      go_simp
      try with_reducible rfl
    try simp only [Act.put, List.setIfInBounds_toArray, List.set_cons_zero, List.set_cons_succ]
    refine wpAnyH_take (i := 17) (oi := { dst := some 55, op := Go.Op.binOp Go.BinOp.eql 9 (Go.Operand.tmp 48) (Go.Operand.tmp 54) 9, type := 4, pos := "law.go:31", after := #[{ on := 10, ground := Go.Ground.data }, { on := 16, ground := Go.Ground.data }, { on := 8, ground := Go.Ground.guard }], guard := some (8, true) }) (v := ?_) rfl (by kernel_rfl) (by kernel_rfl) (by kernel_rfl) (fun _ _ _ h => h) (Or.inl ⟨by rfl, ?_⟩) (by assumption) ?_
    rotate_left
    · intro W hSW
      go_simp
      try with_reducible rfl
    try simp only [Act.put, List.setIfInBounds_toArray, List.set_cons_zero, List.set_cons_succ]
    refine wpAnyH_take (i := 18) (oi := { dst := some 56, op := Go.Op.pick (Go.Operand.tmp 46) (Go.Operand.tmp 55) (Go.Operand.const (Go.Value.bool false)), type := 4, pos := "law.go:31", after := #[{ on := 8, ground := Go.Ground.data }, { on := 17, ground := Go.Ground.data }], guard := none }) (v := ?_) rfl (by kernel_rfl) (by kernel_rfl) (by kernel_rfl) (fun _ _ _ h => h) (Or.inl ⟨by rfl, ?_⟩) (by assumption) ?_
    rotate_left
    · intro W hSW
      go_simp
      try with_reducible rfl
    try simp only [Act.put, List.setIfInBounds_toArray, List.set_cons_zero, List.set_cons_succ]
    refine wpAnyH_take (i := 19) (oi := { dst := some 57, op := Go.Op.move (Go.Operand.tmp 56), type := 4, pos := "law.go:31", after := #[{ on := 18, ground := Go.Ground.data }, { on := 15, ground := Go.Ground.chain }], guard := none }) (v := ?_) rfl (by kernel_rfl) (by kernel_rfl) (by kernel_rfl) (fun _ _ _ h => h) (Or.inl ⟨by rfl, ?_⟩) (by assumption) ?_
    rotate_left
    · intro W hSW
      go_simp
      try with_reducible rfl
    try simp only [Act.put, List.setIfInBounds_toArray, List.set_cons_zero, List.set_cons_succ]
    refine wpAnyH_take (i := 20) (oi := { dst := some 58, op := Go.Op.move (Go.Operand.tmp 13), type := 22, pos := "law.go:31", after := #[{ on := 19, ground := Go.Ground.guard }], guard := some (19, true) }) (v := ?_) rfl (by kernel_rfl) (by kernel_rfl) (by kernel_rfl) (fun _ _ _ h => h) (Or.inl ⟨by rfl, ?_⟩) (by assumption) ?_
    rotate_left
    · intro W hSW
      go_simp
      try with_reducible rfl
    try simp only [Act.put, List.setIfInBounds_toArray, List.set_cons_zero, List.set_cons_succ]
    refine wpAnyH_take (i := 21) (oi := { dst := some 59, op := Go.Op.convert 22 9 (Go.Operand.tmp 58), type := 9, pos := "law.go:31", after := #[{ on := 20, ground := Go.Ground.data }, { on := 19, ground := Go.Ground.guard }], guard := some (19, true) }) (v := ?_) rfl (by kernel_rfl) (by kernel_rfl) (by kernel_rfl) (fun _ _ _ h => h) (Or.inl ⟨by rfl, ?_⟩) (by assumption) ?_
    rotate_left
    · intro W hSW
      have e0 := kf W hSW
      go_simp
      try with_reducible rfl
    try simp only [Act.put, List.setIfInBounds_toArray, List.set_cons_zero, List.set_cons_succ]
    refine wpAnyH_take (i := 22) (oi := { dst := some 60, op := Go.Op.move (Go.Operand.tmp 0), type := 22, pos := "law.go:31", after := #[{ on := 19, ground := Go.Ground.guard }], guard := some (19, true) }) (v := ?_) rfl (by kernel_rfl) (by kernel_rfl) (by kernel_rfl) (fun _ _ _ h => h) (Or.inl ⟨by rfl, ?_⟩) (by assumption) ?_
    rotate_left
    · intro W hSW
      go_simp
      try with_reducible rfl
    try simp only [Act.put, List.setIfInBounds_toArray, List.set_cons_zero, List.set_cons_succ]
    refine wpAnyH_take (i := 23) (oi := { dst := some 61, op := Go.Op.move (Go.Operand.tmp 3), type := 3, pos := "law.go:31", after := #[{ on := 19, ground := Go.Ground.guard }], guard := some (19, true) }) (v := ?_) rfl (by kernel_rfl) (by kernel_rfl) (by kernel_rfl) (fun _ _ _ h => h) (Or.inl ⟨by rfl, ?_⟩) (by assumption) ?_
    rotate_left
    · intro W hSW
      go_simp
      try with_reducible rfl
    try simp only [Act.put, List.setIfInBounds_toArray, List.set_cons_zero, List.set_cons_succ]
    refine wpAnyH_ready (rs := [24]) (by kernel_rfl) (by simp) ?_
    refine AllReadyH.cons (o := { dst := some 62, op := Go.Op.call { callee := Go.Callee.value (Go.Operand.func 13), args := #[Go.Operand.tmp 60, Go.Operand.tmp 61], argTypes := #[22, 3] }, type := 22, pos := "law.go:31", after := #[{ on := 22, ground := Go.Ground.data }, { on := 23, ground := Go.Ground.data }, { on := 19, ground := Go.Ground.chain }, { on := 19, ground := Go.Ground.guard }], guard := some (19, true) }) rfl (fun K hK => ?_) AllReadyH.nil
    go_simp
    go_at_call 13
    refine (P3.out _ hB7).mono ?_
    rintro e w8 ⟨⟨v8, rfl, g8, hv8, -⟩, hb⟩
    have hB8 : Below w5.heap.size w5 w8 := hB7.trans (hb.mono hB7.size)
    have hC8 : Below w7.heap.size w7 w8 := hb
    have k8 := fun (W : World) (h : Below w8.heap.size w8 W) => run_convBytes (hv8.below h).reads
    clear hb
    refine hK.out _ _ (hC8) (fun hHeld => ?_)
    clear hK K
    try simp only [Act.put, List.setIfInBounds_toArray, List.set_cons_zero, List.set_cons_succ]
    refine wpAnyH_weaken (S' := fun W => Below w8.heap.size w8 W) (fun W h => hC8.trans (h.mono hC8.size)) _ _ _ _ ?_
    replace hHeld := Below.refl w8.heap.size w8
    refine wpAnyH_take (i := 25) (oi := { dst := some 63, op := Go.Op.convert 22 9 (Go.Operand.tmp 62), type := 9, pos := "law.go:31", after := #[{ on := 24, ground := Go.Ground.data }, { on := 19, ground := Go.Ground.guard }], guard := some (19, true) }) (v := ?_) rfl (by kernel_rfl) (by kernel_rfl) (by kernel_rfl) (fun _ _ _ h => h) (Or.inl ⟨by rfl, ?_⟩) (by assumption) ?_
    rotate_left
    · intro W hSW
      have e0 := k8 W hSW
      go_simp
      try with_reducible rfl
    try simp only [Act.put, List.setIfInBounds_toArray, List.set_cons_zero, List.set_cons_succ]
    refine wpAnyH_take (i := 26) (oi := { dst := some 64, op := Go.Op.binOp Go.BinOp.eql 9 (Go.Operand.tmp 59) (Go.Operand.tmp 63) 9, type := 4, pos := "law.go:31", after := #[{ on := 21, ground := Go.Ground.data }, { on := 25, ground := Go.Ground.data }, { on := 19, ground := Go.Ground.guard }], guard := some (19, true) }) (v := ?_) rfl (by kernel_rfl) (by kernel_rfl) (by kernel_rfl) (fun _ _ _ h => h) (Or.inl ⟨by rfl, ?_⟩) (by assumption) ?_
    rotate_left
    · intro W hSW
      go_simp
      try with_reducible rfl
    try simp only [Act.put, List.setIfInBounds_toArray, List.set_cons_zero, List.set_cons_succ]
    refine wpAnyH_take (i := 27) (oi := { dst := some 65, op := Go.Op.pick (Go.Operand.tmp 57) (Go.Operand.tmp 64) (Go.Operand.const (Go.Value.bool false)), type := 4, pos := "law.go:31", after := #[{ on := 19, ground := Go.Ground.data }, { on := 26, ground := Go.Ground.data }], guard := none }) (v := ?_) rfl (by kernel_rfl) (by kernel_rfl) (by kernel_rfl) (fun _ _ _ h => h) (Or.inl ⟨by rfl, ?_⟩) (by assumption) ?_
    rotate_left
    · intro W hSW
      go_simp
      try with_reducible rfl
    try simp only [Act.put, List.setIfInBounds_toArray, List.set_cons_zero, List.set_cons_succ]
    refine wpAnyH_take (i := 28) (oi := { dst := some 14, op := Go.Op.assign (Go.Operand.tmp 65), type := 4, pos := "law.go:31", after := #[{ on := 27, ground := Go.Ground.data }, { on := 24, ground := Go.Ground.chain }, { on := 0, ground := Go.Ground.phase }, { on := 1, ground := Go.Ground.phase }, { on := 2, ground := Go.Ground.phase }, { on := 3, ground := Go.Ground.phase }, { on := 4, ground := Go.Ground.phase }, { on := 5, ground := Go.Ground.phase }, { on := 6, ground := Go.Ground.phase }, { on := 7, ground := Go.Ground.phase }, { on := 8, ground := Go.Ground.phase }, { on := 9, ground := Go.Ground.phase }, { on := 10, ground := Go.Ground.phase }, { on := 11, ground := Go.Ground.phase }, { on := 12, ground := Go.Ground.phase }, { on := 13, ground := Go.Ground.phase }, { on := 14, ground := Go.Ground.phase }, { on := 15, ground := Go.Ground.phase }, { on := 16, ground := Go.Ground.phase }, { on := 17, ground := Go.Ground.phase }, { on := 18, ground := Go.Ground.phase }, { on := 19, ground := Go.Ground.phase }, { on := 20, ground := Go.Ground.phase }, { on := 21, ground := Go.Ground.phase }, { on := 22, ground := Go.Ground.phase }, { on := 23, ground := Go.Ground.phase }, { on := 24, ground := Go.Ground.phase }, { on := 25, ground := Go.Ground.phase }, { on := 26, ground := Go.Ground.phase }, { on := 27, ground := Go.Ground.phase }], guard := none }) (v := ?_) rfl (by kernel_rfl) (by kernel_rfl) (by kernel_rfl) (fun _ _ _ h => h) (Or.inl ⟨by rfl, ?_⟩) (by assumption) ?_
    rotate_left
    · intro W hSW
      go_simp
      try with_reducible rfl
    try simp only [Act.put, List.setIfInBounds_toArray, List.set_cons_zero, List.set_cons_succ]
    refine wpAnyH_done (by kernel_rfl) ?_ _
    have RB := Lib.hid (R.out.below hB8)
    have HT8 := Lib.hid (HT.out.trans (hB8.mono HT.out.size))
    have RF8 := Lib.hid (show w8.heap[gf]? = some (.cells (rowA FL) 5 (0, 0)) by rw [hB8.block gf (lt_of_heap RF.out)]; exact RF.out)
    clear hHeld hC7 hC8 kx ky kf hB5 hB6 hB7 hB8 k6 k7 k8 hv6 hv7 hv8 P1 P2 P3 HKF R HT RF
    go_wp2
    go_loopw [15] (fun i wr => ∃ (q : Nat) (M : List UInt8), q ≤ f ∧ i = .int .i64 q ∧ M.length = f ∧ ByteRow wr gf M ∧ Touch (fun k => k = gf) w8 wr) (fun i _ => f - (intOf i).toNat)
    case atStart => exact ⟨0, FL, Nat.zero_le _, rfl, HFL.out, RF8.out, Touch.refl _ _⟩
    case round =>
      obtain ⟨q, M, hq, rfl, hM, hrow, ht⟩ := hrel
      by_cases hlt : q < f
      · have hc := cell_of_row wr gf q _ _ _ hrow
        obtain ⟨c, hcx⟩ : ∃ c, (rowA M)[q]? = some c := ⟨byteV (M[q]'(by omega)), by rw [rowA_at, List.getElem?_eq_getElem (show q < M.length by omega)]; rfl⟩
        rw [hcx] at hc
        clear hcx
        have hfz := frozen_of_row wr gf q _ _ hrow
        have hq1 : (q : Int) < (f : Int) := by omega
        have HROW := Lib.hid hrow
        have HTT := Lib.hid ht
        have HM := Lib.hid hM
        clear hrow ht hM
        go_wp2
        go_roundw
        case rel =>
          refine ⟨q + 1, M.set q 77, by omega, by go_num, by rw [List.length_set]; exact HM.out, ?_, HTT.out.setCell (a := ⟨gf, q, none⟩) (.inl rfl) _⟩
          unfold ByteRow
          rw [heap_setCell_same wr gf q _ _ _ HROW.out, show (Value.int .u8 77) = byteV 77 from rfl, rowA_set]
        case measure => simp [intOf]; omega
      · have kb := run_convBytes (RB.out.touch ht NF.out).reads
        have HT9 := Lib.hid (below_touch1 HT8.out ht NG.out (Nat.le_refl _))
        clear hrow ht hM
        go_wp2
        go_ret
        exact ⟨rfl, HT9.out⟩

end Go.Proofs.Yticgojkfkplfoaa
