/- Encode. No condition. -/
import Derived.Test.YtijkgihgpchcfaaTgf
import Derived.Test.YtijkgihgpchcfaaTgr
import Derived.Test.YtijkgihgpchcfaaStp
namespace Go.Proofs.Ytijkgihgpchcfaa
open Go.RowKit

theorem TagAt.touch {F : Nat → Prop} {w w1 : World} {b : Nat} {t : Tg.T} (h : TagAt w b t) (ht : Touch F w w1) (hF : ¬ F b) : TagAt w1 b t := ht.at h hF
theorem TagAt.cells {w : World} {b : Nat} {t : Tg.T} (h : TagAt w b t) : w.cell? ⟨b, 0, none⟩ = some (.int .u32 (t.e : Int)) ∧ w.cell? ⟨b, 1, none⟩ = some (.int .u64 (t.s : Int)) ∧ w.cell? ⟨b, 2, none⟩ = some (.int .u64 (t.q : Int)) ∧
    w.cell? ⟨b, 3, none⟩ = some (.int .u64 (t.f : Int)) ∧ w.cell? ⟨b, 4, none⟩ = some (.int .i64 t.i) ∧ w.cell? ⟨b, 5, none⟩ = some (.int .i64 t.c) ∧ w.cell? ⟨b, 6, none⟩ = some (.int .i64 t.d) := by
  refine ⟨?_, ?_, ?_, ?_, ?_, ?_, ?_⟩ <;> rw [cell_of_row w b _ _ _ _ h] <;> rfl

/-- What Encode goes on from. -/
structure EncI (w wr : World) (t : Tg.T) (v : Value) (L : List UInt8) (g : Nat) : Prop where
  tag : TagAt wr w.heap.size t
  bv : BV wr v L g
  lt : L ≠ [] → g < w.heap.size
  below : Below w.heap.size w wr
theorem EncI.start {w : World} {v : Value} {L : List UInt8} {g : Nat} (t : Tg.T) (h : BV w v L g) : EncI w (w.alloc (.cells (tagC t) 25)) t v L g :=
  ⟨heap_alloc_new w _, h.alloc _, h.lt, (Below.refl _ _).alloc (Nat.le_refl _) _⟩
theorem EncI.next {w wr w1 : World} {t : Tg.T} {v : Value} {L : List UInt8} {g : Nat} (h : EncI w wr t v L g) {F : Nat → Prop} (ht : Touch F wr w1) (hF : ∀ k, F k → w.heap.size < k) : EncI w w1 t v L g :=
  ⟨h.tag.touch ht fun hf => absurd (hF _ hf) (by omega), h.bv.touch ht fun hl hf => absurd (hF _ hf) (by have := h.lt hl; omega), h.lt, h.below.trans (ht.to_below (fun k _ hf => Nat.le_of_lt (hF k hf)) h.below.size)⟩
theorem EncI.size {w wr : World} {t : Tg.T} {v : Value} {L : List UInt8} {g : Nat} (h : EncI w wr t v L g) : w.heap.size + 1 ≤ wr.heap.size := lt_of_heap h.tag
theorem EncI.step {w wr w1 : World} {t : Tg.T} {v : Value} {L : List UInt8} {g : Nat} (h : EncI w wr t v L g) (hb : Below wr.heap.size wr w1) : EncI w w1 t v L g :=
  h.next (F := Emp) (Touch.of_below hb) fun _ hf => hf.elim

theorem own_below {w w1 : World} {base : Nat} {e : TypeId} {v : Value} {n : Nat} {xs : List Value} (h : w.ownsRow base e 1 v n xs) (hb : Below w.heap.size w w1) : w1.ownsRow base e 1 v n xs :=
  World.ownsRow.kept (row := none) h ⟨hb.os, hb.tape, hb.output, hb.size, fun k hk _ => hb.block k hk⟩ (by cases v.ownBlock <;> simp)

/-- What the round's region reads: the tag, and the field. -/
theorem enc_keep {w wr : World} {t : Tg.T} {v : Value} {L : List UInt8} {g B : Nat} {out : Value} {xs : List Value} {n : Nat} (h : EncI w wr t v L g) (hown : wr.ownsRow B 5 1 out n xs) (hB : w.heap.size < B) (c0 c1 c2 : Value) {W : World} (ht : Touch (fun k => out.ownBlock = some k) (wr.alloc (.cells #[c0, c1, c2] 46)) W) :
    W.cell? ⟨wr.heap.size, 0, none⟩ = some c0 ∧ W.cell? ⟨wr.heap.size, 1, none⟩ = some c1 ∧
    W.cell? ⟨w.heap.size, 0, none⟩ = some (.int .u32 (t.e : Int)) ∧ W.cell? ⟨w.heap.size, 1, none⟩ = some (.int .u64 (t.s : Int)) ∧ W.cell? ⟨w.heap.size, 2, none⟩ = some (.int .u64 (t.q : Int)) ∧
    W.cell? ⟨w.heap.size, 3, none⟩ = some (.int .u64 (t.f : Int)) ∧ W.cell? ⟨w.heap.size, 4, none⟩ = some (.int .i64 t.i) ∧ W.cell? ⟨w.heap.size, 5, none⟩ = some (.int .i64 t.c) ∧ W.cell? ⟨w.heap.size, 6, none⟩ = some (.int .i64 t.d) := by
  have hlt := World.ownsRow.lt hown
  have hF := ht.at (k := wr.heap.size) (heap_alloc_new wr _) (fun e => by have := (hlt _ e).2; omega)
  refine ⟨by rw [cell_of_row W _ _ _ _ _ hF]; rfl, by rw [cell_of_row W _ _ _ _ _ hF]; rfl, ?_⟩
  exact ((h.step ((Below.refl _ wr).alloc (Nat.le_refl _) _)).tag.touch ht fun e => by have := (hlt _ e).1; omega).cells

theorem OwnB.mono {base base' : Nat} {w : World} {v : Value} {l : List UInt8} (h : OwnB base w v l) (hb : base' ≤ base) : OwnB base' w v l := by
  obtain ⟨g, cap, h1, h2, h3, h4⟩ := h
  exact ⟨g, cap, h1, h2, Nat.le_trans hb h3, h4⟩

set_option maxRecDepth 100000 in
set_option maxHeartbeats 1000000 in
theorem encode_ok (t : Tg.T) (v : Value) (L : List UInt8) (g : Nat) (w : World) (hr : Tg.rightB t = true) (he : t.e < 4294967296) (h : BV w v L g) (hl : L.length = 480) :
    Calls Try.prog 10 #[tagV t, v] w fun e w' => (∃ v', e = .returned (.tuple #[v', .int .i64 0]) ∧ OwnB w.heap.size w' v' (Tg.enc t L)) ∧ Below w.heap.size w w' := by
  obtain ⟨a, cap, rfl, hc, hn⟩ := h.form
  obtain ⟨r1, r2, r3, r4, r5, r6, r7, r8, r9, r10, r11⟩ := (Tg.right_iff t).1 hr
  have hi : 0 ≤ t.i ∧ t.i < 256 := by omega
  have hcc : 0 ≤ t.c ∧ t.c < 256 := by omega
  have hd : 0 ≤ t.d ∧ t.d < 65536 := by omega
  have hv : ∀ k, k < 7 → Tg.val t k < 18446744073709551616 := by
    intro k hk
    have : k = 0 ∨ k = 1 ∨ k = 2 ∨ k = 3 ∨ k = 4 ∨ k = 5 ∨ k = 6 := by omega
    rcases this with rfl | rfl | rfl | rfl | rfl | rfl | rfl <;> simp only [Tg.val] <;> omega
  have G := Lib.hid (fun k hk W => get_any t k hk W hi hcc hd he)
  have HV := Lib.hid hv
  have R := right_any t (w.alloc (.cells (tagC t) 25))
  rw [hr] at R
  have HR := Lib.hid R
  have I := Lib.hid (EncI.start t h)
  have HL := Lib.hid hl
  have PL := Lib.hid (fun k hk => Tg.pre_length t k hk)
  have hmk := fun W => run_makeRoom W 512 (by omega) (by omega)
  rw [show (512 : Int).toNat = 512 from rfl] at hmk
  rw [hl]
  rw [hl] at I
  clear r1 r2 r3 r4 r5 r6 r7 r8 r9 r10 r11 hi hcc hd hv hr he h hn hl R hc
  go_enter Try.func10, Try.ntmps10
  go_wp2_with fail
  refine HR.out.mono ?_
  rintro e w1 ⟨rfl, hb⟩
  replace I := Lib.hid (I.out.step hb)
  clear hb HR
  have hs1 := I.out.size
  have HB0 := Lib.hid (Nat.le_refl w1.heap.size)
  go_wp2_with (at_builtin; refine wpList_append_s rfl (.tmp 17) (.const (.string ⟨#[72, 82, 82, 87]⟩)) rfl w1.heap.size (.slice (some ⟨w1.heap.size, 0, none⟩) 0 512) [] rfl (own_room w1 512 (by omega)) [72, 82, 82, 87] rfl (by decide) (by simp) ?_; intro v1 w2 hown hgrow; have HO := Lib.hid hown; have HG := Lib.hid hgrow; clear hown hgrow)
  rw [List.nil_append] at HO
  have HT2 := Lib.hid (((Touch.refl (fun k => k = w1.heap.size) w1).alloc (.cells (rowA (zerosL 512)) 5)).trans (Touch.of_grown (F := fun k => k = w1.heap.size) HG.out (by intro k hk; simp [Value.ownBlock] at hk; exact hk.symm)) fun k hk _ => hk)
  replace I := Lib.hid (I.out.next HT2.out (by rintro k rfl; omega))
  have HS2 := Lib.hid HT2.out.size
  generalize w1.heap.size = B at HO HS2 hs1
  clear HG HT2 HB0 hmk
  go_wp2_with fail
  refine (fields_any w2).mono ?_
  rintro e w3 ⟨rfl, hb⟩
  replace I := Lib.hid (I.out.step hb)
  replace HO := Lib.hid (own_below HO.out hb)
  replace HS2 := Lib.hid (Nat.le_trans HS2.out hb.size)
  clear hb
  go_wp2_with fail
  go_loopw [6, 20] (fun out i wr => ∃ k : Nat, k ≤ 7 ∧ i = .int .i64 k ∧ wr.ownsRow B 5 1 out (Tg.pre t k).length ((Tg.pre t k).map byteV) ∧ B ≤ wr.heap.size ∧ EncI w wr t (.slice a 480 cap) L g) (fun _ i _ => 7 - (intOf i).toNat)
  case atStart => exact ⟨0, by omega, rfl, HO.out, HS2.out, I.out⟩
  case round =>
    obtain ⟨k, hk, rfl, hown, hBs, hI⟩ := hrel
    by_cases hlt : k < 7
    · have hix := index_fields' k hlt
      have hcf := call_get k hlt
      have hsz : Tg.size k ≤ 8 := by unfold Tg.size; split <;> omega
      have HO := Lib.hid hown
      have I := Lib.hid hI
      have HBS := Lib.hid hBs
      clear hown hI
      have hcs := I.out.tag.cells
      obtain ⟨c0, c1, c2, c3, c4, c5, c6⟩ := hcs
      have hk7 : (k : Int) < 7 := by omega
      go_wp2_with (with_reducible refine wpList_store_row rfl 46 (.tmp 8) (.tmp 22) rfl wr.heap.size _ rfl rfl 46 _ (heap_alloc_new wr _) (by kernel_rfl) (by kernel_rfl) (by kernel_rfl) ?_)
      rw [setRow_alloc_new]
      have KF := fun (W : World) (ht : Touch (fun j => u6.ownBlock = some j) (wr.alloc (.cells #[.int .i64 (Tg.size k : Int), .func (.func (getF k)) #[] #[], .func (.func (setF k)) #[] #[]] 46)) W) => enc_keep I.out HO.out hs1 (.int .i64 (Tg.size k : Int)) (.func (.func (getF k)) #[] #[]) (.func (.func (setF k)) #[] #[]) ht
      have OQ := Lib.hid (World.ownsRow.alloc HO.out (.cells #[.int .i64 (Tg.size k : Int), .func (.func (getF k)) #[] #[], .func (.func (setF k)) #[] #[]] 46))
      have IQ := Lib.hid (I.out.step ((Below.refl _ wr).alloc (Nat.le_refl _) (.cells #[.int .i64 (Tg.size k : Int), .func (.func (getF k)) #[] #[], .func (.func (setF k)) #[] #[]] 46)))
      have BQ := Lib.hid (show B ≤ (wr.alloc (.cells #[.int .i64 (Tg.size k : Int), .func (.func (getF k)) #[] #[], .func (.func (setF k)) #[] #[]] 46)).heap.size from Nat.le_trans HBS.out (by simp))
      clear c0 c1 c2 c3 c4 c5 c6 I HO HBS
      generalize wr.alloc (.cells #[.int .i64 (Tg.size k : Int), .func (.func (getF k)) #[] #[], .func (.func (setF k)) #[] #[]] 46) = wq at KF OQ IQ BQ ⊢
      generalize wr.heap.size = F at KF ⊢
      have K0 := KF wq.drew ((Touch.refl _ wq).drew)
      have HKF := Lib.hid KF
      have HT0 : Touch (fun j => u6.ownBlock = some j) wq wq.drew := (Touch.refl _ wq).drew
      clear KF hix
      simp only [Act.put]
      go_region_held3 (fun W => W.cell? ⟨F, 0, none⟩ = some (.int .i64 (Tg.size k : Int)) ∧ W.cell? ⟨F, 1, none⟩ = some (.func (.func (getF k)) #[] #[]) ∧
    W.cell? ⟨w.heap.size, 0, none⟩ = some (.int .u32 (t.e : Int)) ∧ W.cell? ⟨w.heap.size, 1, none⟩ = some (.int .u64 (t.s : Int)) ∧ W.cell? ⟨w.heap.size, 2, none⟩ = some (.int .u64 (t.q : Int)) ∧
    W.cell? ⟨w.heap.size, 3, none⟩ = some (.int .u64 (t.f : Int)) ∧ W.cell? ⟨w.heap.size, 4, none⟩ = some (.int .i64 t.i) ∧ W.cell? ⟨w.heap.size, 5, none⟩ = some (.int .i64 t.c) ∧ W.cell? ⟨w.heap.size, 6, none⟩ = some (.int .i64 t.d)) (exact HKF.out _ (by assumption)) (first
        | (go_at_call 16; refine (put_own B u6 (Tg.pre t k) (Tg.size k) (Tg.val t k) _ (own_below OQ.out HB4) (Nat.le_trans BQ.out HB4.size) hsz (by rw [PL.out k (by omega)]; unfold Tg.place; split <;> omega) (HV.out k hlt)).mono ?_; rintro e w5 ⟨⟨v5, rfl, hv5⟩, ht5⟩; have HT5 : Touch (fun j => u6.ownBlock = some j) wq w5 := (Touch.of_below HB4).trans ht5 (fun _ h _ => h))
        | (refine (G.out k hlt _).mono ?_; rintro e w4 ⟨rfl, hb4⟩; have HB4 : Below wq.heap.size wq w4 := (Below.refl _ wq).drew.trans hb4; have HT4 : Touch (fun j => u6.ownBlock = some j) wq w4 := Touch.of_below HB4))
      have OW := Lib.hid hv5
      have hlo := fun j (hj : u6.ownBlock = some j) => (World.ownsRow.lt OQ.out j hj).1
      have IW := Lib.hid (IQ.out.next HT5 fun j hj => Nat.lt_of_lt_of_le hs1 (hlo j hj))
      have BW := Lib.hid (Nat.le_trans BQ.out HT5.size)
      clear hlo hv5 HT5 HT4 HB4 HT0 OQ IQ BQ HKF K0 ht5 hb4
      go_wp2
      go_roundw
      case rel => exact ⟨k + 1, by omega, by go_num, OW.out, BW.out, IW.out⟩
      case measure => simp [intOf]; omega
    · obtain rfl : k = 7 := by omega
      have hp7 : (Tg.pre t 7).length = 30 := PL.out 7 (by omega)
      obtain ⟨P7, hP7⟩ : ∃ P7, P7 = Tg.pre t 7 := ⟨_, rfl⟩
      rw [← hP7] at hp7 hown
      have HP7 := Lib.hid hP7
      have HPL := Lib.hid hp7
      have h30 : P7.length + [(0 : UInt8), 0].length ≤ 4294967296 := by rw [hp7]; decide
      have HO := Lib.hid hown
      have I := Lib.hid hI
      have HBS := Lib.hid hBs
      clear hown hI hBs hP7 hp7
      go_wp2_with (at_builtin; refine wpList_append_s rfl (.tmp 32) (.const (.string ⟨#[0, 0]⟩)) rfl B _ P7 rfl HO.out [0, 0] rfl h30 HBS.out ?_; intro v2 w2 hown hgrow; have HO2 := Lib.hid hown; have HG := Lib.hid hgrow; refine Go.RowKit.Hid.out ?_)
      refine Lib.hid ?_
      have h512 : (P7 ++ [0, 0]).length + L.length ≤ 4294967296 := by rw [List.length_append, HPL.out, HL.out]; decide
      have hlo := fun j (hj : u6.ownBlock = some j) => (World.ownsRow.lt HO.out j hj).1
      have HT2 := Touch.of_grown (F := fun k => u6.ownBlock = some k) hgrow fun k hk => hk
      replace I := Lib.hid (I.out.next HT2 fun j hj => Nat.lt_of_lt_of_le hs1 (hlo j hj))
      replace HBS := Lib.hid (Nat.le_trans HBS.out HT2.size)
      clear hown hgrow hlo HT2 h30 HG
      go_wp2_with (at_builtin; refine wpList_append_b rfl (.tmp 34) (.tmp 35) rfl B v2 (P7 ++ [0, 0]) rfl HO2.out _ L g rfl I.out.bv.reads I.out.bv.nilc h512 HBS.out ?_; intro v3 w3 hown hgrow; have HO3 := Lib.hid hown; have HG := Lib.hid hgrow; refine Go.RowKit.Hid.out ?_)
      refine Lib.hid ?_
      have hlo := fun j (hj : v2.ownBlock = some j) => (World.ownsRow.lt HO2.out j hj).1
      have HT3 := Touch.of_grown (F := fun k => v2.ownBlock = some k) hgrow fun k hk => hk
      replace I := Lib.hid (I.out.next HT3 fun j hj => Nat.lt_of_lt_of_le hs1 (hlo j hj))
      clear hown hgrow hlo HT3 HG h512
      go_wp2
      go_ret2
      have ho := OwnB.of_own HO3.out (by intro h; have := congrArg List.length h; rw [List.length_append, HL.out] at this; simp at this)
      rw [HP7.out] at ho
      exact ⟨⟨_, rfl, ho.mono (Nat.le_of_lt hs1)⟩, I.out.below⟩

set_option maxRecDepth 100000 in
set_option maxHeartbeats 1000000 in
theorem encode_no (t : Tg.T) (a : Option Addr) (n cap : Nat) (w : World) (h : Tg.rightB t = false ∨ n ≠ 480) :
    Calls Try.prog 10 #[tagV t, .slice a n cap] w fun e w' => e = .returned (.tuple #[.slice none 0 0, .int .i64 1]) ∧ Below w.heap.size w w' := by
  have R := right_any t (w.alloc (.cells (tagC t) 25))
  have HB := Lib.hid ((Below.refl w.heap.size w).alloc (Nat.le_refl _) (.cells (tagC t) 25))
  by_cases hr : Tg.rightB t = true
  · have hn : n ≠ 480 := by
      rcases h with h | h
      · rw [hr] at h; cases h
      · exact h
    rw [hr] at R
    have HR := Lib.hid R
    clear R h hr
    go_enter Try.func10, Try.ntmps10
    go_wp2_with fail
    refine HR.out.mono ?_
    rintro e w1 ⟨rfl, hb⟩
    replace HB := Lib.hid (HB.out.trans (hb.mono (by simp)))
    clear hb HR
    go_wp2
    go_ret2
    exact ⟨rfl, HB.out⟩
  · rw [Bool.not_eq_true] at hr
    rw [hr] at R
    have HR := Lib.hid R
    clear R h hr
    go_enter Try.func10, Try.ntmps10
    go_wp2_with fail
    refine HR.out.mono ?_
    rintro e w1 ⟨rfl, hb⟩
    replace HB := Lib.hid (HB.out.trans (hb.mono (by simp)))
    clear hb HR
    go_wp2
    go_ret2
    exact ⟨rfl, HB.out⟩

end Go.Proofs.Ytijkgihgpchcfaa
