/- Tags: Encode, Decode. No condition. -/
import Derived.Test.YthapggobpfcmjaaGreatTna
import Derived.Test.YthapggobpfcmjaaGreatStp

set_option maxRecDepth 100000
namespace Go.Proofs.YthapggobpfcmjaaGreat
open Go.RowKit

theorem TagAt.touch {F : Nat → Prop} {w w1 : World} {b : Nat} {t : Tg.T} (h : TagAt w b t) (ht : Touch F w w1) (hF : ¬ F b) : TagAt w1 b t := ht.at h hF
theorem TagAt.cells {w : World} {b : Nat} {t : Tg.T} (h : TagAt w b t) : w.cell? ⟨b, 0, none⟩ = some (.int .u32 (t.e : Int)) ∧ w.cell? ⟨b, 1, none⟩ = some (.int .u64 (t.s : Int)) ∧ w.cell? ⟨b, 2, none⟩ = some (.int .u64 (t.q : Int)) ∧
    w.cell? ⟨b, 3, none⟩ = some (.int .u64 (t.f : Int)) ∧ w.cell? ⟨b, 4, none⟩ = some (.int .i64 t.i) ∧ w.cell? ⟨b, 5, none⟩ = some (.int .i64 t.c) ∧ w.cell? ⟨b, 6, none⟩ = some (.int .i64 t.d) := by
  refine ⟨?_, ?_, ?_, ?_, ?_, ?_, ?_⟩ <;> rw [cell_of_row w b _ _ _ _ h] <;> rfl

/-- What Encode goes on from. -/
structure EncI (w wr : World) (t : Tg.T) (v : Value) (L : List UInt8) (g : Nat) : Prop where
  tag : TagAt wr w.heap.size t
  bv : BV wr v L g
  lt : L ≠ [] → g < w.heap.size
  below : Below w.heap.size w wr
theorem EncI.start {w : World} {v : Value} {L : List UInt8} {g : Nat} (t : Tg.T) (h : BV w v L g) : EncI w (w.alloc (.cells (tagC t) 59)) t v L g :=
  ⟨heap_alloc_new w _, h.alloc _, h.lt, (Below.refl _ _).alloc (Nat.le_refl _) _⟩
theorem EncI.next {w wr w1 : World} {t : Tg.T} {v : Value} {L : List UInt8} {g : Nat} (h : EncI w wr t v L g) {F : Nat → Prop} (ht : Touch F wr w1) (hF : ∀ k, F k → w.heap.size < k) : EncI w w1 t v L g :=
  ⟨h.tag.touch ht fun hf => absurd (hF _ hf) (by omega), h.bv.touch ht fun hl hf => absurd (hF _ hf) (by have := h.lt hl; omega), h.lt, h.below.trans (ht.to_below (fun k _ hf => Nat.le_of_lt (hF k hf)) h.below.size)⟩
theorem EncI.size {w wr : World} {t : Tg.T} {v : Value} {L : List UInt8} {g : Nat} (h : EncI w wr t v L g) : w.heap.size + 1 ≤ wr.heap.size := lt_of_heap h.tag
theorem EncI.step {w wr w1 : World} {t : Tg.T} {v : Value} {L : List UInt8} {g : Nat} (h : EncI w wr t v L g) (hb : Below wr.heap.size wr w1) : EncI w w1 t v L g :=
  h.next (F := Emp) (Touch.of_below hb) fun _ hf => hf.elim

theorem own_below {w w1 : World} {base : Nat} {e : TypeId} {v : Value} {n : Nat} {xs : List Value} (h : w.ownsRow base e 1 v n xs) (hb : Below w.heap.size w w1) : w1.ownsRow base e 1 v n xs :=
  World.ownsRow.kept (row := none) h ⟨hb.os, hb.tape, hb.output, hb.size, fun k hk _ => hb.block k hk⟩ (by cases v.ownBlock <;> simp)

/-- What the round's region reads: the tag, and the field. -/
theorem enc_keep {w wr : World} {t : Tg.T} {v : Value} {L : List UInt8} {g B : Nat} {out : Value} {xs : List Value} {n : Nat} (h : EncI w wr t v L g) (hown : wr.ownsRow B 5 1 out n xs) (hB : w.heap.size < B) (c0 c1 c2 : Value) {W : World} (ht : Touch (fun k => out.ownBlock = some k) (wr.alloc (.cells #[c0, c1, c2] 102)) W) :
    W.cell? ⟨wr.heap.size, 0, none⟩ = some c0 ∧ W.cell? ⟨wr.heap.size, 1, none⟩ = some c1 ∧
    W.cell? ⟨w.heap.size, 0, none⟩ = some (.int .u32 (t.e : Int)) ∧ W.cell? ⟨w.heap.size, 1, none⟩ = some (.int .u64 (t.s : Int)) ∧ W.cell? ⟨w.heap.size, 2, none⟩ = some (.int .u64 (t.q : Int)) ∧
    W.cell? ⟨w.heap.size, 3, none⟩ = some (.int .u64 (t.f : Int)) ∧ W.cell? ⟨w.heap.size, 4, none⟩ = some (.int .i64 t.i) ∧ W.cell? ⟨w.heap.size, 5, none⟩ = some (.int .i64 t.c) ∧ W.cell? ⟨w.heap.size, 6, none⟩ = some (.int .i64 t.d) := by
  have hlt := World.ownsRow.lt hown
  have hF := ht.at (k := wr.heap.size) (heap_alloc_new wr _) (fun e => by have := (hlt _ e).2; omega)
  refine ⟨by rw [cell_of_row W _ _ _ _ _ hF]; rfl, by rw [cell_of_row W _ _ _ _ _ hF]; rfl, ?_⟩
  exact ((h.step ((Below.refl _ wr).alloc (Nat.le_refl _) _)).tag.touch ht fun e => by have := (hlt _ e).1; omega).cells

theorem OwnB.mono {base base' : Nat} {w : World} {v : Value} {l : List UInt8} (h : OwnB base w v l) (hb : base' ≤ base) : OwnB base' w v l := by
  obtain ⟨g, cap, h1, h2, h3, h4⟩ := h
  exact ⟨g, cap, h1, h2, Nat.le_trans hb h3, h4⟩

set_option maxRecDepth 100000 in
set_option maxHeartbeats 1000000 in
theorem encode_ok (t : Tg.T) (v : Value) (L : List UInt8) (g : Nat) (w : World) (hr : Tg.rightB t = true) (he : t.e < 4294967296) (h : BV w v L g) (hl : L.length = 480) :
    Calls Tryz.prog 17 #[tagV t, v] w fun e w' => (∃ v', e = .returned (.tuple #[v', .int .i64 0]) ∧ OwnB w.heap.size w' v' (Tg.enc t L)) ∧ Below w.heap.size w w' := by
  obtain ⟨a, cap, rfl, hc, hn⟩ := h.form
  obtain ⟨r1, r2, r3, r4, r5, r6, r7, r8, r9, r10, r11⟩ := (Tg.right_iff t).1 hr
  have hi : 0 ≤ t.i ∧ t.i < 256 := by omega
  have hcc : 0 ≤ t.c ∧ t.c < 256 := by omega
  have hd : 0 ≤ t.d ∧ t.d < 65536 := by omega
  have hv : ∀ k, k < 7 → Tg.val t k < 18446744073709551616 := by
    intro k hk
    have : k = 0 ∨ k = 1 ∨ k = 2 ∨ k = 3 ∨ k = 4 ∨ k = 5 ∨ k = 6 := by omega
    rcases this with rfl | rfl | rfl | rfl | rfl | rfl | rfl <;> simp only [Tg.val] <;> omega
  have G := Lib.hid (fun k hk W => get_any t k hk W hi hcc hd he)
  have HV := Lib.hid hv
  have R := right_any t (w.alloc (.cells (tagC t) 59))
  rw [hr] at R
  have HR := Lib.hid R
  have I := Lib.hid (EncI.start t h)
  have HL := Lib.hid hl
  have PL := Lib.hid (fun k hk => Tg.pre_length t k hk)
  have hmk := fun W => run_makeRoom W 512 (by omega) (by omega)
  rw [show (512 : Int).toNat = 512 from rfl] at hmk
  rw [hl]
  rw [hl] at I
  clear r1 r2 r3 r4 r5 r6 r7 r8 r9 r10 r11 hi hcc hd hv hr he h hn hl R hc
  go_enter Tryz.func17, Tryz.ntmps17
  go_wp2_with fail
  refine HR.out.mono ?_
  rintro e w1 ⟨rfl, hb⟩
  replace I := Lib.hid (I.out.step hb)
  clear hb HR
  have hs1 := I.out.size
  have HB0 := Lib.hid (Nat.le_refl w1.heap.size)
  go_wp2_with (at_builtin; refine wpList_append_s rfl (.tmp 17) (.const (.string ⟨#[72, 82, 82, 87]⟩)) rfl w1.heap.size (.slice (some ⟨w1.heap.size, 0, none⟩) 0 512) [] rfl (own_room w1 512 (by omega)) [72, 82, 82, 87] rfl (by decide) (by simp) ?_; intro v1 w2 hown hgrow; have HO := Lib.hid hown; have HG := Lib.hid hgrow; clear hown hgrow)
  rw [List.nil_append] at HO
  have HT2 := Lib.hid (((Touch.refl (fun k => k = w1.heap.size) w1).alloc (.cells (rowA (zerosL 512)) 5)).trans (Touch.of_grown (F := fun k => k = w1.heap.size) HG.out (by intro k hk; simp [Value.ownBlock] at hk; exact hk.symm)) fun k hk _ => hk)
  replace I := Lib.hid (I.out.next HT2.out (by rintro k rfl; omega))
  have HS2 := Lib.hid HT2.out.size
  generalize w1.heap.size = B at HO HS2 hs1
  clear HG HT2 HB0 hmk
  go_wp2_with fail
  refine (fields_any w2).mono ?_
  rintro e w3 ⟨rfl, hb⟩
  replace I := Lib.hid (I.out.step hb)
  replace HO := Lib.hid (own_below HO.out hb)
  replace HS2 := Lib.hid (Nat.le_trans HS2.out hb.size)
  clear hb
  go_wp2_with fail
  go_loopw [6, 20] (fun out i wr => ∃ k : Nat, k ≤ 7 ∧ i = .int .i64 k ∧ wr.ownsRow B 5 1 out (Tg.pre t k).length ((Tg.pre t k).map byteV) ∧ B ≤ wr.heap.size ∧ EncI w wr t (.slice a 480 cap) L g) (fun _ i _ => 7 - (intOf i).toNat)
  case atStart => exact ⟨0, by omega, rfl, HO.out, HS2.out, I.out⟩
  case round =>
    obtain ⟨k, hk, rfl, hown, hBs, hI⟩ := hrel
    by_cases hlt : k < 7
    · have hix := index_fields' k hlt
      have hcf := call_get k hlt
      have hsz : Tg.size k ≤ 8 := by unfold Tg.size; split <;> omega
      have HO := Lib.hid hown
      have I := Lib.hid hI
      have HBS := Lib.hid hBs
      clear hown hI
      have hcs := I.out.tag.cells
      obtain ⟨c0, c1, c2, c3, c4, c5, c6⟩ := hcs
      have hk7 : (k : Int) < 7 := by omega
      go_wp2_with (with_reducible refine wpList_store_row rfl 102 (.tmp 8) (.tmp 22) rfl wr.heap.size _ rfl rfl 102 _ (heap_alloc_new wr _) (by kernel_rfl) (by kernel_rfl) (by kernel_rfl) ?_)
      rw [setRow_alloc_new]
      have KF := fun (W : World) (ht : Touch (fun j => u6.ownBlock = some j) (wr.alloc (.cells #[.int .i64 (Tg.size k : Int), .func (.func (getF k)) #[] #[], .func (.func (setF k)) #[] #[]] 102)) W) => enc_keep I.out HO.out hs1 (.int .i64 (Tg.size k : Int)) (.func (.func (getF k)) #[] #[]) (.func (.func (setF k)) #[] #[]) ht
      have OQ := Lib.hid (World.ownsRow.alloc HO.out (.cells #[.int .i64 (Tg.size k : Int), .func (.func (getF k)) #[] #[], .func (.func (setF k)) #[] #[]] 102))
      have IQ := Lib.hid (I.out.step ((Below.refl _ wr).alloc (Nat.le_refl _) (.cells #[.int .i64 (Tg.size k : Int), .func (.func (getF k)) #[] #[], .func (.func (setF k)) #[] #[]] 102)))
      have BQ := Lib.hid (show B ≤ (wr.alloc (.cells #[.int .i64 (Tg.size k : Int), .func (.func (getF k)) #[] #[], .func (.func (setF k)) #[] #[]] 102)).heap.size from Nat.le_trans HBS.out (by simp))
      clear c0 c1 c2 c3 c4 c5 c6 I HO HBS
      generalize wr.alloc (.cells #[.int .i64 (Tg.size k : Int), .func (.func (getF k)) #[] #[], .func (.func (setF k)) #[] #[]] 102) = wq at KF OQ IQ BQ ⊢
      generalize wr.heap.size = F at KF ⊢
      have K0 := KF wq.drew ((Touch.refl _ wq).drew)
      have HKF := Lib.hid KF
      have HT0 : Touch (fun j => u6.ownBlock = some j) wq wq.drew := (Touch.refl _ wq).drew
      clear KF hix
      simp only [Act.put]
      go_region_held3 (fun W => W.cell? ⟨F, 0, none⟩ = some (.int .i64 (Tg.size k : Int)) ∧ W.cell? ⟨F, 1, none⟩ = some (.func (.func (getF k)) #[] #[]) ∧
    W.cell? ⟨w.heap.size, 0, none⟩ = some (.int .u32 (t.e : Int)) ∧ W.cell? ⟨w.heap.size, 1, none⟩ = some (.int .u64 (t.s : Int)) ∧ W.cell? ⟨w.heap.size, 2, none⟩ = some (.int .u64 (t.q : Int)) ∧
    W.cell? ⟨w.heap.size, 3, none⟩ = some (.int .u64 (t.f : Int)) ∧ W.cell? ⟨w.heap.size, 4, none⟩ = some (.int .i64 t.i) ∧ W.cell? ⟨w.heap.size, 5, none⟩ = some (.int .i64 t.c) ∧ W.cell? ⟨w.heap.size, 6, none⟩ = some (.int .i64 t.d)) (exact HKF.out _ (by assumption)) (first
        | (go_at_call 45; refine (put_own B u6 (Tg.pre t k) (Tg.size k) (Tg.val t k) _ (own_below OQ.out HB4) (Nat.le_trans BQ.out HB4.size) hsz (by rw [PL.out k (by omega)]; unfold Tg.place; split <;> omega) (HV.out k hlt)).mono ?_; rintro e w5 ⟨⟨v5, rfl, hv5⟩, ht5⟩; have HT5 : Touch (fun j => u6.ownBlock = some j) wq w5 := (Touch.of_below HB4).trans ht5 (fun _ h _ => h))
        | (refine (G.out k hlt _).mono ?_; rintro e w4 ⟨rfl, hb4⟩; have HB4 : Below wq.heap.size wq w4 := (Below.refl _ wq).drew.trans hb4; have HT4 : Touch (fun j => u6.ownBlock = some j) wq w4 := Touch.of_below HB4))
      have OW := Lib.hid hv5
      have hlo := fun j (hj : u6.ownBlock = some j) => (World.ownsRow.lt OQ.out j hj).1
      have IW := Lib.hid (IQ.out.next HT5 fun j hj => Nat.lt_of_lt_of_le hs1 (hlo j hj))
      have BW := Lib.hid (Nat.le_trans BQ.out HT5.size)
      clear hlo hv5 HT5 HT4 HB4 HT0 OQ IQ BQ HKF K0 ht5 hb4
      go_wp2
      go_roundw
      case rel => exact ⟨k + 1, by omega, by go_num, OW.out, BW.out, IW.out⟩
      case measure => simp [intOf]; omega
    · obtain rfl : k = 7 := by omega
      have hp7 : (Tg.pre t 7).length = 30 := PL.out 7 (by omega)
      obtain ⟨P7, hP7⟩ : ∃ P7, P7 = Tg.pre t 7 := ⟨_, rfl⟩
      rw [← hP7] at hp7 hown
      have HP7 := Lib.hid hP7
      have HPL := Lib.hid hp7
      have h30 : P7.length + [(0 : UInt8), 0].length ≤ 4294967296 := by rw [hp7]; decide
      have HO := Lib.hid hown
      have I := Lib.hid hI
      have HBS := Lib.hid hBs
      clear hown hI hBs hP7 hp7
      go_wp2_with (at_builtin; refine wpList_append_s rfl (.tmp 32) (.const (.string ⟨#[0, 0]⟩)) rfl B _ P7 rfl HO.out [0, 0] rfl h30 HBS.out ?_; intro v2 w2 hown hgrow; have HO2 := Lib.hid hown; have HG := Lib.hid hgrow; refine Go.RowKit.Hid.out ?_)
      refine Lib.hid ?_
      have h512 : (P7 ++ [0, 0]).length + L.length ≤ 4294967296 := by rw [List.length_append, HPL.out, HL.out]; decide
      have hlo := fun j (hj : u6.ownBlock = some j) => (World.ownsRow.lt HO.out j hj).1
      have HT2 := Touch.of_grown (F := fun k => u6.ownBlock = some k) hgrow fun k hk => hk
      replace I := Lib.hid (I.out.next HT2 fun j hj => Nat.lt_of_lt_of_le hs1 (hlo j hj))
      replace HBS := Lib.hid (Nat.le_trans HBS.out HT2.size)
      clear hown hgrow hlo HT2 h30 HG
      go_wp2_with (at_builtin; refine wpList_append_b rfl (.tmp 34) (.tmp 35) rfl B v2 (P7 ++ [0, 0]) rfl HO2.out _ L g rfl I.out.bv.reads I.out.bv.nilc h512 HBS.out ?_; intro v3 w3 hown hgrow; have HO3 := Lib.hid hown; have HG := Lib.hid hgrow; refine Go.RowKit.Hid.out ?_)
      refine Lib.hid ?_
      have hlo := fun j (hj : v2.ownBlock = some j) => (World.ownsRow.lt HO2.out j hj).1
      have HT3 := Touch.of_grown (F := fun k => v2.ownBlock = some k) hgrow fun k hk => hk
      replace I := Lib.hid (I.out.next HT3 fun j hj => Nat.lt_of_lt_of_le hs1 (hlo j hj))
      clear hown hgrow hlo HT3 HG h512
      go_wp2
      go_ret2
      have ho := OwnB.of_own HO3.out (by intro h; have := congrArg List.length h; rw [List.length_append, HL.out] at this; simp at this)
      rw [HP7.out] at ho
      exact ⟨⟨_, rfl, ho.mono (Nat.le_of_lt hs1)⟩, I.out.below⟩

set_option maxRecDepth 100000 in
set_option maxHeartbeats 1000000 in
theorem encode_no (t : Tg.T) (a : Option Addr) (n cap : Nat) (w : World) (h : Tg.rightB t = false ∨ n ≠ 480) :
    Calls Tryz.prog 17 #[tagV t, .slice a n cap] w fun e w' => e = .returned (.tuple #[.slice none 0 0, .int .i64 1]) ∧ Below w.heap.size w w' := by
  have R := right_any t (w.alloc (.cells (tagC t) 59))
  have HB := Lib.hid ((Below.refl w.heap.size w).alloc (Nat.le_refl _) (.cells (tagC t) 59))
  by_cases hr : Tg.rightB t = true
  · have hn : n ≠ 480 := by
      rcases h with h | h
      · rw [hr] at h; cases h
      · exact h
    rw [hr] at R
    have HR := Lib.hid R
    clear R h hr
    go_enter Tryz.func17, Tryz.ntmps17
    go_wp2_with fail
    refine HR.out.mono ?_
    rintro e w1 ⟨rfl, hb⟩
    replace HB := Lib.hid (HB.out.trans (hb.mono (by simp)))
    clear hb HR
    go_wp2
    go_ret2
    exact ⟨rfl, HB.out⟩
  · rw [Bool.not_eq_true] at hr
    rw [hr] at R
    have HR := Lib.hid R
    clear R h hr
    go_enter Tryz.func17, Tryz.ntmps17
    go_wp2_with fail
    refine HR.out.mono ?_
    rintro e w1 ⟨rfl, hb⟩
    replace HB := Lib.hid (HB.out.trans (hb.mono (by simp)))
    clear hb HR
    go_wp2
    go_ret2
    exact ⟨rfl, HB.out⟩

end Go.Proofs.YthapggobpfcmjaaGreat

namespace Go.Proofs.YthapggobpfcmjaaGreat
open Go.RowKit

theorem run_mid (w : World) (a : Option Addr) (n cap p q : Nat) (hp : p ≤ q) (hq : q ≤ cap) :
    (Instr.sliceAt 39 (.slice a n cap) (some (.int .i64 (p : Int))) (some (.int .i64 (q : Int))) none).run Tryz.prog w = .ok (.slice (if cap = p then a else a.map (·.add p)) (q - p) (cap - p)) w := by
  have hu : Tryz.prog.underlying 39 = some (.slice (Tryz.prog.elem 39)) := by rw [elemBytes]; exact Tryz.underlying39
  rw [run_sliceAt_slice w _ _ _ _ _ hu, run_slice_lh w _ a n cap hu .i64 .i64 p q (by omega) (by omega) (by omega), elemBytes, sizeByte]
  simp [Result.andThen, sliced]
theorem BV.mid {w : World} {l : List UInt8} {g : Nat} {a : Option Addr} {n cap : Nat} (h : BV w (.slice a n cap) l g) (p k : Nat) (hp : p + k ≤ n) : BV w (.slice (if cap = p then a else a.map (·.add p)) k (cap - p)) ((l.drop p).take k) g := by
  have hf : n ≤ cap := by obtain ⟨_, _, e, h1, _⟩ := h.form; cases e; exact h1
  exact (h.drop p (by omega)).take k (by omega) _ (by omega) (Nat.le_refl _)
theorem place_next (k : Nat) (hk : k < 7) : Tg.place (k + 1) = Tg.place k + Tg.size k ∧ Tg.place k + Tg.size k ≤ 30 ∧ Tg.size k ≤ 8 := by
  have : k = 0 ∨ k = 1 ∨ k = 2 ∨ k = 3 ∨ k = 4 ∨ k = 5 ∨ k = 6 := by omega
  rcases this with rfl | rfl | rfl | rfl | rfl | rfl | rfl <;> decide

/-- What a round of told goes on from. -/
structure ToldI (w wr : World) (B T : Nat) (b : List UInt8) (k : Nat) (v : Value) (g : Nat) : Prop where
  res : ∃ t0, TagAt wr B t0
  tag : TagAt wr T (Tg.part b k)
  bv : BV wr v b g
  below : Below w.heap.size w wr
  lo : w.heap.size ≤ B ∧ B < T ∧ g < w.heap.size
theorem ToldI.next {w wr w1 : World} {B T : Nat} {b : List UInt8} {k : Nat} {v : Value} {g : Nat} (h : ToldI w wr B T b k v g) (hb : Below wr.heap.size wr w1) : ToldI w w1 B T b k v g := by
  obtain ⟨t0, h0⟩ := h.res
  exact ⟨⟨t0, h0.touch (Touch.of_below (F := Emp) hb) id⟩, h.tag.touch (Touch.of_below (F := Emp) hb) id, h.bv.below hb, h.below.trans (hb.mono h.below.size), h.lo⟩
theorem ToldI.set {w wr w1 : World} {B T : Nat} {b : List UInt8} {k k' : Nat} {v : Value} {g : Nat} (h : ToldI w wr B T b k v g) (ht : Touch (fun j => j = T) wr w1) (h1 : TagAt w1 T (Tg.part b k')) : ToldI w w1 B T b k' v g := by
  obtain ⟨t0, h0⟩ := h.res
  have hl := h.lo
  exact ⟨⟨t0, h0.touch ht (by omega)⟩, h1, h.bv.touch ht fun _ => by omega, h.below.trans (ht.to_below (by rintro k _ rfl; omega) h.below.size), h.lo⟩
theorem tagC_zero (b : List UInt8) : tagC (Tg.part b 0) = #[.int .u32 0, .int .u64 0, .int .u64 0, .int .u64 0, .int .i64 0, .int .i64 0, .int .i64 0] := by simp [tagC, Tg.part]
theorem ToldI.start (a : Option Addr) (cap : Nat) (b : List UInt8) (g : Nat) (w : World) (h : BV w (.slice a 512 cap) b g) (hg : g < w.heap.size) : ToldI w ((w.alloc (.cells #[.int .u32 0, .int .u64 0, .int .u64 0, .int .u64 0, .int .i64 0, .int .i64 0, .int .i64 0] 59)).alloc (.cells #[.int .u32 0, .int .u64 0, .int .u64 0, .int .u64 0, .int .i64 0, .int .i64 0, .int .i64 0] 59)) w.heap.size (w.heap.size + 1) b 0 (.slice a 512 cap) g := by
  have h1 : TagAt (w.alloc (.cells #[.int .u32 0, .int .u64 0, .int .u64 0, .int .u64 0, .int .i64 0, .int .i64 0, .int .i64 0] 59)) w.heap.size (Tg.part b 0) := by
    unfold TagAt; rw [tagC_zero]; exact heap_alloc_new w _
  have hs : (w.alloc (.cells #[.int .u32 0, .int .u64 0, .int .u64 0, .int .u64 0, .int .i64 0, .int .i64 0, .int .i64 0] 59)).heap.size = w.heap.size + 1 := by simp
  have h2 := (Below.refl w.heap.size w).alloc (Nat.le_refl _) (.cells #[.int .u32 0, .int .u64 0, .int .u64 0, .int .u64 0, .int .i64 0, .int .i64 0, .int .i64 0] 59)
  have h3 := h.alloc (.cells #[.int .u32 0, .int .u64 0, .int .u64 0, .int .u64 0, .int .i64 0, .int .i64 0, .int .i64 0] 59)
  generalize w.alloc (.cells #[.int .u32 0, .int .u64 0, .int .u64 0, .int .u64 0, .int .i64 0, .int .i64 0, .int .i64 0] 59) = w1 at h1 hs h2 h3 ⊢
  have ha : Touch Emp w1 (w1.alloc (.cells #[.int .u32 0, .int .u64 0, .int .u64 0, .int .u64 0, .int .i64 0, .int .i64 0, .int .i64 0] 59)) := (Touch.refl Emp w1).alloc _
  refine ⟨⟨_, h1.touch ha id⟩, ?_, h3.alloc _, h2.alloc h2.size _, Nat.le_refl _, by omega, hg⟩
  unfold TagAt
  rw [tagC_zero, ← hs]
  exact heap_alloc_new w1 _
theorem told_keep {w wr W : World} {B T : Nat} {b : List UInt8} {k : Nat} {v : Value} {g : Nat} (h : ToldI w wr B T b k v g) (c0 c1 c2 : Value) (ht : Touch (fun k => k = T) (wr.alloc (.cells #[c0, c1, c2] 102)) W) : W.cell? ⟨wr.heap.size, 0, none⟩ = some c0 ∧ W.cell? ⟨wr.heap.size, 2, none⟩ = some c2 := by
  have hF := ht.at (k := wr.heap.size) (heap_alloc_new wr _) (fun e => by have := lt_of_heap h.tag; omega)
  exact ⟨by rw [cell_of_row W _ _ _ _ _ hF]; rfl, by rw [cell_of_row W _ _ _ _ _ hF]; rfl⟩

set_option maxRecDepth 100000 in
set_option maxHeartbeats 1000000 in
theorem told_any (a : Option Addr) (cap : Nat) (b : List UInt8) (g : Nat) (w : World) (h : BV w (.slice a 512 cap) b g) (hl : b.length = 512) :
    Calls Tryz.prog 68 #[.slice a 512 cap] w fun e w' => e = .returned (tagV (Tg.told b)) ∧ Below w.heap.size w w' := by
  have hcap : 512 ≤ cap := by obtain ⟨_, c, e, h1, _⟩ := h.form; injection e with e1 e2 e3; omega
  have hg : g < w.heap.size := h.lt (by rintro rfl; simp at hl)
  have I := Lib.hid (ToldI.start a cap b g w h hg)
  clear h hg
  go_enter Tryz.func68, Tryz.ntmps68
  go_wp2_with fail
  generalize (w.alloc (.cells #[.int .u32 0, .int .u64 0, .int .u64 0, .int .u64 0, .int .i64 0, .int .i64 0, .int .i64 0] 59)).alloc (.cells #[.int .u32 0, .int .u64 0, .int .u64 0, .int .u64 0, .int .i64 0, .int .i64 0, .int .i64 0] 59) = w1 at I ⊢
  refine (fields_any w1).mono ?_
  rintro e w2 ⟨rfl, hb⟩
  replace I := Lib.hid (I.out.next hb)
  clear hb
  generalize hT : w.heap.size + 1 = T at I ⊢
  have HT := Lib.hid hT
  clear hT
  go_wp2_with fail
  go_loopw [4, 8] (fun at_ i wr => ∃ k : Nat, k ≤ 7 ∧ i = .int .i64 k ∧ at_ = .int .i64 (Tg.place k) ∧ ToldI w wr w.heap.size T b k (.slice a 512 cap) g) (fun _ i _ => 7 - (intOf i).toNat)
  case atStart => exact ⟨0, by omega, rfl, rfl, I.out⟩
  case round =>
    obtain ⟨k, hk, rfl, rfl, hI⟩ := hrel
    by_cases hlt : k < 7
    · have hix := index_fields' k hlt
      have hcf := call_set k hlt
      obtain ⟨hpn, hp30, hs8⟩ := place_next k hlt
      have hk7 : (k : Int) < 7 := by omega
      have I := Lib.hid hI
      have hmid := fun W => run_mid W a 512 cap (Tg.place k) (Tg.place (k + 1)) (by omega) (by omega)
      have hmb := I.out.bv.mid (Tg.place k) (Tg.size k) (by omega)
      rw [show Tg.place (k + 1) - Tg.place k = Tg.size k by omega] at hmid
      have hwr : IntKind.i64.wrap ((Tg.place k : Int) + (Tg.size k : Int)) = (Tg.place (k + 1) : Int) := by rw [hpn, IntKind.wrap_i64]; omega
      have hml : ((b.drop (Tg.place k)).take (Tg.size k)).length ≤ 8 := by rw [List.length_take]; omega
      have HML := Lib.hid hml
      have HMB := Lib.hid hmb
      have HWR := Lib.hid hwr
      clear hI hml hmb hpn hwr
      go_wp2_with (with_reducible refine wpList_store_row rfl 102 (.tmp 6) (.tmp 10) rfl wr.heap.size _ rfl rfl 102 _ (heap_alloc_new wr _) (by kernel_rfl) (by kernel_rfl) (by kernel_rfl) ?_)
      rw [setRow_alloc_new]
      have KF := fun (W : World) (ht : Touch (fun j => j = T) (wr.alloc (.cells #[.int .i64 (Tg.size k : Int), .func (.func (getF k)) #[] #[], .func (.func (setF k)) #[] #[]] 102)) W) => told_keep I.out (.int .i64 (Tg.size k : Int)) (.func (.func (getF k)) #[] #[]) (.func (.func (setF k)) #[] #[]) ht
      have hnew : Below wr.heap.size wr (wr.alloc (.cells #[.int .i64 (Tg.size k : Int), .func (.func (getF k)) #[] #[], .func (.func (setF k)) #[] #[]] 102)) := (Below.refl _ wr).alloc (Nat.le_refl _) _
      replace I := Lib.hid (I.out.next hnew)
      replace HMB := Lib.hid (HMB.out.below hnew)
      clear hnew
      generalize wr.alloc (.cells #[.int .i64 (Tg.size k : Int), .func (.func (getF k)) #[] #[], .func (.func (setF k)) #[] #[]] 102) = wq at KF I HMB ⊢
      generalize wr.heap.size = F at KF ⊢
      have K0 := KF wq.drew ((Touch.refl _ wq).drew)
      have HKF := Lib.hid KF
      have HT0 : Touch (fun j => j = T) wq wq.drew := (Touch.refl _ wq).drew
      have HN := Lib.hid (number_any _ _ g wq.drew HMB.out.drew HML.out)
      have HS := Lib.hid (set_any T (Tg.part b k) k (Tg.fld b k) hlt wq.drew I.out.tag (Tg.fld_lt b k))
      have hsp := setT_part b k hlt
      rw [hsp] at HS
      have hwr := HWR.out
      clear KF hix hsp HMB HML
      rw [show Oct.unle ((b.drop (Tg.place k)).take (Tg.size k)) = Tg.fld b k from rfl] at HN
      generalize (if cap = Tg.place k then a else a.map (·.add (Tg.place k))) = am at hmid HN
      have hp0 : (0 : Int) ≤ (Tg.place (k + 1) : Int) := by omega
      simp only [Act.put]
      go_region_held3 (fun W => W.cell? ⟨F, 0, none⟩ = some (.int .i64 (Tg.size k : Int)) ∧ W.cell? ⟨F, 2, none⟩ = some (.func (.func (setF k)) #[] #[])) (exact HKF.out _ (by assumption)) (first
        | (go_at_call 96; refine HN.out.mono ?_; rintro e w4 ⟨rfl, rfl⟩)
        | (refine HS.out.mono ?_; rintro e w5 ⟨rfl, ht5, ht6, hz5⟩; have HT5 : Touch (fun j => j = T) wq w5 := HT0.trans ht5 (fun _ h _ => h)))
      have c5 := (HKF.out w5 HT5).1
      have IW := Lib.hid (I.out.set HT5 ht6)
      clear HT5 HT0 ht5 ht6 hz5 HKF K0 I hcf hmid
      go_wp2
      go_roundw
      case rel => exact ⟨k + 1, by omega, by go_num, rfl, IW.out⟩
      case measure => simp [intOf]; omega
    · obtain rfl : k = 7 := by omega
      obtain ⟨t0, h0⟩ := hI.res
      have ht := hI.tag
      rw [Tg.part_all] at ht
      have I := Lib.hid hI
      have H0 := Lib.hid (show wr.heap[w.heap.size]? = some (.cells (tagC t0) 59 (0, 0)) from h0)
      have HTG := Lib.hid (show wr.heap[T]? = some (.cells (tagC (Tg.told b)) 59 (0, 0)) from ht)
      clear hI h0 ht
      have hk7 : ¬ ((7 : Nat) : Int) < 7 := by decide
      go_wp2_with (first
        | (with_reducible refine wpList_load_row rfl 59 (.tmp 3) rfl T rfl 59 (tagC (Tg.told b)) (0, 0) _ HTG.out Tryz.underlying59 rfl (by kernel_rfl) ?_)
        | (with_reducible refine wpList_store_row rfl 59 (.tmp 2) (.tmp 27) rfl w.heap.size (tagC (Tg.told b)) rfl rfl 59 _ H0.out (by kernel_rfl) (by kernel_rfl) (by kernel_rfl) ?_))
      refine bodyPost_ret (v := tagV (Tg.told b)) (results_cell_row rfl _ _ w.heap.size 59 (tagC (Tg.told b)) (0, 0) _ rfl (setRow_heap wr w.heap.size _ _ 59 (0, 0) H0.out) Tryz.underlying59 rfl (by kernel_rfl)) rfl ⟨rfl, ?_⟩
      exact ((Touch.of_below (F := Emp) I.out.below).setRow (.inr (Nat.le_refl _)) _).below

end Go.Proofs.YthapggobpfcmjaaGreat

namespace Go.Proofs.YthapggobpfcmjaaGreat
open Go.RowKit

set_option maxHeartbeats 400000 in
theorem clone_own (v : Value) (l : List UInt8) (g : Nat) (w : World) (h : BV w v l g) (hl : l.length ≤ 4294967296) (hne : l ≠ []) :
    Calls Tryz.prog 69 #[v] w fun e w' => (∃ v', e = .returned v' ∧ OwnB w.heap.size w' v' l) ∧ Below w.heap.size w w' := by
  obtain ⟨a, cap, rfl, hc, hn⟩ := h.form
  have H := Lib.hid h
  clear h
  cases a with
  | none =>
    obtain rfl := hn rfl
    exact absurd (List.eq_nil_of_length_eq_zero (by omega)) hne
  | some ad =>
    clear hn
    have HNE := Lib.hid hne
    have HA := Lib.hid (H.out.alloc (.cells #[] 5))
    have hq := fun W => Lib.run_eql_slice_nil (P := Tryz.prog) W 39 5 (some ad) l.length cap 0 0 Tryz.underlying39
    clear hne
    go_enter Tryz.func69, Tryz.ntmps69
    go_wp2_with (at_builtin; refine wpList_append_b rfl (.tmp 5) (.tmp 6) rfl w.heap.size (.slice (some ⟨w.heap.size, 0, none⟩) 0 0) [] rfl (own_none w) _ l g rfl HA.out.reads HA.out.nilc (by simp; omega) (by simp) ?_; intro v1 w2 hown hgrow; have HO := Lib.hid hown; have HG := Lib.hid hgrow; clear hown hgrow)
    go_ret
    exact ⟨⟨_, rfl, OwnB.of_own HO.out HNE.out⟩, ((Below.refl w.heap.size w).alloc (Nat.le_refl _) _).grown HG.out (by simp) (by intro k hk; simp [Value.ownBlock] at hk; omega)⟩

theorem equal_any (v1 v2 : Value) (l1 l2 : List UInt8) (g1 g2 : Nat) (w : World) (h1 : BV w v1 l1 g1) (h2 : BV w v2 l2 g2) :
    Calls Tryz.prog 70 #[v1, v2] w fun e w' => e = .returned (.bool (decide (l1 = l2))) ∧ w = w' := by
  have k1 := run_convBytes h1.reads
  have k2 := run_convBytes h2.reads
  go_enter Tryz.func70, Tryz.ntmps70
  go_wp2
  go_ret
  exact ⟨by rw [show decide (l1 = l2) = (l1 == l2) by rw [Bool.eq_iff_iff]; simp]; rfl, rfl⟩

theorem bcell {W w1 : World} (hb : Below W.heap.size W w1) : (∀ b o, b < W.heap.size → w1.cell? ⟨b, o, none⟩ = W.cell? ⟨b, o, none⟩) ∧ (∀ b o, b < W.heap.size → w1.frozen? ⟨b, o, none⟩ = W.frozen? ⟨b, o, none⟩) :=
  ⟨fun b o h => hb.cell (p := ⟨b, o, none⟩) h, fun b o h => hb.frozen (p := ⟨b, o, none⟩) h⟩
theorem run_from32 (w : World) (a : Option Addr) (cap : Nat) : (Instr.sliceAt 39 (.slice a 512 cap) (some (.int .i64 32)) none none).run Tryz.prog w = .ok (.slice (if cap = 32 then a else a.map (·.add 32)) 480 (cap - 32)) w :=
  run_from w a 512 cap 32 (by decide)

theorem tag_new (w : World) : TagAt (w.alloc (.cells #[.int .u32 0, .int .u64 0, .int .u64 0, .int .u64 0, .int .i64 0, .int .i64 0, .int .i64 0] 59)) w.heap.size (Tg.part [] 0) := by
  unfold TagAt; rw [tagC_zero]; exact heap_alloc_new w _
theorem tag_drew (w : World) : TagAt (w.drew.alloc (.cells #[.int .u32 0, .int .u64 0, .int .u64 0, .int .u64 0, .int .i64 0, .int .i64 0, .int .i64 0] 59)) w.heap.size (Tg.part [] 0) := tag_new w.drew
theorem TagAt.below {w w1 : World} {b : Nat} {t : Tg.T} (h : TagAt w b t) (hb : Below w.heap.size w w1) : TagAt w1 b t := h.touch (Touch.of_below (F := Emp) hb) id
theorem TagAt.lt {w : World} {b : Nat} {t : Tg.T} (h : TagAt w b t) : b < w.heap.size := lt_of_heap h
theorem TagAt.frozen {w : World} {b : Nat} {t : Tg.T} (h : TagAt w b t) (j : Nat) : w.frozen? ⟨b, j, none⟩ = false := frozen_of_row w b j _ _ h
/-- A tag that is stored. -/
def stored (w : World) (b : Nat) (t : Tg.T) : World := ((((((w.setCell ⟨b, 0, none⟩ (.int .u32 (t.e : Int))).setCell ⟨b, 1, none⟩ (.int .u64 (t.s : Int))).setCell ⟨b, 2, none⟩ (.int .u64 (t.q : Int))).setCell ⟨b, 3, none⟩ (.int .u64 (t.f : Int))).setCell ⟨b, 4, none⟩ (.int .i64 t.i)).setCell ⟨b, 5, none⟩ (.int .i64 t.c)).setCell ⟨b, 6, none⟩ (.int .i64 t.d)
theorem stored_at {w : World} {b : Nat} {t0 : Tg.T} (t : Tg.T) (h : TagAt w b t0) : TagAt (stored w b t) b t := by
  unfold stored TagAt
  have h0 := heap_setCell_same w b 0 _ _ (.int .u32 (t.e : Int)) h
  have h1 := heap_setCell_same _ b 1 _ _ (.int .u64 (t.s : Int)) h0
  have h2 := heap_setCell_same _ b 2 _ _ (.int .u64 (t.q : Int)) h1
  have h3 := heap_setCell_same _ b 3 _ _ (.int .u64 (t.f : Int)) h2
  have h4 := heap_setCell_same _ b 4 _ _ (.int .i64 t.i) h3
  have h5 := heap_setCell_same _ b 5 _ _ (.int .i64 t.c) h4
  have h6 := heap_setCell_same _ b 6 _ _ (.int .i64 t.d) h5
  rw [h6]; rfl
theorem stored_touch (w : World) (b : Nat) (t : Tg.T) : Touch (fun k => k = b) w (stored w b t) := by
  unfold stored
  exact ((((((((Touch.refl (fun k => k = b) w).setCell (a := ⟨b, 0, none⟩) (.inl rfl) _).setCell (a := ⟨b, 1, none⟩) (.inl rfl) _).setCell (a := ⟨b, 2, none⟩) (.inl rfl) _).setCell (a := ⟨b, 3, none⟩) (.inl rfl) _).setCell (a := ⟨b, 4, none⟩) (.inl rfl) _).setCell (a := ⟨b, 5, none⟩) (.inl rfl) _).setCell (a := ⟨b, 6, none⟩) (.inl rfl) _)
theorem first_bv {w W : World} {v : Value} {l : List UInt8} {g : Nat} (h : BV w v l g) (hb : Below w.heap.size w W) : BV W v l g := h.below hb

/-- The empty tag. -/
def zeroT : Tg.T := ⟨0, 0, 0, 0, 0, 0, 0⟩
abbrev zeroV : Value := .agg #[.int .u32 0, .int .u64 0, .int .u64 0, .int .u64 0, .int .i64 0, .int .i64 0, .int .i64 0]
theorem zero_cells {w : World} {b : Nat} (h : TagAt w b zeroT) : w.cell? ⟨b, 0, none⟩ = some (.int .u32 0) ∧ w.cell? ⟨b, 1, none⟩ = some (.int .u64 0) ∧ w.cell? ⟨b, 2, none⟩ = some (.int .u64 0) ∧
    w.cell? ⟨b, 3, none⟩ = some (.int .u64 0) ∧ w.cell? ⟨b, 4, none⟩ = some (.int .i64 0) ∧ w.cell? ⟨b, 5, none⟩ = some (.int .i64 0) ∧ w.cell? ⟨b, 6, none⟩ = some (.int .i64 0) := h.cells

/-- What Decode goes on from. -/
structure DecI (w wx : World) (T : Nat) (t : Tg.T) (b : List UInt8) (v v5 : Value) (g : Nat) : Prop where
  tag : TagAt wx T t
  res : TagAt wx w.heap.size (Tg.part [] 0)
  bv : BV wx v b g
  own : OwnB (w.heap.size + 1) wx v5 (b.drop 32)
  lo : w.heap.size < T
  below : Below w.heap.size w wx
theorem OwnB.touch {base : Nat} {w w1 : World} {v : Value} {l : List UInt8} {F : Nat → Prop} (h : OwnB base w v l) (ht : Touch F w w1) (hF : ∀ k, F k → k < base ∨ w.heap.size ≤ k) : OwnB base w1 v l := by
  obtain ⟨g, cap, h1, h2, h3, h4⟩ := h
  refine ⟨g, cap, h1, h2, h3, h4.touch ht fun hf => ?_⟩
  have := h4.lt
  rcases hF g hf with h | h <;> omega
theorem OwnB.below {base : Nat} {w w1 : World} {v : Value} {l : List UInt8} (h : OwnB base w v l) (hb : Below w.heap.size w w1) : OwnB base w1 v l :=
  h.touch (Touch.of_below (F := Emp) hb) fun _ hf => hf.elim
theorem DecI.next {w wx w1 : World} {T : Nat} {t : Tg.T} {b : List UInt8} {v v5 : Value} {g : Nat} (h : DecI w wx T t b v v5 g) (hb : Below wx.heap.size wx w1) : DecI w w1 T t b v v5 g :=
  ⟨h.tag.below hb, h.res.below hb, h.bv.below hb, h.own.below hb, h.lo, h.below.trans (hb.mono h.below.size)⟩

section
variable {w w1 w5 : World} {b : List UInt8} {v v5 : Value} {g base T : Nat} {t0 t : Tg.T} (hx : Below w1.heap.size w1 w5) (hv : OwnB base w5 v5 (b.drop 32)) (hz : TagAt w1 w.heap.size (Tg.part [] 0)) (h1 : BV w1 v b g) (hB : Below w.heap.size w w1) (hs : w1.heap.size = w.heap.size + 1) (hb : w1.heap.size ≤ base)
include hx hv hz h1 hB hs hb
theorem DecI.last : DecI w (w5.alloc (.cells (tagC t) 59)) w5.heap.size t b v v5 g :=
  DecI.mk (heap_alloc_new w5 _) ((hz.below hx).below ((Below.refl _ w5).alloc (Nat.le_refl _) _)) ((h1.below hx).alloc _) ((hv.below ((Below.refl _ w5).alloc (Nat.le_refl _) _)).mono (by omega)) (by have := hx.size; omega) ((hB.trans (hx.mono hB.size)).alloc (hB.trans (hx.mono hB.size)).size _)
theorem DecI.late (tg : TagAt w5 T t0) (hT : w1.heap.size ≤ T) (hTb : T < base) (hg : b ≠ [] → g < w1.heap.size) : DecI w (stored w5 T t) T t b v v5 g := by
  have ht := stored_touch w5 T t
  have hbx := hB.trans (hx.mono hB.size)
  exact ⟨stored_at _ tg, (hz.below hx).touch ht (by omega), (h1.below hx).touch ht (fun hl => by have := hg hl; omega), (hv.touch ht (by rintro k rfl; left; exact hTb)).mono (by omega), by omega, hbx.trans (ht.to_below (by rintro k _ rfl; omega) hbx.size)⟩
end

set_option maxRecDepth 100000 in
set_option maxHeartbeats 2000000 in
theorem decode_full (a : Option Addr) (cap : Nat) (b : List UInt8) (g : Nat) (w : World) (h : BV w (.slice a 512 cap) b g) (hl : b.length = 512) :
    Calls Tryz.prog 42 #[.slice a 512 cap] w fun e w' => (Tg.decB b = true ∧ (∃ v', e = .returned (.tuple #[tagV (Tg.told b), v', .int .i64 0]) ∧ OwnB w.heap.size w' v' (b.drop 32)) ∨ Tg.decB b = false ∧ e = .returned (.tuple #[zeroV, .slice none 0 0, .int .i64 4])) ∧ Below w.heap.size w w' := by
  have hfr := fun W => run_from32 W a cap
  have hv := h.drop 32 (by omega)
  have hz : TagAt (w.alloc (.cells #[.int .u32 0, .int .u64 0, .int .u64 0, .int .u64 0, .int .i64 0, .int .i64 0, .int .i64 0] 59)) w.heap.size (Tg.part [] 0) := by
    unfold TagAt; rw [tagC_zero]; exact heap_alloc_new w _
  have HZ := Lib.hid hz
  have hs1 : (w.alloc (.cells #[.int .u32 0, .int .u64 0, .int .u64 0, .int .u64 0, .int .i64 0, .int .i64 0, .int .i64 0] 59)).heap.size = w.heap.size + 1 := by simp
  have HS1 := Lib.hid hs1
  have H1 := Lib.hid (h.alloc (.cells #[.int .u32 0, .int .u64 0, .int .u64 0, .int .u64 0, .int .i64 0, .int .i64 0, .int .i64 0] 59))
  have HB := Lib.hid ((Below.refl w.heap.size w).alloc (Nat.le_refl _) (.cells #[.int .u32 0, .int .u64 0, .int .u64 0, .int .u64 0, .int .i64 0, .int .i64 0, .int .i64 0] 59))
  have HL := Lib.hid hl
  have hdl : (b.drop 32).length = 480 := by rw [List.length_drop, hl]
  have HDL := Lib.hid hdl
  have HNE := Lib.hid (show b.drop 32 ≠ [] from fun e => by rw [e] at hdl; cases hdl)
  have htd := fun (W : World) (hW : BV W (.slice a 512 cap) b g) => told_any a cap b g W hW hl
  have hdb : Tg.decB b = (Tg.rightB (Tg.told b) && (Tg.enc (Tg.told b) (b.drop 32) == b)) := rfl
  have hte := Tg.told_e b
  generalize Tg.told b = tt at htd hdb hte ⊢
  have HTD := Lib.hid htd
  have HDB := Lib.hid hdb
  have HTE := Lib.hid hte
  clear h hz hs1 hl hv hdl htd hdb hte
  go_enter Tryz.func42, Tryz.ntmps42
  go_upto_region 3 with fail
  generalize w.alloc (.cells #[.int .u32 0, .int .u64 0, .int .u64 0, .int .u64 0, .int .i64 0, .int .i64 0, .int .i64 0] 59) = w1 at HZ HS1 H1 HB ⊢
  have hb0 : Below w1.heap.size w1 w1.drew := (Below.refl _ w1).drew
  have hbz : Below w1.heap.size w1 (w1.drew.alloc (.cells #[.int .u32 0, .int .u64 0, .int .u64 0, .int .u64 0, .int .i64 0, .int .i64 0, .int .i64 0] 59)) := hb0.alloc (Nat.le_refl _) _
  have HB0 := Lib.hid hb0
  have HBZ := Lib.hid hbz
  clear hb0 hbz
  generalize hm : (if cap = 32 then a else a.map (·.add 32)) = am at hfr
  have HM := Lib.hid hm
  clear hm
  go_cut [5, 6] (fun p5 v6 wx => ∃ T, p5 = .pointer (some ⟨T, 0, none⟩) ∧ DecI w wx T tt b (.slice a 512 cap) v6 g)
  case first =>
    go_region_held3 (fun _ => True) (trivial) (first
      | (go_at_call 68; refine (HTD.out _ (first_bv H1.out (by first | exact HB0.out | exact HBZ.out))).mono ?_; rintro e w4 ⟨rfl, hb4⟩; (try have tg4 := (tag_drew w1).below hb4); have X4 : Below w1.heap.size w1 w4 := (by first | exact HB0.out.trans (hb4.mono HB0.out.size) | exact HBZ.out.trans (hb4.mono HBZ.out.size)); have H4 := Lib.hid (((first_bv H1.out (by first | exact HB0.out | exact HBZ.out)).below hb4).drop 32 (by decide)); rw [HM.out] at H4)
      | (go_at_call 69; refine (clone_own _ (b.drop 32) g _ (by first | exact H4.out | exact H4.out.alloc _) (by rw [HDL.out]; decide) HNE.out).mono ?_; rintro e w5 ⟨⟨v5, rfl, hv5⟩, hb5⟩; have X5 : Below w1.heap.size w1 w5 := (by first | exact X4.trans (hb5.mono X4.size) | exact (X4.alloc X4.size _).trans (hb5.mono (X4.alloc X4.size _).size)); (first | (have tg5 := tg4.below hb5; obtain ⟨d0, d1, d2, d3, d4, d5, d6⟩ := tg5.cells; have fz := tg5.frozen) | (have tg5 := (tag_new w4).below hb5; obtain ⟨d0, d1, d2, d3, d4, d5, d6⟩ := tg5.cells; have fz := tg5.frozen) | skip)))
    · go_wp2_with fail
      go_meet
      exact ⟨_, rfl, DecI.last X5 hv5 HZ.out H1.out HB.out HS1.out X4.size⟩
    · go_wp2_with fail
      go_meet
      exact ⟨_, rfl, DecI.late X5 hv5 HZ.out H1.out HB.out HS1.out (Nat.le_trans X4.size (by simp)) tg5 X4.size (by simp) H1.out.lt⟩
    · go_wp2_with fail
      go_meet
      exact ⟨_, rfl, DecI.late X5 hv5 HZ.out H1.out HB.out HS1.out X4.size tg5 (Nat.le_refl _) tg4.lt H1.out.lt⟩
  case rest =>
    obtain ⟨T, rfl, hI⟩ := hcut
    have I := Lib.hid hI
    obtain ⟨c0, c1, c2, c3, c4, c5, c6⟩ := hI.tag.cells
    obtain ⟨g5, hv5, hg5⟩ := hI.own.bv
    obtain ⟨a5, cap5, rfl, -⟩ := hv5.form
    have V5 := Lib.hid hv5
    clear hI hv5 H1 HB HB0 HBZ HTD HM HS1 HZ hfr hg5
    by_cases hr : Tg.rightB tt = true
    · have E := Lib.hid (encode_ok tt _ (b.drop 32) g5 wc hr HTE.out V5.out HDL.out)
      have HR := Lib.hid hr
      clear hr
      rw [HDL.out] at E I ⊢
      go_wp2_with fail
      refine E.out.mono ?_
      rintro e w6 ⟨⟨v6, rfl, ho6⟩, hb6⟩
      replace I := Lib.hid (I.out.next hb6)
      obtain ⟨g6, hv6, -⟩ := ho6.bv
      have Q := Lib.hid (equal_any v6 (.slice a 512 cap) _ b g6 g w6 hv6 I.out.bv)
      clear E ho6 hb6 hv6 V5 c0 c1 c2 c3 c4 c5 c6
      generalize Tg.enc tt (b.drop 32) = en at Q HDB
      go_wp2_with fail
      refine Q.out.mono ?_
      rintro e w7 ⟨rfl, rfl⟩
      clear Q
      obtain ⟨c0, c1, c2, c3, c4, c5, c6⟩ := I.out.tag.cells
      obtain ⟨d0, d1, d2, d3, d4, d5, d6⟩ := I.out.res.cells
      have fz := I.out.res.frozen
      by_cases he : en = b
      · have HE := Lib.hid he
        have hde : decide (en = b) = true := by simpa using he
        clear he
        go_wp2
        have hst := stored_at tt I.out.res
        have htc := stored_touch w6 w.heap.size tt
        have hown := I.out.own.touch htc (by rintro k rfl; left; omega)
        have hbl := I.out.below.trans (htc.to_below (by rintro k _ rfl; exact Nat.le_refl _) I.out.below.size)
        change bodyPost _ _ _ _ _ (stored w6 w.heap.size tt)
        generalize stored w6 w.heap.size tt = w8 at hst hown hbl ⊢
        obtain ⟨s0, s1, s2, s3, s4, s5, s6⟩ := hst.cells
        refine bodyPost_ret (v := .tuple #[tagV tt, .slice a5 480 cap5, .int .i64 0]) (by simp [results, Tryz.results42, go_sem, s0, s1, s2, s3, s4, s5, s6]) rfl ⟨.inl ⟨by rw [HDB.out, HR.out, HE.out]; simp, _, rfl, hown.mono (by omega)⟩, hbl⟩
      · have HE := Lib.hid he
        have hde : decide (en = b) = false := by simpa using he
        clear he
        go_wp2
        have hst := stored_at zeroT I.out.res
        have htc := stored_touch w6 w.heap.size zeroT
        have hbl := I.out.below.trans (htc.to_below (by rintro k _ rfl; exact Nat.le_refl _) I.out.below.size)
        change bodyPost _ _ _ _ _ (stored w6 w.heap.size zeroT)
        generalize stored w6 w.heap.size zeroT = w8 at hst hbl ⊢
        obtain ⟨s0, s1, s2, s3, s4, s5, s6⟩ := zero_cells hst
        refine bodyPost_ret (v := .tuple #[zeroV, .slice none 0 0, .int .i64 4]) (by simp [results, Tryz.results42, go_sem, s0, s1, s2, s3, s4, s5, s6]) rfl ⟨.inr ⟨by rw [HDB.out]; simp [HE.out], rfl⟩, hbl⟩
    · rw [Bool.not_eq_true] at hr
      have E := Lib.hid (encode_no tt a5 (b.drop 32).length cap5 wc (.inl hr))
      have HR := Lib.hid hr
      clear hr
      rw [HDL.out] at E I ⊢
      go_wp2_with fail
      refine E.out.mono ?_
      rintro e w6 ⟨rfl, hb6⟩
      replace I := Lib.hid (I.out.next hb6)
      have Q := Lib.hid (equal_any (.slice none 0 0) (.slice a 512 cap) _ b 0 g w6 (BV.nil w6 0) I.out.bv)
      have hnb : decide ([] = b) = false := by
        simp only [decide_eq_false_iff_not]
        intro h; have := HL.out; rw [← h] at this; cases this
      rw [hnb] at Q
      clear E hb6 V5 c0 c1 c2 c3 c4 c5 c6 hnb
      go_wp2_with fail
      refine Q.out.mono ?_
      rintro e w7 ⟨rfl, rfl⟩
      clear Q
      obtain ⟨d0, d1, d2, d3, d4, d5, d6⟩ := I.out.res.cells
      have fz := I.out.res.frozen
      go_wp2
      have hst := stored_at zeroT I.out.res
      have htc := stored_touch w6 w.heap.size zeroT
      have hbl := I.out.below.trans (htc.to_below (by rintro k _ rfl; exact Nat.le_refl _) I.out.below.size)
      change bodyPost _ _ _ _ _ (stored w6 w.heap.size zeroT)
      generalize stored w6 w.heap.size zeroT = w8 at hst hbl ⊢
      obtain ⟨s0, s1, s2, s3, s4, s5, s6⟩ := zero_cells hst
      refine bodyPost_ret (v := .tuple #[zeroV, .slice none 0 0, .int .i64 4]) (by simp [results, Tryz.results42, go_sem, s0, s1, s2, s3, s4, s5, s6]) rfl ⟨.inr ⟨by rw [HDB.out, HR.out]; rfl, rfl⟩, hbl⟩

theorem decode_short (a : Option Addr) (n cap : Nat) (w : World) (hn : n ≠ 512) :
    Calls Tryz.prog 42 #[.slice a n cap] w fun e w' => e = .returned (.tuple #[zeroV, .slice none 0 0, .int .i64 4]) ∧ Below w.heap.size w w' := by
  go_enter Tryz.func42, Tryz.ntmps42
  go_wp2
  exact bodyPost_ret (v := .tuple #[zeroV, .slice none 0 0, .int .i64 4]) (by simp [results, Tryz.results42, go_sem]) rfl ⟨rfl, (Below.refl _ _).alloc (Nat.le_refl _) _⟩

end Go.Proofs.YthapggobpfcmjaaGreat
