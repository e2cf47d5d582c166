/- told. No condition. -/
import Derived.Test.YtijkgihgpchcfaaTge
namespace Go.Proofs.Ytijkgihgpchcfaa
open Go.RowKit

theorem run_mid (w : World) (a : Option Addr) (n cap p q : Nat) (hp : p ≤ q) (hq : q ≤ cap) :
    (Instr.sliceAt 26 (.slice a n cap) (some (.int .i64 (p : Int))) (some (.int .i64 (q : Int))) none).run Try.prog w = .ok (.slice (if cap = p then a else a.map (·.add p)) (q - p) (cap - p)) w := by
  have hu : Try.prog.underlying 26 = some (.slice (Try.prog.elem 26)) := by rw [elemBytes]; exact Try.underlying26
  rw [run_sliceAt_slice w _ _ _ _ _ hu, run_slice_lh w _ a n cap hu .i64 .i64 p q (by omega) (by omega) (by omega), elemBytes, sizeByte]
  simp [Result.andThen, sliced]
theorem BV.mid {w : World} {l : List UInt8} {g : Nat} {a : Option Addr} {n cap : Nat} (h : BV w (.slice a n cap) l g) (p k : Nat) (hp : p + k ≤ n) : BV w (.slice (if cap = p then a else a.map (·.add p)) k (cap - p)) ((l.drop p).take k) g := by
  have hf : n ≤ cap := by obtain ⟨_, _, e, h1, _⟩ := h.form; cases e; exact h1
  exact (h.drop p (by omega)).take k (by omega) _ (by omega) (Nat.le_refl _)
theorem place_next (k : Nat) (hk : k < 7) : Tg.place (k + 1) = Tg.place k + Tg.size k ∧ Tg.place k + Tg.size k ≤ 30 ∧ Tg.size k ≤ 8 := by
  have : k = 0 ∨ k = 1 ∨ k = 2 ∨ k = 3 ∨ k = 4 ∨ k = 5 ∨ k = 6 := by omega
  rcases this with rfl | rfl | rfl | rfl | rfl | rfl | rfl <;> decide

/-- What a round of told goes on from. -/
structure ToldI (w wr : World) (B T : Nat) (b : List UInt8) (k : Nat) (v : Value) (g : Nat) : Prop where
  res : ∃ t0, TagAt wr B t0
  tag : TagAt wr T (Tg.part b k)
  bv : BV wr v b g
  below : Below w.heap.size w wr
  lo : w.heap.size ≤ B ∧ B < T ∧ g < w.heap.size
theorem ToldI.next {w wr w1 : World} {B T : Nat} {b : List UInt8} {k : Nat} {v : Value} {g : Nat} (h : ToldI w wr B T b k v g) (hb : Below wr.heap.size wr w1) : ToldI w w1 B T b k v g := by
  obtain ⟨t0, h0⟩ := h.res
  exact ⟨⟨t0, h0.touch (Touch.of_below (F := Emp) hb) id⟩, h.tag.touch (Touch.of_below (F := Emp) hb) id, h.bv.below hb, h.below.trans (hb.mono h.below.size), h.lo⟩
theorem ToldI.set {w wr w1 : World} {B T : Nat} {b : List UInt8} {k k' : Nat} {v : Value} {g : Nat} (h : ToldI w wr B T b k v g) (ht : Touch (fun j => j = T) wr w1) (h1 : TagAt w1 T (Tg.part b k')) : ToldI w w1 B T b k' v g := by
  obtain ⟨t0, h0⟩ := h.res
  have hl := h.lo
  exact ⟨⟨t0, h0.touch ht (by omega)⟩, h1, h.bv.touch ht fun _ => by omega, h.below.trans (ht.to_below (by rintro k _ rfl; omega) h.below.size), h.lo⟩
theorem tagC_zero (b : List UInt8) : tagC (Tg.part b 0) = #[.int .u32 0, .int .u64 0, .int .u64 0, .int .u64 0, .int .i64 0, .int .i64 0, .int .i64 0] := by simp [tagC, Tg.part]
theorem ToldI.start (a : Option Addr) (cap : Nat) (b : List UInt8) (g : Nat) (w : World) (h : BV w (.slice a 512 cap) b g) (hg : g < w.heap.size) : ToldI w ((w.alloc (.cells #[.int .u32 0, .int .u64 0, .int .u64 0, .int .u64 0, .int .i64 0, .int .i64 0, .int .i64 0] 25)).alloc (.cells #[.int .u32 0, .int .u64 0, .int .u64 0, .int .u64 0, .int .i64 0, .int .i64 0, .int .i64 0] 25)) w.heap.size (w.heap.size + 1) b 0 (.slice a 512 cap) g := by
  have h1 : TagAt (w.alloc (.cells #[.int .u32 0, .int .u64 0, .int .u64 0, .int .u64 0, .int .i64 0, .int .i64 0, .int .i64 0] 25)) w.heap.size (Tg.part b 0) := by
    unfold TagAt; rw [tagC_zero]; exact heap_alloc_new w _
  have hs : (w.alloc (.cells #[.int .u32 0, .int .u64 0, .int .u64 0, .int .u64 0, .int .i64 0, .int .i64 0, .int .i64 0] 25)).heap.size = w.heap.size + 1 := by simp
  have h2 := (Below.refl w.heap.size w).alloc (Nat.le_refl _) (.cells #[.int .u32 0, .int .u64 0, .int .u64 0, .int .u64 0, .int .i64 0, .int .i64 0, .int .i64 0] 25)
  have h3 := h.alloc (.cells #[.int .u32 0, .int .u64 0, .int .u64 0, .int .u64 0, .int .i64 0, .int .i64 0, .int .i64 0] 25)
  generalize w.alloc (.cells #[.int .u32 0, .int .u64 0, .int .u64 0, .int .u64 0, .int .i64 0, .int .i64 0, .int .i64 0] 25) = w1 at h1 hs h2 h3 ⊢
  have ha : Touch Emp w1 (w1.alloc (.cells #[.int .u32 0, .int .u64 0, .int .u64 0, .int .u64 0, .int .i64 0, .int .i64 0, .int .i64 0] 25)) := (Touch.refl Emp w1).alloc _
  refine ⟨⟨_, h1.touch ha id⟩, ?_, h3.alloc _, h2.alloc h2.size _, Nat.le_refl _, by omega, hg⟩
  unfold TagAt
  rw [tagC_zero, ← hs]
  exact heap_alloc_new w1 _
theorem told_keep {w wr W : World} {B T : Nat} {b : List UInt8} {k : Nat} {v : Value} {g : Nat} (h : ToldI w wr B T b k v g) (c0 c1 c2 : Value) (ht : Touch (fun k => k = T) (wr.alloc (.cells #[c0, c1, c2] 46)) W) : W.cell? ⟨wr.heap.size, 0, none⟩ = some c0 ∧ W.cell? ⟨wr.heap.size, 2, none⟩ = some c2 := by
  have hF := ht.at (k := wr.heap.size) (heap_alloc_new wr _) (fun e => by have := lt_of_heap h.tag; omega)
  exact ⟨by rw [cell_of_row W _ _ _ _ _ hF]; rfl, by rw [cell_of_row W _ _ _ _ _ hF]; rfl⟩

set_option maxRecDepth 100000 in
set_option maxHeartbeats 1000000 in
theorem told_any (a : Option Addr) (cap : Nat) (b : List UInt8) (g : Nat) (w : World) (h : BV w (.slice a 512 cap) b g) (hl : b.length = 512) :
    Calls Try.prog 18 #[.slice a 512 cap] w fun e w' => e = .returned (tagV (Tg.told b)) ∧ Below w.heap.size w w' := by
  have hcap : 512 ≤ cap := by obtain ⟨_, c, e, h1, _⟩ := h.form; injection e with e1 e2 e3; omega
  have hg : g < w.heap.size := h.lt (by rintro rfl; simp at hl)
  have I := Lib.hid (ToldI.start a cap b g w h hg)
  clear h hg
  go_enter Try.func18, Try.ntmps18
  go_wp2_with fail
  generalize (w.alloc (.cells #[.int .u32 0, .int .u64 0, .int .u64 0, .int .u64 0, .int .i64 0, .int .i64 0, .int .i64 0] 25)).alloc (.cells #[.int .u32 0, .int .u64 0, .int .u64 0, .int .u64 0, .int .i64 0, .int .i64 0, .int .i64 0] 25) = w1 at I ⊢
  refine (fields_any w1).mono ?_
  rintro e w2 ⟨rfl, hb⟩
  replace I := Lib.hid (I.out.next hb)
  clear hb
  generalize hT : w.heap.size + 1 = T at I ⊢
  have HT := Lib.hid hT
  clear hT
  go_wp2_with fail
  go_loopw [4, 8] (fun at_ i wr => ∃ k : Nat, k ≤ 7 ∧ i = .int .i64 k ∧ at_ = .int .i64 (Tg.place k) ∧ ToldI w wr w.heap.size T b k (.slice a 512 cap) g) (fun _ i _ => 7 - (intOf i).toNat)
  case atStart => exact ⟨0, by omega, rfl, rfl, I.out⟩
  case round =>
    obtain ⟨k, hk, rfl, rfl, hI⟩ := hrel
    by_cases hlt : k < 7
    · have hix := index_fields' k hlt
      have hcf := call_set k hlt
      obtain ⟨hpn, hp30, hs8⟩ := place_next k hlt
      have hk7 : (k : Int) < 7 := by omega
      have I := Lib.hid hI
      have hmid := fun W => run_mid W a 512 cap (Tg.place k) (Tg.place (k + 1)) (by omega) (by omega)
      have hmb := I.out.bv.mid (Tg.place k) (Tg.size k) (by omega)
      rw [show Tg.place (k + 1) - Tg.place k = Tg.size k by omega] at hmid
      have hwr : IntKind.i64.wrap ((Tg.place k : Int) + (Tg.size k : Int)) = (Tg.place (k + 1) : Int) := by rw [hpn, IntKind.wrap_i64]; omega
      have hml : ((b.drop (Tg.place k)).take (Tg.size k)).length ≤ 8 := by rw [List.length_take]; omega
      have HML := Lib.hid hml
      have HMB := Lib.hid hmb
      have HWR := Lib.hid hwr
      clear hI hml hmb hpn hwr
      go_wp2_with (with_reducible refine wpList_store_row rfl 46 (.tmp 6) (.tmp 10) rfl wr.heap.size _ rfl rfl 46 _ (heap_alloc_new wr _) (by kernel_rfl) (by kernel_rfl) (by kernel_rfl) ?_)
      rw [setRow_alloc_new]
      have KF := fun (W : World) (ht : Touch (fun j => j = T) (wr.alloc (.cells #[.int .i64 (Tg.size k : Int), .func (.func (getF k)) #[] #[], .func (.func (setF k)) #[] #[]] 46)) W) => told_keep I.out (.int .i64 (Tg.size k : Int)) (.func (.func (getF k)) #[] #[]) (.func (.func (setF k)) #[] #[]) ht
      have hnew : Below wr.heap.size wr (wr.alloc (.cells #[.int .i64 (Tg.size k : Int), .func (.func (getF k)) #[] #[], .func (.func (setF k)) #[] #[]] 46)) := (Below.refl _ wr).alloc (Nat.le_refl _) _
      replace I := Lib.hid (I.out.next hnew)
      replace HMB := Lib.hid (HMB.out.below hnew)
      clear hnew
      generalize wr.alloc (.cells #[.int .i64 (Tg.size k : Int), .func (.func (getF k)) #[] #[], .func (.func (setF k)) #[] #[]] 46) = wq at KF I HMB ⊢
      generalize wr.heap.size = F at KF ⊢
      have K0 := KF wq.drew ((Touch.refl _ wq).drew)
      have HKF := Lib.hid KF
      have HT0 : Touch (fun j => j = T) wq wq.drew := (Touch.refl _ wq).drew
      have HN := Lib.hid (number_any _ _ g wq.drew HMB.out.drew HML.out)
      have HS := Lib.hid (set_any T (Tg.part b k) k (Tg.fld b k) hlt wq.drew I.out.tag (Tg.fld_lt b k))
      have hsp := setT_part b k hlt
      rw [hsp] at HS
      have hwr := HWR.out
      clear KF hix hsp HMB HML
      rw [show Oct.unle ((b.drop (Tg.place k)).take (Tg.size k)) = Tg.fld b k from rfl] at HN
      generalize (if cap = Tg.place k then a else a.map (·.add (Tg.place k))) = am at hmid HN
      have hp0 : (0 : Int) ≤ (Tg.place (k + 1) : Int) := by omega
      simp only [Act.put]
      go_region_held3 (fun W => W.cell? ⟨F, 0, none⟩ = some (.int .i64 (Tg.size k : Int)) ∧ W.cell? ⟨F, 2, none⟩ = some (.func (.func (setF k)) #[] #[])) (exact HKF.out _ (by assumption)) (first
        | (go_at_call 36; refine HN.out.mono ?_; rintro e w4 ⟨rfl, rfl⟩)
        | (refine HS.out.mono ?_; rintro e w5 ⟨rfl, ht5, ht6, hz5⟩; have HT5 : Touch (fun j => j = T) wq w5 := HT0.trans ht5 (fun _ h _ => h)))
      have c5 := (HKF.out w5 HT5).1
      have IW := Lib.hid (I.out.set HT5 ht6)
      clear HT5 HT0 ht5 ht6 hz5 HKF K0 I hcf hmid
      go_wp2
      go_roundw
      case rel => exact ⟨k + 1, by omega, by go_num, rfl, IW.out⟩
      case measure => simp [intOf]; omega
    · obtain rfl : k = 7 := by omega
      obtain ⟨t0, h0⟩ := hI.res
      have ht := hI.tag
      rw [Tg.part_all] at ht
      have I := Lib.hid hI
      have H0 := Lib.hid (show wr.heap[w.heap.size]? = some (.cells (tagC t0) 25 (0, 0)) from h0)
      have HTG := Lib.hid (show wr.heap[T]? = some (.cells (tagC (Tg.told b)) 25 (0, 0)) from ht)
      clear hI h0 ht
      have hk7 : ¬ ((7 : Nat) : Int) < 7 := by decide
      go_wp2_with (first
        | (with_reducible refine wpList_load_row rfl 25 (.tmp 3) rfl T rfl 25 (tagC (Tg.told b)) (0, 0) _ HTG.out Try.underlying25 rfl (by kernel_rfl) ?_)
        | (with_reducible refine wpList_store_row rfl 25 (.tmp 2) (.tmp 27) rfl w.heap.size (tagC (Tg.told b)) rfl rfl 25 _ H0.out (by kernel_rfl) (by kernel_rfl) (by kernel_rfl) ?_))
      refine bodyPost_ret (v := tagV (Tg.told b)) (results_cell_row rfl _ _ w.heap.size 25 (tagC (Tg.told b)) (0, 0) _ rfl (setRow_heap wr w.heap.size _ _ 25 (0, 0) H0.out) Try.underlying25 rfl (by kernel_rfl)) rfl ⟨rfl, ?_⟩
      exact ((Touch.of_below (F := Emp) I.out.below).setRow (.inr (Nat.le_refl _)) _).below

end Go.Proofs.Ytijkgihgpchcfaa
