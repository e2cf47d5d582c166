/- What the places of a device tell: tags. Over a device that is up, and one that is down. -/
import Derived.Test.YthapggobpfcmjaaRpw
import Derived.Test.YthapggobpfcmjaaDvm
set_option maxRecDepth 100000
namespace Go.Proofs.Ythapggobpfcmjaa
namespace Rp
open Go.RowKit

/-- A device in memory, in blocks that there are. -/
structure DvF (w : World) (F : Nat → Prop) (b : Nat) (s : DSt) : Prop where
  dev : Dev w F b s
  lt : ∀ k, F k → k < w.heap.size
theorem DvF.touch {w w1 : World} {F G : Nat → Prop} {b : Nat} {s : DSt} (h : DvF w F b s) (ht : Touch G w w1) (hd : ∀ k, F k → ¬ G k) : DvF w1 F b s :=
  ⟨h.dev.touch ht hd, fun k hk => Nat.lt_of_lt_of_le (h.lt k hk) ht.size⟩
theorem DvF.below {w w1 : World} {F : Nat → Prop} {b : Nat} {s : DSt} (h : DvF w F b s) (hb : Below w.heap.size w w1) : DvF w1 F b s := h.touch (Touch.of_below (F := Emp) hb) fun _ _ => id
def moreR (s : DSt) (n : Nat) : DSt := { s with reads := s.reads + n }
theorem moreR_zero (s : DSt) : moreR s 0 = s := rfl
theorem moreR_up {s : DSt} (h : s.Up) (n : Nat) : (moreR s n).Up := ⟨h.down, h.armed, h.nod, h.fits⟩
/-- What a place tells. -/
def foundAt (s : DSt) (N : Nat) (p : Nat) : Option Fo := if (s.look (p + 1)).1 = 0 ∧ Tg.decB (s.look (p + 1)).2 = true ∧ (Tg.told (s.look (p + 1)).2).d < (N : Int) then some (Tg.told (s.look (p + 1)).2, p) else none
def foundL (s : DSt) (N k : Nat) : List Fo := (List.range k).filterMap (foundAt s N)
theorem foundL_succ (s : DSt) (N k : Nat) : foundL s N (k + 1) = foundL s N k ++ (foundAt s N k).toList := by
  unfold foundL
  rw [List.range_succ, List.filterMap_append]
  cases h : foundAt s N k <;> simp [h]
theorem foundL_len (s : DSt) (N k : Nat) : (foundL s N k).length ≤ k := by
  have := List.length_filterMap_le (foundAt s N) (List.range k)
  simpa [foundL] using this
theorem foundL_right (s : DSt) (N k : Nat) : RightL (foundL s N k) ∧ EpL (foundL s N k) ∧ (∀ x ∈ foundL s N k, x.1.d < (N : Int)) ∧ ∀ x ∈ foundL s N k, x.2 < k := by
  have h : ∀ x ∈ foundL s N k, ∃ p, p < k ∧ foundAt s N p = some x := fun x hx => by
    obtain ⟨p, hp, e⟩ := List.mem_filterMap.1 hx
    exact ⟨p, by simpa using hp, e⟩
  refine ⟨fun x hx => ?_, fun x hx => ?_, fun x hx => ?_, fun x hx => ?_⟩ <;>
  · obtain ⟨p, hp, e⟩ := h x hx
    unfold foundAt at e
    split at e
    · rename_i hc
      simp only [Option.some.injEq] at e
      subst e
      first
        | exact ((Tg.dec_iff _).1 hc.2.1).1
        | exact Tg.told_e _
        | exact hc.2.2
        | exact hp
    · cases e

set_option maxHeartbeats 400000 in
theorem sector_ok (p : Nat) (hp : p ≤ 1048576) (w : World) : Calls Try.prog 50 #[.int .i64 (p : Int)] w fun e w' => e = .returned (.int .i64 ((p + 1 : Nat) : Int)) ∧ w = w' := by
  have hp1 : (p : Int) ≤ 1048576 := by omega
  go_enter Try.func50, Try.ntmps50
  go_wp2
  go_ret
  exact ⟨by simp, rfl⟩

/-- While tags runs. -/
structure TaI (w : World) (F : Nat → Prop) (b : Nat) (s : DSt) (N k : Nat) (o : Value) (wr : World) : Prop where
  own : wr.ownsRow w.heap.size 96 8 o (foundL s N k).length ((foundL s N k).flatMap foC)
  dev : DvF wr F b (moreR s k)
  tch : Touch F w wr

set_option maxHeartbeats 8000000 in
theorem tags_ok {w : World} {F : Nat → Prop} {b : Nat} {s : DSt} (h : DvF w F b s) (hu : s.Up) (P N : Nat) (hP : P + 1 ≤ s.secs.length) (hP2 : P ≤ 1048576) (hN : N ≤ 3840) (hf : (moreR s P).Fit) :
    Calls Try.prog 27 #[.pointer (some ⟨b, 0, none⟩), .int .i64 (P : Int), .int .i64 (N : Int)] w fun e w' =>
      (∃ o, e = .returned (.tuple #[o, .int .i64 0]) ∧ w'.ownsRow w.heap.size 96 8 o (foundL s N P).length ((foundL s N P).flatMap foC)) ∧ Touch F w w' ∧ DvF w' F b (moreR s P) := by
  have H := Lib.hid h
  have HU := Lib.hid hu
  have HF := Lib.hid hf
  have hN0 : (N : Int) ≤ 3840 := by omega
  obtain ⟨i0, hi, hz0, hz1, hz2⟩ := info_parts Try.infoFo
  have I0 : TaI w F b s N 0 (.slice none 0 0) w := ⟨World.ownsRow_nil _ _ _ _, h, Touch.refl _ _⟩
  have HI0 := Lib.hid I0
  clear h hu hf I0
  go_enter Try.func27, Try.ntmps27
  go_wp2
  go_loopw [15, 8] (fun i o wr => ∃ (k : Nat) (o' : Value), k ≤ P ∧ i = .int .i64 k ∧ o = o' ∧ TaI w F b s N k o' wr) (fun i _ _ => P - (intOf i).toNat)
  case atStart => exact ⟨0, _, Nat.zero_le _, rfl, rfl, HI0.out⟩
  case round =>
    obtain ⟨k, o', hk, rfl, ho, hI⟩ := hrel
    replace ho := ho.symm
    subst ho
    by_cases hlt : k < P
    · have hk' : (k : Int) < (P : Int) := by omega
      have SC := Lib.hid (sector_ok k (by omega) wr)
      have hup := moreR_up HU.out k
      have hrd := hup.readR (at_ := k + 1) (by show k + 1 < s.secs.length; omega)
      have RD := read_any hI.dev.dev (by have := HF.out; simp only [DSt.Fit, moreR] at this ⊢; omega) hI.dev.lt ((k + 1 : Nat) : Int)
      rw [hrd.1, hrd.2, show (moreR s k).look (k + 1) = s.look (k + 1) from rfl, show (moreR s k).incR = moreR s (k + 1) from rfl] at RD
      have hfs := foundL_succ s N k
      have hfa : foundAt s N k = if (s.look (k + 1)).1 = 0 ∧ Tg.decB (s.look (k + 1)).2 = true ∧ (Tg.told (s.look (k + 1)).2).d < (N : Int) then some (Tg.told (s.look (k + 1)).2, k) else none := rfl
      have hlk : (s.look (k + 1)).1 = 0 ∨ (s.look (k + 1)).1 = 3 := by
        unfold DSt.look
        split
        · exact .inl rfl
        · split
          · exact .inr rfl
          · exact .inl rfl
      generalize s.look (k + 1) = lk at RD hfa hlk
      obtain ⟨er, data⟩ := lk
      simp only at RD hfa hlk
      have RD := Lib.hid RD
      have HI := Lib.hid hI
      have HFS := Lib.hid hfs
      have HFA := Lib.hid hfa
      clear hI hup hrd hfs hfa
      rcases hlk with rfl | rfl
      · have STEP : ∀ (W : World) (o2 : Value), Touch F wr W → DvF W F b (moreR s (k + 1)) → W.ownsRow w.heap.size 96 8 o2 (foundL s N (k + 1)).length ((foundL s N (k + 1)).flatMap foC) → TaI w F b s N (k + 1) o2 W := fun W o2 h1 h2 h3 => ⟨h3, h2, HI.out.tch.trans h1 fun _ h _ => h⟩
        have HST := Lib.hid STEP
        clear STEP
        go_wp2_with fail
        refine SC.out.mono ?_
        rintro e w1 ⟨rfl, rfl⟩
        go_wp2_with fail
        refine RD.out.mono ?_
        rintro e w2 ⟨v, rfl, ht, hd, hv⟩
        have hdv : DvF w2 F b (moreR s (k + 1)) := ⟨hd, fun j hj => Nat.lt_of_lt_of_le (HI.out.dev.lt j hj) ht.size⟩
        have how : w2.ownsRow w.heap.size 96 8 o' (foundL s N k).length ((foundL s N k).flatMap foC) := ownsRow_touch HI.out.own ht fun j hj hF => by have := (HI.out.own.lt j hj).1; have := H.out.lt j hF; omega
        have HD := Lib.hid (And.intro ht (And.intro hdv how))
        have hnone : foundAt s N k = none → foundL s N (k + 1) = foundL s N k := fun e => by rw [HFS.out, e]; simp
        have HNO := Lib.hid hnone
        clear ht hd hdv how hnone
        have NO : ∀ (W : World), foundAt s N k = none → Below w2.heap.size w2 W → TaI w F b s N (k + 1) o' W := fun W e hb => by
          obtain ⟨h1, h2, h3⟩ := HD.out
          refine HST.out W o' (h1.trans (Touch.of_below (F := Emp) hb) fun _ h _ => h.elim) (h2.below hb) ?_
          rw [HNO.out e]
          exact ownsRow_touch h3 (Touch.of_below (F := Emp) hb) fun _ _ => id
        have HNN := Lib.hid NO
        clear NO
        rcases hv with ⟨rfl, hd0⟩ | ⟨gb, rfl, -, hrow, hl512⟩
        · have DE := Lib.hid (decode_short none 0 0 w2 (by omega))
          have HN0 := Lib.hid (show foundAt s N k = none by
            rw [HFA.out, if_neg]
            rintro ⟨-, h, -⟩
            rw [hd0] at h
            exact absurd h (by decide))
          clear hd0
          go_wp2_with fail
          refine DE.out.mono ?_
          rintro e w3 ⟨rfl, hb3⟩
          have HB3 := Lib.hid hb3
          clear hb3
          go_wp2_with fail
          exact ⟨⟨k + 1, _, by omega, by go_num, rfl, HNN.out _ HN0.out (HB3.out.alloc HB3.out.size _)⟩, by simp [intOf]; omega⟩
        · have hbv : BV w2 (.slice (some ⟨gb, 0, none⟩) 512 512) data gb := by
            have hr := hrow.reads 512
            rw [hl512] at hr
            exact ⟨hr, ⟨_, 512, by rw [hl512], by omega, fun e => by cases e⟩, fun _ => lt_of_heap hrow⟩
          have DE := Lib.hid (decode_full (some ⟨gb, 0, none⟩) 512 data gb w2 hbv hl512)
          clear hrow hbv
          go_wp2_with fail
          refine DE.out.mono ?_
          rintro e w3 ⟨⟨hdb, v', rfl, -⟩ | ⟨hdb, rfl⟩, hb3⟩
          · generalize htd : Tg.told data = t at *
            have HB3 := Lib.hid hb3
            have HTD := Lib.hid (And.intro htd hdb)
            clear hb3 htd hdb
            by_cases hd : t.d < (N : Int)
            · have hof := own_form HI.out.own
              obtain ⟨oa, oc, rfl⟩ := hof
              have hle := foundL_len s N k
              have hmx : (foundL s N k).length + 1 ≤ maxLen := by unfold maxLen; omega
              have hby : ((foundL s N k).length + 1) * 64 ≤ 140737488355328 := by omega
              have how3 := ownsRow_touch HD.out.2.2 (Touch.of_below (F := Emp) HB3.out) fun _ _ => id
              have ho2 := Lib.hid ((how3.alloc (.cells (tagC t) 33)).alloc (.cells (foV (t, k)) 96))
              have hx : ∀ j u, (foC (t, k))[j]? = some u → ((w3.alloc (.cells (tagC t) 33)).alloc (.cells (foV (t, k)) 96)).cell? ((⟨w3.heap.size + 1, 0, none⟩ : Addr).add j) = some u := fun j u hj => by
                have hh := heap_alloc_new (w3.alloc (.cells (tagC t) 33)) (.cells (foV (t, k)) 96)
                rw [World.size_alloc] at hh
                rw [add_lit, cell_of_row _ _ j _ _ _ hh]
                simpa [foV, foC] using hj
              have HX := Lib.hid hx
              have hszw : w.heap.size ≤ ((w3.alloc (.cells (tagC t) 33)).alloc (.cells (foV (t, k)) 96)).heap.size := by
                have h1 := HI.out.tch.size
                have h2 := HD.out.1.size
                have h3 := HB3.out.size
                simp; omega
              have HSZ := Lib.hid hszw
              have HDN := Lib.hid hd
              have hd1 : t.d < (N : Int) := hd
              clear how3 hx hszw hle hd
              unfold foV tagC at *
              go_wp2_with (at_builtin; refine wpList_append_own _ rfl (.tmp 43) (.tmp 47) 81 rfl w.heap.size 96 i0 (.agg #[.int .u32 0, .int .u64 0, .int .u64 0, .int .u64 0, .int .i64 0, .int .i64 0, .int .i64 0, .int .i64 0]) 8 64 Try.underlying81 hi hz0 hz1 hz2 rfl (by decide) _ _ _ rfl ho2.out ⟨w3.heap.size + 1, 0, none⟩ 1 1 (foC (t, k)) rfl (by simp [foC]) HX.out (fun u hu => by simp only [foC, List.mem_cons, List.not_mem_nil, or_false] at hu; rcases hu with rfl | rfl | rfl | rfl | rfl | rfl | rfl | rfl <;> rfl) hmx hby HSZ.out ?_; intro v' w4 hown' hgrow _; have HO' := Lib.hid hown'; have HG := Lib.hid hgrow; clear hown' hgrow)
              have hfl : foundL s N (k + 1) = foundL s N k ++ [(t, k)] := by
                rw [HFS.out, HFA.out, if_pos ⟨trivial, HTD.out.2, HDN.out⟩]; rfl
              have how := HD.out.2.2
              have hob : ∀ j, (Value.slice oa (foundL s N k).length oc).ownBlock = some j → w.heap.size ≤ j := fun j hj => (how.lt j hj).1
              have t1 : Touch (fun j => (Value.slice oa (foundL s N k).length oc).ownBlock = some j) w2 w4 :=
                (((Touch.of_below (F := Emp) HB3.out).alloc _).alloc _).mono (fun _ _ h => h.elim) |>.trans (Touch.of_grown HG.out fun j e => e) (fun _ h _ => h)
              refine ⟨⟨k + 1, _, by omega, by go_num, rfl, ?_, HD.out.2.1.touch t1 fun j hj hj2 => by have := hob j hj2; have := H.out.lt j hj; omega, (HI.out.tch.trans HD.out.1 fun _ h _ => h).trans t1 fun j hj hlt => by have := hob j hj; omega⟩, by simp [intOf]; omega⟩
              rw [hfl, List.length_append, List.flatMap_append]
              simpa using HO'.out
            · have HN0 := Lib.hid (show foundAt s N k = none by rw [HFA.out, if_neg]; exact fun h => hd h.2.2)
              have hd1 : ¬ t.d < (N : Int) := hd
              clear hd
              unfold tagC at *
              go_wp2_with fail
              exact ⟨⟨k + 1, _, by omega, by go_num, rfl, HNN.out _ HN0.out (HB3.out.alloc HB3.out.size _)⟩, by simp [intOf]; omega⟩
          · have HN0 := Lib.hid (show foundAt s N k = none by rw [HFA.out, if_neg]; rintro ⟨-, h, -⟩; rw [hdb] at h; cases h)
            have HB3 := Lib.hid hb3
            clear hb3 hdb
            go_wp2_with fail
            exact ⟨⟨k + 1, _, by omega, by go_num, rfl, HNN.out _ HN0.out (HB3.out.alloc HB3.out.size _)⟩, by simp [intOf]; omega⟩
      · go_wp2_with fail
        refine SC.out.mono ?_
        rintro e w1 ⟨rfl, rfl⟩
        go_wp2_with fail
        refine RD.out.mono ?_
        rintro e w2 ⟨v, rfl, ht, hd, hv⟩
        have HD := Lib.hid (And.intro ht hd)
        clear ht hd hv
        go_wp2_with fail
        refine ⟨⟨k + 1, _, by omega, by go_num, rfl, ?_⟩, by simp [intOf]; omega⟩
        have hI := HI.out
        obtain ⟨ht, hd⟩ := HD.out
        have hlt2 : ∀ j, F j → j < w.heap.size := H.out.lt
        rw [show foundAt s N k = none by rw [HFA.out]; simp] at HFS
        refine ⟨?_, ⟨hd, fun j hj => Nat.lt_of_lt_of_le (hI.dev.lt j hj) ht.size⟩, hI.tch.trans ht fun _ h _ => h⟩
        rw [HFS.out, Option.toList_none, List.append_nil]
        exact ownsRow_touch hI.own ht fun j hj hF => by have := (hI.own.lt j hj).1; have := hlt2 j hF; omega
    · obtain rfl : k = P := by omega
      obtain ⟨oa, oc, rfl⟩ := own_form hI.own
      have HI := Lib.hid hI
      clear hI hk
      go_wp2
      go_ret2
      exact ⟨⟨_, rfl, HI.out.own⟩, HI.out.tch, HI.out.dev⟩
end Rp
end Go.Proofs.Ythapggobpfcmjaa
