/- Where epochs end: ends; which tags are true: fresh. In so far as Sort sorts so many. -/
import Derived.Test.YthapggobpfcmjaaRpu
import Derived.Test.YthapggobpfcmjaaRpd
set_option maxRecDepth 100000
namespace Go.Proofs.Ythapggobpfcmjaa
namespace Rp
open Go.RowKit Go.Maps Go.Shelf

/-- While ends goes through the epochs: its boxes, and its two maps. -/
structure EnI (w : World) (p m0 : Nat) (S : UM) (q : UM × Nat) (W : World) : Prop where
  b1 : Boxed W p 111 (.map (some m0))
  b3 : Boxed W (p + 2) 111 (.map (some (p + 1)))
  b4 : Boxed W (p + 3) 31 (.int .u64 (q.2 : Int))
  mu : ∃ es clk, W.heap[p + 1]? = some (.map es clk) ∧ UMap es q.1
  mo : ∃ es clk, W.heap[m0]? = some (.map es clk) ∧ UMap es S
  lt : m0 < p
  base : w.heap.size = p
  below : Below w.heap.size w W
theorem EnI.touch {w W W1 : World} {p m0 : Nat} {S : UM} {q : UM × Nat} {G : Nat → Prop} (h : EnI w p m0 S q W) (ht : Touch G W W1) (hG : ∀ j, G j → p + 4 ≤ j) : EnI w p m0 S q W1 := by
  obtain ⟨es, clk, e1, e2⟩ := h.mu
  obtain ⟨es0, clk0, f1, f2⟩ := h.mo
  have hlt := h.lt
  have n : ∀ j, j < p + 4 → ¬ G j := fun j hj hg => by have := hG j hg; omega
  exact ⟨ht.at h.b1 (n _ (by omega)), ht.at h.b3 (n _ (by omega)), ht.at h.b4 (n _ (by omega)), ⟨es, clk, ht.at e1 (n _ (by omega)), e2⟩, ⟨es0, clk0, ht.at f1 (n _ (by omega)), f2⟩, h.lt, h.base,
    ((Touch.of_below (F := Emp) h.below).trans ht fun j hj hlt => by have := hG j hj; have := h.base; omega).below⟩
theorem EnI.step {w W : World} {p m0 : Nat} {S : UM} {q : UM × Nat} (h : EnI w p m0 S q W) (k r : Nat) (hr : r = min q.2 ((getA S k).getD 0)) {es' : Array MapEntry} {clk' : Nat} (hs : UMap es' (putA q.1 k q.2)) :
    EnI w p m0 S (endStep S q k) ((ChangeMaps.setBlock W (p + 1) (.map es' clk')).setCell ⟨p + 3, 0, none⟩ (.int .u64 (r : Int))) ∧ KeepsFrom (p + 4) W ((ChangeMaps.setBlock W (p + 1) (.map es' clk')).setCell ⟨p + 3, 0, none⟩ (.int .u64 (r : Int))) ∧
      Touch (fun j => j = p + 1 ∨ j = p + 3) W ((ChangeMaps.setBlock W (p + 1) (.map es' clk')).setCell ⟨p + 3, 0, none⟩ (.int .u64 (r : Int))) := by
  obtain ⟨es, clk, e1, e2⟩ := h.mu
  obtain ⟨es0, clk0, f1, f2⟩ := h.mo
  have hlt := h.lt
  have t1 : Touch (fun j => j = p + 1) W (ChangeMaps.setBlock W (p + 1) (.map es' clk')) := (Touch.refl (fun j => j = p + 1) W).setBlock (g := p + 1) (.inl rfl) _
  have t2 : Touch (fun j => j = p + 1 ∨ j = p + 3) W ((ChangeMaps.setBlock W (p + 1) (.map es' clk')).setCell ⟨p + 3, 0, none⟩ (.int .u64 (r : Int))) := (t1.mono fun k _ hk => .inl hk).setCell (a := ⟨p + 3, 0, none⟩) (.inl (.inr rfl)) _
  have c4 : Boxed (ChangeMaps.setBlock W (p + 1) (.map es' clk')) (p + 3) 31 (.int .u64 (q.2 : Int)) := t1.at h.b4 (by omega)
  have cm : (ChangeMaps.setBlock W (p + 1) (.map es' clk')).heap[p + 1]? = some (.map es' clk') := heap_setBlock_same e1
  refine ⟨⟨t2.at h.b1 (by omega), t2.at h.b3 (by omega), ?_, ⟨es', clk', ?_, hs⟩, ⟨es0, clk0, t2.at f1 (by omega), f2⟩, h.lt, h.base, ((Touch.of_below (F := Emp) h.below).trans t2 fun j hj hlt => by have := h.base; omega).below⟩, ⟨t2.size, fun j o hj ho hc => ?_⟩, t2⟩
  · have := c4.set (.int .u64 (r : Int))
    simpa only [endStep, ← hr] using this
  · rw [heap_setCell_other _ _ _ _ (by show p + 1 ≠ p + 3; omega)]; exact cm
  · exact t2.at ho (by omega)
theorem min_u (a b : Nat) (t : TypeId) : ∃ r : Nat, r = min a b ∧ ∀ W : World, (Builtin.min_ #[31, 31] t #[.int .u64 (a : Int), .int .u64 (b : Int)]).run Try.prog W = .ok (.int .u64 (r : Int)) W := by
  refine ⟨min a b, rfl, fun W => ?_⟩
  simp [Builtin.min_, Builtin.min2]
  split <;> omega
/-- Numbers as they were told, and as they are. -/
def natsR (ts : List Int) : List Nat := ts.reverse.map Int.toNat
theorem natsR_take {ts : List Int} {k : Nat} (hk : k < ts.length) : (natsR ts).take (k + 1) = (natsR ts).take k ++ [(ts.getD (ts.length - 1 - k) 0).toNat] := by
  have hl : k < (natsR ts).length := by simpa [natsR] using hk
  rw [List.take_succ_eq_append_getElem hl]
  congr 2
  simp only [natsR, List.getElem_map, List.getElem_reverse]
  rw [List.getD, List.getElem?_eq_getElem (by omega)]; rfl

attribute [local go_sem] Oper.semAt_some

set_option maxHeartbeats 4000000 in
theorem ends_ok {N : Nat} (hS : SortsU N) {w : World} {m0 n : Nat} {D : DataW Nat} {es0 : Array MapEntry} {clk0 : Nat} {S : UM} (hm : w.heap[m0]? = some (.map es0 clk0)) (hs : UMap es0 S) (hown : OwnM w m0 n D) (hn : n ≤ 4294967296)
    (hnd : (S.map (·.1)).Nodup) (hlen : S.length ≤ N) (hlenS : S.length ≤ 4294967296) (hk : ∀ p ∈ S, p.1 < 4294967296) :
    Calls Try.prog 63 #[.map (some m0)] w fun e w' => (∃ ks : List Nat, e = .returned (.map (some (w.heap.size + 1))) ∧ ks.Pairwise (· > ·) ∧ (∀ x, x ∈ ks ↔ x ∈ S.map (·.1)) ∧
      ∃ es clk, w'.heap[w.heap.size + 1]? = some (.map es clk) ∧ UMap es (endsA S ks).1) ∧ Below w.heap.size w w' := by
  have hml := lt_of_heap hm
  have HKY := Lib.hid (has_keys hown hm hs)
  refine (callsIn_wide (n := 8)).1 ?_
  refine callsIn_of_wp_marks Try.func63 rfl trivial ?_ rfl
  simp only [Try.ntmps63, List.size_toArray, List.length_cons, List.length_nil, Nat.reduceAdd, Nat.reduceSub, Array.replicate_succ, Array.replicate_zero, List.push_toArray, List.append_toArray, List.nil_append, List.cons_append]
  have hmm := @run_makeMap Try.prog
  gi_wp2_with fail
  have hp1 : (w.alloc (.cells #[.map (some m0)] 111)).heap.size = w.heap.size + 1 := by simp
  have hp2 : ((w.alloc (.cells #[.map (some m0)] 111)).alloc (.map #[] 0)).heap.size = w.heap.size + 2 := by simp
  have hp3 : (((w.alloc (.cells #[.map (some m0)] 111)).alloc (.map #[] 0)).alloc (.cells #[.map (some (w.heap.size + 1))] 111)).heap.size = w.heap.size + 3 := by simp
  have b1 := (((Boxed.new w 111 (.map (some m0))).alloc (.map #[] 0)).alloc (.cells #[.map (some (w.heap.size + 1))] 111)).alloc (.cells #[.int .u64 281474976710656] 31)
  have b3 := (Boxed.new ((w.alloc (.cells #[.map (some m0)] 111)).alloc (.map #[] 0)) 111 (.map (some (w.heap.size + 1)))).alloc (.cells #[.int .u64 281474976710656] 31)
  have b4 := Boxed.new (((w.alloc (.cells #[.map (some m0)] 111)).alloc (.map #[] 0)).alloc (.cells #[.map (some (w.heap.size + 1))] 111)) 31 (.int .u64 281474976710656)
  have bm : ((((w.alloc (.cells #[.map (some m0)] 111)).alloc (.map #[] 0)).alloc (.cells #[.map (some (w.heap.size + 1))] 111)).alloc (.cells #[.int .u64 281474976710656] 31)).heap[w.heap.size + 1]? = some (.map #[] 0) := by
    rw [Below.heap_alloc _ _ _ (by rw [hp3]; omega), Below.heap_alloc _ _ _ (by rw [hp2]; omega), ← hp1]
    exact heap_alloc_new _ _
  have bb : Below w.heap.size w ((((w.alloc (.cells #[.map (some m0)] 111)).alloc (.map #[] 0)).alloc (.cells #[.map (some (w.heap.size + 1))] 111)).alloc (.cells #[.int .u64 281474976710656] 31)) :=
    ((((Below.refl _ w).alloc (Nat.le_refl _) _).alloc (by simp) _).alloc (by simp; omega) _).alloc (by simp; omega) _
  have bo := (((hown.alloc (.cells #[.map (some m0)] 111)).alloc (.map #[] 0)).alloc (.cells #[.map (some (w.heap.size + 1))] 111)).alloc (.cells #[.int .u64 281474976710656] 31)
  have bs : ((((w.alloc (.cells #[.map (some m0)] 111)).alloc (.map #[] 0)).alloc (.cells #[.map (some (w.heap.size + 1))] 111)).alloc (.cells #[.int .u64 281474976710656] 31)).heap.size = w.heap.size + 4 := by simp
  rw [hp2] at b3
  rw [hp3] at b4
  generalize (((w.alloc (.cells #[.map (some m0)] 111)).alloc (.map #[] 0)).alloc (.cells #[.map (some (w.heap.size + 1))] 111)).alloc (.cells #[.int .u64 281474976710656] 31) = W4 at *
  simp only [show w.heap.size + 1 + 1 = w.heap.size + 2 from rfl, show w.heap.size + 1 + 1 + 1 = w.heap.size + 3 from rfl]
  have I0 : EnI w w.heap.size m0 S ([], top) W4 := ⟨b1, b3, b4, ⟨#[], 0, bm, UMap_nil⟩, ⟨es0, clk0, (bb.block _ hml).trans hm, hs⟩, hml, rfl, bb⟩
  have HI0 := Lib.hid I0
  have HBO := Lib.hid bo
  have HSU := Lib.hid hS
  have BS := Lib.hid bs
  clear bs hp1 hp2 hp3 b1 b3 b4 bm bb I0 bo hm hs hown hS
  refine ⟨trivial, ?_⟩
  gi_at_call 72
  refine (callsIn_wide.2 (keys_in m0 W4)).mono ?_
  rintro e w5 ⟨rfl, rfl⟩
  have s5 : (W4.alloc (.cells #[.map (some m0)] 111)).heap.size = w.heap.size + 5 := by simp [BS.out]
  have I5 := HI0.out.touch ((Touch.refl Emp W4).alloc (.cells #[.map (some m0)] 111)) (fun j h => h.elim)
  have SO := Lib.hid (sorted_ok HSU.out W4.heap.size m0 n D (W4.alloc (.cells #[.map (some m0)] 111)) (by simp) (by simp [World.cell?_alloc_new]) (HBO.out.alloc _) hn
    (fun ss hss => by
      have : (ss.map Int.toNat).length ≤ (S.map (·.1)).length := by
        refine len_sub _ _ ?_ fun x hx => ?_
        · refine List.pairwise_map.2 (hss.1.imp_of_mem fun {a b} ha hb hne e => hne ?_)
          obtain ⟨k1, -, e1⟩ := (HKY.out a).1 ((hss.2 a).1 ha)
          obtain ⟨k2, -, e2⟩ := (HKY.out b).1 ((hss.2 b).1 hb)
          omega
        · obtain ⟨y, hy, rfl⟩ := List.mem_map.1 hx
          obtain ⟨k1, h1, e1⟩ := (HKY.out y).1 ((hss.2 y).1 hy)
          rw [e1]; exact h1
      simp only [List.length_map] at this
      omega)
    (fun x hx => by
      obtain ⟨k1, h1, e1⟩ := (HKY.out x).1 hx
      obtain ⟨q, hq, rfl⟩ := List.mem_map.1 h1
      have := hk q hq
      omega))
  have HI5 := Lib.hid I5
  have S5 := Lib.hid s5
  generalize W4.alloc (.cells #[.map (some m0)] 111) = W5 at *
  clear I5 s5
  gi_wp2_with fail
  refine ⟨trivial, ?_⟩
  gi_at_call 71
  refine (callsIn_wide.2 SO.out).mono ?_
  rintro e w6 ⟨⟨v, ts, rfl, ka, ksort, kown⟩, hb6⟩
  obtain ⟨gt, hnv, hgt⟩ := nv_own kown
  obtain ⟨a, cap, rfl, -, -, -⟩ := hnv.form
  have HI6 := Lib.hid (HI5.out.touch (Touch.of_below (F := Emp) hb6) (fun j h => h.elim))
  have HKA := Lib.hid (And.intro ka ksort)
  have HNV := Lib.hid (hnv.below ((Below.refl _ w6).alloc (Nat.le_refl _) (.cells #[.slice a ts.length cap] 125)))
  have s6 : w.heap.size + 5 ≤ w6.heap.size := by have := hb6.size; have := S5.out; omega
  have hgt5 := hgt
  rw [S5.out] at hgt5
  have hts : ts.length ≤ 4294967296 := by
    have := kown.2
    have h2 := hnv.form
    have h3 : ∀ ss, KeysA D ss → ss.length ≤ S.length := fun ss hss => by
      have : (ss.map Int.toNat).length ≤ (S.map (·.1)).length := by
        refine len_sub _ _ ?_ fun x hx => ?_
        · refine List.pairwise_map.2 (hss.1.imp_of_mem fun {a b} ha hb hne e => hne ?_)
          obtain ⟨k1, -, e1⟩ := (HKY.out a).1 ((hss.2 a).1 ha)
          obtain ⟨k2, -, e2⟩ := (HKY.out b).1 ((hss.2 b).1 hb)
          omega
        · obtain ⟨y, hy, rfl⟩ := List.mem_map.1 hx
          obtain ⟨k1, h1, e1⟩ := (HKY.out y).1 ((hss.2 y).1 hy)
          rw [e1]; exact h1
      simpa using this
    have := h3 ts ka
    have := hlenS
    omega
  clear ka ksort kown hnv hgt hb6 SO
  gi_wp2_with fail
  refine ⟨trivial, ?_⟩
  gi_at_call 70
  refine (callsIn_wide.2 (bwd_in a ts.length cap w6)).mono ?_
  rintro e w7 ⟨rfl, rfl⟩
  have hbx := Boxed.new w6 125 (.slice a ts.length cap)
  have HI7 := Lib.hid (HI6.out.touch ((Touch.refl Emp w6).alloc (.cells #[.slice a ts.length cap] 125)) (fun j h => h.elim))
  have s7 : (w6.alloc (.cells #[.slice a ts.length cap] 125)).heap.size = w6.heap.size + 1 := by simp
  generalize w6.alloc (.cells #[.slice a ts.length cap] 125) = W7 at *
  have BW := Lib.hid (bwd1_on 7 (by omega) (fun j => j = w.heap.size + 1 ∨ j = w.heap.size + 3 ∨ j = W7.heap.size + 1) w6.heap.size gt cap a ts W7 hts hbx HNV.out ⟨by omega, fun hne h => by
    have h1 := hgt5 hne
    have h2 := HNV.out.lt hne
    omega⟩)
  have S7 := Lib.hid s7
  clear hbx s7
  gi_wp2_with fail
  refine wpIn_range_on (hro := rfl) (h1 := by omega) (gf := 75) (lb := #[.pointer (some ⟨w6.heap.size, 0, none⟩)]) rfl trivial (enters_of Try.func75 (by kernel_rfl) rfl)
    BW.out (fun h1 h2 => h1.trans h2 fun _ h _ => h) (fun W o => Touch.of_grown (grownBy_putObj' W _ o) (fun k e => by cases e; exact .inr (.inr rfl))) (Below.refl _ _) (fun _ => rfl)
    (fun k W' => EnI w w.heap.size m0 S (endsA S ((natsR ts).take k)) W')
    (fun k X X' row hI hg hr => hI.touch (G := fun j => row = some j) (Touch.of_grown hg fun k e => e) fun j hj => by have := (hr j hj).1; have := S7.out; omega)
    HI7.out ?a1 ?assign ?body ?done
  case assign =>
    intro l x W K hK
    gi_wp2
    exact hK
  case body =>
    rintro l k x X hx hbig hI
    obtain ⟨hkl, rfl⟩ : k < ts.length ∧ k = x := by
      obtain ⟨h1, h2⟩ := List.getElem?_eq_some_iff.1 hx
      simp at h1 h2
      exact ⟨h1, h2⟩
    have htk := natsR_take hkl
    obtain ⟨en, hen⟩ : ∃ en : Nat, ts.getD (ts.length - 1 - k) 0 = (en : Int) := by
      have hm : ts.length - 1 - k < ts.length := by omega
      have hmem : ts.getD (ts.length - 1 - k) 0 ∈ ts := by
        rw [List.getD, List.getElem?_eq_getElem hm]; exact List.getElem_mem _
      obtain ⟨k1, -, e1⟩ := (HKY.out _).1 ((HKA.out.1.2 _).1 hmem)
      exact ⟨k1, e1⟩
    rw [hen, Int.toNat_natCast] at htk
    have c1 := hI.b1.cell
    have c3 := hI.b3.cell
    have c4 := hI.b4.cell
    have f4 := hI.b4.frozen
    obtain ⟨es, clk, e1, e2⟩ := hI.mu
    obtain ⟨es1, clk1, g1, g2⟩ := hI.mo
    obtain ⟨es', clk', hs', hup⟩ := run_update_u (clk := clk) e2 (ends_nodup S ((natsR ts).take k)) en (endsA S ((natsR ts).take k)).2
    have hup2 := hup _ X e1
    have g3 : (ChangeMaps.setBlock X (w.heap.size + 1) (.map es' clk')).heap[m0]? = some (.map es1 clk1) :=
      ((Touch.refl (fun j => j = w.heap.size + 1) X).setBlock (g := w.heap.size + 1) (.inl rfl) _).at g1 (by omega)
    have hlu := run_lookup_u g2 en _ g3
    obtain ⟨r, hr, hmin⟩ := min_u (endsA S ((natsR ts).take k)).2 ((getA S en).getD 0) 31
    have hsp := hI.step (clk' := clk') en r hr hs'
    have cc1 : (ChangeMaps.setBlock X (w.heap.size + 1) (.map es' clk')).cell? ⟨w.heap.size, 0, none⟩ = some (.map (some m0)) := Boxed.cell (((Touch.refl (fun j => j = w.heap.size + 1) X).setBlock (g := w.heap.size + 1) (.inl rfl) _).at hI.b1 (by omega))
    have hb4 : Boxed (ChangeMaps.setBlock X (w.heap.size + 1) (.map es' clk')) (w.heap.size + 3) 31 (.int .u64 ((endsA S ((natsR ts).take k)).2 : Int)) := ((Touch.refl (fun j => j = w.heap.size + 1) X).setBlock (g := w.heap.size + 1) (.inl rfl) _).at hI.b4 (by omega)
    have cc4 := hb4.cell
    have ff4 := hb4.frozen
    have HSP := Lib.hid hsp
    have HTK := Lib.hid htk
    simp only [List.getD_eq_getElem?_getD] at hen ⊢
    try rw [hen]
    clear hI hx e1 e2 g1 g2 hs' hup hr hsp htk hen g3 hb4
    gi_wp2
    refine ⟨⟨HSP.out.2.1.size, fun j o hj ho hc => HSP.out.2.1.same j o (by have := S7.out; omega) ho hc⟩, HSP.out.2.2.mono fun j _ h => h.imp id .inl, ?_⟩
    show EnI w w.heap.size m0 S (endsA S ((natsR ts).take (k + 1))) _
    rw [HTK.out, ends_snoc]
    exact HSP.out.1
  case done =>
    rintro D2 X hD hI hK
    rw [List.length_range, show (natsR ts).take ts.length = natsR ts from List.take_of_length_le (by simp [natsR])] at hI
    have c3 := hI.b3.cell
    have HI := Lib.hid hI
    have HK := Lib.hid hK
    clear hI hK
    gi_wp2
    refine ⟨by simp, .inl ⟨_, _, rfl, run_takeDeferred HK.out, ?_⟩⟩
    have I9 := HI.out.touch (Touch.of_grown (F := fun j => j = D2) (grownBy_putObj' X D2 (.deferred none)) fun j e => by cases e; rfl) fun j hj => by have := S7.out; omega
    refine ⟨.map (some (w.heap.size + 1)), by simp [results, Try.results63, go_sem], ⟨natsR ts, rfl, ?_, ?_, I9.mu⟩, I9.below⟩
    · obtain ⟨⟨hnd', hmem⟩, hpw⟩ := HKA.out
      have hpos : ∀ x ∈ ts, 0 ≤ x := fun x hx => by obtain ⟨k1, -, e1⟩ := (HKY.out x).1 ((hmem x).1 hx); omega
      unfold natsR
      rw [List.pairwise_map, List.pairwise_reverse]
      refine (hpw.and hnd').imp_of_mem fun {a b} ha hb hab => ?_
      have := hpos a ha
      have := hpos b hb
      obtain ⟨h1, h2⟩ := hab
      show b.toNat > a.toNat
      omega
    · intro x
      obtain ⟨⟨hnd', hmem⟩, hpw⟩ := HKA.out
      unfold natsR
      rw [List.mem_map]
      constructor
      · rintro ⟨y, hy, rfl⟩
        obtain ⟨k1, h1, e1⟩ := (HKY.out y).1 ((hmem y).1 (List.mem_reverse.1 hy))
        rw [e1]; exact h1
      · intro hx
        exact ⟨(x : Int), List.mem_reverse.2 ((hmem _).2 ((HKY.out _).2 ⟨x, hx, rfl⟩)), by simp⟩
end Rp
end Go.Proofs.Ythapggobpfcmjaa
