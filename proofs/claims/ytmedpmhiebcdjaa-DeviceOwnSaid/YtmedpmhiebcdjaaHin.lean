/- A law's walk with one device and one row of ints of its own: what each call leaves. -/
import Derived.Test.YtmedpmhiebcdjaaLas
namespace Go.Proofs.Ytmedpmhiebcdjaa
open Go.RowKit

/-- The device at b is s; the row at L is vals; what was there stays. -/
structure HInv (w : World) (b L : Nat) (s : DSt) (vals : List Nat) (wr : World) : Prop where
  has : Has wr b s (LastX w L)
  row : wr.heap[L]? = some (.cells (intsA vals) 3 (0, 0))
  below : Below w.heap.size w wr

section
variable {w wr : World} {b L : Nat} {s : DSt} {vals : List Nat}
theorem HInv.lt (h : HInv w b L s vals wr) : L < wr.heap.size := lt_of_heap h.row
theorem HInv.alloc (h : HInv w b L s vals wr) (o : Obj) : HInv w b L s vals (wr.alloc o) :=
  ⟨(h.has.alloc o).mono fun k hk => .inl hk, cell_heap_past h.row o, h.below.alloc h.below.size _⟩
theorem HInv.emp {wq : World} (h : HInv w b L s vals wr) (ht : Touch Emp wr wq) : HInv w b L s vals wq :=
  ⟨h.has.own ht fun _ _ h => h.elim, ht.at h.row id, h.below.trans (ht.below.mono h.below.size)⟩
theorem HInv.cell (h : HInv w b L s vals wr) {m : Nat} (hm : m < vals.length) : wr.cell? ⟨L, m, none⟩ = some (.int .i64 (vals[m] : Int)) ∧ wr.frozen? ⟨L, m, none⟩ = false :=
  ⟨by rw [cell_of_row wr L m _ _ _ h.row, intsA_at _ _ hm], frozen_of_row wr L m _ _ h.row⟩
theorem HInv.set (h : HInv w b L s vals wr) (hLw : w.heap.size ≤ L) (a : Nat) {x : Nat} {xi : Int} (hx : (x : Int) = xi) : HInv w b L s (vals.set a x) (wr.setCell ⟨L, a, none⟩ (.int .i64 xi)) := by
  subst hx
  have tL : Touch (fun k => k = L) wr (wr.setCell ⟨L, a, none⟩ (.int .i64 (x : Int))) := (Touch.refl (fun k => k = L) wr).setCell (a := ⟨L, a, none⟩) (.inl rfl) _
  refine ⟨h.has.own tL fun k _ hk => .inr hk, ?_, h.below.setCell (p := ⟨L, a, none⟩) hLw _⟩
  have h3 := heap_setCell_same wr L a _ _ (.int .i64 (x : Int)) h.row
  rw [intsA_set] at h3
  exact h3
theorem HInv.keep {wq : World} {s' : DSt} (h : HInv w b L s vals wr) (hk : Keep (LastX w L) wr wq) (hq : Has wq b s' (LastX w L)) : HInv w b L s' vals wq :=
  ⟨hq, hk.heap h.row (.inr rfl), h.below.trans (hk.below (fun k hk => .inl hk) h.below.size)⟩
theorem HInv.put (h : HInv w b L s vals wr) (hf : s.Fit) (at_ a n : Int) (he : s.writeErr at_ (sectorL a) = n) :
    Calls Try.prog 10 #[.pointer (some ⟨b, 0, none⟩), .int .i64 at_, .slice (some ⟨wr.heap.size, 0, none⟩) 512 512] (wr.alloc (.cells (rowA (sectorL a)) 5)) fun e w' =>
      e = .returned (.int .i64 n) ∧ HInv w b L (s.write at_ (sectorL a)) vals w' := by
  refine (wr_step h.has hf at_ a n he).mono ?_
  rintro e w' ⟨he, hk, hq⟩
  exact ⟨he, h.keep hk hq⟩
theorem HInv.flush (h : HInv w b L s vals wr) (hf : s.Fit) (n : Int) (he : s.err = n) :
    Calls Try.prog 12 #[.pointer (some ⟨b, 0, none⟩)] wr fun e w' => e = .returned (.int .i64 n) ∧ HInv w b L s.flush vals w' := by
  subst he
  refine (flush_has h.has hf).mono ?_
  rintro e w' ⟨he, hk, hq⟩
  exact ⟨he, h.keep hk hq⟩
theorem HInv.start (h : HInv w b L s vals wr) (n : Int) (he : s.startErr = n) :
    Calls Try.prog 15 #[.pointer (some ⟨b, 0, none⟩)] wr fun e w' => e = .returned (.int .i64 n) ∧ HInv w b L s.start vals w' := by
  subst he
  refine (start_has h.has).mono ?_
  rintro e w' ⟨he, hk, hq⟩
  exact ⟨he, h.keep hk hq⟩
theorem HInv.down (h : HInv w b L s vals wr) (d : Bool) (he : s.down = d) :
    Calls Try.prog 14 #[.pointer (some ⟨b, 0, none⟩)] wr fun e w' => e = .returned (.bool d) ∧ wr = w' := by
  subst he
  exact down_has h.has
theorem HInv.crash (h : HInv w b L s vals wr) (hf : s.Fit) (v : Value) (keep : List Int) (g : Nat) (hk : IReads wr v keep g) (hg : keep ≠ [] → g < w.heap.size) :
    Calls Try.prog 13 #[.pointer (some ⟨b, 0, none⟩), v] wr fun e w' => e = .returned (.tuple #[]) ∧ HInv w b L (s.crash keep) vals w' := by
  refine (crash_has h.has (Nat.lt_trans hf.1 (by omega)) v keep g hk fun h0 => .inl (hg h0)).mono ?_
  rintro e w' ⟨he, hk, hq⟩
  exact ⟨he, h.keep hk hq⟩
/-- A read; what else was there stays (o: what was just made). -/
theorem HInv.read (h : HInv w b L s vals wr) (hf : s.Fit) (at_ n : Int) (l : List UInt8) (he : s.readR at_ = (n, l)) :
    Calls Try.prog 16 #[.pointer (some ⟨b, 0, none⟩), .int .i64 at_] wr fun e w' => ∃ v g, e = .returned (.tuple #[v, .int .i64 n]) ∧ HInv w b L (s.read at_) vals w' ∧ Reads w' v l g := by
  refine (rd_step h.has hf at_ n l (by rw [he]) (by rw [he])).mono ?_
  rintro e w' ⟨v, rfl, hk, hq, g, hg, _⟩
  exact ⟨v, g, rfl, h.keep hk hq, hg⟩
theorem HInv.ireads (h : HInv w b L s vals wr) {v : Value} {l : List Int} {g : Nat} (hr : IReads w v l g) (hg : l ≠ [] → g < w.heap.size) : IReads wr v l g := by
  by_cases h0 : l = []
  · subst h0
    obtain ⟨off, cap, ⟨rfl, _⟩ | ⟨ha, _⟩⟩ := hr
    · exact ⟨off, cap, .inr ⟨⟨_, rfl⟩, rfl⟩⟩
    · exact ⟨off, cap, .inr ⟨ha, rfl⟩⟩
  · exact hr.touch (Touch.of_below (F := Emp) h.below) id
end

end Go.Proofs.Ytmedpmhiebcdjaa
