/- A device that is up: what its operations leave, as far as reading tells. Plain mathematics. -/
import Derived.Test.YthapggobpfcmjaaGreatDvc
set_option maxRecDepth 100000
namespace Go.Proofs.YthapggobpfcmjaaGreat
open Go.RowKit

/-- Up, not armed; each sector that is torn, once; what waits, waits for sectors that there are. -/
structure DSt.Up (s : DSt) : Prop where
  down : s.down = false
  armed : s.armed = false
  nod : s.torn.Nodup
  fits : ∀ x ∈ s.waits, x.1 < s.secs.length
def DSt.puts (s : DSt) (ws : List (Nat × List UInt8)) : DSt := { s with writes := s.writes + ws.length, waits := s.waits ++ ws }

section
variable {s : DSt}
theorem DSt.Up.fired (h : s.Up) : s.fired = s := if_neg (by rw [h.armed]; simp)
theorem DSt.Up.err (h : s.Up) : s.err = 0 := by unfold DSt.err; rw [h.fired, h.down]; rfl
theorem DSt.Up.begin_ (h : s.Up) : s.begin_ = s := by
  unfold DSt.begin_ DSt.ticked; rw [h.fired, h.down, h.armed]; rfl
theorem DSt.Up.write (h : s.Up) {at_ : Nat} {l : List UInt8} (ha : at_ < s.secs.length) (hl : l.length = 512) : s.write at_ l = s.puts [(at_, l)] ∧ s.writeErr at_ l = 0 := by
  have hb : ¬ (¬ (0 ≤ (at_ : Int) ∧ (at_ : Int) < s.secs.length) ∨ l.length ≠ 512) := by simp [hl]; omega
  unfold DSt.write DSt.writeErr
  rw [if_neg hb, if_neg hb, if_pos h.err, h.begin_]
  exact ⟨rfl, h.err⟩
theorem DSt.Up.readR (h : s.Up) {at_ : Nat} (ha : at_ < s.secs.length) : s.readR at_ = s.look at_ ∧ s.read at_ = s.incR := by
  have hb : ¬ ¬ (0 ≤ (at_ : Int) ∧ (at_ : Int) < s.secs.length) := by simp; omega
  unfold DSt.readR DSt.read
  rw [if_neg hb, if_neg hb, if_pos h.err, if_pos h.err, h.begin_]
  exact ⟨rfl, rfl⟩
theorem DSt.Up.flush (h : s.Up) : s.flush = (DSt.settleAll s.waits s.incF).clear := by
  unfold DSt.flush; rw [if_pos h.err, h.begin_]
theorem DSt.puts_nil : s.puts [] = s := by simp [DSt.puts]
theorem DSt.puts_puts (xs ys : List (Nat × List UInt8)) : (s.puts xs).puts ys = s.puts (xs ++ ys) := by simp [DSt.puts, Nat.add_assoc]
theorem DSt.Up.puts (h : s.Up) {ws : List (Nat × List UInt8)} (hw : ∀ x ∈ ws, x.1 < s.secs.length) : (s.puts ws).Up :=
  ⟨h.down, h.armed, h.nod, fun x hx => (List.mem_append.1 hx).elim (h.fits x) (hw x)⟩
theorem DSt.Up.incR (h : s.Up) : s.incR.Up := ⟨h.down, h.armed, h.nod, h.fits⟩

theorem lastW_append (xs ys : List (Nat × List UInt8)) (a : Nat) : lastW (xs ++ ys) a = (lastW ys a).or (lastW xs a) := by
  unfold lastW
  rw [List.reverse_append, List.find?_append]
  cases ys.reverse.find? (fun x => x.1 == a) <;> simp
theorem lastW_one (x : Nat × List UInt8) (a : Nat) : lastW [x] a = if x.1 = a then some x.2 else none := by
  unfold lastW
  by_cases h : x.1 = a
  · simp [h]
  · simp [h]
theorem lastW_nil (a : Nat) : lastW [] a = none := rfl
theorem lastW_none {ws : List (Nat × List UInt8)} {a : Nat} (h : ∀ x ∈ ws, x.1 ≠ a) : lastW ws a = none := by
  unfold lastW
  rw [List.find?_eq_none.2]; rfl
  intro x hx
  simpa using h x (List.mem_reverse.1 hx)
/-- Where all are for sectors of their own, each is the last one of its. -/
theorem lastW_at {ws : List (Nat × List UInt8)} (hn : (ws.map (·.1)).Nodup) {k : Nat} (hk : k < ws.length) : lastW ws ws[k].1 = some ws[k].2 := by
  induction ws generalizing k with
  | nil => simp at hk
  | cons x xs ih =>
    have hc : ∀ a, lastW (x :: xs) a = (lastW xs a).or (lastW [x] a) := fun a => lastW_append [x] xs a
    rw [hc]
    simp only [List.map_cons, List.nodup_cons] at hn
    cases k with
    | zero =>
      have : lastW xs x.1 = none := lastW_none fun y hy e => hn.1 (e ▸ List.mem_map_of_mem hy)
      simp [this, lastW_one]
    | succ k =>
      have := ih hn.2 (k := k) (by simpa using hk)
      simp [this]

/-- What a sector has, but for what waits. -/
def DSt.raw (s : DSt) (a : Nat) : Int × List UInt8 := if a ∈ s.torn then (3, []) else (0, s.secs.getD a [])
theorem DSt.look_eq (s : DSt) (a : Nat) : s.look a = match lastW s.waits a with | some l => (0, l) | none => s.raw a := rfl
theorem DSt.look_puts (ws : List (Nat × List UInt8)) (a : Nat) : (s.puts ws).look a = match lastW ws a with | some l => (0, l) | none => s.look a := by
  rw [DSt.look_eq, DSt.look_eq]
  simp only [DSt.puts, lastW_append]
  cases lastW ws a <;> rfl
theorem DSt.look_incR (a : Nat) : s.incR.look a = s.look a := rfl
theorem DSt.raw_settle (hn : s.torn.Nodup) {x : Nat × List UInt8} (hx : x.1 < s.secs.length) (a : Nat) : (s.settle x.1 x.2).raw a = if x.1 = a then (0, x.2) else s.raw a := by
  unfold DSt.raw DSt.settle
  by_cases h : x.1 = a
  · subst h
    have : x.1 ∉ s.torn.erase x.1 := fun hm => absurd hm (List.Nodup.not_mem_erase hn)
    simp [this, hx]
  · have h1 : a ∈ s.torn.erase x.1 ↔ a ∈ s.torn := List.mem_erase_of_ne (fun e => h e.symm)
    simp [h, h1]
theorem DSt.settleAll_nod : ∀ (ws : List (Nat × List UInt8)) (s : DSt), s.torn.Nodup → (DSt.settleAll ws s).torn.Nodup
  | [], _, h => h
  | _ :: ws, _, h => settleAll_nod ws _ (h.erase _)
theorem DSt.raw_settleAll : ∀ (ws : List (Nat × List UInt8)) (s : DSt), s.torn.Nodup → (∀ x ∈ ws, x.1 < s.secs.length) → ∀ a, (DSt.settleAll ws s).raw a = match lastW ws a with | some l => (0, l) | none => s.raw a
  | [], _, _, _, _ => rfl
  | x :: ws, s, hn, hw, a => by
    have h2 := DSt.raw_settleAll ws (s.settle x.1 x.2) (hn.erase _) (fun y hy => by simpa [DSt.settle] using hw y (List.mem_cons_of_mem _ hy)) a
    rw [show x :: ws = [x] ++ ws from rfl, lastW_append, lastW_one]
    have h3 := DSt.raw_settle hn (hw x (by simp)) a
    simp only [DSt.settleAll, List.singleton_append]
    rw [h2]
    cases lastW ws a with
    | some l => rfl
    | none =>
      rw [h3]
      by_cases h : x.1 = a <;> simp [h]
theorem DSt.Up.flush_look (h : s.Up) (a : Nat) : s.flush.look a = s.look a := by
  rw [h.flush, DSt.look_eq, DSt.look_eq]
  have e : (DSt.settleAll s.waits s.incF).clear.raw a = (DSt.settleAll s.waits s.incF).raw a := rfl
  have e2 : s.incF.raw a = s.raw a := rfl
  have := DSt.raw_settleAll s.waits s.incF h.nod h.fits a
  rw [e2] at this
  rw [show (DSt.settleAll s.waits s.incF).clear.waits = [] from rfl, lastW_nil, e, this]
theorem settleAll_counts : ∀ (ws : List (Nat × List UInt8)) (s : DSt), (DSt.settleAll ws s).reads = s.reads ∧ (DSt.settleAll ws s).writes = s.writes ∧ (DSt.settleAll ws s).flushes = s.flushes ∧ (DSt.settleAll ws s).down = s.down ∧ (DSt.settleAll ws s).armed = s.armed
  | [], _ => ⟨rfl, rfl, rfl, rfl, rfl⟩
  | _ :: ws, _ => settleAll_counts ws _
theorem DSt.Up.flush_up (h : s.Up) : s.flush.Up ∧ s.flush.reads = s.reads ∧ s.flush.writes = s.writes ∧ s.flush.flushes = s.flushes + 1 ∧ s.flush.secs.length = s.secs.length ∧ s.flush.waits = [] := by
  rw [h.flush]
  have hc := settleAll_counts s.waits s.incF
  exact ⟨⟨hc.2.2.2.1.trans h.down, hc.2.2.2.2.trans h.armed, DSt.settleAll_nod _ _ h.nod, by simp [DSt.clear]⟩, hc.1, hc.2.1, hc.2.2.1, settleAll_secs _ _, rfl⟩
theorem DSt.new_up (n : Nat) : (DSt.new n).Up := ⟨rfl, rfl, by simp [DSt.new], by simp [DSt.new]⟩
end

end Go.Proofs.YthapggobpfcmjaaGreat
