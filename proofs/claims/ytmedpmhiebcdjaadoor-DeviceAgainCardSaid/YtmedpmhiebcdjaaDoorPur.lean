/- Plain facts on a device's steps: what is read behind writes, a flush, a crash. -/
import Derived.Test.YtmedpmhiebcdjaaDoorRea
namespace Go.Proofs.YtmedpmhiebcdjaaDoor

theorem lastW_snoc (ws : List (Nat × List UInt8)) (a : Nat) (l : List UInt8) (k : Nat) : lastW (ws ++ [(a, l)]) k = if a = k then some l else lastW ws k := by
  by_cases h : a = k
  · subst h; simp [lastW]
  · have : (a == k) = false := by simpa using h
    simp [lastW, h]
theorem lastW_cons (x : Nat × List UInt8) (ws : List (Nat × List UInt8)) (k : Nat) : lastW (x :: ws) k = match lastW ws k with | some l => some l | none => if x.1 = k then some x.2 else none := by
  simp only [lastW, List.reverse_cons, List.find?_append]
  cases h : List.find? (fun y => y.1 == k) ws.reverse with
  | some y => simp
  | none =>
    by_cases hx : x.1 = k
    · simp [hx]
    · have : (x.1 == k) = false := by simpa using hx
      simp [this, hx]
theorem lastW_mem {ws : List (Nat × List UInt8)} {k : Nat} {l : List UInt8} (h : lastW ws k = some l) : (k, l) ∈ ws := by
  simp only [lastW, Option.map_eq_some_iff] at h
  obtain ⟨x, hx, rfl⟩ := h
  have h1 := List.mem_of_find?_eq_some hx
  have h2 := List.find?_some hx
  simp at h1 h2
  obtain ⟨a, b⟩ := x
  simp at h2; subst h2; exact h1

/-- Up, and nothing armed. -/
def DSt.Calm (s : DSt) : Prop := s.down = false ∧ s.armed = false
theorem DSt.Calm.fired {s : DSt} (h : s.Calm) : s.fired = s := by
  unfold DSt.fired; rw [if_neg]; rintro ⟨h1, _⟩; rw [h.2] at h1; cases h1
theorem DSt.Calm.begin_ {s : DSt} (h : s.Calm) : s.begin_ = s := by
  unfold DSt.begin_ DSt.ticked; rw [h.fired, if_neg (by rw [h.1]; simp), if_neg (by rw [h.2]; simp)]
theorem DSt.Calm.err {s : DSt} (h : s.Calm) : s.err = 0 := by
  unfold DSt.err; rw [h.fired, if_neg (by rw [h.1]; simp)]
def DSt.wrote (s : DSt) (a : Nat) (l : List UInt8) : DSt := { s with writes := s.writes + 1, waits := s.waits ++ [(a, l)] }
theorem DSt.Calm.write {s : DSt} (h : s.Calm) {a : Nat} {l : List UInt8} (ha : a < s.secs.length) (hl : l.length = 512) : s.writeErr (a : Int) l = 0 ∧ s.write (a : Int) l = s.wrote a l := by
  have hb : ¬ (¬ (0 ≤ (a : Int) ∧ (a : Int) < s.secs.length) ∨ l.length ≠ 512) := by
    rintro (hc | hc)
    · exact hc ⟨by omega, by omega⟩
    · exact hc hl
  unfold DSt.writeErr DSt.write
  rw [if_neg hb, if_neg hb, h.err, if_pos rfl, h.begin_]
  exact ⟨rfl, rfl⟩
theorem DSt.Calm.read {s : DSt} (h : s.Calm) {a : Nat} (ha : a < s.secs.length) : s.readR (a : Int) = s.look a ∧ s.read (a : Int) = s.incR := by
  have hb : ¬ ¬ (0 ≤ (a : Int) ∧ (a : Int) < s.secs.length) := fun hc => hc ⟨by omega, by omega⟩
  unfold DSt.readR DSt.read
  rw [if_neg hb, if_neg hb, h.err, if_pos rfl, if_pos rfl, h.begin_]
  exact ⟨rfl, rfl⟩
theorem DSt.Calm.flush {s : DSt} (h : s.Calm) : s.flush = (DSt.settleAll s.waits s.incF).clear := by
  unfold DSt.flush; rw [h.err, if_pos rfl, h.begin_]

theorem look_none {s : DSt} {k : Nat} (hw : lastW s.waits k = none) : s.look k = if k ∈ s.torn then (3, []) else (0, s.secs.getD k []) := by
  unfold DSt.look; rw [hw]
theorem look_some {s : DSt} {k : Nat} {l : List UInt8} (hw : lastW s.waits k = some l) : s.look k = (0, l) := by
  unfold DSt.look; rw [hw]
theorem look_wrote (s : DSt) (a k : Nat) (l : List UInt8) : (s.wrote a l).look k = if a = k then (0, l) else s.look k := by
  by_cases h : a = k
  · rw [if_pos h]; exact look_some (by show lastW (s.waits ++ [(a, l)]) k = _; rw [lastW_snoc, if_pos h])
  · rw [if_neg h]
    have h1 : lastW (s.wrote a l).waits k = lastW s.waits k := by show lastW (s.waits ++ [(a, l)]) k = _; rw [lastW_snoc, if_neg h]
    cases h2 : lastW s.waits k with
    | none => rw [look_none h2, look_none (h1.trans h2)]; rfl
    | some y => rw [look_some h2, look_some (h1.trans h2)]
theorem settleAll_get : ∀ (ws : List (Nat × List UInt8)) (s : DSt) (k : Nat), k < s.secs.length → (DSt.settleAll ws s).secs.getD k [] = (lastW ws k).getD (s.secs.getD k [])
  | [], _, _, _ => rfl
  | x :: ws, s, k, hk => by
    have ih := settleAll_get ws (s.settle x.1 x.2) k (by simpa [DSt.settle] using hk)
    rw [DSt.settleAll, ih, lastW_cons]
    cases h : lastW ws k with
    | some l => rfl
    | none =>
      simp only [Option.getD_none, DSt.settle]
      by_cases hx : x.1 = k
      · subst hx; simp [hk]
      · simp [hx, List.getElem?_set]
theorem settleAll_torn : ∀ (ws : List (Nat × List UInt8)) (s : DSt), s.torn = [] → (DSt.settleAll ws s).torn = []
  | [], _, h => h
  | x :: ws, s, h => settleAll_torn ws _ (by show s.torn.erase x.1 = []; rw [h]; rfl)
theorem settleAll_flags : ∀ (ws : List (Nat × List UInt8)) (s : DSt), (DSt.settleAll ws s).down = s.down ∧ (DSt.settleAll ws s).armed = s.armed ∧ (DSt.settleAll ws s).reads = s.reads ∧ (DSt.settleAll ws s).writes = s.writes ∧ (DSt.settleAll ws s).flushes = s.flushes
  | [], _ => ⟨rfl, rfl, rfl, rfl, rfl⟩
  | x :: ws, s => settleAll_flags ws (s.settle x.1 x.2)
theorem DSt.Calm.look_flush {s : DSt} (h : s.Calm) (ht : s.torn = []) {k : Nat} (hk : k < s.secs.length) : s.flush.look k = s.look k := by
  rw [h.flush]
  have h1 : (DSt.settleAll s.waits s.incF).clear.look k = if k ∈ (DSt.settleAll s.waits s.incF).torn then (3, []) else (0, (DSt.settleAll s.waits s.incF).secs.getD k []) := look_none rfl
  have h2 := settleAll_get s.waits s.incF k hk
  have h3 : (DSt.settleAll s.waits s.incF).torn = [] := settleAll_torn s.waits s.incF ht
  rw [h1, h3, if_neg (by simp), h2]
  cases h4 : lastW s.waits k with
  | none => rw [look_none h4, ht, if_neg (by simp)]; rfl
  | some l => rw [look_some h4]; rfl

theorem mem_insT {a k : Nat} {l : List Nat} : k ∈ insT a l ↔ k = a ∨ k ∈ l := by
  unfold insT; split
  · constructor
    · exact .inr
    · rintro (rfl | h) <;> assumption
  · simp [or_comm]
theorem crashW_look : ∀ (xs : List (Nat × List UInt8)) (ks : List Int) (s : DSt) (k : Nat), k < s.secs.length →
    ((DSt.crashW xs ks s).secs.getD k [] = s.secs.getD k [] ∨ ∃ x ∈ xs, x.1 = k ∧ (DSt.crashW xs ks s).secs.getD k [] = x.2) ∧ (k ∈ (DSt.crashW xs ks s).torn → k ∈ s.torn ∨ ∃ x ∈ xs, x.1 = k)
  | [], _, s, k, _ => ⟨.inl rfl, .inl⟩
  | _ :: _, [], s, k, _ => ⟨.inl rfl, .inl⟩
  | x :: xs, c :: ks, s, k, hk => by
    have ih := crashW_look xs ks (s.one x c) k (by rw [one_secs]; exact hk)
    have one : ((s.one x c).secs.getD k [] = s.secs.getD k [] ∨ (x.1 = k ∧ (s.one x c).secs.getD k [] = x.2)) ∧ (k ∈ (s.one x c).torn → k ∈ s.torn ∨ x.1 = k) := by
      unfold DSt.one
      split
      · refine ⟨?_, fun h => .inl (List.mem_of_mem_erase h)⟩
        by_cases hx : x.1 = k
        · right; subst hx; simp [DSt.settle, hk]
        · left; simp [DSt.settle, hx, List.getElem?_set]
      · split
        · refine ⟨.inl rfl, fun h => ?_⟩
          rcases mem_insT.1 h with h | h
          · exact .inr h.symm
          · exact .inl h
        · exact ⟨.inl rfl, .inl⟩
    refine ⟨?_, fun h => ?_⟩
    · rcases ih.1 with h1 | ⟨y, hy, h1, h2⟩
      · rcases one.1 with h2 | ⟨h2, h3⟩
        · exact .inl (h1.trans h2)
        · exact .inr ⟨x, by simp, h2, h1.trans h3⟩
      · exact .inr ⟨y, by simp [hy], h1, h2⟩
    · rcases ih.2 h with h1 | ⟨y, hy, h1⟩
      · rcases one.2 h1 with h2 | h2
        · exact .inl h2
        · exact .inr ⟨x, by simp, h2⟩
      · exact .inr ⟨y, by simp [hy], h1⟩

theorem look_incR (s : DSt) (k : Nat) : s.incR.look k = s.look k := rfl
theorem DSt.Calm.incR {s : DSt} (h : s.Calm) : s.incR.Calm := h
theorem DSt.Calm.wrote {s : DSt} (h : s.Calm) (a : Nat) (l : List UInt8) : (s.wrote a l).Calm := h
theorem DSt.Calm.flush_calm {s : DSt} (h : s.Calm) : s.flush.Calm := by
  rw [h.flush]
  have := settleAll_flags s.waits s.incF
  exact ⟨this.1.trans h.1, this.2.1.trans h.2⟩
theorem DSt.Calm.flush_torn {s : DSt} (h : s.Calm) (ht : s.torn = []) : s.flush.torn = [] := by
  rw [h.flush]; exact settleAll_torn s.waits s.incF ht
theorem DSt.Calm.flush_secs {s : DSt} (h : s.Calm) : s.flush.secs.length = s.secs.length := by
  rw [h.flush]; exact settleAll_secs s.waits s.incF
theorem DSt.Calm.flush_counts {s : DSt} (h : s.Calm) : s.flush.waits.length = 0 ∧ s.flush.reads = s.reads ∧ s.flush.writes = s.writes ∧ s.flush.flushes = s.flushes + 1 := by
  rw [h.flush]
  have := settleAll_flags s.waits s.incF
  exact ⟨rfl, this.2.2.1, this.2.2.2.1, this.2.2.2.2⟩
theorem new_calm (n : Nat) : (DSt.new n).Calm := ⟨rfl, rfl⟩
theorem new_look (n k : Nat) (hk : k < n) : (DSt.new n).look k = (0, zerosL 512) := by
  rw [look_none (by rfl)]
  simp [DSt.new, hk]
theorem new_secs (n : Nat) : (DSt.new n).secs.length = n := by simp [DSt.new]
/-- What a caller keeps of a device that is up: how many sectors, none torn, and how much was done. -/
structure DSt.Up (s : DSt) (n c : Nat) : Prop where
  calm : s.Calm
  torn : s.torn = []
  secs : s.secs.length = n
  waits : s.waits.length ≤ c
  reads : s.reads ≤ c
  writes : s.writes ≤ c
  flushes : s.flushes ≤ c
theorem DSt.Up.fit {s : DSt} {n c : Nat} (h : s.Up n c) (hc : c < 1048576) : s.Fit := ⟨by have := h.waits; omega, by have := h.reads; omega, by have := h.writes; omega, by have := h.flushes; omega⟩
theorem DSt.Up.incR {s : DSt} {n c : Nat} (h : s.Up n c) : s.incR.Up n (c + 1) := ⟨h.calm, h.torn, h.secs, Nat.le_succ_of_le h.waits, Nat.succ_le_succ h.reads, Nat.le_succ_of_le h.writes, Nat.le_succ_of_le h.flushes⟩
theorem DSt.Up.wrote {s : DSt} {n c : Nat} (h : s.Up n c) (a : Nat) (l : List UInt8) : (s.wrote a l).Up n (c + 1) :=
  ⟨h.calm, h.torn, h.secs, by have := h.waits; simp [DSt.wrote]; omega, Nat.le_succ_of_le h.reads, Nat.succ_le_succ h.writes, Nat.le_succ_of_le h.flushes⟩
theorem DSt.Up.flush {s : DSt} {n c : Nat} (h : s.Up n c) : s.flush.Up n (c + 1) := by
  have h1 := h.calm.flush_counts
  exact ⟨h.calm.flush_calm, h.calm.flush_torn h.torn, h.calm.flush_secs.trans h.secs, by omega, by have := h.reads; omega, by have := h.writes; omega, by have := h.flushes; omega⟩
theorem DSt.Up.mono {s : DSt} {n c d : Nat} (h : s.Up n c) (hd : c ≤ d) : s.Up n d := ⟨h.calm, h.torn, h.secs, Nat.le_trans h.waits hd, Nat.le_trans h.reads hd, Nat.le_trans h.writes hd, Nat.le_trans h.flushes hd⟩
theorem new_up (n : Nat) : (DSt.new n).Up n 0 := ⟨new_calm n, rfl, new_secs n, Nat.le_refl _, Nat.le_refl _, Nat.le_refl _, Nat.le_refl _⟩

end Go.Proofs.YtmedpmhiebcdjaaDoor
