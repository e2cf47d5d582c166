/- put, number, and the document's own: low, number. No condition. -/
import Derived.Test.YtijkgihgpchcfaaTgb
import Derived.RegionTactic
import Derived.Maps.AppendAt
import Derived.ChangeAlike
namespace Go.Proofs.Ytijkgihgpchcfaa
open Go.RowKit

theorem wpList_append_b_at {w : World} {ops : Array Oper} {rest : List Oper} {o : Oper} {a : Act} {Q : Exit → Act → World → Prop} (hgd : o.guard = none) (s x : Operand)
    (ho : o.op = .call { callee := .builtin .append, args := #[s, x], argTypes := #[26, 26] })
    (base : Nat) (v : Value) (xs : List UInt8) (hs : a.eval s = v) (hown : w.ownsRow base 5 1 v xs.length (xs.map byteV))
    (g cap : Nat) (l : List UInt8) (hx : a.eval x = .slice (some ⟨g, 0, none⟩) l.length cap) (hr : ∀ i (h : i < l.length), w.cell? ⟨g, i, none⟩ = some (byteV l[i]))
    (h63 : xs.length + l.length ≤ 4294967296) (hbase : base ≤ w.heap.size)
    (h : ∀ v' w', w'.ownsRow base 5 1 v' (xs ++ l).length ((xs ++ l).map byteV) → w.grownBy w' v.ownBlock → (v'.ownBlock = v.ownBlock ∨ v'.ownBlock = some w.heap.size) → wpList Try.prog ops Q rest (a.put o.dst v') w') : wpList Try.prog ops Q (o :: rest) a w := by
  obtain ⟨i0, hi, hz, hsize, hby⟩ := info_parts Try.info5
  have hm : xs.length + l.length ≤ maxLen := by unfold maxLen; omega
  have hb : (xs.length + l.length) * 1 ≤ 140737488355328 := by omega
  refine wpList_append_own_at w hgd s x 26 ho base 5 i0 (.int .u8 0) 1 1 Try.underlying26 hi hz hsize hby rfl (by omega) v xs.length (xs.map byteV) hs hown ⟨g, 0, none⟩ l.length cap (l.map byteV) hx (by simp) (fun j u hj => ?_) (byteV_all l) (by simpa using hm) (by simpa using hb) hbase fun v' w' h2 h3 _ h5 => h v' w' (by rw [List.length_append, List.map_append]; exact h2) h3 h5
  rw [List.getElem?_map] at hj
  obtain ⟨y, hy, rfl⟩ := Option.map_eq_some_iff.1 hj
  obtain ⟨hj', rfl⟩ := List.getElem?_eq_some_iff.1 hy
  rw [add_plain', Nat.zero_add]
  exact hr j hj'

/-- What put has done after k rounds. -/
structure PutI (base : Nat) (v : Value) (w : World) (l : List UInt8) (out : Value) (wr : World) : Prop where
  own : wr.ownsRow base 5 1 out l.length (l.map byteV)
  touch : Touch (fun k => v.ownBlock = some k) w wr
  at_ : ∀ k, out.ownBlock = some k → v.ownBlock = some k ∨ w.heap.size ≤ k
theorem PutI.next {base : Nat} {v : Value} {w : World} {l l' : List UInt8} {out v2 : Value} {wr w3 : World} (h : PutI base v w l out wr) (o : Obj) (hown : w3.ownsRow base 5 1 v2 l'.length (l'.map byteV)) (hg : (wr.alloc o).grownBy w3 out.ownBlock) (hat : v2.ownBlock = out.ownBlock ∨ v2.ownBlock = some (wr.alloc o).heap.size) : PutI base v w l' v2 w3 := by
  refine ⟨hown, (h.touch.alloc o).trans (Touch.of_grown (F := fun k => out.ownBlock = some k) hg fun k hk => hk) fun k hk hlt => ?_, fun k hk => ?_⟩
  · rcases h.at_ k hk with h1 | h1
    · exact h1
    · omega
  · rcases hat with e | e
    · rw [e] at hk; exact h.at_ k hk
    · rw [e] at hk
      have h1 := h.touch.size
      simp at hk
      right; omega

set_option maxHeartbeats 1000000 in
theorem put_own (base : Nat) (v : Value) (l : List UInt8) (s : Nat) (x : Nat) (w : World) (h : w.ownsRow base 5 1 v l.length (l.map byteV)) (hb : base ≤ w.heap.size) (hs : s ≤ 8) (hl : l.length + 8 ≤ 4294967296) (hx : x < 18446744073709551616) :
    Calls Try.prog 16 #[v, .int .i64 (s : Int), .int .u64 (x : Int)] w fun e w' => (∃ v', e = .returned v' ∧ w'.ownsRow base 5 1 v' (l ++ Oct.le s x).length ((l ++ Oct.le s x).map byteV)) ∧ Touch (fun k => v.ownBlock = some k) w w' := by
  have HO := Lib.hid (show PutI base v w l v w from ⟨h, Touch.refl _ _, fun _ hk => .inl hk⟩)
  have HS := Lib.hid hb
  clear h hb
  go_enter Try.func16, Try.ntmps16
  go_wp2
  go_loopw [0, 2, 8] (fun out n i wr => ∃ k : Nat, k ≤ s ∧ i = .int .i64 k ∧ n = .int .u64 ((x / 256 ^ k : Nat) : Int) ∧ PutI base v w (l ++ Oct.le k x) out wr) (fun _ _ i _ => s - (intOf i).toNat)
  case atStart => exact ⟨0, Nat.zero_le _, rfl, by simp, by simpa [Oct.le] using HO.out⟩
  case round =>
    obtain ⟨k, hk, rfl, rfl, hI⟩ := hrel
    by_cases hlt : k < s
    · have hbn := Nat.le_trans HS.out hI.touch.size
      have hbc := byte_at x k
      have hdv := div_next x k
      have hle := Oct.le_succ k x
      have hxx : x / 256 ^ k < 18446744073709551616 := Nat.lt_of_le_of_lt (Nat.div_le_self _ _) hx
      generalize x / 256 ^ k = y at hbc hdv hle hxx ⊢
      generalize hz : x / 256 ^ (k + 1) = z at hdv
      have HZ := Lib.hid hz
      clear hz
      generalize UInt8.ofNat (y % 256) = c at hbc hle
      have HLE := Lib.hid hle
      have HI := Lib.hid hI
      have HL8 := Lib.hid (show (l ++ Oct.le k x).length + [c].length ≤ 4294967296 by simp [Oct.le_length]; omega)
      have HLT := Lib.hid (show ∀ i (h : i < [c].length), (wr.alloc (.cells #[.int .u8 (c.toNat : Int)] 5)).cell? ⟨wr.heap.size, i, none⟩ = some (byteV [c][i]) from fun i hi => by
        have : i = 0 := by simp at hi; omega
        subst this
        rw [World.cell?_alloc_mark]; rfl)
      clear hle hI
      go_wp2_with (at_builtin; refine wpList_append_b_at rfl (.tmp 10) (.tmp 13) rfl base _ (l ++ Oct.le k x) rfl (HI.out.own.alloc _) wr.heap.size 1 [c] rfl HLT.out HL8.out (by simp; omega) ?_; intro v2 w3 hown hgrow hat; have HO2 := Lib.hid hown; have HG2 := Lib.hid hgrow; have HA2 := Lib.hid hat; clear hown hgrow hat)
      have HI2 := Lib.hid (HI.out.next _ HO2.out HG2.out HA2.out)
      clear HG2 HA2 HO2
      go_roundw
      case rel => exact ⟨k + 1, by omega, by go_num, by rw [HZ.out], by have := HI2.out; rw [List.append_assoc, ← HLE.out] at this; exact this⟩
      case measure => simp [intOf]; omega
    · obtain rfl : k = s := by omega
      have HI := Lib.hid hI
      clear hI
      go_wp2
      go_ret
      exact ⟨⟨_, rfl, HI.out.own⟩, HI.out.touch⟩

theorem unle_snoc (l : List UInt8) (k : Nat) (h : k < l.length) : Oct.unle (l.take (k + 1)) = Oct.unle (l.take k) + 256 ^ k * l[k].toNat := by
  rw [List.take_succ_eq_append_getElem h, Oct.unle_append, List.length_take, Nat.min_eq_left (Nat.le_of_lt h)]; simp [Oct.unle]
theorem unle_take_lt (l : List UInt8) (k : Nat) (h : k ≤ l.length) : Oct.unle (l.take k) < 256 ^ k := by
  have := Oct.unle_lt (l.take k)
  rwa [List.length_take, Nat.min_eq_left h] at this
theorem or_shift (x k : Nat) (c : UInt8) (hk : k < 8) (hx : x < 256 ^ k) :
    bits .or .u64 (x : Int) (IntKind.u64.wrap (IntKind.u64.wrap (c.toNat : Int) * 2 ^ (8 * k))) = ((x + 256 ^ k * c.toNat : Nat) : Int) := by
  have hc := c.toNat_lt
  have hp : (256 : Nat) ^ k = 2 ^ (8 * k) := by rw [Nat.pow_mul]
  have hpk : 256 ^ k * 256 ≤ 256 ^ 8 := by rw [← Nat.pow_succ]; exact Nat.pow_le_pow_right (by omega) hk
  have hm : 256 ^ k * c.toNat + 256 ^ k ≤ 256 ^ k * 256 := by rw [← Nat.mul_succ]; exact Nat.mul_le_mul_left _ hc
  have h8 : (256 : Nat) ^ 8 = 18446744073709551616 := by decide
  rw [IntKind.wrap_u64, IntKind.wrap_u64, Int.emod_eq_of_lt (a := (c.toNat : Int)) (by omega) (by omega)]
  have e : (c.toNat : Int) * 2 ^ (8 * k) = ((256 ^ k * c.toNat : Nat) : Int) := by
    rw [hp]; push_cast; rw [Int.mul_comm]
  rw [e, Int.emod_eq_of_lt (by omega) (by omega), bits_or_u64_nat _ _ (by omega) (by omega), Nat.or_comm, hp, ← Nat.two_pow_add_eq_or_of_lt (by rw [← hp]; exact hx), Nat.add_comm]

set_option maxHeartbeats 400000 in
theorem number_any (v : Value) (l : List UInt8) (g : Nat) (w : World) (h : BV w v l g) (hl : l.length ≤ 8) :
    Calls Try.prog 36 #[v] w fun e w' => e = .returned (.int .u64 (Oct.unle l : Int)) ∧ w = w' := by
  obtain ⟨a, cap, rfl, hc, hn⟩ := h.form
  have H := Lib.hid h
  clear h hn
  go_enter Try.func36, Try.ntmps36
  go_wp2
  go_loop [3, 8] (fun n i => ∃ k : Nat, k ≤ l.length ∧ i = .int .i64 k ∧ n = .int .u64 ((Oct.unle (l.take k) : Nat) : Int)) (fun _ i => l.length - (intOf i).toNat)
  case atStart => exact ⟨0, Nat.zero_le _, rfl, rfl⟩
  case round =>
    obtain ⟨k, hk, rfl, rfl⟩ := hrel
    by_cases hlt : k < l.length
    · obtain ⟨off, rfl, hck⟩ := H.out.reads.cellk hlt
      have hor := or_shift (Oct.unle (l.take k)) k l[k] (by omega) (unle_take_lt l k hk)
      rw [← unle_snoc l k hlt] at hor
      generalize hz : Oct.unle (l.take (k + 1)) = z at hor
      have HZ := Lib.hid hz
      clear hz
      generalize Oct.unle (l.take k) = y at hor ⊢
      generalize l[k] = c at hor hck
      go_wp2
      go_round
      case rel => exact ⟨k + 1, by omega, by go_num, by rw [HZ.out]⟩
      case measure => simp [intOf]; omega
    · obtain rfl : k = l.length := by omega
      rw [List.take_length]
      go_wp2
      go_ret
      exact ⟨rfl, rfl⟩

theorem str_app (a b : List UInt8) : (⟨a.toArray⟩ : ByteArray) ++ ⟨b.toArray⟩ = ⟨(a ++ b).toArray⟩ := by
  apply ByteArray.ext
  rw [ByteArray.data_append]
  simp

set_option maxHeartbeats 400000 in
theorem low_any (s x : Nat) (w : World) (hs : s ≤ 8) (hx : x < 18446744073709551616) :
    Calls Try.prog 17 #[.int .u64 (x : Int), .int .i64 (s : Int)] w fun e w' => e = .returned (.string ⟨(Oct.le s x).toArray⟩) ∧ Below w.heap.size w w' := by
  go_enter Try.func17, Try.ntmps17
  go_wp2
  go_loopw [0, 5, 6] (fun n out i wr => ∃ k : Nat, k ≤ s ∧ i = .int .i64 k ∧ n = .int .u64 ((x / 256 ^ k : Nat) : Int) ∧ out = .string ⟨(Oct.le k x).toArray⟩ ∧ Below w.heap.size w wr) (fun _ _ i _ => s - (intOf i).toNat)
  case atStart => exact ⟨0, Nat.zero_le _, rfl, by simp, rfl, Below.refl _ _⟩
  case round =>
    obtain ⟨k, hk, rfl, rfl, rfl, hb⟩ := hrel
    by_cases hlt : k < s
    · have hbn := hb.size
      have hbc := byte_at x k
      have hdv := div_next x k
      have hle := Oct.le_succ k x
      have hxx : x / 256 ^ k < 18446744073709551616 := Nat.lt_of_le_of_lt (Nat.div_le_self _ _) hx
      generalize x / 256 ^ k = y at hbc hdv hle hxx ⊢
      generalize hz : x / 256 ^ (k + 1) = z at hdv
      have HZ := Lib.hid hz
      clear hz
      generalize UInt8.ofNat (y % 256) = c at hbc hle
      have HLE := Lib.hid hle
      have HBW := Lib.hid hb
      have kc := run_convBytes (lit_reads wr #[.int .u8 (c.toNat : Int)] (0, 0) [c] 1 1 (one_row c) rfl)
      have ks := str_app (Oct.le k x) [c]
      have kl : (Oct.le k x).length ≤ 8 := by rw [Oct.le_length]; omega
      clear hle hb
      go_wp2
      go_roundw
      case rel => exact ⟨k + 1, by omega, by go_num, by rw [HZ.out], by rw [HLE.out], HBW.out.alloc hbn _⟩
      case measure => simp [intOf]; omega
    · obtain rfl : k = s := by omega
      have HBW := Lib.hid hb
      clear hb
      go_wp2
      go_ret
      exact ⟨rfl, HBW.out⟩

theorem refAdd (l : List UInt8) (k : Nat) (h : k < l.length) (hl : l.length ≤ 8) :
    IntKind.u64.wrap (IntKind.u64.wrap ((Oct.unle (l.drop (k + 1)) : Int) * 256) + IntKind.u64.wrap (l[k].toNat : Int)) = ((Oct.unle (l.drop k) : Nat) : Int) := by
  have h1 := Oct.unle_drop l k h
  have h2 := Oct.unle_lt (l.drop k)
  have h3 : 256 ^ (l.drop k).length ≤ 256 ^ 8 := Nat.pow_le_pow_right (by omega) (by rw [List.length_drop]; omega)
  have h8 : (256 : Nat) ^ 8 = 18446744073709551616 := by decide
  have hc := l[k].toNat_lt
  rw [IntKind.wrap_u64, IntKind.wrap_u64, IntKind.wrap_u64]
  omega

set_option maxHeartbeats 400000 in
theorem refNumber_any (l : List UInt8) (w : World) (hl : l.length ≤ 8) :
    Calls Try.prog 21 #[.string ⟨l.toArray⟩] w fun e w' => e = .returned (.int .u64 (Oct.unle l : Int)) ∧ w = w' := by
  go_enter Try.func21, Try.ntmps21
  go_wp2
  go_loop [3, 4] (fun n i => ∃ k : Nat, k ≤ l.length ∧ i = .int .i64 k ∧ n = .int .u64 ((Oct.unle (l.drop k) : Nat) : Int)) (fun _ i => (intOf i).toNat)
  case atStart => exact ⟨l.length, Nat.le_refl _, rfl, by rw [List.drop_length]; rfl⟩
  case round =>
    obtain ⟨k, hk, rfl, rfl⟩ := hrel
    by_cases hlt : 0 < k
    · obtain ⟨j, rfl⟩ : ∃ j, k = j + 1 := ⟨k - 1, by omega⟩
      have hjl : j < l.length := by omega
      have hadd := refAdd l j hjl hl
      generalize hz : Oct.unle (l.drop j) = z at hadd
      have HZ := Lib.hid hz
      clear hz
      generalize Oct.unle (l.drop (j + 1)) = y at hadd ⊢
      have hj1 : (((j + 1 : Nat) : Int) - 1) = (j : Int) := by omega
      go_wp2
      go_round
      case rel => exact ⟨j, by omega, rfl, by rw [HZ.out]; exact congrArg (Value.int .u64) hadd⟩
      case measure => simp [intOf]
    · obtain rfl : k = 0 := by omega
      rw [List.drop_zero]
      go_wp2
      go_ret
      exact ⟨rfl, rfl⟩

end Go.Proofs.Ytijkgihgpchcfaa
