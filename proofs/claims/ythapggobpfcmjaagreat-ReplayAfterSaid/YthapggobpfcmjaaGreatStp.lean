/- append(own, bytes...) as one step of a region that draws. No condition. -/
import Derived.Test.YthapggobpfcmjaaGreatBuf
namespace Go.Proofs.YthapggobpfcmjaaGreat
open Go.RowKit

theorem wp_append_b {w : World} {o : Oper} {a : Act} {K : Act → World → Prop} {Q : Exit → Act → World → Prop} (s x : Operand)
    (ho : o.op = .call { callee := .builtin .append, args := #[s, x], argTypes := #[39, 39] })
    (base : Nat) (v : Value) (xs : List UInt8) (hs : a.eval s = v) (hown : w.ownsRow base 5 1 v xs.length (xs.map byteV))
    (xv : Value) (l : List UInt8) (g : Nat) (hx : a.eval x = xv) (hr : BV w xv l g)
    (h63 : xs.length + l.length ≤ 4294967296) (hbase : base ≤ w.heap.size)
    (h : ∀ v' w', w'.ownsRow base 5 1 v' (xs ++ l).length ((xs ++ l).map byteV) → w.grownBy w' v.ownBlock → K (a.put o.dst v') w') : o.wp Tryz.prog a w K Q := by
  obtain ⟨i0, hi, hz, hsize, hby⟩ := info_parts Tryz.info5
  have h' : ∀ v' w', w'.ownsRow base 5 1 v' (xs.length + l.length) (xs.map byteV ++ l.map byteV) → w.grownBy w' v.ownBlock → K (a.put o.dst v') w' := fun v' w' h1 h2 => h v' w' (by rw [List.length_append, List.map_append]; exact h1) h2
  have hm : xs.length + l.length ≤ maxLen := by unfold maxLen; omega
  have hb : (xs.length + l.length) * 1 ≤ 140737488355328 := by omega
  have hnil := hr.nilc
  obtain ⟨off, cap, ⟨rfl, hc⟩ | ⟨⟨ad, rfl⟩, rfl⟩⟩ := hr.reads
  · refine wp_append_own w s x 39 ho base 5 i0 (.int .u8 0) 1 1 Tryz.underlying39 hi hz hsize hby rfl (by omega) v xs.length (xs.map byteV) hs hown ⟨g, off, none⟩ l.length cap (l.map byteV) hx (by simp) (fun j u hj => ?_) (byteV_all l) (by simpa using hm) (by simpa using hb) hbase fun v' w' h2 h3 _ => h' v' w' (by simpa using h2) h3
    rw [List.getElem?_map] at hj
    obtain ⟨y, hy, rfl⟩ := Option.map_eq_some_iff.1 hj
    obtain ⟨hj', rfl⟩ := List.getElem?_eq_some_iff.1 hy
    rw [Go.WideShapes.add_plain]
    exact hc j hj'
  · cases ad with
    | some ad =>
      exact wp_append_own w s x 39 ho base 5 i0 (.int .u8 0) 1 1 Tryz.underlying39 hi hz hsize hby rfl (by omega) v xs.length (xs.map byteV) hs hown ad 0 cap [] hx rfl (fun j u hj => by simp at hj) (fun u hu => by simp at hu) (by simpa using hm) (by simpa using hb) hbase fun v' w' h2 h3 _ => h' v' w' (by simpa using h2) h3
    | none =>
      obtain rfl := hnil _ _ rfl
      have hrun := run_append_owned_none (P := Tryz.prog) (w := w) base 39 o.type 5 i0 1 Tryz.underlying39 hi v xs.length (xs.map byteV) hown
      unfold Oper.wp
      simp [execOp, ho, resolve, invoke, builtin, hs, hx, hrun, Result.andThen]
      exact h' v w (by simpa using hown) ⟨rfl, rfl, rfl, Nat.le_refl _, fun _ _ _ => rfl⟩
theorem step_append_b {ops : Array Oper} {w : World} {o : Oper} {a : Act} {K : Act → World → Prop} {Q : Exit → Act → World → Prop} {E : Prop} (hgd : o.guard = none) (s x : Operand)
    (ho : o.op = .call { callee := .builtin .append, args := #[s, x], argTypes := #[39, 39] })
    (base : Nat) (v : Value) (xs : List UInt8) (hs : a.eval s = v) (hown : w.ownsRow base 5 1 v xs.length (xs.map byteV))
    (xv : Value) (l : List UInt8) (g : Nat) (hx : a.eval x = xv) (hr : BV w xv l g)
    (h63 : xs.length + l.length ≤ 4294967296) (hbase : base ≤ w.heap.size)
    (h : ∀ v' w', w'.ownsRow base 5 1 v' (xs ++ l).length ((xs ++ l).map byteV) → w.grownBy w' v.ownBlock → K (a.put o.dst v') w') :
    if Region.wanted o (yielded ops a.tmps) = true then Oper.wp Tryz.prog o a w K Q else E := by
  have hw : Region.wanted o (yielded ops a.tmps) = true := by simp [Region.wanted, hgd]
  rw [if_pos hw]
  exact wp_append_b s x ho base v xs hs hown xv l g hx hr h63 hbase h

end Go.Proofs.YthapggobpfcmjaaGreat
