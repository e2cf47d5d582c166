/- Tables: what must be in any case; TableNone. No condition. -/
import Derived.Test.YtcjokhbpnlokhaaTbr
import Derived.Test.YtcjokhbpnlokhaaTbp
namespace Go.Proofs.Ytcjokhbpnlokhaa
open Go.RowKit

abbrev nil0 : Nat → Option Nat := fun _ => none
theorem look_nil (x : Int) : lookI nil0 x = none := by simp [lookI]
theorem upd_nil (i : Nat) : upd nil0 i none = nil0 := upd_self nil0 i
theorem cnt_nil (n : Nat) : cnt nil0 n = 0 := by
  induction n with
  | zero => rfl
  | succ n ih => simp only [cnt]; rw [ih]; rfl
section
variable {w : World} {T gp go B S : Nat} {a o : Nat → Option Nat}
theorem atq (h : TabAt w T gp go B S a o) (id : Int) (x : Option Nat) (hx : lookI a id = x) :
    Calls Try.prog 11 #[.pointer (some ⟨T, 0, none⟩), .int .i64 id] w fun e w' => e = .returned (.tuple #[.int .i64 (ans x), .bool x.isSome]) ∧ w = w' := by
  subst hx; exact at_any h id
theorem ownerq (h : TabAt w T gp go B S a o) (id : Int) (x : Option Nat) (hx : lookI o id = x) :
    Calls Try.prog 12 #[.pointer (some ⟨T, 0, none⟩), .int .i64 id] w fun e w' => e = .returned (.tuple #[.int .i64 (ans x), .bool x.isSome]) ∧ w = w' := by
  subst hx; exact owner_any h id
theorem lenq (h : TabAt w T gp go B S a o) (n : Nat) (hn : cnt a B = n) :
    Calls Try.prog 14 #[.pointer (some ⟨T, 0, none⟩)] w fun e w' => e = .returned (.int .i64 (n : Int)) ∧ w = w' := by
  subst hn; exact len_any h
theorem drop_nil (h : TabAt w T gp go B S nil0 nil0) (id : Int) :
    Calls Try.prog 9 #[.pointer (some ⟨T, 0, none⟩), .int .i64 id] w fun e w' => e = .returned (.bool false) ∧ TabAt w' T gp go B S nil0 nil0 ∧ Touch (Own3 T gp go) w w' := by
  refine (drop_any h id).mono ?_
  rintro e w' ⟨rfl, ⟨a', o', ht, h1, h2⟩, htc⟩
  rw [look_nil]
  refine ⟨rfl, ?_, htc⟩
  by_cases h0 : 0 ≤ id
  · obtain ⟨rfl, rfl⟩ := h1 h0
    rw [upd_nil] at ht
    exact ht
  · obtain ⟨rfl, rfl⟩ := h2 (by omega)
    exact ht
end

set_option maxRecDepth 100000 in
set_option maxHeartbeats 1000000 in
theorem shown_any (w : World) : Calls Try.prog 7 #[] w fun e w' => e = .returned (.bool true) ∧ Below w.heap.size w w' := by
  go_enter Try.func7, Try.ntmps7
  go_wp2_with fail
  refine (new_any 4 9 4 9 _ (by decide) (by decide)).mono ?_
  rintro e w1 ⟨⟨T, gp, go, rfl, h1, hT, hp, ho⟩, hb⟩
  have H := Lib.hid h1
  have HB := Lib.hid hb
  have HT := Lib.hid (And.intro hT (And.intro hp ho))
  clear h1 hb hT hp ho
  go_wp2_with fail
  refine (put_ok H.out (i := 3) (p := 7) (by decide) (by decide) (.inl rfl)).mono ?_
  rintro e w2 ⟨rfl, h2, ht2⟩
  have H2 := Lib.hid h2
  have T2 := Lib.hid ht2
  clear h2 ht2
  go_wp2_with fail
  refine (put_no H2.out 2 7 (by decide)).mono ?_
  rintro e w' ⟨rfl, rfl⟩
  go_wp2_with fail
  refine (put_ok H2.out (i := 3) (p := 8) (by decide) (by decide) (.inl rfl)).mono ?_
  rintro e w3 ⟨rfl, h3, ht3⟩
  have H3 := Lib.hid h3
  have T3 := Lib.hid ht3
  clear h3 ht3
  go_wp2_with fail
  refine (atq H3.out 3 (some 8) rfl).mono ?_
  rintro e w' ⟨rfl, rfl⟩
  simp only [ans, Option.isSome]
  go_wp2_with fail
  refine (ownerq H3.out 7 none rfl).mono ?_
  rintro e w' ⟨rfl, rfl⟩
  simp only [ans, Option.isSome]
  go_wp2_with fail
  refine (lenq H3.out 1 (by decide)).mono ?_
  rintro e w' ⟨rfl, rfl⟩
  go_wp2
  go_ret
  refine ⟨rfl, ((Touch.of_below (F := Emp) HB.out).trans (T2.out.trans T3.out fun k hk _ => hk) ?_).below⟩
  obtain ⟨x1, x2, x3⟩ := HT.out
  rintro k (rfl | rfl | rfl) hk <;> omega

end Go.Proofs.Ytcjokhbpnlokhaa
