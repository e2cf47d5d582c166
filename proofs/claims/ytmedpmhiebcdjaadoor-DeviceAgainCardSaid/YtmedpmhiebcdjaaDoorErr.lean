/- What an Errno tells. -/
import Derived.Test.YtmedpmhiebcdjaaDoorMem
import Derived.KernelRfl
namespace Go.Proofs.YtmedpmhiebcdjaaDoor
open Go.RowKit

def errS (n : Int) : ByteArray :=
  if n = 0 then ⟨#[101, 114, 114, 111, 114, 32, 48]⟩ else if n = 1 then ⟨#[101, 114, 114, 111, 114, 32, 49]⟩ else if n = 2 then ⟨#[101, 114, 114, 111, 114, 32, 50]⟩ else if n = 3 then ⟨#[101, 114, 114, 111, 114, 32, 51]⟩ else ⟨#[101, 114, 114, 111, 114, 32, 49, 50]⟩

set_option maxRecDepth 100000 in
set_option maxHeartbeats 1000000 in
theorem err_any (n : Int) (w : World) (hn : n = 0 ∨ n = 1 ∨ n = 2 ∨ n = 3 ∨ n = 12) : Calls Tryd.prog 18 #[.int .i64 n] w fun e w' => e = .returned (.string (errS n)) ∧ w = w' := by
  rcases hn with rfl | rfl | rfl | rfl | rfl
  all_goals
    go_enter Tryd.func18, Tryd.ntmps18
    go_wp2
    go_ret
    exact ⟨congrArg (fun x => Ending.returned (Value.string x)) (by kernel_rfl), rfl⟩

end Go.Proofs.YtmedpmhiebcdjaaDoor
