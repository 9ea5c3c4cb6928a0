/-
  Proved here: what the statements' own Num answers.
  Conditions: none.
-/
import Derived.Test.YtkcjamjjaallhaaOwn
namespace Go.Proofs.Ytkcjamjjaallhaa
open Go.RowKit

set_option maxHeartbeats 400000 in
theorem num_any (x : Int) (w : World) : Calls Try.prog 11 #[.int .i64 x] w fun e w' => e = .returned (.int .i64 x) ∧ w = w' := by
  go_enter Try.func11, Try.ntmps11
  go_wp2
  go_ret
  exact ⟨rfl, rfl⟩
end Go.Proofs.Ytkcjamjjaallhaa
