/-
  Proved here: what the statements' own Num answers.
  Conditions: none.
-/
import Derived.Test.YtfonjkbdonbjdaaOwn
namespace Go.Proofs.Ytfonjkbdonbjdaa
open Go.RowKit

set_option maxHeartbeats 400000 in
theorem num_any (x : Int) (w : World) : Calls Try.prog 27 #[.int .i64 x] w fun e w' => e = .returned (.int .i64 x) ∧ w = w' := by
  go_enter Try.func27, Try.ntmps27
  go_wp2
  go_ret
  exact ⟨rfl, rfl⟩
end Go.Proofs.Ytfonjkbdonbjdaa
