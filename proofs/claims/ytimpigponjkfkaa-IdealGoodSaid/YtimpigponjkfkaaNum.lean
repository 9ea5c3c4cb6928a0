/-
  Proved here: what the statements' own Num answers.
  Conditions: none.
-/
import Derived.Test.YtimpigponjkfkaaOwn
namespace Go.Proofs.Ytimpigponjkfkaa
open Go.RowKit
set_option maxRecDepth 100000

set_option maxHeartbeats 400000 in
theorem num_any (x : Int) (w : World) : Calls Try.prog 14 #[.int .i64 x] w fun e w' => e = .returned (.int .i64 x) ∧ w = w' := by
  go_enter Try.func14, Try.ntmps14
  go_wp2
  go_ret
  exact ⟨rfl, rfl⟩
end Go.Proofs.Ytimpigponjkfkaa
