/-
  Proved here: what the statements' own Num answers.
  Conditions: none.
-/
import Derived.Test.YtckcokjpmjeakaaOwn
namespace Go.Proofs.Ytckcokjpmjeakaa
open Go.RowKit

end Go.Proofs.Ytckcokjpmjeakaa
