/-
  Proved here: where package geom says that slabs lie.
  Conditions: none.
-/
import Derived.Test.YtkcjamjjaallhaaOwn
import Derived.IntWalk
import Derived.WalkSmall
namespace Go.Proofs.Ytkcjamjjaallhaa
open Go Go.RowKit

/-! ### Slabs -/
def slabsN (x : Int) : Int := if x < 10 then 0 else (min x 258 - 2) / 8
def slabN (x : Int) : Int := if 0 ≤ x ∧ x ≤ 31 then 2 + 8 * x else -1
def slabOfN (x : Int) : Int := if 2 ≤ x ∧ x < 258 then (x - 2) / 8 else -1
end Go.Proofs.Ytkcjamjjaallhaa
