/-
  Proved here: which calls are good, as chapter 15's own tells it.
  Conditions: a group's calls have no group; rows of at most 2^20 calls.
-/
import Derived.Test.YtpmgnhijiodbaaaRGood15
namespace Go.Proofs.Ytpmgnhijiodbaaa
open Go Go.RowKit
set_option maxRecDepth 100000

theorem longK_eq (s : ByteArray) : longK s = decide ((16 : Int) < s.size) := rfl
theorem longV_eq (s : ByteArray) : longV s = decide ((400 : Int) < s.size) := rfl
def shC (c : Cal) (G : List Cal) : Int := if formC c G = true then 0 else 1
end Go.Proofs.Ytpmgnhijiodbaaa
