/-
  No cell of these rows narrows 'for every input' (looked for: loops, veiled, ifaces, maps, wideKeys, modest, calm, conditions, laid).
  DERIVED. THE GIVEN ROWS OF THIS SEAT. 4 by the template 'for every input the law returns true; each argument reads behind the call as it read before'; 0 by the template 'total and deterministic' (their statements: YthkiollggmeflaaTotals.lean).
  GIVEN WITH THE SEED: the statements are not yours to turn. If you find one false, say at which input.
  Laid BY PROGRAM, IN A SANDBOX (cutbox-rows.mjs): the forced cells as the released guide's own fill.sh prints them over the translation 6abba82088fb27bf… (all of the seat's roots in one cut). By AI agents, Wed Nov 11 2026. No macro, syntax, notation, axiom, sorry.
-/
import Derived.Test.YthkiollggmeflaaChecked
import GoSem.Claim
import GoSem.ClaimJoined
import GoSem.ClaimMapViews
import Derived.JoinedTies
import Derived.KernelRfl
namespace Go.Proofs.Ythkiollggmeflaa
/- THE CELL 'sum', in the pinned program and in every row, IS THE sha256 OF THE DUMP (.gsa) THAT YthkiollggmeflaaProg.lean LOADS. Nothing in Lean hashes anything: it is a label: what it is worth is what the hold of that sum in a sandbox is worth. -/
noncomputable def Try.pinned : Pinned := { name := "ythkiollggmeflaa", sum := "6abba82088fb27bfe12e2adad13b85ce460b6d5ae5d5a7ad530ce7ad6d100540", checked := Try.checked }
namespace Rows
def none {H : Type} : Left H := { results := [], args := [] }

/-- 'fuseelaw8.ReaderScript': WHATEVER THE INPUT: true; the input reads as it did. -/
def readerScriptSpec : ChangeSpec := { name := "readerScript", fn := fun _ => fun
  | [d1, d2, d3] => { results := [.lit (.bool true)], args := [d1, d2, d3] }
  | _ => none }
def readerScriptRow : OpenClaim := { program := "ythkiollggmeflaa", sum := "6abba82088fb27bfe12e2adad13b85ce460b6d5ae5d5a7ad530ce7ad6d100540", func := "fusee/fuseelaw8.ReaderScript", spec := "readerScript", inPlace := ["sync/atomic.StoreUint64", "sync/atomic.LoadUint64", "sync/atomic.CompareAndSwapUint64", "sync/atomic.AddUint64", "sync/atomic.SwapUint64"], apart := false }
def ReaderScriptSaid : Prop := readerScriptRow.holds Try.pinned (OpenSpec.ofChange readerScriptSpec)

/-- ITS FALSE NEIGHBOUR: 'it returns false'. Refute it at one input. -/
def readerScriptWrong : ChangeSpec := { name := "readerScript", fn := fun _ => fun
  | [d1, d2, d3] => { results := [.lit (.bool false)], args := [d1, d2, d3] }
  | _ => none }
def ReaderScriptWrongFalsely : Prop := readerScriptRow.holds Try.pinned (OpenSpec.ofChange readerScriptWrong)

/-- 'fuseelaw8.ReaderQuiet': WHATEVER THE INPUT: true; the input reads as it did. -/
def readerQuietSpec : ChangeSpec := { name := "readerQuiet", fn := fun _ => fun
  | [d1, d2] => { results := [.lit (.bool true)], args := [d1, d2] }
  | _ => none }
def readerQuietRow : OpenClaim := { program := "ythkiollggmeflaa", sum := "6abba82088fb27bfe12e2adad13b85ce460b6d5ae5d5a7ad530ce7ad6d100540", func := "fusee/fuseelaw8.ReaderQuiet", spec := "readerQuiet", inPlace := ["sync/atomic.StoreUint64", "sync/atomic.LoadUint64", "sync/atomic.CompareAndSwapUint64", "sync/atomic.AddUint64", "sync/atomic.SwapUint64"], apart := false }
def ReaderQuietSaid : Prop := readerQuietRow.holds Try.pinned (OpenSpec.ofChange readerQuietSpec)

/-- ITS FALSE NEIGHBOUR: 'it returns false'. Refute it at one input. -/
def readerQuietWrong : ChangeSpec := { name := "readerQuiet", fn := fun _ => fun
  | [d1, d2] => { results := [.lit (.bool false)], args := [d1, d2] }
  | _ => none }
def ReaderQuietWrongFalsely : Prop := readerQuietRow.holds Try.pinned (OpenSpec.ofChange readerQuietWrong)

/-- 'fuseelaw8.ReaderLeast': WHATEVER THE INPUT: true; the input reads as it did. -/
def readerLeastSpec : ChangeSpec := { name := "readerLeast", fn := fun _ => fun
  | [d] => { results := [.lit (.bool true)], args := [d] }
  | _ => none }
def readerLeastRow : OpenClaim := { program := "ythkiollggmeflaa", sum := "6abba82088fb27bfe12e2adad13b85ce460b6d5ae5d5a7ad530ce7ad6d100540", func := "fusee/fuseelaw8.ReaderLeast", spec := "readerLeast", inPlace := ["sync/atomic.StoreUint64", "sync/atomic.LoadUint64", "sync/atomic.CompareAndSwapUint64", "sync/atomic.AddUint64", "sync/atomic.SwapUint64"], apart := false }
def ReaderLeastSaid : Prop := readerLeastRow.holds Try.pinned (OpenSpec.ofChange readerLeastSpec)

/-- ITS FALSE NEIGHBOUR: 'it returns false'. Refute it at one input. -/
def readerLeastWrong : ChangeSpec := { name := "readerLeast", fn := fun _ => fun
  | [d] => { results := [.lit (.bool false)], args := [d] }
  | _ => none }
def ReaderLeastWrongFalsely : Prop := readerLeastRow.holds Try.pinned (OpenSpec.ofChange readerLeastWrong)

/-- 'fuseelaw8.ReaderNone': WHATEVER THE INPUT: true; the input reads as it did. -/
def readerNoneSpec : ChangeSpec := { name := "readerNone", fn := fun _ => fun
  | [d1, d2] => { results := [.lit (.bool true)], args := [d1, d2] }
  | _ => none }
def readerNoneRow : OpenClaim := { program := "ythkiollggmeflaa", sum := "6abba82088fb27bfe12e2adad13b85ce460b6d5ae5d5a7ad530ce7ad6d100540", func := "fusee/fuseelaw8.ReaderNone", spec := "readerNone", inPlace := ["sync/atomic.LoadUint64", "sync/atomic.CompareAndSwapUint64", "sync/atomic.SwapUint64", "sync/atomic.AddUint64", "sync/atomic.StoreUint64"], apart := false }
def ReaderNoneSaid : Prop := readerNoneRow.holds Try.pinned (OpenSpec.ofChange readerNoneSpec)

/-- ITS FALSE NEIGHBOUR: 'it returns false'. Refute it at one input. -/
def readerNoneWrong : ChangeSpec := { name := "readerNone", fn := fun _ => fun
  | [d1, d2] => { results := [.lit (.bool false)], args := [d1, d2] }
  | _ => none }
def ReaderNoneWrongFalsely : Prop := readerNoneRow.holds Try.pinned (OpenSpec.ofChange readerNoneWrong)

/- THE SECOND FORM. 'bulk': how many values and letters a reading holds, each counted each time it is reached (what is shared counts as often as it is met; a slice's spare places count too). A statement '..UptoSaid' is the law's where the arguments, and the package variables that the reading takes, are together of bulk at most 1048576: NARROWER than '..Said'. Prove '..Said' where nothing that the law and all that it calls make is longer than what came in: it says more and counts as full. Else prove '..UptoSaid'. A law counts once. -/
mutual
def uptoBulk {H : Type} : DataW H → Nat
  | .lit (.string bytes) => bytes.length + 1
  | .lit _ => 1
  | .nil => 1
  | .ptr d => uptoBulk d + 1
  | .slice elems spare => uptoBulkAll elems + uptoBulkAll spare + 1
  | .agg parts => uptoBulkAll parts + 1
  | .iface _ d => uptoBulk d + 1
  | .map entries => uptoBulkEntries entries + 1
  | .held _ => 1
def uptoBulkAll {H : Type} : List (DataW H) → Nat
  | [] => 0
  | d :: r => uptoBulk d + uptoBulkAll r
def uptoBulkEntries {H : Type} : List (Lit × DataW H) → Nat
  | [] => 0
  | x :: r => uptoBulkEntry x + uptoBulkEntries r
def uptoBulkEntry {H : Type} : Lit × DataW H → Nat
  | (.string bytes, d) => bytes.length + uptoBulk d + 1
  | (_, d) => uptoBulk d + 1
 end
def uptoSmall : (H : Type) → List (DataW H) → Bool := fun _ ds => decide (uptoBulkAll ds ≤ 1048576)
def OpenSpec.upto (s : _root_.Go.ChangeSpec) : _root_.Go.OpenSpec := { _root_.Go.OpenSpec.ofChange s with cond := some uptoSmall }

/-- 'fuseelaw8.ReaderScript', WHERE WHAT IT READS IS OF BULK AT MOST 1048576: true; the input reads as it did. -/
def readerScriptUptoRow : OpenClaim := { program := "ythkiollggmeflaa", sum := "6abba82088fb27bfe12e2adad13b85ce460b6d5ae5d5a7ad530ce7ad6d100540", func := "fusee/fuseelaw8.ReaderScript", spec := "readerScript", inPlace := ["sync/atomic.StoreUint64", "sync/atomic.LoadUint64", "sync/atomic.CompareAndSwapUint64", "sync/atomic.AddUint64", "sync/atomic.SwapUint64"], apart := false, narrowed := true }
def ReaderScriptUptoSaid : Prop := readerScriptUptoRow.holds Try.pinned (OpenSpec.upto readerScriptSpec)

/-- 'fuseelaw8.ReaderQuiet', WHERE WHAT IT READS IS OF BULK AT MOST 1048576: true; the input reads as it did. -/
def readerQuietUptoRow : OpenClaim := { program := "ythkiollggmeflaa", sum := "6abba82088fb27bfe12e2adad13b85ce460b6d5ae5d5a7ad530ce7ad6d100540", func := "fusee/fuseelaw8.ReaderQuiet", spec := "readerQuiet", inPlace := ["sync/atomic.StoreUint64", "sync/atomic.LoadUint64", "sync/atomic.CompareAndSwapUint64", "sync/atomic.AddUint64", "sync/atomic.SwapUint64"], apart := false, narrowed := true }
def ReaderQuietUptoSaid : Prop := readerQuietUptoRow.holds Try.pinned (OpenSpec.upto readerQuietSpec)

/-- 'fuseelaw8.ReaderLeast', WHERE WHAT IT READS IS OF BULK AT MOST 1048576: true; the input reads as it did. -/
def readerLeastUptoRow : OpenClaim := { program := "ythkiollggmeflaa", sum := "6abba82088fb27bfe12e2adad13b85ce460b6d5ae5d5a7ad530ce7ad6d100540", func := "fusee/fuseelaw8.ReaderLeast", spec := "readerLeast", inPlace := ["sync/atomic.StoreUint64", "sync/atomic.LoadUint64", "sync/atomic.CompareAndSwapUint64", "sync/atomic.AddUint64", "sync/atomic.SwapUint64"], apart := false, narrowed := true }
def ReaderLeastUptoSaid : Prop := readerLeastUptoRow.holds Try.pinned (OpenSpec.upto readerLeastSpec)

/-- 'fuseelaw8.ReaderNone', WHERE WHAT IT READS IS OF BULK AT MOST 1048576: true; the input reads as it did. -/
def readerNoneUptoRow : OpenClaim := { program := "ythkiollggmeflaa", sum := "6abba82088fb27bfe12e2adad13b85ce460b6d5ae5d5a7ad530ce7ad6d100540", func := "fusee/fuseelaw8.ReaderNone", spec := "readerNone", inPlace := ["sync/atomic.LoadUint64", "sync/atomic.CompareAndSwapUint64", "sync/atomic.SwapUint64", "sync/atomic.AddUint64", "sync/atomic.StoreUint64"], apart := false, narrowed := true }
def ReaderNoneUptoSaid : Prop := readerNoneUptoRow.holds Try.pinned (OpenSpec.upto readerNoneSpec)

end Rows
end Go.Proofs.Ythkiollggmeflaa
