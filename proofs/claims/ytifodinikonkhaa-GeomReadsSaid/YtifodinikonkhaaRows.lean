/-
  No cell of these rows narrows 'for every input' (looked for: loops, veiled, ifaces, maps, wideKeys, modest, calm, conditions, laid).
  DERIVED. THE GIVEN ROWS OF THIS SEAT. 6 by the template 'for every input the law returns true; each argument reads behind the call as it read before'; 0 by the template 'total and deterministic' (their statements: YtifodinikonkhaaTotals.lean).
  GIVEN WITH THE SEED: the statements are not yours to turn. If you find one false, say at which input.
  Laid BY PROGRAM, IN A SANDBOX (cutbox-rows.mjs): the forced cells as the released guide's own fill.sh prints them over the translation 828fe334c59605fc… (all of the seat's roots in one cut). By AI agents, Wed Nov 11 2026. No macro, syntax, notation, axiom, sorry.
-/
import Derived.Test.YtifodinikonkhaaChecked
import GoSem.Claim
import GoSem.ClaimJoined
import GoSem.ClaimMapViews
import Derived.JoinedTies
import Derived.KernelRfl
namespace Go.Proofs.Ytifodinikonkhaa
/- THE CELL 'sum', in the pinned program and in every row, IS THE sha256 OF THE DUMP (.gsa) THAT YtifodinikonkhaaProg.lean LOADS. Nothing in Lean hashes anything: it is a label: what it is worth is what the hold of that sum in a sandbox is worth. -/
noncomputable def Try.pinned : Pinned := { name := "ytifodinikonkhaa", sum := "828fe334c59605fc4e443b38d22120ca5ed573f8d32a3f944c85d4d2cdc2e546", checked := Try.checked }
namespace Rows
def none {H : Type} : Left H := { results := [], args := [] }

/-- 'fuseelaw4.GeomLines': WHATEVER THE INPUT: true; the input reads as it did. -/
def geomLinesSpec : ChangeSpec := { name := "geomLines", fn := fun _ => fun
  | [d1, d2] => { results := [.lit (.bool true)], args := [d1, d2] }
  | _ => none }
def geomLinesRow : OpenClaim := { program := "ytifodinikonkhaa", sum := "828fe334c59605fc4e443b38d22120ca5ed573f8d32a3f944c85d4d2cdc2e546", func := "fusee/fuseelaw4.GeomLines", spec := "geomLines", apart := false }
def GeomLinesSaid : Prop := geomLinesRow.holds Try.pinned (OpenSpec.ofChange geomLinesSpec)

/-- ITS FALSE NEIGHBOUR: 'it returns false'. Refute it at one input. -/
def geomLinesWrong : ChangeSpec := { name := "geomLines", fn := fun _ => fun
  | [d1, d2] => { results := [.lit (.bool false)], args := [d1, d2] }
  | _ => none }
def GeomLinesWrongFalsely : Prop := geomLinesRow.holds Try.pinned (OpenSpec.ofChange geomLinesWrong)

/-- 'fuseelaw4.GeomReads': WHATEVER THE INPUT: true; the input reads as it did. -/
def geomReadsSpec : ChangeSpec := { name := "geomReads", fn := fun _ => fun
  | [d] => { results := [.lit (.bool true)], args := [d] }
  | _ => none }
def geomReadsRow : OpenClaim := { program := "ytifodinikonkhaa", sum := "828fe334c59605fc4e443b38d22120ca5ed573f8d32a3f944c85d4d2cdc2e546", func := "fusee/fuseelaw4.GeomReads", spec := "geomReads", apart := false }
def GeomReadsSaid : Prop := geomReadsRow.holds Try.pinned (OpenSpec.ofChange geomReadsSpec)

/-- ITS FALSE NEIGHBOUR: 'it returns false'. Refute it at one input. -/
def geomReadsWrong : ChangeSpec := { name := "geomReads", fn := fun _ => fun
  | [d] => { results := [.lit (.bool false)], args := [d] }
  | _ => none }
def GeomReadsWrongFalsely : Prop := geomReadsRow.holds Try.pinned (OpenSpec.ofChange geomReadsWrong)

/-- 'fuseelaw4.GeomSlabs': WHATEVER THE INPUT: true; the input reads as it did. -/
def geomSlabsSpec : ChangeSpec := { name := "geomSlabs", fn := fun _ => fun
  | [d1, d2, d3] => { results := [.lit (.bool true)], args := [d1, d2, d3] }
  | _ => none }
def geomSlabsRow : OpenClaim := { program := "ytifodinikonkhaa", sum := "828fe334c59605fc4e443b38d22120ca5ed573f8d32a3f944c85d4d2cdc2e546", func := "fusee/fuseelaw4.GeomSlabs", spec := "geomSlabs", apart := false }
def GeomSlabsSaid : Prop := geomSlabsRow.holds Try.pinned (OpenSpec.ofChange geomSlabsSpec)

/-- ITS FALSE NEIGHBOUR: 'it returns false'. Refute it at one input. -/
def geomSlabsWrong : ChangeSpec := { name := "geomSlabs", fn := fun _ => fun
  | [d1, d2, d3] => { results := [.lit (.bool false)], args := [d1, d2, d3] }
  | _ => none }
def GeomSlabsWrongFalsely : Prop := geomSlabsRow.holds Try.pinned (OpenSpec.ofChange geomSlabsWrong)

/-- 'fuseelaw4.GeomApart': WHATEVER THE INPUT: true; the input reads as it did. -/
def geomApartSpec : ChangeSpec := { name := "geomApart", fn := fun _ => fun
  | [d] => { results := [.lit (.bool true)], args := [d] }
  | _ => none }
def geomApartRow : OpenClaim := { program := "ytifodinikonkhaa", sum := "828fe334c59605fc4e443b38d22120ca5ed573f8d32a3f944c85d4d2cdc2e546", func := "fusee/fuseelaw4.GeomApart", spec := "geomApart", apart := false }
def GeomApartSaid : Prop := geomApartRow.holds Try.pinned (OpenSpec.ofChange geomApartSpec)

/-- ITS FALSE NEIGHBOUR: 'it returns false'. Refute it at one input. -/
def geomApartWrong : ChangeSpec := { name := "geomApart", fn := fun _ => fun
  | [d] => { results := [.lit (.bool false)], args := [d] }
  | _ => none }
def GeomApartWrongFalsely : Prop := geomApartRow.holds Try.pinned (OpenSpec.ofChange geomApartWrong)

/-- 'fuseelaw4.GeomTurned': WHATEVER THE INPUT: true; the input reads as it did. -/
def geomTurnedSpec : ChangeSpec := { name := "geomTurned", fn := fun _ => fun
  | [d1, d2, d3, d4] => { results := [.lit (.bool true)], args := [d1, d2, d3, d4] }
  | _ => none }
def geomTurnedRow : OpenClaim := { program := "ytifodinikonkhaa", sum := "828fe334c59605fc4e443b38d22120ca5ed573f8d32a3f944c85d4d2cdc2e546", func := "fusee/fuseelaw4.GeomTurned", spec := "geomTurned", apart := false }
def GeomTurnedSaid : Prop := geomTurnedRow.holds Try.pinned (OpenSpec.ofChange geomTurnedSpec)

/-- ITS FALSE NEIGHBOUR: 'it returns false'. Refute it at one input. -/
def geomTurnedWrong : ChangeSpec := { name := "geomTurned", fn := fun _ => fun
  | [d1, d2, d3, d4] => { results := [.lit (.bool false)], args := [d1, d2, d3, d4] }
  | _ => none }
def GeomTurnedWrongFalsely : Prop := geomTurnedRow.holds Try.pinned (OpenSpec.ofChange geomTurnedWrong)

/-- 'fuseelaw4.GeomOpens': WHATEVER THE INPUT: true; the input reads as it did. -/
def geomOpensSpec : ChangeSpec := { name := "geomOpens", fn := fun _ => fun
  | [d1, d2, d3, d4, d5, d6, d7] => { results := [.lit (.bool true)], args := [d1, d2, d3, d4, d5, d6, d7] }
  | _ => none }
def geomOpensRow : OpenClaim := { program := "ytifodinikonkhaa", sum := "828fe334c59605fc4e443b38d22120ca5ed573f8d32a3f944c85d4d2cdc2e546", func := "fusee/fuseelaw4.GeomOpens", spec := "geomOpens", inPlace := ["sync/atomic.AddInt64"], unfollowed := true, recurses := true, apart := false }
def GeomOpensSaid : Prop := geomOpensRow.holds Try.pinned (OpenSpec.ofChange geomOpensSpec)

/-- ITS FALSE NEIGHBOUR: 'it returns false'. Refute it at one input. -/
def geomOpensWrong : ChangeSpec := { name := "geomOpens", fn := fun _ => fun
  | [d1, d2, d3, d4, d5, d6, d7] => { results := [.lit (.bool false)], args := [d1, d2, d3, d4, d5, d6, d7] }
  | _ => none }
def GeomOpensWrongFalsely : Prop := geomOpensRow.holds Try.pinned (OpenSpec.ofChange geomOpensWrong)

/- THE SECOND FORM. 'bulk': how many values and letters a reading holds, each counted each time it is reached (what is shared counts as often as it is met; a slice's spare places count too). A statement '..UptoSaid' is the law's where the arguments, and the package variables that the reading takes, are together of bulk at most 1048576: NARROWER than '..Said'. Prove '..Said' where nothing that the law and all that it calls make is longer than what came in: it says more and counts as full. Else prove '..UptoSaid'. A law counts once. -/
mutual
def uptoBulk {H : Type} : DataW H → Nat
  | .lit (.string bytes) => bytes.length + 1
  | .lit _ => 1
  | .nil => 1
  | .ptr d => uptoBulk d + 1
  | .slice elems spare => uptoBulkAll elems + uptoBulkAll spare + 1
  | .agg parts => uptoBulkAll parts + 1
  | .iface _ d => uptoBulk d + 1
  | .map entries => uptoBulkEntries entries + 1
  | .held _ => 1
def uptoBulkAll {H : Type} : List (DataW H) → Nat
  | [] => 0
  | d :: r => uptoBulk d + uptoBulkAll r
def uptoBulkEntries {H : Type} : List (Lit × DataW H) → Nat
  | [] => 0
  | x :: r => uptoBulkEntry x + uptoBulkEntries r
def uptoBulkEntry {H : Type} : Lit × DataW H → Nat
  | (.string bytes, d) => bytes.length + uptoBulk d + 1
  | (_, d) => uptoBulk d + 1
 end
def uptoSmall : (H : Type) → List (DataW H) → Bool := fun _ ds => decide (uptoBulkAll ds ≤ 1048576)
def OpenSpec.upto (s : _root_.Go.ChangeSpec) : _root_.Go.OpenSpec := { _root_.Go.OpenSpec.ofChange s with cond := some uptoSmall }

/-- 'fuseelaw4.GeomLines', WHERE WHAT IT READS IS OF BULK AT MOST 1048576: true; the input reads as it did. -/
def geomLinesUptoRow : OpenClaim := { program := "ytifodinikonkhaa", sum := "828fe334c59605fc4e443b38d22120ca5ed573f8d32a3f944c85d4d2cdc2e546", func := "fusee/fuseelaw4.GeomLines", spec := "geomLines", apart := false, narrowed := true }
def GeomLinesUptoSaid : Prop := geomLinesUptoRow.holds Try.pinned (OpenSpec.upto geomLinesSpec)

/-- 'fuseelaw4.GeomReads', WHERE WHAT IT READS IS OF BULK AT MOST 1048576: true; the input reads as it did. -/
def geomReadsUptoRow : OpenClaim := { program := "ytifodinikonkhaa", sum := "828fe334c59605fc4e443b38d22120ca5ed573f8d32a3f944c85d4d2cdc2e546", func := "fusee/fuseelaw4.GeomReads", spec := "geomReads", apart := false, narrowed := true }
def GeomReadsUptoSaid : Prop := geomReadsUptoRow.holds Try.pinned (OpenSpec.upto geomReadsSpec)

/-- 'fuseelaw4.GeomSlabs', WHERE WHAT IT READS IS OF BULK AT MOST 1048576: true; the input reads as it did. -/
def geomSlabsUptoRow : OpenClaim := { program := "ytifodinikonkhaa", sum := "828fe334c59605fc4e443b38d22120ca5ed573f8d32a3f944c85d4d2cdc2e546", func := "fusee/fuseelaw4.GeomSlabs", spec := "geomSlabs", apart := false, narrowed := true }
def GeomSlabsUptoSaid : Prop := geomSlabsUptoRow.holds Try.pinned (OpenSpec.upto geomSlabsSpec)

/-- 'fuseelaw4.GeomApart', WHERE WHAT IT READS IS OF BULK AT MOST 1048576: true; the input reads as it did. -/
def geomApartUptoRow : OpenClaim := { program := "ytifodinikonkhaa", sum := "828fe334c59605fc4e443b38d22120ca5ed573f8d32a3f944c85d4d2cdc2e546", func := "fusee/fuseelaw4.GeomApart", spec := "geomApart", apart := false, narrowed := true }
def GeomApartUptoSaid : Prop := geomApartUptoRow.holds Try.pinned (OpenSpec.upto geomApartSpec)

/-- 'fuseelaw4.GeomTurned', WHERE WHAT IT READS IS OF BULK AT MOST 1048576: true; the input reads as it did. -/
def geomTurnedUptoRow : OpenClaim := { program := "ytifodinikonkhaa", sum := "828fe334c59605fc4e443b38d22120ca5ed573f8d32a3f944c85d4d2cdc2e546", func := "fusee/fuseelaw4.GeomTurned", spec := "geomTurned", apart := false, narrowed := true }
def GeomTurnedUptoSaid : Prop := geomTurnedUptoRow.holds Try.pinned (OpenSpec.upto geomTurnedSpec)

/-- 'fuseelaw4.GeomOpens', WHERE WHAT IT READS IS OF BULK AT MOST 1048576: true; the input reads as it did. -/
def geomOpensUptoRow : OpenClaim := { program := "ytifodinikonkhaa", sum := "828fe334c59605fc4e443b38d22120ca5ed573f8d32a3f944c85d4d2cdc2e546", func := "fusee/fuseelaw4.GeomOpens", spec := "geomOpens", inPlace := ["sync/atomic.AddInt64"], unfollowed := true, recurses := true, apart := false, narrowed := true }
def GeomOpensUptoSaid : Prop := geomOpensUptoRow.holds Try.pinned (OpenSpec.upto geomOpensSpec)

end Rows
end Go.Proofs.Ytifodinikonkhaa
