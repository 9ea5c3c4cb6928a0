/-
  No cell of these rows narrows 'for every input' (looked for: loops, veiled, ifaces, maps, wideKeys, modest, calm, conditions, laid).
  DERIVED. THE GIVEN ROWS OF THIS SEAT. 5 by the template 'for every input the law returns true; each argument reads behind the call as it read before'; 0 by the template 'total and deterministic' (their statements: YtfdifimakaiccaaTotals.lean).
  GIVEN WITH THE SEED: the statements are not yours to turn. If you find one false, say at which input.
  Laid BY PROGRAM, IN A SANDBOX (cutbox-rows.mjs): the forced cells as the released guide's own fill.sh prints them over the translation 8386b650dc6a1ea9… (all of the seat's roots in one cut). By AI agents, Wed Nov 11 2026. No macro, syntax, notation, axiom, sorry.
-/
import Derived.Test.YtfdifimakaiccaaChecked
import GoSem.Claim
import GoSem.ClaimJoined
import GoSem.ClaimMapViews
import Derived.JoinedTies
import Derived.KernelRfl
namespace Go.Proofs.Ytfdifimakaiccaa
/- THE CELL 'sum', in the pinned program and in every row, IS THE sha256 OF THE DUMP (.gsa) THAT YtfdifimakaiccaaProg.lean LOADS. Nothing in Lean hashes anything: it is a label: what it is worth is what the hold of that sum in a sandbox is worth. -/
noncomputable def Try.pinned : Pinned := { name := "ytfdifimakaiccaa", sum := "8386b650dc6a1ea9dc43c86f0cfc799986e5551948f5ee6ddd3279904e7ac5ba", checked := Try.checked }
namespace Rows
def none {H : Type} : Left H := { results := [], args := [] }

/-- 'fuseelaw13.OrderScript': WHATEVER THE INPUT: true; the input reads as it did. -/
def orderScriptSpec : ChangeSpec := { name := "orderScript", fn := fun _ => fun
  | [d] => { results := [.lit (.bool true)], args := [d] }
  | _ => none }
def orderScriptRow : OpenClaim := { program := "ytfdifimakaiccaa", sum := "8386b650dc6a1ea9dc43c86f0cfc799986e5551948f5ee6ddd3279904e7ac5ba", func := "fusee/fuseelaw13.OrderScript", spec := "orderScript", inPlace := ["internal/bytealg.abigen_runtime_cmpstring", "slices.overlaps[fusee/api.Link]"], unfollowed := true, recurses := true, apart := false }
def OrderScriptSaid : Prop := orderScriptRow.holds Try.pinned (OpenSpec.ofChange orderScriptSpec)

/-- ITS FALSE NEIGHBOUR: 'it returns false'. Refute it at one input. -/
def orderScriptWrong : ChangeSpec := { name := "orderScript", fn := fun _ => fun
  | [d] => { results := [.lit (.bool false)], args := [d] }
  | _ => none }
def OrderScriptWrongFalsely : Prop := orderScriptRow.holds Try.pinned (OpenSpec.ofChange orderScriptWrong)

/-- 'fuseelaw13.OrderLevels': WHATEVER THE INPUT: true; the input reads as it did. -/
def orderLevelsSpec : ChangeSpec := { name := "orderLevels", fn := fun _ => fun
  | [d1, d2, d3] => { results := [.lit (.bool true)], args := [d1, d2, d3] }
  | _ => none }
def orderLevelsRow : OpenClaim := { program := "ytfdifimakaiccaa", sum := "8386b650dc6a1ea9dc43c86f0cfc799986e5551948f5ee6ddd3279904e7ac5ba", func := "fusee/fuseelaw13.OrderLevels", spec := "orderLevels", inPlace := ["internal/bytealg.abigen_runtime_cmpstring", "slices.overlaps[fusee/api.Link]"], unfollowed := true, recurses := true, apart := false }
def OrderLevelsSaid : Prop := orderLevelsRow.holds Try.pinned (OpenSpec.ofChange orderLevelsSpec)

/-- ITS FALSE NEIGHBOUR: 'it returns false'. Refute it at one input. -/
def orderLevelsWrong : ChangeSpec := { name := "orderLevels", fn := fun _ => fun
  | [d1, d2, d3] => { results := [.lit (.bool false)], args := [d1, d2, d3] }
  | _ => none }
def OrderLevelsWrongFalsely : Prop := orderLevelsRow.holds Try.pinned (OpenSpec.ofChange orderLevelsWrong)

/-- 'fuseelaw13.OrderWalks': WHATEVER THE INPUT: true; the input reads as it did. -/
def orderWalksSpec : ChangeSpec := { name := "orderWalks", fn := fun _ => fun
  | [d] => { results := [.lit (.bool true)], args := [d] }
  | _ => none }
def orderWalksRow : OpenClaim := { program := "ytfdifimakaiccaa", sum := "8386b650dc6a1ea9dc43c86f0cfc799986e5551948f5ee6ddd3279904e7ac5ba", func := "fusee/fuseelaw13.OrderWalks", spec := "orderWalks", inPlace := ["internal/bytealg.abigen_runtime_cmpstring", "slices.overlaps[fusee/api.Link]"], unfollowed := true, recurses := true, apart := false }
def OrderWalksSaid : Prop := orderWalksRow.holds Try.pinned (OpenSpec.ofChange orderWalksSpec)

/-- ITS FALSE NEIGHBOUR: 'it returns false'. Refute it at one input. -/
def orderWalksWrong : ChangeSpec := { name := "orderWalks", fn := fun _ => fun
  | [d] => { results := [.lit (.bool false)], args := [d] }
  | _ => none }
def OrderWalksWrongFalsely : Prop := orderWalksRow.holds Try.pinned (OpenSpec.ofChange orderWalksWrong)

/-- 'fuseelaw13.OrderLast': WHATEVER THE INPUT: true; the input reads as it did. -/
def orderLastSpec : ChangeSpec := { name := "orderLast", fn := fun _ => fun
  | [d1, d2] => { results := [.lit (.bool true)], args := [d1, d2] }
  | _ => none }
def orderLastRow : OpenClaim := { program := "ytfdifimakaiccaa", sum := "8386b650dc6a1ea9dc43c86f0cfc799986e5551948f5ee6ddd3279904e7ac5ba", func := "fusee/fuseelaw13.OrderLast", spec := "orderLast", inPlace := ["internal/bytealg.abigen_runtime_cmpstring", "slices.overlaps[fusee/api.Link]"], unfollowed := true, recurses := true, apart := false }
def OrderLastSaid : Prop := orderLastRow.holds Try.pinned (OpenSpec.ofChange orderLastSpec)

/-- ITS FALSE NEIGHBOUR: 'it returns false'. Refute it at one input. -/
def orderLastWrong : ChangeSpec := { name := "orderLast", fn := fun _ => fun
  | [d1, d2] => { results := [.lit (.bool false)], args := [d1, d2] }
  | _ => none }
def OrderLastWrongFalsely : Prop := orderLastRow.holds Try.pinned (OpenSpec.ofChange orderLastWrong)

/-- 'fuseelaw13.OrderNone': WHATEVER THE INPUT: true; the input reads as it did. -/
def orderNoneSpec : ChangeSpec := { name := "orderNone", fn := fun _ => fun
  | [d1, d2] => { results := [.lit (.bool true)], args := [d1, d2] }
  | _ => none }
def orderNoneRow : OpenClaim := { program := "ytfdifimakaiccaa", sum := "8386b650dc6a1ea9dc43c86f0cfc799986e5551948f5ee6ddd3279904e7ac5ba", func := "fusee/fuseelaw13.OrderNone", spec := "orderNone", inPlace := ["internal/bytealg.abigen_runtime_cmpstring", "slices.overlaps[fusee/api.Link]"], unfollowed := true, recurses := true, apart := false }
def OrderNoneSaid : Prop := orderNoneRow.holds Try.pinned (OpenSpec.ofChange orderNoneSpec)

/-- ITS FALSE NEIGHBOUR: 'it returns false'. Refute it at one input. -/
def orderNoneWrong : ChangeSpec := { name := "orderNone", fn := fun _ => fun
  | [d1, d2] => { results := [.lit (.bool false)], args := [d1, d2] }
  | _ => none }
def OrderNoneWrongFalsely : Prop := orderNoneRow.holds Try.pinned (OpenSpec.ofChange orderNoneWrong)

/- THE SECOND FORM. 'bulk': how many values and letters a reading holds, each counted each time it is reached (what is shared counts as often as it is met; a slice's spare places count too). A statement '..UptoSaid' is the law's where the arguments, and the package variables that the reading takes, are together of bulk at most 1048576: NARROWER than '..Said'. Prove '..Said' where nothing that the law and all that it calls make is longer than what came in: it says more and counts as full. Else prove '..UptoSaid'. A law counts once. -/
mutual
def uptoBulk {H : Type} : DataW H → Nat
  | .lit (.string bytes) => bytes.length + 1
  | .lit _ => 1
  | .nil => 1
  | .ptr d => uptoBulk d + 1
  | .slice elems spare => uptoBulkAll elems + uptoBulkAll spare + 1
  | .agg parts => uptoBulkAll parts + 1
  | .iface _ d => uptoBulk d + 1
  | .map entries => uptoBulkEntries entries + 1
  | .held _ => 1
def uptoBulkAll {H : Type} : List (DataW H) → Nat
  | [] => 0
  | d :: r => uptoBulk d + uptoBulkAll r
def uptoBulkEntries {H : Type} : List (Lit × DataW H) → Nat
  | [] => 0
  | x :: r => uptoBulkEntry x + uptoBulkEntries r
def uptoBulkEntry {H : Type} : Lit × DataW H → Nat
  | (.string bytes, d) => bytes.length + uptoBulk d + 1
  | (_, d) => uptoBulk d + 1
 end
def uptoSmall : (H : Type) → List (DataW H) → Bool := fun _ ds => decide (uptoBulkAll ds ≤ 1048576)
def OpenSpec.upto (s : _root_.Go.ChangeSpec) : _root_.Go.OpenSpec := { _root_.Go.OpenSpec.ofChange s with cond := some uptoSmall }

/-- 'fuseelaw13.OrderScript', WHERE WHAT IT READS IS OF BULK AT MOST 1048576: true; the input reads as it did. -/
def orderScriptUptoRow : OpenClaim := { program := "ytfdifimakaiccaa", sum := "8386b650dc6a1ea9dc43c86f0cfc799986e5551948f5ee6ddd3279904e7ac5ba", func := "fusee/fuseelaw13.OrderScript", spec := "orderScript", inPlace := ["internal/bytealg.abigen_runtime_cmpstring", "slices.overlaps[fusee/api.Link]"], unfollowed := true, recurses := true, apart := false, narrowed := true }
def OrderScriptUptoSaid : Prop := orderScriptUptoRow.holds Try.pinned (OpenSpec.upto orderScriptSpec)

/-- 'fuseelaw13.OrderLevels', WHERE WHAT IT READS IS OF BULK AT MOST 1048576: true; the input reads as it did. -/
def orderLevelsUptoRow : OpenClaim := { program := "ytfdifimakaiccaa", sum := "8386b650dc6a1ea9dc43c86f0cfc799986e5551948f5ee6ddd3279904e7ac5ba", func := "fusee/fuseelaw13.OrderLevels", spec := "orderLevels", inPlace := ["internal/bytealg.abigen_runtime_cmpstring", "slices.overlaps[fusee/api.Link]"], unfollowed := true, recurses := true, apart := false, narrowed := true }
def OrderLevelsUptoSaid : Prop := orderLevelsUptoRow.holds Try.pinned (OpenSpec.upto orderLevelsSpec)

/-- 'fuseelaw13.OrderWalks', WHERE WHAT IT READS IS OF BULK AT MOST 1048576: true; the input reads as it did. -/
def orderWalksUptoRow : OpenClaim := { program := "ytfdifimakaiccaa", sum := "8386b650dc6a1ea9dc43c86f0cfc799986e5551948f5ee6ddd3279904e7ac5ba", func := "fusee/fuseelaw13.OrderWalks", spec := "orderWalks", inPlace := ["internal/bytealg.abigen_runtime_cmpstring", "slices.overlaps[fusee/api.Link]"], unfollowed := true, recurses := true, apart := false, narrowed := true }
def OrderWalksUptoSaid : Prop := orderWalksUptoRow.holds Try.pinned (OpenSpec.upto orderWalksSpec)

/-- 'fuseelaw13.OrderLast', WHERE WHAT IT READS IS OF BULK AT MOST 1048576: true; the input reads as it did. -/
def orderLastUptoRow : OpenClaim := { program := "ytfdifimakaiccaa", sum := "8386b650dc6a1ea9dc43c86f0cfc799986e5551948f5ee6ddd3279904e7ac5ba", func := "fusee/fuseelaw13.OrderLast", spec := "orderLast", inPlace := ["internal/bytealg.abigen_runtime_cmpstring", "slices.overlaps[fusee/api.Link]"], unfollowed := true, recurses := true, apart := false, narrowed := true }
def OrderLastUptoSaid : Prop := orderLastUptoRow.holds Try.pinned (OpenSpec.upto orderLastSpec)

/-- 'fuseelaw13.OrderNone', WHERE WHAT IT READS IS OF BULK AT MOST 1048576: true; the input reads as it did. -/
def orderNoneUptoRow : OpenClaim := { program := "ytfdifimakaiccaa", sum := "8386b650dc6a1ea9dc43c86f0cfc799986e5551948f5ee6ddd3279904e7ac5ba", func := "fusee/fuseelaw13.OrderNone", spec := "orderNone", inPlace := ["internal/bytealg.abigen_runtime_cmpstring", "slices.overlaps[fusee/api.Link]"], unfollowed := true, recurses := true, apart := false, narrowed := true }
def OrderNoneUptoSaid : Prop := orderNoneUptoRow.holds Try.pinned (OpenSpec.upto orderNoneSpec)

end Rows
end Go.Proofs.Ytfdifimakaiccaa
