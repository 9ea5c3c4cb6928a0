/-
  No cell of these rows narrows 'for every input' (looked for: loops, veiled, ifaces, maps, wideKeys, modest, calm, conditions, laid).
  DERIVED. THE GIVEN ROWS OF THIS SEAT. 5 by the template 'for every input the law returns true; each argument reads behind the call as it read before'; 0 by the template 'total and deterministic' (their statements: YtifjgdhhfhfecaaTotals.lean).
  GIVEN WITH THE SEED: the statements are not yours to turn. If you find one false, say at which input.
  Laid BY PROGRAM, IN A SANDBOX (cutbox-rows.mjs): the forced cells as the released guide's own fill.sh prints them over the translation e13cceb5e6efaa74… (all of the seat's roots in one cut). By AI agents, Wed Nov 11 2026. No macro, syntax, notation, axiom, sorry.
-/
import Derived.Test.YtifjgdhhfhfecaaChecked
import GoSem.Claim
import GoSem.ClaimJoined
import GoSem.ClaimMapViews
import Derived.JoinedTies
import Derived.KernelRfl
namespace Go.Proofs.Ytifjgdhhfhfecaa
/- THE CELL 'sum', in the pinned program and in every row, IS THE sha256 OF THE DUMP (.gsa) THAT YtifjgdhhfhfecaaProg.lean LOADS. Nothing in Lean hashes anything: it is a label: what it is worth is what the hold of that sum in a sandbox is worth. -/
noncomputable def Try.pinned : Pinned := { name := "ytifjgdhhfhfecaa", sum := "e13cceb5e6efaa748a70157eee70462e68e67a86a2ab8592a0b0de2ed1357007", checked := Try.checked }
namespace Rows
def none {H : Type} : Left H := { results := [], args := [] }

/-- 'fuseelaw2.CodePuts': WHATEVER THE INPUT: true; the input reads as it did. -/
def codePutsSpec : ChangeSpec := { name := "codePuts", fn := fun _ => fun
  | [d1, d2, d3, d4] => { results := [.lit (.bool true)], args := [d1, d2, d3, d4] }
  | _ => none }
def codePutsRow : OpenClaim := { program := "ytifjgdhhfhfecaa", sum := "e13cceb5e6efaa748a70157eee70462e68e67a86a2ab8592a0b0de2ed1357007", func := "fusee/fuseelaw2.CodePuts", spec := "codePuts", apart := false }
def CodePutsSaid : Prop := codePutsRow.holds Try.pinned (OpenSpec.ofChange codePutsSpec)

/-- ITS FALSE NEIGHBOUR: 'it returns false'. Refute it at one input. -/
def codePutsWrong : ChangeSpec := { name := "codePuts", fn := fun _ => fun
  | [d1, d2, d3, d4] => { results := [.lit (.bool false)], args := [d1, d2, d3, d4] }
  | _ => none }
def CodePutsWrongFalsely : Prop := codePutsRow.holds Try.pinned (OpenSpec.ofChange codePutsWrong)

/-- 'fuseelaw2.CodeGets': WHATEVER THE INPUT: true; the input reads as it did. -/
def codeGetsSpec : ChangeSpec := { name := "codeGets", fn := fun _ => fun
  | [d1, d2, d3] => { results := [.lit (.bool true)], args := [d1, d2, d3] }
  | _ => none }
def codeGetsRow : OpenClaim := { program := "ytifjgdhhfhfecaa", sum := "e13cceb5e6efaa748a70157eee70462e68e67a86a2ab8592a0b0de2ed1357007", func := "fusee/fuseelaw2.CodeGets", spec := "codeGets", apart := false }
def CodeGetsSaid : Prop := codeGetsRow.holds Try.pinned (OpenSpec.ofChange codeGetsSpec)

/-- ITS FALSE NEIGHBOUR: 'it returns false'. Refute it at one input. -/
def codeGetsWrong : ChangeSpec := { name := "codeGets", fn := fun _ => fun
  | [d1, d2, d3] => { results := [.lit (.bool false)], args := [d1, d2, d3] }
  | _ => none }
def CodeGetsWrongFalsely : Prop := codeGetsRow.holds Try.pinned (OpenSpec.ofChange codeGetsWrong)

/-- 'fuseelaw2.CodeZeros': WHATEVER THE INPUT: true; the input reads as it did. -/
def codeZerosSpec : ChangeSpec := { name := "codeZeros", fn := fun _ => fun
  | [d1, d2, d3] => { results := [.lit (.bool true)], args := [d1, d2, d3] }
  | _ => none }
def codeZerosRow : OpenClaim := { program := "ytifjgdhhfhfecaa", sum := "e13cceb5e6efaa748a70157eee70462e68e67a86a2ab8592a0b0de2ed1357007", func := "fusee/fuseelaw2.CodeZeros", spec := "codeZeros", apart := false }
def CodeZerosSaid : Prop := codeZerosRow.holds Try.pinned (OpenSpec.ofChange codeZerosSpec)

/-- ITS FALSE NEIGHBOUR: 'it returns false'. Refute it at one input. -/
def codeZerosWrong : ChangeSpec := { name := "codeZeros", fn := fun _ => fun
  | [d1, d2, d3] => { results := [.lit (.bool false)], args := [d1, d2, d3] }
  | _ => none }
def CodeZerosWrongFalsely : Prop := codeZerosRow.holds Try.pinned (OpenSpec.ofChange codeZerosWrong)

/-- 'fuseelaw2.CodeBack': WHATEVER THE INPUT: true; the input reads as it did. -/
def codeBackSpec : ChangeSpec := { name := "codeBack", fn := fun _ => fun
  | [d1, d2, d3, d4] => { results := [.lit (.bool true)], args := [d1, d2, d3, d4] }
  | _ => none }
def codeBackRow : OpenClaim := { program := "ytifjgdhhfhfecaa", sum := "e13cceb5e6efaa748a70157eee70462e68e67a86a2ab8592a0b0de2ed1357007", func := "fusee/fuseelaw2.CodeBack", spec := "codeBack", apart := false }
def CodeBackSaid : Prop := codeBackRow.holds Try.pinned (OpenSpec.ofChange codeBackSpec)

/-- ITS FALSE NEIGHBOUR: 'it returns false'. Refute it at one input. -/
def codeBackWrong : ChangeSpec := { name := "codeBack", fn := fun _ => fun
  | [d1, d2, d3, d4] => { results := [.lit (.bool false)], args := [d1, d2, d3, d4] }
  | _ => none }
def CodeBackWrongFalsely : Prop := codeBackRow.holds Try.pinned (OpenSpec.ofChange codeBackWrong)

/-- 'fuseelaw2.CodeRoom': WHATEVER THE INPUT: true; the input reads as it did. -/
def codeRoomSpec : ChangeSpec := { name := "codeRoom", fn := fun _ => fun
  | [d1, d2] => { results := [.lit (.bool true)], args := [d1, d2] }
  | _ => none }
def codeRoomRow : OpenClaim := { program := "ytifjgdhhfhfecaa", sum := "e13cceb5e6efaa748a70157eee70462e68e67a86a2ab8592a0b0de2ed1357007", func := "fusee/fuseelaw2.CodeRoom", spec := "codeRoom", apart := false }
def CodeRoomSaid : Prop := codeRoomRow.holds Try.pinned (OpenSpec.ofChange codeRoomSpec)

/-- ITS FALSE NEIGHBOUR: 'it returns false'. Refute it at one input. -/
def codeRoomWrong : ChangeSpec := { name := "codeRoom", fn := fun _ => fun
  | [d1, d2] => { results := [.lit (.bool false)], args := [d1, d2] }
  | _ => none }
def CodeRoomWrongFalsely : Prop := codeRoomRow.holds Try.pinned (OpenSpec.ofChange codeRoomWrong)

/- THE SECOND FORM. 'bulk': how many values and letters a reading holds, each counted each time it is reached (what is shared counts as often as it is met; a slice's spare places count too). A statement '..UptoSaid' is the law's where the arguments, and the package variables that the reading takes, are together of bulk at most 1048576: NARROWER than '..Said'. Prove '..Said' where nothing that the law and all that it calls make is longer than what came in: it says more and counts as full. Else prove '..UptoSaid'. A law counts once. -/
mutual
def uptoBulk {H : Type} : DataW H → Nat
  | .lit (.string bytes) => bytes.length + 1
  | .lit _ => 1
  | .nil => 1
  | .ptr d => uptoBulk d + 1
  | .slice elems spare => uptoBulkAll elems + uptoBulkAll spare + 1
  | .agg parts => uptoBulkAll parts + 1
  | .iface _ d => uptoBulk d + 1
  | .map entries => uptoBulkEntries entries + 1
  | .held _ => 1
def uptoBulkAll {H : Type} : List (DataW H) → Nat
  | [] => 0
  | d :: r => uptoBulk d + uptoBulkAll r
def uptoBulkEntries {H : Type} : List (Lit × DataW H) → Nat
  | [] => 0
  | x :: r => uptoBulkEntry x + uptoBulkEntries r
def uptoBulkEntry {H : Type} : Lit × DataW H → Nat
  | (.string bytes, d) => bytes.length + uptoBulk d + 1
  | (_, d) => uptoBulk d + 1
 end
def uptoSmall : (H : Type) → List (DataW H) → Bool := fun _ ds => decide (uptoBulkAll ds ≤ 1048576)
def OpenSpec.upto (s : _root_.Go.ChangeSpec) : _root_.Go.OpenSpec := { _root_.Go.OpenSpec.ofChange s with cond := some uptoSmall }

/-- 'fuseelaw2.CodePuts', WHERE WHAT IT READS IS OF BULK AT MOST 1048576: true; the input reads as it did. -/
def codePutsUptoRow : OpenClaim := { program := "ytifjgdhhfhfecaa", sum := "e13cceb5e6efaa748a70157eee70462e68e67a86a2ab8592a0b0de2ed1357007", func := "fusee/fuseelaw2.CodePuts", spec := "codePuts", apart := false, narrowed := true }
def CodePutsUptoSaid : Prop := codePutsUptoRow.holds Try.pinned (OpenSpec.upto codePutsSpec)

/-- 'fuseelaw2.CodeGets', WHERE WHAT IT READS IS OF BULK AT MOST 1048576: true; the input reads as it did. -/
def codeGetsUptoRow : OpenClaim := { program := "ytifjgdhhfhfecaa", sum := "e13cceb5e6efaa748a70157eee70462e68e67a86a2ab8592a0b0de2ed1357007", func := "fusee/fuseelaw2.CodeGets", spec := "codeGets", apart := false, narrowed := true }
def CodeGetsUptoSaid : Prop := codeGetsUptoRow.holds Try.pinned (OpenSpec.upto codeGetsSpec)

/-- 'fuseelaw2.CodeZeros', WHERE WHAT IT READS IS OF BULK AT MOST 1048576: true; the input reads as it did. -/
def codeZerosUptoRow : OpenClaim := { program := "ytifjgdhhfhfecaa", sum := "e13cceb5e6efaa748a70157eee70462e68e67a86a2ab8592a0b0de2ed1357007", func := "fusee/fuseelaw2.CodeZeros", spec := "codeZeros", apart := false, narrowed := true }
def CodeZerosUptoSaid : Prop := codeZerosUptoRow.holds Try.pinned (OpenSpec.upto codeZerosSpec)

/-- 'fuseelaw2.CodeBack', WHERE WHAT IT READS IS OF BULK AT MOST 1048576: true; the input reads as it did. -/
def codeBackUptoRow : OpenClaim := { program := "ytifjgdhhfhfecaa", sum := "e13cceb5e6efaa748a70157eee70462e68e67a86a2ab8592a0b0de2ed1357007", func := "fusee/fuseelaw2.CodeBack", spec := "codeBack", apart := false, narrowed := true }
def CodeBackUptoSaid : Prop := codeBackUptoRow.holds Try.pinned (OpenSpec.upto codeBackSpec)

/-- 'fuseelaw2.CodeRoom', WHERE WHAT IT READS IS OF BULK AT MOST 1048576: true; the input reads as it did. -/
def codeRoomUptoRow : OpenClaim := { program := "ytifjgdhhfhfecaa", sum := "e13cceb5e6efaa748a70157eee70462e68e67a86a2ab8592a0b0de2ed1357007", func := "fusee/fuseelaw2.CodeRoom", spec := "codeRoom", apart := false, narrowed := true }
def CodeRoomUptoSaid : Prop := codeRoomUptoRow.holds Try.pinned (OpenSpec.upto codeRoomSpec)

end Rows
end Go.Proofs.Ytifjgdhhfhfecaa
