/-
  No cell of these rows narrows 'for every input' (looked for: loops, veiled, ifaces, maps, wideKeys, modest, calm, conditions, laid).
  DERIVED. THE GIVEN ROWS OF THIS SEAT. 4 by the template 'for every input the law returns true; each argument reads behind the call as it read before'; 0 by the template 'total and deterministic' (their statements: YtckcokjpmjeakaaTotals.lean).
  GIVEN WITH THE SEED: the statements are not yours to turn. If you find one false, say at which input.
  Laid BY PROGRAM, IN A SANDBOX (cutbox-rows.mjs): the forced cells as the released guide's own fill.sh prints them over the translation 9600d06706687d29… (all of the seat's roots in one cut). By AI agents, Wed Nov 11 2026. No macro, syntax, notation, axiom, sorry.
-/
import Derived.Test.YtckcokjpmjeakaaChecked
import GoSem.Claim
import GoSem.ClaimJoined
import GoSem.ClaimMapViews
import Derived.JoinedTies
import Derived.KernelRfl
namespace Go.Proofs.Ytckcokjpmjeakaa
/- THE CELL 'sum', in the pinned program and in every row, IS THE sha256 OF THE DUMP (.gsa) THAT YtckcokjpmjeakaaProg.lean LOADS. Nothing in Lean hashes anything: it is a label: what it is worth is what the hold of that sum in a sandbox is worth. -/
noncomputable def Try.pinned : Pinned := { name := "ytckcokjpmjeakaa", sum := "9600d06706687d29f047170c0b67c9bc231febc5eb603d47b4b1f3db03e0ce63", checked := Try.checked }
namespace Rows
def none {H : Type} : Left H := { results := [], args := [] }

/-- 'fuseelaw5.ClassTells': WHATEVER THE INPUT: true; the input reads as it did. -/
def classTellsSpec : ChangeSpec := { name := "classTells", fn := fun _ => fun
  | [d1, d2] => { results := [.lit (.bool true)], args := [d1, d2] }
  | _ => none }
def classTellsRow : OpenClaim := { program := "ytckcokjpmjeakaa", sum := "9600d06706687d29f047170c0b67c9bc231febc5eb603d47b4b1f3db03e0ce63", func := "fusee/fuseelaw5.ClassTells", spec := "classTells", apart := false }
def ClassTellsSaid : Prop := classTellsRow.holds Try.pinned (OpenSpec.ofChange classTellsSpec)

/-- ITS FALSE NEIGHBOUR: 'it returns false'. Refute it at one input. -/
def classTellsWrong : ChangeSpec := { name := "classTells", fn := fun _ => fun
  | [d1, d2] => { results := [.lit (.bool false)], args := [d1, d2] }
  | _ => none }
def ClassTellsWrongFalsely : Prop := classTellsRow.holds Try.pinned (OpenSpec.ofChange classTellsWrong)

/-- 'fuseelaw5.ClassStarts': WHATEVER THE INPUT: true; the input reads as it did. -/
def classStartsSpec : ChangeSpec := { name := "classStarts", fn := fun _ => fun
  | [d1, d2, d3] => { results := [.lit (.bool true)], args := [d1, d2, d3] }
  | _ => none }
def classStartsRow : OpenClaim := { program := "ytckcokjpmjeakaa", sum := "9600d06706687d29f047170c0b67c9bc231febc5eb603d47b4b1f3db03e0ce63", func := "fusee/fuseelaw5.ClassStarts", spec := "classStarts", apart := false }
def ClassStartsSaid : Prop := classStartsRow.holds Try.pinned (OpenSpec.ofChange classStartsSpec)

/-- ITS FALSE NEIGHBOUR: 'it returns false'. Refute it at one input. -/
def classStartsWrong : ChangeSpec := { name := "classStarts", fn := fun _ => fun
  | [d1, d2, d3] => { results := [.lit (.bool false)], args := [d1, d2, d3] }
  | _ => none }
def ClassStartsWrongFalsely : Prop := classStartsRow.holds Try.pinned (OpenSpec.ofChange classStartsWrong)

/-- 'fuseelaw5.ClassLeast': WHATEVER THE INPUT: true; the input reads as it did. -/
def classLeastSpec : ChangeSpec := { name := "classLeast", fn := fun _ => fun
  | [d] => { results := [.lit (.bool true)], args := [d] }
  | _ => none }
def classLeastRow : OpenClaim := { program := "ytckcokjpmjeakaa", sum := "9600d06706687d29f047170c0b67c9bc231febc5eb603d47b4b1f3db03e0ce63", func := "fusee/fuseelaw5.ClassLeast", spec := "classLeast", apart := false }
def ClassLeastSaid : Prop := classLeastRow.holds Try.pinned (OpenSpec.ofChange classLeastSpec)

/-- ITS FALSE NEIGHBOUR: 'it returns false'. Refute it at one input. -/
def classLeastWrong : ChangeSpec := { name := "classLeast", fn := fun _ => fun
  | [d] => { results := [.lit (.bool false)], args := [d] }
  | _ => none }
def ClassLeastWrongFalsely : Prop := classLeastRow.holds Try.pinned (OpenSpec.ofChange classLeastWrong)

/-- 'fuseelaw5.ClassFills': WHATEVER THE INPUT: true; the input reads as it did. -/
def classFillsSpec : ChangeSpec := { name := "classFills", fn := fun _ => fun
  | [d1, d2] => { results := [.lit (.bool true)], args := [d1, d2] }
  | _ => none }
def classFillsRow : OpenClaim := { program := "ytckcokjpmjeakaa", sum := "9600d06706687d29f047170c0b67c9bc231febc5eb603d47b4b1f3db03e0ce63", func := "fusee/fuseelaw5.ClassFills", spec := "classFills", apart := false }
def ClassFillsSaid : Prop := classFillsRow.holds Try.pinned (OpenSpec.ofChange classFillsSpec)

/-- ITS FALSE NEIGHBOUR: 'it returns false'. Refute it at one input. -/
def classFillsWrong : ChangeSpec := { name := "classFills", fn := fun _ => fun
  | [d1, d2] => { results := [.lit (.bool false)], args := [d1, d2] }
  | _ => none }
def ClassFillsWrongFalsely : Prop := classFillsRow.holds Try.pinned (OpenSpec.ofChange classFillsWrong)

/- THE SECOND FORM. 'bulk': how many values and letters a reading holds, each counted each time it is reached (what is shared counts as often as it is met; a slice's spare places count too). A statement '..UptoSaid' is the law's where the arguments, and the package variables that the reading takes, are together of bulk at most 1048576: NARROWER than '..Said'. Prove '..Said' where nothing that the law and all that it calls make is longer than what came in: it says more and counts as full. Else prove '..UptoSaid'. A law counts once. -/
mutual
def uptoBulk {H : Type} : DataW H → Nat
  | .lit (.string bytes) => bytes.length + 1
  | .lit _ => 1
  | .nil => 1
  | .ptr d => uptoBulk d + 1
  | .slice elems spare => uptoBulkAll elems + uptoBulkAll spare + 1
  | .agg parts => uptoBulkAll parts + 1
  | .iface _ d => uptoBulk d + 1
  | .map entries => uptoBulkEntries entries + 1
  | .held _ => 1
def uptoBulkAll {H : Type} : List (DataW H) → Nat
  | [] => 0
  | d :: r => uptoBulk d + uptoBulkAll r
def uptoBulkEntries {H : Type} : List (Lit × DataW H) → Nat
  | [] => 0
  | x :: r => uptoBulkEntry x + uptoBulkEntries r
def uptoBulkEntry {H : Type} : Lit × DataW H → Nat
  | (.string bytes, d) => bytes.length + uptoBulk d + 1
  | (_, d) => uptoBulk d + 1
 end
def uptoSmall : (H : Type) → List (DataW H) → Bool := fun _ ds => decide (uptoBulkAll ds ≤ 1048576)
def OpenSpec.upto (s : _root_.Go.ChangeSpec) : _root_.Go.OpenSpec := { _root_.Go.OpenSpec.ofChange s with cond := some uptoSmall }

/-- 'fuseelaw5.ClassTells', WHERE WHAT IT READS IS OF BULK AT MOST 1048576: true; the input reads as it did. -/
def classTellsUptoRow : OpenClaim := { program := "ytckcokjpmjeakaa", sum := "9600d06706687d29f047170c0b67c9bc231febc5eb603d47b4b1f3db03e0ce63", func := "fusee/fuseelaw5.ClassTells", spec := "classTells", apart := false, narrowed := true }
def ClassTellsUptoSaid : Prop := classTellsUptoRow.holds Try.pinned (OpenSpec.upto classTellsSpec)

/-- 'fuseelaw5.ClassStarts', WHERE WHAT IT READS IS OF BULK AT MOST 1048576: true; the input reads as it did. -/
def classStartsUptoRow : OpenClaim := { program := "ytckcokjpmjeakaa", sum := "9600d06706687d29f047170c0b67c9bc231febc5eb603d47b4b1f3db03e0ce63", func := "fusee/fuseelaw5.ClassStarts", spec := "classStarts", apart := false, narrowed := true }
def ClassStartsUptoSaid : Prop := classStartsUptoRow.holds Try.pinned (OpenSpec.upto classStartsSpec)

/-- 'fuseelaw5.ClassLeast', WHERE WHAT IT READS IS OF BULK AT MOST 1048576: true; the input reads as it did. -/
def classLeastUptoRow : OpenClaim := { program := "ytckcokjpmjeakaa", sum := "9600d06706687d29f047170c0b67c9bc231febc5eb603d47b4b1f3db03e0ce63", func := "fusee/fuseelaw5.ClassLeast", spec := "classLeast", apart := false, narrowed := true }
def ClassLeastUptoSaid : Prop := classLeastUptoRow.holds Try.pinned (OpenSpec.upto classLeastSpec)

/-- 'fuseelaw5.ClassFills', WHERE WHAT IT READS IS OF BULK AT MOST 1048576: true; the input reads as it did. -/
def classFillsUptoRow : OpenClaim := { program := "ytckcokjpmjeakaa", sum := "9600d06706687d29f047170c0b67c9bc231febc5eb603d47b4b1f3db03e0ce63", func := "fusee/fuseelaw5.ClassFills", spec := "classFills", apart := false, narrowed := true }
def ClassFillsUptoSaid : Prop := classFillsUptoRow.holds Try.pinned (OpenSpec.upto classFillsSpec)

end Rows
end Go.Proofs.Ytckcokjpmjeakaa
