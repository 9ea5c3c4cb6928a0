/-
  No cell of these rows narrows 'for every input' (looked for: loops, veiled, ifaces, maps, wideKeys, modest, calm, conditions, laid).
  DERIVED. THE GIVEN ROWS OF THIS SEAT. 3 by the template 'for every input the law returns true; each argument reads behind the call as it read before'; 0 by the template 'total and deterministic' (their statements: YtejljkpnhdnncaaTotals.lean).
  GIVEN WITH THE SEED: the statements are not yours to turn. If you find one false, say at which input.
  Laid BY PROGRAM, IN A SANDBOX (cutbox-rows.mjs): the forced cells as the released guide's own fill.sh prints them over the translation f28b98e55e994e35… (all of the seat's roots in one cut). By AI agents, Wed Nov 11 2026. No macro, syntax, notation, axiom, sorry.
-/
import Derived.Test.YtejljkpnhdnncaaChecked
import GoSem.Claim
import GoSem.ClaimJoined
import GoSem.ClaimMapViews
import Derived.JoinedTies
import Derived.KernelRfl
namespace Go.Proofs.Ytejljkpnhdnncaa
/- THE CELL 'sum', in the pinned program and in every row, IS THE sha256 OF THE DUMP (.gsa) THAT YtejljkpnhdnncaaProg.lean LOADS. Nothing in Lean hashes anything: it is a label: what it is worth is what the hold of that sum in a sandbox is worth. -/
noncomputable def Try.pinned : Pinned := { name := "ytejljkpnhdnncaa", sum := "f28b98e55e994e350de0cad4816a2aec9c7064b3f351364735a58ad782a1d879", checked := Try.checked }
namespace Rows
def none {H : Type} : Left H := { results := [], args := [] }

/-- 'fuseelaw14.FifoScript': WHATEVER THE INPUT: true; the input reads as it did. -/
def fifoScriptSpec : ChangeSpec := { name := "fifoScript", fn := fun _ => fun
  | [d1, d2] => { results := [.lit (.bool true)], args := [d1, d2] }
  | _ => none }
def fifoScriptRow : OpenClaim := { program := "ytejljkpnhdnncaa", sum := "f28b98e55e994e350de0cad4816a2aec9c7064b3f351364735a58ad782a1d879", func := "fusee/fuseelaw14.FifoScript", spec := "fifoScript", apart := false }
def FifoScriptSaid : Prop := fifoScriptRow.holds Try.pinned (OpenSpec.ofChange fifoScriptSpec)

/-- ITS FALSE NEIGHBOUR: 'it returns false'. Refute it at one input. -/
def fifoScriptWrong : ChangeSpec := { name := "fifoScript", fn := fun _ => fun
  | [d1, d2] => { results := [.lit (.bool false)], args := [d1, d2] }
  | _ => none }
def FifoScriptWrongFalsely : Prop := fifoScriptRow.holds Try.pinned (OpenSpec.ofChange fifoScriptWrong)

/-- 'fuseelaw14.FifoRounds': WHATEVER THE INPUT: true; the input reads as it did. -/
def fifoRoundsSpec : ChangeSpec := { name := "fifoRounds", fn := fun _ => fun
  | [d1, d2] => { results := [.lit (.bool true)], args := [d1, d2] }
  | _ => none }
def fifoRoundsRow : OpenClaim := { program := "ytejljkpnhdnncaa", sum := "f28b98e55e994e350de0cad4816a2aec9c7064b3f351364735a58ad782a1d879", func := "fusee/fuseelaw14.FifoRounds", spec := "fifoRounds", apart := false }
def FifoRoundsSaid : Prop := fifoRoundsRow.holds Try.pinned (OpenSpec.ofChange fifoRoundsSpec)

/-- ITS FALSE NEIGHBOUR: 'it returns false'. Refute it at one input. -/
def fifoRoundsWrong : ChangeSpec := { name := "fifoRounds", fn := fun _ => fun
  | [d1, d2] => { results := [.lit (.bool false)], args := [d1, d2] }
  | _ => none }
def FifoRoundsWrongFalsely : Prop := fifoRoundsRow.holds Try.pinned (OpenSpec.ofChange fifoRoundsWrong)

/-- 'fuseelaw14.FifoNone': WHATEVER THE INPUT: true; the input reads as it did. -/
def fifoNoneSpec : ChangeSpec := { name := "fifoNone", fn := fun _ => fun
  | [d] => { results := [.lit (.bool true)], args := [d] }
  | _ => none }
def fifoNoneRow : OpenClaim := { program := "ytejljkpnhdnncaa", sum := "f28b98e55e994e350de0cad4816a2aec9c7064b3f351364735a58ad782a1d879", func := "fusee/fuseelaw14.FifoNone", spec := "fifoNone", apart := false }
def FifoNoneSaid : Prop := fifoNoneRow.holds Try.pinned (OpenSpec.ofChange fifoNoneSpec)

/-- ITS FALSE NEIGHBOUR: 'it returns false'. Refute it at one input. -/
def fifoNoneWrong : ChangeSpec := { name := "fifoNone", fn := fun _ => fun
  | [d] => { results := [.lit (.bool false)], args := [d] }
  | _ => none }
def FifoNoneWrongFalsely : Prop := fifoNoneRow.holds Try.pinned (OpenSpec.ofChange fifoNoneWrong)

/- THE SECOND FORM. 'bulk': how many values and letters a reading holds, each counted each time it is reached (what is shared counts as often as it is met; a slice's spare places count too). A statement '..UptoSaid' is the law's where the arguments, and the package variables that the reading takes, are together of bulk at most 1048576: NARROWER than '..Said'. Prove '..Said' where nothing that the law and all that it calls make is longer than what came in: it says more and counts as full. Else prove '..UptoSaid'. A law counts once. -/
mutual
def uptoBulk {H : Type} : DataW H → Nat
  | .lit (.string bytes) => bytes.length + 1
  | .lit _ => 1
  | .nil => 1
  | .ptr d => uptoBulk d + 1
  | .slice elems spare => uptoBulkAll elems + uptoBulkAll spare + 1
  | .agg parts => uptoBulkAll parts + 1
  | .iface _ d => uptoBulk d + 1
  | .map entries => uptoBulkEntries entries + 1
  | .held _ => 1
def uptoBulkAll {H : Type} : List (DataW H) → Nat
  | [] => 0
  | d :: r => uptoBulk d + uptoBulkAll r
def uptoBulkEntries {H : Type} : List (Lit × DataW H) → Nat
  | [] => 0
  | x :: r => uptoBulkEntry x + uptoBulkEntries r
def uptoBulkEntry {H : Type} : Lit × DataW H → Nat
  | (.string bytes, d) => bytes.length + uptoBulk d + 1
  | (_, d) => uptoBulk d + 1
 end
def uptoSmall : (H : Type) → List (DataW H) → Bool := fun _ ds => decide (uptoBulkAll ds ≤ 1048576)
def OpenSpec.upto (s : _root_.Go.ChangeSpec) : _root_.Go.OpenSpec := { _root_.Go.OpenSpec.ofChange s with cond := some uptoSmall }

/-- 'fuseelaw14.FifoScript', WHERE WHAT IT READS IS OF BULK AT MOST 1048576: true; the input reads as it did. -/
def fifoScriptUptoRow : OpenClaim := { program := "ytejljkpnhdnncaa", sum := "f28b98e55e994e350de0cad4816a2aec9c7064b3f351364735a58ad782a1d879", func := "fusee/fuseelaw14.FifoScript", spec := "fifoScript", apart := false, narrowed := true }
def FifoScriptUptoSaid : Prop := fifoScriptUptoRow.holds Try.pinned (OpenSpec.upto fifoScriptSpec)

/-- 'fuseelaw14.FifoRounds', WHERE WHAT IT READS IS OF BULK AT MOST 1048576: true; the input reads as it did. -/
def fifoRoundsUptoRow : OpenClaim := { program := "ytejljkpnhdnncaa", sum := "f28b98e55e994e350de0cad4816a2aec9c7064b3f351364735a58ad782a1d879", func := "fusee/fuseelaw14.FifoRounds", spec := "fifoRounds", apart := false, narrowed := true }
def FifoRoundsUptoSaid : Prop := fifoRoundsUptoRow.holds Try.pinned (OpenSpec.upto fifoRoundsSpec)

/-- 'fuseelaw14.FifoNone', WHERE WHAT IT READS IS OF BULK AT MOST 1048576: true; the input reads as it did. -/
def fifoNoneUptoRow : OpenClaim := { program := "ytejljkpnhdnncaa", sum := "f28b98e55e994e350de0cad4816a2aec9c7064b3f351364735a58ad782a1d879", func := "fusee/fuseelaw14.FifoNone", spec := "fifoNone", apart := false, narrowed := true }
def FifoNoneUptoSaid : Prop := fifoNoneUptoRow.holds Try.pinned (OpenSpec.upto fifoNoneSpec)

end Rows
end Go.Proofs.Ytejljkpnhdnncaa
