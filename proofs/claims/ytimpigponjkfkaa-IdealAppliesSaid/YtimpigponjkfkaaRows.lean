/-
  NARROWER THAN 'FOR EVERY INPUT', by the rows' own cells (each row's printed sentence says how): IdealGood: loops · IdealApplies: loops · IdealRises: loops · IdealGroups: loops · IdealBegins: loops.
  DERIVED. THE GIVEN ROWS OF THIS SEAT. 9 by the template 'for every input the law returns true; each argument reads behind the call as it read before'; 0 by the template 'total and deterministic' (their statements: YtimpigponjkfkaaTotals.lean).
  GIVEN WITH THE SEED: the statements are not yours to turn. If you find one false, say at which input.
  Laid BY PROGRAM, IN A SANDBOX (cutbox-rows.mjs): the forced cells as the released guide's own fill.sh prints them over the translation a8a61071977a0153… (all of the seat's roots in one cut). By AI agents, Wed Nov 11 2026. No macro, syntax, notation, axiom, sorry.
-/
import Derived.Test.YtimpigponjkfkaaChecked
import GoSem.Claim
import GoSem.ClaimJoined
import GoSem.ClaimMapViews
import Derived.JoinedTies
import Derived.KernelRfl
namespace Go.Proofs.Ytimpigponjkfkaa
/- THE CELL 'sum', in the pinned program and in every row, IS THE sha256 OF THE DUMP (.gsa) THAT YtimpigponjkfkaaProg.lean LOADS. Nothing in Lean hashes anything: it is a label: what it is worth is what the hold of that sum in a sandbox is worth. -/
noncomputable def Try.pinned : Pinned := { name := "ytimpigponjkfkaa", sum := "a8a61071977a0153646c2c051bd5185a42397f7a33e5c994b2dfd65d8ae247cc", checked := Try.checked }
namespace Rows
def none {H : Type} : Left H := { results := [], args := [] }

/-- 'fuseelaw15.IdealGood': WHATEVER THE INPUT: true; the input reads as it did. -/
def idealGoodSpec : ChangeSpec := { name := "idealGood", fn := fun _ => fun
  | [d] => { results := [.lit (.bool true)], args := [d] }
  | _ => none }
def idealGoodRow : OpenClaim := { program := "ytimpigponjkfkaa", sum := "a8a61071977a0153646c2c051bd5185a42397f7a33e5c994b2dfd65d8ae247cc", func := "fusee/fuseelaw15.IdealGood", spec := "idealGood", inPlace := ["slices.overlaps[fusee/api.Pair]"], unfollowed := true, recurses := true, loops := true, apart := false }
def IdealGoodSaid : Prop := idealGoodRow.holds Try.pinned (OpenSpec.ofChange idealGoodSpec)

/-- ITS FALSE NEIGHBOUR: 'it returns false'. Refute it at one input. -/
def idealGoodWrong : ChangeSpec := { name := "idealGood", fn := fun _ => fun
  | [d] => { results := [.lit (.bool false)], args := [d] }
  | _ => none }
def IdealGoodWrongFalsely : Prop := idealGoodRow.holds Try.pinned (OpenSpec.ofChange idealGoodWrong)

/-- 'fuseelaw15.IdealApplies': WHATEVER THE INPUT: true; the input reads as it did. -/
def idealAppliesSpec : ChangeSpec := { name := "idealApplies", fn := fun _ => fun
  | [d1, d2] => { results := [.lit (.bool true)], args := [d1, d2] }
  | _ => none }
def idealAppliesRow : OpenClaim := { program := "ytimpigponjkfkaa", sum := "a8a61071977a0153646c2c051bd5185a42397f7a33e5c994b2dfd65d8ae247cc", func := "fusee/fuseelaw15.IdealApplies", spec := "idealApplies", inPlace := ["slices.overlaps[fusee/api.Pair]"], unfollowed := true, recurses := true, loops := true, apart := false }
def IdealAppliesSaid : Prop := idealAppliesRow.holds Try.pinned (OpenSpec.ofChange idealAppliesSpec)

/-- ITS FALSE NEIGHBOUR: 'it returns false'. Refute it at one input. -/
def idealAppliesWrong : ChangeSpec := { name := "idealApplies", fn := fun _ => fun
  | [d1, d2] => { results := [.lit (.bool false)], args := [d1, d2] }
  | _ => none }
def IdealAppliesWrongFalsely : Prop := idealAppliesRow.holds Try.pinned (OpenSpec.ofChange idealAppliesWrong)

/-- 'fuseelaw15.IdealDoes': WHATEVER THE INPUT: true; the input reads as it did. -/
def idealDoesSpec : ChangeSpec := { name := "idealDoes", fn := fun _ => fun
  | [d1, d2, d3] => { results := [.lit (.bool true)], args := [d1, d2, d3] }
  | _ => none }
def idealDoesRow : OpenClaim := { program := "ytimpigponjkfkaa", sum := "a8a61071977a0153646c2c051bd5185a42397f7a33e5c994b2dfd65d8ae247cc", func := "fusee/fuseelaw15.IdealDoes", spec := "idealDoes", inPlace := ["slices.overlaps[fusee/api.Pair]", "internal/bytealg.abigen_runtime_cmpstring"], unfollowed := true, recurses := true, apart := false }
def IdealDoesSaid : Prop := idealDoesRow.holds Try.pinned (OpenSpec.ofChange idealDoesSpec)

/-- ITS FALSE NEIGHBOUR: 'it returns false'. Refute it at one input. -/
def idealDoesWrong : ChangeSpec := { name := "idealDoes", fn := fun _ => fun
  | [d1, d2, d3] => { results := [.lit (.bool false)], args := [d1, d2, d3] }
  | _ => none }
def IdealDoesWrongFalsely : Prop := idealDoesRow.holds Try.pinned (OpenSpec.ofChange idealDoesWrong)

/-- 'fuseelaw15.IdealRises': WHATEVER THE INPUT: true; the input reads as it did. -/
def idealRisesSpec : ChangeSpec := { name := "idealRises", fn := fun _ => fun
  | [d] => { results := [.lit (.bool true)], args := [d] }
  | _ => none }
def idealRisesRow : OpenClaim := { program := "ytimpigponjkfkaa", sum := "a8a61071977a0153646c2c051bd5185a42397f7a33e5c994b2dfd65d8ae247cc", func := "fusee/fuseelaw15.IdealRises", spec := "idealRises", inPlace := ["slices.overlaps[fusee/api.Pair]"], unfollowed := true, recurses := true, loops := true, apart := false }
def IdealRisesSaid : Prop := idealRisesRow.holds Try.pinned (OpenSpec.ofChange idealRisesSpec)

/-- ITS FALSE NEIGHBOUR: 'it returns false'. Refute it at one input. -/
def idealRisesWrong : ChangeSpec := { name := "idealRises", fn := fun _ => fun
  | [d] => { results := [.lit (.bool false)], args := [d] }
  | _ => none }
def IdealRisesWrongFalsely : Prop := idealRisesRow.holds Try.pinned (OpenSpec.ofChange idealRisesWrong)

/-- 'fuseelaw15.IdealGroups': WHATEVER THE INPUT: true; the input reads as it did. -/
def idealGroupsSpec : ChangeSpec := { name := "idealGroups", fn := fun _ => fun
  | [d1, d2] => { results := [.lit (.bool true)], args := [d1, d2] }
  | _ => none }
def idealGroupsRow : OpenClaim := { program := "ytimpigponjkfkaa", sum := "a8a61071977a0153646c2c051bd5185a42397f7a33e5c994b2dfd65d8ae247cc", func := "fusee/fuseelaw15.IdealGroups", spec := "idealGroups", inPlace := ["slices.overlaps[fusee/api.Pair]"], unfollowed := true, recurses := true, loops := true, apart := false }
def IdealGroupsSaid : Prop := idealGroupsRow.holds Try.pinned (OpenSpec.ofChange idealGroupsSpec)

/-- ITS FALSE NEIGHBOUR: 'it returns false'. Refute it at one input. -/
def idealGroupsWrong : ChangeSpec := { name := "idealGroups", fn := fun _ => fun
  | [d1, d2] => { results := [.lit (.bool false)], args := [d1, d2] }
  | _ => none }
def IdealGroupsWrongFalsely : Prop := idealGroupsRow.holds Try.pinned (OpenSpec.ofChange idealGroupsWrong)

/-- 'fuseelaw15.IdealScans': WHATEVER THE INPUT: true; the input reads as it did. -/
def idealScansSpec : ChangeSpec := { name := "idealScans", fn := fun _ => fun
  | [d1, d2, d3] => { results := [.lit (.bool true)], args := [d1, d2, d3] }
  | _ => none }
def idealScansRow : OpenClaim := { program := "ytimpigponjkfkaa", sum := "a8a61071977a0153646c2c051bd5185a42397f7a33e5c994b2dfd65d8ae247cc", func := "fusee/fuseelaw15.IdealScans", spec := "idealScans", inPlace := ["slices.overlaps[fusee/api.Pair]"], unfollowed := true, recurses := true, apart := false }
def IdealScansSaid : Prop := idealScansRow.holds Try.pinned (OpenSpec.ofChange idealScansSpec)

/-- ITS FALSE NEIGHBOUR: 'it returns false'. Refute it at one input. -/
def idealScansWrong : ChangeSpec := { name := "idealScans", fn := fun _ => fun
  | [d1, d2, d3] => { results := [.lit (.bool false)], args := [d1, d2, d3] }
  | _ => none }
def IdealScansWrongFalsely : Prop := idealScansRow.holds Try.pinned (OpenSpec.ofChange idealScansWrong)

/-- 'fuseelaw15.IdealPuts': WHATEVER THE INPUT: true; the input reads as it did. -/
def idealPutsSpec : ChangeSpec := { name := "idealPuts", fn := fun _ => fun
  | [d1, d2, d3, d4] => { results := [.lit (.bool true)], args := [d1, d2, d3, d4] }
  | _ => none }
def idealPutsRow : OpenClaim := { program := "ytimpigponjkfkaa", sum := "a8a61071977a0153646c2c051bd5185a42397f7a33e5c994b2dfd65d8ae247cc", func := "fusee/fuseelaw15.IdealPuts", spec := "idealPuts", inPlace := ["slices.overlaps[fusee/api.Pair]"], unfollowed := true, recurses := true, apart := false }
def IdealPutsSaid : Prop := idealPutsRow.holds Try.pinned (OpenSpec.ofChange idealPutsSpec)

/-- ITS FALSE NEIGHBOUR: 'it returns false'. Refute it at one input. -/
def idealPutsWrong : ChangeSpec := { name := "idealPuts", fn := fun _ => fun
  | [d1, d2, d3, d4] => { results := [.lit (.bool false)], args := [d1, d2, d3, d4] }
  | _ => none }
def IdealPutsWrongFalsely : Prop := idealPutsRow.holds Try.pinned (OpenSpec.ofChange idealPutsWrong)

/-- 'fuseelaw15.IdealWaits': WHATEVER THE INPUT: true; the input reads as it did. -/
def idealWaitsSpec : ChangeSpec := { name := "idealWaits", fn := fun _ => fun
  | [d1, d2] => { results := [.lit (.bool true)], args := [d1, d2] }
  | _ => none }
def idealWaitsRow : OpenClaim := { program := "ytimpigponjkfkaa", sum := "a8a61071977a0153646c2c051bd5185a42397f7a33e5c994b2dfd65d8ae247cc", func := "fusee/fuseelaw15.IdealWaits", spec := "idealWaits", inPlace := ["slices.overlaps[fusee/api.Pair]"], unfollowed := true, recurses := true, apart := false }
def IdealWaitsSaid : Prop := idealWaitsRow.holds Try.pinned (OpenSpec.ofChange idealWaitsSpec)

/-- ITS FALSE NEIGHBOUR: 'it returns false'. Refute it at one input. -/
def idealWaitsWrong : ChangeSpec := { name := "idealWaits", fn := fun _ => fun
  | [d1, d2] => { results := [.lit (.bool false)], args := [d1, d2] }
  | _ => none }
def IdealWaitsWrongFalsely : Prop := idealWaitsRow.holds Try.pinned (OpenSpec.ofChange idealWaitsWrong)

/-- 'fuseelaw15.IdealBegins': WHATEVER THE INPUT: true; the input reads as it did. -/
def idealBeginsSpec : ChangeSpec := { name := "idealBegins", fn := fun _ => fun
  | [d] => { results := [.lit (.bool true)], args := [d] }
  | _ => none }
def idealBeginsRow : OpenClaim := { program := "ytimpigponjkfkaa", sum := "a8a61071977a0153646c2c051bd5185a42397f7a33e5c994b2dfd65d8ae247cc", func := "fusee/fuseelaw15.IdealBegins", spec := "idealBegins", inPlace := ["slices.overlaps[fusee/api.Pair]"], unfollowed := true, recurses := true, loops := true, apart := false }
def IdealBeginsSaid : Prop := idealBeginsRow.holds Try.pinned (OpenSpec.ofChange idealBeginsSpec)

/-- ITS FALSE NEIGHBOUR: 'it returns false'. Refute it at one input. -/
def idealBeginsWrong : ChangeSpec := { name := "idealBegins", fn := fun _ => fun
  | [d] => { results := [.lit (.bool false)], args := [d] }
  | _ => none }
def IdealBeginsWrongFalsely : Prop := idealBeginsRow.holds Try.pinned (OpenSpec.ofChange idealBeginsWrong)

/- THE SECOND FORM. 'bulk': how many values and letters a reading holds, each counted each time it is reached (what is shared counts as often as it is met; a slice's spare places count too). A statement '..UptoSaid' is the law's where the arguments, and the package variables that the reading takes, are together of bulk at most 1048576: NARROWER than '..Said'. Prove '..Said' where nothing that the law and all that it calls make is longer than what came in: it says more and counts as full. Else prove '..UptoSaid'. A law counts once. -/
mutual
def uptoBulk {H : Type} : DataW H → Nat
  | .lit (.string bytes) => bytes.length + 1
  | .lit _ => 1
  | .nil => 1
  | .ptr d => uptoBulk d + 1
  | .slice elems spare => uptoBulkAll elems + uptoBulkAll spare + 1
  | .agg parts => uptoBulkAll parts + 1
  | .iface _ d => uptoBulk d + 1
  | .map entries => uptoBulkEntries entries + 1
  | .held _ => 1
def uptoBulkAll {H : Type} : List (DataW H) → Nat
  | [] => 0
  | d :: r => uptoBulk d + uptoBulkAll r
def uptoBulkEntries {H : Type} : List (Lit × DataW H) → Nat
  | [] => 0
  | x :: r => uptoBulkEntry x + uptoBulkEntries r
def uptoBulkEntry {H : Type} : Lit × DataW H → Nat
  | (.string bytes, d) => bytes.length + uptoBulk d + 1
  | (_, d) => uptoBulk d + 1
 end
def uptoSmall : (H : Type) → List (DataW H) → Bool := fun _ ds => decide (uptoBulkAll ds ≤ 1048576)
def OpenSpec.upto (s : _root_.Go.ChangeSpec) : _root_.Go.OpenSpec := { _root_.Go.OpenSpec.ofChange s with cond := some uptoSmall }

/-- 'fuseelaw15.IdealGood', WHERE WHAT IT READS IS OF BULK AT MOST 1048576: true; the input reads as it did. -/
def idealGoodUptoRow : OpenClaim := { program := "ytimpigponjkfkaa", sum := "a8a61071977a0153646c2c051bd5185a42397f7a33e5c994b2dfd65d8ae247cc", func := "fusee/fuseelaw15.IdealGood", spec := "idealGood", inPlace := ["slices.overlaps[fusee/api.Pair]"], unfollowed := true, recurses := true, loops := true, apart := false, narrowed := true }
def IdealGoodUptoSaid : Prop := idealGoodUptoRow.holds Try.pinned (OpenSpec.upto idealGoodSpec)

/-- 'fuseelaw15.IdealApplies', WHERE WHAT IT READS IS OF BULK AT MOST 1048576: true; the input reads as it did. -/
def idealAppliesUptoRow : OpenClaim := { program := "ytimpigponjkfkaa", sum := "a8a61071977a0153646c2c051bd5185a42397f7a33e5c994b2dfd65d8ae247cc", func := "fusee/fuseelaw15.IdealApplies", spec := "idealApplies", inPlace := ["slices.overlaps[fusee/api.Pair]"], unfollowed := true, recurses := true, loops := true, apart := false, narrowed := true }
def IdealAppliesUptoSaid : Prop := idealAppliesUptoRow.holds Try.pinned (OpenSpec.upto idealAppliesSpec)

/-- 'fuseelaw15.IdealDoes', WHERE WHAT IT READS IS OF BULK AT MOST 1048576: true; the input reads as it did. -/
def idealDoesUptoRow : OpenClaim := { program := "ytimpigponjkfkaa", sum := "a8a61071977a0153646c2c051bd5185a42397f7a33e5c994b2dfd65d8ae247cc", func := "fusee/fuseelaw15.IdealDoes", spec := "idealDoes", inPlace := ["slices.overlaps[fusee/api.Pair]", "internal/bytealg.abigen_runtime_cmpstring"], unfollowed := true, recurses := true, apart := false, narrowed := true }
def IdealDoesUptoSaid : Prop := idealDoesUptoRow.holds Try.pinned (OpenSpec.upto idealDoesSpec)

/-- 'fuseelaw15.IdealRises', WHERE WHAT IT READS IS OF BULK AT MOST 1048576: true; the input reads as it did. -/
def idealRisesUptoRow : OpenClaim := { program := "ytimpigponjkfkaa", sum := "a8a61071977a0153646c2c051bd5185a42397f7a33e5c994b2dfd65d8ae247cc", func := "fusee/fuseelaw15.IdealRises", spec := "idealRises", inPlace := ["slices.overlaps[fusee/api.Pair]"], unfollowed := true, recurses := true, loops := true, apart := false, narrowed := true }
def IdealRisesUptoSaid : Prop := idealRisesUptoRow.holds Try.pinned (OpenSpec.upto idealRisesSpec)

/-- 'fuseelaw15.IdealGroups', WHERE WHAT IT READS IS OF BULK AT MOST 1048576: true; the input reads as it did. -/
def idealGroupsUptoRow : OpenClaim := { program := "ytimpigponjkfkaa", sum := "a8a61071977a0153646c2c051bd5185a42397f7a33e5c994b2dfd65d8ae247cc", func := "fusee/fuseelaw15.IdealGroups", spec := "idealGroups", inPlace := ["slices.overlaps[fusee/api.Pair]"], unfollowed := true, recurses := true, loops := true, apart := false, narrowed := true }
def IdealGroupsUptoSaid : Prop := idealGroupsUptoRow.holds Try.pinned (OpenSpec.upto idealGroupsSpec)

/-- 'fuseelaw15.IdealScans', WHERE WHAT IT READS IS OF BULK AT MOST 1048576: true; the input reads as it did. -/
def idealScansUptoRow : OpenClaim := { program := "ytimpigponjkfkaa", sum := "a8a61071977a0153646c2c051bd5185a42397f7a33e5c994b2dfd65d8ae247cc", func := "fusee/fuseelaw15.IdealScans", spec := "idealScans", inPlace := ["slices.overlaps[fusee/api.Pair]"], unfollowed := true, recurses := true, apart := false, narrowed := true }
def IdealScansUptoSaid : Prop := idealScansUptoRow.holds Try.pinned (OpenSpec.upto idealScansSpec)

/-- 'fuseelaw15.IdealPuts', WHERE WHAT IT READS IS OF BULK AT MOST 1048576: true; the input reads as it did. -/
def idealPutsUptoRow : OpenClaim := { program := "ytimpigponjkfkaa", sum := "a8a61071977a0153646c2c051bd5185a42397f7a33e5c994b2dfd65d8ae247cc", func := "fusee/fuseelaw15.IdealPuts", spec := "idealPuts", inPlace := ["slices.overlaps[fusee/api.Pair]"], unfollowed := true, recurses := true, apart := false, narrowed := true }
def IdealPutsUptoSaid : Prop := idealPutsUptoRow.holds Try.pinned (OpenSpec.upto idealPutsSpec)

/-- 'fuseelaw15.IdealWaits', WHERE WHAT IT READS IS OF BULK AT MOST 1048576: true; the input reads as it did. -/
def idealWaitsUptoRow : OpenClaim := { program := "ytimpigponjkfkaa", sum := "a8a61071977a0153646c2c051bd5185a42397f7a33e5c994b2dfd65d8ae247cc", func := "fusee/fuseelaw15.IdealWaits", spec := "idealWaits", inPlace := ["slices.overlaps[fusee/api.Pair]"], unfollowed := true, recurses := true, apart := false, narrowed := true }
def IdealWaitsUptoSaid : Prop := idealWaitsUptoRow.holds Try.pinned (OpenSpec.upto idealWaitsSpec)

/-- 'fuseelaw15.IdealBegins', WHERE WHAT IT READS IS OF BULK AT MOST 1048576: true; the input reads as it did. -/
def idealBeginsUptoRow : OpenClaim := { program := "ytimpigponjkfkaa", sum := "a8a61071977a0153646c2c051bd5185a42397f7a33e5c994b2dfd65d8ae247cc", func := "fusee/fuseelaw15.IdealBegins", spec := "idealBegins", inPlace := ["slices.overlaps[fusee/api.Pair]"], unfollowed := true, recurses := true, loops := true, apart := false, narrowed := true }
def IdealBeginsUptoSaid : Prop := idealBeginsUptoRow.holds Try.pinned (OpenSpec.upto idealBeginsSpec)

end Rows
end Go.Proofs.Ytimpigponjkfkaa
