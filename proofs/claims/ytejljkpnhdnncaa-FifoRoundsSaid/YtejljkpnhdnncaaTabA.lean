/-
  Proved here: a link in a variable, a look-up in a map of links; what the table's New and links answer.
  Conditions: keys of at most 2^30 bytes.
-/
import Derived.Test.YtejljkpnhdnncaaTabMem
import Derived.Deep.QuietTactic
import Derived.BigQuiet
import Derived.IntWalk
import Derived.WalkSmall
import Derived.ChangeKeysEq
import Derived.StillTailTactics
import Derived.Lib.SliceRun
namespace Go.Proofs.Ytejljkpnhdnncaa
open Go Go.RowKit
set_option maxRecDepth 100000

/-! ### A link in a variable -/
def LBox (w : World) (g : Nat) (x : Ln) : Prop := w.heap[g]? = some (.cells #[.string x.str, .int .u64 (x.id : Nat), .int .u64 (x.ver : Nat), .int .i64 x.line, .int .i64 x.cl] 29 (0, 0))
theorem LBox.load {w : World} {g : Nat} {x : Ln} (h : LBox w g x) : (loadVar 29 ⟨g, 0, none⟩).run Try.prog w = .ok x.agg w :=
  run_loadVar_row (P := Try.prog) w g _ 29 _ _ _ h Try.underlying29 rfl size_link
theorem LBox.below {w w' : World} {g B : Nat} {x : Ln} (h : LBox w g x) (hb : Below B w w') (hg : g < B) : LBox w' g x := (hb.block g hg).trans h
theorem zero_agg : Ln.zero.agg = .agg #[.string ⟨#[]⟩, .int .u64 0, .int .u64 0, .int .i64 0, .int .i64 0] := rfl
theorem onesL (s : ByteArray) (a b c d : Int) : (#[.string s, .int .u64 a, .int .u64 b, .int .i64 c, .int .i64 d] : Array Value).all (·.oneCell') = true := all_oneCell_toArray (fun u hu => by
  simp only [List.mem_cons, List.not_mem_nil, or_false] at hu
  rcases hu with rfl | rfl | rfl | rfl | rfl <;> rfl)
theorem cellsL {w : World} {g : Nat} {T : TypeId} {v0 v1 v2 v3 v4 : Value} (h : w.heap[g]? = some (.cells #[v0, v1, v2, v3, v4] T (0, 0))) : w.cell? ⟨g, 0, none⟩ = some v0 ∧ w.cell? ⟨g, 1, none⟩ = some v1 ∧ w.cell? ⟨g, 2, none⟩ = some v2 ∧ w.cell? ⟨g, 3, none⟩ = some v3 ∧ w.cell? ⟨g, 4, none⟩ = some v4 := by
  refine ⟨?_, ?_, ?_, ?_, ?_⟩ <;> simp [World.cell?, h]
theorem zero_link : (Try.prog.info? 29).bind (·.zero) = some (.agg #[.string ⟨#[]⟩, .int .u64 0, .int .u64 0, .int .i64 0, .int .i64 0]) := by
  obtain ⟨i, hi, hz, _⟩ := link_info'
  simp [hi, hz]
theorem results_l2 {fn : Func} {t u : Tmp} (hf : fn.results = #[.cell t 29, .tmp u]) {tmps : Array Value} {g : Nat} (ht : tmps.getD t undef = .pointer (some ⟨g, 0, none⟩)) {v : Value} (hv : tmps.getD u undef = v) {w : World} {x : Ln} (h : LBox w g x) :
    (results fn tmps).run Try.prog w = .ok (.tuple #[x.agg, v]) w := by
  rw [results_cell_tmp hf, ht]
  have hl := h.load
  simp [asAddr, hl, hv, Result.andThen]

/-! ### Look-ups in a map of links -/
/-- The map mb, nil too, holds the links M. -/
def MapO (w : World) (mb : Option Nat) (M : List Ln) : Prop := match mb with | none => M = [] | some b => MapL w b M
theorem linkT_nil (k : Ky) : linkT [] k = Ln.zero := rfl
/-- A look-up whose run is known. -/
theorem wpList_look {P : Program} {ops : Array Oper} {rest : List Oper} {o : Oper} {a : Act} {Q : Exit → Act → World → Prop} (hgd : o.guard = none) (s x : Operand) (t : TypeId) (c : Bool)
    (ho : o.op = .lookup t s x c) {w w' : World} {v V v' : Value} (hs : a.eval s = v) (hx : a.eval x = V)
    (hrun : (Instr.lookup t v V c).run P w = .ok v' w') (h : wpList P ops Q rest (a.put o.dst v') w') : wpList P ops Q (o :: rest) a w :=
  wpList_plain hgd fun _ hK => by
    unfold Oper.wp execOp
    simp only [ho, Sem.run_bind, Sem.run_pure, Result.andThen_ok, hs, hx, hrun]
    exact hK _ _ h
/-! ### New, links, Get -/
/-- The map of bucket b, where there is one. -/
def mAt (m : Nat → Option Nat) (b : Int) : Option Nat := if 0 ≤ b ∧ b < 8 then m b.toNat else none
end Go.Proofs.Ytejljkpnhdnncaa
