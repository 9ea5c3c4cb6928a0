/-
  Proved here: a link in a variable, a look-up in a map of links; what the table's New and links answer.
  Conditions: keys of at most 2^30 bytes.
-/
import Derived.Test.YtjehklmbgldfpaaTabMem
import Derived.Deep.QuietTactic
import Derived.BigQuiet
import Derived.IntWalk
import Derived.WalkSmall
import Derived.ChangeKeysEq
import Derived.StillTailTactics
import Derived.Lib.SliceRun
namespace Go.Proofs.Ytjehklmbgldfpaa
open Go Go.RowKit
set_option maxRecDepth 100000

/-! ### A link in a variable -/
def LBox (w : World) (g : Nat) (x : Ln) : Prop := w.heap[g]? = some (.cells #[.string x.str, .int .u64 (x.id : Nat), .int .u64 (x.ver : Nat), .int .i64 x.line, .int .i64 x.cl] 33 (0, 0))
theorem LBox.load {w : World} {g : Nat} {x : Ln} (h : LBox w g x) : (loadVar 33 ⟨g, 0, none⟩).run Try.prog w = .ok x.agg w :=
  run_loadVar_row (P := Try.prog) w g _ 33 _ _ _ h Try.underlying33 rfl size_link
theorem LBox.below {w w' : World} {g B : Nat} {x : Ln} (h : LBox w g x) (hb : Below B w w') (hg : g < B) : LBox w' g x := (hb.block g hg).trans h
theorem zero_agg : Ln.zero.agg = .agg #[.string ⟨#[]⟩, .int .u64 0, .int .u64 0, .int .i64 0, .int .i64 0] := rfl
theorem onesL (s : ByteArray) (a b c d : Int) : (#[.string s, .int .u64 a, .int .u64 b, .int .i64 c, .int .i64 d] : Array Value).all (·.oneCell') = true := all_oneCell_toArray (fun u hu => by
  simp only [List.mem_cons, List.not_mem_nil, or_false] at hu
  rcases hu with rfl | rfl | rfl | rfl | rfl <;> rfl)
theorem cellsL {w : World} {g : Nat} {T : TypeId} {v0 v1 v2 v3 v4 : Value} (h : w.heap[g]? = some (.cells #[v0, v1, v2, v3, v4] T (0, 0))) : w.cell? ⟨g, 0, none⟩ = some v0 ∧ w.cell? ⟨g, 1, none⟩ = some v1 ∧ w.cell? ⟨g, 2, none⟩ = some v2 ∧ w.cell? ⟨g, 3, none⟩ = some v3 ∧ w.cell? ⟨g, 4, none⟩ = some v4 := by
  refine ⟨?_, ?_, ?_, ?_, ?_⟩ <;> simp [World.cell?, h]
theorem zero_link : (Try.prog.info? 33).bind (·.zero) = some (.agg #[.string ⟨#[]⟩, .int .u64 0, .int .u64 0, .int .i64 0, .int .i64 0]) := by
  obtain ⟨i, hi, hz, _⟩ := link_info'
  simp [hi, hz]
theorem results_l2 {fn : Func} {t u : Tmp} (hf : fn.results = #[.cell t 33, .tmp u]) {tmps : Array Value} {g : Nat} (ht : tmps.getD t undef = .pointer (some ⟨g, 0, none⟩)) {v : Value} (hv : tmps.getD u undef = v) {w : World} {x : Ln} (h : LBox w g x) :
    (results fn tmps).run Try.prog w = .ok (.tuple #[x.agg, v]) w := by
  rw [results_cell_tmp hf, ht]
  have hl := h.load
  simp [asAddr, hl, hv, Result.andThen]

/-! ### Look-ups in a map of links -/
/-- The map mb, nil too, holds the links M. -/
def MapO (w : World) (mb : Option Nat) (M : List Ln) : Prop := match mb with | none => M = [] | some b => MapL w b M
theorem Tb.mapO {w : World} {p : Nat} {m : Nat → Option Nat} {L : List Ln} (h : Tb w p m L) {i : Nat} (hi : i < 8) : MapO w (m i) (partT bkt L i) := by
  cases e : m i with
  | none => exact h.none_ i hi e
  | some b => exact h.some_ i b hi e
theorem linkT_nil (k : Ky) : linkT [] k = Ln.zero := rfl
theorem look_run {w : World} {mb : Option Nat} {M : List Ln} (h : MapO w mb M) (s : ByteArray) (hl : s.data.toList.length ≤ 1073741824) (c : Bool) :
    (Instr.lookup 48 (.map mb) (.string s) c).run Try.prog w = .ok (if c then .tuple #[(linkT M s.data.toList).agg, .bool (hasT M s.data.toList)] else (linkT M s.data.toList).agg) w := by
  have hkey := key_of _ hl
  have hz := Try.zeroValue33 w
  cases mb with
  | none =>
    obtain rfl : M = [] := h
    exact Maps.look_nil c str_law Try.underlying48 hz hkey
  | some b =>
    have h' : MapL w b M := h
    have fin : ∀ v ps, linkE v = some ((Md M).atKey (.string s.data.toList) Ln.zero.dat, ps) → v = (linkT M s.data.toList).agg := fun v ps hv => by
      obtain ⟨x, rfl, hy⟩ := linkE_inv hv
      rw [md_at] at hy
      have e : x.dat = (linkT M s.data.toList).dat := by
        have := (congrArg Prod.fst hy).symm
        refine this.trans ?_
        show (Option.map Ln.dat (getT M s.data.toList)).getD Ln.zero.dat = _
        unfold linkT
        cases getT M s.data.toList <;> rfl
      rw [dat_inj e]
    cases c with
    | true =>
      obtain ⟨v, ps, hrun, hv⟩ := World.ownsMap.look_ok h' str_law Try.underlying48 hz (linkE_mk Ln.zero) hkey
      rw [fin v ps hv, md_has] at hrun
      exact hrun
    | false =>
      obtain ⟨v, ps, hrun, hv⟩ := World.ownsMap.lookup h' str_law Try.underlying48 hz (linkE_mk Ln.zero) hkey
      rw [fin v ps hv] at hrun
      exact hrun
/-- A look-up whose run is known. -/
theorem wpList_look {P : Program} {ops : Array Oper} {rest : List Oper} {o : Oper} {a : Act} {Q : Exit → Act → World → Prop} (hgd : o.guard = none) (s x : Operand) (t : TypeId) (c : Bool)
    (ho : o.op = .lookup t s x c) {w w' : World} {v V v' : Value} (hs : a.eval s = v) (hx : a.eval x = V)
    (hrun : (Instr.lookup t v V c).run P w = .ok v' w') (h : wpList P ops Q rest (a.put o.dst v') w') : wpList P ops Q (o :: rest) a w :=
  wpList_plain hgd fun _ hK => by
    unfold Oper.wp execOp
    simp only [ho, Sem.run_bind, Sem.run_pure, Result.andThen_ok, hs, hx, hrun]
    exact hK _ _ h
/-! ### New, links, Get -/
set_option maxHeartbeats 400000 in
theorem tbnew_any (w : World) : Calls Try.prog 10 #[] w fun e w' => e = .returned (.pointer (some ⟨w.heap.size, 0, none⟩)) ∧ Tb w' w.heap.size (fun _ => none) [] ∧ Below w.heap.size w w' := by
  have HR := Lib.hid (tb_new w)
  go_enter Try.func10, Try.ntmps10
  go_wp2
  go_ret
  exact ⟨rfl, HR.out, (Below.refl _ _).alloc (Nat.le_refl _) _⟩
/-- The map of bucket b, where there is one. -/
def mAt (m : Nat → Option Nat) (b : Int) : Option Nat := if 0 ≤ b ∧ b < 8 then m b.toNat else none
set_option maxHeartbeats 400000 in
theorem tblinks_nil (b : Int) (w : World) : Calls Try.prog 26 #[.pointer none, .int .i64 b] w fun e w' => e = .returned (.map none) ∧ w = w' := by
  go_enter Try.func26, Try.ntmps26
  go_wp2
  go_ret
  exact ⟨rfl, rfl⟩
set_option maxHeartbeats 400000 in
theorem tblinks_any {w : World} {p : Nat} {m : Nat → Option Nat} {L : List Ln} (h : Tb w p m L) (b : Int) : Calls Try.prog 26 #[.pointer (some ⟨p, 0, none⟩), .int .i64 b] w fun e w' => e = .returned (.map (mAt m b)) ∧ w = w' := by
  by_cases h0 : b < 0
  · have hm : mAt m b = none := by unfold mAt; rw [if_neg (by omega)]
    rw [hm]
    have h0' : decide (b < 0) = true := by simp [h0]
    clear h hm h0
    go_enter Try.func26, Try.ntmps26
    go_wp2
    go_ret
    exact ⟨rfl, rfl⟩
  · by_cases h8 : b < 8
    · obtain ⟨n, rfl⟩ := Int.eq_ofNat_of_zero_le (show 0 ≤ b by omega)
      have hm : mAt m (n : Int) = m n := by unfold mAt; rw [if_pos (by omega)]; rfl
      rw [hm]
      have hc := h.cell (i := n) (by omega)
      have hn8 : n < 8 := by omega
      clear h hm h0 h8
      go_enter Try.func26, Try.ntmps26
      go_wp2
      go_ret
      exact ⟨rfl, rfl⟩
    · have hm : mAt m b = none := by unfold mAt; rw [if_neg (by omega)]
      rw [hm]
      have h0' : ¬ (b < 0) := h0
      have h8' : 8 ≤ b := by omega
      clear h hm h0 h8
      go_enter Try.func26, Try.ntmps26
      go_wp2
      go_ret
      exact ⟨rfl, rfl⟩

end Go.Proofs.Ytjehklmbgldfpaa
