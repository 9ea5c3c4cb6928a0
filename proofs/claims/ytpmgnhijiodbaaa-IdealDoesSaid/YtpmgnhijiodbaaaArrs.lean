/-
  Proved here: how an array of bytes lies in memory, how one is made, read, written over and compared; no program's numbers but the bytes' type.
  Conditions: arrays of at most 2^30 bytes; compared ones of 64.
-/
import Derived.Test.YtpmgnhijiodbaaaOwn
import Derived.Deep.MidRow
import Derived.Deep.QuietTactic
import Derived.BigQuiet
import Derived.IntWalk
import Derived.WalkSmall
import Derived.ChangeKeysEq
namespace Go.Proofs.Ytpmgnhijiodbaaa
open Go Go.RowKit
set_option maxRecDepth 100000

theorem wpList_build_cells {P : Program} {ops : Array Oper} {rest : List Oper} {o : Oper} {a : Act} {w : World} {Q : Exit → Act → World → Prop} (hg : o.guard = none) (t : TypeId) (parts : Array (Nat × Operand)) (ho : o.op = .build t parts)
    (cells : Array Value) (ps : List (Nat × Value)) (hps : (parts.map fun (i, x) => (i, a.eval x)).toList = ps) (hf : P.built t ps = some cells)
    (h : wpList P ops Q rest (a.put o.dst (.agg cells)) w) : wpList P ops Q (o :: rest) a w := by
  subst hps
  refine wpList_build hg t parts ho (by rw [hf]; rfl) ?_
  rw [hf]
  exact h

def zeros64 : List UInt8 := List.replicate 64 0
theorem zeros64_len : zeros64.length = 64 := by simp [zeros64]
theorem part_byte (xs : Array Value) (i : Nat) (v : Value) (h : xs[i]? = some v) (w : World) : (part 5 xs i).run Try.prog w = .ok v w := by
  have hagg : (isAgg 5).run Try.prog w = .ok false w := by
    unfold isAgg
    rw [Sem.run_bind, run_underlying Try.underlying5 w]
    rfl
  simp [part, Sem.run_bind, hagg, h]
theorem cells_byte : Try.prog.cellsOf 5 = 1 := by kernel_rfl
theorem items_enc (d : Nat) (a b : List UInt8) (n : Nat) (ha : a.length = n) (hb : b.length = n) (w : World) : ∀ is : List Nat, (∀ i ∈ is, i < n) →
    (Op.eqItems (d + 1) 5 1 (enc a).toArray (enc b).toArray is).run Try.prog w = .ok (is.all fun i => a.getD i 0 == b.getD i 0) w
  | [], _ => by simp [Op.eqItems]
  | i :: is, h => by
    have hi : i < n := h i (by simp)
    have h1 := part_byte (enc a).toArray (i * 1) _ (by rw [Nat.mul_one, List.getElem?_toArray]; exact enc_at a i (by omega)) w
    have h2 := part_byte (enc b).toArray (i * 1) _ (by rw [Nat.mul_one, List.getElem?_toArray]; exact enc_at b i (by omega)) w
    have h3 := run_equalIn_int (P := Try.prog) w d 5 .u8 .u8 ((a.getD i 0).toNat : Nat) ((b.getD i 0).toNat : Nat) Try.underlying5
    have ih := items_enc d a b n ha hb w is (fun j hj => h j (by simp [hj]))
    have e : (((a.getD i 0).toNat : Int) == ((b.getD i 0).toNat : Int)) = (a.getD i 0 == b.getD i 0) := by
      rw [Bool.eq_iff_iff]
      simp only [beq_iff_eq]
      rw [show (((a.getD i 0).toNat : Int) = ((b.getD i 0).toNat : Int)) ↔ (a.getD i 0).toNat = (b.getD i 0).toNat by omega]
      exact UInt8.toNat_inj
    rw [e] at h3
    simp only [Op.eqItems, Sem.run_bind, h1, h2, h3, Result.andThen_ok]
    cases hh : (a.getD i 0 == b.getD i 0)
    · simp only [Bool.not_false, if_true, Sem.run_pure, List.all_cons, hh, Bool.false_and]
    · simp only [Bool.not_true, Bool.false_eq_true, if_false, List.all_cons, hh, Bool.true_and]
      exact ih
theorem all_same (a b : List UInt8) (h : a.length = b.length) : ((List.range a.length).all fun i => a.getD i 0 == b.getD i 0) = (a == b) := by
  rw [Bool.eq_iff_iff, List.all_eq_true, beq_iff_eq]
  constructor
  · intro hh
    apply List.ext_getElem h
    intro i h1 h2
    have := hh i (by simpa using h1)
    simpa [List.getD, List.getElem?_eq_getElem h1, List.getElem?_eq_getElem h2] using this
  · rintro rfl i _
    simp
theorem equal_arrT {T : TypeId} (hu : Try.prog.underlying T = some (.array 64 5)) (a b : List UInt8) (ha : a.length = 64) (hb : b.length = 64) (w : World) : (Op.equalIn 10000 T (.agg (enc a).toArray) (.agg (enc b).toArray)).run Try.prog w = .ok (a == b) w := by
  obtain ⟨i, hi, _⟩ := Option.map_eq_some_iff.1 byte_info
  rw [run_equalIn_array (P := Try.prog) w 9999 (t := T) (e := 5) (n := 64) _ _ hu hi, cells_byte, items_enc 9998 a b 64 ha hb w (List.range 64) (fun i h => by simpa using h)]
  have := all_same a b (by omega)
  rw [ha] at this
  rw [this]
theorem wpQuiet_load_mid {P : Program} {ops : Array Oper} {C : World → Prop} {Q : Act → Prop} {a : Act} {o : Oper} {rest : List Oper} (hw : Region.wanted o (yielded ops a.tmps) = true) (ty : TypeId) (x : Operand) (ho : o.op = .load ty x)
    (b off : Nat) (hx : a.eval x = .pointer (some ⟨b, off, none⟩)) (xs : List Value) (d : TypeDesc) (hC : ∀ w, C w → w.rangeAt b off xs) (hu : P.underlying ty = some d) (hd : d.isRow = true) (hi : (P.info? ty).map (·.size) = some xs.length)
    (h : wpQuiet P ops C Q rest (a.put o.dst (.agg xs.toArray))) : wpQuiet P ops C Q (o :: rest) a :=
  wpQuiet_step fun K hK => by
    rw [if_pos hw]
    refine ⟨.agg xs.toArray, fun w hw' => ?_, hK _ h⟩
    unfold Oper.quietAt execOp
    simp only [ho, hx, Instr.loadAt, Instr.sureAddr, Sem.run_bind, Sem.run_pure, Result.andThen_ok, run_loadVar_mid w b off ty xs d (hC w hw') hu hd hi]
    exact ⟨rfl, rfl⟩

/-- A new variable of type t, by the operation. -/
theorem wpList_alloc_var {P : Program} {ops : Array Oper} {rest : List Oper} {o : Oper} {a : Act} {w : World} {Q : Exit → Act → World → Prop} (hgd : o.guard = none) (t : TypeId) (ho : o.op = .alloc t) (g : Nat) (hg : w.heap.size = g) (z : Value)
    (hz : (P.info? t).bind (·.zero) = some z) (k : ∀ w', Hid (w'.heap[g]? = some (.cells z.cells t (0, 0))) → Hid (Below g w w') → wpList P ops Q rest (a.put o.dst (.pointer (some ⟨g, 0, none⟩))) w') : wpList P ops Q (o :: rest) a w := by
  subst hg
  obtain ⟨i, hi, hiz⟩ := Option.bind_eq_some_iff.1 hz
  refine wpList_plain hgd fun K hK => ?_
  unfold Oper.wp execOp
  simp only [ho, Sem.run_bind, Instr.alloc, zeroValue, typeInfo, newVar, newRow, run_newObj_alloc, Sem.run_pure, Result.andThen_ok]
  simp only [run_program, Result.andThen_ok, hi, hiz, Sem.run_pure]
  exact hK _ _ (k _ (heap_alloc_new w _) ((Below.refl _ _).alloc (Nat.le_refl _) _))
/-- A whole block written over, by the operation. -/
theorem wpList_store_whole {P : Program} {ops : Array Oper} {rest : List Oper} {o : Oper} {a : Act} {w : World} {Q : Exit → Act → World → Prop} (hgd : o.guard = none) (ty : TypeId) (x y : Operand) (ho : o.op = .store ty x y) (hd : o.dst = none)
    (g : Nat) (cells : Array Value) (hx : a.eval x = .pointer (some ⟨g, 0, none⟩)) (hy : a.eval y = .agg cells)
    (t : TypeId) (old : Array Value) (hg : w.heap[g]? = some (.cells old t (0, 0))) (hi : (P.info? ty).map (·.size) = some cells.size) (hold : old.size = cells.size) (h1 : cells.all (·.oneCell') = true)
    (k : ∀ w', Hid (w'.heap[g]? = some (.cells cells t (0, 0))) → Hid (Below g w w') → wpList P ops Q rest a w') : wpList P ops Q (o :: rest) a w := by
  refine wpList_store_row hgd ty x y ho g cells hx hy t old hg hi hold h1 ?_
  rw [hd]
  exact k _ (setRow_heap w g _ _ t _ hg) ⟨rfl, rfl, rfl, by simp, fun k hk => setRow_other _ _ k _ (by omega)⟩
theorem wpList_load_agg {P : Program} {ops : Array Oper} {rest : List Oper} {o : Oper} {a : Act} {w : World} {Q : Exit → Act → World → Prop} (hgd : o.guard = none) (ty : TypeId) (x : Operand) (ho : o.op = .load ty x)
    (b off : Nat) (hx : a.eval x = .pointer (some ⟨b, off, none⟩)) (cs : List Value) (d : TypeDesc) (hc : w.rangeAt b off cs)
    (hu : P.underlying ty = some d) (hd : d.isRow = true) (hi : (P.info? ty).map (·.size) = some cs.length)
    (h : wpList P ops Q rest (a.put o.dst (.agg cs.toArray)) w) : wpList P ops Q (o :: rest) a w := wpList_load_mid hgd ty x ho b off hx cs d hc hu hd hi h
theorem all_enc (l : List UInt8) : (enc l).toArray.all (·.oneCell') = true := all_oneCell_toArray enc_one

/-- The array of bytes x at block g, of type T. -/
def Arr (T : TypeId) (w : World) (g : Nat) (x : List UInt8) : Prop := w.heap[g]? = some (.cells (enc x).toArray T (0, 0))
theorem Arr.lt {T : TypeId} {w : World} {g : Nat} {x : List UInt8} (h : Arr T w g x) : g < w.heap.size := lt_of_heap h
theorem Arr.row {T : TypeId} {w : World} {g : Nat} {x : List UInt8} (h : Arr T w g x) (hl : x.length ≤ 1073741824) : Row w (some ⟨g, 0, none⟩) x :=
  ⟨hl, fun _ => ⟨g, 0, rfl, h.lt, fun k hk => by
    unfold Arr at h
    rw [Nat.zero_add]
    simp [World.cell?, h, enc_at x k hk]⟩⟩
theorem Arr.below {T : TypeId} {w w' : World} {g B : Nat} {x : List UInt8} (h : Arr T w g x) (hb : Below B w w') (hg : g < B) : Arr T w' g x := (hb.block g hg).trans h
/-- A copy whose run is known. -/
theorem wpList_copy {P : Program} {ops : Array Oper} {rest : List Oper} {o : Oper} {a : Act} {Q : Exit → Act → World → Prop} (hgd : o.guard = none) (s x : Operand) (t u : TypeId)
    (ho : o.op = .call { callee := .builtin .copy, args := #[s, x], argTypes := #[t, u] }) {w w' : World} {v V v' : Value} (hs : a.eval s = v) (hx : a.eval x = V)
    (hrun : (Builtin.copy_ #[t, u] o.type #[v, V]).run P w = .ok v' w') (h : wpList P ops Q rest (a.put o.dst v') w') : wpList P ops Q (o :: rest) a w :=
  wpList_plain hgd fun _ hK => by
    unfold Oper.wp execOp
    simp only [ho, resolve, invoke, builtin, Sem.run_bind, Sem.run_pure, Result.andThen_ok, List.map_toArray, List.map_cons, List.map_nil, hs, hx, hrun]
    exact hK _ _ h
theorem Arr.set_ {T : TypeId} {w : World} {g : Nat} {x : List UInt8} (h : Arr T w g x) (k r : Nat) (hr : r < 256) : Arr T (w.setCell ⟨g, k, none⟩ (.int .u8 (r : Nat))) g (x.set k (UInt8.ofNat r)) := by
  unfold Arr at h ⊢
  rw [← enc_set _ _ _ hr]
  simp [World.setCell, Array.getElem?_modify, h]
theorem Arr.other {T : TypeId} {w : World} {g g' : Nat} {x : List UInt8} (h : Arr T w g x) (hne : g ≠ g') (k : Nat) (u : Value) : Arr T (w.setCell ⟨g', k, none⟩ u) g x := by
  unfold Arr at h ⊢
  rw [Below.heap_setCell _ _ _ _ (by simpa using hne)]
  exact h
theorem Arr.at_ {T : TypeId} {w : World} {g : Nat} {x : List UInt8} (h : Arr T w g x) (k : Nat) (hk : k < x.length) : w.cell? ⟨g, k, none⟩ = some (.int .u8 ((x.getD k 0).toNat : Nat)) ∧ w.frozen? ⟨g, k, none⟩ = false := by
  unfold Arr at h
  exact ⟨by simp [World.cell?, h, enc_at x k hk], by simp [World.frozen?, h]⟩

end Go.Proofs.Ytpmgnhijiodbaaa
