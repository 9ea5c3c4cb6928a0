/-
  Proved here: cells of a row of links written, copied and cleared.
  Conditions: none.
-/
import Derived.Test.YtejljkpnhdnncaaTabA
import Derived.Test.YtejljkpnhdnncaaStepApp
import Derived.Laws.IdiomCopy
import Derived.Laws.OwnMore
namespace Go.Proofs.Ytejljkpnhdnncaa
open Go Go.RowKit
set_option maxRecDepth 100000

/-! ### Cells written one behind the other -/
theorem toList_set (cur : Array Value) (o : Nat) (v : Value) (rest : List Value) (h : o + (v :: rest).length ≤ cur.size) :
    (cur.setIfInBounds o v).toList.take (o + 1) ++ rest ++ (cur.setIfInBounds o v).toList.drop (o + 1 + rest.length) = cur.toList.take o ++ v :: rest ++ cur.toList.drop (o + (v :: rest).length) := by
  simp only [List.length_cons] at h ⊢
  rw [Array.toList_setIfInBounds]
  have hl : o < cur.toList.length := by simp; omega
  rw [List.drop_set_of_lt (by omega), List.take_set, List.take_add_one, List.getElem?_eq_getElem hl]
  rw [show o + 1 + rest.length = o + (rest.length + 1) by omega]
  have ht : (cur.toList.take o).length = o := by rw [List.length_take]; omega
  have : (cur.toList.take o ++ (some cur.toList[o]).toList).set o v = cur.toList.take o ++ [v] := by
    rw [List.set_append_right _ _ (by omega), ht]
    simp
  rw [this]
  simp
theorem heap_setCells (T : TypeId) (g : Nat) : ∀ (vs : List Value) (o : Nat) (w : World) (cur : Array Value), w.heap[g]? = some (.cells cur T (0, 0)) → o + vs.length ≤ cur.size →
    ∃ cur', (w.setCells g o vs).heap[g]? = some (.cells cur' T (0, 0)) ∧ cur'.toList = cur.toList.take o ++ vs ++ cur.toList.drop (o + vs.length) ∧ cur'.size = cur.size
  | [], o, w, cur, h, _ => ⟨cur, h, by simp, rfl⟩
  | v :: vs, o, w, cur, h, hl => by
    have h1 := heap_setCell_same w g o cur T v h
    obtain ⟨cur', h2, h3, h4⟩ := heap_setCells T g vs (o + 1) (w.setCell ⟨g, o, none⟩ v) _ h1 (by simp at hl ⊢; omega)
    exact ⟨cur', h2, by rw [h3]; exact toList_set cur o v vs hl, by rw [h4]; simp⟩
theorem setCells_other (g : Nat) : ∀ (vs : List Value) (o : Nat) (w : World) (k : Nat), k ≠ g → (w.setCells g o vs).heap[k]? = w.heap[k]?
  | [], _, _, _, _ => rfl
  | _ :: vs, o, _, k, h => (setCells_other g vs (o + 1) _ k h).trans (Below.heap_setCell _ _ _ _ h)
theorem setCells_rest (g : Nat) : ∀ (vs : List Value) (o : Nat) (w : World), (w.setCells g o vs).os = w.os ∧ (w.setCells g o vs).tape = w.tape ∧ (w.setCells g o vs).output = w.output ∧ (w.setCells g o vs).heap.size = w.heap.size
  | [], _, _ => ⟨rfl, rfl, rfl, rfl⟩
  | v :: vs, o, w => by
    obtain ⟨h1, h2, h3, h4⟩ := setCells_rest g vs (o + 1) (w.setCell ⟨g, o, none⟩ v)
    exact ⟨h1, h2, h3, h4.trans (by simp [World.setCell])⟩
theorem grown_setCells (g : Nat) (vs : List Value) (o : Nat) (w : World) : w.grownBy (w.setCells g o vs) (some g) := by
  obtain ⟨h1, h2, h3, h4⟩ := setCells_rest g vs o w
  exact ⟨h1, h2, h3, by rw [h4]; exact Nat.le_refl _, fun k _ hk => setCells_other g vs o w k (fun e => hk (by rw [e]))⟩
theorem cell_some {w : World} {g : Nat} {T : TypeId} {cur : Array Value} (h : w.heap[g]? = some (.cells cur T (0, 0))) {j : Nat} (hj : j < cur.size) : (w.cell? ⟨g, j, none⟩).isSome = true := by
  simp [World.cell?, h, hj]
/-- A copy within, or into, a row of links. -/
theorem run_copyL (w : World) (ty : TypeId) (g o dLen dCap : Nat) (a : Addr) (sLen sCap : Nat) (cs : List Value) (cur : Array Value) (h : w.heap[g]? = some (.cells cur 29 (0, 0)))
    (hn : cs.length = Nat.min sLen dLen * 5) (hsrc : ∀ j v, cs[j]? = some v → w.cell? (a.add j) = some v) (ho : o + cs.length ≤ cur.size) (h1 : ∀ v ∈ cs, v.oneCell' = true) :
    (Builtin.copy_ #[22, 22] ty #[.slice (some ⟨g, o, none⟩) dLen dCap, .slice (some a) sLen sCap]).run Try.prog w = .ok (goInt (Nat.min sLen dLen : Nat)) (w.setCells g o cs) := by
  obtain ⟨i, hi, _, hs, _⟩ := link_info'
  have hu : Try.prog.underlying 22 = some (.slice 29) := Try.underlying22
  have hl := run_loadCells_list (P := Try.prog) w a cs hsrc
  have hst := run_storeCells_cells (P := Try.prog) g o cs 0 w (by intro j hj; simpa using cell_some h (j := o + j) (by omega)) (by intro j hj; simp [World.frozen?, h]) h1
  rw [hn] at hl
  simp [Builtin.copy_, run_underlying hu, Builtin.lenOf, Builtin.firstCells, sizeOf, typeInfo, hi, hs, hl, hst]
theorem wpList_copyL {P : Program} {ops : Array Oper} {rest : List Oper} {o : Oper} {a : Act} {Q : Exit → Act → World → Prop} (hgd : o.guard = none) (s x : Operand) (t : TypeId)
    (ho : o.op = .call { callee := .builtin .copy, args := #[s, x], argTypes := #[t, t] }) {w w' : World} {v V v' : Value} (hs : a.eval s = v) (hx : a.eval x = V)
    (hrun : (Builtin.copy_ #[t, t] o.type #[v, V]).run P w = .ok v' w') (h : wpList P ops Q rest (a.put o.dst v') w') : wpList P ops Q (o :: rest) a w :=
  wpList_plain hgd fun _ hK => by
    unfold Oper.wp execOp
    simp only [ho, resolve, invoke, builtin, Sem.run_bind, Sem.run_pure, Result.andThen_ok, List.map_toArray, List.map_cons, List.map_nil, hs, hx, hrun]
    exact hK _ _ h
theorem wpList_clearL {P : Program} {ops : Array Oper} {rest : List Oper} {o : Oper} {a : Act} {Q : Exit → Act → World → Prop} (hgd : o.guard = none) (s : Operand) (t : TypeId)
    (ho : o.op = .call { callee := .builtin .clear, args := #[s], argTypes := #[t] }) {w w' : World} {v v' : Value} (hs : a.eval s = v)
    (hrun : (Builtin.clear_ #[t] o.type #[v]).run P w = .ok v' w') (h : wpList P ops Q rest (a.put o.dst v') w') : wpList P ops Q (o :: rest) a w :=
  wpList_plain hgd fun _ hK => by
    unfold Oper.wp execOp
    simp only [ho, resolve, invoke, builtin, Sem.run_bind, Sem.run_pure, Result.andThen_ok, List.map_toArray, List.map_cons, List.map_nil, hs, hrun]
    exact hK _ _ h
/-- One link of a row cleared. -/
theorem run_clearL (w : World) (ty : TypeId) (g o c : Nat) (cur : Array Value) (h : w.heap[g]? = some (.cells cur 29 (0, 0))) (ho : o + 5 ≤ cur.size) :
    (Builtin.clear_ #[22] ty #[.slice (some ⟨g, o, none⟩) 1 c]).run Try.prog w = .ok (.tuple #[]) (w.setCells g o Ln.zero.cells) := by
  have hu : Try.prog.underlying 22 = some (.slice 29) := Try.underlying22
  have hv := Try.zeroValue29
  have hst := run_storeCells_cells (P := Try.prog) g o Ln.zero.cells 0 w (by intro j hj; have : j < 5 := hj; simpa using cell_some h (j := o + j) (by omega)) (by intro j hj; simp [World.frozen?, h]) (by
    intro v hv
    simp only [Ln.cells, List.mem_cons, List.not_mem_nil, or_false] at hv
    rcases hv with rfl | rfl | rfl | rfl | rfl <;> rfl)
  have hz : (Builtin.zeroCells (Value.agg #[.string ⟨#[]⟩, .int .u64 0, .int .u64 0, .int .i64 0, .int .i64 0]).cells 1).toList = Ln.zero.cells := by kernel_rfl
  simp only [Nat.add_zero] at hst
  simp [Builtin.clear_, run_underlying hu, hv, hz, hst]
/-- A row is what its block holds. -/
theorem own_block {w : World} {g n cap : Nat} {l : List Ln} (h : w.ownsRow 0 29 5 (.slice (some ⟨g, 0, none⟩) n cap) n (encL l)) : ∃ cur, w.heap[g]? = some (.cells cur 29 (0, 0)) ∧ n ≤ cap ∧ cap ≤ maxLen ∧ cur.size = cap * 5 ∧ cur.toList.take (n * 5) = encL l := by
  rcases h.2 with ⟨e, _⟩ | ⟨g2, c2, cur, e, _, h1, h2, h3, h4, h5⟩
  · cases e
  · cases e
    exact ⟨cur, h1, h2, h3, h4, h5⟩
theorem block_own {w : World} {g n cap : Nat} {l : List Ln} {cur : Array Value} (hb : w.heap[g]? = some (.cells cur 29 (0, 0))) (h1 : n ≤ cap) (h2 : cap ≤ maxLen) (h3 : cur.size = cap * 5) (h4 : cur.toList.take (n * 5) = encL l) : w.ownsRow 0 29 5 (.slice (some ⟨g, 0, none⟩) n cap) n (encL l) := by
  refine ⟨?_, .inr ⟨g, cap, cur, rfl, Nat.zero_le _, hb, h1, h2, h3, h4⟩⟩
  rw [← h4, List.length_take]
  have : cur.toList.length = cap * 5 := by rw [Array.length_toList, h3]
  have : n * 5 ≤ cap * 5 := Nat.mul_le_mul_right _ h1
  omega
/-- What is written behind a row turns none of it. -/
theorem own_behind {w : World} {g n cap o : Nat} {l : List Ln} (h : w.ownsRow 0 29 5 (.slice (some ⟨g, 0, none⟩) n cap) n (encL l)) (vs : List Value) (ho : n * 5 ≤ o) (hv : o + vs.length ≤ cap * 5) : (w.setCells g o vs).ownsRow 0 29 5 (.slice (some ⟨g, 0, none⟩) n cap) n (encL l) := by
  obtain ⟨cur, h1, h2, h3, h4, h5⟩ := own_block h
  obtain ⟨cur', e1, e2, e3⟩ := heap_setCells _ g vs o w cur h1 (by omega)
  refine block_own e1 h2 h3 (e3.trans h4) ?_
  rw [e2, List.append_assoc, List.take_append_of_le_length (by rw [List.length_take, Array.length_toList]; omega), List.take_take, Nat.min_eq_left ho, h5]
theorem encL_take (l : List Ln) (i : Nat) : (encL l).take (i * 5) = encL (l.take i) := by
  induction l generalizing i with
  | nil => simp [encL]
  | cons a l ih =>
    cases i with
    | zero => simp [encL]
    | succ i =>
      have ha : a.cells.length = 5 := rfl
      simp only [encL, List.flatMap_cons, List.take_succ_cons] at ih ⊢
      rw [show (i + 1) * 5 = a.cells.length + i * 5 by omega, List.take_length_add_append, ih]
theorem encL_drop (l : List Ln) (i : Nat) : (encL l).drop (i * 5) = encL (l.drop i) := by
  induction l generalizing i with
  | nil => simp [encL]
  | cons a l ih =>
    cases i with
    | zero => simp [encL]
    | succ i =>
      have ha : a.cells.length = 5 := rfl
      simp only [encL, List.flatMap_cons, List.drop_succ_cons] at ih ⊢
      rw [show (i + 1) * 5 = a.cells.length + i * 5 by omega, List.drop_length_add_append, ih]
theorem own_take {w : World} {g n cap : Nat} {l : List Ln} (h : w.ownsRow 0 29 5 (.slice (some ⟨g, 0, none⟩) n cap) n (encL l)) {i : Nat} (hi : i ≤ n) : w.ownsRow 0 29 5 (.slice (some ⟨g, 0, none⟩) i cap) i (encL (l.take i)) := by
  obtain ⟨cur, h1, h2, h3, h4, h5⟩ := own_block h
  refine block_own h1 (Nat.le_trans hi h2) h3 h4 ?_
  rw [← encL_take, ← h5, List.take_take, Nat.min_eq_left (by omega)]

end Go.Proofs.Ytejljkpnhdnncaa
