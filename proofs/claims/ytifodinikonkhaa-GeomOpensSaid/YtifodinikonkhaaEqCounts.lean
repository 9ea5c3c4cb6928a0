/-
  Proved here: how two sets of counts are compared.
  Conditions: none.
-/
import Derived.Test.YtifodinikonkhaaPlays
namespace Go.Proofs.Ytifodinikonkhaa
open Go Go.RowKit

theorem part_int (xs : Array Value) (i : Nat) (v : Value) (h : xs[i]? = some v) (w : World) : (part 3 xs i).run Try.prog w = .ok v w := by
  have hagg : (isAgg 3).run Try.prog w = .ok false w := by
    unfold isAgg
    rw [Sem.run_bind, run_underlying Try.underlying3 w]
    rfl
  simp [part, Sem.run_bind, hagg, h]
theorem guard_counts : Try.prog.eqGuardType Try.prog.depth 84 = false := by kernel_rfl
theorem counts_fields : ∃ fs, Try.prog.fieldsOf 84 = fs ∧ fs.toList.map (fun f => (f.name != "_", f.type, f.offset)) = [(true, 3, 0), (true, 3, 1), (true, 3, 2), (true, 3, 3), (true, 3, 4)] := ⟨_, rfl, by kernel_rfl⟩
theorem eqf_ints (d : Nat) (xs ys : List Int) (hl : xs.length = ys.length) (w : World) : ∀ (k : Nat) (fs : List Field), k + fs.length = xs.length → (∀ i f, fs[i]? = some f → f.name ≠ "_" ∧ f.type = 3 ∧ f.offset = k + i) →
    (Op.eqFields (d + 1) (encI xs).toArray (encI ys).toArray fs).run Try.prog w = .ok (xs.drop k == ys.drop k) w := by
  intro k fs
  induction fs generalizing k with
  | nil =>
    intro hk _
    have h1 : xs.drop k = [] := List.drop_eq_nil_of_le (by simp at hk; omega)
    have h2 : ys.drop k = [] := List.drop_eq_nil_of_le (by simp at hk; omega)
    simp [Op.eqFields, h1, h2]
  | cons f fs ih =>
    intro hk hf
    obtain ⟨hn, ht, ho⟩ := hf 0 f rfl
    have hlen : k < xs.length := by simp at hk; omega
    have h1 := part_int (encI xs).toArray k _ (by rw [List.getElem?_toArray]; exact encI_at xs k hlen) w
    have h2 := part_int (encI ys).toArray k _ (by rw [List.getElem?_toArray]; exact encI_at ys k (by omega)) w
    have h3 := run_equalIn_int (P := Try.prog) w d 3 .i64 .i64 (xs.getD k 0) (ys.getD k 0) Try.underlying3
    have h4 := ih (k + 1) (by simp at hk; omega) (fun i f hi => by have := hf (i + 1) f (by simpa using hi); exact ⟨this.1, this.2.1, by omega⟩)
    rw [Nat.add_zero] at ho
    simp only [Op.eqFields, ne_eq, hn, not_false_eq_true, if_true, Sem.run_bind, ht, ho, h1, h2, h3, Result.andThen_ok]
    have hx : xs.drop k = xs.getD k 0 :: xs.drop (k + 1) := by rw [List.drop_eq_getElem_cons hlen]; simp [List.getD, List.getElem?_eq_getElem hlen]
    have hy : ys.drop k = ys.getD k 0 :: ys.drop (k + 1) := by rw [List.drop_eq_getElem_cons (by omega)]; simp [List.getD, List.getElem?_eq_getElem (show k < ys.length by omega)]
    rw [hx, hy, List.cons_beq_cons]
    cases hh : (xs.getD k 0 == ys.getD k 0)
    · simp only [Bool.not_false, if_true, Sem.run_pure, Bool.false_and]
    · simp only [Bool.not_true, Bool.false_eq_true, if_false, Bool.true_and]
      exact h4
theorem equal_counts (xs ys : List Int) (hx : xs.length = 5) (hy : ys.length = 5) (w : World) : (Op.equalIn 10000 84 (aggI xs) (aggI ys)).run Try.prog w = .ok (xs == ys) w := by
  obtain ⟨fs, hfs, hm⟩ := counts_fields
  rw [aggI, aggI, run_equalIn_struct w 9999 84 _ _ (by kernel_rfl) (by kernel_rfl), hfs]
  have hl : fs.toList.length = 5 := by have := congrArg List.length hm; simpa using this
  have := eqf_ints 9998 xs ys (by omega) w 0 fs.toList (by omega) (fun i f hi => by
    have h1 : ((fs.toList.map (fun f => (f.name != "_", f.type, f.offset)))[i]?) = some (f.name != "_", f.type, f.offset) := by rw [List.getElem?_map, hi]; rfl
    rw [hm] at h1
    match i, h1 with
    | 0, h1 => simp at h1; exact ⟨fun h => h1.1 h, h1.2.1.symm, by omega⟩
    | 1, h1 => simp at h1; exact ⟨fun h => h1.1 h, h1.2.1.symm, by omega⟩
    | 2, h1 => simp at h1; exact ⟨fun h => h1.1 h, h1.2.1.symm, by omega⟩
    | 3, h1 => simp at h1; exact ⟨fun h => h1.1 h, h1.2.1.symm, by omega⟩
    | 4, h1 => simp at h1; exact ⟨fun h => h1.1 h, h1.2.1.symm, by omega⟩
    | j + 5, h1 => simp at h1)
  simpa using this
theorem eql_counts (xs ys : List Int) (hx : xs.length = 5) (hy : ys.length = 5) (w : World) : (binOp .eql 84 (aggI xs) (aggI ys)).run Try.prog w = .ok (.bool (xs == ys)) w := by
  have := equal_counts xs ys hx hy w
  rw [aggI, aggI] at this ⊢
  rw [run_eql_struct, this]
  rfl
theorem neq_counts (xs ys : List Int) (hx : xs.length = 5) (hy : ys.length = 5) (w : World) : (binOp .neq 84 (aggI xs) (aggI ys)).run Try.prog w = .ok (.bool (!(xs == ys))) w := by
  have := equal_counts xs ys hx hy w
  rw [aggI, aggI] at this ⊢
  rw [run_neq_struct, this]
  rfl
theorem guard_run (op : BinOp) (x y : Operand) (xs ys : List Int) (w : World) : (eqGuard op 84 x y (aggI xs) (aggI ys)).run Try.prog w = .ok () w := run_eqGuard_agg w op _ x y _ _ guard_counts

end Go.Proofs.Ytifodinikonkhaa
