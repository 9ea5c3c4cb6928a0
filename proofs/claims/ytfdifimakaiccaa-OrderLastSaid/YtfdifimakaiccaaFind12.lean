/-
  Proved here: a store of a whole row; the first of a list that is such, by its place; 'greater' between texts.
  Conditions: none.
-/
import Derived.Test.YtfdifimakaiccaaTabMem
import Derived.Test.YtfdifimakaiccaaTabA
import Derived.Test.YtfdifimakaiccaaCmp12
namespace Go.Proofs.Ytfdifimakaiccaa
open Go Go.RowKit
set_option maxRecDepth 100000

/-- A whole block written over: all others lie as they lay. -/
theorem wpList_store_only {P : Program} {ops : Array Oper} {rest : List Oper} {o : Oper} {a : Act} {w : World} {Q : Exit → Act → World → Prop} (hgd : o.guard = none) (ty : TypeId) (x y : Operand) (ho : o.op = .store ty x y) (hd : o.dst = none)
    (g : Nat) (cells : Array Value) (hx : a.eval x = .pointer (some ⟨g, 0, none⟩)) (hy : a.eval y = .agg cells)
    (t : TypeId) (old : Array Value) (hg : w.heap[g]? = some (.cells old t (0, 0))) (hi : (P.info? ty).map (·.size) = some cells.size) (hold : old.size = cells.size) (h1 : cells.all (·.oneCell') = true)
    (k : ∀ w', Hid (w'.heap[g]? = some (.cells cells t (0, 0))) → Hid (Turns g g w w') → wpList P ops Q rest a w') : wpList P ops Q (o :: rest) a w := by
  refine wpList_store_row hgd ty x y ho g cells hx hy t old hg hi hold h1 ?_
  rw [hd]
  exact k _ (setRow_heap w g _ _ t _ hg) ⟨rfl, rfl, rfl, by simp, fun k hk _ _ => setRow_other _ _ k _ hk⟩
theorem find_at {α : Type} (p : α → Bool) (L : List α) (i : Nat) (x : α) (h : ∀ j, j < i → ∃ a, L[j]? = some a ∧ p a = false) (hx : L[i]? = some x) (hp : p x = true) : L.find? p = some x := by
  induction L generalizing i with
  | nil => cases hx
  | cons a L ih =>
    cases i with
    | zero =>
      obtain rfl : a = x := by simpa using hx
      simp [hp]
    | succ i =>
      obtain ⟨b, hb, hbp⟩ := h 0 (by omega)
      obtain rfl : a = b := by simpa using hb
      rw [List.find?_cons, hbp]
      exact ih i (fun j hj => by have := h (j + 1) (by omega); simpa using this) (by simpa using hx)
theorem find_no {α : Type} (p : α → Bool) (L : List α) (h : ∀ j, j < L.length → ∃ a, L[j]? = some a ∧ p a = false) : L.find? p = none := by
  rw [List.find?_eq_none]
  intro x hx
  obtain ⟨j, hj, e⟩ := List.getElem_of_mem hx
  obtain ⟨a, ha, hp⟩ := h j hj
  rw [List.getElem?_eq_getElem hj, e] at ha
  cases ha
  simp [hp]
theorem gt_str (x y : ByteArray) : (!(Op.bytesLess x.toList y.toList || x.toList == y.toList)) = Op.bytesLess y.data.toList x.data.toList := by
  rw [gtrK, Lib.toList_data, Lib.toList_data]

end Go.Proofs.Ytfdifimakaiccaa
