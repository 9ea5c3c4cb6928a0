/-
  Proved here: how the numbers of lines rise.
  Conditions: none.
-/
import Derived.Test.YtkcjamjjaallhaaNvmI
namespace Go.Proofs.Ytkcjamjjaallhaa
open Go Go.RowKit

theorem idx_app (f : Cl → Bool) (a b : List Cl) (k : Nat) : idx f k (a ++ b) = idx f k a ++ idx f (k + a.length) b := by
  induction a generalizing k with
  | nil => simp [idx]
  | cons d a ih =>
    simp only [List.cons_append, idx, ih, List.length_cons, show k + 1 + a.length = k + (a.length + 1) by omega]
    split <;> simp
theorem idx_get (f : Cl → Bool) (st : List Cl) (i : Nat) (c : Cl) (hc : st[i]? = some c) (hf : f c = true) : (idx f 0 (st.take i)).length < (idx f 0 st).length ∧ (idx f 0 st).getD (idx f 0 (st.take i)).length 0 = (i : Int) := by
  have h1 := idx_app f (st.take (i + 1)) (st.drop (i + 1)) 0
  rw [List.take_append_drop, idx_take f st i c hc, hf, if_pos rfl] at h1
  rw [h1]
  constructor
  · simp only [List.length_append, List.length_cons]; omega
  · simp [List.getD]
theorem idx_ge (f : Cl → Bool) (st : List Cl) (k : Nat) : ∀ x ∈ idx f k st, (k : Int) ≤ x ∧ x < (k : Int) + st.length := by
  induction st generalizing k with
  | nil => intro x hx; cases hx
  | cons c st ih =>
    intro x hx
    simp only [idx] at hx
    have h2 : ∀ y ∈ idx f (k + 1) st, (k : Int) ≤ y ∧ y < (k : Int) + (c :: st).length := by
      intro y hy
      have := ih (k + 1) y hy
      simp only [List.length_cons]
      omega
    split at hx
    · rcases List.mem_cons.1 hx with rfl | h
      · simp only [List.length_cons]; omega
      · exact h2 x h
    · exact h2 x hx
theorem idx_rises (f : Cl → Bool) (st : List Cl) (k : Nat) : (idx f k st).Pairwise (· < ·) := by
  induction st generalizing k with
  | nil => exact List.Pairwise.nil
  | cons c st ih =>
    simp only [idx]
    split
    · exact List.Pairwise.cons (fun x hx => by have := (idx_ge f st (k + 1) x hx).1; omega) (ih (k + 1))
    · exact ih (k + 1)
theorem idx_step (f : Cl → Bool) (st : List Cl) (k j : Nat) (hj : j + 1 < (idx f k st).length) : (idx f k st).getD j 0 < (idx f k st).getD (j + 1) 0 := by
  have := List.pairwise_iff_getElem.1 (idx_rises f st k) j (j + 1) (by omega) hj (by omega)
  simpa [List.getD, List.getElem?_eq_getElem hj, List.getElem?_eq_getElem (show j < (idx f k st).length by omega)] using this
theorem idx_in (f : Cl → Bool) (st : List Cl) (j : Nat) (hj : j < (idx f 0 st).length) : 0 ≤ (idx f 0 st).getD j 0 ∧ (idx f 0 st).getD j 0 < st.length := by
  have := idx_ge f st 0 _ (List.getElem_mem hj)
  simp only [List.getD, List.getElem?_eq_getElem hj, Option.getD_some]
  omega
theorem RowI.at_ {w : World} {A : Option Addr} {l : List Int} (h : RowI w A l) {j : Nat} (hj : j < l.length) : ∃ b off, A = some ⟨b, off, none⟩ ∧ b < w.heap.size ∧ ∀ w', Below w.heap.size w w' → w'.cell? ⟨b, off + j, none⟩ = some (.int .i64 (l.getD j 0)) := by
  obtain ⟨b, off, e, hlt, hc⟩ := h.2 (by omega)
  exact ⟨b, off, e, hlt, fun w' hb => (hb.cell (p := ⟨b, off + j, none⟩) hlt).trans (hc j hj)⟩

end Go.Proofs.Ytkcjamjjaallhaa
