/-
  Proved here: what an iterator over the ready entries tells.
  Conditions: none.
-/
import Derived.Test.YtfonjkbdonbjdaaBagB
namespace Go.Proofs.Ytfonjkbdonbjdaa
open Go Go.RowKit

/-! ### What an iterator over the ready ones tells -/
/-- What has come when the first k entries have been looked at. -/
def cameE (p : En → Bool) (L : List En) : Nat → List (Nat × En)
  | 0 => []
  | k + 1 => match L[k]? with
    | some e => if p e then cameE p L k ++ [(k, e)] else cameE p L k
    | none => cameE p L k
theorem came_yes {p : En → Bool} {L : List En} {k : Nat} {e : En} (h : L[k]? = some e) (hp : p e = true) : cameE p L (k + 1) = cameE p L k ++ [(k, e)] := by simp [cameE, h, hp]
theorem came_no {p : En → Bool} {L : List En} {k : Nat} {e : En} (h : L[k]? = some e) (hp : p e = false) : cameE p L (k + 1) = cameE p L k := by simp [cameE, h, hp]
theorem came_len (p : En → Bool) (L : List En) (k : Nat) : (cameE p L k).length ≤ k := by
  induction k with
  | zero => simp [cameE]
  | succ k ih =>
    unfold cameE
    split
    · split
      · simp; omega
      · omega
    · omega
theorem came_before (p : En → Bool) (L : List En) (k : Nat) (h : k ≤ firstAt p L) : cameE p L k = [] := by
  induction k with
  | zero => rfl
  | succ k ih =>
    obtain ⟨e, h1, h2⟩ := firstAt_before p L k (by omega)
    rw [came_no h1 h2, ih (by omega)]
theorem came_after (p : En → Bool) (L : List En) (hl : firstAt p L < L.length) (k : Nat) (h : firstAt p L < k) : ∃ e t, L[firstAt p L]? = some e ∧ cameE p L k = (firstAt p L, e) :: t := by
  obtain ⟨e, h1, h2⟩ := firstAt_hit p L hl
  induction k with
  | zero => omega
  | succ k ih =>
    rcases Nat.lt_or_ge (firstAt p L) k with h3 | h3
    · obtain ⟨e', t, h4, h5⟩ := ih h3
      unfold cameE
      split
      · split
        · exact ⟨e', t ++ [(k, _)], h4, by rw [h5]; rfl⟩
        · exact ⟨e', t, h4, h5⟩
      · exact ⟨e', t, h4, h5⟩
    · obtain rfl : firstAt p L = k := by omega
      refine ⟨e, [], h1, ?_⟩
      rw [came_yes h1 h2, came_before p L _ (Nat.le_refl _)]
      rfl
theorem came_none {p : En → Bool} {L : List En} (h : cameE p L L.length = []) : hasE p L = false := by
  unfold hasE
  rcases Nat.lt_or_ge (firstAt p L) L.length with h1 | h1
  · obtain ⟨e, t, _, h2⟩ := came_after p L h1 L.length h1
    rw [h] at h2
    cases h2
  · simp; omega
theorem came_first {p : En → Bool} {L : List En} {k : Nat} {x : Nat × En} (h : cameE p L k = [x]) : hasE p L = true ∧ x.1 = firstAt p L ∧ x.2 = headE p L := by
  have hk : firstAt p L < k := by
    rcases Nat.lt_or_ge (firstAt p L) k with h1 | h1
    · exact h1
    · rw [came_before p L k h1] at h
      cases h
  have hl : firstAt p L < L.length := by
    rcases Nat.lt_or_ge (firstAt p L) L.length with h1 | h1
    · exact h1
    · exfalso
      have : ∀ j, cameE p L j = [] := fun j => by
        induction j with
        | zero => rfl
        | succ j ih =>
          rcases Nat.lt_or_ge j L.length with h2 | h2
          · obtain ⟨e, h3, h4⟩ := firstAt_before p L j (by omega)
            rw [came_no h3 h4, ih]
          · unfold cameE
            rw [List.getElem?_eq_none h2]
            exact ih
      rw [this k] at h
      cases h
  obtain ⟨e, t, h1, h2⟩ := came_after p L hl k hk
  rw [h] at h2
  cases h2
  exact ⟨by simp [hasE, hl], rfl, by simp [headE, List.getD, h1]⟩

end Go.Proofs.Ytfonjkbdonbjdaa
