/-
  Proved here: what a bag of entries is, as a list: what may be put in, the first ready one, what is left behind it, that rising epochs go out in order.
  Conditions: none.
-/
import Derived.Test.YtfonjkbdonbjdaaNvmMath
namespace Go.Proofs.Ytfonjkbdonbjdaa
open Go Go.RowKit

/-! ### Entries and bags -/
/-- An entry: its line, its class, both epochs of its unlinking, its anti. -/
structure En where
  line : Int
  cl : Int
  r : Nat
  d : Nat
  anti : Int
def En.cells (e : En) : List Value := [.int .i64 e.line, .int .i64 e.cl, .int .u64 (e.r : Nat), .int .u64 (e.d : Nat), .int .i64 e.anti]
def En.zero : En := ⟨0, 0, 0, 0, 0⟩
def En.bad (e : En) : Prop := e.line < 2 ∨ 258 ≤ e.line ∨ e.cl < 0 ∨ 3 < e.cl ∨ e.anti < -1 ∨ 258 ≤ e.anti
instance (e : En) : Decidable e.bad := inferInstanceAs (Decidable (_ ∨ _))
/-- Entries one behind the other, as cells. -/
def encE (L : List En) : List Value := L.flatMap En.cells
theorem encE_len (L : List En) : (encE L).length = L.length * 5 := by
  induction L with
  | nil => rfl
  | cons e L ih => simp only [encE, List.flatMap_cons, List.length_append, List.length_cons] at ih ⊢; rw [ih]; simp [En.cells]; omega
theorem encE_append (a b : List En) : encE a ++ encE b = encE (a ++ b) := by simp [encE]
theorem encE_at (L : List En) (rest : List Value) {i : Nat} {e : En} (h : L[i]? = some e) (j : Nat) (hj : j < 5) : (encE L ++ rest)[i * 5 + j]? = e.cells[j]? := by
  induction L generalizing i with
  | nil => cases h
  | cons a L ih =>
    simp only [encE, List.flatMap_cons, List.append_assoc]
    have ha : a.cells.length = 5 := rfl
    cases i with
    | zero =>
      obtain rfl : a = e := by simpa using h
      rw [Nat.zero_mul, Nat.zero_add, List.getElem?_append_left (by omega)]
    | succ i =>
      rw [List.getElem?_append_right (by omega), ha, show (i + 1) * 5 + j - 5 = i * 5 + j by omega]
      exact ih (by simpa using h)
theorem encE_one {L : List En} : ∀ u ∈ encE L, u.oneCell' = true := by
  intro u hu
  simp only [encE, List.mem_flatMap] at hu
  obtain ⟨e, _, h⟩ := hu
  simp only [En.cells, List.mem_cons, List.not_mem_nil, or_false] at h
  rcases h with rfl | rfl | rfl | rfl | rfl <;> rfl
def putE (L : List En) (e : En) : Int := if e.bad then 1 else if 258 ≤ L.length then 11 else 0
def putB (L : List En) (e : En) : List En := if putE L e = 0 then L ++ [e] else L
theorem putB_len (L : List En) (e : En) : (putB L e).length ≤ L.length + 1 := by unfold putB; split <;> simp
theorem putE_ok {L : List En} {e : En} : putE L e = 0 ↔ ¬ e.bad ∧ L.length < 258 := by
  unfold putE
  rcases Classical.em e.bad with h | h
  · rw [if_pos h]; simp [h]
  · rw [if_neg h]
    rcases Nat.lt_or_ge L.length 258 with h1 | h1
    · rw [if_neg (by omega)]; simp [h, h1]
    · rw [if_pos h1]; simp; omega
theorem putB_most {L : List En} (h : L.length ≤ 258) (e : En) : (putB L e).length ≤ 258 := by
  unfold putB
  split
  · rename_i h1
    have := (putE_ok.1 h1).2
    simp; omega
  · exact h
/-- Is an entry ready: q tells for which epochs the readers are quiet; D is the durable epoch. -/
def readyB (q : Nat → Bool) (D : Nat) (e : En) : Bool := q e.r && decide (e.d ≤ D)
/-- The place of the first entry of which p holds; the length where there is none. -/
def firstAt (p : En → Bool) : List En → Nat
  | [] => 0
  | e :: L => if p e then 0 else firstAt p L + 1
theorem firstAt_le (p : En → Bool) (L : List En) : firstAt p L ≤ L.length := by
  induction L with
  | nil => exact Nat.le_refl _
  | cons e L ih =>
    unfold firstAt
    split
    · exact Nat.zero_le _
    · simp; omega
theorem firstAt_before (p : En → Bool) (L : List En) (i : Nat) (h : i < firstAt p L) : ∃ e, L[i]? = some e ∧ p e = false := by
  induction L generalizing i with
  | nil => simp [firstAt] at h
  | cons a L ih =>
    unfold firstAt at h
    split at h
    · omega
    · rename_i ha
      cases i with
      | zero => exact ⟨a, rfl, by simpa using ha⟩
      | succ i => simpa using ih i (by omega)
theorem firstAt_hit (p : En → Bool) (L : List En) (h : firstAt p L < L.length) : ∃ e, L[firstAt p L]? = some e ∧ p e = true := by
  induction L with
  | nil => simp at h
  | cons a L ih =>
    unfold firstAt at h ⊢
    split
    · rename_i ha
      exact ⟨a, rfl, ha⟩
    · rename_i ha
      rw [if_neg ha] at h
      simpa using ih (by simpa using h)
/-- What a search tells when it has come to i. -/
theorem firstAt_is (p : En → Bool) (L : List En) (i : Nat) (e : En) (hb : ∀ k, k < i → ∃ a, L[k]? = some a ∧ p a = false) (h : L[i]? = some e) (hp : p e = true) : firstAt p L = i := by
  rcases Nat.lt_trichotomy (firstAt p L) i with h1 | h1 | h1
  · obtain ⟨a, h2, h3⟩ := hb _ h1
    have hl : firstAt p L < L.length := (List.getElem?_eq_some_iff.1 h2).1
    obtain ⟨b, h4, h5⟩ := firstAt_hit p L hl
    rw [h2] at h4
    cases h4
    rw [h3] at h5
    cases h5
  · exact h1
  · obtain ⟨a, h2, h3⟩ := firstAt_before p L i h1
    rw [h] at h2
    cases h2
    rw [hp] at h3
    cases h3
theorem firstAt_none (p : En → Bool) (L : List En) (hb : ∀ k, k < L.length → ∃ a, L[k]? = some a ∧ p a = false) : firstAt p L = L.length := by
  rcases Nat.lt_or_ge (firstAt p L) L.length with h | h
  · obtain ⟨a, h2, h3⟩ := hb _ h
    obtain ⟨b, h4, h5⟩ := firstAt_hit p L h
    rw [h2] at h4
    cases h4
    rw [h3] at h5
    cases h5
  · have := firstAt_le p L
    omega
def headE (p : En → Bool) (L : List En) : En := L.getD (firstAt p L) En.zero
def hasE (p : En → Bool) (L : List En) : Bool := decide (firstAt p L < L.length)
def popE (p : En → Bool) (L : List En) : List En := if hasE p L then L.eraseIdx (firstAt p L) else L
theorem popE_len (p : En → Bool) (L : List En) : (popE p L).length = if hasE p L then L.length - 1 else L.length := by
  unfold popE
  split
  · rename_i h
    unfold hasE at h
    rw [List.length_eraseIdx, if_pos (by simpa using h)]
  · rfl
/-- Entries whose epochs do not fall: the first one is ready, or none is. -/
def RisesE (L : List En) : Prop := L.Pairwise fun a b => a.r ≤ b.r ∧ a.d ≤ b.d
theorem rises_first {L : List En} (h : RisesE L) (p : En → Bool) (hp : ∀ a b : En, a.r ≤ b.r → a.d ≤ b.d → p b = true → p a = true) : firstAt p L = 0 ∨ firstAt p L = L.length := by
  rcases Nat.lt_or_ge (firstAt p L) L.length with h1 | h1
  · left
    rcases Nat.eq_zero_or_pos (firstAt p L) with h0 | h0
    · exact h0
    · exfalso
      obtain ⟨b, h2, h3⟩ := firstAt_hit p L h1
      obtain ⟨a, h4, h5⟩ := firstAt_before p L 0 h0
      obtain ⟨l1, rfl⟩ := List.getElem?_eq_some_iff.1 h2
      obtain ⟨l2, rfl⟩ := List.getElem?_eq_some_iff.1 h4
      have := List.pairwise_iff_getElem.1 h 0 (firstAt p L) l2 l1 h0
      rw [hp _ _ this.1 this.2 h3] at h5
      cases h5
  · right
    have := firstAt_le p L
    omega
theorem ready_down (q : Nat → Bool) (hq : ∀ x y, x ≤ y → q y = true → q x = true) (D : Nat) (a b : En) (h1 : a.r ≤ b.r) (h2 : a.d ≤ b.d) (h : readyB q D b = true) : readyB q D a = true := by
  simp only [readyB, Bool.and_eq_true, decide_eq_true_eq] at h ⊢
  exact ⟨hq _ _ h1 h.1, Nat.le_trans h2 h.2⟩
theorem rises_tail {e : En} {L : List En} (h : RisesE (e :: L)) : RisesE L := (List.pairwise_cons.1 h).2

end Go.Proofs.Ytfonjkbdonbjdaa
