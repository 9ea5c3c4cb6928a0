/-
  Proved here: what chapter 15's own says of a call's shape.
  Conditions: a group's calls have no group; rows of at most 2^20 calls.
-/
import Derived.Test.YtpmgnhijiodbaaaGoodC15
namespace Go.Proofs.Ytpmgnhijiodbaaa
open Go Go.RowKit
set_option maxRecDepth 100000

def shF (x : Cal) : Int := if formF x = true then 0 else 1
theorem memB_split (x : Cal) : memB x = ((x.kd == 2 || x.kd == 3 || x.kd == 4) && formF x) := by
  unfold memB chgB formF
  rcases kinds x.kd with h | h | h | h | h | h | h | h | ⟨k1, k2, k3, k4, k5, k6, k7, k8⟩
  all_goals simp [*]
theorem shB_iff {c x : Cal} (hc : memB c = true) (hx : memB x = true) : (chgB c && shB c x) = (!(c.kd == 4) && !(x.kd == 4) && (c.key.toList == x.key.toList)) := by
  have e : eqK x.key c.key = (c.key.toList == x.key.toList) := by unfold eqK; exact Bool.beq_comm
  unfold shB
  rw [e]
  rw [memB_split] at hc hx
  simp only [Bool.and_eq_true, Bool.or_eq_true, beq_iff_eq] at hc hx
  rcases hc.1 with (h | h) | h <;> rcases hx.1 with (g | g) | g <;> simp [chgB, h, g]
theorem shares_no {l : List Cal} {c : Cal} (h : ∀ t y, t < l.length → l[t]? = some y → (chgB c && shB c y) = false) : sharesB l c = false := by
  unfold sharesB
  cases hc : chgB c with
  | false => rfl
  | true =>
    rw [Bool.true_and, List.any_eq_false]
    intro y hy
    obtain ⟨t, ht⟩ := List.getElem?_of_mem hy
    have := h t y (List.getElem?_eq_some_iff.1 ht).1 ht
    rw [hc, Bool.true_and] at this
    rw [this]
    decide
theorem shares_yes {l : List Cal} {c y : Cal} {t : Nat} (ht : l[t]? = some y) (h : (chgB c && shB c y) = true) : sharesB l c = true := by
  unfold sharesB
  rw [Bool.and_eq_true] at h ⊢
  exact ⟨h.1, List.any_eq_true.2 ⟨y, List.mem_of_getElem? ht, h.2⟩⟩
theorem grpUp_at {G : List Cal} {i t : Nat} {y : Cal} (h : grpUp G i = true) (ht : t < i) (hy : G[t]? = some y) : memB y = true := by
  unfold grpUp at h
  have := List.all_eq_true.1 h t (List.mem_range.2 ht)
  rw [okAt_some hy, Bool.and_eq_true] at this
  exact this.1
/-- What a group's shape is. -/
def shG (G : List Cal) : Int := if grpB G = true then 0 else 1
end Go.Proofs.Ytpmgnhijiodbaaa
