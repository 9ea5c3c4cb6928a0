/-
  Proved here: how large classes are, which one is needed, where blocks begin; what Span, Cap, Need, Home of package class answer, and chapter 5's own Span, Cap, Need.
  Conditions: none.
-/
import Derived.Test.YtjebpggoajfjkaaGeomS
import Derived.Test.YtjebpggoajfjkaaRef4S
import Derived.Deep.QuietTactic
import Derived.BigQuiet
namespace Go.Proofs.Ytjebpggoajfjkaa
open Go Go.RowKit

def spanN (c : Int) : Nat := if c = 0 then 1 else if c = 1 then 2 else if c = 2 then 4 else if c = 3 then 8 else 0
def capN (c : Int) : Int := if c = 0 then 28 else if c = 1 then 91 else if c = 2 then 217 else if c = 3 then 469 else 0
def needN (n : Int) : Int := if n < 0 then -1 else if n ≤ 28 then 0 else if n ≤ 91 then 1 else if n ≤ 217 then 2 else if n ≤ 469 then 3 else -1
/-- Where blocks of class c begin in slab k. -/
def startsN (k c : Int) : List Int := if 0 ≤ k ∧ k ≤ 31 then (List.range (8 / spanN c)).map fun i : Nat => 2 + 8 * k + (i * spanN c : Nat) else []
def homeN (x c : Int) : Bool := decide (x ∈ startsN (slabOfN x) c)
theorem spanN_none {c : Int} (h : c < 0 ∨ 3 < c) : spanN c = 0 := by unfold spanN; (repeat' rw [if_neg (by omega)])
theorem spanN_some {c : Int} (h : ¬ (c < 0 ∨ 3 < c)) : spanN c = 1 ∨ spanN c = 2 ∨ spanN c = 4 ∨ spanN c = 8 := by unfold spanN; (repeat' split) <;> omega
theorem spanN_cases (c : Int) : spanN c = 0 ∨ spanN c = 1 ∨ spanN c = 2 ∨ spanN c = 4 ∨ spanN c = 8 := by unfold spanN; (repeat' split) <;> omega
theorem capN_span (c : Int) : capN c = if spanN c = 0 then 0 else 28 + ((spanN c : Int) - 1) * 63 := by
  unfold capN spanN; (repeat' split) <;> simp_all
theorem needN_at (n : Int) (i : Nat) (h0 : 0 ≤ n) (hi : i < 4) (h : n ≤ capN i) (hj : ∀ j : Nat, j < i → capN j < n) : needN n = i := by
  unfold needN
  match i, hi with
  | 0, _ =>
    replace h : n ≤ 28 := h
    rw [if_neg (by omega), if_pos h]; rfl
  | 1, _ =>
    replace h : n ≤ 91 := h
    have h1 : 28 < n := hj 0 (by omega)
    rw [if_neg (by omega), if_neg (by omega), if_pos h]; rfl
  | 2, _ =>
    replace h : n ≤ 217 := h
    have h1 : 91 < n := hj 1 (by omega)
    rw [if_neg (by omega), if_neg (by omega), if_neg (by omega), if_pos h]; rfl
  | 3, _ =>
    replace h : n ≤ 469 := h
    have h1 : 217 < n := hj 2 (by omega)
    rw [if_neg (by omega), if_neg (by omega), if_neg (by omega), if_neg (by omega), if_pos h]; rfl
theorem needN_none (n : Int) (h : n < 0 ∨ 469 < n) : needN n = -1 := by
  unfold needN
  rcases h with h | h
  · rw [if_pos h]
  · rw [if_neg (by omega), if_neg (by omega), if_neg (by omega), if_neg (by omega), if_neg (by omega)]
theorem startsN_len {k : Int} (c : Int) (h : 0 ≤ k ∧ k ≤ 31) : (startsN k c).length = 8 / spanN c := by unfold startsN; rw [if_pos h]; simp
theorem startsN_at {k : Int} (c : Int) (h : 0 ≤ k ∧ k ≤ 31) (i : Nat) (hi : i < 8 / spanN c) : (startsN k c).getD i 0 = 2 + 8 * k + (i * spanN c : Nat) := by
  unfold startsN; rw [if_pos h]; simp [List.getD, List.getElem?_map, List.getElem?_range hi]
theorem startsN_le (k c : Int) : (startsN k c).length ≤ 8 := by
  unfold startsN; split
  · simp; rcases spanN_cases c with h | h | h | h | h <;> rw [h] <;> omega
  · simp
theorem startsN_no {k c : Int} (h : ¬ (0 ≤ k ∧ k ≤ 31)) : startsN k c = [] := by unfold startsN; rw [if_neg h]
theorem startsN_none {k c : Int} (h : spanN c = 0) : startsN k c = [] := by unfold startsN; split <;> simp [h]
/-- A line is a home: told by its distance from the head of its slab. -/
theorem homeN_no {x c : Int} (h : slabOfN x < 0 ∨ spanN c = 0) : homeN x c = false := by
  unfold homeN
  rcases h with h | h
  · rw [startsN_no (by omega)]; simp
  · rw [startsN_none h]; simp
theorem slabOfN_in {x : Int} (h : ¬ slabOfN x < 0) : 2 ≤ x ∧ x < 258 ∧ slabOfN x = (x - 2) / 8 := by
  unfold slabOfN at h ⊢
  split at h
  · rename_i h2
    rw [if_pos h2]; exact ⟨h2.1, h2.2, rfl⟩
  · omega
theorem homeN_yes {x c : Int} (h : ¬ slabOfN x < 0) (hs : ¬ spanN c = 0) : homeN x c = decide ((x - (2 + 8 * slabOfN x)) % (spanN c : Int) = 0) := by
  obtain ⟨h1, h2, h3⟩ := slabOfN_in h
  unfold homeN startsN
  rw [if_pos (by omega), Bool.eq_iff_iff, decide_eq_true_iff, decide_eq_true_iff, List.mem_map]
  generalize slabOfN x = k at *
  have hc := spanN_cases c
  generalize spanN c = s at *
  constructor
  · rintro ⟨i, hi, rfl⟩
    have : 2 + 8 * k + ((i * s : Nat) : Int) - (2 + 8 * k) = (i : Int) * (s : Int) := by push_cast; omega
    rw [this, Int.mul_emod_left]
  · intro hm
    refine ⟨((x - (2 + 8 * k)) / s).toNat, ?_, ?_⟩
    · rw [List.mem_range]
      rcases hc with rfl | rfl | rfl | rfl | rfl
      · omega
      all_goals omega
    · rcases hc with rfl | rfl | rfl | rfl | rfl
      · omega
      all_goals (push_cast at hm ⊢; omega)
set_option maxHeartbeats 400000 in
theorem span_any (c : Int) (w : World) : Calls Try.prog 29 #[.int .i64 c] w fun e w' => e = .returned (.int .i64 (spanN c)) ∧ w = w' := by
  have HN : Hid ((c < 0 ∨ 3 < c) → spanN c = 0) := spanN_none
  rcases Classical.em (c < 0 ∨ 3 < c) with h | h
  · have h0 : (c == 0) = false := by simp; omega
    have h1 : (c == 1) = false := by simp; omega
    have h2 : (c == 2) = false := by simp; omega
    have h3 : (c == 3) = false := by simp; omega
    have HS := Lib.hid (HN.out h)
    generalize spanN c = s at *
    clear h HN
    go_enter Try.func29, Try.ntmps29
    go_wp2
    go_ret
    exact ⟨int_eq (by rw [HS.out]; rfl), rfl⟩
  · have h4 : c = 0 ∨ c = 1 ∨ c = 2 ∨ c = 3 := by omega
    clear h HN
    rcases h4 with rfl | rfl | rfl | rfl
    all_goals
      go_enter Try.func29, Try.ntmps29
      go_wp2
      go_ret
      exact ⟨rfl, rfl⟩
set_option maxHeartbeats 400000 in
theorem rspan_any (c : Int) (w : World) : Calls Try.prog 38 #[.int .i64 c] w fun e w' => e = .returned (.int .i64 (spanN c)) ∧ w = w' := by
  have HN : Hid ((c < 0 ∨ 3 < c) → spanN c = 0) := spanN_none
  rcases Classical.em (c < 0 ∨ 3 < c) with h | h
  · have h0 : (c == 0) = false := by simp; omega
    have h1 : (c == 1) = false := by simp; omega
    have h2 : (c == 2) = false := by simp; omega
    have h3 : (c == 3) = false := by simp; omega
    have HS := Lib.hid (HN.out h)
    generalize spanN c = s at *
    clear h HN
    go_enter Try.func38, Try.ntmps38
    go_wp2
    go_ret
    exact ⟨int_eq (by rw [HS.out]; rfl), rfl⟩
  · have h4 : c = 0 ∨ c = 1 ∨ c = 2 ∨ c = 3 := by omega
    clear h HN
    rcases h4 with rfl | rfl | rfl | rfl
    all_goals
      go_enter Try.func38, Try.ntmps38
      go_wp2
      go_ret
      exact ⟨rfl, rfl⟩
set_option maxHeartbeats 800000 in
theorem home_any (x c : Int) (w : World) : Calls Try.prog 28 #[.int .i64 x, .int .i64 c] w fun e w' => e = .returned (.bool (homeN x c)) ∧ w = w' := by
  have H1 := Lib.hid (slabof_any x w)
  have H2 := Lib.hid (span_any c w)
  have H3 := Lib.hid (slab_any (slabOfN x) w)
  rcases Classical.em (slabOfN x < 0) with h | h
  · have HR := Lib.hid (homeN_no (x := x) (c := c) (.inl h))
    generalize homeN x c = r at *
    generalize slabOfN x = k at *
    generalize spanN c = s at *
    go_enter Try.func28, Try.ntmps28
    go_wp2_with fail
    refine H1.out.mono ?_
    rintro e w' ⟨rfl, rfl⟩
    go_wp2_with fail
    refine H2.out.mono ?_
    rintro e w' ⟨rfl, rfl⟩
    go_wp2
    go_ret
    exact ⟨bool_eq HR.out.symm, rfl⟩
  · rcases Classical.em (spanN c = 0) with h2 | h2
    · have HR := Lib.hid (homeN_no (x := x) (c := c) (.inr h2))
      have h3 : ((spanN c : Int) == 0) = true := by simp; omega
      generalize homeN x c = r at *
      generalize slabOfN x = k at *
      generalize spanN c = s at *
      clear h2
      go_enter Try.func28, Try.ntmps28
      go_wp2_with fail
      refine H1.out.mono ?_
      rintro e w' ⟨rfl, rfl⟩
      go_wp2_with fail
      refine H2.out.mono ?_
      rintro e w' ⟨rfl, rfl⟩
      go_wp2
      go_ret
      exact ⟨bool_eq HR.out.symm, rfl⟩
    · have HR := Lib.hid (homeN_yes (x := x) (c := c) h h2)
      obtain ⟨h5, h6, h7⟩ := slabOfN_in h
      have hsl : slabN (slabOfN x) = 2 + 8 * slabOfN x := by unfold slabN; rw [if_pos (by omega)]
      have hsc := spanN_cases c
      have h8 : 8 * slabOfN x ≤ x - 2 := by omega
      rw [hsl] at H3
      have h3 : ((spanN c : Int) == 0) = false := by simp; omega
      generalize homeN x c = r at *
      generalize slabOfN x = k at *
      generalize spanN c = s at *
      have h9 : 1 ≤ s := by omega
      have h10 : s ≤ 8 := by omega
      have h11 : k ≤ 31 := by omega
      have h12 : 0 ≤ k := by omega
      clear h2 hsl h7 hsc
      go_enter Try.func28, Try.ntmps28
      go_wp2_with fail
      refine H1.out.mono ?_
      rintro e w' ⟨rfl, rfl⟩
      go_wp2_with fail
      refine H2.out.mono ?_
      rintro e w' ⟨rfl, rfl⟩
      go_wp2_with fail
      refine H3.out.mono ?_
      rintro e w' ⟨rfl, rfl⟩
      go_wp2
      go_ret
      exact ⟨bool_eq (by rw [HR.out]; rfl), rfl⟩
end Go.Proofs.Ytjebpggoajfjkaa
