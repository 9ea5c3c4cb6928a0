/-
  Proved here: how large classes are, which one is needed, where blocks begin; what Span, Cap, Need, Home of package class answer, and chapter 5's own Span, Cap, Need.
  Conditions: none.
-/
import Derived.Test.YtokobelmoanneaaGeomS
import Derived.Test.YtokobelmoanneaaRef4S
import Derived.Deep.QuietTactic
import Derived.BigQuiet
namespace Go.Proofs.Ytokobelmoanneaa
open Go Go.RowKit

def spanN (c : Int) : Nat := if c = 0 then 1 else if c = 1 then 2 else if c = 2 then 4 else if c = 3 then 8 else 0
def capN (c : Int) : Int := if c = 0 then 28 else if c = 1 then 91 else if c = 2 then 217 else if c = 3 then 469 else 0
def needN (n : Int) : Int := if n < 0 then -1 else if n ≤ 28 then 0 else if n ≤ 91 then 1 else if n ≤ 217 then 2 else if n ≤ 469 then 3 else -1
/-- Where blocks of class c begin in slab k. -/
def startsN (k c : Int) : List Int := if 0 ≤ k ∧ k ≤ 31 then (List.range (8 / spanN c)).map fun i : Nat => 2 + 8 * k + (i * spanN c : Nat) else []
def homeN (x c : Int) : Bool := decide (x ∈ startsN (slabOfN x) c)
theorem spanN_none {c : Int} (h : c < 0 ∨ 3 < c) : spanN c = 0 := by unfold spanN; (repeat' rw [if_neg (by omega)])
theorem spanN_some {c : Int} (h : ¬ (c < 0 ∨ 3 < c)) : spanN c = 1 ∨ spanN c = 2 ∨ spanN c = 4 ∨ spanN c = 8 := by unfold spanN; (repeat' split) <;> omega
theorem spanN_cases (c : Int) : spanN c = 0 ∨ spanN c = 1 ∨ spanN c = 2 ∨ spanN c = 4 ∨ spanN c = 8 := by unfold spanN; (repeat' split) <;> omega
theorem capN_span (c : Int) : capN c = if spanN c = 0 then 0 else 28 + ((spanN c : Int) - 1) * 63 := by
  unfold capN spanN; (repeat' split) <;> simp_all
theorem needN_at (n : Int) (i : Nat) (h0 : 0 ≤ n) (hi : i < 4) (h : n ≤ capN i) (hj : ∀ j : Nat, j < i → capN j < n) : needN n = i := by
  unfold needN
  match i, hi with
  | 0, _ =>
    replace h : n ≤ 28 := h
    rw [if_neg (by omega), if_pos h]; rfl
  | 1, _ =>
    replace h : n ≤ 91 := h
    have h1 : 28 < n := hj 0 (by omega)
    rw [if_neg (by omega), if_neg (by omega), if_pos h]; rfl
  | 2, _ =>
    replace h : n ≤ 217 := h
    have h1 : 91 < n := hj 1 (by omega)
    rw [if_neg (by omega), if_neg (by omega), if_neg (by omega), if_pos h]; rfl
  | 3, _ =>
    replace h : n ≤ 469 := h
    have h1 : 217 < n := hj 2 (by omega)
    rw [if_neg (by omega), if_neg (by omega), if_neg (by omega), if_neg (by omega), if_pos h]; rfl
theorem needN_none (n : Int) (h : n < 0 ∨ 469 < n) : needN n = -1 := by
  unfold needN
  rcases h with h | h
  · rw [if_pos h]
  · rw [if_neg (by omega), if_neg (by omega), if_neg (by omega), if_neg (by omega), if_neg (by omega)]
theorem startsN_len {k : Int} (c : Int) (h : 0 ≤ k ∧ k ≤ 31) : (startsN k c).length = 8 / spanN c := by unfold startsN; rw [if_pos h]; simp
theorem startsN_at {k : Int} (c : Int) (h : 0 ≤ k ∧ k ≤ 31) (i : Nat) (hi : i < 8 / spanN c) : (startsN k c).getD i 0 = 2 + 8 * k + (i * spanN c : Nat) := by
  unfold startsN; rw [if_pos h]; simp [List.getD, List.getElem?_map, List.getElem?_range hi]
theorem startsN_le (k c : Int) : (startsN k c).length ≤ 8 := by
  unfold startsN; split
  · simp; rcases spanN_cases c with h | h | h | h | h <;> rw [h] <;> omega
  · simp
theorem startsN_no {k c : Int} (h : ¬ (0 ≤ k ∧ k ≤ 31)) : startsN k c = [] := by unfold startsN; rw [if_neg h]
theorem startsN_none {k c : Int} (h : spanN c = 0) : startsN k c = [] := by unfold startsN; split <;> simp [h]
/-- A line is a home: told by its distance from the head of its slab. -/
theorem homeN_no {x c : Int} (h : slabOfN x < 0 ∨ spanN c = 0) : homeN x c = false := by
  unfold homeN
  rcases h with h | h
  · rw [startsN_no (by omega)]; simp
  · rw [startsN_none h]; simp
theorem slabOfN_in {x : Int} (h : ¬ slabOfN x < 0) : 2 ≤ x ∧ x < 258 ∧ slabOfN x = (x - 2) / 8 := by
  unfold slabOfN at h ⊢
  split at h
  · rename_i h2
    rw [if_pos h2]; exact ⟨h2.1, h2.2, rfl⟩
  · omega
theorem homeN_yes {x c : Int} (h : ¬ slabOfN x < 0) (hs : ¬ spanN c = 0) : homeN x c = decide ((x - (2 + 8 * slabOfN x)) % (spanN c : Int) = 0) := by
  obtain ⟨h1, h2, h3⟩ := slabOfN_in h
  unfold homeN startsN
  rw [if_pos (by omega), Bool.eq_iff_iff, decide_eq_true_iff, decide_eq_true_iff, List.mem_map]
  generalize slabOfN x = k at *
  have hc := spanN_cases c
  generalize spanN c = s at *
  constructor
  · rintro ⟨i, hi, rfl⟩
    have : 2 + 8 * k + ((i * s : Nat) : Int) - (2 + 8 * k) = (i : Int) * (s : Int) := by push_cast; omega
    rw [this, Int.mul_emod_left]
  · intro hm
    refine ⟨((x - (2 + 8 * k)) / s).toNat, ?_, ?_⟩
    · rw [List.mem_range]
      rcases hc with rfl | rfl | rfl | rfl | rfl
      · omega
      all_goals omega
    · rcases hc with rfl | rfl | rfl | rfl | rfl
      · omega
      all_goals (push_cast at hm ⊢; omega)
set_option maxHeartbeats 400000 in
theorem span_any (c : Int) (w : World) : Calls Try.prog 43 #[.int .i64 c] w fun e w' => e = .returned (.int .i64 (spanN c)) ∧ w = w' := by
  have HN : Hid ((c < 0 ∨ 3 < c) → spanN c = 0) := spanN_none
  rcases Classical.em (c < 0 ∨ 3 < c) with h | h
  · have h0 : (c == 0) = false := by simp; omega
    have h1 : (c == 1) = false := by simp; omega
    have h2 : (c == 2) = false := by simp; omega
    have h3 : (c == 3) = false := by simp; omega
    have HS := Lib.hid (HN.out h)
    generalize spanN c = s at *
    clear h HN
    go_enter Try.func43, Try.ntmps43
    go_wp2
    go_ret
    exact ⟨int_eq (by rw [HS.out]; rfl), rfl⟩
  · have h4 : c = 0 ∨ c = 1 ∨ c = 2 ∨ c = 3 := by omega
    clear h HN
    rcases h4 with rfl | rfl | rfl | rfl
    all_goals
      go_enter Try.func43, Try.ntmps43
      go_wp2
      go_ret
      exact ⟨rfl, rfl⟩
set_option maxHeartbeats 400000 in
theorem rspan_any (c : Int) (w : World) : Calls Try.prog 39 #[.int .i64 c] w fun e w' => e = .returned (.int .i64 (spanN c)) ∧ w = w' := by
  have HN : Hid ((c < 0 ∨ 3 < c) → spanN c = 0) := spanN_none
  rcases Classical.em (c < 0 ∨ 3 < c) with h | h
  · have h0 : (c == 0) = false := by simp; omega
    have h1 : (c == 1) = false := by simp; omega
    have h2 : (c == 2) = false := by simp; omega
    have h3 : (c == 3) = false := by simp; omega
    have HS := Lib.hid (HN.out h)
    generalize spanN c = s at *
    clear h HN
    go_enter Try.func39, Try.ntmps39
    go_wp2
    go_ret
    exact ⟨int_eq (by rw [HS.out]; rfl), rfl⟩
  · have h4 : c = 0 ∨ c = 1 ∨ c = 2 ∨ c = 3 := by omega
    clear h HN
    rcases h4 with rfl | rfl | rfl | rfl
    all_goals
      go_enter Try.func39, Try.ntmps39
      go_wp2
      go_ret
      exact ⟨rfl, rfl⟩
set_option maxHeartbeats 400000 in
theorem cap_any (c : Int) (w : World) : Calls Try.prog 47 #[.int .i64 c] w fun e w' => e = .returned (.int .i64 (capN c)) ∧ w = w' := by
  have HC := Lib.hid (capN_span c)
  have HS := Lib.hid (span_any c w)
  have hs := spanN_cases c
  generalize capN c = r at *
  generalize spanN c = s at *
  have hs8 : s ≤ 8 := by omega
  rcases Classical.em (s = 0) with h | h
  · have h0 : ((s : Int) == 0) = true := by simp; omega
    have HR : Hid (r = 0) := by have := HC.out; rw [if_pos h] at this; exact this
    clear h HC hs
    go_enter Try.func47, Try.ntmps47
    go_wp2_with fail
    refine HS.out.mono ?_
    rintro e w' ⟨rfl, rfl⟩
    go_wp2
    go_ret
    exact ⟨int_eq HR.out.symm, rfl⟩
  · have h0 : ((s : Int) == 0) = false := by simp; omega
    have HR : Hid (r = 28 + ((s : Int) - 1) * 63) := by have := HC.out; rw [if_neg h] at this; exact this
    have h1 : 1 ≤ s := by omega
    clear h HC hs
    go_enter Try.func47, Try.ntmps47
    go_wp2_with fail
    refine HS.out.mono ?_
    rintro e w' ⟨rfl, rfl⟩
    go_wp2
    go_ret
    exact ⟨int_eq (by have := HR.out; omega), rfl⟩
set_option maxHeartbeats 400000 in
theorem rcap_any (c : Int) (w : World) : Calls Try.prog 46 #[.int .i64 c] w fun e w' => e = .returned (.int .i64 (capN c)) ∧ w = w' := by
  have HC := Lib.hid (capN_span c)
  have HS := Lib.hid (rspan_any c w)
  have hs := spanN_cases c
  generalize capN c = r at *
  generalize spanN c = s at *
  have hs8 : s ≤ 8 := by omega
  rcases Classical.em (s = 0) with h | h
  · have h0 : ((s : Int) == 0) = true := by simp; omega
    have HR : Hid (r = 0) := by have := HC.out; rw [if_pos h] at this; exact this
    clear h HC hs
    go_enter Try.func46, Try.ntmps46
    go_wp2_with fail
    refine HS.out.mono ?_
    rintro e w' ⟨rfl, rfl⟩
    go_wp2
    go_ret
    exact ⟨int_eq HR.out.symm, rfl⟩
  · have h0 : ((s : Int) == 0) = false := by simp; omega
    have HR : Hid (r = 28 + ((s : Int) - 1) * 63) := by have := HC.out; rw [if_neg h] at this; exact this
    have h1 : 1 ≤ s := by omega
    clear h HC hs
    go_enter Try.func46, Try.ntmps46
    go_wp2_with fail
    refine HS.out.mono ?_
    rintro e w' ⟨rfl, rfl⟩
    go_wp2
    go_ret
    exact ⟨int_eq (by have := HR.out; omega), rfl⟩

set_option maxHeartbeats 800000 in
theorem need_any (n : Int) (w : World) : Calls Try.prog 45 #[.int .i64 n] w fun e w' => e = .returned (.int .i64 (needN n)) ∧ w = w' := by
  rcases Classical.em (n < 0) with h | h
  · have HR := Lib.hid (needN_none n (.inl h))
    generalize needN n = r at *
    go_enter Try.func45, Try.ntmps45
    go_wp2
    go_ret
    exact ⟨int_eq HR.out.symm, rfl⟩
  · have HC := Lib.hid (fun c => cap_any c w)
    have HY := Lib.hid (fun i hi h2 hj => needN_at n i (by omega) hi h2 hj)
    have HN := Lib.hid (needN_none n)
    have h0 : 0 ≤ n := by omega
    generalize needN n = r at *
    go_enter Try.func45, Try.ntmps45
    go_wp2
    go_loopg [6] 4 (fun gk s6 wx => ∃ i : Nat, i + gk = 4 ∧ s6 = .int .i64 i ∧ w = wx ∧ Hid (∀ j : Nat, j < i → capN j < n))
    case atStart => exact ⟨0, by omega, rfl, rfl, fun j hj => by omega⟩
    case round =>
      obtain ⟨i, hig, rfl, rfl, HJ⟩ := hrel
      cases gk with
      | zero =>
        have hi : ¬ (i : Int) < 4 := by omega
        go_wp2
        go_ret
        exact ⟨int_eq (HN.out (.inr (HJ.out 3 (by omega)))).symm, rfl⟩
      | succ gk =>
        have hi : (i : Int) < 4 := by omega
        have HK := Lib.hid (HC.out i)
        obtain ⟨q, hq⟩ : ∃ q, capN i = q := ⟨_, rfl⟩
        rw [hq] at HK
        have HQ := Lib.hid hq
        clear hq
        rcases Classical.em (n ≤ q) with h2 | h2
        · go_wp2_with fail
          refine HK.out.mono ?_
          rintro e w' ⟨rfl, rfl⟩
          go_wp2
          go_ret
          exact ⟨int_eq (HY.out i (by omega) (by rw [HQ.out]; exact h2) HJ.out).symm, rfl⟩
        · go_wp2_with fail
          refine HK.out.mono ?_
          rintro e w' ⟨rfl, rfl⟩
          go_wp2
          go_roundg gk
          case measure => omega
          case rel =>
            refine ⟨i + 1, by omega, by go_num, rfl, fun j hj => ?_⟩
            rcases Nat.lt_or_ge j i with h3 | h3
            · exact HJ.out j h3
            · obtain rfl : j = i := by omega
              rw [HQ.out]; omega
set_option maxHeartbeats 800000 in
theorem rneed_any (n : Int) (w : World) : Calls Try.prog 32 #[.int .i64 n] w fun e w' => e = .returned (.int .i64 (needN n)) ∧ w = w' := by
  rcases Classical.em (n < 0) with h | h
  · have hd : decide (0 ≤ n) = false := by simp; omega
    have HR := Lib.hid (needN_none n (.inl h))
    generalize needN n = r at *
    go_enter Try.func32, Try.ntmps32
    go_wp2
    go_loopg [3] 4 (fun gk s3 wx => ∃ i : Nat, i + gk = 4 ∧ s3 = .int .i64 i ∧ w = wx)
    case atStart => exact ⟨0, by omega, rfl, rfl⟩
    case round =>
      obtain ⟨i, hig, rfl, rfl⟩ := hrel
      cases gk with
      | zero =>
        have hi : ¬ (i : Int) < 4 := by omega
        go_wp2
        go_ret
        exact ⟨int_eq HR.out.symm, rfl⟩
      | succ gk =>
        have hi : (i : Int) < 4 := by omega
        go_wp2
        go_roundg gk
        case measure => omega
        case rel => exact ⟨i + 1, by omega, by go_num, rfl⟩
  · have HC := Lib.hid (fun c => rcap_any c w)
    have HY := Lib.hid (fun i hi h2 hj => needN_at n i (by omega) hi h2 hj)
    have HN := Lib.hid (needN_none n)
    have h0 : 0 ≤ n := by omega
    generalize needN n = r at *
    have hd : decide (0 ≤ n) = true := by simp; omega
    go_enter Try.func32, Try.ntmps32
    go_wp2
    go_loopg [3] 4 (fun gk s3 wx => ∃ i : Nat, i + gk = 4 ∧ s3 = .int .i64 i ∧ w = wx ∧ Hid (∀ j : Nat, j < i → capN j < n))
    case atStart => exact ⟨0, by omega, rfl, rfl, fun j hj => by omega⟩
    case round =>
      obtain ⟨i, hig, rfl, rfl, HJ⟩ := hrel
      cases gk with
      | zero =>
        have hi : ¬ (i : Int) < 4 := by omega
        go_wp2
        go_ret
        exact ⟨int_eq (HN.out (.inr (HJ.out 3 (by omega)))).symm, rfl⟩
      | succ gk =>
        have hi : (i : Int) < 4 := by omega
        have HK := Lib.hid (HC.out i)
        obtain ⟨q, hq⟩ : ∃ q, capN i = q := ⟨_, rfl⟩
        rw [hq] at HK
        have HQ := Lib.hid hq
        clear hq
        rcases Classical.em (n ≤ q) with h2 | h2
        · go_wp2_with fail
          refine HK.out.mono ?_
          rintro e w' ⟨rfl, rfl⟩
          go_wp2
          go_ret
          exact ⟨int_eq (HY.out i (by omega) (by rw [HQ.out]; exact h2) HJ.out).symm, rfl⟩
        · go_wp2_with fail
          refine HK.out.mono ?_
          rintro e w' ⟨rfl, rfl⟩
          go_wp2
          go_roundg gk
          case measure => omega
          case rel =>
            refine ⟨i + 1, by omega, by go_num, rfl, fun j hj => ?_⟩
            rcases Nat.lt_or_ge j i with h3 | h3
            · exact HJ.out j h3
            · obtain rfl : j = i := by omega
              rw [HQ.out]; omega

end Go.Proofs.Ytokobelmoanneaa
