/-
  Proved here: what package place and the chapter's own functions answer, by the checksum of a key; what the law's example answers.
  Conditions: keys of at most 2^30 bytes.
-/
import Derived.Test.YtejljkpnhdnncaaBytes
import Derived.Test.YtejljkpnhdnncaaSumText
import Derived.Test.YtejljkpnhdnncaaRef1
import Derived.Deep.QuietTactic
import Derived.BigQuiet
import Derived.IntWalk
import Derived.WalkSmall
namespace Go.Proofs.Ytejljkpnhdnncaa
open Go Go.RowKit
set_option maxRecDepth 100000

/-- The level of a key by its checksum. -/
def lvl (c : Nat) : Nat := if c < 2147483648 then 1 else if c < 3221225472 then 2 else if c < 3758096384 then 3 else 4
theorem lvl_one {c : Nat} (h : c < 2147483648) : lvl c = 1 := by unfold lvl; rw [if_pos h]
theorem lvl_two {c : Nat} (h : ¬ c < 2147483648) (h2 : c < 3221225472) : lvl c = 2 := by unfold lvl; rw [if_neg h, if_pos h2]
theorem lvl_three {c : Nat} (h : ¬ c < 3221225472) (h2 : c < 3758096384) : lvl c = 3 := by unfold lvl; rw [if_neg (by omega), if_neg h, if_pos h2]
theorem lvl_four {c : Nat} (h : ¬ c < 3758096384) : lvl c = 4 := by unfold lvl; rw [if_neg (by omega), if_neg (by omega), if_neg h]
theorem lvl_bounds (c : Nat) : 1 ≤ lvl c ∧ lvl c ≤ 4 := by
  rcases Nat.lt_or_ge c 2147483648 with h | h
  · rw [lvl_one h]; omega
  rcases Nat.lt_or_ge c 3221225472 with h2 | h2
  · rw [lvl_two (by omega) h2]; omega
  rcases Nat.lt_or_ge c 3758096384 with h3 | h3
  · rw [lvl_three (by omega) h3]; omega
  · rw [lvl_four (by omega)]; omega

theorem high (c : Nat) (hc : c < 4294967296) : (bits .and .u32 (c : Int) 2147483648 == 0) = decide (c < 2147483648) := by
  have h := u32_and_nat c 2147483648 hc (by omega)
  rw [show (2147483648 : Int) = ((2147483648 : Nat) : Int) from rfl, h]
  rcases Nat.lt_or_ge c 2147483648 with hl | hg
  · have h0 : c &&& 2147483648 = 0 := by
      apply Nat.eq_of_testBit_eq
      intro i
      rw [Nat.testBit_and, show (2147483648 : Nat) = 2 ^ 31 from rfl, Nat.testBit_two_pow]
      rcases Nat.lt_or_ge i 31 with hi | hi
      · rw [show decide (31 = i) = false from by simp; omega]
        rw [Bool.and_false, Nat.zero_testBit]
      · rw [Nat.testBit_lt_two_pow (Nat.lt_of_lt_of_le (show c < 2 ^ 31 from hl) (Nat.pow_le_pow_right (by omega) hi))]; simp
    rw [h0]; simp [hl]
  · have h1 : (c &&& 2147483648).testBit 31 = true := by
      rw [Nat.testBit_and, show (2147483648 : Nat) = 2 ^ 31 from rfl, Nat.testBit_two_pow, Nat.testBit_eq_decide_div_mod_eq]
      have : c / 2 ^ 31 = 1 := by omega
      simp [this]
    have h2 : c &&& 2147483648 ≠ 0 := by
      intro e
      rw [e, Nat.zero_testBit] at h1
      cases h1
    have h3 : (((c &&& 2147483648 : Nat) : Int) == 0) = false := by simp; exact h2
    rw [h3]; simp; exact hg


theorem high_at (c k : Nat) : (bits .and .u32 ((c : Int) * 2 ^ k % 4294967296) 2147483648 == 0) = decide (c * 2 ^ k % 4294967296 < 2147483648) := by
  have h := high (c * 2 ^ k % 4294967296) (Nat.mod_lt _ (by omega))
  rw [← h]
  simp

/-- What a checksum is at least that begins with k ones. -/
def lo (k : Nat) : Nat := 4294967296 - 2 ^ (32 - k)
theorem lvl_at {c k : Nat} (hk : k < 3) (hc : c < 4294967296) (h : lo k ≤ c) (h2 : c * 2 ^ k % 4294967296 < 2147483648) : lvl c = k + 1 := by
  unfold lo at h
  obtain rfl | rfl | rfl : k = 0 ∨ k = 1 ∨ k = 2 := by omega
  · exact lvl_one (by omega)
  · exact lvl_two (by omega) (by omega)
  · exact lvl_three (by omega) (by omega)
theorem lo_next {c k : Nat} (hk : k < 3) (hc : c < 4294967296) (h : lo k ≤ c) (h2 : ¬ c * 2 ^ k % 4294967296 < 2147483648) : lo (k + 1) ≤ c := by
  unfold lo at h ⊢
  obtain rfl | rfl | rfl : k = 0 ∨ k = 1 ∨ k = 2 := by omega
  all_goals omega
theorem nine_lvl : lvl 3421780262 = 3 := by decide +kernel
theorem none_sum : addS 0 [] = 0 := by decide +kernel

end Go.Proofs.Ytejljkpnhdnncaa
