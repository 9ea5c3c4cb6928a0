/-
  Proved here: what the functions of package sum answer, for each row of bytes.
  Conditions: rows and texts of at most 2^30 bytes.
-/
import Derived.Test.YtejljkpnhdnncaaBytes
import Derived.Test.YtejljkpnhdnncaaSumMath
namespace Go.Proofs.Ytejljkpnhdnncaa
open Go.RowKit
set_option maxRecDepth 100000

theorem xor_pol (c : Nat) (hc : c < 4294967296) : bits .xor .u32 ((c : Int) / 2) 3988292384 = ((c / 2 ^^^ 3988292384 : Nat) : Int) := by
  have h := u32_xor_nat (c / 2) 3988292384 (by omega) (by omega)
  simpa using h
theorem hv_even {c : Nat} (h : ((c : Int) % 2 == 0) = true) : (c : Int) / 2 = (hv c : Nat) := by
  have : c % 2 = 0 := by simp at h; omega
  rw [hv, if_pos this]; omega
theorem hv_odd {c : Nat} (hc : c < 4294967296) (h : ((c : Int) % 2 == 0) = false) : bits .xor .u32 ((c : Int) / 2) 3988292384 = (hv c : Nat) := by
  have : ¬ c % 2 = 0 := by simp at h; omega
  rw [hv, if_neg this, xor_pol c hc]

theorem xor_nt (c : Nat) (hc : c < 4294967296) : bits .xor .u32 IntKind.u32.max (c : Int) = (nt c : Nat) := by
  rw [show IntKind.u32.max = (4294967295 : Int) from rfl]
  have h := u32_xor_nat 4294967295 c (by omega) hc
  rw [nt_def]
  simpa using h

end Go.Proofs.Ytejljkpnhdnncaa
