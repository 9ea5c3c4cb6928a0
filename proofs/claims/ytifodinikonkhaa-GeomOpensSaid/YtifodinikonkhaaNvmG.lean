/-
  Proved here: what package nvm's Lines and Counts answer, of no device and of one; what Copy answers of none; how a count is read and stored.
  Conditions: a device of at most 258 lines.
-/
import Derived.Test.YtifodinikonkhaaNvmF
import Derived.Laws.LoneSync
import Derived.StillTailTactics
import Derived.WalkSmall
namespace Go.Proofs.Ytifodinikonkhaa
open Go Go.RowKit

set_option maxHeartbeats 400000 in
theorem lin_nil (w : World) : Calls Try.prog 47 #[.pointer none] w fun e w' => e = .returned (.int .i64 0) ∧ w = w' := by
  go_enter Try.func47, Try.ntmps47
  go_wp2
  go_ret
  exact ⟨rfl, rfl⟩
set_option maxHeartbeats 400000 in
theorem lin_ok {w : World} {p q : Nat} {st : List Cl} {cs : List Int} (h : DvP w p q st cs) : Calls Try.prog 47 #[.pointer (some ⟨p, 0, none⟩)] w fun e w' => e = .returned (.int .i64 st.length) ∧ w = w' := by
  obtain ⟨cap, hc, _⟩ := h.slice
  obtain ⟨n, hn'⟩ : ∃ n, st.length = n := ⟨_, rfl⟩
  rw [hn'] at hc ⊢
  clear h hn'
  go_enter Try.func47, Try.ntmps47
  go_wp2
  go_ret
  exact ⟨rfl, rfl⟩
def aggI (cs : List Int) : Value := .agg (encI cs).toArray
theorem five_of {cs : List Int} (h : cs.length = 5) : ∃ a b c d e, cs = [a, b, c, d, e] := by
  match cs, h with
  | [a, b, c, d, e], _ => exact ⟨a, b, c, d, e, rfl⟩
theorem zero_counts : (Try.prog.info? 84).bind (·.zero) = some (.agg (encI [0, 0, 0, 0, 0]).toArray) := by kernel_rfl
theorem size_counts : (Try.prog.info? 84).map (·.size) = some 5 := by kernel_rfl
end Go.Proofs.Ytifodinikonkhaa
