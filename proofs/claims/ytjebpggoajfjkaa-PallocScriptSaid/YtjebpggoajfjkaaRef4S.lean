/-
  Proved here: what chapter 4's own Slabs, Slab and SlabOf answer.
  Conditions: none.
-/
import Derived.Test.YtjebpggoajfjkaaGeomS
namespace Go.Proofs.Ytjebpggoajfjkaa
open Go Go.RowKit

set_option maxHeartbeats 400000 in
theorem rslab_any (x : Int) (w : World) : Calls Try.prog 53 #[.int .i64 x] w fun e w' => e = .returned (.int .i64 (slabN x)) ∧ w = w' := by
  have H : Hid (slabN x = if 0 ≤ x ∧ x ≤ 31 then 2 + 8 * x else -1) := rfl
  generalize slabN x = r at *
  rcases Classical.em (x < 0) with h | h
  · go_enter Try.func53, Try.ntmps53
    go_wp2
    go_ret
    exact ⟨int_eq (by rw [H.out, if_neg (by omega)]), rfl⟩
  · rcases Classical.em (31 < x) with h2 | h2
    · go_enter Try.func53, Try.ntmps53
      go_wp2
      go_ret
      exact ⟨int_eq (by rw [H.out, if_neg (by omega)]), rfl⟩
    · go_enter Try.func53, Try.ntmps53
      go_wp2
      go_ret
      exact ⟨int_eq (by rw [H.out, if_pos (by omega)]), rfl⟩
set_option maxHeartbeats 400000 in
theorem rslabof_any (x : Int) (w : World) : Calls Try.prog 43 #[.int .i64 x] w fun e w' => e = .returned (.int .i64 (slabOfN x)) ∧ w = w' := by
  have H : Hid (slabOfN x = if 2 ≤ x ∧ x < 258 then (x - 2) / 8 else -1) := rfl
  generalize slabOfN x = r at *
  rcases Classical.em (x < 2) with h | h
  · go_enter Try.func43, Try.ntmps43
    go_wp2
    go_ret
    exact ⟨int_eq (by rw [H.out, if_neg (by omega)]), rfl⟩
  · rcases Classical.em (258 ≤ x) with h2 | h2
    · go_enter Try.func43, Try.ntmps43
      go_wp2
      go_ret
      exact ⟨int_eq (by rw [H.out, if_neg (by omega)]), rfl⟩
    · go_enter Try.func43, Try.ntmps43
      go_wp2
      go_ret
      exact ⟨int_eq (by rw [H.out, if_pos (by omega)]), rfl⟩
end Go.Proofs.Ytjebpggoajfjkaa
