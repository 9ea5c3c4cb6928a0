/-
  Proved here: where package geom says that slabs lie.
  Conditions: none.
-/
import Derived.Test.YtjebpggoajfjkaaOwn
import Derived.IntWalk
import Derived.WalkSmall
namespace Go.Proofs.Ytjebpggoajfjkaa
open Go Go.RowKit

/-! ### Slabs -/
def slabsN (x : Int) : Int := if x < 10 then 0 else (min x 258 - 2) / 8
def slabN (x : Int) : Int := if 0 ≤ x ∧ x ≤ 31 then 2 + 8 * x else -1
def slabOfN (x : Int) : Int := if 2 ≤ x ∧ x < 258 then (x - 2) / 8 else -1
set_option maxHeartbeats 400000 in
theorem slabs_any (x : Int) (hx : (Lit.int .i64 x).wf = true) (w : World) : Calls Try.prog 35 #[.int .i64 x] w fun e w' => e = .returned (.int .i64 (slabsN x)) ∧ w = w' := by
  have hb := bounds_i64 hx
  have H : Hid (slabsN x = if x < 10 then 0 else (min x 258 - 2) / 8) := rfl
  generalize slabsN x = r at *
  rcases Classical.em (x < 10) with h | h
  · go_enter Try.func35, Try.ntmps35
    go_wp2
    go_ret
    exact ⟨int_eq (by rw [H.out, if_pos h]), rfl⟩
  · rcases Classical.em (x ≤ 258) with h2 | h2
    · have hm : min x 258 = x := by omega
      go_enter Try.func35, Try.ntmps35
      go_wp2
      go_ret
      exact ⟨int_eq (by rw [H.out, if_neg (by omega), hm]), rfl⟩
    · have hm : min x 258 = 258 := by omega
      go_enter Try.func35, Try.ntmps35
      go_wp2
      go_ret
      exact ⟨int_eq (by rw [H.out, if_neg (by omega), hm]; rfl), rfl⟩
set_option maxHeartbeats 400000 in
theorem slab_any (x : Int) (w : World) : Calls Try.prog 51 #[.int .i64 x] w fun e w' => e = .returned (.int .i64 (slabN x)) ∧ w = w' := by
  have H : Hid (slabN x = if 0 ≤ x ∧ x ≤ 31 then 2 + 8 * x else -1) := rfl
  generalize slabN x = r at *
  rcases Classical.em (x < 0) with h | h
  · go_enter Try.func51, Try.ntmps51
    go_wp2
    go_ret
    exact ⟨int_eq (by rw [H.out, if_neg (by omega)]), rfl⟩
  · rcases Classical.em (32 ≤ x) with h2 | h2
    · go_enter Try.func51, Try.ntmps51
      go_wp2
      go_ret
      exact ⟨int_eq (by rw [H.out, if_neg (by omega)]), rfl⟩
    · go_enter Try.func51, Try.ntmps51
      go_wp2
      go_ret
      exact ⟨int_eq (by rw [H.out, if_pos (by omega)]; omega), rfl⟩
set_option maxHeartbeats 400000 in
theorem slabof_any (x : Int) (w : World) : Calls Try.prog 27 #[.int .i64 x] w fun e w' => e = .returned (.int .i64 (slabOfN x)) ∧ w = w' := by
  have H : Hid (slabOfN x = if 2 ≤ x ∧ x < 258 then (x - 2) / 8 else -1) := rfl
  generalize slabOfN x = r at *
  rcases Classical.em (x < 2) with h | h
  · go_enter Try.func27, Try.ntmps27
    go_wp2
    go_ret
    exact ⟨int_eq (by rw [H.out, if_neg (by omega)]), rfl⟩
  · rcases Classical.em (258 ≤ x) with h2 | h2
    · go_enter Try.func27, Try.ntmps27
      go_wp2
      go_ret
      exact ⟨int_eq (by rw [H.out, if_neg (by omega)]), rfl⟩
    · go_enter Try.func27, Try.ntmps27
      go_wp2
      go_ret
      exact ⟨int_eq (by rw [H.out, if_pos (by omega)]), rfl⟩

end Go.Proofs.Ytjebpggoajfjkaa
