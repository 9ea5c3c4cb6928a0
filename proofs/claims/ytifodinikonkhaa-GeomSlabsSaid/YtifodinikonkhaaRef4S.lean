/-
  Proved here: what chapter 4's own Slabs, Slab and SlabOf answer.
  Conditions: none.
-/
import Derived.Test.YtifodinikonkhaaGeomD
namespace Go.Proofs.Ytifodinikonkhaa
open Go Go.RowKit

set_option maxHeartbeats 400000 in
theorem rslab_any (x : Int) (w : World) : Calls Try.prog 25 #[.int .i64 x] w fun e w' => e = .returned (.int .i64 (slabN x)) ∧ w = w' := by
  have H : Hid (slabN x = if 0 ≤ x ∧ x ≤ 31 then 2 + 8 * x else -1) := rfl
  generalize slabN x = r at *
  rcases Classical.em (x < 0) with h | h
  · go_enter Try.func25, Try.ntmps25
    go_wp2
    go_ret
    exact ⟨int_eq (by rw [H.out, if_neg (by omega)]), rfl⟩
  · rcases Classical.em (31 < x) with h2 | h2
    · go_enter Try.func25, Try.ntmps25
      go_wp2
      go_ret
      exact ⟨int_eq (by rw [H.out, if_neg (by omega)]), rfl⟩
    · go_enter Try.func25, Try.ntmps25
      go_wp2
      go_ret
      exact ⟨int_eq (by rw [H.out, if_pos (by omega)]), rfl⟩
set_option maxHeartbeats 400000 in
theorem rslabof_any (x : Int) (w : World) : Calls Try.prog 27 #[.int .i64 x] w fun e w' => e = .returned (.int .i64 (slabOfN x)) ∧ w = w' := by
  have H : Hid (slabOfN x = if 2 ≤ x ∧ x < 258 then (x - 2) / 8 else -1) := rfl
  generalize slabOfN x = r at *
  rcases Classical.em (x < 2) with h | h
  · go_enter Try.func27, Try.ntmps27
    go_wp2
    go_ret
    exact ⟨int_eq (by rw [H.out, if_neg (by omega)]), rfl⟩
  · rcases Classical.em (258 ≤ x) with h2 | h2
    · go_enter Try.func27, Try.ntmps27
      go_wp2
      go_ret
      exact ⟨int_eq (by rw [H.out, if_neg (by omega)]), rfl⟩
    · go_enter Try.func27, Try.ntmps27
      go_wp2
      go_ret
      exact ⟨int_eq (by rw [H.out, if_pos (by omega)]), rfl⟩
set_option maxHeartbeats 400000 in
theorem rslabs_any (x : Int) (w : World) : Calls Try.prog 23 #[.int .i64 x] w fun e w' => e = .returned (.int .i64 (slabsN x)) ∧ w = w' := by
  have H : Hid (slabsN x = if x < 10 then 0 else (min x 258 - 2) / 8) := rfl
  have hR0 : 0 ≤ slabsN x := by rw [H.out]; split <;> omega
  have hR1 : slabsN x ≤ 32 := by rw [H.out]; split <;> omega
  have HI : Hid (∀ i : Nat, (i : Int) < slabsN x → i < 32 ∧ 2 + 8 * ((i : Int) + 1) ≤ x) := by
    intro i hi
    rw [H.out] at hi
    split at hi <;> omega
  have HO : Hid (¬ slabsN x < 32 ∨ ¬ 2 + 8 * (slabsN x + 1) ≤ x) := by
    show _ ∨ _
    rw [H.out]
    split <;> omega
  clear H
  obtain ⟨N, hN⟩ : ∃ N : Nat, slabsN x = (N : Int) := ⟨(slabsN x).toNat, by omega⟩
  rw [hN] at hR0 hR1 HI HO ⊢
  clear hN
  go_enter Try.func23, Try.ntmps23
  go_wp2
  go_loopg [3] N (fun gk s3 wx => ∃ i : Nat, i + gk = N ∧ s3 = .int .i64 i ∧ w = wx)
  case atStart => exact ⟨0, by omega, rfl, rfl⟩
  case round =>
    obtain ⟨i, hig, rfl, rfl⟩ := hrel
    cases gk with
    | zero =>
      obtain rfl : i = N := by omega
      rcases Classical.em ((i : Int) < 32) with h | h
      · have h2 : ¬ 2 + 8 * ((i : Int) + 1) ≤ x := by rcases HO.out with h' | h' <;> omega
        go_wp2
        go_ret
        exact ⟨rfl, rfl⟩
      · go_wp2
        go_ret
        exact ⟨rfl, rfl⟩
    | succ gk =>
      obtain ⟨h, h2⟩ := HI.out i (by omega)
      have h' : (i : Int) < 32 := by omega
      go_wp2
      go_roundg gk
      case measure => omega
      case rel => exact ⟨i + 1, by omega, by go_num, rfl⟩

end Go.Proofs.Ytifodinikonkhaa
