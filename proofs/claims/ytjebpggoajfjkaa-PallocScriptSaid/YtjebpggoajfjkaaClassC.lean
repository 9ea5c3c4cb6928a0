/-
  Proved here: what chapter 5's own Home answers.
  Conditions: none.
-/
import Derived.Test.YtjebpggoajfjkaaClassB
namespace Go.Proofs.Ytjebpggoajfjkaa
open Go Go.RowKit

set_option maxHeartbeats 800000 in
theorem rhome_any (x c : Int) (w : World) : Calls Try.prog 44 #[.int .i64 x, .int .i64 c] w fun e w' => e = .returned (.bool (homeN x c)) ∧ Below w.heap.size w w' := by
  have H1 := Lib.hid (rslabof_any x w)
  have H2 := Lib.hid (rstarts_any (slabOfN x) c w)
  have HR : Hid (homeN x c = decide (x ∈ startsN (slabOfN x) c)) := rfl
  have hle := startsN_le (slabOfN x) c
  generalize homeN x c = r at *
  unfold StartsAt at H2
  generalize startsN (slabOfN x) c = l at *
  generalize slabOfN x = k at *
  go_enter Try.func44, Try.ntmps44
  go_wp2_with fail
  refine H1.out.mono ?_
  rintro e w' ⟨rfl, rfl⟩
  go_wp2_with fail
  refine H2.out.mono ?_
  rintro e w1 ⟨v, rfl, hown, hb⟩
  obtain ⟨A, cap, rfl, hrow, _, _⟩ := rowI_of_own hown (by omega)
  have HROW := Lib.hid hrow
  have HB := Lib.hid hb
  obtain ⟨n, hn⟩ : ∃ n, l.length = n := ⟨_, rfl⟩
  rw [hn] at hle ⊢
  have HN := Lib.hid hn
  clear hown hrow hb hn
  go_wp2
  go_loopg [6] n (fun gk s6 wx => ∃ i : Nat, i + gk = n ∧ s6 = .int .i64 i ∧ w1 = wx ∧ Hid (∀ j, j < i → l.getD j 0 ≠ x))
  case atStart => exact ⟨0, by omega, rfl, rfl, fun j hj => by omega⟩
  case round =>
    obtain ⟨i, hin, rfl, rfl, HV⟩ := hrel
    cases gk with
    | zero =>
      obtain rfl : i = n := by omega
      have hii : ¬ (i : Int) < (i : Int) := by omega
      go_wp2
      go_ret
      refine ⟨bool_eq ?_, HB.out⟩
      rw [HR.out, eq_comm, decide_eq_false_iff_not]
      intro hm
      obtain ⟨j, hj, e⟩ := List.getElem_of_mem hm
      exact HV.out j (by have := HN.out; omega) (by rw [getD_in _ _ hj]; exact e)
    | succ gk =>
      have hii : (i : Int) < (n : Int) := by omega
      obtain ⟨b, off, rfl, _, hc⟩ := HROW.out.2 (by have := HN.out; omega)
      have hcell := hc i (by have := HN.out; omega)
      obtain ⟨y, hy⟩ : ∃ y, l.getD i 0 = y := ⟨_, rfl⟩
      rw [hy] at hcell
      have HY := Lib.hid hy
      clear hc hy
      rcases Classical.em (y = x) with h | h
      · have he : (y == x) = true := by simpa using h
        have HYX := Lib.hid h
        clear h
        go_wp2
        go_ret
        refine ⟨bool_eq ?_, HB.out⟩
        rw [HR.out, eq_comm, decide_eq_true_iff, ← HYX.out, ← HY.out, getD_in _ _ (by have := HN.out; omega)]
        exact List.getElem_mem _
      · have he : (y == x) = false := by simpa using h
        have HYX : Hid (y ≠ x) := h
        clear h
        go_wp2
        go_roundg gk
        case measure => omega
        case rel =>
          refine ⟨i + 1, by omega, by go_num, rfl, fun j hj => ?_⟩
          rcases Nat.lt_or_ge j i with h3 | h3
          · exact HV.out j h3
          · obtain rfl : j = i := by omega
            rw [HY.out]; exact HYX.out

end Go.Proofs.Ytjebpggoajfjkaa
