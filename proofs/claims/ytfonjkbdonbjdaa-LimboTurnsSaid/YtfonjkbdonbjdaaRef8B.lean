/-
  Proved here: what chapter 8's own Least and Quiet answer.
  Conditions: none.
-/
import Derived.Test.YtfonjkbdonbjdaaRef8
namespace Go.Proofs.Ytfonjkbdonbjdaa
open Go Go.RowKit

theorem quietB_no {L : List Nat} {i x : Nat} (hi : i < L.length) (h0 : L.getD i 0 ≠ 0) (h1 : L.getD i 0 ≤ x) : quietB L x = false := by
  rw [← Bool.not_eq_true, quietB_iff]
  intro h
  have hm : L.getD i 0 ∈ L := by simp only [List.getD, List.getElem?_eq_getElem hi, Option.getD_some]; exact List.getElem_mem hi
  have := h _ hm
  omega
theorem quietB_yes {L : List Nat} {x : Nat} (h : ∀ i, i < L.length → L.getD i 0 = 0 ∨ x < L.getD i 0) : quietB L x = true := by
  rw [quietB_iff]
  intro y hy
  obtain ⟨i, hi, rfl⟩ := List.getElem_of_mem hy
  have := h i hi
  simp only [List.getD, List.getElem?_eq_getElem hi, Option.getD_some] at this
  exact this
set_option maxHeartbeats 800000 in
theorem r8quiet_any {w : World} {p q : Nat} {L : List Nat} {now : Nat} (h : RdR w p q L now) (x : Nat) : Calls Try.prog 52 #[.pointer (some ⟨p, 0, none⟩), .int .u64 x] w fun e w' => e = .returned (.bool (quietB L x)) ∧ w = w' := by
  have HC : Hid (∀ i : Nat, i < L.length → w.cell? ⟨q, i, none⟩ = some (.int .u64 (L.getD i 0 : Nat))) := fun i hi => h.at_ hi
  have HNO : Hid (∀ i : Nat, i < L.length → L.getD i 0 ≠ 0 → L.getD i 0 ≤ x → quietB L x = false) := fun i hi h0 h1 => quietB_no hi h0 h1
  have HYES : Hid ((∀ i, i < L.length → L.getD i 0 = 0 ∨ x < L.getD i 0) → quietB L x = true) := quietB_yes
  have hs := h.slice0
  have hl := h.clk.many
  generalize quietB L x = r at *
  obtain ⟨n, hn⟩ : ∃ n, L.length = n := ⟨_, rfl⟩
  rw [hn] at HC HNO HYES hs hl
  clear h hn
  go_enter Try.func52, Try.ntmps52
  go_wp2
  go_loopg [5] n (fun gk s5 wx => ∃ i : Nat, i + gk = n ∧ s5 = .int .i64 i ∧ Hid (∀ j, j < i → L.getD j 0 = 0 ∨ x < L.getD j 0) ∧ w = wx)
  case atStart => exact ⟨0, by omega, rfl, fun j hj => by omega, rfl⟩
  case round =>
    obtain ⟨i, hin, rfl, HM, rfl⟩ := hrel
    cases gk with
    | zero =>
      obtain rfl : i = n := by omega
      have hii : ¬ (i : Int) < (i : Int) := by omega
      go_wp2
      go_ret
      exact ⟨bool_eq (HYES.out HM.out).symm, rfl⟩
    | succ gk =>
      have hii : (i : Int) < (n : Int) := by omega
      have h1 := HC.out i (by omega)
      have H2 := Lib.hid (HNO.out i (by omega))
      have HN : Hid ((L.getD i 0 = 0 ∨ x < L.getD i 0) → ∀ j, j < i + 1 → L.getD j 0 = 0 ∨ x < L.getD j 0) := fun h j hj => by
        rcases Nat.lt_or_ge j i with h2 | h2
        · exact HM.out j h2
        · obtain rfl : j = i := by omega
          exact h
      generalize L.getD i 0 = y at *
      rcases Classical.em (y = 0) with hy | hy
      · subst hy
        have HS := Lib.hid (HN.out (.inl rfl))
        go_wp2
        go_roundg gk
        case measure => omega
        case rel => exact ⟨i + 1, by omega, by go_num, HS, rfl⟩
      · have hy1 : (0 : Int) < (y : Int) := by omega
        rcases Classical.em (x < y) with hlt | hlt
        · have HS := Lib.hid (HN.out (.inr hlt))
          have hlt' : ¬ (y : Int) ≤ (x : Int) := by omega
          go_wp2
          go_roundg gk
          case measure => omega
          case rel => exact ⟨i + 1, by omega, by go_num, HS, rfl⟩
        · have hlt' : (y : Int) ≤ (x : Int) := by omega
          have HS := Lib.hid (H2.out hy (by omega))
          go_wp2
          go_ret
          exact ⟨bool_eq HS.out.symm, rfl⟩

end Go.Proofs.Ytfonjkbdonbjdaa
