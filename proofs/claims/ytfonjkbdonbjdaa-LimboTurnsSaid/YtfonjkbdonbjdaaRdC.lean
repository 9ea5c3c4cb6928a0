/-
  Proved here: what package reader's Enter, Leave and Least answer and leave.
  Conditions: epochs below 2^32.
-/
import Derived.Test.YtfonjkbdonbjdaaRdB
namespace Go.Proofs.Ytfonjkbdonbjdaa
open Go Go.RowKit

set_option maxHeartbeats 400000 in
theorem rdenter_nil (t : Int) (w : World) : Calls Try.prog 19 #[.pointer none, .int .i64 t] w fun e w' => e = .returned (.tuple #[.int .u64 0, .int .i64 1]) ∧ w = w' := by
  have H := Lib.hid (rdfind_nil t w)
  go_enter Try.func19, Try.ntmps19
  go_wp2_with fail
  refine H.out.mono ?_
  rintro e w' ⟨rfl, rfl⟩
  go_wp2
  go_ret2
  exact ⟨rfl, rfl⟩
set_option maxHeartbeats 400000 in
theorem rdenter_any {w : World} {p q : Nat} {L : List Nat} {now : Nat} (h : RdP w p q L now) (t : Int) : Calls Try.prog 19 #[.pointer (some ⟨p, 0, none⟩), .int .i64 t] w fun e w' => e = .returned (.tuple #[.int .u64 (enterV L now t : Nat), .int .i64 (enterE L t)]) ∧ RdP w' p q (enterL L now t) now ∧ Turns p q w w' := by
  rcases Classical.em (inR L t) with ht | ht
  · obtain ⟨i, rfl⟩ := Int.eq_ofNat_of_zero_le ht.1
    have hi : i < L.length := by have := ht.2; omega
    have H := Lib.hid (rdfind_yes h i hi)
    have H1 := Lib.hid (rdnow_any h)
    rcases Classical.em (L.getD i 0 = 0) with h0 | h0
    · have he : enterE L i = 0 := by unfold enterE; rw [if_pos ht, Int.toNat_natCast, if_pos h0]
      have hv : enterV L now i = now := by unfold enterV; rw [if_pos he]
      have hl : enterL L now i = L.set i now := by unfold enterL; rw [if_pos he]; simp
      have hc := h.at_ hi
      rw [h0] at hc
      have H2 : Hid (Calls Try.prog 39 #[.pointer (some ⟨q, i, none⟩), .int .u64 0, .int .u64 now] w fun e w' => e = .returned (.bool true) ∧ w.setCell ⟨q, i, none⟩ (.int .u64 now) = w') := ucas_hit q i 0 now w hc (h.frozen i)
      have HR : Hid (RdP (w.setCell ⟨q, i, none⟩ (.int .u64 now)) p q (enterL L now i) now) := by
        have := h.clk.enter i
        rw [hl] at this ⊢
        exact h.set i now this
      have HT : Hid (Turns p q w (w.setCell ⟨q, i, none⟩ (.int .u64 now))) := turns_q p q w i _
      rw [he, hv]
      generalize w.setCell ⟨q, i, none⟩ (.int .u64 now) = w1 at *
      generalize enterL L now i = L' at *
      clear h ht he hv hl hc h0
      go_enter Try.func19, Try.ntmps19
      go_wp2_with fail
      refine H.out.mono ?_
      rintro e w' ⟨rfl, rfl⟩
      go_wp2_with fail
      refine H1.out.mono ?_
      rintro e w' ⟨rfl, rfl⟩
      go_wp2_with fail
      refine H2.out.mono ?_
      rintro e w' ⟨rfl, rfl⟩
      go_wp2
      go_ret2
      exact ⟨rfl, HR.out, HT.out⟩
    · have he : enterE L i = 7 := by unfold enterE; rw [if_pos ht, Int.toNat_natCast, if_neg h0]
      have hv : enterV L now i = 0 := by unfold enterV; rw [he]; rfl
      have hl : enterL L now i = L := by unfold enterL; rw [he]; rfl
      have H2 : Hid (Calls Try.prog 39 #[.pointer (some ⟨q, i, none⟩), .int .u64 0, .int .u64 now] w fun e w' => e = .returned (.bool false) ∧ w = w') := ucas_miss q i _ 0 now w (h.at_ hi) (h.frozen i) (by omega)
      have HR := Lib.hid h
      rw [he, hv, hl]
      clear h ht he hv hl h0
      go_enter Try.func19, Try.ntmps19
      go_wp2_with fail
      refine H.out.mono ?_
      rintro e w' ⟨rfl, rfl⟩
      go_wp2_with fail
      refine H1.out.mono ?_
      rintro e w' ⟨rfl, rfl⟩
      go_wp2_with fail
      refine H2.out.mono ?_
      rintro e w' ⟨rfl, rfl⟩
      go_wp2
      go_ret2
      exact ⟨rfl, HR.out, Turns.refl _ _ _⟩
  · have he : enterE L t = 1 := by unfold enterE; rw [if_neg ht]
    have hv : enterV L now t = 0 := by unfold enterV; rw [he]; rfl
    have hl : enterL L now t = L := by unfold enterL; rw [he]; rfl
    rw [he, hv, hl]
    have H := Lib.hid (rdfind_no h t ht)
    have HR := Lib.hid h
    clear h ht he hv hl
    go_enter Try.func19, Try.ntmps19
    go_wp2_with fail
    refine H.out.mono ?_
    rintro e w' ⟨rfl, rfl⟩
    go_wp2
    go_ret2
    exact ⟨rfl, HR.out, Turns.refl _ _ _⟩
set_option maxHeartbeats 400000 in
theorem rdleave_nil (t : Int) (w : World) : Calls Try.prog 20 #[.pointer none, .int .i64 t] w fun e w' => e = .returned (.int .i64 1) ∧ w = w' := by
  have H := Lib.hid (rdfind_nil t w)
  go_enter Try.func20, Try.ntmps20
  go_wp2_with fail
  refine H.out.mono ?_
  rintro e w' ⟨rfl, rfl⟩
  go_wp2
  go_ret
  exact ⟨rfl, rfl⟩
set_option maxHeartbeats 400000 in
theorem rdleave_any {w : World} {p q : Nat} {L : List Nat} {now : Nat} (h : RdP w p q L now) (t : Int) : Calls Try.prog 20 #[.pointer (some ⟨p, 0, none⟩), .int .i64 t] w fun e w' => e = .returned (.int .i64 (leaveE L t)) ∧ RdP w' p q (leaveL L t) now ∧ Turns p q w w' := by
  rcases Classical.em (inR L t) with ht | ht
  · obtain ⟨i, rfl⟩ := Int.eq_ofNat_of_zero_le ht.1
    have hi : i < L.length := by have := ht.2; omega
    have H := Lib.hid (rdfind_yes h i hi)
    have hl : leaveL L i = L.set i 0 := by unfold leaveL; rw [if_pos ht]; simp
    have H2 : Hid (Calls Try.prog 40 #[.pointer (some ⟨q, i, none⟩), .int .u64 0] w fun e w' => e = .returned (.int .u64 (L.getD i 0 : Nat)) ∧ w.setCell ⟨q, i, none⟩ (.int .u64 0) = w') := uswap q i _ 0 w (h.at_ hi) (h.frozen i)
    have HR : Hid (RdP (w.setCell ⟨q, i, none⟩ (.int .u64 0)) p q (leaveL L i) now) := by
      have := h.clk.leave i
      rw [hl] at this ⊢
      exact h.set i 0 this
    have HT : Hid (Turns p q w (w.setCell ⟨q, i, none⟩ (.int .u64 0))) := turns_q p q w i _
    have he : leaveE L i = if L.getD i 0 = 0 then 12 else 0 := by unfold leaveE; rw [if_pos ht]; simp
    rw [he]
    generalize w.setCell ⟨q, i, none⟩ (.int .u64 0) = w1 at *
    generalize leaveL L i = L' at *
    generalize L.getD i 0 = x at *
    clear h ht he hl
    rcases Classical.em (x = 0) with h0 | h0
    · have h1 : ((x : Int) == 0) = true := by simp; omega
      rw [if_pos h0]
      clear h0
      go_enter Try.func20, Try.ntmps20
      go_wp2_with fail
      refine H.out.mono ?_
      rintro e w' ⟨rfl, rfl⟩
      go_wp2_with fail
      refine H2.out.mono ?_
      rintro e w' ⟨rfl, rfl⟩
      go_wp2
      go_ret
      exact ⟨rfl, HR.out, HT.out⟩
    · have h1 : ((x : Int) == 0) = false := by simp; omega
      rw [if_neg h0]
      clear h0
      go_enter Try.func20, Try.ntmps20
      go_wp2_with fail
      refine H.out.mono ?_
      rintro e w' ⟨rfl, rfl⟩
      go_wp2_with fail
      refine H2.out.mono ?_
      rintro e w' ⟨rfl, rfl⟩
      go_wp2
      go_ret
      exact ⟨rfl, HR.out, HT.out⟩
  · have he : leaveE L t = 1 := by unfold leaveE; rw [if_neg ht]
    have hl : leaveL L t = L := by unfold leaveL; rw [if_neg ht]
    rw [he, hl]
    have H := Lib.hid (rdfind_no h t ht)
    have HR := Lib.hid h
    clear h ht he hl
    go_enter Try.func20, Try.ntmps20
    go_wp2_with fail
    refine H.out.mono ?_
    rintro e w' ⟨rfl, rfl⟩
    go_wp2
    go_ret
    exact ⟨rfl, HR.out, Turns.refl _ _ _⟩
set_option maxHeartbeats 400000 in
theorem rdleast_nil (w : World) : Calls Try.prog 43 #[.pointer none] w fun e w' => e = .returned (.tuple #[.int .u64 0, .bool false]) ∧ w = w' := by
  go_enter Try.func43, Try.ntmps43
  go_wp2
  go_ret2
  exact ⟨rfl, rfl⟩
theorem insideV_at (L : List Nat) (i : Nat) (hi : i < L.length) : insideV L i = L.getD i 0 := by unfold insideV; rw [if_pos ⟨by omega, by omega⟩]; simp
theorem insideV_mem {L : List Nat} {t : Int} (h : insideV L t ≠ 0) : insideV L t ∈ L := by
  unfold insideV at h ⊢
  split at h
  · rename_i ht
    have hi : t.toNat < L.length := by have := ht.1; have := ht.2; omega
    rw [if_pos ht]
    simp only [List.getD, List.getElem?_eq_getElem hi, Option.getD_some]
    exact List.getElem_mem hi
  · exact absurd rfl h
set_option maxHeartbeats 800000 in
theorem rdleast_any {w : World} {p q : Nat} {L : List Nat} {now : Nat} (h : RdP w p q L now) : Calls Try.prog 43 #[.pointer (some ⟨p, 0, none⟩)] w fun e w' => e = .returned (.tuple #[.int .u64 (leastL L : Nat), .bool (leastL L != 0)]) ∧ w = w' := by
  have HI : Hid (∀ i : Nat, i < L.length → Calls Try.prog 51 #[.pointer (some ⟨p, 0, none⟩), .int .i64 i] w fun e w' => e = .returned (.tuple #[.int .u64 (L.getD i 0 : Nat), .bool (L.getD i 0 != 0)]) ∧ w = w') := fun i hi => by
    have := rdinside_any h i
    rw [insideV_at L i hi] at this
    exact this
  have HST := Lib.hid (leastL_take L)
  have HFIN : Hid (∀ m : Nat, m = leastL (L.take L.length) → (Ending.returned (.tuple #[.int .u64 (m : Nat), .bool (m != 0)]) = .returned (.tuple #[.int .u64 (leastL L : Nat), .bool (leastL L != 0)]))) := fun m hm => by rw [hm, List.take_length]
  have hs := h.slice1
  have hl := h.clk.many
  generalize leastL L = r at *
  obtain ⟨n, hn⟩ : ∃ n, L.length = n := ⟨_, rfl⟩
  rw [hn] at HI HST HFIN hs hl
  clear h hn
  go_enter Try.func43, Try.ntmps43
  go_wp2
  clear hs
  go_loopg [4, 5, 16] n (fun gk s4 s5 s16 wx => ∃ i m : Nat, i + gk = n ∧ s16 = .int .i64 i ∧ .int .u64 (m : Nat) = s4 ∧ .bool (m != 0) = s5 ∧ m = leastL (L.take i) ∧ w = wx)
  case atStart => exact ⟨0, 0, by omega, rfl, rfl, rfl, rfl, rfl⟩
  case round =>
    obtain ⟨i, m, hin, rfl, rfl, rfl, hm, rfl⟩ := hrel
    have HM := Lib.hid hm
    clear hm
    cases gk with
    | zero =>
      obtain rfl : i = n := by omega
      have hii : ¬ (i : Int) < (i : Int) := by omega
      go_wp2
      go_ret2
      exact ⟨HFIN.out m HM.out, rfl⟩
    | succ gk =>
      have hii : (i : Int) < (n : Int) := by omega
      have H1 := Lib.hid (HI.out i (by omega))
      have H2 := Lib.hid (HST.out i (by omega))
      generalize L.getD i 0 = x at *
      rcases Classical.em (x = 0) with hx | hx
      · subst hx
        have HS : Hid (m = leastL (L.take (i + 1))) := by show _ = _; rw [H2.out, ← HM.out]; simp [leastStep]
        go_wp2_with fail
        refine H1.out.mono ?_
        rintro e w' ⟨rfl, rfl⟩
        go_wp2
        go_roundg gk
        case measure => omega
        case rel => exact ⟨i + 1, m, by omega, by go_num, rfl, rfl, HS.out, rfl⟩
      · have hx1 : (x != 0) = true := by simp; omega
        rw [hx1] at H1
        rcases Classical.em (m = 0) with hm | hm
        · subst hm
          have HS : Hid (x = leastL (L.take (i + 1))) := by show _ = _; rw [H2.out, ← HM.out]; simp [leastStep, hx]
          go_wp2_with fail
          refine H1.out.mono ?_
          rintro e w' ⟨rfl, rfl⟩
          go_wp2
          go_roundg gk
          case measure => omega
          case rel => exact ⟨i + 1, x, by omega, by go_num, rfl, (by rw [hx1]), HS.out, rfl⟩
        · have hm1 : (m != 0) = true := by simp; omega
          rcases Classical.em (x < m) with hlt | hlt
          · have HS : Hid (x = leastL (L.take (i + 1))) := by show _ = _; rw [H2.out, ← HM.out]; simp [leastStep, hx, hlt]
            have hlt' : (x : Int) < (m : Int) := by omega
            go_wp2_with fail
            refine H1.out.mono ?_
            rintro e w' ⟨rfl, rfl⟩
            go_wp2
            go_roundg gk
            case measure => omega
            case rel => exact ⟨i + 1, x, by omega, by go_num, rfl, (by rw [hx1]), HS.out, rfl⟩
          · have HS : Hid (m = leastL (L.take (i + 1))) := by show _ = _; rw [H2.out, ← HM.out]; simp [leastStep, hm, hlt]
            have hlt' : ¬ (x : Int) < (m : Int) := by omega
            go_wp2_with fail
            refine H1.out.mono ?_
            rintro e w' ⟨rfl, rfl⟩
            go_wp2
            go_roundg gk
            case measure => omega
            case rel => exact ⟨i + 1, m, by omega, by go_num, rfl, (by rw [hm1]), HS.out, rfl⟩

end Go.Proofs.Ytfonjkbdonbjdaa
