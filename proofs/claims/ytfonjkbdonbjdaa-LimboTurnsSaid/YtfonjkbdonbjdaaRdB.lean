/-
  Proved here: what package reader's Now, Advance and Inside answer and leave.
  Conditions: epochs below 2^32.
-/
import Derived.Test.YtfonjkbdonbjdaaRdA
namespace Go.Proofs.Ytfonjkbdonbjdaa
open Go Go.RowKit

set_option maxHeartbeats 400000 in
theorem rdnow_nil (w : World) : Calls Try.prog 38 #[.pointer none] w fun e w' => e = .returned (.int .u64 0) ∧ w = w' := by
  go_enter Try.func38, Try.ntmps38
  go_wp2
  go_ret
  exact ⟨rfl, rfl⟩
set_option maxHeartbeats 400000 in
theorem rdnow_any {w : World} {p q : Nat} {L : List Nat} {now : Nat} (h : RdP w p q L now) : Calls Try.prog 38 #[.pointer (some ⟨p, 0, none⟩)] w fun e w' => e = .returned (.int .u64 (now : Nat)) ∧ w = w' := by
  have H := Lib.hid (uload p 0 _ w h.now0)
  have hs := h.slice1
  have hn := h.now0
  clear h
  go_enter Try.func38, Try.ntmps38
  go_wp2_with fail
  refine H.out.mono ?_
  rintro e w' ⟨rfl, rfl⟩
  go_wp2
  go_ret
  exact ⟨rfl, rfl⟩
set_option maxHeartbeats 400000 in
theorem rdadv_nil (w : World) : Calls Try.prog 21 #[.pointer none] w fun e w' => e = .returned (.int .u64 0) ∧ w = w' := by
  go_enter Try.func21, Try.ntmps21
  go_wp2
  go_ret
  exact ⟨rfl, rfl⟩
theorem u64_wrap (x : Nat) (h : x < 18446744073709551616) : IntKind.u64.wrap (x : Int) = (x : Int) := by
  simp [IntKind.wrap, IntKind.signed, IntKind.bits]
  omega
set_option maxHeartbeats 400000 in
theorem rdadv_any {w : World} {p q : Nat} {L : List Nat} {now : Nat} (h : RdP w p q L now) (hn : now + 1 < 4294967296) : Calls Try.prog 21 #[.pointer (some ⟨p, 0, none⟩)] w fun e w' => e = .returned (.int .u64 (now + 1 : Nat)) ∧ RdP w' p q L (now + 1) ∧ Turns p q w w' := by
  have H := Lib.hid (uadd p 0 _ 1 ((now + 1 : Nat) : Int) w h.now0 (h.frozenP 0) (u64_wrap (now + 1) (by omega)))
  have HR : Hid (RdP (w.setCell ⟨p, 0, none⟩ (.int .u64 (now + 1 : Nat))) p q L (now + 1)) := h.setNow0 (now + 1) (h.clk.advance hn)
  have HT : Hid (Turns p q w (w.setCell ⟨p, 0, none⟩ (.int .u64 (now + 1 : Nat)))) := (Turns.refl p q w).setCell_p _ _
  generalize w.setCell ⟨p, 0, none⟩ (.int .u64 (now + 1 : Nat)) = w1 at *
  generalize now + 1 = m at *
  clear h hn
  go_enter Try.func21, Try.ntmps21
  go_wp2_with fail
  refine H.out.mono ?_
  rintro e w' ⟨rfl, rfl⟩
  go_wp2
  go_ret
  exact ⟨rfl, HR.out, HT.out⟩
set_option maxHeartbeats 400000 in
theorem rdinside_nil (t : Int) (w : World) : Calls Try.prog 51 #[.pointer none, .int .i64 t] w fun e w' => e = .returned (.tuple #[.int .u64 0, .bool false]) ∧ w = w' := by
  have H := Lib.hid (rdfind_nil t w)
  go_enter Try.func51, Try.ntmps51
  go_wp2_with fail
  refine H.out.mono ?_
  rintro e w' ⟨rfl, rfl⟩
  go_wp2
  go_ret2
  exact ⟨rfl, rfl⟩
set_option maxHeartbeats 400000 in
theorem rdinside_any {w : World} {p q : Nat} {L : List Nat} {now : Nat} (h : RdP w p q L now) (t : Int) : Calls Try.prog 51 #[.pointer (some ⟨p, 0, none⟩), .int .i64 t] w fun e w' => e = .returned (.tuple #[.int .u64 (insideV L t : Nat), .bool (insideV L t != 0)]) ∧ w = w' := by
  rcases Classical.em (inR L t) with ht | ht
  · obtain ⟨i, rfl⟩ := Int.eq_ofNat_of_zero_le ht.1
    have hi : i < L.length := by have := ht.2; omega
    have hv : insideV L i = L.getD i 0 := by unfold insideV; rw [if_pos ht]; simp
    have H := Lib.hid (rdfind_yes h i hi)
    have H1 := Lib.hid (uload q i _ w (h.at_ hi))
    have hc := h.at_ hi
    rw [hv]
    generalize L.getD i 0 = x at *
    have hx : ((x : Int) != 0) = (x != 0) := by
      rcases Nat.eq_zero_or_pos x with rfl | h0
      · rfl
      · have h1 : ((x : Int) != 0) = true := by simp; omega
        have h2 : (x != 0) = true := by simp; omega
        rw [h1, h2]
    rw [← hx]
    clear h ht hv hx
    go_enter Try.func51, Try.ntmps51
    go_wp2_with fail
    refine H.out.mono ?_
    rintro e w' ⟨rfl, rfl⟩
    go_wp2_with fail
    refine H1.out.mono ?_
    rintro e w' ⟨rfl, rfl⟩
    go_wp2
    go_ret2
    exact ⟨rfl, rfl⟩
  · have hv : insideV L t = 0 := by unfold insideV; rw [if_neg ht]
    rw [hv]
    have H := Lib.hid (rdfind_no h t ht)
    clear h ht hv
    go_enter Try.func51, Try.ntmps51
    go_wp2_with fail
    refine H.out.mono ?_
    rintro e w' ⟨rfl, rfl⟩
    go_wp2
    go_ret2
    exact ⟨rfl, rfl⟩

end Go.Proofs.Ytfonjkbdonbjdaa
