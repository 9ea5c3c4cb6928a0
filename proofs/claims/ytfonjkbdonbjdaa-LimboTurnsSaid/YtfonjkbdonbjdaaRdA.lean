/-
  Proved here: what package reader's find answers.
  Conditions: none.
-/
import Derived.Test.YtfonjkbdonbjdaaRdMath
import Derived.Test.YtfonjkbdonbjdaaAtom
namespace Go.Proofs.Ytfonjkbdonbjdaa
open Go Go.RowKit

abbrev RdP (w : World) (p q : Nat) (L : List Nat) (now : Nat) : Prop := Rd 70 72 true w p q L now
set_option maxHeartbeats 400000 in
theorem rdfind_nil (t : Int) (w : World) : Calls Try.prog 37 #[.pointer none, .int .i64 t] w fun e w' => e = .returned (.pointer none) ∧ w = w' := by
  go_enter Try.func37, Try.ntmps37
  go_wp2
  go_ret
  exact ⟨rfl, rfl⟩
set_option maxHeartbeats 400000 in
theorem rdfind_no {w : World} {p q : Nat} {L : List Nat} {now : Nat} (h : RdP w p q L now) (t : Int) (ht : ¬ inR L t) : Calls Try.prog 37 #[.pointer (some ⟨p, 0, none⟩), .int .i64 t] w fun e w' => e = .returned (.pointer none) ∧ w = w' := by
  have hs := h.slice1
  have hl := h.clk.many
  unfold inR at ht
  generalize L.length = n at *
  clear h
  rcases Classical.em (t < 0) with h0 | h0
  · clear ht
    go_enter Try.func37, Try.ntmps37
    go_wp2
    go_ret
    exact ⟨rfl, rfl⟩
  · have h1 : (n : Int) ≤ t := by omega
    clear ht
    go_enter Try.func37, Try.ntmps37
    go_wp2
    go_ret
    exact ⟨rfl, rfl⟩
set_option maxHeartbeats 400000 in
theorem rdfind_yes {w : World} {p q : Nat} {L : List Nat} {now : Nat} (h : RdP w p q L now) (i : Nat) (hi : i < L.length) : Calls Try.prog 37 #[.pointer (some ⟨p, 0, none⟩), .int .i64 i] w fun e w' => e = .returned (.pointer (some ⟨q, i, none⟩)) ∧ w = w' := by
  have hs := h.slice1
  have hl := h.clk.many
  generalize L.length = n at *
  have h0 : ¬ (i : Int) < 0 := by omega
  have h1 : ¬ (n : Int) ≤ (i : Int) := by omega
  have h2 : (i : Int) < (n : Int) := by omega
  clear h
  go_enter Try.func37, Try.ntmps37
  go_wp2
  go_ret
  exact ⟨rfl, rfl⟩

end Go.Proofs.Ytfonjkbdonbjdaa
