/-
  Proved here: what the statements' own SamePairs, SameTexts, SameBools answer of two that are the same.
  Conditions: rows of at most 2^20.
-/
import Derived.Test.YtpmgnhijiodbaaaAwake15
namespace Go.Proofs.Ytpmgnhijiodbaaa
open Go Go.RowKit
set_option maxRecDepth 100000

theorem guard_pair : Try.prog.eqGuardType Try.prog.depth 42 = false := by kernel_rfl
set_option maxHeartbeats 800000 in
theorem samep_any (w : World) (A B : Option Addr) (n c d : Nat) (l : List Kv) (hl : l.length = n) (hr : RP.Row w A l) (hs : RP.Row w B l) :
    Calls Try.prog 26 #[.slice A n c, .slice B n d] w fun e w' => e = .returned (.bool true) ∧ ∃ k, w' = w.drewN k := by
  have hn : n ≤ 1048576 := by have := hr.1; omega
  have HR := Lib.hid hr
  have HS := Lib.hid hs
  have HL := Lib.hid hl
  have hnn : ((n : Int) != (n : Int)) = false := by simp
  have hgu := guard_pair
  clear hr hs hl
  go_enter Try.func26, Try.ntmps26
  go_wp2
  go_loopg [5] n (fun gk s5 wx => ∃ i k : Nat, i + gk = n ∧ s5 = .int .i64 i ∧ wx = w.drewN k)
  case atStart => exact ⟨0, 0, by omega, rfl, rfl⟩
  case round =>
    obtain ⟨i, k, hig, rfl, rfl⟩ := hrel
    cases gk with
    | zero =>
      obtain rfl : i = n := by omega
      have hii : ¬ (i : Int) < (i : Int) := by omega
      go_wp2
      go_ret
      exact ⟨rfl, k, rfl⟩
    | succ gk =>
      have hii : (i : Int) < (n : Int) := by omega
      have hil : i < l.length := by have := HL.out; omega
      obtain ⟨b1, o1, rfl, _, g0, g1⟩ := pairAt HR.out (List.getElem?_eq_getElem hil)
      obtain ⟨b2, o2, rfl, _, k0, k1⟩ := pairAt HS.out (List.getElem?_eq_getElem hil)
      generalize l[i].k = x0 at *
      generalize l[i].v = x1 at *
      have h0 : (x0.toList == x0.toList) = true := by simp
      have h1 : (x1.toList == x1.toList) = true := by simp
      go_wp2
      go_quiet (fail)
      go_wp2
      go_roundg gk
      case measure => omega
      case rel => exact ⟨i + 1, k + nq, by omega, by go_num, rfl⟩
set_option maxHeartbeats 800000 in
theorem samet_any (w : World) (A B : Option Addr) (n c d : Nat) (l : List ByteArray) (hl : l.length = n) (hr : RS.Row w A l) (hs : RS.Row w B l) :
    Calls Try.prog 27 #[.slice A n c, .slice B n d] w fun e w' => e = .returned (.bool true) ∧ ∃ k, w' = w.drewN k := by
  have hn : n ≤ 1048576 := by have := hr.1; omega
  have HR := Lib.hid hr
  have HS := Lib.hid hs
  have HL := Lib.hid hl
  have hnn : ((n : Int) != (n : Int)) = false := by simp
  clear hr hs hl
  go_enter Try.func27, Try.ntmps27
  go_wp2
  go_loopg [5] n (fun gk s5 wx => ∃ i k : Nat, i + gk = n ∧ s5 = .int .i64 i ∧ wx = w.drewN k)
  case atStart => exact ⟨0, 0, by omega, rfl, rfl⟩
  case round =>
    obtain ⟨i, k, hig, rfl, rfl⟩ := hrel
    cases gk with
    | zero =>
      obtain rfl : i = n := by omega
      have hii : ¬ (i : Int) < (i : Int) := by omega
      go_wp2
      go_ret
      exact ⟨rfl, k, rfl⟩
    | succ gk =>
      have hii : (i : Int) < (n : Int) := by omega
      have hil : i < l.length := by have := HL.out; omega
      obtain ⟨b1, o1, rfl, _, g0⟩ := textAt HR.out (List.getElem?_eq_getElem hil)
      obtain ⟨b2, o2, rfl, _, k0⟩ := textAt HS.out (List.getElem?_eq_getElem hil)
      generalize l[i] = x0 at *
      have h0 : (x0.toList == x0.toList) = true := by simp
      go_wp2
      go_quiet (fail)
      go_wp2
      go_roundg gk
      case measure => omega
      case rel => exact ⟨i + 1, k + nq, by omega, by go_num, rfl⟩
theorem boolAt {w : World} {A : Option Addr} {l : List Bool} (h : RB.Row w A l) {i : Nat} {e : Bool} (hi : l[i]? = some e) : ∃ b off, A = some ⟨b, off, none⟩ ∧ b < w.heap.size ∧ w.cell? ⟨b, off + i, none⟩ = some (.bool e) := by
  obtain ⟨b, off, e1, hlt, hc⟩ := h.2 (by have := (List.getElem?_eq_some_iff.1 hi).1; omega)
  have := hc i e hi 0 _ rfl
  exact ⟨b, off, e1, hlt, by simpa [RB] using this⟩
end Go.Proofs.Ytpmgnhijiodbaaa
