/-
  Proved here: what the statements' own alike answers of two clocks that are alike.
  Conditions: none.
-/
import Derived.Test.YthkiollggmeflaaRef8B
import Derived.Test.YthkiollggmeflaaAwake8
namespace Go.Proofs.Ythkiollggmeflaa
open Go Go.RowKit

theorem quiet_of {P : Program} {f : FuncId} {args : Array Value} {w : World} {n : Nat} {v : Value}
    (h : Calls P f args (w.drewN n) fun e w' => e = .returned v ∧ w.drewN n = w') : Calls P f args (w.drewN n) fun e w'' => e = .returned v ∧ ∃ m, w'' = w.drewN m :=
  h.mono fun _ _ ⟨he, hm⟩ => ⟨he, n, hm.symm⟩
set_option maxHeartbeats 4000000 in
set_option maxRecDepth 100000 in
theorem alike8_any {w : World} {p q r s : Nat} {L : List Nat} {now : Nat} (h : RdP w p q L now) (hr : RdR w r s L now) (x : Nat) : Calls Try.prog 17 #[.pointer (some ⟨p, 0, none⟩), .pointer (some ⟨r, 0, none⟩), .int .u64 x] w fun e w' => e = .returned (.bool true) ∧ ∃ k, w' = w.drewN k := by
  have HL1 := Lib.hid (rdleast_any h)
  have HL2 := Lib.hid (r8least_any hr)
  have HNW : Hid (∀ k, Calls Try.prog 18 #[.pointer (some ⟨p, 0, none⟩)] (w.drewN k) fun e w' => e = .returned (.int .u64 (now : Nat)) ∧ w.drewN k = w') := fun k => rdnow_any (h.drewN k)
  have HQ1 : Hid (∀ k, Calls Try.prog 20 #[.pointer (some ⟨p, 0, none⟩), .int .u64 x] (w.drewN k) fun e w' => e = .returned (.bool (quietB L x)) ∧ w.drewN k = w') := fun k => rdquiet_any (h.drewN k) x
  have HQ2 : Hid (∀ k, Calls Try.prog 20 #[.pointer (some ⟨p, 0, none⟩), .int .u64 now] (w.drewN k) fun e w' => e = .returned (.bool (quietB L now)) ∧ w.drewN k = w') := fun k => rdquiet_any (h.drewN k) now
  have HQ3 : Hid (∀ k, Calls Try.prog 29 #[.pointer (some ⟨r, 0, none⟩), .int .u64 x] (w.drewN k) fun e w' => e = .returned (.bool (quietB L x)) ∧ w.drewN k = w') := fun k => r8quiet_any (hr.drewN k) x
  have HQ4 : Hid (∀ k, Calls Try.prog 29 #[.pointer (some ⟨r, 0, none⟩), .int .u64 now] (w.drewN k) fun e w' => e = .returned (.bool (quietB L now)) ∧ w.drewN k = w') := fun k => r8quiet_any (hr.drewN k) now
  have HI1 : Hid (∀ k t, Calls Try.prog 22 #[.pointer (some ⟨p, 0, none⟩), .int .i64 t] (w.drewN k) fun e w' => e = .returned (.tuple #[.int .u64 (insideV L t : Nat), .bool (insideV L t != 0)]) ∧ w.drewN k = w') := fun k t => rdinside_any (h.drewN k) t
  have HI2 : Hid (∀ k t, Calls Try.prog 30 #[.pointer (some ⟨r, 0, none⟩), .int .i64 t] (w.drewN k) fun e w' => e = .returned (.tuple #[.int .u64 (insideV L t : Nat), .bool (insideV L t != 0)]) ∧ ∃ j, w' = (w.drewN k).drewN j) := fun k t => r8inside_any (hr.drewN k) t
  have hs := hr.slice0
  have hn := hr.now1
  have hl := hr.clk.many
  generalize quietB L x = bx at *
  generalize quietB L now = bn at *
  generalize leastL L = m at *
  obtain ⟨n, hn1⟩ : ∃ n, L.length = n := ⟨_, rfl⟩
  rw [hn1] at hs hl
  generalize insideV L = iv at *
  clear h hr hn1
  have hmm : ((m : Int) != (m : Int)) = false := by simp
  have hnn : ((now : Int) != (now : Int)) = false := by simp
  have hb1 : ((m != 0) != (m != 0)) = false := by simp
  have hb2 : (bx != bx) = false := by simp
  have hb3 : (bn != bn) = false := by simp
  go_enter Try.func17, Try.ntmps17
  go_wp2_with fail
  refine HL1.out.mono ?_
  rintro e w' ⟨rfl, rfl⟩
  go_wp2_with fail
  refine HL2.out.mono ?_
  rintro e w' ⟨rfl, rfl⟩
  go_wp2
  go_quiet ((first | (go_at_call 18; exact quiet_of (HNW.out _)) | (go_at_call 20; first | (with_reducible exact quiet_of (HQ1.out _)) | (with_reducible exact quiet_of (HQ2.out _))) | (go_at_call 29; first | (with_reducible exact quiet_of (HQ3.out _)) | (with_reducible exact quiet_of (HQ4.out _)))))
  clear HNW HQ1 HQ2 HQ3 HQ4 HL1 HL2 hmm hnn hb1 hb2 hb3 hn
  go_wp2
  go_loopg [11] (n + 2) (fun gk s11 wx => ∃ i k : Nat, i + gk = n + 2 ∧ s11 = .int .i64 ((i : Int) - 1) ∧ wx = w.drewN k)
  case atStart => exact ⟨0, _, by omega, rfl, rfl⟩
  case round =>
    obtain ⟨i, k, hin, rfl, rfl⟩ := hrel
    cases gk with
    | zero =>
      have hii : ¬ (i : Int) - 1 ≤ (n : Int) := by omega
      go_wp2
      go_ret
      exact ⟨rfl, k, rfl⟩
    | succ gk =>
      have hii : (i : Int) - 1 ≤ (n : Int) := by omega
      have HI1' := Lib.hid (HI1.out k ((i : Int) - 1))
      have HI2' := Lib.hid (HI2.out k ((i : Int) - 1))
      have HT : Hid ((i : Int) - 1 + 1 = ((i + 1 : Nat) : Int) - 1) := by show _ = _; omega
      generalize iv ((i : Int) - 1) = v at *
      obtain ⟨t, ht⟩ : ∃ t, (i : Int) - 1 = t := ⟨_, rfl⟩
      rw [ht] at hii HI1' HI2' HT ⊢
      have ht1 : -1 ≤ t := by omega
      have ht2 : t ≤ 4 := by omega
      have hvv : ((v : Int) != (v : Int)) = false := by simp
      have hv1 : ((v != 0) != (v != 0)) = false := by simp
      clear ht
      go_wp2_with fail
      refine HI1'.out.mono ?_
      rintro e w' ⟨rfl, rfl⟩
      go_wp2_with fail
      refine HI2'.out.mono ?_
      rintro e w' ⟨rfl, j, rfl⟩
      go_wp2
      go_roundg gk
      case measure => omega
      case rel => exact ⟨i + 1, k + j, by omega, (by rw [← HT.out]), by simp⟩

end Go.Proofs.Ythkiollggmeflaa
