/-
  Proved here: ClassFills, in full: blocks of one class fill their slab, one behind the other.
  Conditions: none.
-/
import Derived.Test.YtckcokjpmjeakaaRows
import Derived.Test.YtckcokjpmjeakaaClassC
import Derived.IntWalk
import Derived.WalkSmall
import Derived.Deep.QuietTactic
import Derived.BigQuiet
import Derived.WalkKit
import Derived.ProofKit
import Derived.OpenShut
import Derived.ShutString
import Derived.Below
import Derived.ChangeOld
namespace Go.Proofs.Ytckcokjpmjeakaa.classFills
open Go.ChangeShapes Go.WideShapes Go.ChangeAt Go.RowKit
open Go.ChangeMaps (open_string shut_string)
set_option linter.unusedVariables false      -- a walk need not use every 'w<i>' (that an integer argument fits its kind)

theorem own : ownKnob Try.prog.godebug = none := by kernel_rfl

theorem spanN_lo (c : Nat) (h : c < 4) : spanN c = 1 ∨ spanN c = 2 ∨ spanN c = 4 ∨ spanN c = 8 := spanN_some (by omega)
theorem home_at {k : Int} {c i : Nat} (h0 : 0 ≤ k) (h1 : k ≤ 31) (hc : c < 4) (hi : i < 8 / spanN c) : homeN (2 + 8 * k + (i * spanN c : Nat)) c = true := by
  have hs := spanN_lo c hc
  have hlt : i * spanN c < 8 := by
    have := Nat.mul_lt_mul_of_pos_right hi (show 0 < spanN c by omega)
    have := Nat.div_mul_le_self 8 (spanN c)
    omega
  have hk : slabOfN (2 + 8 * k + (i * spanN c : Nat)) = k := by unfold slabOfN; rw [if_pos (by omega)]; omega
  rw [homeN_yes (by omega) (by omega), hk, decide_eq_true_iff, show 2 + 8 * k + ((i * spanN c : Nat) : Int) - (2 + 8 * k) = (i : Int) * (spanN c : Int) by rw [← Int.natCast_mul]; omega]
  exact Int.mul_emod_left _ _
set_option maxHeartbeats 800000 in
theorem walk (a0 a1 : Int) (w : World) (w0 : (Lit.int .i64 a0).wf = true) (w1 : (Lit.int .i64 a1).wf = true) :
    Calls Try.prog 6 #[.int .i64 a0, .int .i64 a1] w fun e w' => e = .returned (.bool true) ∧ Below w.heap.size w w' := by
  have H1 := Lib.hid (low_any a0 32 w (by omega) (by omega))
  have H2 := Lib.hid (low_any a1 4 w (by omega) (by omega))
  have hk := low_lt a0 (n := 32) (by omega)
  have hc := low_lt a1 (n := 4) (by omega)
  generalize low a0 32 = k at *
  generalize low a1 4 = c at *
  have H3 := Lib.hid (starts_any k c w)
  have H4 := Lib.hid (fun W => span_any c W)
  have HH := Lib.hid (fun i hi W => (by have := home_any (2 + 8 * (k : Int) + (i * spanN c : Nat)) c W; rw [home_at (by omega) (by omega) hc hi] at this; exact this : Calls Try.prog 17 #[.int .i64 (2 + 8 * (k : Int) + (i * spanN c : Nat)), .int .i64 c] W fun e w' => e = .returned (.bool true) ∧ W = w'))
  have HLN := Lib.hid (startsN_len (k := k) c (by omega))
  have HA := Lib.hid (startsN_at (k := k) c (by omega))
  have hs := spanN_lo c hc
  unfold StartsAt at H3
  generalize startsN k c = l at *
  generalize spanN c = s at *
  obtain ⟨n, hn⟩ : ∃ n, 8 / s = n := ⟨_, rfl⟩
  rw [hn] at HLN HA HH
  have hs1 : 1 ≤ s := by omega
  have hs2 : s ≤ 8 := by omega
  have hn8 : n ≤ 8 := by rw [← hn]; exact Nat.div_le_self _ _
  have HNS : Hid (n * s = 8) := by show _ = _; rw [← hn]; rcases hs with rfl | rfl | rfl | rfl <;> decide
  have HLT : Hid (∀ i : Nat, i ≤ n → i * s ≤ 8) := by
    intro i hi
    have h1 := Nat.mul_le_mul_right s hi
    have := HNS.out
    omega
  clear hn hs w0 w1
  go_enter Try.func6, Try.ntmps6
  go_wp2_with fail
  refine H1.out.mono ?_
  rintro e w' ⟨rfl, rfl⟩
  go_wp2_with fail
  refine H2.out.mono ?_
  rintro e w' ⟨rfl, rfl⟩
  go_wp2_with fail
  refine H3.out.mono ?_
  rintro e w1 ⟨v, rfl, hown, hb⟩
  obtain ⟨A, cap, rfl, hrow, _, _⟩ := rowI_of_own hown (by have := HLN.out; omega)
  have HROW := Lib.hid hrow
  have HB := Lib.hid hb
  rw [HLN.out]
  clear hown hrow hb
  go_wp2
  go_loopg [6, 7] n (fun gk s6 s7 wx => ∃ i m : Nat, i + gk = n ∧ Hid (m = i * s) ∧ s6 = .int .i64 (2 + 8 * (k : Int) + (m : Int)) ∧ s7 = .int .i64 i ∧ Hid (Below w.heap.size w wx) ∧ Hid (RowI wx A l))
  case atStart => exact ⟨0, 0, by omega, (Nat.zero_mul _).symm, by simp, rfl, HB, HROW⟩
  case round =>
    obtain ⟨i, m, hin, HM, rfl, rfl, HBx, HRx⟩ := hrel
    have hm8 : m ≤ 8 := by rw [HM.out]; exact HLT.out i (by omega)
    cases gk with
    | zero =>
      obtain rfl : i = n := by omega
      have hm : m = 8 := by rw [HM.out]; exact HNS.out
      have hii : ¬ (i : Int) < (i : Int) := by omega
      have heq : ((2 + 8 * (k : Int) + (m : Int)) == 10 + 8 * (k : Int)) = true := by simp; omega
      clear hm
      go_wp2_with fail
      refine (awake_any _).mono ?_
      rintro e w' ⟨rfl, rfl⟩
      go_wp2
      go_ret
      exact ⟨rfl, HBx.out⟩
    | succ gk =>
      have hii : (i : Int) < (n : Int) := by omega
      obtain ⟨b, off, rfl, hlt, hcl⟩ := HRx.out.2 (by have := HLN.out; omega)
      have hcell := hcl i (by have := HLN.out; omega)
      rw [HA.out i (by omega), ← HM.out] at hcell
      have HH2 := Lib.hid (fun W => (by have := HH.out i (by omega) W; rw [← HM.out] at this; exact this : Calls Try.prog 17 #[.int .i64 (2 + 8 * (k : Int) + (m : Nat)), .int .i64 c] W fun e w' => e = .returned (.bool true) ∧ W = w'))
      have hne : ((2 + 8 * (k : Int) + (m : Int)) != (2 + 8 * (k : Int) + (m : Int))) = false := by simp
      clear hcl
      go_wp2_with fail
      refine (HH2.out _).mono ?_
      rintro e w' ⟨rfl, rfl⟩
      go_wp2_with fail
      refine (H4.out _).mono ?_
      rintro e w' ⟨rfl, rfl⟩
      go_wp2
      go_roundg gk
      case measure => omega
      case rel => exact ⟨i + 1, m + s, by omega, by show _ = _; rw [HM.out, Nat.add_mul, Nat.one_mul], by go_num, by go_num, HBx, HRx⟩

/-! ### THE ROW's STEP: WRITTEN OUT: LEAVE IT -/
set_option maxRecDepth 100000 in
theorem lifted (os : Os) (started : os.Started) (H : Type) (enc : TypeId × Value → H) :
    ReturnsInHanded {} Try.checked os 6 .any (Rows.classFillsSpec.pre6 enc Try.prog Try.f6 Rows.classFillsRow.domain false) (Rows.classFillsSpec.post enc Try.prog Try.f6 false true false false) := by
  refine returnsInHanded_of_change (C := Try.checked) own started (by kernel_rfl) Try.func6
    (ChangeSpec.witness6 (enc := enc) (C := Try.checked) false ⟨#[], #[.int .i64 0, .int .i64 0], []⟩ 8 (by kernel_rfl) (by kernel_rfl) (by kernel_rfl) (by kernel_rfl)) ?_
  intro W base args ds gs before hval0 hW hcnd _
  have hval : ∀ (j : Nat) t v, Try.f6.params[j]? = some t → args[j]? = some v → Value.okWide Try.prog W .any base t v := hval0
  have hW' := hW
  obtain ⟨p, q, hA0, hV, rfl, hfz, hnd⟩ := hW
  have hA : DataW.TrodAll enc Try.prog W 0 (fun _ => true) true Try.f6.params.toList args.toList ds p := hA0
  rw [Try.params6] at hA hval
  obtain ⟨v0, vs0, d0, ds0, p0, q0, hargs, rfl, rfl, h0, r0⟩ := trodAll_cons hA
  obtain ⟨v1, vs1, d1, ds1, p1, q1, rfl, rfl, rfl, h1, r1⟩ := trodAll_cons r0
  obtain ⟨rfl, rfl, rfl⟩ := trodAll_nil r1
  obtain rfl : args = #[v0, v1] := by cases args; simp_all
  obtain ⟨rfl, rfl⟩ := trodVars_none hV
  obtain ⟨a0, rfl, rfl, rfl, w0⟩ := open_int Try.underlying3 (hval 0 3 v0 rfl rfl) h0
  obtain ⟨a1, rfl, rfl, rfl, w1⟩ := open_int Try.underlying3 (hval 1 3 v1 rfl rfl) h1
  clear hA0 hval0
  refine (walk a0 a1 W w0 w1).mono fun e W' ⟨he, bel⟩ => ?_
  subst he
  exact ⟨_, rfl, _, _, _, [], _, [], hW', trodAll_mk1 (shut_bool Try.underlying4 _), (trodAll_cons_mk (shut_int Try.underlying3 w0) (trodAll_cons_mk (shut_int Try.underlying3 w1) trodAll_mk0)), rfl, bel.frame _, fun h => by cases h⟩

theorem over : Rows.classFillsRow.holds Try.pinned (OpenSpec.ofChange Rows.classFillsSpec) :=
  OpenClaim.holds_of_wide 6 Try.f6 rfl rfl rfl rfl rfl rfl rfl ⟨rfl, rfl, rfl, rfl, rfl⟩ rfl rfl rfl rfl rfl (by kernel_rfl) Try.func6 (by kernel_rfl)
    (of_decide_eq_true (by kernel_rfl)) (by unfold Func.isWrapper; first | (rw [if_pos (by decide +kernel)]; kernel_rfl) | (rw [if_neg (by decide +kernel)]; exact ⟨rfl, rfl⟩))
    (fun os started H enc _ => lifted os started H enc)

/-- ████ THE STATEMENT ████ -/
theorem proved : Rows.ClassFillsSaid :=
  over
#print axioms proved
end Go.Proofs.Ytckcokjpmjeakaa.classFills
