/-
  Proved here: for every two numbers the law CodeRoom returns true: in n bytes, n from 1 to 8, there is room for just the numbers below 256 to the n.
  Conditions: none beyond the given statement's.
-/
import Derived.Test.YtifjgdhhfhfecaaRows
import Derived.Test.YtifjgdhhfhfecaaOver
import Derived.Test.YtifjgdhhfhfecaaAwake2
import Derived.WalkKit
import Derived.ProofKit
import Derived.OpenShut
import Derived.ShutString
import Derived.ChangeOld
import Derived.Below
namespace Go.Proofs.Ytifjgdhhfhfecaa.codeRoom
open Go.ChangeShapes Go.WideShapes Go.ChangeAt Go.RowKit
open Go.ChangeMaps (open_string shut_string)
set_option linter.unusedVariables false      -- a walk need not use every 'w<i>' (that an integer argument fits its kind)

theorem own : ownKnob Try.prog.godebug = none := by kernel_rfl

set_option maxHeartbeats 800000 in
theorem room_eight (x : Int) (v : Nat) (hq : low x 8 = 7) (hv : v < 18446744073709551616) (w : World) :
    Calls Try.prog 7 #[.int .i64 x, .int .u64 v] w fun e w' => e = .returned (.bool true) ∧ Below w.heap.size w w' := by
  have hlow := low_any x 8 w (by omega) (by omega)
  rw [hq] at hlow
  have HLOW : Hid (Calls Try.prog 20 #[.int .i64 x, .int .i64 8] w fun e w' => e = .returned (.int .i64 (7)) ∧ w = w') := hlow
  obtain ⟨w1, hmk0, hblk, hbel⟩ := made w 8 (by omega)
  have hmk : (Instr.makeSlice 22 (.int .i64 8) (.int .i64 8)).run Try.prog w = .ok (.slice (some ⟨w.heap.size, 0, none⟩) 8 8) w1 := hmk0
  have hrow : Row w1 (some ⟨w.heap.size, 0, none⟩) (List.replicate 8 0) := Blk.row (l := List.replicate 8 0) hblk (by decide)
  have HBEL := Lib.hid hbel
  have HP : Hid (Calls Try.prog 10 #[.slice (some ⟨w.heap.size, 0, none⟩) 8 8, .int .i64 0, .int .i64 8, .int .u64 v] w1 (PutTo w1 8 (splice (List.replicate 8 0) 0 (lay 8 v)))) :=
    put_ok (some ⟨w.heap.size, 0, none⟩) 8 8 (List.replicate 8 0) rfl 0 8 v hv (by omega) (by omega) (by omega) (fit_of (by rw [pow8_eight]; exact hv)) w1 hrow
  clear hmk0 hblk hrow hbel hlow hq
  go_enter Try.func7, Try.ntmps7
  go_wp2_with fail
  refine HLOW.out.mono ?_
  rintro e w' ⟨rfl, rfl⟩
  go_wp2_with fail
  refine HP.out.mono ?_
  rintro e w2 ⟨g, rfl, hg, hblk, hb2⟩
  have HB2 := Lib.hid (HBEL.out.trans (hb2.mono HBEL.out.size))
  clear hblk hb2 hmk hg
  go_wp2_with fail
  refine (awake_any _).mono ?_
  rintro e w3 ⟨rfl, hb3⟩
  go_wp2
  go_ret
  exact ⟨rfl, HB2.out.trans (hb3.mono HB2.out.size)⟩

set_option maxHeartbeats 800000 in
theorem room_yes (x : Int) (v q : Nat) (hq : low x 8 = q) (hq7 : q < 7) (hv : v < 18446744073709551616) (hf : fit v (1 + q) = true) (w : World) :
    Calls Try.prog 7 #[.int .i64 x, .int .u64 v] w fun e w' => e = .returned (.bool true) ∧ Below w.heap.size w w' := by
  have hlow := low_any x 8 w (by omega) (by omega)
  rw [hq] at hlow
  have HLOW : Hid (Calls Try.prog 20 #[.int .i64 x, .int .i64 8] w fun e w' => e = .returned (.int .i64 ((q : Nat))) ∧ w = w') := hlow
  obtain ⟨w1, hmk0, hblk, hbel⟩ := made w 8 (by omega)
  have hmk : (Instr.makeSlice 22 (.int .i64 8) (.int .i64 8)).run Try.prog w = .ok (.slice (some ⟨w.heap.size, 0, none⟩) 8 8) w1 := hmk0
  have hrow : Row w1 (some ⟨w.heap.size, 0, none⟩) (List.replicate 8 0) := Blk.row (l := List.replicate 8 0) hblk (by decide)
  have HBEL := Lib.hid hbel
  have hcast : ((1 + q : Nat) : Int) = 1 + (q : Int) := by omega
  have hput := put_ok (some ⟨w.heap.size, 0, none⟩) 8 8 (List.replicate 8 0) rfl 0 (1 + q) v hv (by omega) (by omega) (by omega) hf w1 hrow
  rw [hcast] at hput
  have HP : Hid (Calls Try.prog 10 #[.slice (some ⟨w.heap.size, 0, none⟩) 8 8, .int .i64 0, .int .i64 (1 + (q : Int)), .int .u64 v] w1 (PutTo w1 8 (splice (List.replicate 8 0) 0 (lay (1 + q) v)))) := hput
  have hshr : ((v : Int) / 2 ^ (8 * (1 + q)) == 0) = true := by
    have hp : 0 < 2 ^ (8 * (1 + q)) := Nat.two_pow_pos _
    rw [show ((v : Int) / 2 ^ (8 * (1 + q))) = ((v / 2 ^ (8 * (1 + q)) : Nat) : Int) by simp]
    have := fit_lt hf
    rw [← pow_8] at this
    rw [Nat.div_eq_of_lt this]
    rfl
  have hq8 : ((1 : Int) + (q : Int) == 8) = false := by simp; omega
  clear hput hcast hf
  clear hmk0 hblk hrow hbel hlow hq
  go_enter Try.func7, Try.ntmps7
  go_wp2_with fail
  refine HLOW.out.mono ?_
  rintro e w' ⟨rfl, rfl⟩
  go_wp2_with fail
  refine HP.out.mono ?_
  rintro e w2 ⟨g, rfl, hg, hblk, hb2⟩
  have HB2 := Lib.hid (HBEL.out.trans (hb2.mono HBEL.out.size))
  clear hblk hb2 hmk hg
  go_wp2_with fail
  refine (awake_any _).mono ?_
  rintro e w3 ⟨rfl, hb3⟩
  go_wp2
  go_ret
  exact ⟨rfl, HB2.out.trans (hb3.mono HB2.out.size)⟩

set_option maxHeartbeats 800000 in
theorem room_no (x : Int) (v q : Nat) (hq : low x 8 = q) (hq7 : q < 7) (hv : v < 18446744073709551616) (hf : fit v (1 + q) = false) (w : World) :
    Calls Try.prog 7 #[.int .i64 x, .int .u64 v] w fun e w' => e = .returned (.bool true) ∧ Below w.heap.size w w' := by
  have hlow := low_any x 8 w (by omega) (by omega)
  rw [hq] at hlow
  have HLOW : Hid (Calls Try.prog 20 #[.int .i64 x, .int .i64 8] w fun e w' => e = .returned (.int .i64 ((q : Nat))) ∧ w = w') := hlow
  obtain ⟨w1, hmk0, hblk, hbel⟩ := made w 8 (by omega)
  have hmk : (Instr.makeSlice 22 (.int .i64 8) (.int .i64 8)).run Try.prog w = .ok (.slice (some ⟨w.heap.size, 0, none⟩) 8 8) w1 := hmk0
  have hrow : Row w1 (some ⟨w.heap.size, 0, none⟩) (List.replicate 8 0) := Blk.row (l := List.replicate 8 0) hblk (by decide)
  have HBEL := Lib.hid hbel
  have hcast : ((1 + q : Nat) : Int) = 1 + (q : Int) := by omega
  have hput := put_full (some ⟨w.heap.size, 0, none⟩) 8 8 (by omega) 0 (1 + q) v hv (chk_ok (by omega) (by omega)) (by omega) (by omega) hf w1
  rw [hcast] at hput
  have HP : Hid (Calls Try.prog 10 #[.slice (some ⟨w.heap.size, 0, none⟩) 8 8, .int .i64 0, .int .i64 (1 + (q : Int)), .int .u64 v] w1 fun e w' => e = .returned (.tuple #[.slice none 0 0, .int .i64 11]) ∧ w1 = w') := hput
  have hshr : ((v : Int) / 2 ^ (8 * (1 + q)) == 0) = false := by
    have hp : 0 < 2 ^ (8 * (1 + q)) := Nat.two_pow_pos _
    rw [show ((v : Int) / 2 ^ (8 * (1 + q))) = ((v / 2 ^ (8 * (1 + q)) : Nat) : Int) by simp]
    have := fit_not hf
    rw [← pow_8] at this
    have h2 : v / 2 ^ (8 * (1 + q)) ≠ 0 := by
      intro h
      rw [Nat.div_eq_zero_iff] at h
      omega
    rw [beq_eq_false_iff_ne]
    intro h
    exact h2 (Int.ofNat.inj h)
  have hq8 : ((1 : Int) + (q : Int) == 8) = false := by simp; omega
  clear hput hcast hf
  clear hmk0 hblk hrow hbel hlow hq
  go_enter Try.func7, Try.ntmps7
  go_wp2_with fail
  refine HLOW.out.mono ?_
  rintro e w' ⟨rfl, rfl⟩
  go_wp2_with fail
  refine HP.out.mono ?_
  rintro e w' ⟨rfl, rfl⟩
  clear hmk
  go_wp2_with fail
  refine (awake_any _).mono ?_
  rintro e w3 ⟨rfl, hb3⟩
  go_wp2
  go_ret
  exact ⟨rfl, HBEL.out.trans (hb3.mono HBEL.out.size)⟩

theorem walk (a0 : Int) (a1 : Int) (w : World) (w0 : (Lit.int .i64 a0).wf = true) (w1 : (Lit.int .u64 a1).wf = true) :
    Calls Try.prog 7 #[.int .i64 a0, .int .u64 a1] w fun e w' => e = .returned (.bool true) ∧ Below w.heap.size w w' := by
  have hb := bounds_u64 w1
  obtain ⟨v, rfl⟩ : ∃ v : Nat, a1 = (v : Int) := ⟨a1.toNat, by omega⟩
  have hv : v < 18446744073709551616 := by omega
  have hl := low_lt a0 (n := 8) (by omega)
  rcases Nat.lt_or_ge (low a0 8) 7 with h | h
  · cases hf : fit v (1 + low a0 8) with
    | true => exact room_yes a0 v _ rfl h hv hf w
    | false => exact room_no a0 v _ rfl h hv hf w
  · exact room_eight a0 v (by omega) hv w

/-! ### THE ROW's STEP: WRITTEN OUT: LEAVE IT -/
set_option maxRecDepth 100000 in
theorem lifted (os : Os) (started : os.Started) (H : Type) (enc : TypeId × Value → H) :
    ReturnsInHanded {} Try.checked os 7 .any (Rows.codeRoomSpec.pre6 enc Try.prog Try.f7 Rows.codeRoomRow.domain false) (Rows.codeRoomSpec.post enc Try.prog Try.f7 false true false false) := by
  refine returnsInHanded_of_change (C := Try.checked) own started (by kernel_rfl) Try.func7
    (ChangeSpec.witness6 (enc := enc) (C := Try.checked) false ⟨#[], #[.int .i64 0, .int .u64 0], []⟩ 8 (by kernel_rfl) (by kernel_rfl) (by kernel_rfl) (by kernel_rfl)) ?_
  intro W base args ds gs before hval0 hW hcnd _
  have hval : ∀ (j : Nat) t v, Try.f7.params[j]? = some t → args[j]? = some v → Value.okWide Try.prog W .any base t v := hval0
  have hW' := hW
  obtain ⟨p, q, hA0, hV, rfl, hfz, hnd⟩ := hW
  have hA : DataW.TrodAll enc Try.prog W 0 (fun _ => true) true Try.f7.params.toList args.toList ds p := hA0
  rw [Try.params7] at hA hval
  obtain ⟨v0, vs0, d0, ds0, p0, q0, hargs, rfl, rfl, h0, r0⟩ := trodAll_cons hA
  obtain ⟨v1, vs1, d1, ds1, p1, q1, rfl, rfl, rfl, h1, r1⟩ := trodAll_cons r0
  obtain ⟨rfl, rfl, rfl⟩ := trodAll_nil r1
  obtain rfl : args = #[v0, v1] := by cases args; simp_all
  obtain ⟨rfl, rfl⟩ := trodVars_none hV
  obtain ⟨a0, rfl, rfl, rfl, w0⟩ := open_int Try.underlying3 (hval 0 3 v0 rfl rfl) h0
  obtain ⟨a1, rfl, rfl, rfl, w1⟩ := open_int Try.underlying23 (hval 1 23 v1 rfl rfl) h1
  clear hA0 hval0
  refine (walk a0 a1 W w0 w1).mono fun e W' ⟨he, bel⟩ => ?_
  subst he
  exact ⟨_, rfl, _, _, _, [], _, [], hW', trodAll_mk1 (shut_bool Try.underlying4 _), (trodAll_cons_mk (shut_int Try.underlying3 w0) (trodAll_cons_mk (shut_int Try.underlying23 w1) trodAll_mk0)), rfl, bel.frame _, fun h => by cases h⟩

theorem over : Rows.codeRoomRow.holds Try.pinned (OpenSpec.ofChange Rows.codeRoomSpec) :=
  OpenClaim.holds_of_wide 7 Try.f7 rfl rfl rfl rfl rfl rfl rfl ⟨rfl, rfl, rfl, rfl, rfl⟩ rfl rfl rfl rfl rfl (by kernel_rfl) Try.func7 (by kernel_rfl)
    (of_decide_eq_true (by kernel_rfl)) (by unfold Func.isWrapper; first | (rw [if_pos (by decide +kernel)]; kernel_rfl) | (rw [if_neg (by decide +kernel)]; exact ⟨rfl, rfl⟩))
    (fun os started H enc _ => lifted os started H enc)

/-- ████ THE STATEMENT ████ -/
theorem proved : Rows.CodeRoomSaid :=
  over
#print axioms proved
end Go.Proofs.Ytifjgdhhfhfecaa.codeRoom
