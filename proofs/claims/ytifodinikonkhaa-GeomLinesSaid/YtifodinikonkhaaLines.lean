/-
Proved here: GeomLines answers true for all numbers: the lines of a superblock and of a clock are the document's, and told as such.
Conditions: none.
-/
import Derived.Test.YtifodinikonkhaaRows
import Derived.Test.YtifodinikonkhaaRef4B
import Derived.Test.YtifodinikonkhaaNum
import Derived.IntWalk
import Derived.WalkSmall
import Derived.Deep.QuietTactic
import Derived.BigQuiet
import Derived.WalkKit
import Derived.ProofKit
import Derived.OpenShut
import Derived.ShutString
import Derived.Below
import Derived.ChangeOld
namespace Go.Proofs.Ytifodinikonkhaa.geomLines
open Go.ChangeShapes Go.WideShapes Go.ChangeAt Go.RowKit
open Go.ChangeMaps (open_string shut_string)
set_option linter.unusedVariables false      -- a walk need not use every 'w<i>' (that an integer argument fits its kind)

theorem own : ownKnob Try.prog.godebug = none := by kernel_rfl

theorem clock_not_nil : ∀ v, v < 18446744073709551616 → ([] : List UInt8) ≠ clockL v := fun v _ h => by
  have := congrArg List.length h
  rw [clockL_len] at this
  cases this
theorem super_not_nil : ∀ k, 10 ≤ k → k ≤ 258 → ([] : List UInt8) ≠ superL k := fun v _ _ h => by
  have := congrArg List.length h
  rw [superL_len] at this
  cases this

set_option maxHeartbeats 1600000 in
theorem in_ (n v : Nat) (h1 : 10 ≤ n) (h2 : n ≤ 258) (hv : v < 18446744073709551616) (w : World) :
    Calls Try.prog 3 #[.int .i64 n, .int .u64 v] w fun e w' => e = .returned (.bool true) ∧ Below w.heap.size w w' := by
  have H1 := Lib.hid (super_ok n h1 h2 w)
  have H2 := Lib.hid (fun W => rsuper_ok n h1 h2 W)
  have H3 := Lib.hid (fun W => clock_ok v hv W)
  have H4 := Lib.hid (fun W => rclock_ok v hv W)
  have H5 := Lib.hid (fun W A c (h : Row W A (superL n)) => issuper_yes A c n h1 h2 W h)
  have H6 := Lib.hid (fun W A c (h : Row W A (clockL v)) => isclock_yes A c v hv W h)
  have H7 := Lib.hid (fun W A c (h : Row W A (superL n)) => isclock_no A 64 c (superL n) (superL_len n) W h (fun u _ => Ne.symm (clock_super n u)))
  have HLs := Lib.hid (superL_len n)
  have HLc := Lib.hid (clockL_len v)
  generalize superL n = s at *
  generalize clockL v = c at *
  have hnn : ((n : Int) == (n : Int)) = true := by simp
  have hvv : ((v : Int) == (v : Int)) = true := by simp
  have hbb : (true == true) = true := rfl
  clear hv
  go_enter Try.func3, Try.ntmps3
  go_wp2_with fail
  refine H1.out.mono ?_
  rintro e v1 ⟨g1, rfl, hg1, ha1, hb1⟩
  have B1 := Lib.hid hb1
  have R1 := Lib.hid (ha1.row (by have := HLs.out; omega))
  clear ha1 hb1
  go_wp2_with fail
  refine (H2.out v1).mono ?_
  rintro e v2 ⟨g2, cap2, rfl, ho, hb⟩
  obtain ⟨C, cp, he, hrow⟩ := row_of_own ho (by rw [HLs.out]; omega)
  injection he with he1 he2 he3
  subst he1
  have B2 := Lib.hid (B1.out.trans (hb.mono B1.out.size))
  have R2 := Lib.hid (R1.out.below hb)
  have S2 := Lib.hid hrow
  rw [HLs.out]
  clear ho hb he2 he3 hrow
  go_wp2_with fail
  refine (H3.out v2).mono ?_
  rintro e v3 ⟨g3, rfl, _, ha, hb⟩
  have B3 := Lib.hid (B2.out.trans (hb.mono B2.out.size))
  have R3 := Lib.hid (R2.out.below hb)
  have C3 := Lib.hid (ha.row (by have := HLc.out; omega))
  have hsm := same_any v3 (some ⟨g1, 0, none⟩) (some ⟨g2, 0, none⟩) 64 64 64 cap2 s s HLs.out HLs.out R3.out (S2.out.below hb)
  rw [show (s == s) = true by simp] at hsm
  have SM := Lib.hid hsm
  clear ha hb hsm
  go_wp2_with fail
  refine SM.out.mono ?_
  rintro e w' ⟨rfl, rfl⟩
  go_wp2_with fail
  refine (num_any 0 v3).mono ?_
  rintro e w' ⟨rfl, rfl⟩
  go_wp2_with fail
  refine (H4.out v3).mono ?_
  rintro e v4 ⟨g4, cap4, rfl, ho, hb⟩
  obtain ⟨C, cp, he, hrow⟩ := row_of_own ho (by rw [HLc.out]; omega)
  injection he with he1 he2 he3
  subst he1
  have B4 := Lib.hid (B3.out.trans (hb.mono B3.out.size))
  have R4 := Lib.hid (R3.out.below hb)
  have C4 := Lib.hid (C3.out.below hb)
  have hsm := same_any v4 (some ⟨g3, 0, none⟩) (some ⟨g4, 0, none⟩) 64 64 64 cap4 c c HLc.out HLc.out C4.out hrow
  rw [show (c == c) = true by simp] at hsm
  have SM2 := Lib.hid hsm
  rw [HLc.out]
  clear ho hb he2 he3 hrow hsm
  go_wp2_with fail
  refine SM2.out.mono ?_
  rintro e w' ⟨rfl, rfl⟩
  go_wp2_with fail
  refine (H5.out v4 _ _ R4.out).mono ?_
  rintro e v5 ⟨rfl, hb⟩
  have B5 := Lib.hid (B4.out.trans (hb.mono B4.out.size))
  have R5 := Lib.hid (R4.out.below hb)
  have C5 := Lib.hid (C4.out.below hb)
  clear hb
  go_wp2_with fail
  refine (H6.out v5 _ _ C5.out).mono ?_
  rintro e v6 ⟨rfl, hb⟩
  have B6 := Lib.hid (B5.out.trans (hb.mono B5.out.size))
  have R6 := Lib.hid (R5.out.below hb)
  clear hb
  go_wp2_with fail
  refine (H7.out v6 _ _ R6.out).mono ?_
  rintro e v7 ⟨rfl, hb⟩
  have B7 := Lib.hid (B6.out.trans (hb.mono B6.out.size))
  clear hb
  go_wp2_with fail
  refine (awake_any _).mono ?_
  rintro e v8 ⟨rfl, hb⟩
  go_wp2
  go_ret
  exact ⟨rfl, B7.out.trans (hb.mono B7.out.size)⟩

set_option maxHeartbeats 1600000 in
theorem out_ (x : Int) (v : Nat) (hx : holds x = false) (hv : v < 18446744073709551616) (w : World) :
    Calls Try.prog 3 #[.int .i64 x, .int .u64 v] w fun e w' => e = .returned (.bool true) ∧ Below w.heap.size w w' := by
  have H1 := Lib.hid (super_bad x hx w)
  have H2 := Lib.hid (rsuper_bad x hx w)
  have H3 := Lib.hid (fun W => clock_ok v hv W)
  have H4 := Lib.hid (fun W => rclock_ok v hv W)
  have H5 := Lib.hid (fun W => issuper_no none 0 0 [] rfl W (row_nil _ _) super_not_nil)
  have H6 := Lib.hid (fun W A c (h : Row W A (clockL v)) => isclock_yes A c v hv W h)
  have H7 := Lib.hid (fun W => isclock_no none 0 0 [] rfl W (row_nil _ _) clock_not_nil)
  have HLc := Lib.hid (clockL_len v)
  generalize clockL v = c at *
  have hvv : ((v : Int) == (v : Int)) = true := by simp
  have hbb : (false == false) = true := rfl
  clear hv hx
  go_enter Try.func3, Try.ntmps3
  go_wp2_with fail
  refine H1.out.mono ?_
  rintro e w' ⟨rfl, rfl⟩
  go_wp2_with fail
  refine H2.out.mono ?_
  rintro e w' ⟨rfl, rfl⟩
  go_wp2_with fail
  refine (H3.out w).mono ?_
  rintro e v3 ⟨g3, rfl, _, ha, hb⟩
  have B3 := Lib.hid hb
  have C3 := Lib.hid (ha.row (by have := HLc.out; omega))
  have hsm := same_any v3 none none 0 0 0 0 [] [] rfl rfl (row_nil _ _) (row_nil _ _)
  rw [show (([] : List UInt8) == []) = true from rfl] at hsm
  have SM := Lib.hid hsm
  clear ha hb hsm
  go_wp2_with fail
  refine SM.out.mono ?_
  rintro e w' ⟨rfl, rfl⟩
  go_wp2_with fail
  refine (num_any 2 v3).mono ?_
  rintro e w' ⟨rfl, rfl⟩
  go_wp2_with fail
  refine (H4.out v3).mono ?_
  rintro e v4 ⟨g4, cap4, rfl, ho, hb⟩
  obtain ⟨C, cp, he, hrow⟩ := row_of_own ho (by rw [HLc.out]; omega)
  injection he with he1 he2 he3
  subst he1
  have B4 := Lib.hid (B3.out.trans (hb.mono B3.out.size))
  have C4 := Lib.hid (C3.out.below hb)
  have hsm := same_any v4 (some ⟨g3, 0, none⟩) (some ⟨g4, 0, none⟩) 64 64 64 cap4 c c HLc.out HLc.out C4.out hrow
  rw [show (c == c) = true by simp] at hsm
  have SM2 := Lib.hid hsm
  rw [HLc.out]
  clear ho hb he2 he3 hrow hsm
  go_wp2_with fail
  refine SM2.out.mono ?_
  rintro e w' ⟨rfl, rfl⟩
  go_wp2_with fail
  refine (H5.out v4).mono ?_
  rintro e v5 ⟨rfl, hb⟩
  have B5 := Lib.hid (B4.out.trans (hb.mono B4.out.size))
  have C5 := Lib.hid (C4.out.below hb)
  clear hb
  go_wp2_with fail
  refine (H6.out v5 _ _ C5.out).mono ?_
  rintro e v6 ⟨rfl, hb⟩
  have B6 := Lib.hid (B5.out.trans (hb.mono B5.out.size))
  clear hb
  go_wp2_with fail
  refine (H7.out v6).mono ?_
  rintro e v7 ⟨rfl, hb⟩
  have B7 := Lib.hid (B6.out.trans (hb.mono B6.out.size))
  clear hb
  go_wp2_with fail
  refine (awake_any _).mono ?_
  rintro e v8 ⟨rfl, hb⟩
  go_wp2
  go_ret
  exact ⟨rfl, B7.out.trans (hb.mono B7.out.size)⟩

theorem walk (a0 : Int) (a1 : Int) (w : World) (w0 : (Lit.int .i64 a0).wf = true) (w1 : (Lit.int .u64 a1).wf = true) :
    Calls Try.prog 3 #[.int .i64 a0, .int .u64 a1] w fun e w' => e = .returned (.bool true) ∧ Below w.heap.size w w' := by
  have hb := bounds_u64 w1
  obtain ⟨v, rfl⟩ : ∃ v : Nat, a1 = (v : Int) := ⟨a1.toNat, by omega⟩
  have hv : v < 18446744073709551616 := by omega
  cases h : holds a0 with
  | false => exact out_ a0 v h hv w
  | true =>
    obtain ⟨n, rfl, h1, h2⟩ := holds_true h
    exact in_ n v h1 h2 hv w

/-! ### THE ROW's STEP: WRITTEN OUT: LEAVE IT -/
set_option maxRecDepth 100000 in
theorem lifted (os : Os) (started : os.Started) (H : Type) (enc : TypeId × Value → H) :
    ReturnsInHanded {} Try.checked os 3 .any (Rows.geomLinesSpec.pre6 enc Try.prog Try.f3 Rows.geomLinesRow.domain false) (Rows.geomLinesSpec.post enc Try.prog Try.f3 false true false false) := by
  refine returnsInHanded_of_change (C := Try.checked) own started (by kernel_rfl) Try.func3
    (ChangeSpec.witness6 (enc := enc) (C := Try.checked) false ⟨#[], #[.int .i64 0, .int .u64 0], []⟩ 8 (by kernel_rfl) (by kernel_rfl) (by kernel_rfl) (by kernel_rfl)) ?_
  intro W base args ds gs before hval0 hW hcnd _
  have hval : ∀ (j : Nat) t v, Try.f3.params[j]? = some t → args[j]? = some v → Value.okWide Try.prog W .any base t v := hval0
  have hW' := hW
  obtain ⟨p, q, hA0, hV, rfl, hfz, hnd⟩ := hW
  have hA : DataW.TrodAll enc Try.prog W 0 (fun _ => true) true Try.f3.params.toList args.toList ds p := hA0
  rw [Try.params3] at hA hval
  obtain ⟨v0, vs0, d0, ds0, p0, q0, hargs, rfl, rfl, h0, r0⟩ := trodAll_cons hA
  obtain ⟨v1, vs1, d1, ds1, p1, q1, rfl, rfl, rfl, h1, r1⟩ := trodAll_cons r0
  obtain ⟨rfl, rfl, rfl⟩ := trodAll_nil r1
  obtain rfl : args = #[v0, v1] := by cases args; simp_all
  obtain ⟨rfl, rfl⟩ := trodVars_none hV
  obtain ⟨a0, rfl, rfl, rfl, w0⟩ := open_int Try.underlying3 (hval 0 3 v0 rfl rfl) h0
  obtain ⟨a1, rfl, rfl, rfl, w1⟩ := open_int Try.underlying22 (hval 1 22 v1 rfl rfl) h1
  clear hA0 hval0
  refine (walk a0 a1 W w0 w1).mono fun e W' ⟨he, bel⟩ => ?_
  subst he
  exact ⟨_, rfl, _, _, _, [], _, [], hW', trodAll_mk1 (shut_bool Try.underlying4 _), (trodAll_cons_mk (shut_int Try.underlying3 w0) (trodAll_cons_mk (shut_int Try.underlying22 w1) trodAll_mk0)), rfl, bel.frame _, fun h => by cases h⟩

theorem over : Rows.geomLinesRow.holds Try.pinned (OpenSpec.ofChange Rows.geomLinesSpec) :=
  OpenClaim.holds_of_wide 3 Try.f3 rfl rfl rfl rfl rfl rfl rfl ⟨rfl, rfl, rfl, rfl, rfl⟩ rfl rfl rfl rfl rfl (by kernel_rfl) Try.func3 (by kernel_rfl)
    (of_decide_eq_true (by kernel_rfl)) (by unfold Func.isWrapper; first | (rw [if_pos (by decide +kernel)]; kernel_rfl) | (rw [if_neg (by decide +kernel)]; exact ⟨rfl, rfl⟩))
    (fun os started H enc _ => lifted os started H enc)

/-- ████ THE STATEMENT ████ -/
theorem proved : Rows.GeomLinesSaid :=
  over
#print axioms proved
end Go.Proofs.Ytifodinikonkhaa.geomLines
