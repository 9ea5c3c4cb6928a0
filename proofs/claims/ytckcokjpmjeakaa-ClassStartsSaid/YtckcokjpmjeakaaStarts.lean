/-
  Proved here: ClassStarts, in full: of any numbers Starts and Home of package class are chapter 5's own, also behind a writing over of the first answer.
  Conditions: none.
-/
import Derived.Test.YtckcokjpmjeakaaRows
import Derived.Test.YtckcokjpmjeakaaClassC
import Derived.IntWalk
import Derived.WalkSmall
import Derived.Deep.QuietTactic
import Derived.BigQuiet
import Derived.WalkKit
import Derived.ProofKit
import Derived.OpenShut
import Derived.ShutString
import Derived.Below
import Derived.ChangeOld
namespace Go.Proofs.Ytckcokjpmjeakaa.classStarts
open Go.ChangeShapes Go.WideShapes Go.ChangeAt Go.RowKit
open Go.ChangeMaps (open_string shut_string)
set_option linter.unusedVariables false      -- a walk need not use every 'w<i>' (that an integer argument fits its kind)

theorem own : ownKnob Try.prog.godebug = none := by kernel_rfl

set_option maxHeartbeats 1600000 in
theorem walk (a0 a1 a2 : Int) (w : World) (w0 : (Lit.int .i64 a0).wf = true) (w1 : (Lit.int .i64 a1).wf = true) (w2 : (Lit.int .i64 a2).wf = true) :
    Calls Try.prog 4 #[.int .i64 a0, .int .i64 a1, .int .i64 a2] w fun e w' => e = .returned (.bool true) ∧ Below w.heap.size w w' := by
  have H1 := Lib.hid (fun W => starts_any a0 a1 W)
  have H2 := Lib.hid (fun W => rstarts_any a0 a1 W)
  have H3 := Lib.hid (fun W => home_any a2 a1 W)
  have H4 := Lib.hid (fun W => rhome_any a2 a1 W)
  have hle := startsN_le a0 a1
  unfold StartsAt at H1 H2
  generalize startsN a0 a1 = l at *
  generalize homeN a2 a1 = r at *
  obtain ⟨n, hn⟩ : ∃ n, l.length = n := ⟨_, rfl⟩
  rw [hn] at hle H1 H2
  have HN := Lib.hid hn
  have hrr : (r == r) = true := by simp
  clear w0 w1 w2 hn
  go_enter Try.func4, Try.ntmps4
  go_wp2_with fail
  refine (H1.out _).mono ?_
  rintro e w1 ⟨v1, rfl, ho1, hb1⟩
  have HO1 := Lib.hid ho1
  have HB1 := Lib.hid hb1
  obtain ⟨A1, c1, rfl, hr1, _, _⟩ := rowI_of_own ho1 (by have := HN.out; omega)
  have HR1 := Lib.hid hr1
  clear ho1 hb1 hr1
  go_wp2_with fail
  refine (H2.out _).mono ?_
  rintro e w2 ⟨v2, rfl, ho2, hb2⟩
  have HR1' := Lib.hid (HR1.out.below hb2)
  have HB2 := Lib.hid hb2
  obtain ⟨A2, c2, rfl, hr2, _, _⟩ := rowI_of_own ho2 (by have := HN.out; omega)
  have HR2 := Lib.hid hr2
  clear ho2 hb2 hr2
  go_wp2_with fail
  refine (samei_any _ A1 A2 n c1 c2 l HN.out HR1'.out HR2.out).mono ?_
  rintro e w3 ⟨rfl, k, rfl⟩
  go_wp2_with fail
  refine (H3.out _).mono ?_
  rintro e w' ⟨rfl, rfl⟩
  go_wp2_with fail
  refine (H4.out _).mono ?_
  rintro e w4 ⟨rfl, hb4⟩
  have HB4 := Lib.hid hb4
  clear hb4
  have HD4 : Hid (Below w1.heap.size w1 w4) := ((HB2.out.trans (below_drewN (Below.refl _ _) k)).trans (HB4.out.mono HB2.out.size))
  have HB5 : Hid (Below w.heap.size w w4) := HB1.out.trans (HD4.out.mono HB1.out.size)
  go_wp2_with fail
  refine (overi_any w4 w.heap.size n _ l HN.out (by omega) (own_keep HO1.out HD4.out) HB5.out.size).mono ?_
  rintro e w5 ⟨rfl, hb⟩
  have HB6 := Lib.hid (HB5.out.trans hb)
  clear hb
  go_wp2_with fail
  refine (H1.out _).mono ?_
  rintro e w6 ⟨v1, rfl, ho1, hb1⟩
  obtain ⟨A3, c3, rfl, hr1, _, _⟩ := rowI_of_own ho1 (by have := HN.out; omega)
  have HR3 := Lib.hid hr1
  have HB7 := Lib.hid (HB6.out.trans (hb1.mono HB6.out.size))
  clear ho1 hb1 hr1
  go_wp2_with fail
  refine (H2.out _).mono ?_
  rintro e w7 ⟨v2, rfl, ho2, hb2⟩
  have HR3' := Lib.hid (HR3.out.below hb2)
  have HB8 := Lib.hid (HB7.out.trans (hb2.mono HB7.out.size))
  obtain ⟨A4, c4, rfl, hr2, _, _⟩ := rowI_of_own ho2 (by have := HN.out; omega)
  have HR4 := Lib.hid hr2
  clear ho2 hb2 hr2
  go_wp2_with fail
  refine (samei_any _ A3 A4 n c3 c4 l HN.out HR3'.out HR4.out).mono ?_
  rintro e w8 ⟨rfl, k2, rfl⟩
  go_wp2_with fail
  refine (awake_any _).mono ?_
  rintro e w' ⟨rfl, rfl⟩
  go_wp2
  go_ret
  exact ⟨rfl, below_drewN HB8.out _⟩

/-! ### THE ROW's STEP: WRITTEN OUT: LEAVE IT -/
set_option maxRecDepth 100000 in
theorem lifted (os : Os) (started : os.Started) (H : Type) (enc : TypeId × Value → H) :
    ReturnsInHanded {} Try.checked os 4 .any (Rows.classStartsSpec.pre6 enc Try.prog Try.f4 Rows.classStartsRow.domain false) (Rows.classStartsSpec.post enc Try.prog Try.f4 false true false false) := by
  refine returnsInHanded_of_change (C := Try.checked) own started (by kernel_rfl) Try.func4
    (ChangeSpec.witness6 (enc := enc) (C := Try.checked) false ⟨#[], #[.int .i64 0, .int .i64 0, .int .i64 0], []⟩ 8 (by kernel_rfl) (by kernel_rfl) (by kernel_rfl) (by kernel_rfl)) ?_
  intro W base args ds gs before hval0 hW hcnd _
  have hval : ∀ (j : Nat) t v, Try.f4.params[j]? = some t → args[j]? = some v → Value.okWide Try.prog W .any base t v := hval0
  have hW' := hW
  obtain ⟨p, q, hA0, hV, rfl, hfz, hnd⟩ := hW
  have hA : DataW.TrodAll enc Try.prog W 0 (fun _ => true) true Try.f4.params.toList args.toList ds p := hA0
  rw [Try.params4] at hA hval
  obtain ⟨v0, vs0, d0, ds0, p0, q0, hargs, rfl, rfl, h0, r0⟩ := trodAll_cons hA
  obtain ⟨v1, vs1, d1, ds1, p1, q1, rfl, rfl, rfl, h1, r1⟩ := trodAll_cons r0
  obtain ⟨v2, vs2, d2, ds2, p2, q2, rfl, rfl, rfl, h2, r2⟩ := trodAll_cons r1
  obtain ⟨rfl, rfl, rfl⟩ := trodAll_nil r2
  obtain rfl : args = #[v0, v1, v2] := by cases args; simp_all
  obtain ⟨rfl, rfl⟩ := trodVars_none hV
  obtain ⟨a0, rfl, rfl, rfl, w0⟩ := open_int Try.underlying3 (hval 0 3 v0 rfl rfl) h0
  obtain ⟨a1, rfl, rfl, rfl, w1⟩ := open_int Try.underlying3 (hval 1 3 v1 rfl rfl) h1
  obtain ⟨a2, rfl, rfl, rfl, w2⟩ := open_int Try.underlying3 (hval 2 3 v2 rfl rfl) h2
  clear hA0 hval0
  refine (walk a0 a1 a2 W w0 w1 w2).mono fun e W' ⟨he, bel⟩ => ?_
  subst he
  exact ⟨_, rfl, _, _, _, [], _, [], hW', trodAll_mk1 (shut_bool Try.underlying4 _), (trodAll_cons_mk (shut_int Try.underlying3 w0) (trodAll_cons_mk (shut_int Try.underlying3 w1) (trodAll_cons_mk (shut_int Try.underlying3 w2) trodAll_mk0))), rfl, bel.frame _, fun h => by cases h⟩

theorem over : Rows.classStartsRow.holds Try.pinned (OpenSpec.ofChange Rows.classStartsSpec) :=
  OpenClaim.holds_of_wide 4 Try.f4 rfl rfl rfl rfl rfl rfl rfl ⟨rfl, rfl, rfl, rfl, rfl⟩ rfl rfl rfl rfl rfl (by kernel_rfl) Try.func4 (by kernel_rfl)
    (of_decide_eq_true (by kernel_rfl)) (by unfold Func.isWrapper; first | (rw [if_pos (by decide +kernel)]; kernel_rfl) | (rw [if_neg (by decide +kernel)]; exact ⟨rfl, rfl⟩))
    (fun os started H enc _ => lifted os started H enc)

/-- ████ THE STATEMENT ████ -/
theorem proved : Rows.ClassStartsSaid :=
  over
#print axioms proved
end Go.Proofs.Ytckcokjpmjeakaa.classStarts
