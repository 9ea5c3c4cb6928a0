/-
  Proved here: the statement BlockMay, in full: for every block block.May answers what chapter 6 says.
  Conditions: none.
-/
import Derived.Test.YtokobelmoanneaaRows
import Derived.Test.YtokobelmoanneaaBlockN
import Derived.Test.YtokobelmoanneaaBlockC
import Derived.IntWalk
import Derived.WalkSmall
import Derived.Deep.QuietTactic
import Derived.BigQuiet
import Derived.WalkKit
import Derived.ProofKit
import Derived.OpenShut
import Derived.ShutString
import Derived.ChangeOld
import Derived.Below
namespace Go.Proofs.Ytokobelmoanneaa.blockMay
open Go.ChangeShapes Go.WideShapes Go.ChangeAt Go.RowKit
open Go.ChangeMaps (open_string shut_string)
set_option linter.unusedVariables false

theorem own : ownKnob Try.prog.godebug = none := by kernel_rfl
theorem laidOut : laidOutB Try.prog = true := by kernel_rfl

set_option maxHeartbeats 1600000 in
set_option maxRecDepth 100000 in
theorem walk (b : BV) (w : World) (_ : b.ok) :
    Calls Try.prog 3 #[b.agg] w fun e w' => e = .returned (.bool true) ∧ Below w.heap.size w w' := by
  have HL := Lib.hid (fun W => long_any b W)
  have HN := Lib.hid (box_new w b)
  obtain ⟨p, hp⟩ : ∃ p, w.heap.size = p := ⟨_, rfl⟩
  have HP := Lib.hid hp
  cases hlg : longB b with
  | true =>
    rw [hlg] at HL
    rw [BV.agg] at HL ⊢
    obtain ⟨w0, hw0⟩ : ∃ w0, w.alloc (.cells #[.int .i64 b.cl, .int .i64 b.kd, .int .u64 (b.id : Nat), .int .u64 (b.ver : Nat), .int .u64 (b.ep : Nat), .string b.key, .string b.val] 24) = w0 := ⟨_, rfl⟩
    rw [hw0, hp] at HN
    have HB0 : Hid (Below p w w0) := (by rw [← hp, ← hw0]; exact (Below.refl _ _).alloc (Nat.le_refl _) _)
    clear hlg
    obtain ⟨cl, kd, id, ver, ep, key, val⟩ := b
    simp only at *
    obtain ⟨c0, c1, c2, c3, c4, c5, c6⟩ := HN.out.cells
    go_enter Try.func3, Try.ntmps3
    go_wp2_with fail
    first
      | (go_region_law
      (first
        | (refine step_skip (by rfl) ?_)
        | (go_simp; go_at_call 11; refine (HL.out _).mono ?_; rintro e w1 ⟨rfl, hb⟩; have HB1 : Hid (Below p w w1) := HB0.out.drew.trans (hb.mono (Nat.le_of_lt HN.out.lt)); clear hb; dsimp only)))
      | fail
    all_goals
      go_wp2
      go_ret
      exact ⟨rfl, by rw [HP.out]; exact HB1.out⟩
  | false =>
    rw [hlg] at HL
    have hsz := longB_no hlg
    have HM := Lib.hid (fun W => may_any b hsz.1 hsz.2 W)
    have HR := Lib.hid (fun W => rmay_any b hsz.1 hsz.2 W)
    have HAW := Lib.hid awake_any
    rw [BV.agg] at HL HM HR ⊢
    obtain ⟨w0, hw0⟩ : ∃ w0, w.alloc (.cells #[.int .i64 b.cl, .int .i64 b.kd, .int .u64 (b.id : Nat), .int .u64 (b.ver : Nat), .int .u64 (b.ep : Nat), .string b.key, .string b.val] 24) = w0 := ⟨_, rfl⟩
    rw [hw0, hp] at HN
    have HB0 : Hid (Below p w w0) := (by rw [← hp, ← hw0]; exact (Below.refl _ _).alloc (Nat.le_refl _) _)
    clear hlg hsz
    generalize mayB b = r at *
    obtain ⟨cl, kd, id, ver, ep, key, val⟩ := b
    simp only at *
    obtain ⟨c0, c1, c2, c3, c4, c5, c6⟩ := HN.out.cells
    cases r
    all_goals
      go_enter Try.func3, Try.ntmps3
      go_wp2_with fail
      go_region_held3 (fun w' => w'.cell? ⟨p, 0, none⟩ = some (.int .i64 cl) ∧ w'.cell? ⟨p, 1, none⟩ = some (.int .i64 kd) ∧ w'.cell? ⟨p, 2, none⟩ = some (.int .u64 (id : Nat)) ∧ w'.cell? ⟨p, 3, none⟩ = some (.int .u64 (ver : Nat)) ∧ w'.cell? ⟨p, 4, none⟩ = some (.int .u64 (ep : Nat)) ∧ w'.cell? ⟨p, 5, none⟩ = some (.string key) ∧ w'.cell? ⟨p, 6, none⟩ = some (.string val)) (go_keep)
        (first
          | (go_at_call 11; refine (HL.out _).mono ?_; rintro e w1 ⟨rfl, hb⟩; have HN1 := Lib.hid (Box.below (w := w0.drew) HN.out hb HN.out.lt); have HB1 : Hid (Below p w w1) := HB0.out.drew.trans (hb.mono (Nat.le_of_lt HN.out.lt)); obtain ⟨d0, d1, d2, d3, d4, d5, d6⟩ := HN1.out.cells; clear hb)
          | (go_at_call 12; refine (HM.out _).mono ?_; rintro e w2 ⟨rfl, hb⟩; have HN2 := Lib.hid (HN1.out.below hb HN1.out.lt); have HB2 : Hid (Below p w w2) := HB1.out.trans (hb.mono (Nat.le_of_lt HN1.out.lt)); obtain ⟨e0, e1, e2, e3, e4, e5, e6⟩ := HN2.out.cells; clear hb)
          | (go_at_call 13; refine (HR.out _).mono ?_; rintro e w3 ⟨rfl, hb⟩; have HN3 := Lib.hid (HN2.out.below hb HN2.out.lt); have HB3 : Hid (Below p w w3) := HB2.out.trans (hb.mono (Nat.le_of_lt HN2.out.lt)); obtain ⟨f0, f1, f2, f3, f4, f5, f6⟩ := HN3.out.cells; clear hb)
          | (go_at_call 14; refine (HAW.out _).mono ?_; rintro e w4 ⟨rfl, hb⟩; have HN4 := Lib.hid (HN3.out.below hb HN3.out.lt); have HB4 : Hid (Below p w w4) := HB3.out.trans (hb.mono (Nat.le_of_lt HN3.out.lt)); obtain ⟨g0, g1, g2, g3, g4, g5, g6⟩ := HN4.out.cells; clear hb))
      go_wp2
      go_ret
      exact ⟨rfl, by rw [HP.out]; exact HB4.out⟩

set_option maxRecDepth 100000 in
theorem lifted (os : Os) (started : os.Started) (H : Type) (enc : TypeId × Value → H) :
    ReturnsInHanded {} Try.checked os 3 .any (Rows.blockMaySpec.pre6 enc Try.prog Try.f3 Rows.blockMayRow.domain false) (Rows.blockMaySpec.post enc Try.prog Try.f3 false true false false) := by
  refine returnsInHanded_of_change (C := Try.checked) own started (by kernel_rfl) Try.func3
    (ChangeSpec.witness6 (enc := enc) (C := Try.checked) false ⟨#[], #[.agg #[.int .i64 0, .int .i64 0, .int .u64 0, .int .u64 0, .int .u64 0, .string ⟨#[]⟩, .string ⟨#[]⟩]], []⟩ 8 (by kernel_rfl) (by kernel_rfl) (by kernel_rfl) (by kernel_rfl)) ?_
  intro W base args ds gs before hval0 hW hcnd _
  have hval : ∀ (j : Nat) t v, Try.f3.params[j]? = some t → args[j]? = some v → Value.okWide Try.prog W .any base t v := hval0
  have hW' := hW
  obtain ⟨p, q, hA0, hV, rfl, hfz, hnd⟩ := hW
  have hA : DataW.TrodAll enc Try.prog W 0 (fun _ => true) true Try.f3.params.toList args.toList ds p := hA0
  rw [Try.params3] at hA hval
  obtain ⟨v0, vs0, d0, ds0, p0, q0, hargs, rfl, rfl, h0, r0⟩ := trodAll_cons hA
  obtain ⟨rfl, rfl, rfl⟩ := trodAll_nil r0
  obtain rfl : args = #[v0] := by cases args; simp_all
  obtain ⟨rfl, rfl⟩ := trodVars_none hV
  obtain ⟨z0, rfl, w0⟩ := isBlock_of (hval 0 24 v0 rfl rfl) h0
  have k0 := h0
  have lt0 : ∀ x ∈ p0, x.block < W.heap.size := by obtain ⟨m, hm⟩ := k0; exact DataW.trod_lt m _ _ _ hm
  clear hA0 hval0
  refine (walk z0 W w0).mono fun e W' ⟨he, bel⟩ => ?_
  subst he
  exact ⟨_, rfl, _, _, _, [], _, [], hW', trodAll_mk1 (shut_bool Try.underlying4 _), (trodAll_cons_mk (Below.trod laidOut (by kernel_rfl) (of_decide_eq_true (by kernel_rfl)) k0 bel lt0) trodAll_mk0), rfl, bel.frame _, fun h => by cases h⟩

theorem over : Rows.blockMayRow.holds Try.pinned (OpenSpec.ofChange Rows.blockMaySpec) :=
  OpenClaim.holds_of_wide 3 Try.f3 rfl rfl rfl rfl rfl rfl rfl ⟨rfl, rfl, rfl, rfl, rfl⟩ rfl rfl rfl rfl rfl (by kernel_rfl) Try.func3 (by kernel_rfl)
    (of_decide_eq_true (by kernel_rfl)) (by unfold Func.isWrapper; first | (rw [if_pos (by decide +kernel)]; kernel_rfl) | (rw [if_neg (by decide +kernel)]; exact ⟨rfl, rfl⟩))
    (fun os started H enc _ => lifted os started H enc)

theorem proved : Rows.BlockMaySaid := over
#print axioms proved
end Go.Proofs.Ytokobelmoanneaa.blockMay
