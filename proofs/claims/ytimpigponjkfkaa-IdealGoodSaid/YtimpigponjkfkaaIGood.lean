/-
Proved here: IdealGood.
  Conditions: none.
-/
import Derived.Test.YtimpigponjkfkaaRows
import Derived.Test.YtimpigponjkfkaaLarge15
import Derived.Test.YtimpigponjkfkaaNum
import Derived.IntWalk
import Derived.WalkSmall
import Derived.Deep.QuietTactic
import Derived.BigQuiet
import Derived.WalkKit
import Derived.ProofKit
import Derived.OpenShut
import Derived.ShutString
import Derived.ChangeOld
import Derived.Below
namespace Go.Proofs.Ytimpigponjkfkaa.idealGood
open Go.ChangeShapes Go.WideShapes Go.ChangeAt Go.RowKit
open Go.ChangeMaps (open_string shut_string)
set_option linter.unusedVariables false

theorem own : ownKnob Try.prog.godebug = none := by kernel_rfl
theorem laidOut : laidOutB Try.prog = true := by kernel_rfl

set_option maxRecDepth 100000 in
set_option maxHeartbeats 1600000 in
theorem walk (x : Cal) (G : List Cal) (w : World) (hG : GrpIn w x G) :
    Calls Try.prog 3 #[x.agg] w fun e w' => e = .returned (.bool true) ∧ Below w.heap.size w w' := by
  unfold Cal.agg
  obtain ⟨g, hg⟩ : ∃ g, w.heap.size = g := ⟨_, rfl⟩
  obtain ⟨w1, hw1⟩ : ∃ w1, w.alloc (.cells #[.int .i64 x.kd, .string x.key, .string x.val, .string x.to_, .slice x.ga x.gn x.gc] 24) = w1 := ⟨_, rfl⟩
  have HXg : Hid (CBox w1 g x) := by rw [← hw1, ← hg]; exact heap_alloc_new w _
  have HBg : Hid (Below g w w1) := by rw [← hw1, ← hg]; exact (Below.refl _ _).alloc (Nat.le_refl _) _
  have HGg : Hid (w.heap.size = g) := hg
  have HLG : Hid (∀ w2, Below g w w2 → Calls Try.prog 12 #[.agg #[.slice none 0 0, .slice none 0 0], .agg #[.int .i64 x.kd, .string x.key, .string x.val, .string x.to_, .slice x.ga x.gn x.gc]] w2 (LargeTo w2 [] [] G)) := fun w2 hb => large_any w2 none none 0 0 0 0 [] [] x G (RP.is_nil _) (RS.is_nil _) (hG.1.below (hg.symm ▸ hb))
  have HGG : Hid (∀ w2, Below g w w2 → Fit [] [] G → Grp w2 x G) := fun w2 hb hf => hf.grp (hG.below (hg.symm ▸ hb))
  have HGO : Hid (∀ w2, Grp w2 x G → Calls Try.prog 15 #[.agg #[.int .i64 x.kd, .string x.key, .string x.val, .string x.to_, .slice x.ga x.gn x.gc]] w2 fun e w' => e = .returned (.int .i64 (goodN x G)) ∧ Below w2.heap.size w2 w') := fun w2 h => good_any x G w2 h
  have HRG : Hid (∀ w2, Grp w2 x G → Calls Try.prog 16 #[.agg #[.int .i64 x.kd, .string x.key, .string x.val, .string x.to_, .slice x.ga x.gn x.gc]] w2 fun e w' => e = .returned (.int .i64 (goodN x G)) ∧ Below w2.heap.size w2 w') := fun w2 h => rgood_any x G w2 h
  have HNU := Lib.hid num_any
  have HAW := Lib.hid awake15_any
  rw [hg]
  obtain ⟨c0, c1, c2, c3, c4⟩ := HXg.out.at_
  clear hG
  go_enter Try.func3, Try.ntmps3
  go_wp2_with fail
  refine (HLG.out w1 HBg.out).mono ?_
  clear hw1 hg
  rintro e w2 ⟨b, rfl, hf, hb2⟩
  have HB2 : Hid (Below g w w2) := HBg.out.trans (hb2.mono (by have := HXg.out.lt; omega))
  have HX2 := Lib.hid (HXg.out.below hb2 HXg.out.lt)
  clear hb2 c0 c1 c2 c3 c4
  obtain ⟨c0, c1, c2, c3, c4⟩ := HX2.out.at_
  cases b with
  | true =>
    clear hf
    go_wp2_with fail
    refine (HAW.out w2).mono ?_
    rintro e w3 ⟨rfl, hb3⟩
    have HB3 : Hid (Below g w w3) := HB2.out.trans (hb3.mono (by have := HX2.out.lt; omega))
    clear hb3
    go_wp2
    go_ret
    exact ⟨rfl, HB3.out⟩
  | false =>
    have HF := Lib.hid (hf rfl)
    clear hf
    have HD : Hid (Below g w w2.drew) := HB2.out.drew
    have HX3 : Hid (CBox w2.drew g x) := HX2.out
    have HG2 := Lib.hid (HGG.out w2.drew HD.out HF.out)
    have hee : (goodN x G == goodN x G) = true := by simp
    obtain ⟨r, hr⟩ : ∃ r, goodN x G = r := ⟨_, rfl⟩
    rw [hr] at HGO HRG hee
    clear hr
    go_wp2_with fail
    go_region_held3 (fun w' => w'.cell? ⟨g, 0, none⟩ = some (.int .i64 x.kd) ∧ w'.cell? ⟨g, 1, none⟩ = some (.string x.key) ∧ w'.cell? ⟨g, 2, none⟩ = some (.string x.val) ∧ w'.cell? ⟨g, 3, none⟩ = some (.string x.to_) ∧ w'.cell? ⟨g, 4, none⟩ = some (.slice x.ga x.gn x.gc)) (go_keep)
      (first
        | (go_at_call 15; refine (HGO.out _ HG2.out).mono ?_; rintro e x3 ⟨rfl, hb⟩; have HG4 := Lib.hid (HG2.out.below hb); have HX4 := Lib.hid (HX3.out.below hb HX3.out.lt); have HB4 : Hid (Below g w x3) := HD.out.trans (hb.mono (Nat.le_of_lt HX3.out.lt)); obtain ⟨d0, d1, d2, d3, d4⟩ := HX4.out.at_; clear hb)
        | (go_at_call 14; refine (HNU.out _ _).mono ?_; rintro e x4 ⟨rfl, rfl⟩)
        | (go_at_call 16; refine (HRG.out _ HG4.out).mono ?_; rintro e x5 ⟨rfl, hb⟩; have HX5 := Lib.hid (HX4.out.below hb HX4.out.lt); have HB5 : Hid (Below g w x5) := HB4.out.trans (hb.mono (Nat.le_of_lt HX4.out.lt)); obtain ⟨f0, f1, f2, f3, f4⟩ := HX5.out.at_; clear hb)
        | (go_at_call 13; refine (HAW.out _).mono ?_; rintro e x6 ⟨rfl, hb⟩; have HX6 := Lib.hid (HX5.out.below hb HX5.out.lt); have HB6 : Hid (Below g w x6) := HB5.out.trans (hb.mono (Nat.le_of_lt HX5.out.lt)); obtain ⟨h0, h1, h2, h3, h4⟩ := HX6.out.at_; clear hb))
    go_wp2
    go_ret
    exact ⟨rfl, HB6.out⟩

set_option maxRecDepth 100000 in
theorem lifted (os : Os) (started : os.Started) (H : Type) (enc : TypeId × Value → H) :
    ReturnsInHanded {} Try.checked os 3 .any (Rows.idealGoodSpec.pre6 enc Try.prog Try.f3 Rows.idealGoodRow.domain false) (Rows.idealGoodSpec.post enc Try.prog Try.f3 false true false false) := by
  refine returnsInHanded_of_change (C := Try.checked) own started (by kernel_rfl) Try.func3
    (ChangeSpec.witness6 (enc := enc) (C := Try.checked) false ⟨#[], #[.agg #[.int .i64 0, .string ByteArray.empty, .string ByteArray.empty, .string ByteArray.empty, .slice none 0 0]], []⟩ 8 (by kernel_rfl) (by kernel_rfl) (by kernel_rfl) (by kernel_rfl)) ?_
  intro W base args ds gs before hval0 hW hcnd _
  have hval : ∀ (j : Nat) t v, Try.f3.params[j]? = some t → args[j]? = some v → Value.okWide Try.prog W .any base t v := hval0
  have hW' := hW
  obtain ⟨p, q, hA0, hV, rfl, hfz, hnd⟩ := hW
  have hA : DataW.TrodAll enc Try.prog W 0 (fun _ => true) true Try.f3.params.toList args.toList ds p := hA0
  rw [Try.params3] at hA hval
  obtain ⟨v0, vs0, d0, ds0, p0, q0, hargs, rfl, rfl, h0, r0⟩ := trodAll_cons hA
  obtain ⟨rfl, rfl, rfl⟩ := trodAll_nil r0
  obtain rfl : args = #[v0] := by cases args; simp_all
  obtain ⟨rfl, rfl⟩ := trodVars_none hV
  obtain ⟨z0, rfl, y0, w0⟩ := isCall_of (hval 0 24 v0 rfl rfl) h0
  have k0 := h0
  have lt0 : ∀ x ∈ p0, x.block < W.heap.size := by obtain ⟨m, hm⟩ := k0; exact DataW.trod_lt m _ _ _ hm
  clear hA0 hval0
  refine (walk z0 y0 W w0).mono fun e W' ⟨he, bel⟩ => ?_
  subst he
  exact ⟨_, rfl, _, _, _, [], _, [], hW', trodAll_mk1 (shut_bool Try.underlying4 _), (trodAll_cons_mk (Below.trod laidOut (by kernel_rfl) (of_decide_eq_true (by kernel_rfl)) k0 bel lt0) trodAll_mk0), rfl, bel.frame _, fun h => by cases h⟩

theorem over : Rows.idealGoodRow.holds Try.pinned (OpenSpec.ofChange Rows.idealGoodSpec) :=
  OpenClaim.holds_of_wide 3 Try.f3 rfl rfl rfl rfl rfl rfl rfl ⟨rfl, rfl, rfl, rfl, rfl⟩ rfl rfl rfl rfl rfl (by kernel_rfl) Try.func3 (by kernel_rfl)
    (of_decide_eq_true (by kernel_rfl)) (by unfold Func.isWrapper; first | (rw [if_pos (by decide +kernel)]; kernel_rfl) | (rw [if_neg (by decide +kernel)]; exact ⟨rfl, rfl⟩))
    (fun os started H enc _ => lifted os started H enc)

theorem proved : Rows.IdealGoodSaid := over
#print axioms proved
end Go.Proofs.Ytimpigponjkfkaa.idealGood
