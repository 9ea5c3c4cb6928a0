/-
Proved here: IdealBegins.
  Conditions: none.
-/
import Derived.Test.YtimpigponjkfkaaRows
import Derived.Test.YtimpigponjkfkaaAwake15
import Derived.Test.YtimpigponjkfkaaCallIn15
import Derived.Test.YtimpigponjkfkaaLarge15
import Derived.Test.YtimpigponjkfkaaFrame15
import Derived.IntWalk
import Derived.WalkSmall
import Derived.Deep.QuietTactic
import Derived.BigQuiet
import Derived.WalkKit
import Derived.ProofKit
import Derived.OpenShut
import Derived.ShutString
import Derived.ChangeOld
import Derived.Below
namespace Go.Proofs.Ytimpigponjkfkaa.idealBegins
open Go.ChangeShapes Go.WideShapes Go.ChangeAt Go.RowKit
open Go.ChangeMaps (open_string shut_string)
set_option linter.unusedVariables false

theorem own : ownKnob Try.prog.godebug = none := by kernel_rfl
theorem laidOut : laidOutB Try.prog = true := by kernel_rfl

set_option maxRecDepth 100000 in
set_option maxHeartbeats 3200000 in
theorem walk (c : Cal) (G : List Cal) (w : World) (hG : GrpIn w c G) :
    Calls Try.prog 11 #[c.agg] w fun e w' => e = .returned (.bool true) ∧ Below w.heap.size w w' := by
  unfold Cal.agg
  obtain ⟨g, hg⟩ : ∃ g, w.heap.size = g := ⟨_, rfl⟩
  obtain ⟨w1, hw1⟩ : ∃ w1, w.alloc (.cells #[.int .i64 c.kd, .string c.key, .string c.val, .string c.to_, .slice c.ga c.gn c.gc] 24) = w1 := ⟨_, rfl⟩
  have HXg : Hid (CBox w1 g c) := by rw [← hw1, ← hg]; exact heap_alloc_new w _
  have HBg : Hid (Below g w w1) := by rw [← hw1, ← hg]; exact (Below.refl _ _).alloc (Nat.le_refl _) _
  have HGg : Hid (w.heap.size = g) := hg
  have HLG : Hid (Calls Try.prog 12 #[.agg #[.slice none 0 0, .slice none 0 0], .agg #[.int .i64 c.kd, .string c.key, .string c.val, .string c.to_, .slice c.ga c.gn c.gc]] w1 (LargeTo w1 [] [] G)) := large_any w1 none none 0 0 0 0 [] [] c G (RP.is_nil _) (RS.is_nil _) (hG.1.below (hg.symm ▸ HBg.out))
  have HGR : Hid (∀ v, Below g w v → Fit [] [] G → Grp v c G) := fun v hv hf => hf.grp (hG.below (hg.symm ▸ hv))
  have HLC : Hid (∀ v, Grp v c G → Calls Try.prog 19 #[.agg #[.int .i64 c.kd, .string c.key, .string c.val, .string c.to_, .slice c.ga c.gn c.gc]] v (CallTo v c G)) := fun v h => lcall_any c G v h
  have HBE : Hid (∀ v x, Grp v x G → Calls Try.prog 35 #[.agg #[.int .i64 x.kd, .string x.key, .string x.val, .string x.to_, .slice x.ga x.gn x.gc]] v (BeginTo v x G)) := fun v x h => begin_any x G v h
  have HSF : Hid (∀ (v : World) (p q : Option Addr) (cp cq : Nat) (M : List Cal), RC.Row v p M → RC.Row v q G → AlikeL G M → Calls Try.prog 34 #[.agg (frC c.kd c.key c.val c.to_ p c.gn cp (-1)).toArray, .agg (frC c.kd c.key c.val c.to_ q c.gn cq (-1)).toArray] v fun e w' => e = .returned (.bool true) ∧ Below v.heap.size v w') := fun v p q cp cq M h1 h2 ha => samef_any c.kd c.key c.val c.to_ (-1) hG.1.1 h1 h2 ha
  have HLN : Hid (G.length = c.gn) := hG.1.1
  have HAW := Lib.hid awake15_any
  have HZS := Lib.hid zero_shelf
  obtain ⟨c0, c1, c2, c3, c4⟩ := HXg.out.at_
  rw [hg]
  clear hG
  go_enter Try.func11, Try.ntmps11
  go_wp2_with fail
  refine HLG.out.mono ?_
  clear hg hw1 c0 c1 c2 c3 c4
  rintro e w3 ⟨b, rfl, hf, hb⟩
  have HC3 := Lib.hid ((hb.block g HXg.out.lt).trans HXg.out)
  have HB3 : Hid (Below g w w3) := HBg.out.trans (hb.mono (Nat.le_of_lt HXg.out.lt))
  clear hb
  have HL3 : Hid (g < w3.heap.size) := lt_of_heap HC3.out
  cases b with
  | true =>
    clear hf
    go_wp2_with fail
    refine (HAW.out w3).mono ?_
    rintro e w4 ⟨rfl, hb⟩
    have HB4 := Lib.hid (HB3.out.trans (hb.mono (Nat.le_of_lt HL3.out)))
    clear hb
    go_wp2
    go_ret
    exact ⟨rfl, HB4.out⟩
  | false =>
    have HF := Lib.hid (hf rfl)
    clear hf
    have HLM : Hid (G.length ≤ 1048576) := by have := HF.out.2.2.1; show _ ≤ _; omega
    have HDR : Hid (Below g w w3.drew) := HB3.out.drew
    have HKE : Hid (∀ v, Below w3.heap.size w3 v → v.cell? ⟨g, 0, none⟩ = some (.int .i64 c.kd) ∧ v.cell? ⟨g, 1, none⟩ = some (.string c.key) ∧ v.cell? ⟨g, 2, none⟩ = some (.string c.val) ∧ v.cell? ⟨g, 3, none⟩ = some (.string c.to_) ∧ v.cell? ⟨g, 4, none⟩ = some (.slice c.ga c.gn c.gc)) := fun v hv => cells5 ((hv.block g HL3.out).trans HC3.out)
    have HDD : Hid (Below w3.heap.size w3 w3.drew) := (Below.refl _ _).drew
    obtain ⟨c0, c1, c2, c3, c4⟩ := HKE.out w3 (Below.refl _ _)
    go_upto_region 3 with fail
    go_region_held3 (fun v => v.cell? ⟨g, 0, none⟩ = some (.int .i64 c.kd) ∧ v.cell? ⟨g, 1, none⟩ = some (.string c.key) ∧ v.cell? ⟨g, 2, none⟩ = some (.string c.val) ∧ v.cell? ⟨g, 3, none⟩ = some (.string c.to_) ∧ v.cell? ⟨g, 4, none⟩ = some (.slice c.ga c.gn c.gc)) (go_keep)
      (first
        | (go_at_call 19; refine (HLC.out w3.drew (HGR.out _ HDR.out HF.out)).mono ?_; rintro e v4 ⟨A4, c4', rfl, ho, hb⟩; have V4 := Lib.hid (HDD.out.trans hb); have HG4 := Lib.hid (grp_own ho HLN.out HLM.out (HGR.out _ HDR.out HF.out).flat); clear ho hb; obtain ⟨u0, u1, u2, u3, u4⟩ := HKE.out v4 V4.out)
        | (go_at_call 35; refine (HBE.out v4 { c with ga := A4, gc := c4' } HG4.out).mono ?_; rintro e v5 ⟨A5, c5', M, rfl, ho, ha, hb⟩; have V5 := Lib.hid (V4.out.trans (hb.mono V4.out.size)); obtain ⟨-, _, _, ee, -, -, hrow, -, -⟩ := Rec.row_of_own ho (by rw [ha.1]; exact HLM.out); cases ee; have HR5 := Lib.hid hrow; have HA5 := Lib.hid ha; clear ho ha hb hrow; obtain ⟨x0, x1, x2, x3, x4⟩ := HKE.out v5 V5.out)
        | (go_at_call 34; refine (HSF.out v5 A5 c.ga c5' c.gc M HR5.out (HGR.out _ (HB3.out.trans (V5.out.mono (Nat.le_of_lt HL3.out))) HF.out).row HA5.out).mono ?_; rintro e v6 ⟨rfl, hb⟩; have V6 := Lib.hid (V5.out.trans (hb.mono V5.out.size)); clear hb; obtain ⟨y0, y1, y2, y3, y4⟩ := HKE.out v6 V6.out)
        | (go_at_call 13; refine (HAW.out v6).mono ?_; rintro e v7 ⟨rfl, hb⟩; have V7 := Lib.hid (V6.out.trans (hb.mono V6.out.size)); clear hb; obtain ⟨z0, z1, z2, z3, z4⟩ := HKE.out v7 V7.out)
        | fail)
    go_wp2
    go_ret
    exact ⟨rfl, HB3.out.trans (V7.out.mono (Nat.le_of_lt HL3.out))⟩

set_option maxRecDepth 100000 in
theorem lifted (os : Os) (started : os.Started) (H : Type) (enc : TypeId × Value → H) :
    ReturnsInHanded {} Try.checked os 11 .any (Rows.idealBeginsSpec.pre6 enc Try.prog Try.f11 Rows.idealBeginsRow.domain false) (Rows.idealBeginsSpec.post enc Try.prog Try.f11 false true false false) := by
  refine returnsInHanded_of_change (C := Try.checked) own started (by kernel_rfl) Try.func11
    (ChangeSpec.witness6 (enc := enc) (C := Try.checked) false ⟨#[], #[.agg #[.int .i64 0, .string ByteArray.empty, .string ByteArray.empty, .string ByteArray.empty, .slice none 0 0]], []⟩ 8 (by kernel_rfl) (by kernel_rfl) (by kernel_rfl) (by kernel_rfl)) ?_
  intro W base args ds gs before hval0 hW hcnd _
  have hval : ∀ (j : Nat) t v, Try.f11.params[j]? = some t → args[j]? = some v → Value.okWide Try.prog W .any base t v := hval0
  have hW' := hW
  obtain ⟨p, q, hA0, hV, rfl, hfz, hnd⟩ := hW
  have hA : DataW.TrodAll enc Try.prog W 0 (fun _ => true) true Try.f11.params.toList args.toList ds p := hA0
  rw [Try.params11] at hA hval
  obtain ⟨v0, vs0, d0, ds0, p0, q0, hargs, rfl, rfl, h0, r0⟩ := trodAll_cons hA
  obtain ⟨rfl, rfl, rfl⟩ := trodAll_nil r0
  obtain rfl : args = #[v0] := by cases args; simp_all
  obtain ⟨rfl, rfl⟩ := trodVars_none hV
  obtain ⟨z0, rfl, y0, w0⟩ := isCall_of (hval 0 24 v0 rfl rfl) h0
  have k0 := h0
  have lt0 : ∀ x ∈ p0, x.block < W.heap.size := by obtain ⟨m, hm⟩ := k0; exact DataW.trod_lt m _ _ _ hm
  clear hA0 hval0
  refine (walk z0 y0 W w0).mono fun e W' ⟨he, bel⟩ => ?_
  subst he
  exact ⟨_, rfl, _, _, _, [], _, [], hW', trodAll_mk1 (shut_bool Try.underlying4 _), (trodAll_cons_mk (Below.trod laidOut (by kernel_rfl) (of_decide_eq_true (by kernel_rfl)) k0 bel lt0) trodAll_mk0), rfl, bel.frame _, fun h => by cases h⟩

theorem over : Rows.idealBeginsRow.holds Try.pinned (OpenSpec.ofChange Rows.idealBeginsSpec) :=
  OpenClaim.holds_of_wide 11 Try.f11 rfl rfl rfl rfl rfl rfl rfl ⟨rfl, rfl, rfl, rfl, rfl⟩ rfl rfl rfl rfl rfl (by kernel_rfl) Try.func11 (by kernel_rfl)
    (of_decide_eq_true (by kernel_rfl)) (by unfold Func.isWrapper; first | (rw [if_pos (by decide +kernel)]; kernel_rfl) | (rw [if_neg (by decide +kernel)]; exact ⟨rfl, rfl⟩))
    (fun os started H enc _ => lifted os started H enc)

theorem proved : Rows.IdealBeginsSaid := over
#print axioms proved
end Go.Proofs.Ytimpigponjkfkaa.idealBegins
