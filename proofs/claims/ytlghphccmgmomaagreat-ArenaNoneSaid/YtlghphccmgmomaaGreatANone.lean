/-
  Proved here: of no arena each call says so, and a store of ten lines does what the chapter's first words say.
  Conditions: none.
-/
import Derived.Test.YtlghphccmgmomaaGreatRows
import Derived.Test.YtlghphccmgmomaaGreatJN50
import Derived.Test.YtlghphccmgmomaaGreatJN48
import Derived.IntWalk
import Derived.WalkSmall
import Derived.Deep.QuietTactic
import Derived.BigQuiet
import Derived.WalkKit
import Derived.ProofKit
import Derived.OpenShut
import Derived.ShutString
import Derived.ChangeOld
import Derived.Below
namespace Go.Proofs.YtlghphccmgmomaaGreat.arenaNone
open Go.ChangeShapes Go.WideShapes Go.ChangeAt Go.RowKit
open Go.ChangeMaps (open_string shut_string)
set_option linter.unusedVariables false

theorem own : ownKnob Tryz.prog.godebug = none := by kernel_rfl
theorem laidOut : laidOutB Tryz.prog = true := by kernel_rfl

theorem field_rooms (w : World) : (Instr.field 64 (.agg #[.slice none 0 0, .slice none 0 0, .slice none 0 0, .slice none 0 0, .slice none 0 0]) 0).run Tryz.prog w = .ok (.slice none 0 0) w := by
  first | kernel_rfl | (simp [go_sem]; rfl) | (simp [go_sem])
theorem guard_entry16 : Tryz.prog.eqGuardType Tryz.prog.depth 34 = false := by kernel_rfl
set_option maxRecDepth 100000 in
set_option maxHeartbeats 6400000 in
theorem walk (t e : Int) (w : World) (w0 : (Lit.int .i64 t).wf = true) (w1 : (Lit.int .u64 e).wf = true) :
    Calls Tryz.prog 3 #[.int .i64 t, .int .u64 e] w fun y w' => y = .returned (.bool true) ∧ Below w.heap.size w w' := by
  have HPU := Lib.hid (fun A n c w1 => arpublish_nil t e A n c w1)
  have HRE := Lib.hid (fun w1 => arrelease_nil w1)
  have HNU := Lib.hid (fun w1 => arnumbers_nil w1)
  have HSH := Lib.hid (fun w1 => arshelf_nil w1)
  have HEF := Lib.hid (fun w1 => areffects_nil w1)
  have HRO := Lib.hid (fun w1 => arrooms_nil none 0 0 w1)
  have HAW := Lib.hid (fun w1 => awake16_any w1)
  have HDEV := Lib.hid (fun w1 => ardev_nil w1)
  have HPOOL := Lib.hid (fun w1 => arpool_nil w1)
  have HREADERS := Lib.hid (fun w1 => arreaders_nil w1)
  have HCLOCK := Lib.hid (fun w1 => arclock_nil w1)
  have HBAG := Lib.hid (fun w1 => arbag_nil w1)
  have HTABLE := Lib.hid (fun w1 => artable_nil w1)
  have HORDER := Lib.hid (fun w1 => arorder_nil w1)
  have HLINE := Lib.hid (fun w1 => arline_nil w1)
  have HZE := Lib.hid zero_entry
  have HZS := Lib.hid zero_shelf
  have hgu := guard_entry16
  have hfr := fun w1 => field_rooms w1
  have HCH : Hid (∀ X V W, Below w.heap.size w X → Below X.heap.size X W → V = W → Below w.heap.size w V) := fun X V W h1 h2 e => e ▸ h1.trans (h2.mono h1.size)
  have HB0 : Hid (Below w.heap.size w (w.alloc (.cells #[.int .i64 4, .string ⟨#[]⟩, .string ⟨#[]⟩, .bool false, .string ⟨#[]⟩, .int .u64 0, .int .u64 0, .int .i64 0, .int .i64 0, .int .i64 0, .int .i64 0] 31))) := (Below.refl _ _).alloc (Nat.le_refl _) _
  clear w0 w1
  go_enter Tryz.func3, Tryz.ntmps3
  go_wp2_with fail
  refine (HPU.out _ _ _ _).mono ?_
  rintro y w1 ⟨rfl, hb⟩
  have HB1 := Lib.hid (HCH.out _ _ _ HB0.out hb rfl)
  clear hb
  go_wp2_with fail
  refine (HRE.out _).mono ?_
  rintro y w2 ⟨rfl, hb⟩
  have HB2 := Lib.hid (HCH.out _ _ _ HB1.out hb rfl)
  obtain ⟨g8, hg8⟩ : ∃ g, w2.heap.size = g := ⟨_, rfl⟩
  have HG8 := Lib.hid hg8
  clear hb hg8
  go_wp2_with (first
    | ((with_reducible show wpList _ _ _ (⟨some 8, .alloc _, _, _, _, _⟩ :: _) _ _); refine wpList_alloc_var (o := ⟨some 8, _, _, _, _, _⟩) rfl 34 rfl g8 HG8.out _ HZE.out ?_; intro v3 H3 B3)
    | ((with_reducible show wpList _ _ _ (⟨none, .store _ (.tmp 8) _, _, _, _, _⟩ :: _) _ _); refine wpList_store_whole (o := ⟨none, .store 34 (.tmp 8) (.tmp 26), _, _, _, _⟩) rfl _ _ _ rfl rfl g8 #[.int .i64 0, .int .i64 0, .int .u64 0, .int .u64 0, .int .i64 0] rfl rfl 34 _ H3.out size_entry rfl (by decide +kernel) ?_; intro v4 H4 B4; have HB4 := Lib.hid (HCH.out _ _ _ HB2.out (HG8.out.symm ▸ B3.out.trans B4.out) rfl))
    | fail)
  refine (HNU.out _).mono ?_
  rintro y w5 ⟨rfl, hb⟩
  have HB5 := Lib.hid (HCH.out _ _ _ HB4.out hb rfl)
  have H5 := Lib.hid ((hb.block g8 (lt_of_heap H4.out)).trans H4.out)
  clear hb
  go_wp2_with fail
  refine (HSH.out _).mono ?_
  rintro y w6 ⟨rfl, hb⟩
  have HB6 := Lib.hid (HCH.out _ _ _ HB5.out hb rfl)
  have H6 := Lib.hid ((hb.block g8 (lt_of_heap H5.out)).trans H5.out)
  obtain ⟨g12, hg12⟩ : ∃ g, w6.heap.size = g := ⟨_, rfl⟩
  have HG12 := Lib.hid hg12
  have HL8 : Hid (g8 < g12) := hg12 ▸ lt_of_heap H6.out
  clear hb hg12
  go_wp2_with (first
    | ((with_reducible show wpList _ _ _ (⟨some 12, .alloc _, _, _, _, _⟩ :: _) _ _); refine wpList_alloc_var (o := ⟨some 12, _, _, _, _, _⟩) rfl 42 rfl g12 HG12.out _ HZS.out ?_; intro v7 H7 B7)
    | ((with_reducible show wpList _ _ _ (⟨none, .store _ (.tmp 12) _, _, _, _, _⟩ :: _) _ _); refine wpList_store_whole (o := ⟨none, .store 42 (.tmp 12) (.tmp 34), _, _, _, _⟩) rfl _ _ _ rfl rfl g12 #[.slice none 0 0, .slice none 0 0] rfl rfl 42 _ H7.out size_shelf rfl (by decide +kernel) ?_; intro v8 H8 B8; have HB8 := Lib.hid (HCH.out _ _ _ HB6.out (HG12.out.symm ▸ B7.out.trans B8.out) rfl); have H68 := Lib.hid (((B7.out.trans B8.out).block g8 HL8.out).trans H6.out); obtain ⟨p0, p1, p2, p3, p4⟩ := cells5 H68.out; obtain ⟨s0, s1⟩ := cells2 H8.out)
    | (go_at_call 8; refine (HDEV.out _).mono ?_; rintro y w' ⟨rfl, rfl⟩)
    | (go_at_call 9; refine (HPOOL.out _).mono ?_; rintro y w' ⟨rfl, rfl⟩)
    | (go_at_call 10; refine (HREADERS.out _).mono ?_; rintro y w' ⟨rfl, rfl⟩)
    | (go_at_call 11; refine (HCLOCK.out _).mono ?_; rintro y w' ⟨rfl, rfl⟩)
    | (go_at_call 12; refine (HBAG.out _).mono ?_; rintro y w' ⟨rfl, rfl⟩)
    | (go_at_call 13; refine (HTABLE.out _).mono ?_; rintro y w' ⟨rfl, rfl⟩)
    | (go_at_call 14; refine (HORDER.out _).mono ?_; rintro y w' ⟨rfl, rfl⟩)
    | (go_at_call 15; refine (HLINE.out _).mono ?_; rintro y w' ⟨rfl, rfl⟩)
    | (go_at_call 16; refine (HEF.out _).mono ?_; rintro y w9 ⟨rfl, hb⟩; have HB9 := Lib.hid (HCH.out _ _ _ HB8.out hb rfl); have H9 := Lib.hid ((hb.block g12 (lt_of_heap H8.out)).trans H8.out); obtain ⟨s0, s1⟩ := cells2 H9.out; clear hb)
    | (go_at_call 17; refine (HRO.out _).mono ?_; rintro y w10 ⟨rfl, hb⟩; have HB10 := Lib.hid (HCH.out _ _ _ HB9.out hb rfl); clear hb)
    | (go_at_call 18; refine (HAW.out _).mono ?_; rintro y w11 ⟨rfl, hb⟩; have HB11 := Lib.hid (HCH.out _ _ _ HB10.out hb rfl); clear hb)
    | fail)
  go_ret
  exact ⟨by simp, HB11.out⟩

set_option maxRecDepth 100000 in
theorem lifted (os : Os) (started : os.Started) (H : Type) (enc : TypeId × Value → H) :
    ReturnsInHanded {} Tryz.checked os 3 .any (Rows.arenaNoneSpec.pre6 enc Tryz.prog Tryz.f3 Rows.arenaNoneRow.domain false) (Rows.arenaNoneSpec.post enc Tryz.prog Tryz.f3 false true false false) := by
  refine returnsInHanded_of_change (C := Tryz.checked) own started (by kernel_rfl) Tryz.func3
    (ChangeSpec.witness6 (enc := enc) (C := Tryz.checked) false ⟨#[], #[.int .i64 0, .int .u64 0], []⟩ 8 (by kernel_rfl) (by kernel_rfl) (by kernel_rfl) (by kernel_rfl)) ?_
  intro W base args ds gs before hval0 hW hcnd _
  have hval : ∀ (j : Nat) t v, Tryz.f3.params[j]? = some t → args[j]? = some v → Value.okWide Tryz.prog W .any base t v := hval0
  have hW' := hW
  obtain ⟨p, q, hA0, hV, rfl, hfz, hnd⟩ := hW
  have hA : DataW.TrodAll enc Tryz.prog W 0 (fun _ => true) true Tryz.f3.params.toList args.toList ds p := hA0
  rw [Tryz.params3] at hA hval
  obtain ⟨v0, vs0, d0, ds0, p0, q0, hargs, rfl, rfl, h0, r0⟩ := trodAll_cons hA
  obtain ⟨v1, vs1, d1, ds1, p1, q1, rfl, rfl, rfl, h1, r1⟩ := trodAll_cons r0
  obtain ⟨rfl, rfl, rfl⟩ := trodAll_nil r1
  obtain rfl : args = #[v0, v1] := by cases args; simp_all
  obtain ⟨rfl, rfl⟩ := trodVars_none hV
  obtain ⟨a0, rfl, rfl, rfl, w0⟩ := open_int Tryz.underlying3 (hval 0 3 v0 rfl rfl) h0
  obtain ⟨a1, rfl, rfl, rfl, w1⟩ := open_int Tryz.underlying22 (hval 1 22 v1 rfl rfl) h1
  clear hA0 hval0
  refine (walk a0 a1 W w0 w1).mono fun e W' ⟨he, bel⟩ => ?_
  subst he
  exact ⟨_, rfl, _, _, _, [], _, [], hW', trodAll_mk1 (shut_bool Tryz.underlying4 _), (trodAll_cons_mk (shut_int Tryz.underlying3 w0) (trodAll_cons_mk (shut_int Tryz.underlying22 w1) trodAll_mk0)), rfl, bel.frame _, fun h => by cases h⟩

theorem over : Rows.arenaNoneRow.holds Tryz.pinned (OpenSpec.ofChange Rows.arenaNoneSpec) :=
  OpenClaim.holds_of_wide 3 Tryz.f3 rfl rfl rfl rfl rfl rfl rfl ⟨rfl, rfl, rfl, rfl, rfl⟩ rfl rfl rfl rfl rfl (by kernel_rfl) Tryz.func3 (by kernel_rfl)
    (of_decide_eq_true (by kernel_rfl)) (by unfold Func.isWrapper; first | (rw [if_pos (by decide +kernel)]; kernel_rfl) | (rw [if_neg (by decide +kernel)]; exact ⟨rfl, rfl⟩))
    (fun os started H enc _ => lifted os started H enc)

theorem proved : Rows.ArenaNoneSaid := over
#print axioms proved
end Go.Proofs.YtlghphccmgmomaaGreat.arenaNone
