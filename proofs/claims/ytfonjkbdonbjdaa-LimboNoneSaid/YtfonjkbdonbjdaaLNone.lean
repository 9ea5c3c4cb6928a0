/-
Proved here: LimboNone, for every entry: of no bag each call says so.
  Conditions: none.
-/
import Derived.Test.YtfonjkbdonbjdaaRows
import Derived.Test.YtfonjkbdonbjdaaEntry10
import Derived.IntWalk
import Derived.WalkSmall
import Derived.Deep.QuietTactic
import Derived.BigQuiet
import Derived.WalkKit
import Derived.ProofKit
import Derived.OpenShut
import Derived.ShutString
import Derived.ChangeOld
import Derived.Below
namespace Go.Proofs.Ytfonjkbdonbjdaa.limboNone
open Go.ChangeShapes Go.WideShapes Go.ChangeAt Go.RowKit
open Go.ChangeMaps (open_string shut_string)
set_option linter.unusedVariables false

theorem own : ownKnob Try.prog.godebug = none := by kernel_rfl
theorem laidOut : laidOutB Try.prog = true := by kernel_rfl

set_option maxHeartbeats 1600000 in
set_option maxRecDepth 100000 in
theorem walk (e : En) (w : World) (_ : e.r < 18446744073709551616 ∧ e.d < 18446744073709551616) :
    Calls Try.prog 7 #[e.val] w fun y w' => y = .returned (.bool true) ∧ Below w.heap.size w w' := by
  have HZ := Lib.hid zero_entry
  have HNW := Lib.hid (fun w1 => rdnew_ok 1 (by omega) (by omega) w1)
  unfold MadeRd at HNW
  have HRY : Hid (∀ w1 (r : Nat), Calls Try.prog 17 #[.pointer none, .pointer (some ⟨r, 0, none⟩), .int .u64 9] w1 fun y w' => y = .returned (.tuple #[.agg #[.int .i64 0, .int .i64 0, .int .u64 0, .int .u64 0, .int .i64 0], .bool false]) ∧ Below w1.heap.size w1 w') := fun w1 r => ready_says (first_nilb w1 (some ⟨r, 0, none⟩) 9)
  have HPO : Hid (∀ w1 (r : Nat), Calls Try.prog 22 #[.pointer none, .pointer (some ⟨r, 0, none⟩), .int .u64 9] w1 fun y w' => y = .returned (.tuple #[.agg #[.int .i64 0, .int .i64 0, .int .u64 0, .int .u64 0, .int .i64 0], .bool false]) ∧ Below w1.heap.size w1 w') := fun w1 r => pop_not (first_nilb w1 (some ⟨r, 0, none⟩) 9)
  have HPU := Lib.hid (fun w1 => bgput_nil e w1)
  have HAL := Lib.hid (fun w1 => bgall_nil w1)
  have HLN := Lib.hid (fun w1 => bglen_nil w1)
  have HAW := Lib.hid (fun w1 => awake_any w1)
  obtain ⟨g, hg⟩ : ∃ g, w.heap.size = g := ⟨_, rfl⟩
  have HG := Lib.hid hg
  obtain ⟨w0, hw0⟩ : ∃ w0, w.alloc (.cells #[.int .i64 e.line, .int .i64 e.cl, .int .u64 (e.r : Nat), .int .u64 (e.d : Nat), .int .i64 e.anti] 40) = w0 := ⟨_, rfl⟩
  have HB0 : Hid (Below g w w0) := by
    rw [← hw0, ← hg]
    exact (Below.refl _ _).alloc (Nat.le_refl _) _
  have HE0 : Hid (w0.heap[g]? = some (.cells #[.int .i64 e.line, .int .i64 e.cl, .int .u64 (e.r : Nat), .int .u64 (e.d : Nat), .int .i64 e.anti] 40 (0, 0))) := by
    rw [← hw0, ← hg]
    exact heap_alloc_new w _
  have HGL : ∀ wx, Below g w wx → g ≤ wx.heap.size := fun wx hb => by have := hb.size; omega
  have HGE := Lib.hid HGL
  have hgu := guard_entry
  show Calls _ _ #[.agg #[.int .i64 e.line, .int .i64 e.cl, .int .u64 (e.r : Nat), .int .u64 (e.d : Nat), .int .i64 e.anti]] _ _
  rw [hg]
  generalize e.line = x0 at *
  generalize e.cl = x1 at *
  generalize e.anti = x4 at *
  generalize (e.r : Int) = x2 at *
  generalize (e.d : Int) = x3 at *
  clear HGL
  go_enter Try.func7, Try.ntmps7
  go_wp2_with fail
  refine (HNW.out _).mono ?_
  rintro y w1 ⟨rp, rq, rfl, _, _, _, hb1⟩
  have HB1 : Hid (Below g w w1) := HB0.out.trans (hb1.mono (HGE.out _ HB0.out))
  have HE1 := Lib.hid ((hb1.block g (lt_of_heap HE0.out)).trans HE0.out)
  clear hb1
  go_wp2_with fail
  refine (HRY.out _ _).mono ?_
  rintro y w2 ⟨rfl, hb2⟩
  have HB2 : Hid (Below g w w2) := HB1.out.trans (hb2.mono (HGE.out _ HB1.out))
  have HE2 := Lib.hid ((hb2.block g (lt_of_heap HE1.out)).trans HE1.out)
  obtain ⟨g2, hg2⟩ : ∃ g2, w2.heap.size = g2 := ⟨_, rfl⟩
  have HG2 := Lib.hid hg2
  have HL2 : Hid (g < g2) := hg2 ▸ lt_of_heap HE2.out
  clear hb2 hg2
  go_wp2_with (first
    | ((with_reducible show wpList _ _ _ (⟨some 6, .alloc _, _, _, _, _⟩ :: _) _ _); refine wpList_alloc_var (o := ⟨some 6, _, _, _, _, _⟩) rfl 40 rfl g2 HG2.out _ HZ.out ?_; intro w3 H3 X3)
    | ((with_reducible show wpList _ _ _ (⟨none, .store _ (.tmp 6) _, _, _, _, _⟩ :: _) _ _); refine wpList_store_whole (o := ⟨none, .store 40 (.tmp 6) (.tmp 18), _, _, _, _⟩) rfl _ _ _ rfl rfl g2 #[.int .i64 0, .int .i64 0, .int .u64 0, .int .u64 0, .int .i64 0] rfl rfl 40 _ H3.out size_entry rfl (ones5 _ _ _ _ _) ?_; intro w4 H4 X4; have X34 := Lib.hid (X3.out.trans X4.out); have HB4 : Hid (Below g w w4) := HB2.out.trans (X34.out.mono (Nat.le_of_lt HL2.out)); have HE4 := Lib.hid ((X34.out.block g HL2.out).trans HE2.out))
    | ((with_reducible show Calls _ _ _ _ _); fail)
    | fail)
  refine (HPO.out _ _).mono ?_
  rintro y w5 ⟨rfl, hb5⟩
  have HB5 : Hid (Below g w w5) := HB4.out.trans (hb5.mono (HGE.out _ HB4.out))
  have HE5 := Lib.hid ((hb5.block g (lt_of_heap HE4.out)).trans HE4.out)
  have HF5 := Lib.hid ((hb5.block g2 (lt_of_heap H4.out)).trans H4.out)
  obtain ⟨g5, hg5⟩ : ∃ g5, w5.heap.size = g5 := ⟨_, rfl⟩
  have HG5 := Lib.hid hg5
  have HL5 : Hid (g2 < g5) := hg5 ▸ lt_of_heap HF5.out
  clear hb5 hg5
  go_wp2_with (first
    | ((with_reducible show wpList _ _ _ (⟨some 8, .alloc _, _, _, _, _⟩ :: _) _ _); refine wpList_alloc_var (o := ⟨some 8, _, _, _, _, _⟩) rfl 40 rfl g5 HG5.out _ HZ.out ?_; intro w6 H6 X6)
    | ((with_reducible show wpList _ _ _ (⟨none, .store _ (.tmp 8) _, _, _, _, _⟩ :: _) _ _); refine wpList_store_whole (o := ⟨none, .store 40 (.tmp 8) (.tmp 24), _, _, _, _⟩) rfl _ _ _ rfl rfl g5 #[.int .i64 0, .int .i64 0, .int .u64 0, .int .u64 0, .int .i64 0] rfl rfl 40 _ H6.out size_entry rfl (ones5 _ _ _ _ _) ?_; intro w7 H7 X7; have X67 := Lib.hid (X6.out.trans X7.out); have HB7 : Hid (Below g w w7) := HB5.out.trans (X67.out.mono (Nat.le_of_lt (Nat.lt_trans HL2.out HL5.out))); obtain ⟨c0, c1, c2, c3, c4⟩ := cells5 ((X67.out.block g (Nat.lt_trans HL2.out HL5.out)).trans HE5.out); have HF7 := Lib.hid ((X67.out.block g2 HL5.out).trans HF5.out))
    | ((with_reducible show Calls _ 18 _ _ _); refine (HPU.out _).mono ?_; rintro y w8 ⟨rfl, hb8⟩; have HB8 : Hid (Below g w w8) := HB7.out.trans (hb8.mono (HGE.out _ HB7.out)); obtain ⟨m0, m1, m2, m3, m4⟩ := cells5 ((hb8.block g2 (lt_of_heap HF7.out)).trans HF7.out); obtain ⟨n0, n1, n2, n3, n4⟩ := cells5 ((hb8.block g5 (lt_of_heap H7.out)).trans H7.out); clear hb8)
    | ((with_reducible show Calls _ 13 _ _ _); refine (HAL.out _).mono ?_; rintro y w9 ⟨rfl, rfl⟩)
    | ((with_reducible show Calls _ 15 _ _ _); refine (HLN.out _).mono ?_; rintro y w9 ⟨rfl, rfl⟩)
    | ((with_reducible show Calls _ 8 _ _ _); refine (HAW.out _).mono ?_; rintro y w9 ⟨rfl, hb9⟩; have HB9 : Hid (Below g w w9) := HB8.out.trans (hb9.mono (HGE.out _ HB8.out)); clear hb9)
    | fail)
  go_ret
  exact ⟨rfl, HB9.out⟩

set_option maxRecDepth 100000 in
theorem lifted (os : Os) (started : os.Started) (H : Type) (enc : TypeId × Value → H) :
    ReturnsInHanded {} Try.checked os 7 .any (Rows.limboNoneSpec.pre6 enc Try.prog Try.f7 Rows.limboNoneRow.domain false) (Rows.limboNoneSpec.post enc Try.prog Try.f7 false true false false) := by
  refine returnsInHanded_of_change (C := Try.checked) own started (by kernel_rfl) Try.func7
    (ChangeSpec.witness6 (enc := enc) (C := Try.checked) false ⟨#[], #[.agg #[.int .i64 0, .int .i64 0, .int .u64 0, .int .u64 0, .int .i64 0]], []⟩ 8 (by kernel_rfl) (by kernel_rfl) (by kernel_rfl) (by kernel_rfl)) ?_
  intro W base args ds gs before hval0 hW hcnd _
  have hval : ∀ (j : Nat) t v, Try.f7.params[j]? = some t → args[j]? = some v → Value.okWide Try.prog W .any base t v := hval0
  have hW' := hW
  obtain ⟨p, q, hA0, hV, rfl, hfz, hnd⟩ := hW
  have hA : DataW.TrodAll enc Try.prog W 0 (fun _ => true) true Try.f7.params.toList args.toList ds p := hA0
  rw [Try.params7] at hA hval
  obtain ⟨v0, vs0, d0, ds0, p0, q0, hargs, rfl, rfl, h0, r0⟩ := trodAll_cons hA
  obtain ⟨rfl, rfl, rfl⟩ := trodAll_nil r0
  obtain rfl : args = #[v0] := by cases args; simp_all
  obtain ⟨rfl, rfl⟩ := trodVars_none hV
  obtain ⟨z0, rfl, w0⟩ := isEntry_of (hval 0 40 v0 rfl rfl) h0
  have k0 := h0
  have lt0 : ∀ x ∈ p0, x.block < W.heap.size := by obtain ⟨m, hm⟩ := k0; exact DataW.trod_lt m _ _ _ hm
  clear hA0 hval0
  refine (walk z0 W w0).mono fun e W' ⟨he, bel⟩ => ?_
  subst he
  exact ⟨_, rfl, _, _, _, [], _, [], hW', trodAll_mk1 (shut_bool Try.underlying4 _), (trodAll_cons_mk (Below.trod laidOut (by kernel_rfl) (of_decide_eq_true (by kernel_rfl)) k0 bel lt0) trodAll_mk0), rfl, bel.frame _, fun h => by cases h⟩

theorem over : Rows.limboNoneRow.holds Try.pinned (OpenSpec.ofChange Rows.limboNoneSpec) :=
  OpenClaim.holds_of_wide 7 Try.f7 rfl rfl rfl rfl rfl rfl rfl ⟨rfl, rfl, rfl, rfl, rfl⟩ rfl rfl rfl rfl rfl (by kernel_rfl) Try.func7 (by kernel_rfl)
    (of_decide_eq_true (by kernel_rfl)) (by unfold Func.isWrapper; first | (rw [if_pos (by decide +kernel)]; kernel_rfl) | (rw [if_neg (by decide +kernel)]; exact ⟨rfl, rfl⟩))
    (fun os started H enc _ => lifted os started H enc)

theorem proved : Rows.LimboNoneSaid := over
#print axioms proved
end Go.Proofs.Ytfonjkbdonbjdaa.limboNone
