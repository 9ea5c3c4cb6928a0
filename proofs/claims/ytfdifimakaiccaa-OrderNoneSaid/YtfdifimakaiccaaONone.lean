/-
OrderNone: of no order each call says so.
-/
import Derived.Test.YtfdifimakaiccaaRows
import Derived.Test.YtfdifimakaiccaaNone13
import Derived.Test.YtfdifimakaiccaaSame12
import Derived.IntWalk
import Derived.WalkSmall
import Derived.Deep.QuietTactic
import Derived.BigQuiet
import Derived.WalkKit
import Derived.ProofKit
import Derived.OpenShut
import Derived.ShutString
import Derived.ChangeOld
import Derived.Below
namespace Go.Proofs.Ytfdifimakaiccaa.orderNone
open Go.ChangeShapes Go.WideShapes Go.ChangeAt Go.RowKit
open Go.ChangeMaps (open_string shut_string)
set_option linter.unusedVariables false

theorem own : ownKnob Try.prog.godebug = none := by kernel_rfl
theorem laidOut : laidOutB Try.prog = true := by kernel_rfl

set_option maxRecDepth 100000 in
set_option maxHeartbeats 6400000 in
theorem walk (x : Ln) (b : Int) (w : World) (w0 : x.k.length ≤ maxLen) (w1 : (Lit.int .i64 b).wf = true) :
    Calls Try.prog 7 #[x.agg, .int .i64 b] w fun e w' => e = .returned (.bool true) ∧ Below w.heap.size w w' := by
  unfold Ln.agg
  obtain ⟨g, hg⟩ : ∃ g, w.heap.size = g := ⟨_, rfl⟩
  have HG := Lib.hid hg
  obtain ⟨v0, hv0⟩ : ∃ v0, w.alloc (.cells #[.string x.str, .int .u64 (x.id : Nat), .int .u64 (x.ver : Nat), .int .i64 x.line, .int .i64 x.cl] 33) = v0 := ⟨_, rfl⟩
  have HB0 : Hid (Below g w v0) := by rw [← hv0, ← hg]; exact (Below.refl _ _).alloc (Nat.le_refl _) _
  have HX0 : Hid (v0.heap[g]? = some (.cells #[.string x.str, .int .u64 (x.id : Nat), .int .u64 (x.ver : Nat), .int .i64 x.line, .int .i64 x.cl] 33 (0, 0))) := by rw [← hv0, ← hg]; exact heap_alloc_new w _
  have HRT : Hid (∀ w1, Calls Try.prog 15 #[.pointer none, .int .i64 b, .string x.str, .bool false] w1 fun e w' => e = .returned (.tuple #[.agg #[.string ⟨#[]⟩, .int .u64 0, .int .u64 0, .int .i64 0, .int .i64 0], .bool false]) ∧ Below w1.heap.size w1 w') := fun w1 => odright_nil b x.str false w1
  have HST := Lib.hid (fun w1 => odset_nil x w1)
  have HDR := Lib.hid (fun w1 => oddrop_nil x.str w1)
  have HAL := Lib.hid (fun w1 => odall_nil w1)
  unfold AllTo at HAL
  have HLN := Lib.hid (fun w1 => odlen_nil w1)
  have HAW := Lib.hid (fun w1 => awake13_any w1)
  have HZ := Lib.hid zero_link
  have hgu := guard_link12
  have hzs : (({ data := #[] } : ByteArray).toList == ({ data := #[] } : ByteArray).toList) = true := by simp
  rw [hg]
  clear w0 w1
  generalize x.str = x0 at *
  generalize (x.id : Int) = x1 at *
  generalize (x.ver : Int) = x2 at *
  generalize x.line = x3 at *
  generalize x.cl = x4 at *
  go_enter Try.func7, Try.ntmps7
  obtain ⟨p0, p1, p2, p3, p4⟩ := cellsL HX0.out
  go_wp2_with fail
  refine (HRT.out v0).mono ?_
  clear hv0 hg
  rintro e v1 ⟨rfl, hb1⟩
  have HB1 : Hid (Below g w v1) := HB0.out.trans (hb1.mono (Nat.le_of_lt (lt_of_heap HX0.out)))
  have HX1 := Lib.hid ((hb1.block g (lt_of_heap HX0.out)).trans HX0.out)
  obtain ⟨ga, hga⟩ : ∃ ga, v1.heap.size = ga := ⟨_, rfl⟩
  have HGA := Lib.hid hga
  have HLA : Hid (g < ga) := hga ▸ lt_of_heap HX1.out
  clear hb1 hga p0 p1 p2 p3 p4
  go_wp2_with (first
    | ((with_reducible show wpList _ _ _ (⟨some 6, .alloc _, _, _, _, _⟩ :: _) _ _); refine wpList_alloc_var (o := ⟨some 6, _, _, _, _, _⟩) rfl 33 rfl ga HGA.out _ HZ.out ?_; intro v2 H2a B2a)
    | (((with_reducible show wpList _ _ _ (⟨none, .store _ (.tmp 6) _, _, _, _, _⟩ :: _) _ _); refine wpList_store_whole (o := ⟨none, .store 33 (.tmp 6) (.tmp 14), _, _, _, _⟩) rfl _ _ _ rfl rfl ga #[.string ⟨#[]⟩, .int .u64 0, .int .u64 0, .int .i64 0, .int .i64 0] rfl rfl 33 _ H2a.out size_link rfl (onesL _ _ _ _ _) ?_; intro v3 H3a B3a); have HX3 := Lib.hid ((B3a.out.block g HLA.out).trans ((B2a.out.block g HLA.out).trans HX1.out)); obtain ⟨p0, p1, p2, p3, p4⟩ := cellsL HX3.out; obtain ⟨q0, q1, q2, q3, q4⟩ := cellsL H3a.out)
    | fail)
  have HB3 : Hid (Below g w v3) := HB1.out.trans ((B2a.out.trans B3a.out).mono (Nat.le_of_lt HLA.out))
  refine (HST.out v3).mono ?_
  rintro e v4 ⟨rfl, hb4⟩
  have HB4 : Hid (Below g w v4) := HB3.out.trans (hb4.mono (Nat.le_of_lt (lt_of_heap HX3.out)))
  have HX4 := Lib.hid ((hb4.block g (lt_of_heap HX3.out)).trans HX3.out)
  have HSZ4 : Hid (g ≤ v4.heap.size) := Nat.le_of_lt (lt_of_heap HX4.out)
  clear hb4 p0 p1 p2 p3 p4 q0 q1 q2 q3 q4
  obtain ⟨p0, p1, p2, p3, p4⟩ := cellsL HX4.out
  go_wp2_with fail
  refine (HDR.out v4).mono ?_
  rintro e v5 ⟨rfl, rfl⟩
  go_wp2_with fail
  refine (HAL.out v4).mono ?_
  rintro e v11 ⟨g3, cap3, rfl, -, hb11⟩
  have HB11 : Hid (Below g w v11) := HB4.out.trans (hb11.mono HSZ4.out)
  have HSZ11 : Hid (g ≤ v11.heap.size) := Nat.le_trans HSZ4.out hb11.size
  clear hb11
  go_wp2_with fail
  refine (HLN.out v11).mono ?_
  rintro e v12 ⟨rfl, rfl⟩
  go_wp2_with fail
  refine (HAW.out v11).mono ?_
  rintro e v13 ⟨rfl, hb13⟩
  have HB13 : Hid (Below g w v13) := HB11.out.trans (hb13.mono HSZ11.out)
  clear hb13
  go_wp2
  go_ret
  exact ⟨rfl, HB13.out⟩

set_option maxRecDepth 100000 in
theorem lifted (os : Os) (started : os.Started) (H : Type) (enc : TypeId × Value → H) :
    ReturnsInHanded {} Try.checked os 7 .any (Rows.orderNoneSpec.pre6 enc Try.prog Try.f7 Rows.orderNoneRow.domain false) (Rows.orderNoneSpec.post enc Try.prog Try.f7 false true false false) := by
  refine returnsInHanded_of_change (C := Try.checked) own started (by kernel_rfl) Try.func7
    (ChangeSpec.witness6 (enc := enc) (C := Try.checked) false ⟨#[], #[.agg #[.string ByteArray.empty, .int .u64 0, .int .u64 0, .int .i64 0, .int .i64 0], .int .i64 0], []⟩ 8 (by kernel_rfl) (by kernel_rfl) (by kernel_rfl) (by kernel_rfl)) ?_
  intro W base args ds gs before hval0 hW hcnd _
  have hval : ∀ (j : Nat) t v, Try.f7.params[j]? = some t → args[j]? = some v → Value.okWide Try.prog W .any base t v := hval0
  have hW' := hW
  obtain ⟨p, q, hA0, hV, rfl, hfz, hnd⟩ := hW
  have hA : DataW.TrodAll enc Try.prog W 0 (fun _ => true) true Try.f7.params.toList args.toList ds p := hA0
  rw [Try.params7] at hA hval
  obtain ⟨v0, vs0, d0, ds0, p0, q0, hargs, rfl, rfl, h0, r0⟩ := trodAll_cons hA
  obtain ⟨v1, vs1, d1, ds1, p1, q1, rfl, rfl, rfl, h1, r1⟩ := trodAll_cons r0
  obtain ⟨rfl, rfl, rfl⟩ := trodAll_nil r1
  obtain rfl : args = #[v0, v1] := by cases args; simp_all
  obtain ⟨rfl, rfl⟩ := trodVars_none hV
  obtain ⟨z0, rfl, w0⟩ := isLink_of (hval 0 33 v0 rfl rfl) h0
  have k0 := h0
  have lt0 : ∀ x ∈ p0, x.block < W.heap.size := by obtain ⟨m, hm⟩ := k0; exact DataW.trod_lt m _ _ _ hm
  obtain ⟨a1, rfl, rfl, rfl, w1⟩ := open_int Try.underlying3 (hval 1 3 v1 rfl rfl) h1
  clear hA0 hval0
  refine (walk z0 a1 W w0 w1).mono fun e W' ⟨he, bel⟩ => ?_
  subst he
  exact ⟨_, rfl, _, _, _, [], _, [], hW', trodAll_mk1 (shut_bool Try.underlying4 _), (trodAll_cons_mk (Below.trod laidOut (by kernel_rfl) (of_decide_eq_true (by kernel_rfl)) k0 bel lt0) (trodAll_cons_mk (shut_int Try.underlying3 w1) trodAll_mk0)), rfl, bel.frame _, fun h => by cases h⟩

theorem over : Rows.orderNoneRow.holds Try.pinned (OpenSpec.ofChange Rows.orderNoneSpec) :=
  OpenClaim.holds_of_wide 7 Try.f7 rfl rfl rfl rfl rfl rfl rfl ⟨rfl, rfl, rfl, rfl, rfl⟩ rfl rfl rfl rfl rfl (by kernel_rfl) Try.func7 (by kernel_rfl)
    (of_decide_eq_true (by kernel_rfl)) (by unfold Func.isWrapper; first | (rw [if_pos (by decide +kernel)]; kernel_rfl) | (rw [if_neg (by decide +kernel)]; exact ⟨rfl, rfl⟩))
    (fun os started H enc _ => lifted os started H enc)

theorem proved : Rows.OrderNoneSaid := over
#print axioms proved
end Go.Proofs.Ytfdifimakaiccaa.orderNone
