/-
Proved here: FifoNone answers true whatever link comes in.
  Conditions: none.
-/
import Derived.Test.YtejljkpnhdnncaaRows
import Derived.Test.YtejljkpnhdnncaaFiI14
import Derived.Test.YtejljkpnhdnncaaSame12
import Derived.IntWalk
import Derived.WalkSmall
import Derived.Deep.QuietTactic
import Derived.BigQuiet
import Derived.WalkKit
import Derived.ProofKit
import Derived.OpenShut
import Derived.ShutString
import Derived.ChangeOld
import Derived.Below
namespace Go.Proofs.Ytejljkpnhdnncaa.fifoNone
open Go.ChangeShapes Go.WideShapes Go.ChangeAt Go.RowKit
open Go.ChangeMaps (open_string shut_string)
set_option linter.unusedVariables false

theorem own : ownKnob Try.prog.godebug = none := by kernel_rfl
theorem laidOut : laidOutB Try.prog = true := by kernel_rfl

set_option maxRecDepth 100000 in
set_option maxHeartbeats 6400000 in
theorem walk (x : Ln) (w : World) (w0 : x.k.length ≤ maxLen) :
    Calls Try.prog 5 #[x.agg] w fun e w' => e = .returned (.bool true) ∧ Below w.heap.size w w' := by
  unfold Ln.agg
  obtain ⟨g, hg⟩ : ∃ g, w.heap.size = g := ⟨_, rfl⟩
  have HG := Lib.hid hg
  obtain ⟨v0, hv0⟩ : ∃ v0, w.alloc (.cells #[.string x.str, .int .u64 (x.id : Nat), .int .u64 (x.ver : Nat), .int .i64 x.line, .int .i64 x.cl] 29) = v0 := ⟨_, rfl⟩
  have HB0 : Hid (Below g w v0) := by rw [← hv0, ← hg]; exact (Below.refl _ _).alloc (Nat.le_refl _) _
  have HX0 : Hid (v0.heap[g]? = some (.cells #[.string x.str, .int .u64 (x.id : Nat), .int .u64 (x.ver : Nat), .int .i64 x.line, .int .i64 x.cl] 29 (0, 0))) := by rw [← hv0, ← hg]; exact heap_alloc_new w _
  have HPU := Lib.hid (fun w1 => fipush_nil x.str x.id x.ver x.line x.cl w1)
  have HHD := Lib.hid (fun w1 => fihead_nil w1)
  have HPO := Lib.hid (fun w1 => fipop_nil w1)
  have HAL := Lib.hid (fun w1 => fiall_nil w1)
  have HLN := Lib.hid (fun w1 => filen_nil w1)
  have HAW := Lib.hid (fun w1 => awake14_any w1)
  have HZ := Lib.hid zero_link
  have hgu := guard_link12
  have hzs : (({ data := #[] } : ByteArray).toList == ({ data := #[] } : ByteArray).toList) = true := by simp
  rw [hg]
  clear w0
  generalize x.str = x0 at *
  generalize (x.id : Int) = x1 at *
  generalize (x.ver : Int) = x2 at *
  generalize x.line = x3 at *
  generalize x.cl = x4 at *
  go_enter Try.func5, Try.ntmps5
  obtain ⟨p0, p1, p2, p3, p4⟩ := cellsL HX0.out
  go_wp2_with fail
  refine (HPU.out v0).mono ?_
  clear hv0 hg
  rintro e v1 ⟨rfl, hb1⟩
  have HB1 : Hid (Below g w v1) := HB0.out.trans (hb1.mono (Nat.le_of_lt (lt_of_heap HX0.out)))
  have HL1 : Hid (g ≤ v1.heap.size) := Nat.le_trans (Nat.le_of_lt (lt_of_heap HX0.out)) hb1.size
  clear hb1 p0 p1 p2 p3 p4
  go_wp2_with fail
  refine (HHD.out v1).mono ?_
  rintro e v2 ⟨rfl, hb2⟩
  have HB2 : Hid (Below g w v2) := HB1.out.trans (hb2.mono HL1.out)
  have HL2 : Hid (g ≤ v2.heap.size) := Nat.le_trans HL1.out hb2.size
  obtain ⟨ga, hga⟩ : ∃ ga, v2.heap.size = ga := ⟨_, rfl⟩
  have HGA := Lib.hid hga
  clear hb2 hga
  go_wp2_with (first
    | ((with_reducible show wpList _ _ _ (⟨some 4, .alloc _, _, _, _, _⟩ :: _) _ _); refine wpList_alloc_var (o := ⟨some 4, _, _, _, _, _⟩) rfl 29 rfl ga HGA.out _ HZ.out ?_; intro v3 H3 B3)
    | ((with_reducible show wpList _ _ _ (⟨none, .store _ (.tmp 4) _, _, _, _, _⟩ :: _) _ _); refine wpList_store_whole (o := ⟨none, .store 29 (.tmp 4) (.tmp 14), _, _, _, _⟩) rfl _ _ _ rfl rfl ga #[.string ⟨#[]⟩, .int .u64 0, .int .u64 0, .int .i64 0, .int .i64 0] rfl rfl 29 _ H3.out size_link rfl (onesL _ _ _ _ _) ?_; intro v4 H4 B4)
    | fail)
  have HL2' : Hid (g ≤ ga) := HGA.out ▸ HL2.out
  have HB4 : Hid (Below g w v4) := HB2.out.trans ((B3.out.trans B4.out).mono HL2'.out)
  refine (HPO.out v4).mono ?_
  rintro e v5 ⟨rfl, hb5⟩
  have hl4 := lt_of_heap H4.out
  have HB5 : Hid (Below g w v5) := HB4.out.trans (hb5.mono (by have := HL2'.out; omega))
  have H5 := Lib.hid ((hb5.block ga hl4).trans H4.out)
  obtain ⟨gb, hgb⟩ : ∃ gb, v5.heap.size = gb := ⟨_, rfl⟩
  have HGB := Lib.hid hgb
  have HLB : Hid (ga < gb) := hgb ▸ lt_of_heap H5.out
  clear hb5 hgb hl4
  go_wp2_with (first
    | ((with_reducible show wpList _ _ _ (⟨some 6, .alloc _, _, _, _, _⟩ :: _) _ _); refine wpList_alloc_var (o := ⟨some 6, _, _, _, _, _⟩) rfl 29 rfl gb HGB.out _ HZ.out ?_; intro v6 H6 B6)
    | ((with_reducible show wpList _ _ _ (⟨none, .store _ (.tmp 6) _, _, _, _, _⟩ :: _) _ _); refine wpList_store_whole (o := ⟨none, .store 29 (.tmp 6) (.tmp 19), _, _, _, _⟩) rfl _ _ _ rfl rfl gb #[.string ⟨#[]⟩, .int .u64 0, .int .u64 0, .int .i64 0, .int .i64 0] rfl rfl 29 _ H6.out size_link rfl (onesL _ _ _ _ _) ?_; intro v7 H7 B7; have H57 := Lib.hid (((B6.out.trans B7.out).block ga HLB.out).trans H5.out); obtain ⟨p0, p1, p2, p3, p4⟩ := cellsL H57.out; obtain ⟨q0, q1, q2, q3, q4⟩ := cellsL H7.out)
    | fail)
  have HB7 : Hid (Below g w v7) := HB5.out.trans ((B6.out.trans B7.out).mono (by have := HL2'.out; have := HLB.out; omega))
  refine (HAL.out v7).mono ?_
  rintro e v8 ⟨rfl, rfl⟩
  go_wp2_with fail
  refine (HLN.out v7).mono ?_
  rintro e v9 ⟨rfl, rfl⟩
  go_wp2_with fail
  refine (HAW.out v7).mono ?_
  rintro e v10 ⟨rfl, hb10⟩
  have HB10 : Hid (Below g w v10) := HB7.out.trans (hb10.mono (by have := lt_of_heap H7.out; have := HL2'.out; have := HLB.out; omega))
  clear hb10
  go_wp2
  go_ret
  exact ⟨rfl, HB10.out⟩

set_option maxRecDepth 100000 in
theorem lifted (os : Os) (started : os.Started) (H : Type) (enc : TypeId × Value → H) :
    ReturnsInHanded {} Try.checked os 5 .any (Rows.fifoNoneSpec.pre6 enc Try.prog Try.f5 Rows.fifoNoneRow.domain false) (Rows.fifoNoneSpec.post enc Try.prog Try.f5 false true false false) := by
  refine returnsInHanded_of_change (C := Try.checked) own started (by kernel_rfl) Try.func5
    (ChangeSpec.witness6 (enc := enc) (C := Try.checked) false ⟨#[], #[.agg #[.string ByteArray.empty, .int .u64 0, .int .u64 0, .int .i64 0, .int .i64 0]], []⟩ 8 (by kernel_rfl) (by kernel_rfl) (by kernel_rfl) (by kernel_rfl)) ?_
  intro W base args ds gs before hval0 hW hcnd _
  have hval : ∀ (j : Nat) t v, Try.f5.params[j]? = some t → args[j]? = some v → Value.okWide Try.prog W .any base t v := hval0
  have hW' := hW
  obtain ⟨p, q, hA0, hV, rfl, hfz, hnd⟩ := hW
  have hA : DataW.TrodAll enc Try.prog W 0 (fun _ => true) true Try.f5.params.toList args.toList ds p := hA0
  rw [Try.params5] at hA hval
  obtain ⟨v0, vs0, d0, ds0, p0, q0, hargs, rfl, rfl, h0, r0⟩ := trodAll_cons hA
  obtain ⟨rfl, rfl, rfl⟩ := trodAll_nil r0
  obtain rfl : args = #[v0] := by cases args; simp_all
  obtain ⟨rfl, rfl⟩ := trodVars_none hV
  obtain ⟨z0, rfl, w0⟩ := isLink_of (hval 0 29 v0 rfl rfl) h0
  have k0 := h0
  have lt0 : ∀ x ∈ p0, x.block < W.heap.size := by obtain ⟨m, hm⟩ := k0; exact DataW.trod_lt m _ _ _ hm
  clear hA0 hval0
  refine (walk z0 W w0).mono fun e W' ⟨he, bel⟩ => ?_
  subst he
  exact ⟨_, rfl, _, _, _, [], _, [], hW', trodAll_mk1 (shut_bool Try.underlying4 _), (trodAll_cons_mk (Below.trod laidOut (by kernel_rfl) (of_decide_eq_true (by kernel_rfl)) k0 bel lt0) trodAll_mk0), rfl, bel.frame _, fun h => by cases h⟩

theorem over : Rows.fifoNoneRow.holds Try.pinned (OpenSpec.ofChange Rows.fifoNoneSpec) :=
  OpenClaim.holds_of_wide 5 Try.f5 rfl rfl rfl rfl rfl rfl rfl ⟨rfl, rfl, rfl, rfl, rfl⟩ rfl rfl rfl rfl rfl (by kernel_rfl) Try.func5 (by kernel_rfl)
    (of_decide_eq_true (by kernel_rfl)) (by unfold Func.isWrapper; first | (rw [if_pos (by decide +kernel)]; kernel_rfl) | (rw [if_neg (by decide +kernel)]; exact ⟨rfl, rfl⟩))
    (fun os started H enc _ => lifted os started H enc)

theorem proved : Rows.FifoNoneSaid := over
#print axioms proved
end Go.Proofs.Ytejljkpnhdnncaa.fifoNone
