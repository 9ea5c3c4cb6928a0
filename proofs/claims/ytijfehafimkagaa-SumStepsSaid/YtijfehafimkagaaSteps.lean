/-
  Proved here: for every text the law SumSteps returns true, and the text reads as it did: told byte by byte, the checksum of a text is the one that Text answers (texts of over 1,024 bytes: the law asks the chapter's example alone).
  Conditions: none beyond the given statement's.
-/
import Derived.Test.YtijfehafimkagaaRows
import Derived.Test.YtijfehafimkagaaWalks
import Derived.WalkKit
import Derived.ProofKit
import Derived.OpenShut
import Derived.ShutString
import Derived.ChangeOld
import Derived.Below
namespace Go.Proofs.Ytijfehafimkagaa.sumSteps
open Go.ChangeShapes Go.WideShapes Go.ChangeAt Go.RowKit
open Go.ChangeMaps (open_string shut_string)

theorem own : ownKnob Try.prog.godebug = none := by kernel_rfl

theorem row_one (w : World) (x : UInt8) : Row (w.alloc (.cells #[.int .u8 (x.toNat : Nat)] 5)) (some ⟨w.heap.size, 0, none⟩) [x] := by
  refine ⟨by simp, fun _ => ⟨w.heap.size, 0, rfl, by simp, fun k hk => ?_⟩⟩
  obtain rfl : k = 0 := by simpa using hk
  simp
set_option maxHeartbeats 400000 in
theorem walk (a0 : ByteArray) (w : World) :
    Calls Try.prog 6 #[.string a0] w fun e w' => e = .returned (.bool true) ∧ Below w.heap.size w w' := by
  by_cases hlong : 1024 < a0.size
  · have hl : (1024 : Int) < (a0.size : Int) := by omega
    clear hlong
    go_enter Try.func6, Try.ntmps6
    go_wp2_with fail
    refine (awake_any _).mono ?_
    rintro e w' ⟨rfl, hb⟩
    go_wp2
    go_ret
    exact ⟨rfl, hb⟩
  · have hl : ¬ (1024 : Int) < (a0.size : Int) := by omega
    have hle : a0.size ≤ 1024 := by omega
    clear hlong
    go_enter Try.func6, Try.ntmps6
    go_wp2_with fail
    go_loopg [3, 4] a0.size (fun g s3 s4 wx => ∃ k d : Nat, k + g = a0.size ∧ s4 = .int .i64 k ∧ s3 = .int .u32 d ∧ d < 4294967296 ∧ Hid (addS 0 (a0.data.toList.take k) = d) ∧ Below w.heap.size w wx)
    case atStart => exact ⟨0, 0, by omega, rfl, rfl, by omega, addS_nil 0, Below.refl _ _⟩
    case round =>
      obtain ⟨k, d, hkg, rfl, rfl, hd, HD, hb⟩ := hrel
      cases gk with
      | zero =>
        have hkz : ¬ ((k : Int) < (a0.size : Int)) := by omega
        have hD := HD.out
        rw [List.take_of_length_le (by have h : a0.data.toList.length = a0.size := rfl; omega)] at hD
        have HT := text_any a0 (by omega) wr
        rw [hD] at HT
        have HTT := Lib.hid HT
        clear hD HT
        go_wp2_with fail
        refine HTT.out.mono ?_
        rintro e w1 ⟨rfl, hb1⟩
        have heq : ((d : Int) == (d : Int)) = true := by simp
        go_wp2_with fail
        refine (awake_any _).mono ?_
        rintro e w2 ⟨rfl, hb2⟩
        go_wp2
        go_ret
        exact ⟨rfl, (hb.trans (hb1.mono hb.size)).trans (hb2.mono (Nat.le_trans hb.size hb1.size))⟩
      | succ g =>
        have hkz : (k : Int) < (a0.size : Int) := by omega
        have hkn : k < a0.size := by omega
        have hsn : a0.data.toList.take (k + 1) = a0.data.toList.take k ++ [a0[k]] := by
          rw [List.take_succ_eq_append_getElem (by simpa using hkn)]
          rfl
        have HA := Lib.hid (add_any d hd (some ⟨wr.heap.size, 0, none⟩) 1 1 [a0[k]] rfl _ (row_one wr a0[k]))
        have HS : Hid (addS 0 (a0.data.toList.take (k + 1)) = addS d [a0[k]]) := by
          show _ = _
          rw [hsn, ← addS_append, HD.out]
        have hlt := addS_lt (l := [a0[k]]) hd
        obtain ⟨r, hr⟩ : ∃ r, addS d [a0[k]] = r := ⟨_, rfl⟩
        rw [hr] at HA HS hlt
        clear hsn hr HD
        go_wp2_with fail
        refine HA.out.mono ?_
        rintro e w1 ⟨rfl, rfl⟩
        go_wp2
        go_roundg g
        case measure => omega
        case rel => exact ⟨k + 1, r, by omega, by go_num, rfl, hlt, HS, hb.alloc hb.size _⟩

/-! ### THE ROW's STEP: WRITTEN OUT: LEAVE IT -/
set_option maxRecDepth 100000 in
theorem lifted (os : Os) (started : os.Started) (H : Type) (enc : TypeId × Value → H) :
    ReturnsInHanded {} Try.checked os 6 .any (Rows.sumStepsSpec.pre6 enc Try.prog Try.f6 Rows.sumStepsRow.domain false) (Rows.sumStepsSpec.post enc Try.prog Try.f6 false true false false) := by
  refine returnsInHanded_of_change (C := Try.checked) own started (by kernel_rfl) Try.func6
    (ChangeSpec.witness6 (enc := enc) (C := Try.checked) false ⟨#[], #[.string ByteArray.empty], []⟩ 8 (by kernel_rfl) (by kernel_rfl) (by kernel_rfl) (by kernel_rfl)) ?_
  intro W base args ds gs before hval0 hW hcnd _
  have hval : ∀ (j : Nat) t v, Try.f6.params[j]? = some t → args[j]? = some v → Value.okWide Try.prog W .any base t v := hval0
  have hW' := hW
  obtain ⟨p, q, hA0, hV, rfl, hfz, hnd⟩ := hW
  have hA : DataW.TrodAll enc Try.prog W 0 (fun _ => true) true Try.f6.params.toList args.toList ds p := hA0
  rw [Try.params6] at hA hval
  obtain ⟨v0, vs0, d0, ds0, p0, q0, hargs, rfl, rfl, h0, r0⟩ := trodAll_cons hA
  obtain ⟨rfl, rfl, rfl⟩ := trodAll_nil r0
  obtain rfl : args = #[v0] := by cases args; simp_all
  obtain ⟨rfl, rfl⟩ := trodVars_none hV
  obtain ⟨a0, rfl, rfl, rfl, w0⟩ := open_string Try.underlying9 (hval 0 9 v0 rfl rfl) h0
  clear hA0 hval0
  simp only [List.append_nil] at hW'
  refine (walk a0 W).mono fun e W' ⟨he, bel⟩ => ?_
  subst he
  exact ⟨_, rfl, _, _, _, [], [], [], hW', trodAll_mk1 (shut_bool Try.underlying4 _), trodAll_cons_mk (shut_string Try.underlying9 w0) trodAll_mk0, rfl, bel.frame _, fun h => by cases h⟩

theorem over : Rows.sumStepsRow.holds Try.pinned (OpenSpec.ofChange Rows.sumStepsSpec) :=
  OpenClaim.holds_of_wide 6 Try.f6 rfl rfl rfl rfl rfl rfl rfl ⟨rfl, rfl, rfl, rfl, rfl⟩ rfl rfl rfl rfl rfl (by kernel_rfl) Try.func6 (by kernel_rfl)
    (of_decide_eq_true (by kernel_rfl)) (by unfold Func.isWrapper; first | (rw [if_pos (by decide +kernel)]; kernel_rfl) | (rw [if_neg (by decide +kernel)]; exact ⟨rfl, rfl⟩))
    (fun os started H enc _ => lifted os started H enc)

/-- ████ THE STATEMENT ████ -/
theorem proved : Rows.SumStepsSaid :=
  over
#print axioms proved
end Go.Proofs.Ytijfehafimkagaa.sumSteps
