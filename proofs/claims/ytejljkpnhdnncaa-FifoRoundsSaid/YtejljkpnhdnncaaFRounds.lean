/-
Proved here: FifoRounds answers true whatever numbers come in.
  Conditions: none.
-/
import Derived.Test.YtejljkpnhdnncaaRows
import Derived.Test.YtejljkpnhdnncaaFiI14
import Derived.Test.YtejljkpnhdnncaaSame12
import Derived.IntWalk
import Derived.WalkSmall
import Derived.Deep.QuietTactic
import Derived.BigQuiet
import Derived.WalkKit
import Derived.ProofKit
import Derived.OpenShut
import Derived.ShutString
import Derived.ChangeOld
import Derived.Below
namespace Go.Proofs.Ytejljkpnhdnncaa.fifoRounds
open Go.ChangeShapes Go.WideShapes Go.ChangeAt Go.RowKit
open Go.ChangeMaps (open_string shut_string)
set_option linter.unusedVariables false

theorem own : ownKnob Try.prog.godebug = none := by kernel_rfl
theorem laidOut : laidOutB Try.prog = true := by kernel_rfl

/-- The links numbered from a on, c of them. -/
def seg (a c : Nat) : List Ln := (List.range' a c).map lv
theorem seg_len (a c : Nat) : (seg a c).length = c := by simp [seg]
theorem seg_push (a c : Nat) : seg a c ++ [lv (a + c)] = seg a (c + 1) := by
  unfold seg
  rw [List.range'_concat]
  simp
theorem seg_head (a c : Nat) : seg a (c + 1) = lv a :: seg (a + 1) c := by
  unfold seg
  rw [List.range'_succ]
  rfl
/-- What waits ahead of round i, of k that may. -/
def wait (k i : Nat) : List Ln := seg (i - k) (i - (i - k))
theorem wait_push (k i : Nat) : wait k i ++ [lv i] = seg (i - k) (i - (i - k) + 1) := by
  unfold wait
  have := seg_push (i - k) (i - (i - k))
  rwa [show i - k + (i - (i - k)) = i by omega] at this
theorem wait_in (k i : Nat) (h : i < k) : seg (i - k) (i - (i - k) + 1) = wait k (i + 1) := by
  unfold wait
  rw [show i + 1 - k = i - k by omega, show i + 1 - (i - k) = i - (i - k) + 1 by omega]
theorem wait_out (k i : Nat) (h : k ≤ i) : seg (i - k) (i - (i - k) + 1) = lv (i - k) :: wait k (i + 1) := by
  unfold wait
  rw [seg_head, show i + 1 - k = i - k + 1 by omega, show i + 1 - (i - k + 1) = i - (i - k) by omega]
set_option maxRecDepth 100000 in
set_option maxHeartbeats 6400000 in
theorem walk (a0 a1 : Int) (w : World) (w0 : (Lit.int .i64 a0).wf = true) (w1 : (Lit.int .i64 a1).wf = true) :
    Calls Try.prog 4 #[.int .i64 a0, .int .i64 a1] w fun e w' => e = .returned (.bool true) ∧ Below w.heap.size w w' := by
  obtain ⟨g, hg⟩ : ∃ g, w.heap.size = g := ⟨_, rfl⟩
  have HL0 := Lib.hid (low_any a0 2000 w (by omega) (by omega))
  have HL1 := Lib.hid (low_any a1 20 w (by omega) (by omega))
  have hn := low_lt a0 (n := 2000) (by omega)
  have hk := low_lt a1 (n := 20) (by omega)
  obtain ⟨n, hn0⟩ : ∃ n, low a0 2000 = n := ⟨_, rfl⟩
  obtain ⟨k, hk0⟩ : ∃ k, low a1 20 = k := ⟨_, rfl⟩
  rw [hn0] at HL0 hn
  rw [hk0] at HL1 hk
  have HN := Lib.hid (finew_any w)
  have HG := Lib.hid hg
  rw [hg] at HN ⊢
  have HPU : Hid (∀ i w1 v, i < 2020 → Fg w g w1 g v (wait k i) → Calls Try.prog 10 #[.pointer (some ⟨g, 0, none⟩), .agg #[.string ⟨#[]⟩, .int .u64 0, .int .u64 (i : Int), .int .i64 0, .int .i64 0]] w1 fun y w' => y = .returned (.tuple #[]) ∧ FiTo w1 g v (seg (i - k) (i - (i - k) + 1)) w') := fun i w1 v hi h => by
    obtain ⟨f, P, h1⟩ := h.fi
    have := fipush_any h1 (by rw [wait, seg_len]; omega) (lv i)
    rwa [wait_push] at this
  have HPO : Hid (∀ i w1 v, k ≤ i → Fg w g w1 g v (lv (i - k) :: wait k (i + 1)) → Calls Try.prog 9 #[.pointer (some ⟨g, 0, none⟩)] w1 fun y w' => y = .returned (.tuple #[.agg #[.string ⟨#[]⟩, .int .u64 0, .int .u64 ((i - k : Nat) : Int), .int .i64 0, .int .i64 0], .bool true]) ∧ FiTo w1 g v (wait k (i + 1)) w') := fun i w1 v hi h => by
    obtain ⟨f, P, h1⟩ := h.fi
    exact fipop_any h1
  have HLN : Hid (∀ w1 v, Fg w g w1 g v (wait k (n + k)) → Calls Try.prog 11 #[.pointer (some ⟨g, 0, none⟩)] w1 fun y w' => y = .returned (.int .i64 (k : Nat)) ∧ w1 = w') := fun w1 v h => by
    obtain ⟨f, P, h1⟩ := h.fi
    have := filen_any h1
    rwa [wait, seg_len, show n + k - (n + k - k) = k by omega] at this
  have HAW := Lib.hid (fun w1 => awake14_any w1)
  have HIN := Lib.hid (wait_in k)
  have HOUT := Lib.hid (wait_out k)
  have HZ := Lib.hid zero_link
  have HW0 : Hid (wait k 0 = []) := by show _ = _; simp [wait, seg]
  clear hg w0 w1 hn0 hk0
  generalize wait k = W at *
  have hnk : IntKind.i64.wrap ((n : Int) + (k : Int)) = (n : Int) + (k : Int) := by rw [IntKind.wrap_i64]; omega
  go_enter Try.func4, Try.ntmps4
  go_wp2_with fail
  refine HL0.out.mono ?_
  rintro e w' ⟨rfl, rfl⟩
  go_wp2_with fail
  refine HL1.out.mono ?_
  rintro e w' ⟨rfl, rfl⟩
  go_wp2_with fail
  refine HN.out.mono ?_
  rintro e w1 ⟨rfl, ht1, hb1⟩
  have HT1 := Lib.hid (fg_new HG.out ht1 hb1)
  rw [← HW0.out] at HT1
  clear ht1 hb1
  go_wp2
  go_loopg [8, 9, 10] (n + k) (fun gk s8 s9 s10 wx => ∃ (i : Nat) (v V9 V10 : Value), i + gk = n + k ∧ s8 = .int .i64 i ∧ V9 = s9 ∧ V10 = s10 ∧ Hid (Fg w g wx g v (W i)))
  case atStart => exact ⟨0, _, _, _, by omega, rfl, rfl, rfl, HT1⟩
  case round =>
    obtain ⟨i, v, V9, V10, hin, rfl, rfl, rfl, HT⟩ := hrel
    cases gk with
    | zero =>
      have hi : i = n + k := by omega
      have hii : ¬ (i : Int) < (n : Int) + (k : Int) := by omega
      have HLN2 := Lib.hid (HLN.out wr v (hi ▸ HT.out))
      have hkk : ((k : Int) == (k : Int)) = true := by simp
      clear hi hin
      go_wp2_with fail
      refine HLN2.out.mono ?_
      rintro e w' ⟨rfl, rfl⟩
      go_wp2_with fail
      refine (HAW.out wr).mono ?_
      rintro e w' ⟨rfl, hb⟩
      have HB : Hid (Below g w w') := HT.out.bel.trans (hb.mono HT.out.gw)
      clear hb
      go_wp2
      go_ret
      exact ⟨rfl, HB.out⟩
    | succ gk =>
      have hii : (i : Int) < (n : Int) + (k : Int) := by omega
      have hcv : IntKind.u64.wrap (i : Int) = (i : Int) := by rw [IntKind.wrap_u64]; omega
      have HP := Lib.hid (HPU.out i wr v (by omega) HT.out)
      by_cases hik : i < k
      · have hiki : (i : Int) < (k : Int) := by omega
        rw [HIN.out i hik] at HP
        go_wp2_with fail
        refine HP.out.mono ?_
        rintro e w2 ⟨rfl, hb2⟩
        obtain ⟨v2, ht2⟩ := HT.out.moved hb2
        have HT2 := Lib.hid ht2
        clear hb2 ht2
        go_wp2
        go_roundg gk
        case measure => omega
        case rel => exact ⟨i + 1, v2, _, _, by omega, by go_num, rfl, rfl, HT2⟩
      · have hiki : ¬ (i : Int) < (k : Int) := by omega
        rw [HOUT.out i (by omega)] at HP
        obtain ⟨j, hj⟩ : ∃ j, i - k = j := ⟨_, rfl⟩
        have hji : wrap64 ((i : Int) - (k : Int)) = (j : Int) := by unfold wrap64; omega
        have hju : IntKind.u64.wrap ((i : Int) - (k : Int)) = (j : Int) := by rw [IntKind.wrap_u64]; omega
        have hsub : (i : Int) - (k : Int) = (j : Int) := by omega
        have hcj : IntKind.u64.wrap (j : Int) = (j : Int) := by rw [IntKind.wrap_u64]; omega
        have HPI := Lib.hid (fun w1 v => HPO.out i w1 v (by omega))
        rw [hj] at HPI HP
        have hjj : ((j : Int) == (j : Int)) = true := by simp
        have hjn : ((j : Int) != (j : Int)) = false := by simp
        go_wp2_with fail
        refine HP.out.mono ?_
        rintro e w2 ⟨rfl, hb2⟩
        obtain ⟨v2, ht2⟩ := HT.out.moved hb2
        have HT2 := Lib.hid ht2
        clear hb2 ht2
        go_wp2_with fail
        refine (HPI.out w2 v2 HT2.out).mono ?_
        rintro e w3 ⟨rfl, hb3⟩
        obtain ⟨v3, ht3⟩ := HT2.out.moved hb3
        have HT3 := Lib.hid ht3
        obtain ⟨g3, hg3⟩ : ∃ g3, w3.heap.size = g3 := ⟨_, rfl⟩
        have HG3 := Lib.hid hg3
        clear hb3 ht3 hg3
        go_wp2_with (first
          | ((with_reducible show wpList _ _ _ (⟨some 9, .alloc _, _, _, _, _⟩ :: _) _ _); refine wpList_alloc_var (o := ⟨some 9, _, _, _, _, _⟩) rfl 29 rfl g3 HG3.out _ HZ.out ?_; intro x1 H1 X1)
          | ((with_reducible show wpList _ _ _ (⟨none, .store _ (.tmp 9) _, _, _, _, _⟩ :: _) _ _); refine wpList_store_whole (o := ⟨none, .store 29 (.tmp 9) (.tmp 36), _, _, _, _⟩) rfl _ _ _ rfl rfl g3 #[.string ⟨#[]⟩, .int .u64 0, .int .u64 (j : Int), .int .i64 0, .int .i64 0] rfl rfl 29 _ H1.out size_link rfl (onesL _ _ _ _ _) ?_; intro x2 H2 X2; have HT4 := Lib.hid (HT3.out.below (HG3.out.symm ▸ X1.out.trans X2.out)); obtain ⟨c0, c1, c2, c3, c4⟩ := cellsL H2.out)
          | fail)
        go_roundg gk
        case measure => omega
        case rel => exact ⟨i + 1, v3, _, _, by omega, by go_num, rfl, rfl, HT4⟩

set_option maxRecDepth 100000 in
theorem lifted (os : Os) (started : os.Started) (H : Type) (enc : TypeId × Value → H) :
    ReturnsInHanded {} Try.checked os 4 .any (Rows.fifoRoundsSpec.pre6 enc Try.prog Try.f4 Rows.fifoRoundsRow.domain false) (Rows.fifoRoundsSpec.post enc Try.prog Try.f4 false true false false) := by
  refine returnsInHanded_of_change (C := Try.checked) own started (by kernel_rfl) Try.func4
    (ChangeSpec.witness6 (enc := enc) (C := Try.checked) false ⟨#[], #[.int .i64 0, .int .i64 0], []⟩ 8 (by kernel_rfl) (by kernel_rfl) (by kernel_rfl) (by kernel_rfl)) ?_
  intro W base args ds gs before hval0 hW hcnd _
  have hval : ∀ (j : Nat) t v, Try.f4.params[j]? = some t → args[j]? = some v → Value.okWide Try.prog W .any base t v := hval0
  have hW' := hW
  obtain ⟨p, q, hA0, hV, rfl, hfz, hnd⟩ := hW
  have hA : DataW.TrodAll enc Try.prog W 0 (fun _ => true) true Try.f4.params.toList args.toList ds p := hA0
  rw [Try.params4] at hA hval
  obtain ⟨v0, vs0, d0, ds0, p0, q0, hargs, rfl, rfl, h0, r0⟩ := trodAll_cons hA
  obtain ⟨v1, vs1, d1, ds1, p1, q1, rfl, rfl, rfl, h1, r1⟩ := trodAll_cons r0
  obtain ⟨rfl, rfl, rfl⟩ := trodAll_nil r1
  obtain rfl : args = #[v0, v1] := by cases args; simp_all
  obtain ⟨rfl, rfl⟩ := trodVars_none hV
  obtain ⟨a0, rfl, rfl, rfl, w0⟩ := open_int Try.underlying3 (hval 0 3 v0 rfl rfl) h0
  obtain ⟨a1, rfl, rfl, rfl, w1⟩ := open_int Try.underlying3 (hval 1 3 v1 rfl rfl) h1
  clear hA0 hval0
  refine (walk a0 a1 W w0 w1).mono fun e W' ⟨he, bel⟩ => ?_
  subst he
  exact ⟨_, rfl, _, _, _, [], _, [], hW', trodAll_mk1 (shut_bool Try.underlying4 _), (trodAll_cons_mk (shut_int Try.underlying3 w0) (trodAll_cons_mk (shut_int Try.underlying3 w1) trodAll_mk0)), rfl, bel.frame _, fun h => by cases h⟩

theorem over : Rows.fifoRoundsRow.holds Try.pinned (OpenSpec.ofChange Rows.fifoRoundsSpec) :=
  OpenClaim.holds_of_wide 4 Try.f4 rfl rfl rfl rfl rfl rfl rfl ⟨rfl, rfl, rfl, rfl, rfl⟩ rfl rfl rfl rfl rfl (by kernel_rfl) Try.func4 (by kernel_rfl)
    (of_decide_eq_true (by kernel_rfl)) (by unfold Func.isWrapper; first | (rw [if_pos (by decide +kernel)]; kernel_rfl) | (rw [if_neg (by decide +kernel)]; exact ⟨rfl, rfl⟩))
    (fun os started H enc _ => lifted os started H enc)

theorem proved : Rows.FifoRoundsSaid := over
#print axioms proved
end Go.Proofs.Ytejljkpnhdnncaa.fifoRounds
