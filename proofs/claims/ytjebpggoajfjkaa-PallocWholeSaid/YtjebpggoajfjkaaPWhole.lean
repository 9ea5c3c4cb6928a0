/-
  Proved here: PallocWhole, the full form.
  Conditions: none.
-/
import Derived.Test.YtjebpggoajfjkaaRows
import Derived.Test.YtjebpggoajfjkaaPoolQ
import Derived.IntWalk
import Derived.WalkSmall
import Derived.Deep.QuietTactic
import Derived.BigQuiet
import Derived.WalkKit
import Derived.ProofKit
import Derived.OpenShut
import Derived.ShutString
import Derived.ChangeOld
import Derived.Below
namespace Go.Proofs.Ytjebpggoajfjkaa.pallocWhole
open Go.ChangeShapes Go.WideShapes Go.ChangeAt Go.RowKit
open Go.ChangeMaps (open_string shut_string)
set_option linter.unusedVariables false

theorem own : ownKnob Try.prog.godebug = none := by kernel_rfl
theorem laidOut : laidOutB Try.prog = true := by kernel_rfl

set_option maxRecDepth 100000 in
set_option maxHeartbeats 4000000 in
theorem walk (a0 : Int) (a1 : Option Addr) (len1 cap1 : Nat) (z1 : List ActP) (w : World) (w0 : (Lit.int .i64 a0).wf = true) (w1 : IsActs w a1 len1 z1) :
    Calls Try.prog 8 #[.int .i64 a0, .slice a1 len1 cap1] w fun e w' => e = .returned (.bool true) ∧ Below w.heap.size w w' := by
  have hlen := w1.2.1
  unfold maxLen at hlen
  rcases Nat.lt_or_ge 60 len1 with hl | hl
  · have h1 : (60 : Int) < (len1 : Int) := by omega
    have HAW := Lib.hid (awake_any w)
    clear w0 w1 hl
    go_enter Try.func8, Try.ntmps8
    go_wp2_with fail
    refine HAW.out.mono ?_
    rintro e w' ⟨rfl, hb⟩
    have HB := Lib.hid hb
    clear hb
    go_wp2
    go_ret
    exact ⟨rfl, HB.out⟩
  · have h1 : ¬ (60 : Int) < (len1 : Int) := by omega
    have HPD := Lib.hid (played_any w a0 a1 len1 cap1 z1 w1)
    unfold PlayedTo at HPD
    generalize playedL (1 + low a0 32) z1 = L at *
    generalize 1 + low a0 32 = n at *
    have HGG : Hid (w.heap.size = w.heap.size) := rfl
    obtain ⟨g, hg⟩ : ∃ g, w.heap.size = g := ⟨_, rfl⟩
    rw [hg] at HPD ⊢
    have HG := Lib.hid hg
    clear w0 w1 hl hg HGG
    go_enter Try.func8, Try.ntmps8
    go_wp2_with fail
    refine HPD.out.mono ?_
    rintro e v1 ⟨p, q, rfl, hp, hq, hpl, hb⟩
    have HP := Lib.hid hp
    have HQ := Lib.hid hq
    have hn1 := hpl.one
    have hn2 := hpl.most
    have HP1 := Lib.hid hpl
    have HPO := Lib.hid hpl.pool
    have HLL : Hid (L.length ≤ 256) := by have h1 := pool_len hpl.pool; have h2 := hpl.most; show L.length ≤ 256; omega
    have HB := Lib.hid hb
    have HR1 : Hid (Turns p q v1 v1) := Turns.refl _ _ _
    clear hp hq hpl hb
    go_wp2_with fail
    refine (taken_he HP1.out).mono ?_
    rintro e v2 ⟨AT, capT, rfl, hh, hpl, ht⟩
    have HHT2 := Lib.hid hh
    have HP2 := Lib.hid hpl
    have HR2 : Hid (Turns p q v1 v2) := HR1.out.trans ht
    clear hpl ht hh
    obtain ⟨m, hm⟩ : ∃ m, L.length = m := ⟨_, rfl⟩
    rw [hm]
    have HM := Lib.hid hm
    have hm2 : m ≤ 256 := by have := HLL.out; omega
    clear hm
    go_wp2
    go_loopg [7] m (fun gk s7 wx => ∃ i : Nat, i + gk = m ∧ s7 = .int .i64 i ∧ Hid (PlP wx p q n (L.drop i)) ∧ Hid (HeT wx p q AT L) ∧ Hid (Turns p q v1 wx))
    case atStart => exact ⟨0, by omega, rfl, HP2, HHT2, HR2⟩
    case round =>
      obtain ⟨i, hin, rfl, HPr, HHr, HRr⟩ := hrel
      cases gk with
      | zero =>
        obtain rfl : i = m := by omega
        have hii : ¬ (i : Int) < (i : Int) := by omega
        have HP3 : Hid (PlP wr p q n []) := by have := HPr.out; rw [List.drop_of_length_le (by have := HM.out; omega)] at this; exact this
        have HR3 := HRr
        clear HPr HRr
        go_wp2_with fail
        refine (slabs_he HP3.out).mono ?_
        rintro e v4 ⟨AS, capS, rfl, hh, hpl, ht⟩
        have HHS4 := Lib.hid hh
        have HP4 := Lib.hid hpl
        have HR4 : Hid (Turns p q v1 v4) := HR3.out.trans ht
        clear hpl ht hh
        clear HP3 HR3
        go_wp2
        go_loopg [9] n (fun gk s9 wx => ∃ k : Nat, k + gk = n ∧ s9 = .int .i64 k ∧ v4 = wx)
        case atStart => exact ⟨0, by omega, rfl, rfl⟩
        case round =>
          obtain ⟨k, hkn, rfl, rfl⟩ := hrel
          cases gk with
          | zero =>
            obtain rfl : k = n := by omega
            have hkk : ¬ (k : Int) < (k : Int) := by omega
            go_wp2_with fail
            refine (take_empty HP4.out).mono ?_
            rintro e v5 ⟨rfl, hpl, ht⟩
            have HP5 := Lib.hid hpl
            have HR5 : Hid (Turns p q v1 v5) := HR4.out.trans ht
            have HHS5 := Lib.hid (HHS4.out.turns ht)
            clear hpl ht
            clear HP4 HR4 HHS4
            go_wp2_with fail
            refine (awake_he HG.out HP.out HQ.out HB.out HR5.out).mono ?_
            rintro e w' ⟨rfl, hb⟩
            have HBE := Lib.hid hb
            clear hb
            go_wp2
            go_ret
            exact ⟨rfl, HBE.out⟩
          | succ gk =>
            have hkk : (k : Int) < (n : Int) := by omega
            obtain ⟨b, off, rfl, hcell⟩ := HHS4.out.at_ (i := k) (by rw [slabsL_len]; omega)
            have h1 : (slabsL n [])[k]'(by rw [slabsL_len]; omega) = -1 := by rw [← getD_in, slabsL_at _ _ _ (by omega)]; exact clsAt_nil k
            rw [h1] at hcell
            clear h1
            go_wp2
            go_roundg gk
            case measure => omega
            case rel => exact ⟨k + 1, by omega, by go_num, rfl⟩
      | succ gk =>
        have hii : (i : Int) < (m : Int) := by omega
        have hil : i < L.length := by have := HM.out; omega
        obtain ⟨b, off, rfl, hc1, hc2⟩ := HHr.out.at_ hil
        have HGI := Lib.hid (give_drop hil HPr.out)
        generalize L[i].1 = x at *
        clear hc2
        go_wp2_with fail
        refine HGI.out.mono ?_
        rintro e w2 ⟨rfl, hpl, ht⟩
        have HPn := Lib.hid hpl
        have HHn := Lib.hid (HHr.out.turns ht)
        have HRn : Hid (Turns p q v1 w2) := HRr.out.trans ht
        clear hpl ht
        go_wp2
        go_roundg gk
        case measure => omega
        case rel => exact ⟨i + 1, by omega, by go_num, HPn, HHn, HRn⟩

set_option maxRecDepth 100000 in
theorem lifted (os : Os) (started : os.Started) (H : Type) (enc : TypeId × Value → H) :
    ReturnsInHanded {} Try.checked os 8 .any (Rows.pallocWholeSpec.pre6 enc Try.prog Try.f8 Rows.pallocWholeRow.domain false) (Rows.pallocWholeSpec.post enc Try.prog Try.f8 false true false false) := by
  refine returnsInHanded_of_change (C := Try.checked) own started (by kernel_rfl) Try.func8
    (ChangeSpec.witness6 (enc := enc) (C := Try.checked) false ⟨#[], #[.int .i64 0, .slice none 0 0], []⟩ 8 (by kernel_rfl) (by kernel_rfl) (by kernel_rfl) (by kernel_rfl)) ?_
  intro W base args ds gs before hval0 hW hcnd _
  have hval : ∀ (j : Nat) t v, Try.f8.params[j]? = some t → args[j]? = some v → Value.okWide Try.prog W .any base t v := hval0
  have hW' := hW
  obtain ⟨p, q, hA0, hV, rfl, hfz, hnd⟩ := hW
  have hA : DataW.TrodAll enc Try.prog W 0 (fun _ => true) true Try.f8.params.toList args.toList ds p := hA0
  rw [Try.params8] at hA hval
  obtain ⟨v0, vs0, d0, ds0, p0, q0, hargs, rfl, rfl, h0, r0⟩ := trodAll_cons hA
  obtain ⟨v1, vs1, d1, ds1, p1, q1, rfl, rfl, rfl, h1, r1⟩ := trodAll_cons r0
  obtain ⟨rfl, rfl, rfl⟩ := trodAll_nil r1
  obtain rfl : args = #[v0, v1] := by cases args; simp_all
  obtain ⟨rfl, rfl⟩ := trodVars_none hV
  obtain ⟨a0, rfl, rfl, rfl, w0⟩ := open_int Try.underlying3 (hval 0 3 v0 rfl rfl) h0
  obtain ⟨a1, len1, cap1, rfl⟩ := okWide_slice Try.underlying22 (hval 1 22 v1 rfl rfl)
  have k1 := h1
  have lt1 : ∀ x ∈ p1, x.block < W.heap.size := by obtain ⟨m, hm⟩ := k1; exact DataW.trod_lt m _ _ _ hm
  obtain ⟨z1, w1⟩ : ∃ zs, IsActs W a1 len1 zs := by
    obtain ⟨fuel, hf⟩ := h1
    exact isActs_of hf
  clear hA0 hval0
  refine (walk a0 a1 len1 cap1 z1 W w0 w1).mono fun e W' ⟨he, bel⟩ => ?_
  subst he
  exact ⟨_, rfl, _, _, _, [], _, [], hW', trodAll_mk1 (shut_bool Try.underlying4 _), (trodAll_cons_mk (shut_int Try.underlying3 w0) (trodAll_cons_mk (Below.trod laidOut (by kernel_rfl) (of_decide_eq_true (by kernel_rfl)) k1 bel lt1) trodAll_mk0)), rfl, bel.frame _, fun h => by cases h⟩

theorem over : Rows.pallocWholeRow.holds Try.pinned (OpenSpec.ofChange Rows.pallocWholeSpec) :=
  OpenClaim.holds_of_wide 8 Try.f8 rfl rfl rfl rfl rfl rfl rfl ⟨rfl, rfl, rfl, rfl, rfl⟩ rfl rfl rfl rfl rfl (by kernel_rfl) Try.func8 (by kernel_rfl)
    (of_decide_eq_true (by kernel_rfl)) (by unfold Func.isWrapper; first | (rw [if_pos (by decide +kernel)]; kernel_rfl) | (rw [if_neg (by decide +kernel)]; exact ⟨rfl, rfl⟩))
    (fun os started H enc _ => lifted os started H enc)

theorem proved : Rows.PallocWholeSaid := over
#print axioms proved
end Go.Proofs.Ytjebpggoajfjkaa.pallocWhole
