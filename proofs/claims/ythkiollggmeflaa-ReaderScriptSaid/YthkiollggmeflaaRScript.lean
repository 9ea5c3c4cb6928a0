/-
Proved here: whoever enters and leaves, and however often the epoch goes on, each call answers as the chapter says, whatever threads, acts and epoch are handed in.
  Conditions: none.
-/
import Derived.Test.YthkiollggmeflaaRows
import Derived.Test.YthkiollggmeflaaTwo8
import Derived.Test.YthkiollggmeflaaNum
import Derived.IntWalk
import Derived.WalkSmall
import Derived.Deep.QuietTactic
import Derived.BigQuiet
import Derived.WalkKit
import Derived.ProofKit
import Derived.OpenShut
import Derived.ShutString
import Derived.ChangeOld
import Derived.Below
namespace Go.Proofs.Ythkiollggmeflaa.readerScript
open Go.ChangeShapes Go.WideShapes Go.ChangeAt Go.RowKit
open Go.ChangeMaps (open_string shut_string)
set_option linter.unusedVariables false

theorem own : ownKnob Try.prog.godebug = none := by kernel_rfl
theorem laidOut : laidOutB Try.prog = true := by kernel_rfl

set_option maxRecDepth 100000 in
set_option maxHeartbeats 1600000 in
theorem many (a0 : Int) (a1 : Option Addr) (len1 cap1 : Nat) (x : Nat) (w : World) (hl : 200 < len1) (hlen : len1 ≤ 2 ^ 63 - 1) :
    Calls Try.prog 3 #[.int .i64 a0, .slice a1 len1 cap1, .int .u64 x] w fun e w' => e = .returned (.bool true) ∧ Below w.heap.size w w' := by
  have h1 : (200 : Int) < (len1 : Int) := by omega
  have HAW := Lib.hid (awake_any w)
  clear hl
  go_enter Try.func3, Try.ntmps3
  go_wp2_with fail
  refine HAW.out.mono ?_
  rintro e w' ⟨rfl, hb⟩
  have HB := Lib.hid hb
  clear hb
  go_wp2
  go_ret
  exact ⟨rfl, HB.out⟩
set_option maxRecDepth 100000 in
set_option maxHeartbeats 1600000 in
theorem refused (a0 : Int) (a1 : Option Addr) (len1 cap1 : Nat) (x : Nat) (w : World) (hl : len1 ≤ 200) (hx : a0 < 1 ∨ 4 < a0) :
    Calls Try.prog 3 #[.int .i64 a0, .slice a1 len1 cap1, .int .u64 x] w fun e w' => e = .returned (.bool true) ∧ Below w.heap.size w w' := by
  have h1 : ¬ (200 : Int) < (len1 : Int) := by omega
  have HN := Lib.hid (rdnew_bad a0 hx w)
  have HR := Lib.hid (r8new_bad a0 hx w)
  have HAW := Lib.hid (awake_any w)
  clear hl hx
  go_enter Try.func3, Try.ntmps3
  go_wp2_with fail
  refine HN.out.mono ?_
  rintro e w' ⟨rfl, rfl⟩
  go_wp2_with fail
  refine HR.out.mono ?_
  rintro e w' ⟨rfl, rfl⟩
  go_wp2_with fail
  refine (num_any 2 _).mono ?_
  rintro e w' ⟨rfl, rfl⟩
  go_wp2_with fail
  refine HAW.out.mono ?_
  rintro e w' ⟨rfl, hb⟩
  have HB := Lib.hid hb
  clear hb
  go_wp2
  go_ret
  exact ⟨rfl, HB.out⟩
set_option maxRecDepth 100000 in
set_option maxHeartbeats 8000000 in
theorem scripted (n : Nat) (a1 : Option Addr) (len1 cap1 : Nat) (x : Nat) (z1 : List ActP) (w : World) (w1 : IsActs w a1 len1 z1) (hl : len1 ≤ 200) (hn1 : 1 ≤ n) (hn2 : n ≤ 4) :
    Calls Try.prog 3 #[.int .i64 n, .slice a1 len1 cap1, .int .u64 x] w fun e w' => e = .returned (.bool true) ∧ Below w.heap.size w w' := by
  have h1 : ¬ (200 : Int) < (len1 : Int) := by omega
  have HN := Lib.hid (rdnew_ok n hn1 hn2 w)
  unfold MadeRd at HN
  have HA := Lib.hid w1
  obtain ⟨g, hg⟩ : ∃ g, w.heap.size = g := ⟨_, rfl⟩
  rw [hg] at HN ⊢
  have HG := Lib.hid hg
  clear w1 hg
  go_enter Try.func3, Try.ntmps3
  go_wp2_with fail
  refine HN.out.mono ?_
  rintro e v1 ⟨p, q, rfl, hp, hq, hpl, hb⟩
  have HP := Lib.hid hp
  have HQ := Lib.hid hq
  have HPL := Lib.hid hpl
  have HB := Lib.hid hb
  clear hp hq hpl hb
  have HRR := Lib.hid (r8new_ok n hn1 hn2 v1)
  unfold MadeR8 at HRR
  go_wp2_with fail
  refine HRR.out.mono ?_
  rintro e v2 ⟨r, s, rfl, hr, hs, hrf, hb⟩
  have HT0 : Hid (Tw w g v2 p q r s (List.replicate n 0) 1 (List.replicate n 0) 1) := tw_new HG.out HP.out HQ.out HPL.out HB.out hr hs hrf hb
  clear hr hs hrf hb
  go_wp2_with fail
  refine (num_any 0 _).mono ?_
  rintro e w' ⟨rfl, rfl⟩
  clear HRR HPL HB HN
  go_wp2
  go_loopg [11] len1 (fun gk s11 wx => ∃ (i now : Nat) (L : List Nat), i + gk = len1 ∧ s11 = .int .i64 i ∧ now ≤ i + 1 ∧ Hid (Tw w g wx p q r s L now L now))
  case atStart => exact ⟨0, 1, _, by omega, rfl, by omega, HT0⟩
  case round =>
    obtain ⟨i, now, L, hin, rfl, hnow, HT⟩ := hrel
    clear HT0
    cases gk with
    | zero =>
      obtain rfl : i = len1 := by omega
      have hii : ¬ (i : Int) < (i : Int) := by omega
      have HAL := Lib.hid (alike8_any HT.out.rp HT.out.rr x)
      go_wp2_with fail
      refine HAL.out.mono ?_
      rintro e v3 ⟨rfl, k, rfl⟩
      have HAW := Lib.hid (awake_any (wr.drewN k))
      go_wp2_with fail
      refine HAW.out.mono ?_
      rintro e v4 ⟨rfl, hb⟩
      have HB4 := Lib.hid hb
      clear hb
      go_wp2
      go_ret
      exact ⟨rfl, (HT.out.drewN k).bel.trans (HB4.out.mono (HT.out.drewN k).gw)⟩
    | succ gk =>
      have hii : (i : Int) < (len1 : Int) := by omega
      have HAr : Hid (IsActs wr a1 len1 z1) := HA.out.below (HG.out ▸ HT.out.bel)
      obtain ⟨y, b, off, hx, rfl, hbs, c0, c1⟩ := HAr.out.at_ (i := i) (by omega)
      have HNW : Hid (now ≤ i + 1) := hnow
      clear hx hbs hnow
      rcases Classical.em (y.kd = 0) with k0 | k0
      · have m0 : (y.kd == 0) = true := by simpa using k0
        clear k0
        have hee : ((enterV L now y.t : Int) != (enterV L now y.t : Int)) = false := by simp
        have hef : (enterE L y.t != enterE L y.t) = false := by simp
        have H1 := Lib.hid (rdenter_any HT.out.rp y.t)
        go_wp2_with fail
        refine H1.out.mono ?_
        rintro e v3 ⟨rfl, hp3, ht3⟩
        have HT3 := Lib.hid (HT.out.p_step hp3 ht3)
        clear hp3 ht3
        have H2 := Lib.hid (r8enter_any HT3.out.rr y.t)
        go_wp2_with fail
        refine H2.out.mono ?_
        rintro e v4 ⟨rfl, hp4, ht4⟩
        have HT4 := Lib.hid (HT3.out.r_step hp4 ht4)
        clear hp4 ht4
        go_wp2_with fail
        refine (num_any _ _).mono ?_
        rintro e w' ⟨rfl, rfl⟩
        have HAL := Lib.hid (alike8_any HT4.out.rp HT4.out.rr x)
        go_wp2_with fail
        refine HAL.out.mono ?_
        rintro e v5 ⟨rfl, k, rfl⟩
        have HT5 := Lib.hid (HT4.out.drewN k)
        go_wp2
        go_roundg gk
        case measure => omega
        case rel => exact ⟨i + 1, now, _, by omega, by go_num, (by have := HNW.out; omega), HT5⟩
      · have m0 : (y.kd == 0) = false := by simpa using k0
        clear k0
        rcases Classical.em (y.kd = 1) with k1 | k1
        · have m1 : (y.kd == 1) = true := by simpa using k1
          clear k1
          have hef : (leaveE L y.t != leaveE L y.t) = false := by simp
          have H1 := Lib.hid (rdleave_any HT.out.rp y.t)
          go_wp2_with fail
          refine H1.out.mono ?_
          rintro e v3 ⟨rfl, hp3, ht3⟩
          have HT3 := Lib.hid (HT.out.p_step hp3 ht3)
          clear hp3 ht3
          go_wp2_with fail
          refine (num_any _ _).mono ?_
          rintro e w' ⟨rfl, rfl⟩
          have H2 := Lib.hid (r8leave_any HT3.out.rr y.t)
          go_wp2_with fail
          refine H2.out.mono ?_
          rintro e v4 ⟨rfl, hp4, ht4⟩
          have HT4 := Lib.hid (HT3.out.r_step hp4 ht4)
          clear hp4 ht4
          have HAL := Lib.hid (alike8_any HT4.out.rp HT4.out.rr x)
          go_wp2_with fail
          refine HAL.out.mono ?_
          rintro e v5 ⟨rfl, k, rfl⟩
          have HT5 := Lib.hid (HT4.out.drewN k)
          go_wp2
          go_roundg gk
          case measure => omega
          case rel => exact ⟨i + 1, now, _, by omega, by go_num, (by have := HNW.out; omega), HT5⟩
        · have m1 : (y.kd == 1) = false := by simpa using k1
          clear k1
          rcases Classical.em (y.kd = 2) with k2 | k2
          · have m2 : (y.kd == 2) = true := by simpa using k2
            clear k2
            have hef : (((now + 1 : Nat) : Int) != ((now + 1 : Nat) : Int)) = false := by simp
            have H1 := Lib.hid (rdadv_any HT.out.rp (by have := HNW.out; omega))
            have HS : Hid (∀ v, RdR v r s L now → Calls Try.prog 16 #[.pointer (some ⟨r, 0, none⟩)] v fun e w' => e = .returned (.int .u64 (now + 1 : Nat)) ∧ RdR w' r s L (now + 1) ∧ Turns r s v w') := fun v h => r8adv_any h (by have := HNW.out; omega)
            have HNW1 : Hid (now + 1 ≤ i + 1 + 1) := by have := HNW.out; show now + 1 ≤ i + 1 + 1; omega
            generalize now + 1 = nx at *
            go_wp2_with fail
            refine H1.out.mono ?_
            rintro e v3 ⟨rfl, hp3, ht3⟩
            have HT3 := Lib.hid (HT.out.p_step hp3 ht3)
            clear hp3 ht3
            have H2 := Lib.hid (HS.out _ HT3.out.rr)
            go_wp2_with fail
            refine H2.out.mono ?_
            rintro e v4 ⟨rfl, hp4, ht4⟩
            have HT4 := Lib.hid (HT3.out.r_step hp4 ht4)
            clear hp4 ht4
            have HAL := Lib.hid (alike8_any HT4.out.rp HT4.out.rr x)
            go_wp2_with fail
            refine HAL.out.mono ?_
            rintro e v5 ⟨rfl, k, rfl⟩
            have HT5 := Lib.hid (HT4.out.drewN k)
            go_wp2
            go_roundg gk
            case measure => omega
            case rel => exact ⟨i + 1, nx, _, by omega, by go_num, HNW1.out, HT5⟩
          · have m2 : (y.kd == 2) = false := by simpa using k2
            clear k2
            have HAL := Lib.hid (alike8_any HT.out.rp HT.out.rr x)
            go_wp2_with fail
            refine HAL.out.mono ?_
            rintro e v5 ⟨rfl, k, rfl⟩
            have HT5 := Lib.hid (HT.out.drewN k)
            go_wp2
            go_roundg gk
            case measure => omega
            case rel => exact ⟨i + 1, now, _, by omega, by go_num, (by have := HNW.out; omega), HT5⟩
theorem walk (a0 : Int) (a1 : Option Addr) (len1 cap1 : Nat) (z1 : List ActP) (a2 : Int) (w : World) (w0 : (Lit.int .i64 a0).wf = true) (w1 : IsActs w a1 len1 z1) (w2 : (Lit.int .u64 a2).wf = true) :
    Calls Try.prog 3 #[.int .i64 a0, .slice a1 len1 cap1, .int .u64 a2] w fun e w' => e = .returned (.bool true) ∧ Below w.heap.size w w' := by
  obtain ⟨x, rfl, _⟩ := u64_nat a2 w2
  rcases Nat.lt_or_ge 200 len1 with h0 | h0
  · exact many a0 a1 len1 cap1 x w h0 (by have := w1.2.1; unfold maxLen at this; omega)
  · rcases Classical.em (a0 < 1 ∨ 4 < a0) with hx | hx
    · exact refused a0 a1 len1 cap1 x w h0 hx
    · obtain ⟨n, rfl⟩ := Int.eq_ofNat_of_zero_le (show 0 ≤ a0 by omega)
      exact scripted n a1 len1 cap1 x z1 w w1 h0 (by omega) (by omega)

set_option maxRecDepth 100000 in
theorem lifted (os : Os) (started : os.Started) (H : Type) (enc : TypeId × Value → H) :
    ReturnsInHanded {} Try.checked os 3 .any (Rows.readerScriptSpec.pre6 enc Try.prog Try.f3 Rows.readerScriptRow.domain false) (Rows.readerScriptSpec.post enc Try.prog Try.f3 false true false false) := by
  refine returnsInHanded_of_change (C := Try.checked) own started (by kernel_rfl) Try.func3
    (ChangeSpec.witness6 (enc := enc) (C := Try.checked) false ⟨#[], #[.int .i64 0, .slice none 0 0, .int .u64 0], []⟩ 8 (by kernel_rfl) (by kernel_rfl) (by kernel_rfl) (by kernel_rfl)) ?_
  intro W base args ds gs before hval0 hW hcnd _
  have hval : ∀ (j : Nat) t v, Try.f3.params[j]? = some t → args[j]? = some v → Value.okWide Try.prog W .any base t v := hval0
  have hW' := hW
  obtain ⟨p, q, hA0, hV, rfl, hfz, hnd⟩ := hW
  have hA : DataW.TrodAll enc Try.prog W 0 (fun _ => true) true Try.f3.params.toList args.toList ds p := hA0
  rw [Try.params3] at hA hval
  obtain ⟨v0, vs0, d0, ds0, p0, q0, hargs, rfl, rfl, h0, r0⟩ := trodAll_cons hA
  obtain ⟨v1, vs1, d1, ds1, p1, q1, rfl, rfl, rfl, h1, r1⟩ := trodAll_cons r0
  obtain ⟨v2, vs2, d2, ds2, p2, q2, rfl, rfl, rfl, h2, r2⟩ := trodAll_cons r1
  obtain ⟨rfl, rfl, rfl⟩ := trodAll_nil r2
  obtain rfl : args = #[v0, v1, v2] := by cases args; simp_all
  obtain ⟨rfl, rfl⟩ := trodVars_none hV
  obtain ⟨a0, rfl, rfl, rfl, w0⟩ := open_int Try.underlying3 (hval 0 3 v0 rfl rfl) h0
  obtain ⟨a1, len1, cap1, rfl⟩ := okWide_slice Try.underlying22 (hval 1 22 v1 rfl rfl)
  have k1 := h1
  have lt1 : ∀ x ∈ p1, x.block < W.heap.size := by obtain ⟨m, hm⟩ := k1; exact DataW.trod_lt m _ _ _ hm
  obtain ⟨z1, w1⟩ : ∃ zs, IsActs W a1 len1 zs := by
    obtain ⟨fuel, hf⟩ := h1
    exact isActs_of hf
  obtain ⟨a2, rfl, rfl, rfl, w2⟩ := open_int Try.underlying23 (hval 2 23 v2 rfl rfl) h2
  clear hA0 hval0
  refine (walk a0 a1 len1 cap1 z1 a2 W w0 w1 w2).mono fun e W' ⟨he, bel⟩ => ?_
  subst he
  exact ⟨_, rfl, _, _, _, [], _, [], hW', trodAll_mk1 (shut_bool Try.underlying4 _), (trodAll_cons_mk (shut_int Try.underlying3 w0) (trodAll_cons_mk (Below.trod laidOut (by kernel_rfl) (of_decide_eq_true (by kernel_rfl)) k1 bel lt1) (trodAll_cons_mk (shut_int Try.underlying23 w2) trodAll_mk0))), rfl, bel.frame _, fun h => by cases h⟩

theorem over : Rows.readerScriptRow.holds Try.pinned (OpenSpec.ofChange Rows.readerScriptSpec) :=
  OpenClaim.holds_of_wide 3 Try.f3 rfl rfl rfl rfl rfl rfl rfl ⟨rfl, rfl, rfl, rfl, rfl⟩ rfl rfl rfl rfl rfl (by kernel_rfl) Try.func3 (by kernel_rfl)
    (of_decide_eq_true (by kernel_rfl)) (by unfold Func.isWrapper; first | (rw [if_pos (by decide +kernel)]; kernel_rfl) | (rw [if_neg (by decide +kernel)]; exact ⟨rfl, rfl⟩))
    (fun os started H enc _ => lifted os started H enc)

theorem proved : Rows.ReaderScriptSaid := over
#print axioms proved
end Go.Proofs.Ythkiollggmeflaa.readerScript
