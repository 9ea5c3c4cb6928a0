/-
Proved here: DurableLag, for every list of acts: the durable epoch is one behind, or two while an epoch is being closed; both never fall.
  Conditions: none.
-/
import Derived.Test.YtkcjamjjaallhaaRows
import Derived.Test.YtkcjamjjaallhaaDurH
import Derived.Test.YtkcjamjjaallhaaActs9
import Derived.IntWalk
import Derived.WalkSmall
import Derived.Deep.QuietTactic
import Derived.BigQuiet
import Derived.WalkKit
import Derived.ProofKit
import Derived.OpenShut
import Derived.ShutString
import Derived.ChangeOld
import Derived.Below
namespace Go.Proofs.Ytkcjamjjaallhaa.durableLag
open Go.ChangeShapes Go.WideShapes Go.ChangeAt Go.RowKit
open Go.ChangeMaps (open_string shut_string)
set_option linter.unusedVariables false

theorem own : ownKnob Try.prog.godebug = none := by kernel_rfl
theorem laidOut : laidOutB Try.prog = true := by kernel_rfl

set_option maxRecDepth 100000 in
set_option maxHeartbeats 8000000 in
theorem walk (a0 : Option Addr) (len0 cap0 : Nat) (z0 : List ActP) (w : World) (w0 : IsActs w a0 len0 z0) :
    Calls Try.prog 5 #[.slice a0 len0 cap0] w fun e w' => e = .returned (.bool true) ∧ Below w.heap.size w w' := by
  have hlen := w0.2.1
  unfold maxLen at hlen
  rcases Nat.lt_or_ge 200 len0 with hl | hl
  · have h1 : (200 : Int) < (len0 : Int) := by omega
    have HAW := Lib.hid (awake_any w)
    clear w0 hl
    go_enter Try.func5, Try.ntmps5
    go_wp2_with fail
    refine HAW.out.mono ?_
    rintro e w' ⟨rfl, hb⟩
    have HB := Lib.hid hb
    clear hb
    go_wp2
    go_ret
    exact ⟨rfl, HB.out⟩
  · have h1 : ¬ (200 : Int) < (len0 : Int) := by omega
    have HN : Hid (Calls Try.prog 9 #[.int .i64 2, .int .u64 0] w (MadeC w 2 0)) := cknew_ok 2 0 (by omega) (by omega) (by omega) w
    have HND := Lib.hid (fun w' => (new_ok 8 (by omega) (by omega) w' : Calls Try.prog 12 #[.int .i64 8] w' (Made w' 8)))
    have HA := Lib.hid w0
    obtain ⟨g, hg⟩ : ∃ g, w.heap.size = g := ⟨_, rfl⟩
    unfold MadeC at HN
    rw [hg] at HN ⊢
    have HG := Lib.hid hg
    have HL := Lib.hid hl
    clear w0 hg hl
    go_enter Try.func5, Try.ntmps5
    go_wp2_with fail
    refine HN.out.mono ?_
    rintro e v1 ⟨p, o, rfl, hp, ho, hcm, hb⟩
    have HC1 := Lib.hid hcm
    have HP := Lib.hid hp
    have HO := Lib.hid ho
    have HB := Lib.hid hb
    clear hcm hp ho hb HN
    go_wp2_with fail
    refine (HND.out v1).mono ?_
    rintro e v2 ⟨dp, dq, rfl, hdp, hdq, hd, hb⟩
    have HW := Lib.hid (lw_new HG.out HP.out HO.out HC1.out HB.out hdp hdq hd hb)
    clear HND HB HP HO HC1 hdp hdq hd hb
    go_wp2_with fail
    refine (cknow_any HW.out.cd.ck).mono ?_
    rintro e w' ⟨rfl, rfl⟩
    go_wp2_with fail
    refine (ckdur_any HW.out.cd.ck).mono ?_
    rintro e w' ⟨rfl, rfl⟩
    go_wp2
    go_loopg [7, 8, 9, 10, 11, 12, 13] len0 (fun gk s7 s8 s9 s10 s11 s12 s13 wx => ∃ (i : Nat) (c : Ck) (s : St), i + gk = len0 ∧ s9 = .int .i64 i ∧ s7 = .int .u64 (c.now : Nat) ∧ s8 = .int .u64 (c.dur : Nat) ∧ Hid (c.dur ≤ i) ∧ Hid (Lw [p, o, dp, dq] g w wx p o dp dq c s))
    case atStart => exact ⟨0, _, _, by omega, rfl, rfl, rfl, Nat.le_refl 0, HW⟩
    case round =>
      obtain ⟨i, c, s, hig, rfl, rfl, rfl, HDU, HWr⟩ := hrel
      clear HW
      cases gk with
      | zero =>
        obtain rfl : i = len0 := by omega
        have hii : ¬ (i : Int) < (i : Int) := by omega
        have HAW := Lib.hid (awake_any wr)
        go_wp2_with fail
        refine HAW.out.mono ?_
        rintro e w' ⟨rfl, hb⟩
        have HB := Lib.hid hb
        clear hb
        go_wp2
        go_ret
        exact ⟨rfl, HWr.out.bel.trans (HB.out.mono HWr.out.gw)⟩
      | succ gk =>
        have hii : (i : Int) < (len0 : Int) := by omega
        have HAr : Hid (IsActs wr a0 len0 z0) := HA.out.below (HG.out ▸ HWr.out.bel)
        obtain ⟨y, b, off, hx, rfl, hbs, c0, c1, c2, _⟩ := HAr.out.at_ (i := i) (by omega)
        have HI : Hid (i < 200) := by have := HL.out; show i < 200; omega
        clear hx hbs
        rcases Classical.em (y.kd = 0) with h0 | h0
        · have k0 : (y.kd == 0) = true := by simpa using h0
          clear h0
          have HNT := Lib.hid (HWr.out.drew.note y.t y.line)
          have HM : Hid (c.now ≤ (c.note y.t y.line).now) := Nat.le_of_eq (Ck.lag_note c y.t y.line).2.symm
          have HK : Hid (c.dur ≤ (c.note y.t y.line).dur) := Nat.le_of_eq (Ck.lag_note c y.t y.line).1.symm
          have HDU2 : Hid ((c.note y.t y.line).dur ≤ i + 1) := by have := HDU.out; have := (Ck.lag_note c y.t y.line).1; show _ ≤ _; omega
          generalize c.note y.t y.line = c2' at *
          go_wp2
          go_region_with ((go_at_call 15; refine HNT.out.mono ?_; rintro e w3 ⟨rfl, hw3⟩))
          all_goals
            have HT := Lib.hid hw3
            clear hw3 HNT
            obtain ⟨M, hM⟩ : ∃ M : Int, ((c.now : Nat) : Int) = M := ⟨_, rfl⟩
            obtain ⟨L, hL⟩ : ∃ L : Int, ((c.dur : Nat) : Int) = L := ⟨_, rfl⟩
            obtain ⟨N, hN⟩ : ∃ N : Int, ((c2'.now : Nat) : Int) = N := ⟨_, rfl⟩
            obtain ⟨K, hK⟩ : ∃ K : Int, ((c2'.dur : Nat) : Int) = K := ⟨_, rfl⟩
            have hNM : ¬ N < M := by have := HM.out; omega
            have hKL : ¬ K < L := by have := HK.out; omega
            have HX1 := Lib.hid (cknow_any HT.out.cd.ck)
            have HX2 := Lib.hid (ckdur_any HT.out.cd.ck)
            have HN := Lib.hid hN
            have HKK := Lib.hid hK
            rw [hN] at HX1
            rw [hK] at HX2
            rw [hM, hL]
            rcases Nat.eq_zero_or_pos c2'.ph with hp0 | hp0
            · have hw1 := u64_up c2'.dur (by have := HDU2.out; have := HI.out; omega)
              have hnn : c2'.now = c2'.dur + 1 := by unfold Ck.now; rw [if_pos hp0]
              rw [← hnn, hN, hK] at hw1
              have HX3 := Lib.hid (closing_idle HT.out.cd.ck hp0)
              have hne : (N != N) = false := by simp
              clear hN hK hM hL hnn hp0
              go_wp2_with fail
              refine HX1.out.mono ?_
              rintro e w' ⟨rfl, rfl⟩
              go_wp2_with fail
              refine HX2.out.mono ?_
              rintro e w' ⟨rfl, rfl⟩
              go_wp2_with fail
              refine HX3.out.mono ?_
              rintro e w' ⟨rfl, rfl⟩
              go_wp2
              go_roundg gk
              case measure => omega
              case rel => exact ⟨i + 1, c2', _, by omega, by go_num, by rw [HN.out], by rw [HKK.out], HDU2, HT⟩
            · have hw1 := u64_up c2'.dur (by have := HDU2.out; have := HI.out; omega)
              have hw2 := u64_up2 c2'.dur (by have := HDU2.out; have := HI.out; omega)
              have hnn : c2'.now = c2'.dur + 2 := by unfold Ck.now; rw [if_neg (by omega)]
              rw [← hnn, hN, hK] at hw2
              rw [hK] at hw1
              have HX3 := Lib.hid (closing_busy HT.out.cd.ck (by omega))
              obtain ⟨E, hE⟩ : ∃ E : Int, ((c2'.dur + 1 : Nat) : Int) = E := ⟨_, rfl⟩
              rw [hE] at hw1 HX3
              have hne : (N != N) = false := by simp
              have hee : (E != E) = false := by simp
              clear hN hK hM hL hnn hp0 hE
              go_wp2_with fail
              refine HX1.out.mono ?_
              rintro e w' ⟨rfl, rfl⟩
              go_wp2_with fail
              refine HX2.out.mono ?_
              rintro e w' ⟨rfl, rfl⟩
              go_wp2_with fail
              refine HX3.out.mono ?_
              rintro e w' ⟨rfl, rfl⟩
              go_wp2
              go_roundg gk
              case measure => omega
              case rel => exact ⟨i + 1, c2', _, by omega, by go_num, by rw [HN.out], by rw [HKK.out], HDU2, HT⟩
        · have k0 : (y.kd == 0) = false := by simpa using h0
          clear h0
          rcases Classical.em (y.kd = 1) with h1 | h1
          · have k1 : (y.kd == 1) = true := by simpa using h1
            clear h1
            have HM : Hid (c.now ≤ c.begin_.now) := (Ck.lag_begin c).2
            have HK : Hid (c.dur ≤ c.begin_.dur) := Nat.le_of_eq (Ck.lag_begin c).1.symm
            have HDU2 : Hid (c.begin_.dur ≤ i + 1) := by have := HDU.out; have := (Ck.lag_begin c).1; show _ ≤ _; omega
            have HBG := Lib.hid HWr.out.begin_
            generalize c.begin_ = c2' at *
            go_wp2_with fail
            refine HBG.out.mono ?_
            rintro e w3 ⟨rfl, hw3⟩
            have HT := Lib.hid hw3
            clear hw3 HBG
            obtain ⟨M, hM⟩ : ∃ M : Int, ((c.now : Nat) : Int) = M := ⟨_, rfl⟩
            obtain ⟨L, hL⟩ : ∃ L : Int, ((c.dur : Nat) : Int) = L := ⟨_, rfl⟩
            obtain ⟨N, hN⟩ : ∃ N : Int, ((c2'.now : Nat) : Int) = N := ⟨_, rfl⟩
            obtain ⟨K, hK⟩ : ∃ K : Int, ((c2'.dur : Nat) : Int) = K := ⟨_, rfl⟩
            have hNM : ¬ N < M := by have := HM.out; omega
            have hKL : ¬ K < L := by have := HK.out; omega
            have HX1 := Lib.hid (cknow_any HT.out.cd.ck)
            have HX2 := Lib.hid (ckdur_any HT.out.cd.ck)
            have HN := Lib.hid hN
            have HKK := Lib.hid hK
            rw [hN] at HX1
            rw [hK] at HX2
            rw [hM, hL]
            rcases Nat.eq_zero_or_pos c2'.ph with hp0 | hp0
            · have hw1 := u64_up c2'.dur (by have := HDU2.out; have := HI.out; omega)
              have hnn : c2'.now = c2'.dur + 1 := by unfold Ck.now; rw [if_pos hp0]
              rw [← hnn, hN, hK] at hw1
              have HX3 := Lib.hid (closing_idle HT.out.cd.ck hp0)
              have hne : (N != N) = false := by simp
              clear hN hK hM hL hnn hp0
              go_wp2_with fail
              refine HX1.out.mono ?_
              rintro e w' ⟨rfl, rfl⟩
              go_wp2_with fail
              refine HX2.out.mono ?_
              rintro e w' ⟨rfl, rfl⟩
              go_wp2_with fail
              refine HX3.out.mono ?_
              rintro e w' ⟨rfl, rfl⟩
              go_wp2
              go_roundg gk
              case measure => omega
              case rel => exact ⟨i + 1, c2', _, by omega, by go_num, by rw [HN.out], by rw [HKK.out], HDU2, HT⟩
            · have hw1 := u64_up c2'.dur (by have := HDU2.out; have := HI.out; omega)
              have hw2 := u64_up2 c2'.dur (by have := HDU2.out; have := HI.out; omega)
              have hnn : c2'.now = c2'.dur + 2 := by unfold Ck.now; rw [if_neg (by omega)]
              rw [← hnn, hN, hK] at hw2
              rw [hK] at hw1
              have HX3 := Lib.hid (closing_busy HT.out.cd.ck (by omega))
              obtain ⟨E, hE⟩ : ∃ E : Int, ((c2'.dur + 1 : Nat) : Int) = E := ⟨_, rfl⟩
              rw [hE] at hw1 HX3
              have hne : (N != N) = false := by simp
              have hee : (E != E) = false := by simp
              clear hN hK hM hL hnn hp0 hE
              go_wp2_with fail
              refine HX1.out.mono ?_
              rintro e w' ⟨rfl, rfl⟩
              go_wp2_with fail
              refine HX2.out.mono ?_
              rintro e w' ⟨rfl, rfl⟩
              go_wp2_with fail
              refine HX3.out.mono ?_
              rintro e w' ⟨rfl, rfl⟩
              go_wp2
              go_roundg gk
              case measure => omega
              case rel => exact ⟨i + 1, c2', _, by omega, by go_num, by rw [HN.out], by rw [HKK.out], HDU2, HT⟩
          · have k1 : (y.kd == 1) = false := by simpa using h1
            clear h1
            rcases Classical.em (y.kd = 2) with h2 | h2
            · have k2 : (y.kd == 2) = true := by simpa using h2
              clear h2
              have hlg := HWr.out.cd.ck.ok.lag_step
              have HM : Hid (c.now ≤ c.step.now) := hlg.2.2
              have HK : Hid (c.dur ≤ c.step.dur) := hlg.1
              have HDU2 : Hid (c.step.dur ≤ i + 1) := by have := HDU.out; have := hlg.2.1; show _ ≤ _; omega
              have HSP := Lib.hid (HWr.out.step (by have := HDU.out; have := HI.out; omega))
              generalize c.step = c2' at *
              clear hlg
              go_wp2_with fail
              refine HSP.out.mono ?_
              rintro e w3 ⟨rfl, hw3⟩
              have HT := Lib.hid hw3
              clear hw3 HSP
              obtain ⟨M, hM⟩ : ∃ M : Int, ((c.now : Nat) : Int) = M := ⟨_, rfl⟩
              obtain ⟨L, hL⟩ : ∃ L : Int, ((c.dur : Nat) : Int) = L := ⟨_, rfl⟩
              obtain ⟨N, hN⟩ : ∃ N : Int, ((c2'.now : Nat) : Int) = N := ⟨_, rfl⟩
              obtain ⟨K, hK⟩ : ∃ K : Int, ((c2'.dur : Nat) : Int) = K := ⟨_, rfl⟩
              have hNM : ¬ N < M := by have := HM.out; omega
              have hKL : ¬ K < L := by have := HK.out; omega
              have HX1 := Lib.hid (cknow_any HT.out.cd.ck)
              have HX2 := Lib.hid (ckdur_any HT.out.cd.ck)
              have HN := Lib.hid hN
              have HKK := Lib.hid hK
              rw [hN] at HX1
              rw [hK] at HX2
              rw [hM, hL]
              rcases Nat.eq_zero_or_pos c2'.ph with hp0 | hp0
              · have hw1 := u64_up c2'.dur (by have := HDU2.out; have := HI.out; omega)
                have hnn : c2'.now = c2'.dur + 1 := by unfold Ck.now; rw [if_pos hp0]
                rw [← hnn, hN, hK] at hw1
                have HX3 := Lib.hid (closing_idle HT.out.cd.ck hp0)
                have hne : (N != N) = false := by simp
                clear hN hK hM hL hnn hp0
                go_wp2_with fail
                refine HX1.out.mono ?_
                rintro e w' ⟨rfl, rfl⟩
                go_wp2_with fail
                refine HX2.out.mono ?_
                rintro e w' ⟨rfl, rfl⟩
                go_wp2_with fail
                refine HX3.out.mono ?_
                rintro e w' ⟨rfl, rfl⟩
                go_wp2
                go_roundg gk
                case measure => omega
                case rel => exact ⟨i + 1, c2', _, by omega, by go_num, by rw [HN.out], by rw [HKK.out], HDU2, HT⟩
              · have hw1 := u64_up c2'.dur (by have := HDU2.out; have := HI.out; omega)
                have hw2 := u64_up2 c2'.dur (by have := HDU2.out; have := HI.out; omega)
                have hnn : c2'.now = c2'.dur + 2 := by unfold Ck.now; rw [if_neg (by omega)]
                rw [← hnn, hN, hK] at hw2
                rw [hK] at hw1
                have HX3 := Lib.hid (closing_busy HT.out.cd.ck (by omega))
                obtain ⟨E, hE⟩ : ∃ E : Int, ((c2'.dur + 1 : Nat) : Int) = E := ⟨_, rfl⟩
                rw [hE] at hw1 HX3
                have hne : (N != N) = false := by simp
                have hee : (E != E) = false := by simp
                clear hN hK hM hL hnn hp0 hE
                go_wp2_with fail
                refine HX1.out.mono ?_
                rintro e w' ⟨rfl, rfl⟩
                go_wp2_with fail
                refine HX2.out.mono ?_
                rintro e w' ⟨rfl, rfl⟩
                go_wp2_with fail
                refine HX3.out.mono ?_
                rintro e w' ⟨rfl, rfl⟩
                go_wp2
                go_roundg gk
                case measure => omega
                case rel => exact ⟨i + 1, c2', _, by omega, by go_num, by rw [HN.out], by rw [HKK.out], HDU2, HT⟩
            · have k2 : (y.kd == 2) = false := by simpa using h2
              clear h2
              have HM : Hid (c.now ≤ c.now) := Nat.le_refl _
              have HK : Hid (c.dur ≤ c.dur) := Nat.le_refl _
              have HDU2 : Hid (c.dur ≤ i + 1) := by have := HDU.out; show _ ≤ _; omega
              have HT := HWr
              obtain ⟨M, hM⟩ : ∃ M : Int, ((c.now : Nat) : Int) = M := ⟨_, rfl⟩
              obtain ⟨L, hL⟩ : ∃ L : Int, ((c.dur : Nat) : Int) = L := ⟨_, rfl⟩
              obtain ⟨N, hN⟩ : ∃ N : Int, ((c.now : Nat) : Int) = N := ⟨_, rfl⟩
              obtain ⟨K, hK⟩ : ∃ K : Int, ((c.dur : Nat) : Int) = K := ⟨_, rfl⟩
              have hNM : ¬ N < M := by have := HM.out; omega
              have hKL : ¬ K < L := by have := HK.out; omega
              have HX1 := Lib.hid (cknow_any HT.out.cd.ck)
              have HX2 := Lib.hid (ckdur_any HT.out.cd.ck)
              have HN := Lib.hid hN
              have HKK := Lib.hid hK
              rw [hN] at HX1
              rw [hK] at HX2
              rw [hM, hL]
              rcases Nat.eq_zero_or_pos c.ph with hp0 | hp0
              · have hw1 := u64_up c.dur (by have := HDU2.out; have := HI.out; omega)
                have hnn : c.now = c.dur + 1 := by unfold Ck.now; rw [if_pos hp0]
                rw [← hnn, hN, hK] at hw1
                have HX3 := Lib.hid (closing_idle HT.out.cd.ck hp0)
                have hne : (N != N) = false := by simp
                clear hN hK hM hL hnn hp0
                go_wp2_with fail
                refine HX1.out.mono ?_
                rintro e w' ⟨rfl, rfl⟩
                go_wp2_with fail
                refine HX2.out.mono ?_
                rintro e w' ⟨rfl, rfl⟩
                go_wp2_with fail
                refine HX3.out.mono ?_
                rintro e w' ⟨rfl, rfl⟩
                go_wp2
                go_roundg gk
                case measure => omega
                case rel => exact ⟨i + 1, c, _, by omega, by go_num, by rw [HN.out], by rw [HKK.out], HDU2, HT⟩
              · have hw1 := u64_up c.dur (by have := HDU2.out; have := HI.out; omega)
                have hw2 := u64_up2 c.dur (by have := HDU2.out; have := HI.out; omega)
                have hnn : c.now = c.dur + 2 := by unfold Ck.now; rw [if_neg (by omega)]
                rw [← hnn, hN, hK] at hw2
                rw [hK] at hw1
                have HX3 := Lib.hid (closing_busy HT.out.cd.ck (by omega))
                obtain ⟨E, hE⟩ : ∃ E : Int, ((c.dur + 1 : Nat) : Int) = E := ⟨_, rfl⟩
                rw [hE] at hw1 HX3
                have hne : (N != N) = false := by simp
                have hee : (E != E) = false := by simp
                clear hN hK hM hL hnn hp0 hE
                go_wp2_with fail
                refine HX1.out.mono ?_
                rintro e w' ⟨rfl, rfl⟩
                go_wp2_with fail
                refine HX2.out.mono ?_
                rintro e w' ⟨rfl, rfl⟩
                go_wp2_with fail
                refine HX3.out.mono ?_
                rintro e w' ⟨rfl, rfl⟩
                go_wp2
                go_roundg gk
                case measure => omega
                case rel => exact ⟨i + 1, c, _, by omega, by go_num, by rw [HN.out], by rw [HKK.out], HDU2, HT⟩

set_option maxRecDepth 100000 in
theorem lifted (os : Os) (started : os.Started) (H : Type) (enc : TypeId × Value → H) :
    ReturnsInHanded {} Try.checked os 5 .any (Rows.durableLagSpec.pre6 enc Try.prog Try.f5 Rows.durableLagRow.domain false) (Rows.durableLagSpec.post enc Try.prog Try.f5 false true false false) := by
  refine returnsInHanded_of_change (C := Try.checked) own started (by kernel_rfl) Try.func5
    (ChangeSpec.witness6 (enc := enc) (C := Try.checked) false ⟨#[], #[.slice none 0 0], []⟩ 8 (by kernel_rfl) (by kernel_rfl) (by kernel_rfl) (by kernel_rfl)) ?_
  intro W base args ds gs before hval0 hW hcnd _
  have hval : ∀ (j : Nat) t v, Try.f5.params[j]? = some t → args[j]? = some v → Value.okWide Try.prog W .any base t v := hval0
  have hW' := hW
  obtain ⟨p, q, hA0, hV, rfl, hfz, hnd⟩ := hW
  have hA : DataW.TrodAll enc Try.prog W 0 (fun _ => true) true Try.f5.params.toList args.toList ds p := hA0
  rw [Try.params5] at hA hval
  obtain ⟨v0, vs0, d0, ds0, p0, q0, hargs, rfl, rfl, h0, r0⟩ := trodAll_cons hA
  obtain ⟨rfl, rfl, rfl⟩ := trodAll_nil r0
  obtain rfl : args = #[v0] := by cases args; simp_all
  obtain ⟨rfl, rfl⟩ := trodVars_none hV
  obtain ⟨a0, len0, cap0, rfl⟩ := okWide_slice Try.underlying23 (hval 0 23 v0 rfl rfl)
  have k0 := h0
  have lt0 : ∀ x ∈ p0, x.block < W.heap.size := by obtain ⟨m, hm⟩ := k0; exact DataW.trod_lt m _ _ _ hm
  obtain ⟨z0, w0⟩ : ∃ zs, IsActs W a0 len0 zs := by
    obtain ⟨fuel, hf⟩ := h0
    exact isActs_of hf
  clear hA0 hval0
  refine (walk a0 len0 cap0 z0 W w0).mono fun e W' ⟨he, bel⟩ => ?_
  subst he
  exact ⟨_, rfl, _, _, _, [], _, [], hW', trodAll_mk1 (shut_bool Try.underlying4 _), (trodAll_cons_mk (Below.trod laidOut (by kernel_rfl) (of_decide_eq_true (by kernel_rfl)) k0 bel lt0) trodAll_mk0), rfl, bel.frame _, fun h => by cases h⟩

theorem over : Rows.durableLagRow.holds Try.pinned (OpenSpec.ofChange Rows.durableLagSpec) :=
  OpenClaim.holds_of_wide 5 Try.f5 rfl rfl rfl rfl rfl rfl rfl ⟨rfl, rfl, rfl, rfl, rfl⟩ rfl rfl rfl rfl rfl (by kernel_rfl) Try.func5 (by kernel_rfl)
    (of_decide_eq_true (by kernel_rfl)) (by unfold Func.isWrapper; first | (rw [if_pos (by decide +kernel)]; kernel_rfl) | (rw [if_neg (by decide +kernel)]; exact ⟨rfl, rfl⟩))
    (fun os started H enc _ => lifted os started H enc)

theorem proved : Rows.DurableLagSaid := over
#print axioms proved
end Go.Proofs.Ytkcjamjjaallhaa.durableLag
